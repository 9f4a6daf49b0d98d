import PyProof.Rows.All
import Wide.All
import OpenK.AllK
import Wide.FinOn
import Lean
import PyProof.EqAt
import PyProof.EqKinds
import PyProof.TupleCall
import KE.LcSums
import PyProof.StrLawsJoin
import KE.KSortedM
import KE.KSortTup
import KE.KSortKey
import PyProof.WalkInts
import PyProof.MinMaxWalk
import KE.KRevIter
import PyProof.ReprLen
import KE.KDictList
import PyProof.Rows.RegReprOcc
import PySem.Challenge.RW_ringmaze_k14_whole_read_back
abbrev aA:=@List.length_map
abbrev aB:=@PySem.Heap.get?_push_of_some
abbrev aF:=@List.getElem?_eq_some_iff
abbrev aH:=@Nat.le_refl
abbrev aJ:=@List.mem_cons
abbrev aK:=@List.getElem?_eq_getElem
abbrev aM:=@List.mem_cons_of_mem
abbrev aN:=@PySem.Heap.lt_size
abbrev aO:=@PySem.Heap.get?_push_size
abbrev aQ:=@List.size_toArray
abbrev aR:=@List.mem_of_getElem?
abbrev aS:=@List.getElem?_map
abbrev aT:=@List.mem_map
abbrev aU:=@List.mem_append
abbrev aV:=@List.mem_filter
abbrev aW:=@List.map_append
abbrev aX:=@Bool.and_eq_true
abbrev aZ:=@PySem.PassesOwn.never
abbrev a6:=@Nat.zero_le
abbrev a7:=@Bool.false_ne_true
abbrev af:=@List.length_append
abbrev am:=@PySem.F.plainAttrs_list
abbrev ao:=@List.map_cons
abbrev aq:=@Nat.lt_of_lt_of_le
abbrev ar:=@List.mem_cons_self
abbrev av:=@Nat.ne_of_lt
abbrev aw:=@List.flatMap_cons
abbrev ax:=@PySem.F.type_list_append
abbrev ay:=@PySem.F.slot_list_append
abbrev bB:=@PySem.Paired.length
abbrev bD:=@Option.some.inj
abbrev bF:=@List.take_add_one
abbrev bH:=@PySem.boot_len
abbrev bI:=@List.mem_append_right
abbrev bN:=@Bool.false_eq_true
abbrev bU:=@Nat.le_trans
abbrev bV:=@PySem.W.mg_none_of
abbrev bW:=@List.take_length
abbrev b9:=@PyProof.Rows.boot_isinstance
abbrev ba:=@List.nodup_cons
abbrev bc:=@List.map_map
abbrev bf:=@Nat.le_of_lt
abbrev bj:=@PyProof.Rows.callWith_type1
abbrev bn:=@List.not_mem_nil
abbrev bp:=@List.length_take
abbrev bu:=@List.mem_append_left
abbrev bw:=@Array.getElem?_eq_getElem
abbrev cA:=@List.map_congr_left
abbrev cC:=@Option.map_eq_some_iff
abbrev cE:=@Array.getD_eq_getD_getElem?
abbrev cF:=@List.cons.inj
abbrev cG:=@List.length_cons
abbrev cJ:=@List.nodup_append
abbrev cK:=@List.append_assoc
abbrev cM:=@Int.toNat_natCast
abbrev cP:=@List.length_singleton
abbrev cS:=@Array.length_toList
abbrev cT:=@List.drop_eq_getElem_cons
abbrev cU:=@List.countP_cons
abbrev cV:=@List.append_nil
abbrev cW:=@List.take_of_length_le
abbrev cX:=@List.mem_range
abbrev c9:=@List.pairwise_map
abbrev cj:=@List.getElem?_of_mem
abbrev cu:=@Bool.or_eq_true
abbrev cw:=@List.any_eq_true
abbrev cy:=@PySem.Heap.SameBut.update
abbrev dD:=@PyProof.Rows.boot_tuple
abbrev dG:=@List.mem_singleton
abbrev dH:=@List.getElem?_append_right
abbrev dI:=@List.filter_append
abbrev dJ:=@PySem.W.kia_one
abbrev dL:=@Bool.or_false
abbrev dN:=@PySem.F.slot_dict_valueiterator_next
abbrev dQ:=@PySem.mem_of_lookup
abbrev dR:=@List.length_range
abbrev dS:=@PyProof.Rows.boot_int
abbrev dU:=@List.perm_append_comm
abbrev dW:=@List.getElem?_eq_none
abbrev dX:=@PySem.Heap.get?_update_self
abbrev dY:=@Nat.lt_irrefl
abbrev dZ:=@PySem.F.slot_dict_keyiterator_next
abbrev d6:=@Bool.eq_iff_iff
abbrev dc:=@Nat.le_succ
abbrev de:=@List.perm_middle
abbrev di:=@PyProof.Rows.boot_list
abbrev dk:=@PySem.Heap.get?_update_other
abbrev dm:=@Array.perm_iff_toList_perm
abbrev dv:=@List.range_succ
abbrev dw:=@Int.le_refl
abbrev eG:=@Nat.le_add_right
abbrev eI:=@List.Nodup.length_le_of_subset
abbrev eK:=@PySem.W.mg_of
abbrev eM:=@PyProof.Rows.boot_sorted
abbrev eW:=@Bool.decide_and
abbrev e8:=@List.length_reverse
abbrev fD:=@PySem.F.plainAttrs_str
abbrev fF:=@List.map_nil
abbrev fH:=@Bool.true_and
abbrev fL:=@Prod.ext
abbrev fM:=@PySem.Obj.data_mapFields
abbrev fN:=@Nat.mod_two_eq_zero_or_one
abbrev fO:=@PySem.Heap.size_push
abbrev fP:=@PySem.F.slot_tuple_iterator_next
abbrev fQ:=@PyProof.Rows.boot_max
abbrev fR:=@Array.getElem?_toList
abbrev fS:=@List.pairwise_iff_getElem
abbrev fW:=@List.nil_append
abbrev fX:=@List.foldl_cons
abbrev fY:=@List.find?_cons
abbrev fb:=@Nat.ne_of_gt
abbrev fc:=@Nat.lt_succ_of_lt
abbrev fe:=@List.Pairwise.imp_of_mem
abbrev fh:=@List.replicate_succ
abbrev fi:=@List.getElem?_range
abbrev fj:=@PySem.Heap.get?_update_ne
abbrev fz:=@Option.getD_some
abbrev gB:=@List.getElem_inj
abbrev gC:=@List.cons_append
abbrev gD:=@PySem.F.plain_max_loop
abbrev gE:=@List.eq_nil_of_length_eq_zero
abbrev gG:=@Nat.lt_or_ge
abbrev gI:=@PySem.Calls.spliced_cons
abbrev gJ:=@Array.getElem?_eq_none
abbrev gO:=@List.any_cons
abbrev gP:=@PySem.F.type_str_join
abbrev gQ:=@PySem.F.slot_str_join
abbrev gR:=@List.length_filter_le
abbrev gT:=@List.reverse_cons
abbrev gf:=@Array.getElem?_eq_some_iff
abbrev gq:=@Nat.le_of_eq
abbrev gu:=@PySem.Heap.size_update
abbrev gz:=@List.getElem?_zip_eq_some
abbrev hU:=@List.getElem?_append_left
abbrev iE:=@List.getElem?_take_of_lt
abbrev iF:=@Bool.or_assoc
abbrev iO:=@Bool.true_eq_false
abbrev iV:=@PySem.F.plainAttrs_dict
abbrev iW:=@List.filter_cons_of_pos
abbrev iX:=@List.filter_cons_of_neg
abbrev ig:=@Ne.symm
abbrev ii:=@List.reverse_perm
abbrev io:=@List.flatten_cons
abbrev ip:=@List.filter_eq_nil_iff
abbrev iq:=@Int.zero_add
abbrev ir:=@PySem.Heap.get?_push_ne
abbrev iu:=@PySem.F.args_dict_valueiterator_next_1
abbrev iw:=@Classical.not_not
abbrev iy:=@PySem.Calls.spliced_nil
abbrev iz:=@PySem.Calls.callWith_builtin
abbrev jA:=@Bool.false_and
abbrev jC:=@PySem.F.entry_dict_valueiterator_next
abbrev jF:=@PySem.F.slot_dict_get
abbrev jG:=@PySem.Obj.isFreed_of_fields
abbrev jH:=@List.Perm.append_left
abbrev jV:=@List.mem_flatMap
abbrev jW:=@List.lookup_cons
abbrev jX:=@List.length_drop
abbrev jY:=@List.all_eq_true
abbrev jZ:=@PySem.F.args_dict_keyiterator_next_1
abbrev jf:=@List.pairwise_append
abbrev jg:=@List.map_eq_cons_iff
abbrev jh:=@PySem.F.entry_dict_keyiterator_next
abbrev jm:=@Option.map_some
abbrev jn:=@List.mem_range'
abbrev jo:=@List.length_nil
abbrev jp:=@List.forIn_cons
abbrev jq:=@List.filter_nil
abbrev jr:=@List.cons.injEq
abbrev jt:=@PySem.F.slot_zip_next
abbrev ju:=@PySem.F.args_tuple_iterator_next_1
abbrev jw:=@List.reverse_append
abbrev jx:=@List.getElem_of_mem
abbrev jy:=@List.filterMap_cons
abbrev kC:=@PySem.F.entry_tuple_iterator_next
abbrev kU:=@Option.toList_some
abbrev kW:=@PySem.F.args_str_split_2
abbrev kX:=@PySem.Calls.Name_function_global
abbrev kY:=@Bool.xor_false
abbrev kZ:=@Bool.decide_or
abbrev ka:=@Decidable.byContradiction
abbrev kh:=@Sum.inl.inj
abbrev ki:=@Option.isSome_map
abbrev kj:=@PySem.Obj.cls_mapFields
abbrev km:=@List.nodup_range'
abbrev ko:=@List.ext_getElem?
abbrev kq:=@PySem.F.entry_str_split
abbrev lC:=@PySem.F.type_dict_values
abbrev lD:=@PySem.F.slot_dict_values
abbrev lE:=@Option.isSome_iff_exists
abbrev lF:=@Bool.false_or
abbrev lG:=@Bool.and_true
abbrev lW:=@PySem.F.args_dict_get_3
abbrev lX:=@Nat.succ_ne_self
abbrev lZ:=@List.reverse_eq_nil_iff
abbrev l3:=@List.nodup_range
abbrev l4:=@List.getElem?_replicate
abbrev l6:=@List.flatMap_nil
abbrev l8:=@List.ext_getElem
abbrev l9:=@Int.eq_ofNat_of_zero_le
abbrev lg:=@PySem.F.slot_str_split
abbrev mH:=@PySem.Txt.slice_le
abbrev mI:=@PySem.W.cellsFrom_some
abbrev mJ:=@PySem.F.entry_dict_get
abbrev mK:=@PyProof.Rows.boot_bool
abbrev mM:=@Nat.sub_self
abbrev mN:=@List.range_succ_eq_map
abbrev mO:=@List.length_eq_one_iff
abbrev mP:=@List.getElem?_set_self
abbrev mQ:=@Int.ofNat_lt
abbrev mS:=@Eq.symm
abbrev mZ:=@List.of_mem_zip
abbrev m3:=@List.isPerm_iff
abbrev m5:=@List.any_append
abbrev m8:=@PySem.F.type_list_pop
abbrev m9:=@PySem.F.slot_list_pop
abbrev md:=@PyProof.Rows.boot_str
abbrev me:=@List.length_replicate
abbrev mf:=@List.eq_nil_or_concat
abbrev mh:=@List.concat_eq_append
abbrev mi:=@Array.mem_of_getElem?
abbrev nR:=@List.nodup_nil
abbrev nT:=@List.map_id
set_option Elab.async false
set_option linter.all false
set_option maxRecDepth 100000
def PySem.W.Fast.tw13904549284491466246:Nat:=0
def PySem.W.Fast.tw12742516371655434632:Nat:=0
def PySem.W.Fast.tw5677440557309328077:Nat:=0
def PySem.W.Fast.tw4227566560004317214:Nat:=0
def PySem.W.Fast.tw13321300378408806241:Nat:=0
def PySem.W.Fast.tw4517256749800775341:Nat:=0
def PySem.W.Fast.tw8023103733995017380:Nat:=0
def PySem.W.Fast.tw11278960739740689315:Nat:=0
def PySem.W.Fast.tw1110477810013061232:Nat:=0
def PySem.W.Fast.tw5555997705085285261:Nat:=0
def PySem.W.Fast.tw6487539174368244500:Nat:=0
def PySem.W.Fast.tw2194439383535572734:Nat:=0
def PySem.W.Fast.tw14714912942285312020:Nat:=0
def PySem.W.Fast.tw8645081379887065803:Nat:=0
def PySem.W.Fast.tw16541418780898288508:Nat:=0
def PySem.W.Fast.tw10345374711110489514:Nat:=0
def PySem.W.Fast.tw1622231904719743076:Nat:=0
def PySem.W.Fast.tw3133665583985062152:Nat:=0
def PySem.W.Fast.tw6458812028323508865:Nat:=0
def PySem.W.Fast.tw14131609412448465256:Nat:=0
def PySem.W.Fast.tw2128264594839864778:Nat:=0
def PySem.W.Fast.tw5427591266779555012:Nat:=0
def PySem.W.Fast.tw10821646108603019575:Nat:=0
def PySem.W.Fast.tw18156551238256948227:Nat:=0
def PySem.W.Fast.tw14329535777684576812:Nat:=0
def PySem.W.Fast.tw13601463220536663453:Nat:=0
def PySem.W.Fast.tw2429050046458890353:Nat:=0
def PySem.W.Fast.tw18146736026647894721:Nat:=0
def PySem.W.Fast.tw11005473250516081509:Nat:=0
def PySem.W.Fast.tw16496343955809469357:Nat:=0
def PySem.W.Fast.tw13618279845166170970:Nat:=0
def PySem.W.Fast.tw9234463423092676896:Nat:=0
def PySem.W.Fast.tw8583084643781195563:Nat:=0
def PySem.W.Fast.tw15802289603595298055:Nat:=0
def PySem.W.Fast.tw9406613259391852597:Nat:=0
def PySem.W.Fast.tw6345218229190144390:Nat:=0
def PySem.W.Fast.tw2603341650694853867:Nat:=0
def PySem.W.Fast.tw4281808810018860355:Nat:=0
def PySem.W.Fast.tw13952026736369735579:Nat:=0
def PySem.W.Fast.tw6481757595659099997:Nat:=0
def PySem.W.Fast.tw2680988654152182705:Nat:=0
def PySem.W.Fast.tw13477726360928802811:Nat:=0
def PySem.W.Fast.tw9386332284314643766:Nat:=0
def PySem.W.Fast.tw8657562727007596907:Nat:=0
namespace PySem.W.Fast
def tw7573655292137658228:=0
def tw8459589509433172929:=0
def tw9907246156572044252:=0
def tw16828961902159713786:=0
def tw9377071111615883183:=0
def tw2091095681550340453:=0
def tw7225865489570177765:=0
def tw3460900017003088733:=0
def tw1019109528250358727:=0
def tw11335382949735139308:=0
def tw830003810715214679:=0
def tw9461060512967582069:=0
def tw17608001078065311802:=0
def tw15576517571921334631:=0
def tw5785053453649283498:=0
def tw13917945808238326813:=0
def tw169935522662631287:=0
def tw8049990225532565867:=0
def tw17746588947638654990:=0
def tw8992534551814338751:=0
def tw243455254987498420:=0
def tw4222918495372084177:=0
def tw1350209812546261533:=0
def tw14632791626245233702:=0
def tw18028102138760657580:=0
def tw3041290170876847903:=0
def tw8168319610191703399:=0
def tw385939226999878045:=0
def tw12208274547228957209:=0
def tw12898701455752819865:=0
def tw10808427380430275543:=0
def tw9435490033698284644:=0
def tw9976552538426254597:=0
def tw5969547280218356998:=0
def tw17274920396392767245:=0
def tw13927771918710497704:=0
def tw16796742487727452821:=0
def tw11149863480285990438:=0
def tw18312084475498099262:=0
def tw2795224425660383243:=0
def tw12163464863890412703:=0
def tw13508335919031259717:=0
def tw9857985321490698912:=0
def tw11601657639773192829:=0
def tw138297587074137286:=0
def tw2631255978584640228:=0
def tw17139774721773211121:=0
def tw2880205392743382136:=0
def tw3615345441585896297:=0
def tw8641289543071714928:=0
def tw16404517274296440615:=0
def tw14491524261912882013:=0
def tw525729303337386709:=0
def tw9516426862598627480:=0
def tw6509692466797765355:=0
def tw3605625128818519345:=0
def tw5035892956637965342:=0
def tw2679163674686762474:=0
def tw5324971930748942459:=0
def tw17239788595036145917:=0
def tw2202963587505199642:=0
def tw15728395533251906077:=0
def tw12009257567989071880:=0
def tw17941960406510690320:=0
def tw4857380881346882918:=0
def tw8476872131554577532:=0
def tw2751734855986450385:=0
def tw13902093960471193868:=0
def tw8675729521984521922:=0
def tw2804720521951518091:=0
def tw14827978621853550660:=0
def tw4628050317560152910:=0
def tw4924760808945264802:=0
def tw15583356904621416641:=0
def tw9492235390136350680:=0
def tw6365663918304911713:=0
def tw14878410846230018731:=0
def tw4570455921502412069:=0
def tw15023522570746428859:=0
def tw9900070057643585003:=0
def tw2227931535806799108:=0
def tw719127582706802923:=0
def tw2149357854049931755:=0
def tw5973364303121232238:=0
def tw4724843782090479379:=0
def tw14077913243503285803:=0
def tw12259265187555736899:=0
def tw8826499119543165726:=0
def tw16022776518683211322:=0
def tw15064987925754485787:=0
def tw17574295582983514182:=0
def tw11619968526313984042:=0
def tw9462671038650050148:=0
def tw2008745947799962278:=0
def tw12876977816909048005:=0
def tw9844182468436382484:=0
def tw9991222536765293340:=0
def tw15742316559904187005:=0
def tw6458218537352692015:=0
def tw6315927277781676340:=0
def tw11523246602334016724:=0
def tw15724893922078561884:=0
def tw6807319329893615573:=0
def tw12831894612834573258:=0
def tw10020075030428216744:=0
def tw12780331730297836660:=0
def tw6365784223289543576:=0
def tw2917234823797431272:=0
def tw7052500064202189873:=0
def tw9928362247421714731:=0
def tw18385538906825020627:=0
def tw14886618056806250642:=0
def tw14395394351491342149:=0
def tw10945034914713805548:=0
def tw17022397436905854031:=0
def tw11606517294699410467:=0
def tw2757801861692280093:=0
def tw16953722254554657751:=0
def tw14408151337876114977:=0
def tw15218003398117829124:=0
def tw9483595218091593890:=0
def tw4196818877126827142:=0
def tw2059665168178849351:=0
def tw1530156662642816047:=0
def tw15210903819813641137:=0
def tw7328623674457968680:=0
def tw4565612067705036141:=0
def tw2121580391135135101:=0
def tw9350859282875981444:=0
def tw18288920927447288322:=0
def tw1626306543624360880:=0
def tw14622695204512112514:=0
def tw7898902911438864387:=0
def tw3995219894587458396:=0
def tw6242196969147990735:=0
def tw6107343257947665003:=0
def tw2621487880914680001:=0
def tw15355386628541474672:=0
def tw448493448651610527:=0
def tw17006091343958433293:=0
def tw13299880595884748966:=0
def tw9149068437772712108:=0
def tw5413913452030404531:=0
def tw17130636945498047793:=0
def tw16348534737481369759:=0
def tw11830836975703431302:=0
def tw3529934864528759886:=0
def tw14323951196672424640:=0
def tw478458018760945985:=0
def tw8578956078477739720:=0
def tw16318892170135195690:=0
def tw12950100081769629611:=0
def tw635450192919757122:=0
def tw1131202856175361437:=0
def tw4919871655101588280:=0
def tw2615418814999811013:=0
def tw13283654363982713576:=0
def tw3498121077367734716:=0
def tw6106035470073074825:=0
def tw2450976828732403451:=0
def tw3780145865850061085:=0
def tw9485996024388332019:=0
def tw14963287190310919644:=0
def tw10241849116117708495:=0
def tw7611803647230814460:=0
def tw9849094274064036037:=0
def tw18338167800546439973:=0
end PySem.W.Fast
local macro_rules | `(tactic| omega) => `(tactic| first | lia | omega (splitDisjunctions := true))
namespace L2
open PySem PySem.Spec PyProof.Rows
abbrev Key:=Sum Int Str
def uL:Key->Value->Bool
 | .inl k,v=>Value.isInt k v
 | .inr x,v=>Value.isStrOf x v
def Ly(w:World):Key->Int
 | .inl k=>hashInt k
 | .inr x=>hashStr w x
theorem f9:∀{k:Key} {v:Value},uL k v=true->(∃i t,k=Sum.inl i/\v=Value.int i t)\/(∃x t,k=Sum.inr x/\v=Value.str x t)
 | .inl i,v,h=>by
  obtain⟨t,e⟩:=Value.isInt_shape (k:=i) (v:=v) h;exact .inl ⟨i,t,rfl,e⟩
 | .inr x,v,h=>by
  obtain⟨t,e⟩:=Value.isStrOf_shape (x:=x) (v:=v) h;exact .inr ⟨x,t,rfl,e⟩
theorem Ar(i:Int)(t:Tok):uL (.inl i) (.int i t)=true:=by simp[uL,Value.isInt]
theorem Aq(x:Str)(t:Tok):uL (.inr x) (.str x t)=true:=by simp[uL,Value.isStrOf]
theorem JS(a b:Int):decide ((Sum.inl a:Key)=Sum.inl b)=(a==b):=by
 by_cases e:a=b
 ·subst e;simp
 ·have h:¬(Sum.inl a:Key)=Sum.inl b:=λq=>e (kh q);rw[decide_eq_false h];exact(beq_eq_false_iff_ne.mpr e).symm
theorem JP(a b:Str):decide ((Sum.inr a:Key)=Sum.inr b)=decide (a=b):=by
 by_cases e:a=b
 ·subst e;simp
 ·have h:¬(Sum.inr a:Key)=Sum.inr b:=λq=>e (Sum.inr.inj q);rw[decide_eq_false h,decide_eq_false e]
theorem JR(a:Int)(b:Str):decide ((Sum.inl a:Key)=Sum.inr b)=false:=decide_eq_false (λq=>nomatch q)
theorem JQ(a:Str)(b:Int):decide ((Sum.inr a:Key)=Sum.inl b)=false:=decide_eq_false (λq=>nomatch q)
def eg (prog : Program) (w : World) : PySem.KeyKind prog w Key where
  is := uL
  hash := Ly w
  inj := fun v a b ha hb => by
    rcases f9 ha with ⟨i, t, rfl, rfl⟩ | ⟨x, t, rfl, rfl⟩
    · rcases f9 hb with ⟨j, u, rfl, e⟩ | ⟨y, u, rfl, e⟩
      · injection e with e1 _; rw [e1]
      · exact nomatch e
    · rcases f9 hb with ⟨j, u, rfl, e⟩ | ⟨y, u, rfl, e⟩
      · exact nomatch e
      · injection e with e1 _; rw [e1]
  byValue := fun k v h => by
    rcases f9 h with ⟨i, t, rfl, rfl⟩ | ⟨x, t, rfl, rfl⟩ <;> rfl
  pyHash := fun hv h => by
    rcases f9 hv with ⟨i, t, rfl, rfl⟩ | ⟨x, t, rfl, rfl⟩
    · exact wpAny_pyHash_int h
    · exact wpAny_pyHash_str h
  eqBool := fun hu hv h => by
    rcases f9 hu with ⟨i, t, rfl, rfl⟩ | ⟨x, t, rfl, rfl⟩
    · rcases f9 hv with ⟨j, u, rfl, rfl⟩ | ⟨y, u, rfl, rfl⟩
      · rw [JS] at h; exact wpAny_eqBool_int h
      · rw [JR] at h; exact SeqAt.EqAt.int_str i t y u _ _ _ _ h
    · rcases f9 hv with ⟨j, u, rfl, rfl⟩ | ⟨y, u, rfl, rfl⟩
      · rw [JQ] at h; exact SeqAt.EqAt.str_int x t j u _ _ _ _ h
      · rw [JP] at h; exact wpAny_eqBool_str h
  «strs» := fun k x t v h => by
    rcases f9 h with ⟨i, u, rfl, e⟩ | ⟨y, u, rfl, e⟩
    · exact nomatch e
    · injection e with e1 _
      subst e1
      cases v <;> rfl
theorem wa(prog:Program)(w:World)(i:Int)(t:Tok):(eg prog w).is (.inl i) (.int i t)=true:=Ar i t
theorem w9(prog:Program)(w:World)(x:Str)(t:Tok):(eg prog w).is (.inr x) (.str x t)=true:=Aq x t
inductive V where
 | non | bl (b:Bool) | int (i:Int) | str (x:Str) | byt (b:Array UInt8) | flt (b:UInt64) | ref (a:Addr) | ty (n:String)
 deriving DecidableEq
def RelV:V->Value->Prop
 | .non,u=>u=Value.none
 | .bl b,u=>u=Value.bool b
 | .int i,u=>∃t,u=Value.int i t
 | .str x,u=>∃t,u=Value.str x t
 | .byt b,u=>∃t,u=Value.bytes b t
 | .flt b,u=>∃t,u=Value.float b t
 | .ref a,u=>u=Value.ref a
 | .ty n,u=>u=Value.type n
abbrev cO:List V->List Value->Prop:=Paired RelV
theorem cO.length{xs:List V}{us:List Value}(r:cO xs us):xs.length=us.length:=bB r
theorem cO.get:∀{xs:List V} {us:List Value} {i:Nat} {x:V},cO xs us->xs[i]? = some x->∃u,us[i]? = some u/\RelV x u
 | _,_,_,_,.nil,e=>by simp at e
 | _,_,0,_,.cons r _,e=>by simp at e;subst e;exact⟨_,rfl,r⟩
 | _,_,i+1,x,.cons _ t,e=>by
  obtain⟨u,h1,h2⟩:=cO.get (i:=i) (x:=x) t (by simpa using e);exact⟨u,by simpa using h1,h2⟩
theorem cO.set{x:V}{u:Value}(r:RelV x u):∀{xs:List V} {us:List Value} (i:Nat),cO xs us->cO (xs.set i x) (us.set i u)
 | _,_,_,.nil=>.nil
 | _,_,0,.cons _ t=>.cons r t
 | _,_,i+1,.cons q t=>.cons q (cO.set r i t)
theorem cO.append:∀{xs ys:List V} {us ws:List Value},cO xs us->cO ys ws->cO (xs++ys) (us++ws)
 | _,_,_,_,.nil,s=>s
 | _,_,_,_,.cons r t,s=>.cons r (cO.append t s)
theorem cO.take:∀{xs:List V} {us:List Value} (n:Nat),cO xs us->cO (xs.take n) (us.take n)
 | _,_,0,_=>.nil
 | _,_,_+1,.nil=>.nil
 | _,_,n+1,.cons r t=>.cons r (cO.take n t)
theorem cO.drop:∀{xs:List V} {us:List Value} (n:Nat),cO xs us->cO (xs.drop n) (us.drop n)
 | _,_,0,r=>r
 | _,_,_+1,.nil=>.nil
 | _,_,n+1,.cons _ t=>cO.drop n t
def qN:Option V->Option Value->Prop
 | some v,some u=>RelV v u
 | none,none=>True
 | _,_=>False
def KV{κ:Type}:List (κ×V)->List (κ×Value)->Prop:=Paired λ(p:κ×V) (q:κ×Value)=>p.1=q.1/\RelV p.2 q.2
def kV:Key->V
 | .inl i=>.int i
 | .inr x=>.str x
inductive HO where
  | lst (xs:List V)
  | tup (xs:List V)
  | dK (kvs:List (Key×V)) | dT (kvs:List (List Key×V))
  | set (S:Int->Bool) (n:Nat)
  | ins (C dx:Addr) (fs:List (Str×V))
  | own (x:Addr)
  | xd (fs:List (Str×V))
  | met (f x:Addr)
  | rng (lo hi:Int)
  | frz (o:Obj) (u:HO)
  | tbl (ps:Array Value)
  | ext (φ:Heap->Prop)
abbrev Hp:=Addr->Option HO
def upd(H:Hp)(a:Addr)(o:HO):Hp:=λb=>if b=a then some o else H b
theorem aD{H:Hp}{a:Addr}{o:HO}:upd H a o a=some o:=by unfold upd;rw[if_pos rfl]
theorem aP{H:Hp}{a b:Addr}{o:HO}(h:b≠a):upd H a o b=H b:=by unfold upd;rw[if_neg h]
theorem zP{H:Hp}{a:Addr}{o u:HO}:upd (upd H a o) a u=upd H a u:=by
 funext b;unfold upd;split<;>rfl
theorem D4{H:Hp}{a b:Addr}{o u:HO}(h:H a=some o)(h':H b=some u)(d:o≠u):a≠b:=by
 intro e;subst e;rw[h] at h';exact d (bD h')
theorem au{H:Hp}{a b:Addr}{o:HO}(h:H a=some o)(h':H b=none):a≠b:=by
 intro e;subst e;rw[h] at h';cases h'
section
variable (P:Program) (w:World)
def cZ (H : Hp) (h : Heap) (a : Addr) : HO → Prop
 | .lst xs => xs.length ≤ sizeLine ∧ ∃ (its : List Value) (n : Nat), cO xs its ∧ h.get? a = some { cls := .type "list", data := .seq its.toArray n }
 | .tup xs => xs.length ≤ sizeLine ∧ ∃ its : List Value, cO xs its ∧ IsTup h a its.toArray
 | .dK kvs => kvs.length ≤ sizeLine ∧ (a == sysModules) = false ∧ ∃ vs, KV kvs vs ∧ h.DictOf (eg P w) a vs
 | .dT kvs => kvs.length ≤ sizeLine ∧ (a == sysModules) = false ∧ ∃ xs : List (List Key × Addr × Value),
   Paired (fun (p : List Key × V) (q : List Key × Addr × Value) => p.1 = q.1 ∧ H q.2.1 = some (.tup (p.1.map kV)) ∧ RelV p.2 q.2.2) kvs xs ∧
   ∃ o es ep, h.get? a = some o ∧ o.ExactDict ∧ o.data = .dict es ep ∧ es.toList = xs.map (entryOfKey (tupleKind (eg P w))) ∧ (xs.map (·.1)).Nodup
 | .set S n => h.SetOf (intKind P w) a S n
 | .ins C dx fs => H dx = some (.own a) ∧ fs.length ≤ 1000 ∧ dx ≠ a ∧ h.get? a = some (PySem.W.instObj C dx) ∧
   ∃ mA, h.Ns1 dx mA ∧ (∀ f, qN (fs.lookup f) (mA f)) ∧ PySem.Within mA (fs.map (·.1))
 | .own _ => ∃ o, h.get? a = some o
 | .xd fs => ∃ mA, h.Ns1 a mA ∧ ∀ f, qN (fs.lookup f) (mA f)
 | .rng lo hi => ∃ t u v, h.get? a = some { cls := .type "range", data := .fields #[.int lo t, .int hi u, .int 1 v] }
 | .frz o u => h.get? a = some o ∧ cZ H h a u
 | .tbl ps => h.get? a = some { cls := .none, data := .fields ps }
 | .met f x => h.get? a = some (PySem.W.methodObj (.ref f) (.ref x))
 | .ext φ => φ h ∧ (∃ o, h.get? a = some o) ∧ ∀ h1 h2 : Heap, φ h1 → (∀ o, h1.get? a = some o → h2.get? a = some o) → φ h2
def o6(H:Hp)(h:Heap):Prop:=∀a o,H a=some o->cZ P w H h a o
end
section
variable {P:Program} {w:World} {H H':Hp} {h h':Heap} {a:Addr} {o:HO}
theorem cZ.lt(x:cZ P w H h a o):a<h.objs.size:=by
 cases o with
 | lst xs=>obtain⟨_,_,_,_,e⟩:=x;exact aN e
 | tup xs=>obtain⟨_,_,_,p⟩:=x;exact p.lt
 | dK kvs=>obtain⟨_,_,_,_,o,_,_,e,_⟩:=x;exact aN e
 | dT kvs=>obtain⟨_,_,_,_,o,_,_,e,_⟩:=x;exact aN e
 | set S n=>obtain⟨o,_,_,_,e,_⟩:=x;exact aN e
 | ins C dx fs=>obtain⟨_,_,_,e,_⟩:=x;exact aN e
 | own y=>obtain⟨_,e⟩:=x;exact aN e
 | xd fs=>obtain⟨_,⟨_,_,_,e,_⟩,_⟩:=x;exact aN e
 | rng lo hi=>obtain⟨_,_,_,e⟩:=x;exact aN e
 | frz ob u=>obtain⟨e,_⟩:=x;exact aN e
 | tbl ps=>exact aN (show h.get? a=some _ from x)
 | met f y=>exact aN (show h.get? a=some _ from x)
 | ext φ=>obtain⟨_,⟨_,e⟩,_⟩:=x;exact aN e
theorem Paired.mapP{α β:Type}{F G:α->β->Prop}:∀{l₁:List α} {l₂:List β},Paired F l₁ l₂->(∀a b,F a b->G a b)->Paired G l₁ l₂
 | _,_,.nil,_=>.nil
 | _,_,.cons r t,f=>.cons (f _ _ r) (Paired.mapP t f)
theorem cZ.stay(x:cZ P w H h a o)(k:∀b u,(b=a\/H b=some (.own a))->h.get? b=some u->h'.get? b=some u)
  (ho:∀b,H b=some (.own a)->H' b=some (.own a)) (ht:∀b xs,H b=some (.tup xs)->H' b=some (.tup xs)):cZ P w H' h' a o:=by
 induction o with
 | lst xs=>obtain⟨z,its,n,r,e⟩:=x;exact⟨z,its,n,r,k _ _ (.inl rfl) e⟩
 | tup xs=>obtain⟨z,its,r,ob,e,c⟩:=x;exact⟨z,its,r,ob,k _ _ (.inl rfl) e,c⟩
 | dK kvs=>obtain⟨z,y,vs,r,ob,es,ep,e,c⟩:=x;exact⟨z,y,vs,r,ob,es,ep,k _ _ (.inl rfl) e,c⟩
 | dT kvs=>
  obtain⟨z,y,xs,r,ob,es,ep,e,c⟩:=x;exact⟨z,y,xs,Paired.mapP r λp q z=>⟨z.1,ht _ _ z.2.1,z.2.2⟩,ob,es,ep,k _ _ (.inl rfl) e,c⟩
 | set S n=>obtain⟨ob,es,ep,t,e,c⟩:=x;exact⟨ob,es,ep,t,k _ _ (.inl rfl) e,c⟩
 | ins C dx fs=>
  obtain⟨d,z,ne,e,mA,⟨od,es,ep,e2,c⟩,r⟩:=x;exact⟨ho _ d,z,ne,k _ _ (.inl rfl) e,mA,⟨od,es,ep,k _ _ (.inr d) e2,c⟩,r⟩
 | own y=>obtain⟨ob,e⟩:=x;exact⟨ob,k _ _ (.inl rfl) e⟩
 | xd fs=>obtain⟨mA,⟨od,es,ep,e,c⟩,r⟩:=x;exact⟨mA,⟨od,es,ep,k _ _ (.inl rfl) e,c⟩,r⟩
 | rng lo hi=>obtain⟨t,u,v,e⟩:=x;exact⟨t,u,v,k _ _ (.inl rfl) e⟩
 | frz ob u ih=>obtain⟨e,q⟩:=x;exact⟨k _ _ (.inl rfl) e,ih q⟩
 | tbl ps=>
  have e:h.get? a=some { cls:=.none,data:=.fields ps }:=x;show h'.get? a=some { cls:=.none,data:=.fields ps };exact k a _ (.inl rfl) e
 | met f y=>
  have e:h.get? a=some (PySem.W.methodObj (.ref f) (.ref y)):=x;show h'.get? a=some (PySem.W.methodObj (.ref f) (.ref y));exact k a _ (.inl rfl) e
 | ext φ=>obtain⟨p,⟨o,e⟩,st⟩:=x;exact⟨st _ _ p λo q=>k _ _ (.inl rfl) q,⟨o,k _ _ (.inl rfl) e⟩,st⟩
theorem o6.lt(x:o6 P w H h)(e:H a=some o):a<h.objs.size:=(x a o e).lt
theorem o6.fresh(x:o6 P w H h)(e:h.objs.size<=a):H a=none:=by
 cases q:H a with
 | none=>rfl
 | some u=>exact absurd (aq (x.lt q) e) (dY _)
theorem o6.kept(x:o6 P w H h)(k:∀b u,h.get? b=some u->h'.get? b=some u):o6 P w H h':=λa o e=>
 (x a o e).stay (λb u _ q=>k b u q) (λ_ q=>q) λ_ _ q=>q
theorem o6.laid(x:o6 P w H h)(k:∀b u,h.get? b=some u->h'.get? b=some u)(hp:h.objs.size<=a)(new:cZ P w (upd H a o) h' a o):o6 P w (upd H a o) h':=λb u e=>by
 have hn:=x.fresh hp;by_cases hb:b=a
 ·subst hb;rw[aD] at e;cases e;exact new
 ·rw[aP hb] at e;exact(x b u e).stay (λc v _ q=>k c v q) (λc q=>by rw[aP (au q hn)];exact q) λc xs q=>by rw[aP (au q hn)];exact q
end
def Rd(H:Hp)(a:Addr)(u:HO):Prop:=H a=some u\/∃o,H a=some (.frz o u)
theorem Rd.ok{P:Program}{w:World}{H:Hp}{h:Heap}{a:Addr}{u:HO}(r:Rd H a u)(x:o6 P w H h):cZ P w H h a u:=by
 rcases r with r | ⟨o,r⟩
 ·exact x a u r
 ·obtain⟨_,q⟩:=x a _ r;exact q
def LP:Option HO->Prop
 | some (.lst _)=>True
 | some (.dK _)=>True
 | some (.dT _)=>True
 | some (.set _ _)=>True
 | some (.ins _ _ _)=>True
 | some (.ext _)=>True
 | _=>False
section
variable {P:Program} {w:World} {H:Hp} {h h':Heap} {x e:Addr} {o':HO}
theorem o6.write(ok:o6 P w H h)(mu:LP (H x))(he:e=x\/H e=some (.own x))(k:∀b u,b≠e->h.get? b=some u->h'.get? b=some u)(heo:∃u,h'.get? e=some u)
  (new:cZ P w (upd H x o') h' x o'):o6 P w (upd H x o') h':=λb u q=>by
 have nown:∀c y,H c=some (.own y)->c≠x:=λc y r z=>by subst z;rw[r] at mu;exact mu
 have ntup:∀c xs,H c=some (.tup xs)->c≠x:=λc xs r z=>by subst z;rw[r] at mu;exact mu
 by_cases hb:b=x
 ·subst hb;rw[aD] at q;cases q;exact new
 ·rw[aP hb] at q;by_cases hbe:b=e
  ·have q':H b=some (.own x):=by
    rcases he with z | z
    ·exact absurd (hbe.trans z) hb
    ·rw[hbe];exact z
   rw[q] at q';cases q';obtain⟨v,hv⟩:=heo;exact⟨v,by rw[hbe];exact hv⟩
  ·refine(ok b u q).stay (λc v hc r=>k c v ?_ r) (λc r=>by rw[aP (nown c b r)];exact r) λc xs r=>by rw[aP (ntup c xs r)];exact r
   rcases hc with rfl | hc
   ·exact hbe
   ·rintro rfl;rcases he with z | z
    ·exact nown c b hc z
    ·rw[hc] at z;cases z;exact hb rfl
end
structure Un (fs ex:List Addr) (H H':Hp) (h h':Heap):Prop where
 keep:∀ b o,h.get? b=some o->H b=none->b∉fs->b∉ex->h'.get? b=some o
 slot:∀ b o,h.get? b=some o->H b=none->b∈fs->b∉ex->∃ sl,h'.get? b=some { o with slots:=sl }
 free:∀ b o,h.get? b=some o->H b=none->b∉ex->H' b=none
 there:∀ b o,h.get? b=some o->b∉ex->∃ o',h'.get? b=some o'
 tups:∀ b xs,H b=some (.tup xs)->H' b=some (.tup xs)
 frzs:∀ b o u,H b=some (.frz o u)->H' b=some (.frz o u)
 tbls:∀ b ps,H b=some (.tbl ps)->∃ more,H' b=some (.tbl (ps++more))
section
variable {fs ex:List Addr} {H H1:Hp} {h h1 h':Heap} {a x e:Addr} {o:HO}
theorem Un.any(u:Un fs ex H H1 h h1){b:Addr}{ob:Obj}(q:h.get? b=some ob)(n:H b=none)(hx:b∉ex):∃sl,h1.get? b=some { ob with slots:=sl }:=by
 by_cases hb:b∈fs
 ·exact u.slot b ob q n hb hx
 ·exact⟨ob.slots,u.keep b ob q n hb hx⟩
theorem Un.kept(k:∀b u,h.get? b=some u->h'.get? b=some u):Un fs ex H H h h':=
 ⟨λb ob q _ _ _=>k b ob q,λb ob q _ _ _=>⟨ob.slots,k b ob q⟩,λ_ _ _ n _=>n,λb ob q _=>⟨ob,k b ob q⟩,λ_ _ q=>q,λ_ _ _ q=>q,λ_ ps q=>⟨#[],by rw[q];simp⟩⟩
theorem Un.refl:Un fs ex H H h h:=Un.kept λ_ _ q=>q
theorem Un.laid(k:∀b u,h.get? b=some u->h'.get? b=some u)(hp:h.objs.size<=a)(hn:H a=none):Un fs ex H (upd H a o) h h' where
 keep:=λb u q _ _ _=>k b u q
 slot:=λb u q _ _ _=>⟨u.slots,k b u q⟩
 free:=λb u q n _=>by rw[aP (av (aq (aN q) hp))];exact n
 there:=λb u q _=>⟨u,k b u q⟩
 tups:=λb xs q=>by rw[aP (au q hn)];exact q
 frzs:=λb u xs q=>by rw[aP (au q hn)];exact q
 tbls:=λb ps q=>⟨#[],by rw[aP (au q hn),q];simp⟩
theorem Un.write(mu:LP (H x))(he:e=x\/H e=some (.own x))(k:∀b u,b≠e->h.get? b=some u->h'.get? b=some u)(heo:∃u,h'.get? e=some u):Un fs ex H (upd H x o) h h':=by
 have hx:∀b,H b=none->b≠x:=λb n z=>by subst z;rw[n] at mu;exact mu
 have hb:∀b,H b=none->b≠e:=λb n z=>by
  subst z;rcases he with r | r
  ·exact hx b n r
  ·rw[n] at r;cases r
 have hm:∀b u,H b=some u->¬LP (some u)->b≠x:=λb u q nm z=>by subst z;rw[q] at mu;exact nm mu
 refine⟨λb u q n _ _=>k b u (hb b n) q,λb u q n _ _=>⟨u.slots,k b u (hb b n) q⟩,λb u q n _=>by rw[aP (hx b n)];exact n,λb u q _=>?_,
  λb xs q=>by rw[aP (hm b _ q λz=>z)];exact q,λb u xs q=>by rw[aP (hm b _ q λz=>z)];exact q,λb ps q=>⟨#[],by rw[aP (hm b _ q λz=>z),q];simp⟩⟩
 by_cases hbe:b=e
 ·subst hbe;exact heo
 ·exact⟨u,k b u hbe q⟩
end
def L0(h:Heap)(H:Hp):List Addr:=(List.range h.objs.size).filter λa=>(H a).isSome
def vF(h:Heap)(H:Hp):Heap:=PySem.W.hideAll h (L0 h H)
theorem Aw(h:Heap)(H:Hp):(vF h H).objs.size=h.objs.size:=PySem.W.hideAll_size _ _
theorem Du{h:Heap}{H:Hp}{b:Addr}{o:Obj}(e:h.get? b=some o)(n:H b=none):(vF h H).get? b=some o:=
 PySem.W.hideAll_get _ e λhm=>by
  have q:(H b).isSome=true:=(aV.mp hm).2;rw[n] at q;simp at q
theorem Fd{h:Heap}{H:Hp}{b:Addr}{o:Obj}(e:(vF h H).get? b=some o):h.get? b=some o/\H b=none:=by
 have e':h.get? b=some o:=PySem.W.of_hideAll (L0 h H) e;refine⟨e',?_⟩;cases q:H b with
 | none=>rfl
 | some x=>
  have hm:b∈L0 h H:=aV.mpr ⟨cX.mpr (aN e'),by simp[q]⟩;have z:(vF h H).get? b=none:=PySem.W.hideAll_none (L0 h H) hm;rw[z] at e;cases e
def GH(g h:Heap)(L:Addr):List (Addr×Obj):=(List.range h.objs.size).filterMap λa=>if a=L\/(g.get? a).isSome=true then none else (h.get? a).map λo=>(a,o)
def rest(g h:Heap)(L d:Addr):List (Addr×Obj):=(GH g h L).filter λp=>decide (p.1≠d)
structure Mod (K:PySem.W.Frag) (mg:Str->Option Value) (base:Heap):Prop where
 kin:K.In base
 glob:base.Ns mainGlobals mg
 blt:∃ mb,base.Ns builtinsNs mb/\∀ x:Str,x≠"__name__"->mb x=bootBuiltins x
 nolimit:base.NoLimit
structure Cx where
 prog:Program
 w:World
 K:PySem.W.Frag
 mg:Str->Option Value
 base:Heap
 A:Around
 N:List Str
 s₀:Shared
 H₀:Hp
 env:Env
 outer:List Env
 stack:List Env
 ex:List Addr
 fn:Str->Bool
 calm:Bool
 pn:List (Addr×Obj)
 xe:Value->Shared->Prop
def yf(l:List Env):List Addr:=l.filterMap (·.frame)
abbrev Cx.fs (X:Cx):List Addr:=yf X.outer
def LM(sc:Scope)(x:Str):Prop:=sc.names.lookup x=some .local\/sc.names.lookup x=some .cell\/sc.names.lookup x=some .free
def Loc(sc:Scope)(x:Str):Prop:=sc.names.lookup x=some .local\/sc.names.lookup x=some .cell
def Look(env:Env)(h:Heap)(m:Str->Option Value)(x:Str)(u:Value):Prop:=
 (env.kindOf x=some .local/\m x=some u)\/((env.kindOf x=some .cell\/env.kindOf x=some .free)/\∃c,env.cells.lookup x=some c/\h.IsCell c (some u))
structure Cx.Ok (X:Cx):Prop where
 mod:Mod X.K X.mg X.base
 kind:X.env.scope.kind=.function
 glob:X.env.globals=mainGlobals
 blt:X.env.builtins=builtinsNs
 above:X.s₀.heap.objs.size<=X.env.locals
 inj:∀ x y c,X.env.cells.lookup x=some c->X.env.cells.lookup y=some c->x=y
 has:∀ x,(X.env.kindOf x=some .cell\/X.env.kindOf x=some .free)->∃ c,X.env.cells.lookup x=some c
 cab:∀ x c,X.fn x=true->X.env.cells.lookup x=some c->X.s₀.heap.objs.size<=c
 hd:X.calm=true->X.A.handled=none
 frames:X.A.frames=some X.stack
 stk:X.stack=X.outer\/(X.stack=X.env::X.outer/\X.env.frame=some X.env.locals)
 exf:∀ b∈X.ex,b≠X.env.locals/\∀ x c,X.env.cells.lookup x=some c->c≠b
 bs:∀ b o,X.base.get? b=some o->X.s₀.heap.get? b=some o/\X.H₀ b=none
 bsz:X.base.objs.size<=X.s₀.heap.objs.size
 noex:∀ b o,X.base.get? b=some o->b∉X.ex
 exfs:∀ b∈X.ex,b∉X.fs
 funs:X.s₀.heap.FunFrames X.base X.outer
 frf:∀ b∈X.fs,X.H₀ b=none
structure bi (X:Cx) (pins:List (Addr×Obj)) (σ:List (Option V)) (H:Hp) (s:Shared):Prop where
 ok:X.Ok
 os:s.os=X.s₀.os
 bare:AllBare s.gens
 base:Un X.fs X.ex X.H₀ H X.s₀.heap s.heap
 loc:∃ m,s.heap.Ns X.env.locals m/\∀ (i:Nat) (x:Str) (v:V),X.N[i]? = some x->σ[i]? = some (some v)->LM X.env.scope x->∃ u,RelV v u/\Look X.env s.heap m x u
 cell:∀ x c,X.env.cells.lookup x=some c->∃ v,s.heap.IsCell c v
 free:H X.env.locals=none
 freeC:∀ x c,X.env.cells.lookup x=some c->H c=none
 pin:∀ p∈X.pn++pins,s.heap.get? p.1=some p.2/\H p.1=none/\p.1≠X.env.locals/\p.1∉X.fs/\∀ v,p.2.data≠.cell v
 hok:o6 X.prog X.w H s.heap
 len:σ.length=X.N.length
section
variable {X:Cx} {pins:List (Addr×Obj)} {σ:List (Option V)} {H H':Hp} {s:Shared} {h':Heap}
theorem Cx.Ok.nofr(ok:X.Ok){b:Addr}{o:Obj}(e:X.base.get? b=some o):b∉X.fs:=λhb=>by
 have:=(ok.funs.mem hb).1;rw[e] at this;cases this
theorem bi.bs(I:bi X pins σ H s):∀b o,X.base.get? b=some o->s.heap.get? b=some o/\H b=none:=λb o e=>
 ⟨I.base.keep b o (I.ok.bs b o e).1 (I.ok.bs b o e).2 (I.ok.nofr e) (I.ok.noex b o e),I.base.free b o (I.ok.bs b o e).1 (I.ok.bs b o e).2 (I.ok.noex b o e)⟩
theorem bi.bk(I:bi X pins σ H s):∀b o,X.base.get? b=some o->s.heap.get? b=some o:=λb o e=>(I.bs b o e).1
theorem bi.mod(I:bi X pins σ H s):Mod X.K X.mg X.base:=I.ok.mod
theorem bi.kIn(I:bi X pins σ H s):X.K.In s.heap:=I.ok.mod.kin.keeps I.bk
theorem bi.lt(I:bi X pins σ H s):X.env.locals<s.heap.objs.size:=let ⟨_,hn,_⟩:=I.loc;hn.lt
theorem bi.sz(I:bi X pins σ H s):X.s₀.heap.objs.size<=s.heap.objs.size:=bU I.ok.above (bf I.lt)
theorem bi.nofs(I:bi X pins σ H s){a:Addr}(h:s.heap.objs.size<=a):a∉X.fs:=λhb=>by
 obtain⟨_,o,ho,_⟩:=I.ok.funs.mem hb;exact absurd (aq (aN ho) (bU I.sz h)) (dY _)
theorem bi.cne(I:bi X pins σ H s):∀x c,X.env.cells.lookup x=some c->c≠X.env.locals:=λx c e z=>by
 obtain⟨v,o,ho,hd⟩:=I.cell x c e;obtain⟨m,⟨o',es,ep,ho',hd',_⟩,_⟩:=I.loc;rw[z,ho'] at ho;cases ho;rw[hd'] at hd;cases hd
theorem bi.funs(I:bi X pins σ H s):s.heap.FunFrames X.base X.outer:=by
 have all:∀(l:List Env),(∀b∈yf l,b∈X.fs)->X.s₀.heap.FunFrames X.base l->s.heap.FunFrames X.base l:=by
  intro l
  induction l with
  | nil=>intro _ _;trivial
  | cons env r ih=>
   intro hs hl;obtain⟨hk,⟨L,o,hf,hn,ho,hd⟩,hr⟩:=hl;have hL:L∈X.fs:=hs L (by unfold yf;rw[jy,hf];exact ar);obtain⟨sl,e⟩:=I.base.slot L o ho (I.ok.frf L hL) hL λz=>I.ok.exfs L z hL;exact⟨hk,⟨L,_,hf,hn,e,hd⟩,ih (λb hb=>hs b (by unfold yf;rw[jy,hf];exact aM _ hb)) hr⟩
 exact all X.outer (λ_ hb=>hb) I.ok.funs
theorem bi.stack(I:bi X pins σ H s):s.heap.FunFrames X.base X.stack:=by
 rcases I.ok.stk with e | ⟨e,hf⟩
 ·rw[e];exact I.funs
 ·rw[e];obtain⟨m,hn,_⟩:=I.loc;refine .cons (by rw[I.ok.kind];decide) hf hn ?_ I.funs;exact Heap.get?_none_of_le (bU I.ok.bsz I.ok.above)
theorem bi.stkSub(I:bi X pins σ H s):∀b∈yf X.stack,b∈X.env.locals::X.fs:=λb hb=>by
 rcases I.ok.stk with e | ⟨e,hf⟩
 ·rw[e] at hb;exact aM _ hb
 ·rw[e] at hb;unfold yf at hb;rw[jy,hf] at hb;exact hb
theorem bi.stkFree(I:bi X pins σ H s):∀b∈yf X.stack,H b=none:=λb hb=>by
 rcases aJ.mp (I.stkSub b hb) with e | hb
 ·rw[e];exact I.free
 ·obtain⟨_,o,ho,_⟩:=I.ok.funs.mem hb;exact I.base.free b o ho (I.ok.frf b hb) λz=>I.ok.exfs b z hb
theorem bi.step{g':Array GenState}{t':Nat}{d':Drawn}{ch:List Addr}(I:bi X pins σ H s)
  (hch:∀b∈ch,(b∈X.ex\/X.s₀.heap.objs.size<=b)/\b≠X.env.locals/\(∀x c,X.env.cells.lookup x=some c->c≠b)/\∀p∈X.pn++pins,p.1≠b)
  (keep:∀b o,b≠X.env.locals->b∉X.fs->b∉ch->s.heap.get? b=some o->H b=none->h'.get? b=some o)
  (slot:∀b o,b≠X.env.locals->b∈X.fs->b∉ch->s.heap.get? b=some o->H b=none->∃sl,h'.get? b=some { o with slots:=sl }) (free:∀b o,b∉ch->s.heap.get? b=some o->H b=none->H' b=none)
  (there:∀b o,b∉ch->s.heap.get? b=some o->∃o',h'.get? b=some o')
  (tups:∀b xs,H b=some (.tup xs)->H' b=some (.tup xs)) (frzs:∀b o u,H b=some (.frz o u)->H' b=some (.frz o u)) (tbls:∀b ps,H b=some (.tbl ps)->∃more,H' b=some (.tbl (ps++more)))
  (ns:∀m,s.heap.Ns X.env.locals m->h'.Ns X.env.locals m) (hok:o6 X.prog X.w H' h') (hg:AllBare g') :
  bi X pins σ H' { s with heap:=h',gens:=g',drawn:=d',toks:=t' }:=by
 have neL:∀b o,X.s₀.heap.get? b=some o->b≠X.env.locals:=λb o e=>av (aq (aN e) I.ok.above);have neC:∀b o,X.s₀.heap.get? b=some o->b∉X.ex->b∉ch:=λb o e hx hb=>by
  rcases(hch b hb).1 with z | z
  ·exact hx z
  ·exact absurd (aq (aN e) z) (dY _)
 have cellK:∀x c,X.env.cells.lookup x=some c->∀v,s.heap.IsCell c v->h'.IsCell c v:=λx c e v ⟨o,ho,hd⟩=>by
  have nch:c∉ch:=λz=>(hch c z).2.2.1 x c e rfl;by_cases hc:c∈X.fs
  ·obtain⟨sl,q⟩:=slot c o (I.cne x c e) hc nch ho (I.freeC x c e);exact⟨_,q,hd⟩
  ·exact⟨o,keep c o (I.cne x c e) hc nch ho (I.freeC x c e),hd⟩
 refine⟨I.ok,I.os,hg,⟨λb o e n hb hx=>?_,λb o e n hb hx=>?_,λb o e n hx=>?_,λb o e hx=>?_,λb xs e=>tups b xs (I.base.tups b xs e),λb o xs e=>frzs b o xs (I.base.frzs b o xs e),λb ps e=>?_⟩,?_,λx c e=>?_,?_,λx c e=>?_,λp hp=>?_,hok,I.len⟩
 ·exact keep b o (neL b o e) hb (neC b o e hx) (I.base.keep b o e n hb hx) (I.base.free b o e n hx)
 ·obtain⟨sl,e1⟩:=I.base.slot b o e n hb hx;obtain⟨sl',e2⟩:=slot b _ (neL b o e) hb (neC b o e hx) e1 (I.base.free b o e n hx);exact⟨sl',e2⟩
 ·obtain⟨o',e1⟩:=I.base.there b o e hx;exact free b o' (neC b o e hx) e1 (I.base.free b o e n hx)
 ·obtain⟨o',e1⟩:=I.base.there b o e hx;exact there b o' (neC b o e hx) e1
 ·obtain⟨m1,e1⟩:=I.base.tbls b ps e;obtain⟨m2,e2⟩:=tbls b _ e1;exact⟨m1++m2,by rw[e2,Array.append_assoc]⟩
 ·obtain⟨m,hn,hl⟩:=I.loc;refine⟨m,ns m hn,λi x v e1 e2 e3=>?_⟩;obtain⟨u,r,l⟩:=hl i x v e1 e2 e3;refine⟨u,r,?_⟩;rcases l with l | ⟨k,c,e,z⟩
  ·exact .inl l
  ·exact .inr ⟨k,c,e,cellK x c e _ z⟩
 ·obtain⟨v,z⟩:=I.cell x c e;exact⟨v,cellK x c e v z⟩
 ·obtain⟨m,⟨o,_,_,ho,_⟩,_⟩:=I.loc;exact free _ o (λz=>(hch _ z).2.1 rfl) ho I.free
 ·obtain⟨v,o,ho,hd⟩:=I.cell x c e;exact free c o (λz=>(hch c z).2.2.1 x c e rfl) ho (I.freeC x c e)
 ·obtain⟨e,n,ne,nf,d⟩:=I.pin p hp;have nch:p.1∉ch:=λz=>(hch p.1 z).2.2.2 p hp rfl;exact⟨keep p.1 p.2 ne nf nch e n,free p.1 p.2 nch e n,ne,nf,d⟩
theorem bi.un{t':Nat}(I:bi X pins σ H s)(u:Un X.fs [] H H' s.heap h')(hok:o6 X.prog X.w H' h'):bi X pins σ H' { s with heap:=h',toks:=t' }:=by
 obtain⟨m,⟨o,es,ep,ho,r⟩,_⟩:=id I.loc;obtain⟨sl,hL⟩:=u.any ho I.free (by simp);exact I.step (g':=s.gens) (d':=s.drawn) (ch:=[]) (λ_ z=>nomatch z) (λb o _ hb _ e n=>u.keep b o e n hb (by simp)) (λb o _ hb _ e n=>u.slot b o e n hb (by simp)) (λb o _ e n=>u.free b o e n (by simp)) (λb o _ e=>u.there b o e (by simp)) u.tups u.frzs u.tbls (λm' hm=>by
  obtain⟨o',es',ep',ho',r'⟩:=hm;rw[ho] at ho';cases ho';exact⟨_,es',ep',hL,r'⟩) hok I.bare
theorem bi.call{g':Array GenState}{t':Nat}{d':Drawn}{ch:List Addr}(I:bi X pins σ H s)(u:Un (yf X.stack) ch H H' s.heap h')(hok:o6 X.prog X.w H' h')(hg:AllBare g')
  (hch:∀b∈ch,(b∈X.ex\/X.s₀.heap.objs.size<=b)/\b≠X.env.locals/\(∀x c,X.env.cells.lookup x=some c->c≠b)/\∀p∈X.pn++pins,p.1≠b) :
  bi X pins σ H' { s with heap:=h',gens:=g',drawn:=d',toks:=t' }:=by
 obtain⟨m,⟨o,es,ep,ho,r⟩,_⟩:=id I.loc;obtain⟨sl,hL⟩:=u.any ho I.free λz=>(hch _ z).2.1 rfl;exact I.step (ch:=ch) hch (λb o hL hb hc e n=>u.keep b o e n (λz=>(aJ.mp (I.stkSub b z)).elim hL hb) hc) (λb o _ _ hc e n=>u.any e n hc) (λb o hc e n=>u.free b o e n hc) (λb o hc e=>u.there b o e hc) u.tups u.frzs u.tbls (λm' hm=>by
  obtain⟨o',es',ep',ho',r'⟩:=hm;rw[ho] at ho';cases ho';exact⟨_,es',ep',hL,r'⟩) hok hg
theorem bi.turned{t':Nat}{it:Addr}(I:bi X pins σ H s)(k:∀b o,b≠it->s.heap.get? b=some o->h'.get? b=some o)(hn:H it=none)(hL:it≠X.env.locals)
  (h1:it∈X.ex\/X.s₀.heap.objs.size<=it) (h2:∀x c,X.env.cells.lookup x=some c->c≠it) (h3:∀p∈X.pn++pins,p.1≠it):bi X pins σ H { s with heap:=h',toks:=t' }:=by
 have nit:∀b u,H b=some u->b≠it:=λb u e z=>by rw[z,hn] at e;cases e
 refine I.step (g':=s.gens) (d':=s.drawn) (ch:=[it]) (λb hb=>?_) (λb o _ _ hc e _=>k b o (λz=>hc (by simp[z])) e) (λb o _ _ hc e _=>⟨o.slots,k b o (λz=>hc (by simp[z])) e⟩) (λ_ _ _ _ n=>n)
  (λb o hc e=>⟨o,k b o (λz=>hc (by simp[z])) e⟩) (λ_ _ e=>e) (λ_ _ _ e=>e) (λb ps e=>⟨#[],by rw[e];simp⟩) (λm hm=>?_) (λb u e=>?_) I.bare
 ·have e:b=it:=by simpa using hb
  subst e;exact⟨h1,hL,h2,h3⟩
 ·obtain⟨o,es,ep,ho,r⟩:=hm;exact⟨o,es,ep,k _ o (ig hL) ho,r⟩
 ·refine(I.hok b u e).stay (λc v hc q=>k c v ?_ q) (λ_ q=>q) λ_ _ q=>q;rcases hc with z | z
  ·rw[z];exact nit b u e
  ·exact nit c _ z
theorem bi.tok(I:bi X pins σ H s)(t:Nat):bi X pins σ H { s with toks:=t }:=I.un (h':=s.heap) (t':=t) Un.refl I.hok
theorem bi.kept{t':Nat}(I:bi X pins σ H s)(k:∀b u,s.heap.get? b=some u->h'.get? b=some u):bi X pins σ H { s with heap:=h',toks:=t' }:=I.un (Un.kept k) (I.hok.kept k)
theorem bi.laid{a:Addr}{o:HO}{t':Nat}(I:bi X pins σ H s)(k:∀b u,s.heap.get? b=some u->h'.get? b=some u)(hp:s.heap.objs.size<=a)(new:cZ X.prog X.w (upd H a o) h' a o):
  bi X pins σ (upd H a o) { s with heap:=h',toks:=t' }:=I.un (Un.laid k hp (I.hok.fresh hp)) (I.hok.laid k hp new)
theorem bi.write{x e:Addr}{o:HO}{t':Nat}(I:bi X pins σ H s)(mu:LP (H x))(he:e=x\/H e=some (.own x))(k:∀b u,b≠e->s.heap.get? b=some u->h'.get? b=some u)(heo:∃u,h'.get? e=some u)
  (new:cZ X.prog X.w (upd H x o) h' x o):bi X pins σ (upd H x o) { s with heap:=h',toks:=t' }:=I.un (Un.write mu he k heo) (I.hok.write mu he k heo new)
theorem bi.pins_of{pins':List (Addr×Obj)}(I:bi X pins σ H s)(h:∀p∈pins',s.heap.get? p.1=some p.2/\H p.1=none/\p.1≠X.env.locals/\p.1∉X.fs/\∀v,p.2.data≠.cell v):bi X pins' σ H s:=
 ⟨I.ok,I.os,I.bare,I.base,I.loc,I.cell,I.free,I.freeC,λp hp=>(aU.mp hp).elim (λz=>I.pin p (bu _ z)) (h p),I.hok,I.len⟩
theorem wY{N:List Str}(hN:N.Nodup){i j:Nat}{x:Str}(a:N[i]? = some x)(b:N[j]? = some x):i=j:=by
 obtain⟨h1,e1⟩:=aF.mp a;obtain⟨h2,e2⟩:=aF.mp b;exact(gB hN).mp (e1.trans e2.symm)
theorem pT{M:Model}{A:Around}{E:Value->Shared->Prop}{i:Nat}{x:Str}{v:V}{u:Value}{Q:Unit->Shared->Prop}(I:bi X pins σ H s)(hN:X.N.Nodup)(hi:X.N[i]? = some x)(hx:Loc X.env.scope x)(r:RelV v u)
  (h:∀s',bi X pins (σ.set i (some v)) H s'->(∃a,Heap.SameBut a s.heap s'.heap/\(a=X.env.locals\/X.env.cells.lookup x=some a))->Q () s') (hf:X.fn x=true\/X.env.scope.names.lookup x=some .local:=by first | exact .inl rfl | exact .inr rfl | assumption):wpAny M A (storeName X.env x u) Q E s:=by
 obtain⟨m,hn,hl⟩:=id I.loc;have hcls:(X.env.scope.kind==.class || (X.env.scope.kind==.module&&X.env.locals != X.env.globals))=false:=by rw[I.ok.kind];rfl
 have hiσ:i<σ.length:=by rw[I.len];exact(aF.mp hi).1
 have cne:=I.cne;have tracked:∀{a:Addr} {h':Heap},(∃o,s.heap.get? a=some o/\H a=none)->Heap.SameBut a s.heap h'->o6 X.prog X.w H h':=fun {a h'} ha hs b ob e=>by
  obtain⟨_,_,hfree⟩:=ha;refine(I.hok b ob e).stay (λc w' hc q=>(hs.2 c ?_).trans q) (λ_ q=>q) λ_ _ q=>q;rintro rfl;rcases hc with rfl | hc
  ·rw[hfree] at e;cases e
  ·rw[hfree] at hc;cases hc
 rcases hx with hk | hk
 ·refine wpAny_storeName_local hk hn (λh' hn' hs=>?_) hcls;obtain⟨oL,_,_,hoL,_⟩:=id hn;refine h _ ⟨I.ok,I.os,I.bare,⟨λb o e n hb hx=>?_,λb o e n hb hx=>?_,I.base.free,λb o e hx=>?_,I.base.tups,I.base.frzs,I.base.tbls⟩,⟨_,hn',λj y v' e1 e2 e3=>?_⟩,λy c e=>?_,I.free,I.freeC,λp hp=>?_,tracked ⟨oL,hoL,I.free⟩ hs,by simpa using I.len⟩ ⟨_,hs,.inl rfl⟩
  ·exact(hs.2 b (av (aq (aN e) I.ok.above))).trans (I.base.keep b o e n hb hx)
  ·obtain⟨sl,e1⟩:=I.base.slot b o e n hb hx;exact⟨sl,(hs.2 b (av (aq (aN e) I.ok.above))).trans e1⟩
  ·obtain⟨o',e1⟩:=I.base.there b o e hx;exact⟨o',(hs.2 b (av (aq (aN e) I.ok.above))).trans e1⟩
  ·by_cases hj:j=i
   ·subst hj;rw[hi] at e1;cases e1;rw[mP hiσ] at e2;cases e2;exact⟨u,r,.inl ⟨hk,by simp⟩⟩
   ·rw[List.getElem?_set_ne (ig hj)] at e2;obtain⟨u',r',q⟩:=hl j y v' e1 e2 e3;refine⟨u',r',?_⟩;rcases q with ⟨k,e⟩ | ⟨k,c,e,z⟩
    ·refine .inl ⟨k,?_⟩;have:y≠x:=λe=>hj (wY hN e1 (e▸hi));simp[this,e]
    ·exact .inr ⟨k,c,e,z.sameBut hs (cne y c e)⟩
  ·obtain⟨w',z⟩:=I.cell y c e;exact⟨w',z.sameBut hs (cne y c e)⟩
  ·obtain⟨e,n,ne,nf,d⟩:=I.pin p hp;exact⟨(hs.2 p.1 ne).trans e,n,ne,nf,d⟩
 ·have hfn:X.fn x=true:=by
   rcases hf with z | z
   ·exact z
   ·rw[z] at hk;cases hk
  obtain⟨c,hc⟩:=I.ok.has x (.inl hk);obtain⟨w',z⟩:=I.cell x c hc;refine wpAny_storeName_cell I.ok.kind hk hc z (λh' hc' hs=>?_);obtain⟨oc,hoc,hocd⟩:=id z;refine h { s with heap:=h' } ⟨I.ok,I.os,I.bare,⟨λb o e n hb hx=>?_,λb o e n hb hx=>?_,I.base.free,λb o e hx=>?_,I.base.tups,I.base.frzs,I.base.tbls⟩,⟨m,hn.sameBut hs (ig (cne x c hc)),λj y v' e1 e2 e3=>?_⟩,λy c' e=>?_,I.free,I.freeC,λp hp=>?_,tracked ⟨oc,hoc,I.freeC x c hc⟩ hs,by simpa using I.len⟩ ⟨c,hs,.inr hc⟩
  ·exact(hs.2 b (av (aq (aN e) (I.ok.cab x c hfn hc)))).trans (I.base.keep b o e n hb hx)
  ·obtain⟨sl,e1⟩:=I.base.slot b o e n hb hx;exact⟨sl,(hs.2 b (av (aq (aN e) (I.ok.cab x c hfn hc)))).trans e1⟩
  ·obtain⟨o',e1⟩:=I.base.there b o e hx;exact⟨o',(hs.2 b (av (aq (aN e) (I.ok.cab x c hfn hc)))).trans e1⟩
  ·by_cases hj:j=i
   ·subst hj;rw[hi] at e1;cases e1;rw[mP hiσ] at e2;cases e2;exact⟨u,r,.inr ⟨.inl hk,c,hc,hc'⟩⟩
   ·rw[List.getElem?_set_ne (ig hj)] at e2;obtain⟨u',r',q⟩:=hl j y v' e1 e2 e3;refine⟨u',r',?_⟩;rcases q with q | ⟨k,c',e,z'⟩
    ·exact .inl q
    ·refine .inr ⟨k,c',e,z'.sameBut hs ?_⟩;rintro rfl;exact hj (wY hN e1 (I.ok.inj _ _ _ e hc▸hi))
  ·by_cases hcc:c'=c
   ·subst hcc;exact⟨_,hc'⟩
   ·obtain⟨w2,z2⟩:=I.cell y c' e;exact⟨w2,z2.sameBut hs hcc⟩
  ·obtain⟨e,n,ne,nf,d⟩:=I.pin p hp;refine⟨(hs.2 p.1 ?_).trans e,n,ne,nf,d⟩;intro q;rw[q,hoc] at e;have q':oc=p.2:=bD e;exact d w' (by rw[<-q'];exact hocd)
theorem v9{M:Model}{A:Around}{E:Value->Shared->Prop}{i:Nat}{x:Str}{v:V}{u:Value}{Q:Unit->Shared->Prop}(I:bi X pins σ H s)(hN:X.N.Nodup)(hi:X.N[i]? = some x)(hx:Loc X.env.scope x)(r:RelV v u)
  (h:∀s',bi X pins (σ.set i (some v)) H s'->Q () s') (hf:X.fn x=true\/X.env.scope.names.lookup x=some .local:=by first | exact .inl rfl | exact .inr rfl | assumption):wpAny M A (storeName X.env x u) Q E s:=
 pT I hN hi hx r (λs' I' _=>h s' I') hf
theorem bi.call'{s':Shared}{ch:List Addr}(I:bi X pins σ H s)(ho:s'.os=s.os)(u:Un (yf X.stack) ch H H' s.heap s'.heap)(hok:o6 X.prog X.w H' s'.heap)(hg:AllBare s'.gens)
  (hch:∀b∈ch,(b∈X.ex\/X.s₀.heap.objs.size<=b)/\b≠X.env.locals/\(∀x c,X.env.cells.lookup x=some c->c≠b)/\∀p∈X.pn++pins,p.1≠b):bi X pins σ H' s':=by
 obtain⟨h',g',d',t',o'⟩:=s';have e:o'=s.os:=ho;subst e;exact I.call (g':=g') (t':=t') (d':=d') u hok hg hch
end
abbrev XK:=Value->Option Addr->Hp->Prop
abbrev St:=List (Option V)
abbrev VK:=V->Hp->Prop
abbrev TE:=St->Hp->VK->Prop
abbrev TT:=St->Hp->(Bool->Hp->Prop)->Prop
abbrev TA:=St->Hp->(List V->Hp->Prop)->Prop
structure Ends where
 nx:St->Hp->Prop
 rt:VK
 bk:St->Hp->Prop:=fun _ _=>False
 ct:St->Hp->Prop:=fun _ _=>False
abbrev TS:=Ends->St->Hp->Prop
def EP(X:Cx)(pins:List (Addr×Obj))(σ:St)(Q:VK)(u:Value)(s':Shared):Prop:=∃v H',bi X pins σ H' s'/\RelV v u/\Q v H'
def TP(X:Cx)(pins:List (Addr×Obj))(σ:St)(Q:Bool->Hp->Prop)(b:Bool)(s':Shared):Prop:=∃H',bi X pins σ H' s'/\Q b H'
def AP(X:Cx)(pins:List (Addr×Obj))(σ:St)(Q:List V->Hp->Prop)(us:List Value)(s':Shared):Prop:=∃vs H',bi X pins σ H' s'/\cO vs us/\Q vs H'
def SP(X:Cx)(pins:List (Addr×Obj))(D:Ends)(f:Flow)(s':Shared):Prop:=
 match f with
 | .next=>∃σ' H',bi X pins σ' H' s'/\D.nx σ' H'
 | .brk=>∃σ' H',bi X pins σ' H' s'/\D.bk σ' H'
 | .cont=>∃σ' H',bi X pins σ' H' s'/\D.ct σ' H'
 | .ret u=>∃v σ' H',bi X pins σ' H' s'/\RelV v u/\D.rt v H'
def PE(X:Cx)(e:Expr)(t:TE):Prop:=
 ∀(pins:List (Addr×Obj)) (s:Shared) (σ:St) (H:Hp) (Q:VK),bi X pins σ H s->t σ H Q->wpAny (model X.prog X.w) X.A (eval e X.env) (EP X pins σ Q) X.xe s
def PT(X:Cx)(e:Expr)(t:TT):Prop:=
 ∀(pins:List (Addr×Obj)) (s:Shared) (σ:St) (H:Hp) (Q:Bool->Hp->Prop),bi X pins σ H s->t σ H Q->wpAny (model X.prog X.w) X.A (isTrue e X.env (eval e X.env)) (TP X pins σ Q) X.xe s
def PW(X:Cx)(e:Expr)(t:TT):Prop:=
 ∀(whole:Sem Value) (pins:List (Addr×Obj)) (s:Shared) (σ:St) (H:Hp) (Q:Bool->Hp->Prop),bi X pins σ H s->t σ H Q->wpAny (model X.prog X.w) X.A (isTrue e X.env whole) (TP X pins σ Q) X.xe s
theorem PW.pt{X:Cx}{e:Expr}{t:TT}(h:PW X e t):PT X e t:=h _
def PA(X:Cx)(es:List Expr)(t:TA):Prop:=
 ∀(pos:Pos) (pins:List (Addr×Obj)) (s:Shared) (σ:St) (H:Hp) (Q:List V->Hp->Prop),bi X pins σ H s->t σ H Q->wpAny (model X.prog X.w) X.A (spliced (backTo pos (starEach es X.env))) (AP X pins σ Q) X.xe s
def PS(X:Cx)(st:Stmt)(t:TS):Prop:=
 ∀(pins:List (Addr×Obj)) (s:Shared) (σ:St) (H:Hp) (D:Ends),bi X pins σ H s->t D σ H->wpAny (model X.prog X.w) X.A (exec st X.env) (SP X pins D) X.xe s
def xF(X:Cx)(st:List Stmt)(t:TS):Prop:=
 ∀(pins:List (Addr×Obj)) (s:Shared) (σ:St) (H:Hp) (D:Ends),bi X pins σ H s->t D σ H->wpAny (model X.prog X.w) X.A (execs st X.env) (SP X pins D) X.xe s
theorem eR{α:Type}{t:Sem α}{Q Q':α->Shared->Prop}{M:Model}{A:Around}{E:Value->Shared->Prop}{s:Shared}(h:wpAny M A t Q E s)(hQ:∀a s,Q a s->Q' a s):wpAny M A t Q' E s:=wpAny_mono h hQ λ_ _ x=>x
section
variable {X:Cx}
theorem bin{a b:Expr}{ta tb:TE}(ha:PE X a ta)(hb:PE X b tb){pins:List (Addr×Obj)}{s:Shared}{σ:St}{H:Hp}{R:V->V->Hp->Prop}(I:bi X pins σ H s)(h:ta σ H λx H1=>tb σ H1 λy H2=>R x y H2)
  {α:Type} {Q:α->Shared->Prop} {f:Value->Value->Sem α}
  (hf:∀v u s2 x y H2,bi X pins σ H2 s2->RelV x v->RelV y u->R x y H2->wpAny (model X.prog X.w) X.A (f v u) Q X.xe s2) :
  wpAny (model X.prog X.w) X.A (eval a X.env) (λv s₁=>wpAny (model X.prog X.w) X.A (eval b X.env) (λu s₂=>wpAny (model X.prog X.w) X.A (f v u) Q X.xe s₂) X.xe s₁) X.xe s:=by
 refine eR (ha pins s σ H _ I h) λv s1 ⟨x,H1,I1,r1,q1⟩=>?_;refine eR (hb pins s1 σ H1 _ I1 q1) λu s2 ⟨y,H2,I2,r2,q2⟩=>?_;exact hf v u s2 x y H2 I2 r1 r2 q2
def xT(i:Nat):TE:=λσ H Q=>∃v,σ[i]? = some (some v)/\Q v H
def tC(v:V):TE:=λ_ H Q=>Q v H
theorem Ih {i:Nat} {x:Str} {pos:Pos} (hN:X.N[i]? = some x) (hv:LM X.env.scope x) (hd:(x==("__debug__":Str))=false:=by decide) (hcd:(x==("__classdict__":Str))=false:=by decide):PE X (.Name x pos) (xT i):=by
 intro pins s σ H Q I h;obtain⟨v,e,h⟩:=h;obtain⟨m,hn,hl⟩:=I.loc;obtain⟨u,r,l⟩:=hl i x v hN e hv;have fin:EP X pins σ Q u s:=⟨v,H,I,r,h⟩
 rcases l with ⟨hk,hm⟩ | ⟨hk,c,hc,hcell⟩
 ·exact wpAny_Name (wpAny_loadName_local I.ok.kind hk hn hm fin) hd
 ·rcases hk with hk | hk
  ·exact wpAny_Name (wpAny_loadName_cell I.ok.kind hk hc hcell fin) hd
  ·exact wpAny_Name (wpAny_loadName_free I.ok.kind hk hc hcell fin hcd) hd
theorem Iq{i j pos}:PE X (.Constant (.int i) j pos) (tC (.int i)):=λ_ _ _ H _ I h=>wpAny_Constant_int ⟨.int i,H,I.tok _,⟨_,rfl⟩,h⟩
theorem Ky{b j pos}:PE X (.Constant (.bool b) j pos) (tC (.bl b)):=λ_ _ _ H _ I h=>Constant_bool ⟨.bl b,H,I,rfl,h⟩
theorem Im{j pos}:PE X (.Constant .none j pos) (tC .non):=λ_ _ _ H _ I h=>Constant_none ⟨.non,H,I,rfl,h⟩
theorem Ij{x j pos}:PE X (.Constant (.str x) j pos) (tC (.str x)):=λ_ _ _ H _ I h=>Calls.Constant_str ⟨.str x,H,I.tok _,⟨_,rfl⟩,h⟩
def Gl(X:Cx)(x:Str):Prop:=X.env.kindOf x=some .globalImplicit
theorem vD{E:Value->Shared->Prop}{pins:List (Addr×Obj)}{s:Shared}{σ:St}{H:Hp}{x:Str}{u:Value}{pos:Pos}{Q:Value->Shared->Prop}(I:bi X pins σ H s)(hg:Gl X x)(hm:X.mg x=some u)(h:Q u s)
  (hd:(x==("__debug__":Str))=false:=by decide):wpAny (model X.prog X.w) X.A (eval (.Name x pos) X.env) Q E s:=
 kX I.ok.kind hg (Calls.loadGlobal_global (by rw[I.ok.glob];exact I.mod.glob.keeps I.bk) hm h) hd
theorem jT{E:Value->Shared->Prop}{pins:List (Addr×Obj)}{s:Shared}{σ:St}{H:Hp}{x:Str}{u:Value}{pos:Pos}{Q:Value->Shared->Prop}(I:bi X pins σ H s)(hg:Gl X x)(hm:X.mg x=none)(hv:bootBuiltins x=some u)(h:Q u s)
  (hn:x≠"__name__":=by decide) (hd:(x==("__debug__":Str))=false:=by decide):wpAny (model X.prog X.w) X.A (eval (.Name x pos) X.env) Q E s:=by
 obtain⟨mb,h1,h2⟩:=I.mod.blt;exact kX I.ok.kind hg (Calls.loadGlobal_builtin (by rw[I.ok.glob];exact I.mod.glob.keeps I.bk) hm (by rw[I.ok.blt];exact h1.keeps I.bk) ((h2 x hn).trans hv) h) hd
theorem ux {x:Str} {v:V} {u:Value} {pos:Pos} (hg:Gl X x) (hm:X.mg x=some u) (r:RelV v u) (hd:(x==("__debug__":Str))=false:=by decide):PE X (.Name x pos) (tC v):=
 λ_ _ _ H _ I h=>vD I hg hm ⟨v,H,I,r,h⟩ hd
theorem FT {x:Str} {v:V} {u:Value} {pos:Pos} (hg:Gl X x) (hm:X.mg x=none) (hv:bootBuiltins x=some u) (r:RelV v u) (hn:x≠"__name__":=by decide) (hd:(x==("__debug__":Str))=false:=by decide):PE X (.Name x pos) (tC v):=
 λ_ _ _ H _ I h=>jT I hg hm hv ⟨v,H,I,r,h⟩ hn hd
variable {a b:Expr} {ta tb:TE} {pos:Pos}
def PC(X:Cx)(op:CmpOp)(a b:Expr)(t:TE):Prop:=
 ∀(pins:List (Addr×Obj)) (s:Shared) (σ:St) (H:Hp) (Q:VK),bi X pins σ H s->t σ H Q →
  wpAny (model X.prog X.w) X.A (eval a X.env) (λv s₁=>wpAny (model X.prog X.w) X.A (eval b X.env) (λu s₂=>wpAny (model X.prog X.w) X.A (compareOp op v u) (EP X pins σ Q) X.xe s₂) X.xe s₁) X.xe s
theorem D3(b:Expr){op:CmpOp}(h:op≠.In)(h2:op≠.NotIn):behindInMarks op b=false:=by
 have e1:(op==CmpOp.In)=false:=by cases op<;>first | rfl | exact absurd rfl h
 have e2:(op==CmpOp.NotIn)=false:=by cases op<;>first | rfl | exact absurd rfl h2
 cases b<;>simp[behindInMarks,e1,e2]
def tB(t:TE):TT:=λσ H Q=>t σ H λx H1=>∃c,x=.bl c/\Q c H1
theorem Ct{op:CmpOp}{t:TE}(h:PC X op a b t)(h1:behindInMarks op b=false:=by first | exact D3 _ (by decide) (by decide) | rfl):PT X (.Compare a [op] [b] pos) (tB t):=by
 intro pins s σ H Q I hw;refine wpAny_isTrue_Compare1 (eR (h pins s σ H _ I hw) λv s1 h1=>eR h1 λu s2 h2=>eR h2 λc s3 ⟨x,H1,I1,r1,q1⟩=>?_) h1;obtain⟨d,rfl,q⟩:=q1;cases r1;exact wpAny_truthy_bool ⟨H1,I1,q⟩
theorem IT{e:Expr}{t:TE}(h:PE X e t)(he:∀whole,isTrue e X.env whole=(do let v <-whole;standAt e.pos;holding [v] (truthy v)):=by intro _;rfl):PT X e (tB t):=by
 intro pins s σ H Q I hw;refine isTrue_plain (eR (h pins s σ H _ I hw) λv s1 ⟨x,H1,I1,r1,q1⟩=>?_) (he _);obtain⟨d,rfl,q⟩:=q1;cases r1;exact wpAny_truthy_bool ⟨H1,I1,q⟩
variable {tA tB':TT} {rest:List Expr}
def Hy(t u:TT):TT:=λσ H Q=>t σ H λc H1=>if c=true then u σ H1 Q else Q false H1
def Lk(t u:TT):TT:=λσ H Q=>t σ H λc H1=>if c=true then Q true H1 else u σ H1 Q
def Hq(t:TT):TT:=λσ H Q=>t σ H λc H1=>Q (!c) H1
theorem Ex(ha:PT X a tA):PW X (.BoolOp .And [a] pos) tA:=by
 intro wh pins s σ H Q I h;refine isTrue_and (eR (ha pins s σ H Q I h) λc s1 e=>?_);cases c with
 | true=>exact isTrue_and_nil e
 | false=>exact e
theorem IQ(ha:PT X a tA):PW X (.BoolOp .Or [a] pos) tA:=by
 intro wh pins s σ H Q I h;refine isTrue_or (eR (ha pins s σ H Q I h) λc s1 e=>?_);cases c with
 | false=>exact isTrue_or_nil e
 | true=>exact e
theorem IR(ha:PT X a tA)(hb:PW X (.BoolOp .And (b::rest) pos) tB'):PW X (.BoolOp .And (a::b::rest) pos) (Hy tA tB'):=by
 intro wh pins s σ H Q I h;refine isTrue_and (eR (ha pins s σ H _ I h) λc s1 ⟨H1,I1,q1⟩=>?_);cases c with
 | true=>exact hb wh pins s1 σ H1 Q I1 q1
 | false=>exact⟨H1,I1,q1⟩
theorem Ko(ha:PT X a tA)(hb:PW X (.BoolOp .Or (b::rest) pos) tB'):PW X (.BoolOp .Or (a::b::rest) pos) (Lk tA tB'):=by
 intro wh pins s σ H Q I h;refine isTrue_or (eR (ha pins s σ H _ I h) λc s1 ⟨H1,I1,q1⟩=>?_);cases c with
 | true=>exact⟨H1,I1,q1⟩
 | false=>exact hb wh pins s1 σ H1 Q I1 q1
theorem IU(ha:PT X a tA):PT X (.UnaryOp .Not a pos) (Hq tA):=by
 intro pins s σ H Q I h;exact isTrue_not (ha pins s σ H (λc H1=>Q (!c) H1) I h)
def CK(ta tb:TE):TE:=λσ H Q=>ta σ H λx H1=>∃c,x=.bl c/\if c=true then tb σ H1 Q else Q (.bl false) H1
def Hn(ta tb:TE):TE:=λσ H Q=>ta σ H λx H1=>∃c,x=.bl c/\if c=true then Q (.bl true) H1 else tb σ H1 Q
def CD(ta:TE):TE:=λσ H Q=>ta σ H λx H1=>∃c,x=.bl c/\Q (.bl (!c)) H1
theorem Ik{op}{t:TE}(h:PE X a t):PE X (.BoolOp op [a] pos) t:=λpins s σ H Q I hw=>BoolOp_one (h pins s σ H Q I hw)
theorem Iu(ha:PE X a ta)(hb:PE X (.BoolOp .And (b::rest) pos) tb):PE X (.BoolOp .And (a::b::rest) pos) (CK ta tb):=by
 intro pins s σ H Q I h;refine BoolOp_and (eR (ha pins s σ H _ I h) λv s1 ⟨x,H1,I1,r1,q1⟩=>?_);obtain⟨c,rfl,q1⟩:=q1;cases r1;refine wpAny_truthy_bool ?_;cases c with
 | true=>exact hb pins s1 σ H1 Q I1 q1
 | false=>exact⟨.bl false,H1,I1,rfl,q1⟩
theorem Ku(ha:PE X a ta)(hb:PE X (.BoolOp .Or (b::rest) pos) tb):PE X (.BoolOp .Or (a::b::rest) pos) (Hn ta tb):=by
 intro pins s σ H Q I h;refine BoolOp_or (eR (ha pins s σ H _ I h) λv s1 ⟨x,H1,I1,r1,q1⟩=>?_);obtain⟨c,rfl,q1⟩:=q1;cases r1;refine wpAny_truthy_bool ?_;cases c with
 | false=>exact hb pins s1 σ H1 Q I1 q1
 | true=>exact⟨.bl true,H1,I1,rfl,q1⟩
theorem Il(ha:PE X a ta):PE X (.UnaryOp .Not a pos) (CD ta):=by
 intro pins s σ H Q I h;refine UnaryOp_ (eR (ha pins s σ H _ I h) λv s1 ⟨x,H1,I1,r1,q1⟩=>?_);obtain⟨c,rfl,q1⟩:=q1;cases r1;exact not_of (wpAny_truthy_bool ⟨.bl (!c),H1,I1,rfl,q1⟩)
def Ll(t:TT)(ta tb:TE):TE:=λσ H Q=>t σ H λc H1=>if c=true then ta σ H1 Q else tb σ H1 Q
theorem DH{c:Expr}(hc:PT X c tA)(ha:PE X a ta)(hb:PE X b tb):PE X (.IfExp c a b pos) (Ll tA ta tb):=by
 intro pins s σ H Q I h;refine wpAny_IfExp (eR (hc pins s σ H _ I h) λd s1 ⟨H1,I1,q1⟩=>?_);cases d with
 | true=>exact ha pins s1 σ H1 Q I1 q1
 | false=>exact hb pins s1 σ H1 Q I1 q1
end
def bv(K:PySem.W.Frag)(H:Hp)(a:Addr)(xs:List V):Prop:=
 Rd H a (.lst xs) ∨
  ∃(o:Obj) (its:Array Value) (n:Nat),K.lookup a=some o/\o.cls=.type "list"/\o.dict=none/\o.data=.seq its n/\its.size<=sizeLine/\cO xs its.toList
def dA(K:PySem.W.Frag)(H:Hp)(a:Addr)(xs:List V):Prop:=
 Rd H a (.tup xs) ∨
  ∃(o:Obj) (its:Array Value) (n:Nat),K.lookup a=some o/\o.cls=.type "tuple"/\o.data=.seq its n/\its.size<=sizeLine/\cO xs its.toList
def MH:Value->Option V
 | .none=>some .non
 | .bool b=>some (.bl b)
 | .int i _=>some (.int i)
 | .str x _=>some (.str x)
 | .bytes b _=>some (.byt b)
 | .float b _=>some (.flt b)
 | .ref a=>some (.ref a)
 | .type n=>some (.ty n)
 | _=>none
theorem RelV.abs{x:V}{u:Value}(r:RelV x u):MH u=some x:=by
 cases x with
 | non=>cases r;rfl
 | bl _=>cases r;rfl
 | int _=>obtain⟨t,rfl⟩:=r;rfl
 | str _=>obtain⟨t,rfl⟩:=r;rfl
 | byt _=>obtain⟨t,rfl⟩:=r;rfl
 | flt _=>obtain⟨t,rfl⟩:=r;rfl
 | ref _=>cases r;rfl
 | ty _=>cases r;rfl
theorem RelV.inj{x y:V}{u:Value}(r:RelV x u)(q:RelV y u):x=y:=bD (r.abs.symm.trans q.abs)
theorem cO.inj:∀{xs ys:List V} {us:List Value},cO xs us->cO ys us->xs=ys
 | _,_,_,.nil,.nil=>rfl
 | _,_,_,.cons r t,.cons r' t'=>by rw[r.inj r',cO.inj t t']
section
variable {X:Cx} {pins:List (Addr×Obj)} {σ:St} {H:Hp} {s:Shared} {a:Addr} {xs ys:List V}
theorem bv.of{K:PySem.W.Frag}(h:H a=some (.lst xs)):bv K H a xs:=.inl (.inl h)
theorem dA.of{K:PySem.W.Frag}(h:H a=some (.tup xs)):dA K H a xs:=.inl (.inl h)
theorem bi.list(I:bi X pins σ H s)(h:bv X.K H a xs):∃its:List Value,cO xs its/\PlainL s.heap a its.toArray/\xs.length<=sizeLine:=by
 rcases h with h | ⟨o,its,n,hk,hc,hd,hs,hz,r⟩
 ·obtain⟨z,its,n,r,e⟩:=h.ok I.hok;exact⟨its,r,⟨_,n,e,rfl,rfl,rfl⟩,z⟩
 ·refine⟨its.toList,r,⟨o,n,I.kIn a o hk,hc,hd,by simpa using hs⟩,?_⟩;have e:=r.length;simp only[cS] at e;omega
theorem bi.tuple(I:bi X pins σ H s)(h:dA X.K H a xs):∃its:List Value,cO xs its/\IsTup s.heap a its.toArray/\xs.length<=sizeLine:=by
 rcases h with h | ⟨o,its,n,hk,hc,hs,hz,r⟩
 ·obtain⟨z,its,r,p⟩:=h.ok I.hok;exact⟨its,r,p,z⟩
 ·refine⟨its.toList,r,⟨o,I.kIn a o hk,hc,n,by simpa using hs⟩,?_⟩;have e:=r.length;simp only[cS] at e;omega
theorem bi.list_inj(I:bi X pins σ H s)(h:bv X.K H a xs)(h':bv X.K H a ys):xs=ys:=by
 obtain⟨its,r,⟨o,n,e,_,_,d⟩,_⟩:=I.list h;obtain⟨its',r',⟨o',n',e',_,_,d'⟩,_⟩:=I.list h';rw[e] at e';cases e';rw[d] at d';injection d' with d1 _
 have:its=its':=by simpa using congrArg Array.toList d1
 subst this;exact r.inj r'
theorem bi.tuple_inj(I:bi X pins σ H s)(h:dA X.K H a xs)(h':dA X.K H a ys):xs=ys:=by
 obtain⟨its,r,⟨o,e,_,n,d⟩,_⟩:=I.tuple h;obtain⟨its',r',⟨o',e',_,n',d'⟩,_⟩:=I.tuple h';rw[e] at e';cases e';rw[d] at d';injection d' with d1 _
 have:its=its':=by simpa using congrArg Array.toList d1
 subst this;exact r.inj r'
end
abbrev Cx.wish (X:Cx) (E:Value->Shared->Prop):Cx:={ X with xe:=E }
abbrev Cx.nox (X:Cx):Cx:=X.wish λ_ _=>False
theorem Cx.Ok.wish{X:Cx}(ok:X.Ok)(E:Value->Shared->Prop):(X.wish E).Ok:=
 ⟨ok.mod,ok.kind,ok.glob,ok.blt,ok.above,ok.inj,ok.has,ok.cab,ok.hd,ok.frames,ok.stk,ok.exf,ok.bs,ok.bsz,ok.noex,ok.exfs,ok.funs,ok.frf⟩
theorem Cx.Ok.unwish{X:Cx}{E:Value->Shared->Prop}(ok:(X.wish E).Ok):X.Ok:=
 ⟨ok.mod,ok.kind,ok.glob,ok.blt,ok.above,ok.inj,ok.has,ok.cab,ok.hd,ok.frames,ok.stk,ok.exf,ok.bs,ok.bsz,ok.noex,ok.exfs,ok.funs,ok.frf⟩
section
variable {X:Cx} {pins:List (Addr×Obj)} {σ:St} {H:Hp} {s:Shared} {E:Value->Shared->Prop}
theorem bi.wish(I:bi X pins σ H s)(E:Value->Shared->Prop):bi (X.wish E) pins σ H s:=⟨I.ok.wish E,I.os,I.bare,I.base,I.loc,I.cell,I.free,I.freeC,I.pin,I.hok,I.len⟩
theorem bi.unwish(I:bi (X.wish E) pins σ H s):bi X pins σ H s:=⟨I.ok.unwish,I.os,I.bare,I.base,I.loc,I.cell,I.free,I.freeC,I.pin,I.hok,I.len⟩
theorem SP.unwish{D:Ends}{f:Flow}{s':Shared}(h:SP (X.wish E) pins D f s'):SP X pins D f s':=by
 cases f with
 | next=>obtain⟨σ',H',I,q⟩:=h;exact⟨σ',H',I.unwish,q⟩
 | brk=>obtain⟨σ',H',I,q⟩:=h;exact⟨σ',H',I.unwish,q⟩
 | cont=>obtain⟨σ',H',I,q⟩:=h;exact⟨σ',H',I.unwish,q⟩
 | ret u=>obtain⟨v,σ',H',I,r,q⟩:=h;exact⟨v,σ',H',I.unwish,r,q⟩
theorem xF.nox{st:List Stmt}{t:TS}(h:xF X.nox st t):xF X st t:=λpins s σ H D I hw=>
 wpAny_mono (h pins s σ H D (I.wish _) hw) (λ_ _ q=>q.unwish) λ_ _ z=>False.elim z
end
section
variable {X:Cx} {st:Stmt} {rest:List Stmt} {t u:TS} {e:Expr} {te:TE} {pos:Pos}
def CF:TS:=λD σ H=>D.nx σ H
def Hj(t u:TS):TS:=λD σ H=>t { D with nx:=u D } σ H
theorem FA:xF X [] CF:=λ_ _ σ H _ I h=>wpAny_execs_nil ⟨σ,H,I,h⟩
theorem Cu(h1:PS X st t)(h2:xF X rest u):xF X (st::rest) (Hj t u):=by
 intro pins s σ H D I h;refine wpAny_execs_cons (eR (h1 pins s σ H { D with nx:=u D } I h) λf s1 q=>?_);cases f with
 | next=>
  obtain⟨σ',H',I',q⟩:=q;exact h2 pins s1 σ' H' D I' q
 | ret v=>exact q
 | brk=>exact q
 | cont=>exact q
theorem Ez(h1:PS X st t):xF X [st] t:=by
 intro pins s σ H D I h;refine wpAny_execs_cons (eR (h1 pins s σ H D I h) λf s1 q=>?_);cases f with
 | next=>exact wpAny_execs_nil q
 | ret v=>exact q
 | brk=>exact q
 | cont=>exact q
def xb:TS:=λD σ H=>D.bk σ H
def K8:TS:=λD σ H=>D.ct σ H
theorem Cz:PS X (.Break pos) xb:=λ_ _ σ H _ I h=>wpAny_Break ⟨σ,H,I,h⟩
theorem bi.quiet{pins:List (Addr×Obj)}{σ:St}{H:Hp}{s:Shared}(I:bi X pins σ H s):interactive X.env=false:=by simp[interactive,I.ok.kind]
def CH(te:TE):TS:=λD σ H=>te σ H λ_ H1=>D.nx σ H1
theorem FD(he:PE X e te)(hs:swapsWith e none pos.line X.env=pure false:=by rfl):PS X (.Expr e pos) (CH te):=by
 intro pins s σ H D I h;exact wpAny_Expr_any (eR (he pins s σ H _ I h) λv s1 ⟨x,H1,I1,r1,q1⟩=>⟨σ,H1,I1,q1⟩) I.quiet hs
def Hl(te:TE):TS:=λD σ H=>te σ H D.rt
theorem IX(he:PE X e te):PS X (.Return (some e) pos) (Hl te):=by
 intro pins s σ H D I h;exact wpAny_Return_some (eR (he pins s σ H _ I h) λv s1 ⟨x,H1,I1,r1,q1⟩=>⟨x,σ,H1,I1,r1,q1⟩)
def K6:TS:=λD _ H=>D.rt .non H
def Hu(c:TT)(t u:TS):TS:=λD σ H=>c σ H λb H1=>if b=true then t D σ H1 else u D σ H1
theorem Kq{c:Expr}{a b:List Stmt}{tc:TT}(hc:PT X c tc)(ha:xF X a t)(hb:xF X b u):PS X (.If c a b pos) (Hu tc t u):=by
 intro pins s σ H D I h;refine wpAny_If (eR (hc pins s σ H _ I h) λd s1 ⟨H1,I1,q1⟩=>?_);cases d with
 | true=>exact ha pins s1 σ H1 D I1 q1
 | false=>exact hb pins s1 σ H1 D I1 q1
def CG:TS:=λ_ _ _=>False
theorem Cy:PS X st CG:=λ_ _ _ _ _ _ h=>h.elim
end
abbrev TG:=V->St->Hp->(St->Hp->Prop)->Prop
abbrev BQ:=List V->St->Hp->(St->Hp->Prop)->Prop
def PG(X:Cx)(target:Expr)(t:TG):Prop:=
 ∀(pins:List (Addr×Obj)) (s:Shared) (σ:St) (H:Hp) (v:V) (u:Value) (Q:St->Hp->Prop),bi X pins σ H s->RelV v u->t v σ H Q →
  wpAny (model X.prog X.w) X.A (assign target X.env u) (λ_ s'=>∃σ' H',bi X pins σ' H' s'/\Q σ' H') X.xe s
def LO(X:Cx)(ts:List Expr)(t:BQ):Prop:=
 ∀(pins:List (Addr×Obj)) (s:Shared) (σ:St) (H:Hp) (vs:List V) (us:List Value) (Q:St->Hp->Prop),bi X pins σ H s->cO vs us->t vs σ H Q →
  wpAny (model X.prog X.w) X.A (assignInOrder ((assignEach ts X.env).map (·.2)) us) (λ_ s'=>∃σ' H',bi X pins σ' H' s'/\Q σ' H') X.xe s
abbrev EM:=V->V->V->Hp->(Hp->Prop)->Prop
def Jc(X:Cx)(t:EM):Prop:=
 ∀(pins:List (Addr×Obj)) (s:Shared) (σ:St) (H:Hp) (o i v:V) (ov iv u:Value) (Q:Hp->Prop),bi X pins σ H s->RelV o ov->RelV i iv->RelV v u->t o i v H Q →
  wpAny (model X.prog X.w) X.A (setItem ov iv u) (λ_ s'=>∃H',bi X pins σ H' s'/\Q H') X.xe s
abbrev MJ:=V->V->Hp->VK->Prop
section
variable {X:Cx} {pos:Pos}
def mY(i:Nat):TG:=λv σ H Q=>Q (σ.set i (some v)) H
theorem FL{i:Nat}{x:Str}(hN:X.N.Nodup)(hi:X.N[i]? = some x)(hx:Loc X.env.scope x)(hf:X.fn x=true\/X.env.scope.names.lookup x=some .local:=by first | exact .inl rfl | exact .inr rfl | assumption):PG X (.Name x pos) (mY i):=by
 intro pins s σ H v u Q I r h;exact wpAny_assign_Name (v9 I hN hi hx r (λs' I'=>⟨_,H,I',h⟩) hf)
def J1:BQ:=λvs σ H Q=>vs=[]/\Q σ H
def Dw(t:TG)(u:BQ):BQ:=λvs σ H Q=>∃v r,vs=v::r/\t v σ H λσ' H'=>u r σ' H' Q
theorem FK:LO X [] J1:=by
 intro pins s σ H vs us Q I r h;obtain⟨e,h⟩:=h;subst e;cases r;exact assignInOrder_nil ⟨σ,H,I,h⟩
theorem DD{e:Expr}{es:List Expr}{t:TG}{u:BQ}(h1:PG X e t)(h2:LO X es u)
  (hs:(assignEach (e::es) X.env).map (·.2)=assign e X.env::(assignEach es X.env).map (·.2):=by rfl):LO X (e::es) (Dw t u):=by
 intro pins s σ H vs us Q I r h;obtain⟨v,vr,e1,h⟩:=h;subst e1;cases r with
 | cons r rr=>
  rw[hs];refine assignInOrder_cons (eR (h1 pins s σ H _ _ _ I r h) λ_ s1 ⟨σ1,H1,I1,q1⟩=>?_);exact h2 pins s1 σ1 H1 _ _ Q I1 rr q1
def JZ(K:PySem.W.Frag)(n:Nat)(t:BQ):TG:=λv σ H Q=>∃a xs,v=.ref a/\dA K H a xs/\xs.length=n/\t xs σ H Q
theorem Ib{es:List Expr}{k:Nat}{t:BQ}{n:Nat}(hc:X.calm=true)(h:LO X es t)
  (hn:(assignEach es X.env).length=n:=by rfl) (hst:(assignEach es X.env).findIdx? (·.1)=none:=by rfl):PG X (.Tuple es k pos) (JZ X.K n t):=by
 intro pins s σ H v u Q I r hw;obtain⟨a,xs,e1,hq,hl,hw⟩:=hw;subst e1;cases r;obtain⟨its,rv,ht,hz⟩:=I.tuple hq;refine assign_Tuple_tuple (I.ok.hd hc) ht (by simp[hn,<-hl,rv.length]) hst λh' hx=>?_;have I1:bi X pins σ H { s with heap:=h' }:=I.kept (t':=s.toks) λb o e=>hx b o (av (aN e)) e;exact h pins _ σ H xs _ Q I1 (by simpa using rv) hw
def J0(to ti:TE)(t:EM):TG:=λv σ H Q=>to σ H λo H1=>ti σ H1 λi H2=>t o i v H2 λH3=>Q σ H3
theorem Ic{o i:Expr}{to ti:TE}{t:EM}(ho:PE X o to)(hi:PE X i ti)(hs:Jc X t)
  (ha:∀v,assign (.Subscript o i pos) X.env v=(do
   let ov <-holding [v] (eval o X.env)
   let iv <-holding [v,ov] (eval i X.env)
   standAt pos
   holding [v,ov,iv] (setItem ov iv v)
   release [v,ov,iv] []):=by intro _;rfl):PG X (.Subscript o i pos) (J0 to ti t):=by
 intro pins s σ H v u Q I r h;rw[ha];refine wpAny_bind (wpAny_holding (eR (ho pins s σ H _ I h) λov s1 ⟨x,H1,I1,r1,q1⟩=>?_));refine wpAny_bind (wpAny_holding (eR (hi pins s1 σ H1 _ I1 q1) λiv s2 ⟨y,H2,I2,r2,q2⟩=>?_));refine wpAny_bind (wpAny_standAt (wpAny_bind (wpAny_holding (eR (hs pins s2 σ H2 x y v ov iv u _ I2 r1 r2 r q2) λ_ s3 ⟨H3,I3,q3⟩=>?_))));exact wpAny_release ⟨σ,H3,I3,q3⟩
def uf(te:TE)(g:TG):TS:=λD σ H=>te σ H λx H1=>g x σ H1 D.nx
theorem IZ{tg e:Expr}{te:TE}{g:TG}(he:PE X e te)(hg:PG X tg g)(hs:swapsWithSole [tg] e pos.line X.env=pure false:=by rfl)(hw:swappedStores [tg] e X.env=pure none:=by rfl)
  (h1:(assignEach [tg] X.env).map (·.2)=[assign tg X.env]:=by rfl):PS X (.Assign [tg] e pos) (uf te g):=by
 intro pins s σ H D I h;refine wpAny_Assign_stores (eR (he pins s σ H _ I h) λv s1 ⟨x,H1,I1,r1,q1⟩=>?_) hs hw;rw[h1];exact eR (hg pins s1 σ H1 x v _ I1 r1 q1) λ_ s2 q=>q
theorem IW{i:Nat}{x:Str}{e:Expr}{te:TE}{pos':Pos}(hN:X.N.Nodup)(hi:X.N[i]? = some x)(hx:Loc X.env.scope x)(he:PE X e te)(hs:swapsWith e (some (.Name x pos')) pos.line X.env=pure false:=by rfl)(hf:X.fn x=true\/X.env.scope.names.lookup x=some .local:=by first | exact .inl rfl | exact .inr rfl | assumption):
  PS X (.Assign [.Name x pos'] e pos) (uf te (mY i)):=by
 intro pins s σ H D I h;refine wpAny_Assign_Name (eR (he pins s σ H _ I h) λv s1 ⟨y,H1,I1,r1,q1⟩=>?_) hs;exact v9 I1 hN hi hx r1 (λs2 I2=>⟨_,H1,I2,q1⟩) hf
def Ln(i:Nat)(te:TE)(ti:MJ):TS:=λD σ H=>∃x,σ[i]? = some (some x)/\te σ H λy H1=>ti x y H1 λz H2=>D.nx (σ.set i (some z)) H2
def M9(f:Int->Int->Int):MJ:=λx y H Q=>∃i j,x=.int i/\y=.int j/\Q (.int (f i j)) H
end
section
variable {X:Cx} {pos:Pos}
def CA(c:TT)(tb:TS):TS:=λD σ H=>∃W:Nat->St->Hp->Prop,(∃m,W m σ H)/\∀m σ H,W m σ H →
 c σ H λb H1=>if b=true then ∃N:St->Hp->Prop,(∀σ' H',N σ' H'->∃m',m'<m/\W m' σ' H')/\tb { D with nx:=N,ct:=N,bk:=D.nx } σ H1 else D.nx σ H1
theorem Cv{c:Expr}{body:List Stmt}{tc:TT}{tb:TS}(hp:PassesOwn (model X.prog X.w) X.A X.env X.xe)(hc:PT X c tc)(hb:xF X body tb):PS X (.While c body [] pos) (CA tc tb):=by
 intro pins s σ H D I h;obtain⟨W,⟨m0,w0⟩,turn⟩:=h;refine wpAny_While (codeAny_whileLoop (λn s'=>∃σ' H',bi X pins σ' H' s'/\W n σ' H') ?_ m0 ⟨σ,H,I,w0⟩);rintro n s1 ⟨σ1,H1,I1,w1⟩;refine wpAny_passesOwn hp (eR (hc pins s1 σ1 H1 _ I1 (turn n σ1 H1 w1)) λb s2 ⟨H2,I2,q2⟩=>?_);cases b with
 | true=>
  obtain⟨N,hN,q2⟩:=q2;rw[if_pos rfl];refine wpAny_passesOwn hp (eR (hb pins s2 σ1 H2 _ I2 q2) λf s3 q3=>?_);cases f with
  | next=>
   obtain⟨σ3,H3,I3,n3⟩:=q3;obtain⟨m',hm,w3⟩:=hN σ3 H3 n3;exact⟨m',hm,σ3,H3,I3,w3⟩
  | cont=>
   obtain⟨σ3,H3,I3,n3⟩:=q3;obtain⟨m',hm,w3⟩:=hN σ3 H3 n3;exact⟨m',hm,σ3,H3,I3,w3⟩
  | brk=>exact q3
  | ret v=>exact q3
 | false=>
  rw[if_neg a7];exact wpAny_execs_nil ⟨σ1,H2,I2,q2⟩
end
structure It where
 go:Nat->Hp->Prop
 yld:Nat->Hp->V->Hp->Prop
 stop:Nat->Hp->Prop
def k6(X:Cx)(pins:List (Addr×Obj))(H:Hp)(b:Addr):Prop:=
 H b=none/\b≠X.env.locals/\b∉X.fs/\(b∈X.ex\/X.s₀.heap.objs.size<=b)/\(∀x c,X.env.cells.lookup x=some c->c≠b)/\∀p∈X.pn++pins,p.1≠b
theorem bi.fpOk{X:Cx}{pins:List (Addr×Obj)}{σ:St}{H H':Hp}{s:Shared}{b:Addr}(I:bi X pins σ H s)(hb:s.heap.objs.size<=b)(hn:H' b=none):k6 X pins H' b:=by
 refine⟨hn,fb (aq I.lt hb),I.nofs hb,.inr (bU I.sz hb),λx c e z=>?_,λp hp z=>?_⟩
 ·obtain⟨v,q⟩:=I.cell x c e;exact absurd (aq q.lt (by rw[z];exact hb)) (dY _)
 ·exact absurd (aq (aN (I.pin p hp).1) (by rw[z];exact hb)) (dY _)
structure Turn (P : Program) (w : World) (K : PySem.W.Frag) (tg : Expr) (J : It) (fp : List Addr) (it : Addr) (tn : Nat → Heap → Prop) : Prop where
  mem : it ∈ fp
  obj : ∀ i h, tn i h → ∀ b ∈ fp, ∃ o, h.get? b = some o ∧ ∀ v, o.data ≠ .cell v
  keep : ∀ i h h', tn i h → (∀ b ∈ fp, ∀ o, h.get? b = some o → h'.get? b = some o) → tn i h'
  item : ∀ (X : Cx), X.prog = P → X.w = w → X.K = K → X.calm = true → ∀ (i : Nat) (pins : List (Addr × Obj)) (s : Shared) (σ : St) (H : Hp) (E : Value → Shared → Prop), bi X pins σ H s → (∀ b ∈ fp, k6 X pins H b) → tn i s.heap → J.go i H →
    wpAny (model P w) X.A (pyNext (.ref it)) (fun r s1 => ∃ u, r = some u ∧
      wpAny (model P w) X.A (letOwnedTupleGo tg (.ref it) u) (fun _ s2 => ∃ x H', bi X pins σ H' s2 ∧ RelV x u ∧ J.yld i H x H' ∧ tn (i + 1) s2.heap ∧ ∀ b ∈ fp, H' b = none) E s1) E s
  done : ∀ (X : Cx), X.prog = P → X.w = w → X.K = K → X.calm = true → ∀ (i : Nat) (pins : List (Addr × Obj)) (s : Shared) (σ : St) (H : Hp) (E : Value → Shared → Prop), bi X pins σ H s → (∀ b ∈ fp, k6 X pins H b) → tn i s.heap → J.stop i H →
    wpAny (model P w) X.A (pyNext (.ref it)) (fun r s1 => r = none ∧ bi X pins σ H s1) E s
  self : ∀ (A : Around) (i : Nat) (s : Shared) (Q : Value → Shared → Prop) (E : Value → Shared → Prop), tn i s.heap → Q (.ref it) s → wpAny (model P w) A (pyIter (.ref it)) Q E s
abbrev TI:=St->Hp->(It->Hp->Prop)->Prop
def MZ(X:Cx)(pins:List (Addr×Obj))(σ:St)(tg:Expr)(R:It->Hp->Prop)(itv:Value)(s2:Shared):Prop:=
 ∃(it:Addr) (fp:List Addr) (tn:Nat->Heap->Prop) (J:It) (H':Hp),itv=.ref it/\bi X pins σ H' s2/\Turn X.prog X.w X.K tg J fp it tn/\tn 0 s2.heap/\(∀b∈fp,k6 X pins H' b)/\R J H'
def PI(X:Cx)(tg iter:Expr)(wi:TI):Prop:=
 ∀(pins:List (Addr×Obj)) (s:Shared) (σ:St) (H:Hp) (R:It->Hp->Prop),bi X pins σ H s->wi σ H R →
  wpAny (model X.prog X.w) X.A (eval iter X.env) (λv s1=>wpAny (model X.prog X.w) X.A (pyIter v) (MZ X pins σ tg R) X.xe s1) X.xe s
theorem wg {M : Model} {A : Around} {E : Value → Shared → Prop} {s : Shared} {tg : Expr} {it : Addr} {u : Value} {o : Obj} {n : String} {vs : Array Value} {Q : Unit → Shared → Prop} (ho : s.heap.get? it = some o) (hc : o.cls = .type n) (hd : o.data = .fields vs)
    (hn : ["enumerate", "zip", "dict_itemiterator", "dict_reverseitemiterator", "odict_iterator", "itertools.zip_longest", "itertools.pairwise"].contains n = false) (hQ : Q () s) : wpAny M A (letOwnedTupleGo tg (.ref it) u) Q E s := by
  unfold letOwnedTupleGo
  cases tg <;> first
    | exact wpAny_pure hQ
    | (cases u <;> first
        | exact wpAny_pure hQ
        | (refine wpAny_bind (wpAny_load ho ?_)
           rw [hc, hd]
           show wpAny M A (if (["enumerate", "zip", "dict_itemiterator", "dict_reverseitemiterator", "odict_iterator", "itertools.zip_longest", "itertools.pairwise"].contains n && vs[0]? == some (rawInt _)) = true then _ else _) Q E s
           rw [if_neg (by intro h; rw [hn, jA] at h; cases h)]
           exact wpAny_pure hQ))
def GM(K:PySem.W.Frag)(a:Addr):It:=
 ⟨λi H=>∃xs x,bv K H a xs/\xs[i]? = some x,λi H x H'=>H'=H/\∀xs,bv K H a xs->xs[i]? = some x,λi H=>∃xs,bv K H a xs/\xs.length<=i⟩
def Gx(K:PySem.W.Frag)(a:Addr):It:=
 ⟨λi H=>∃xs x,dA K H a xs/\xs[i]? = some x,λi H x H'=>H'=H/\∀xs,dA K H a xs->xs[i]? = some x,λi H=>∃xs,dA K H a xs/\xs.length<=i⟩
def BU(lo:Int)(n:Nat):It:=⟨λi _=>i<n,λi H x H'=>H'=H/\x=.int (lo+i),λi _=>n<=i⟩
theorem AS {P : Program} {w : World} {K : PySem.W.Frag} {tg : Expr} (a it : Addr) : Turn P w K tg (GM K a) [it] it (fun i h => h.IsListIter it a i) where
  mem := by simp
  obj := fun i h st b hb => by
    have e : b = it := by simpa using hb
    subst e
    obtain ⟨o, e, c, d⟩ := st
    exact ⟨o, e, fun v z => by rw [d] at z; cases z⟩
  keep := fun i h h' st k => st.at fun o e => k it (by simp) o e
  item := by
    intro X hP hw hK hc i pins s σ H E I hf st hg
    subst hP hw hK
    obtain ⟨xs, x, hq, hx⟩ := hg
    obtain ⟨its, rv, p, hz⟩ := I.list hq
    obtain ⟨u, hu, ru⟩ := rv.get hx
    obtain ⟨f0, f1, f2, f3, f4, f5⟩ := hf it (by simp)
    refine wpAny_pyNext_list_item st p.isList (x := u) (by simpa using hu) fun h' st' sb => ?_
    have I1 : bi X pins σ H { s with heap := h' } := I.turned (t' := s.toks) (fun b o hb e => (sb.2 b hb).trans e) f0 f1 f3 f4 f5
    obtain ⟨o, e, c, d⟩ := id st'
    exact ⟨u, rfl, wg (s := { s with heap := h' }) e c d (by decide) ⟨x, H, I1, ru, ⟨rfl, fun ys hy => by rw [I.list_inj hy hq]; exact hx⟩, st', fun b hb => (hf b hb).1⟩⟩
  done := by
    intro X hP hw hK hc i pins s σ H E I hf st hg
    subst hP hw hK
    obtain ⟨xs, hq, hx⟩ := hg
    obtain ⟨its, rv, p, hz⟩ := I.list hq
    obtain ⟨f0, f1, f2, f3, f4, f5⟩ := hf it (by simp)
    have hl := rv.length
    exact wpAny_pyNext_list_end (I.ok.hd hc) st p.isList (by simp; omega) fun h' eb => ⟨rfl, I.turned (t' := s.toks) (fun b o hb e => eb b o hb e) f0 f1 f3 f4 f5⟩
  self := fun _ _ _ _ _ st h => wpAny_pyIter_listiter st h
theorem xP {P : Program} {w : World} {K : PySem.W.Frag} {tg : Expr} (a it : Addr) : Turn P w K tg (Gx K a) [it] it (fun i h => h.IsTupleIter it a i) where
  mem := by simp
  obj := fun i h st b hb => by
    have e : b = it := by simpa using hb
    subst e
    obtain ⟨o, e, c, d⟩ := st
    exact ⟨o, e, fun v z => by rw [d] at z; cases z⟩
  keep := fun i h h' st k => st.at fun o e => k it (by simp) o e
  item := by
    intro X hP hw hK hc i pins s σ H E I hf st hg
    subst hP hw hK
    obtain ⟨xs, x, hq, hx⟩ := hg
    obtain ⟨its, rv, p, hz⟩ := I.tuple hq
    obtain ⟨u, hu, ru⟩ := rv.get hx
    obtain ⟨f0, f1, f2, f3, f4, f5⟩ := hf it (by simp)
    refine wpAny_pyNext_tuple_item st (show s.heap.IsTuple a its.toArray from p) (x := u) (by simpa using hu) fun h' st' sb => ?_
    have I1 : bi X pins σ H { s with heap := h' } := I.turned (t' := s.toks) (fun b o hb e => (sb.2 b hb).trans e) f0 f1 f3 f4 f5
    obtain ⟨o, e, c, d⟩ := id st'
    exact ⟨u, rfl, wg (s := { s with heap := h' }) e c d (by decide) ⟨x, H, I1, ru, ⟨rfl, fun ys hy => by rw [I.tuple_inj hy hq]; exact hx⟩, st', fun b hb => (hf b hb).1⟩⟩
  done := by
    intro X hP hw hK hc i pins s σ H E I hf st hg
    subst hP hw hK
    obtain ⟨xs, hq, hx⟩ := hg
    obtain ⟨its, rv, p, hz⟩ := I.tuple hq
    obtain ⟨f0, f1, f2, f3, f4, f5⟩ := hf it (by simp)
    have hl := rv.length
    exact wpAny_pyNext_tuple_end (I.ok.hd hc) st (show s.heap.IsTuple a its.toArray from p) (by simp; omega) fun h' eb => ⟨rfl, I.turned (t' := s.toks) (fun b o hb e => eb b o hb e) f0 f1 f3 f4 f5⟩
  self := fun _ _ _ _ _ st h => wpAny_pyIter_tupleiter st h
theorem xQ {P : Program} {w : World} {K : PySem.W.Frag} {tg : Expr} (it : Addr) (lo : Int) (n : Nat) : Turn P w K tg (BU lo n) [it] it (fun i h => IsRangeIter h it (lo + (i : Nat) * 1) ((n : Int) - (i : Nat)) 1) where
  mem := by simp
  obj := fun i h st b hb => by
    have e : b = it := by simpa using hb
    subst e
    exact ⟨_, st, fun v z => by
      have z' : Data.fields _ = Data.cell v := z
      cases z'⟩
  keep := fun i h h' st k => k it (by simp) _ st
  item := by
    intro X hP hw hK hc i pins s σ H E I hf st hg
    subst hP hw hK
    obtain ⟨f0, f1, f2, f3, f4, f5⟩ := hf it (by simp)
    have W := Walks.range (prog := X.prog) (w := X.w) (I.ok.hd hc) it lo 1 n
    refine W.item i s _ _ hg st fun v h' tk hv st' kk => ?_
    obtain ⟨t, rfl⟩ := hv
    have I1 : bi X pins σ H { s with heap := h', toks := tk } := I.turned (fun b o hb e => kk b o (by simpa using hb) e) f0 f1 f3 f4 f5
    refine ⟨_, rfl, wg (s := { s with heap := h', toks := tk }) (n := "range_iterator") st' rfl rfl (by decide) ⟨.int (lo + i), H, I1, ⟨t, ?_⟩, ⟨rfl, rfl⟩, st', fun b hb => (hf b hb).1⟩⟩
    rw [Int.mul_one]
  done := by
    intro X hP hw hK hc i pins s σ H E I hf st hg
    subst hP hw hK
    obtain ⟨f0, f1, f2, f3, f4, f5⟩ := hf it (by simp)
    exact wpAny_pyNext_range_end (I.ok.hd hc) st (by have : n ≤ i := hg; omega) fun h' eb => ⟨rfl, I.turned (t' := s.toks) (fun b o hb e => eb b o hb e) f0 f1 f3 f4 f5⟩
  self := fun _ _ _ _ _ st h => wpAny_pyIter_rangeiter st h
section
variable {X:Cx} {tg:Expr}
def AE(K:PySem.W.Frag)(tl:TE):TI:=λσ H R=>tl σ H λx H1=>∃a,x=.ref a/\(∃xs,bv K H1 a xs)/\R (GM K a) H1
def Fp(K:PySem.W.Frag)(tl:TE):TI:=λσ H R=>tl σ H λx H1=>∃a,x=.ref a/\(∃xs,dA K H1 a xs)/\R (Gx K a) H1
theorem FI{l:Expr}{tl:TE}(hl:PE X l tl):PI X tg l (AE X.K tl):=by
 intro pins s σ H R I h;refine eR (hl pins s σ H _ I h) λv s1 ⟨x,H1,I1,r1,q1⟩=>?_;obtain⟨a,e,⟨xs,hq⟩,q⟩:=q1;subst e;cases r1;obtain⟨its,rv,p,hz⟩:=I1.list hq;refine wpAny_pyIter_list p.isList ?_;refine⟨s1.heap.objs.size,[s1.heap.objs.size],_,_,H1,rfl,I1.kept (t':=s1.toks) λb o e=>aB _ e,AS a _,⟨_,aO _ rfl,rfl,rfl⟩,λb hb=>?_,q⟩;have e:b=s1.heap.objs.size:=by simpa using hb
 subst e;exact I1.fpOk (aH _) (I1.hok.fresh (aH _))
theorem I9{l:Expr}{tl:TE}(hl:PE X l tl):PI X tg l (Fp X.K tl):=by
 intro pins s σ H R I h;refine eR (hl pins s σ H _ I h) λv s1 ⟨x,H1,I1,r1,q1⟩=>?_;obtain⟨a,e,⟨xs,hq⟩,q⟩:=q1;subst e;cases r1;obtain⟨its,rv,p,hz⟩:=I1.tuple hq;refine wpAny_pyIter_tuple (show s1.heap.IsTuple a its.toArray from p) ?_;refine⟨s1.heap.objs.size,[s1.heap.objs.size],_,_,H1,rfl,I1.kept (t':=s1.toks) λb o e=>aB _ e,xP a _,⟨_,aO _ rfl,rfl,rfl⟩,λb hb=>?_,q⟩;have e:b=s1.heap.objs.size:=by simpa using hb
 subst e;exact I1.fpOk (aH _) (I1.hok.fresh (aH _))
theorem wA{pins:List (Addr×Obj)}{σ:St}{H:Hp}{s:Shared}{R:It->Hp->Prop}{E:Value->Shared->Prop}{lo hi:Int}{t u v:Tok}{tk:Nat}(I:bi X pins σ H s)(h1:-(2 ^ 62)<=lo)(h2:lo<2 ^ 62)(h3:-(2 ^ 62)<=hi)(h4:hi<2 ^ 62)
  (q:R (BU lo (hi-lo).toNat) H):wpAny (model X.prog X.w) X.A (pyIter (.ref s.heap.objs.size)) (MZ X pins σ tg R) E { s with heap:=s.heap.push { cls:=.type "range",data:=.fields #[.int lo t,.int hi u,.int 1 v] },toks:=tk }:=by
 refine wpAny_pyIter_range (IsRange.new ..) (small_one h1 h2 h3 h4) ?_;have I1:bi X pins σ H { s with heap:=s.heap.push { cls:=.type "range",data:=.fields #[.int lo t,.int hi u,.int 1 v] },toks:=tk }:=I.kept λb o e=>aB _ e;refine⟨(s.heap.push { cls:=.type "range",data:=.fields #[.int lo t,.int hi u,.int 1 v] }).objs.size,[(s.heap.push { cls:=.type "range",data:=.fields #[.int lo t,.int hi u,.int 1 v] }).objs.size],_,_,H,rfl,
  I1.kept (t':=tk) λb o e=>aB _ e,xQ _ lo (hi-lo).toNat,?_,λb hb=>?_,q⟩
 ·have e1:lo+((0:Nat):Int)*1=lo:=by simp
  have e2:(((hi-lo).toNat:Nat):Int)-((0:Nat):Int)=Builtin.Range.rangeSize lo hi 1:=by rw[rangeSize_one];split<;>omega
  show IsRangeIter _ _ (lo+((0:Nat):Int)*1) ((((hi-lo).toNat:Nat):Int)-((0:Nat):Int)) 1;rw[e1,e2];exact aO _ rfl
 ·have e:b=(s.heap.push { cls:=.type "range",data:=.fields #[.int lo t,.int hi u,.int 1 v] }).objs.size:=by simpa using hb
  subst e;exact I1.fpOk (aH _) (I1.hok.fresh (aH _))
def AD(ta:TA):TI:=λσ H R=>ta σ H λvs H1=>∃j:Int,vs=[.int j]/\-(2 ^ 62)<=j/\j<2 ^ 62/\R (BU 0 j.toNat) H1
def AC(ta:TA):TI:=λσ H R=>ta σ H λvs H1=>∃i j:Int,vs=[.int i,.int j]/\(-(2 ^ 62)<=i/\i<2 ^ 62/\-(2 ^ 62)<=j/\j<2 ^ 62)/\R (BU i (j-i).toNat) H1
theorem Ad {a:Expr} {ta:TA} {p pos:Pos} (hg:Gl X "range") (hm:X.mg "range"=none) (ha:PA X [a] ta) (hs:starEach [a] X.env=[(false,eval a X.env)]:=by rfl):PI X tg (.Call (.Name "range" p) [a] [] pos) (AD ta):=by
 intro pins s σ H R I h;refine Call_ (jT I hg hm boot_range (bj (eR (ha pos pins s σ H _ I h) λus s1 ⟨vs,H1,I1,r1,q1⟩=>?_) hs rfl));obtain⟨j,e,q1,q2,q⟩:=q1;subst e;cases r1 with
 | cons r rr=>
  cases rr;obtain⟨t,rfl⟩:=r;exact call_range_1 (wA I1 (by omega) (by omega) q1 q2 (by simpa using q))
theorem Ac {a b:Expr} {ta:TA} {p pos:Pos} (hg:Gl X "range") (hm:X.mg "range"=none) (ha:PA X [a,b] ta) (hs:starEach [a,b] X.env=[(false,eval a X.env),(false,eval b X.env)]:=by rfl) (hs2:starEach [b] X.env=[(false,eval b X.env)]:=by rfl) :
  PI X tg (.Call (.Name "range" p) [a,b] [] pos) (AC ta):=by
 intro pins s σ H R I h;refine Call_ (jT I hg hm boot_range (bj (eR (ha pos pins s σ H _ I h) λus s1 ⟨vs,H1,I1,r1,q1⟩=>?_) (by rw[hs,hs2]) (by rw[hs2];rfl)));obtain⟨i,j,e,⟨q1,q2,q3,q4⟩,q⟩:=q1;subst e;cases r1 with
 | cons r rr=>
  cases rr with
  | cons r' rr=>
   cases rr;obtain⟨t,rfl⟩:=r;obtain⟨t',rfl⟩:=r';exact call_range_2 (wA I1 q1 q2 q3 q4 q)
def qY(wi:TI)(g:TG)(tb:TS):TS:=λD σ H=>wi σ H λJ H1=>∃W:Nat->Nat->St->Hp->Prop,(∃m,W 0 m σ H1)/\∀i m σ H,W i m σ H →
 (J.stop i H/\D.nx σ H)\/(J.go i H/\∃N:St->Hp->Prop,(∀σ' H',N σ' H'->∃m',m'<m/\W (i+1) m' σ' H')/\∀x H',J.yld i H x H'->g x σ H' λσ2 H2=>tb { D with nx:=N,ct:=N,bk:=D.nx } σ2 H2)
def mE(fp:List Addr)(h:Heap):List (Addr×Obj):=fp.filterMap λb=>(h.get? b).map λo=>(b,o)
theorem iL{fp:List Addr}{h:Heap}{b:Addr}{o:Obj}(hb:b∈fp)(e:h.get? b=some o):(b,o)∈mE fp h:=List.mem_filterMap.mpr ⟨b,hb,by rw[e];rfl⟩
theorem uH{fp:List Addr}{h:Heap}{p:Addr×Obj}(hp:p∈mE fp h):p.1∈fp/\h.get? p.1=some p.2:=by
 obtain⟨b,hb,e⟩:=List.mem_filterMap.mp hp;cases q:h.get? b with
 | none=>rw[q] at e;cases e
 | some o=>
  rw[q] at e;have e':(b,o)=p:=bD e;subst e';exact⟨hb,q⟩
theorem bi.pinned{pins:List (Addr×Obj)}{σ:St}{H:Hp}{s:Shared}{fp:List Addr}(I:bi X pins σ H s)(hf:∀b∈fp,k6 X pins H b)(ho:∀b∈fp,∃o,s.heap.get? b=some o/\∀v,o.data≠.cell v):bi X (pins++mE fp s.heap) σ H s:=
 I.pins_of λp hp=>(aU.mp hp).elim (λz=>I.pin p (bI _ z)) λz=>by
  obtain⟨hb,e⟩:=uH z;obtain⟨f0,f1,f2,_⟩:=hf p.1 hb;obtain⟨o,e',d⟩:=ho p.1 hb;rw[e] at e';cases e';exact⟨e,f0,f1,f2,d⟩
theorem bi.unpinned{pins pl:List (Addr×Obj)}{σ:St}{H:Hp}{s:Shared}(I:bi X (pins++pl) σ H s):bi X pins σ H s:=I.pins_of λp hp=>I.pin p (bI _ (bu _ hp))
theorem IY{iter:Expr}{body:List Stmt}{wi:TI}{g:TG}{tb:TS}{pos:Pos}(hp:PassesOwn (model X.prog X.w) X.A X.env X.xe)(hc:X.calm=true)(hi:PI X tg iter wi)(hg:PG X tg g)(hb:xF X body tb)
  (hs:∀x,foldedSetIterable iter X.env x=pure x:=by intro _;rfl):PS X (.For tg iter body [] pos) (qY wi g tb):=by
 intro pins s σ H D I h;refine wpAny_For (eR (hi pins s σ H _ I h) λv s1 h1=>eR h1 λitv s2 h2=>?_) hs;obtain⟨it,fp,tn,J,H2,e,I2,T,st2,f2,W,⟨m0,w0⟩,turn⟩:=h2;subst e;have stat:∀{H':Hp},(∀b∈fp,H' b=none)->∀b∈fp,k6 X pins H' b:=λhn b hb=>⟨hn b hb,(f2 b hb).2⟩
 refine codeAny_forLoop_any (λn s'=>∃i σ' H',bi X pins σ' H' s'/\tn i s'.heap/\(∀b∈fp,H' b=none)/\W i n σ' H') ?_ m0 ⟨0,σ,H2,I2,st2,λb hb=>(f2 b hb).1,w0⟩;rintro n s3 ⟨i,σ3,H3,I3,st3,fr3,w3⟩;rcases turn i n σ3 H3 w3 with ⟨stop,qn⟩ | ⟨go,N,hN,step⟩
 ·refine wpAny_passesOwn hp (eR (T.done X rfl rfl rfl hc i pins s3 σ3 H3 X.xe I3 (stat fr3) st3 stop) λr s4 ⟨hr,I4⟩=>?_);subst hr;exact wpAny_execs_nil ⟨σ3,H3,I4,qn⟩
 ·refine wpAny_passesOwn hp (eR (T.item X rfl rfl rfl hc i pins s3 σ3 H3 X.xe I3 (stat fr3) st3 go) λr s4 ⟨u,hr,h4⟩=>?_);subst hr;refine wpAny_passesOwn hp (eR h4 λ_ s5 ⟨x,H5,I5,r5,y5,st5,fr5⟩=>?_);have I5':=I5.pinned (stat fr5) (T.obj _ _ st5);refine wpAny_passesOwn hp (eR (hg _ s5 σ3 H5 x u _ I5' r5 (step x H5 y5)) λ_ s6 ⟨σ6,H6,I6,q6⟩=>?_);refine wpAny_passesOwn hp (eR (hb _ s6 σ6 H6 _ I6 q6) λf s7 q7=>?_);have again:∀{σ7:St} {H7:Hp},bi X (pins++mE fp s5.heap) σ7 H7 s7->N σ7 H7->∃m,m<n/\∃i σ' H',bi X pins σ' H' s7/\tn i s7.heap/\(∀b∈fp,H' b=none)/\W i m σ' H':=fun {σ7 H7} I7 n7=>by
   obtain⟨m',hm,w7⟩:=hN σ7 H7 n7;refine⟨m',hm,i+1,σ7,H7,I7.unpinned,T.keep _ _ _ st5 λb hb o e=>(I7.pin (b,o) (bI _ (bI _ (iL hb e)))).1,λb hb=>?_,w7⟩;obtain⟨o,e,d⟩:=T.obj _ _ st5 b hb;exact(I7.pin (b,o) (bI _ (bI _ (iL hb e)))).2.1
  cases f with
  | next=>obtain⟨σ7,H7,I7,n7⟩:=q7;exact again I7 n7
  | cont=>obtain⟨σ7,H7,I7,n7⟩:=q7;exact again I7 n7
  | brk=>obtain⟨σ7,H7,I7,q7⟩:=q7;exact⟨σ7,H7,I7.unpinned,q7⟩
  | ret v=>obtain⟨x7,σ7,H7,I7,r7,q7⟩:=q7;exact⟨x7,σ7,H7,I7.unpinned,r7,q7⟩
end
theorem g6{K:PySem.W.Frag}{a:Addr}{xs:List V}{g:TG}{tb:TS}{D:Ends}{σ:St}{H:Hp}(Pv:Nat->St->Hp->Prop)(h0:Pv 0 σ H)(hl:∀i σ H,i<=xs.length->Pv i σ H->bv K H a xs)
  (hs:∀i x σ H,xs[i]? = some x->Pv i σ H->g x σ H λσ2 H2=>tb { D with nx:=Pv (i+1),ct:=Pv (i+1),bk:=D.nx } σ2 H2) (hd:∀σ H,Pv xs.length σ H->D.nx σ H) :
  ∃W:Nat->Nat->St->Hp->Prop,(∃m,W 0 m σ H)/\∀i m σ H,W i m σ H →
   ((GM K a).stop i H/\D.nx σ H)\/((GM K a).go i H/\∃N:St->Hp->Prop,(∀σ' H',N σ' H'->∃m',m'<m/\W (i+1) m' σ' H')/\∀x H',(GM K a).yld i H x H'->g x σ H' λσ2 H2=>tb { D with nx:=N,ct:=N,bk:=D.nx } σ2 H2):=by
 refine⟨λi m σ H=>m=xs.length-i/\i<=xs.length/\Pv i σ H,⟨xs.length,by simp,a6 _,h0⟩,?_⟩;rintro i m σ H ⟨rfl,hi,p⟩;have q:=hl i σ H hi p;by_cases hlt:i<xs.length
 ·refine .inr ⟨⟨xs,xs[i],q,by simp[hlt]⟩,Pv (i+1),λσ' H' p'=>⟨xs.length-(i+1),by omega,rfl,hlt,p'⟩,λx H' y=>?_⟩;obtain⟨e,y⟩:=y;subst e;exact hs i x σ _ (y xs q) p
 ·have e:i=xs.length:=by omega
  subst e;exact .inl ⟨⟨xs,q,aH _⟩,hd σ H p⟩
theorem vH{K:PySem.W.Frag}{a:Addr}{xs:List V}{g:TG}{tb:TS}{D:Ends}{σ:St}{H:Hp}(Pv:Nat->St->Hp->Prop)(h0:Pv 0 σ H)(hl:∀i σ H,i<=xs.length->Pv i σ H->dA K H a xs)
  (hs:∀i x σ H,xs[i]? = some x->Pv i σ H->g x σ H λσ2 H2=>tb { D with nx:=Pv (i+1),ct:=Pv (i+1),bk:=D.nx } σ2 H2) (hd:∀σ H,Pv xs.length σ H->D.nx σ H) :
  ∃W:Nat->Nat->St->Hp->Prop,(∃m,W 0 m σ H)/\∀i m σ H,W i m σ H →
   ((Gx K a).stop i H/\D.nx σ H)\/((Gx K a).go i H/\∃N:St->Hp->Prop,(∀σ' H',N σ' H'->∃m',m'<m/\W (i+1) m' σ' H')/\∀x H',(Gx K a).yld i H x H'->g x σ H' λσ2 H2=>tb { D with nx:=N,ct:=N,bk:=D.nx } σ2 H2):=by
 refine⟨λi m σ H=>m=xs.length-i/\i<=xs.length/\Pv i σ H,⟨xs.length,by simp,a6 _,h0⟩,?_⟩;rintro i m σ H ⟨rfl,hi,p⟩;have q:=hl i σ H hi p;by_cases hlt:i<xs.length
 ·refine .inr ⟨⟨xs,xs[i],q,by simp[hlt]⟩,Pv (i+1),λσ' H' p'=>⟨xs.length-(i+1),by omega,rfl,hlt,p'⟩,λx H' y=>?_⟩;obtain⟨e,y⟩:=y;subst e;exact hs i x σ _ (y xs q) p
 ·have e:i=xs.length:=by omega
  subst e;exact .inl ⟨⟨xs,q,aH _⟩,hd σ H p⟩
theorem fV{lo:Int}{n:Nat}{g:TG}{tb:TS}{D:Ends}{σ:St}{H:Hp}(Pv:Nat->St->Hp->Prop)(h0:Pv 0 σ H)
  (hs:∀i σ H,i<n->Pv i σ H->g (.int (lo+i)) σ H λσ2 H2=>tb { D with nx:=Pv (i+1),ct:=Pv (i+1),bk:=D.nx } σ2 H2) (hd:∀σ H,Pv n σ H->D.nx σ H) :
  ∃W:Nat->Nat->St->Hp->Prop,(∃m,W 0 m σ H)/\∀i m σ H,W i m σ H →
   ((BU lo n).stop i H/\D.nx σ H)\/((BU lo n).go i H/\∃N:St->Hp->Prop,(∀σ' H',N σ' H'->∃m',m'<m/\W (i+1) m' σ' H')/\∀x H',(BU lo n).yld i H x H'->g x σ H' λσ2 H2=>tb { D with nx:=N,ct:=N,bk:=D.nx } σ2 H2):=by
 refine⟨λi m σ H=>m=n-i/\i<=n/\Pv i σ H,⟨n,by simp,a6 _,h0⟩,?_⟩;rintro i m σ H ⟨rfl,hi,p⟩;by_cases hlt:i<n
 ·refine .inr ⟨hlt,Pv (i+1),λσ' H' p'=>⟨n-(i+1),by omega,rfl,hlt,p'⟩,λx H' y=>?_⟩;obtain⟨e,y⟩:=y;subst e y;exact hs i σ _ hlt p
 ·have e:i=n:=by omega
  subst e;exact .inl ⟨aH _,hd σ H p⟩
abbrev R2:=V->V->Hp->VK->Prop
def nQ(X:Cx)(f:Value->Value->Sem Value)(r:R2):Prop:=
 ∀(pins:List (Addr×Obj)) (s:Shared) (σ:St) (H:Hp) (x y:V) (v u:Value) (Q:VK),bi X pins σ H s->RelV x v->RelV y u->r x y H Q →
  wpAny (model X.prog X.w) X.A (f v u) (EP X pins σ Q) X.xe s
def L7(X:Cx)(f:Value->Sem Value)(r:V->Hp->VK->Prop):Prop:=
 ∀(pins:List (Addr×Obj)) (s:Shared) (σ:St) (H:Hp) (x:V) (v:Value) (Q:VK),bi X pins σ H s->RelV x v->r x H Q →
  wpAny (model X.prog X.w) X.A (f v) (EP X pins σ Q) X.xe s
def iY(X:Cx)(f:Value)(r:List V->Hp->VK->Prop):Prop:=
 ∀(pins:List (Addr×Obj)) (s:Shared) (σ:St) (H:Hp) (xs:List V) (us:List Value) (Q:VK),bi X pins σ H s->cO xs us->r xs H Q →
  wpAny (model X.prog X.w) X.A (call f us) (EP X pins σ Q) X.xe s
def MI(X:Cx)(r:V->Hp->(Bool->Hp->Prop)->Prop):Prop:=
 ∀(pins:List (Addr×Obj)) (s:Shared) (σ:St) (H:Hp) (x:V) (v:Value) (Q:Bool->Hp->Prop),bi X pins σ H s->RelV x v->r x H Q →
  wpAny (model X.prog X.w) X.A (truthy v) (TP X pins σ Q) X.xe s
def CC(r:R2)(ta tb:TE):TE:=λσ H Q=>ta σ H λx H1=>tb σ H1 λy H2=>r x y H2 Q
def Lh(r:V->Hp->VK->Prop)(ta:TE):TE:=λσ H Q=>ta σ H λx H1=>r x H1 Q
def rI(C:Int->Int->Prop)(g:Int->Int->V):R2:=λx y H Q=>∃i j,x=.int i/\y=.int j/\C i j/\Q (g i j) H
def Gn(g:Int->Int->V):R2:=λx y H Q=>∃i j,x=.int i/\y=.int j/\Q (g i j) H
def rU(g:Int->V):V->Hp->VK->Prop:=λx H Q=>∃i,x=.int i/\Q (g i) H
section
variable {X:Cx} {a b:Expr} {ta tb:TE} {pos:Pos}
theorem J8(ha:PE X a ta)(hb:PE X b tb){pins:List (Addr×Obj)}{s:Shared}{σ:St}{H:Hp}{R:V->V->Hp->Prop}(I:bi X pins σ H s)
  (h:ta σ H λx H1=>tb σ H1 λy H2=>R x y H2) {Q:Value->Shared->Prop} {f:Value->Value->Sem Value}
  (hf:∀v u s2 x y H2,bi X pins σ H2 s2->RelV x v->RelV y u->R x y H2->wpAny (model X.prog X.w) X.A (f v u) Q X.xe s2) :
  wpAny (model X.prog X.w) X.A (eval a X.env) (λv s₁=>wpAny (model X.prog X.w) X.A (eval b X.env) (λu s₂=>wpAny (model X.prog X.w) X.A (f v u) Q X.xe s₂) X.xe s₁) X.xe s:=by
 refine eR (ha pins s σ H _ I h) λv s1 ⟨x,H1,I1,r1,q1⟩=>?_;refine eR (hb pins s1 σ H1 _ I1 q1) λu s2 ⟨y,H2,I2,r2,q2⟩=>?_;exact hf v u s2 x y H2 I2 r1 r2 q2
theorem Kv{op:Operator}{r:R2}(ho:nQ X (binaryOp op) r)(ha:PE X a ta)(hb:PE X b tb):PE X (.BinOp a op b pos) (CC r ta tb):=by
 intro pins s σ H Q I h;exact wpAny_BinOp (J8 ha hb I h λv u s2 x y H2 I2 rx ry q=>ho pins s2 σ H2 x y v u Q I2 rx ry q)
theorem Kt{op:UnaryOp}{r:V->Hp->VK->Prop}(ho:L7 X (unaryOp op) r)(ha:PE X a ta):PE X (.UnaryOp op a pos) (Lh r ta):=by
 intro pins s σ H Q I h;exact UnaryOp_ (eR (ha pins s σ H _ I h) λv s1 ⟨x,H1,I1,r1,q1⟩=>ho pins s1 σ H1 x v Q I1 r1 q1)
theorem L5{f:Value->Value->Sem Value}{C:Int->Int->Prop}{g:Int->Int->Int}
  (rule:∀(i j:Int) (t u:Tok) (s:Shared) (Q:Value->Shared->Prop) (E:Value->Shared->Prop),C i j->Q (.int (g i j) s.toks) { s with toks:=s.toks+1 }->wpAny (model X.prog X.w) X.A (f (.int i t) (.int j u)) Q E s) :
  nQ X f (rI C λi j=>.int (g i j)):=by
 intro pins s σ H x y v u Q I rx ry h;obtain⟨i,j,rfl,rfl,hc,q⟩:=h;obtain⟨t,rfl⟩:=rx;obtain⟨t',rfl⟩:=ry;exact rule i j t t' s _ _ hc ⟨.int (g i j),H,I.tok _,⟨_,rfl⟩,q⟩
theorem LB{f:Value->Value->Sem Value}{g:Int->Int->Int}
  (rule:∀(i j:Int) (t u:Tok) (s:Shared) (Q:Value->Shared->Prop) (E:Value->Shared->Prop),Q (.int (g i j) s.toks) { s with toks:=s.toks+1 }->wpAny (model X.prog X.w) X.A (f (.int i t) (.int j u)) Q E s) :
  nQ X f (Gn λi j=>.int (g i j)):=by
 intro pins s σ H x y v u Q I rx ry h;obtain⟨i,j,rfl,rfl,q⟩:=h;obtain⟨t,rfl⟩:=rx;obtain⟨t',rfl⟩:=ry;exact rule i j t t' s _ _ ⟨.int (g i j),H,I.tok _,⟨_,rfl⟩,q⟩
theorem JA{f:Value->Value->Sem Value}{g:Int->Int->Bool}
  (rule:∀(i j:Int) (t u:Tok) (s:Shared) (Q:Value->Shared->Prop) (E:Value->Shared->Prop),Q (.bool (g i j)) s->wpAny (model X.prog X.w) X.A (f (.int i t) (.int j u)) Q E s) :
  nQ X f (Gn λi j=>.bl (g i j)):=by
 intro pins s σ H x y v u Q I rx ry h;obtain⟨i,j,rfl,rfl,q⟩:=h;obtain⟨t,rfl⟩:=rx;obtain⟨t',rfl⟩:=ry;exact rule i j t t' s _ _ ⟨.bl (g i j),H,I,rfl,q⟩
def MP(i j:Int):Prop:=0<j/\j<1073741824
def MO(i j:Int):Prop:=0<=j/\j<=1000000/\i.natAbs<2 ^ 64
def Jj(i j:Int):Prop:=(-(2 ^ 64)<i/\i<2 ^ 64)\/(-(2 ^ 64)<j/\j<2 ^ 64)
theorem Jj.ok{i j:Int}(h:Jj i j):IntMulOk i j:=by
 rcases h with ⟨h1,h2⟩ | ⟨h1,h2⟩
 ·exact .of_left (intBits_le_64 h1 h2)
 ·exact .of_right (intBits_le_64 h1 h2)
theorem c7:nQ X (binaryOp .Add) (Gn λi j=>.int (i+j)):=LB λ_ _ _ _ _ _ _ q=>add_int q
theorem fw:nQ X (binaryOp .Sub) (Gn λi j=>.int (i-j)):=LB λ_ _ _ _ _ _ _ q=>sub_int q
theorem ef:nQ X (binaryOp .Mult) (rI Jj λi j=>.int (i*j)):=L5 λ_ _ _ _ _ _ _ hc q=>mul_int q hc.ok
theorem pE:nQ X (binaryOp .FloorDiv) (rI MP λi j=>.int (i / j)):=L5 λi j _ _ _ _ _ hc q=>by
 have h1:(0:Int)<j:=hc.1;have h2:j<1073741824:=hc.2;exact floordiv_int (by omega) (by rw[Int.fdiv_eq_ediv_of_nonneg i (by omega)];exact q) (.inl (PyProof.noPylong_small (by omega)))
theorem kP:nQ X (binaryOp .Mod) (rI (λ_ j=>0<j) λi j=>.int (i % j)):=L5 λi j _ _ _ _ _ hc q=>by
 have h1:(0:Int)<j:=hc;exact mod_int' (by omega) (by rw[Int.fmod_eq_emod_of_nonneg i (by omega)];exact q)
theorem Iy:nQ X (binaryOp .Pow) (rI MO λi j=>.int (i ^ j.toNat)):=L5 λ_ _ _ _ _ _ _ hc q=>pow_int_small hc.1 hc.2.1 hc.2.2 q
theorem M4{f:Value->Sem Value}{g:Int->Int}
  (rule:∀(i:Int) (t:Tok) (s:Shared) (Q:Value->Shared->Prop) (E:Value->Shared->Prop),Q (.int (g i) s.toks) { s with toks:=s.toks+1 }->wpAny (model X.prog X.w) X.A (f (.int i t)) Q E s) :
  L7 X f (rU λi=>.int (g i)):=by
 intro pins s σ H x v Q I rx h;obtain⟨i,rfl,q⟩:=h;obtain⟨t,rfl⟩:=rx;exact rule i t s _ _ ⟨.int (g i),H,I.tok _,⟨_,rfl⟩,q⟩
theorem u6:L7 X (unaryOp .USub) (rU λi=>.int (-i)):=M4 λ_ _ _ _ _ q=>neg_int q
end
def IB:V->V->Bool
 | .non,.non=>true | .non,.int _=>true | .int _,.non=>true | .non,.bl _=>true | .bl _,.non=>true | .non,.str _=>true | .str _,.non=>true
 | .int _,.int _=>true | .bl _,.bl _=>true | .str _,.str _=>true | .byt _,.byt _=>true
 | .int _,.str _=>true | .str _,.int _=>true | .bl _,.str _=>true | .str _,.bl _=>true
 | _,_=>false
def L3:R2:=λx y H Q=>IB x y=true/\Q (.bl (decide (x=y))) H
def L1:R2:=λx y H Q=>IB x y=true/\Q (.bl (!decide (x=y))) H
theorem AL{i j:Int}:decide (V.int i=V.int j)=(i==j):=by
 rw[d6];simp
theorem EG{i j:Bool}:decide (V.bl i=V.bl j)=(i==j):=by
 rw[d6];simp
theorem AK{i j:Str}:decide (V.str i=V.str j)=(i==j):=by
 rw[d6];simp
theorem AM{i j:Array UInt8}:decide (V.byt i=V.byt j)=(i.toList==j.toList):=by
 rw[d6];cases i;cases j;simp
section
variable {X:Cx} {a b:Expr} {ta tb tc:TE} {pos:Pos}
theorem dP{pins:List (Addr×Obj)}{σ:St}{H:Hp}{s:Shared}{Q:VK}{k k':Bool}(I:bi X pins σ H s)(q:Q (.bl k) H)(e:k=k'):EP X pins σ Q (.bool k') s:=by
 subst e;exact⟨.bl k,H,I,rfl,q⟩
theorem gx:nQ X (compareOp .Eq) L3:=by
 intro pins s σ H x y v u Q I rx ry h;obtain⟨hs,q⟩:=h;cases x with
 | non=>
  cases rx;cases y with
  | non=>cases ry;exact PySem.EqNone.eq_none_none (dP I q (by simp))
  | bl j=>cases ry;exact PySem.EqNone.eq_none_bool (dP I q (by simp))
  | int j=>obtain⟨t',rfl⟩:=ry;exact PySem.EqNone.eq_none_int (dP I q (by simp))
  | str j=>obtain⟨t',rfl⟩:=ry;exact PySem.EqNone.eq_none_str (dP I q (by simp))
  | _=>exact absurd (show false=true from hs) a7
 | bl i=>
  cases rx;cases y with
  | non=>cases ry;exact PySem.EqNone.eq_bool_none (dP I q (by simp))
  | bl j=>cases ry;exact eq_bool (dP I q EG)
  | str j=>obtain⟨t',rfl⟩:=ry;exact PySem.EqMixed.eq_bool_str (dP I q (by simp))
  | _=>exact absurd (show false=true from hs) a7
 | int i=>
  obtain⟨t,rfl⟩:=rx;cases y with
  | non=>cases ry;exact PySem.EqNone.eq_int_none (dP I q (by simp))
  | int j=>obtain⟨t',rfl⟩:=ry;exact eq_int (dP I q AL)
  | str j=>obtain⟨t',rfl⟩:=ry;exact PySem.EqMixed.eq_int_str (dP I q (by simp))
  | _=>exact absurd (show false=true from hs) a7
 | str i=>
  obtain⟨t,rfl⟩:=rx;cases y with
  | non=>cases ry;exact PySem.EqNone.eq_str_none (dP I q (by simp))
  | bl j=>cases ry;exact PySem.EqMixed.eq_str_bool (dP I q (by simp))
  | int j=>obtain⟨t',rfl⟩:=ry;exact PySem.EqMixed.eq_str_int (dP I q (by simp))
  | str j=>obtain⟨t',rfl⟩:=ry;exact eq_str (dP I q AK)
  | _=>exact absurd (show false=true from hs) a7
 | byt i=>
  obtain⟨t,rfl⟩:=rx;cases y with
  | byt j=>obtain⟨t',rfl⟩:=ry;exact PySem.W.eq_bytes (dP I q AM)
  | _=>exact absurd (show false=true from hs) a7
 | _=>cases y<;>exact absurd (show false=true from hs) a7
theorem uG:nQ X (compareOp .NotEq) L1:=by
 intro pins s σ H x y v u Q I rx ry h;obtain⟨hs,q⟩:=h;cases x with
 | non=>
  cases rx;cases y with
  | non=>cases ry;exact PySem.EqNone.ne_none_none (dP I q (by simp))
  | bl j=>cases ry;exact PySem.EqNone.ne_none_bool (dP I q (by simp))
  | int j=>obtain⟨t',rfl⟩:=ry;exact PySem.EqNone.ne_none_int (dP I q (by simp))
  | str j=>obtain⟨t',rfl⟩:=ry;exact PySem.EqNone.ne_none_str (dP I q (by simp))
  | _=>exact absurd (show false=true from hs) a7
 | bl i=>
  cases rx;cases y with
  | non=>cases ry;exact PySem.EqNone.ne_bool_none (dP I q (by simp))
  | bl j=>cases ry;exact ne_bool (dP I q (congrArg not EG))
  | str j=>obtain⟨t',rfl⟩:=ry;exact PySem.EqMixed.ne_bool_str (dP I q (by simp))
  | _=>exact absurd (show false=true from hs) a7
 | int i=>
  obtain⟨t,rfl⟩:=rx;cases y with
  | non=>cases ry;exact PySem.EqNone.ne_int_none (dP I q (by simp))
  | int j=>obtain⟨t',rfl⟩:=ry;exact ne_int (dP I q (congrArg not AL))
  | str j=>obtain⟨t',rfl⟩:=ry;exact PySem.EqMixed.ne_int_str (dP I q (by simp))
  | _=>exact absurd (show false=true from hs) a7
 | str i=>
  obtain⟨t,rfl⟩:=rx;cases y with
  | non=>cases ry;exact PySem.EqNone.ne_str_none (dP I q (by simp))
  | bl j=>cases ry;exact PySem.EqMixed.ne_str_bool (dP I q (by simp))
  | int j=>obtain⟨t',rfl⟩:=ry;exact PySem.EqMixed.ne_str_int (dP I q (by simp))
  | str j=>obtain⟨t',rfl⟩:=ry;exact ne_str (dP I q (congrArg not AK))
  | _=>exact absurd (show false=true from hs) a7
 | byt i=>
  obtain⟨t,rfl⟩:=rx;cases y with
  | byt j=>obtain⟨t',rfl⟩:=ry;exact PySem.W.ne_bytes (dP I q (congrArg not AM))
  | _=>exact absurd (show false=true from hs) a7
 | _=>cases y<;>exact absurd (show false=true from hs) a7
theorem nG:nQ X (compareOp .Lt) (Gn λi j=>.bl (decide (i<j))):=JA λ_ _ _ _ _ _ _ q=>lt_int q
theorem LA:nQ X (compareOp .LtE) (Gn λi j=>.bl (decide (i<=j))):=JA λ_ _ _ _ _ _ _ q=>le_int q
theorem qU:nQ X (compareOp .Gt) (Gn λi j=>.bl (decide (j<i))):=JA λ_ _ _ _ _ _ _ q=>gt_int q
theorem oB:nQ X (compareOp .In) (λx y H Q=>∃i j,x=.str i/\y=.str j/\Q (.bl (!(Builtin.Str.occurrences j i 0 j.length 1).isEmpty)) H):=by
 intro pins s σ H x y v u Q I rx ry h;obtain⟨i,j,rfl,rfl,q⟩:=h;obtain⟨t,rfl⟩:=rx;obtain⟨t',rfl⟩:=ry;exact in_str (dP I q rfl)
theorem Iz:nQ X (compareOp .Is) (λx y H Q=>y=.non/\Q (.bl (decide (x=.non))) H):=by
 intro pins s σ H x y v u Q I rx ry h;obtain⟨rfl,q⟩:=h;cases ry;refine is_none_gen (dP I q ?_);cases x<;>first
  | (cases rx;rfl)
  | (obtain⟨t,rfl⟩:=rx;rfl)
theorem zj:nQ X (compareOp .IsNot) (λx y H Q=>y=.non/\Q (.bl (!decide (x=.non))) H):=by
 intro pins s σ H x y v u Q I rx ry h;obtain⟨rfl,q⟩:=h;cases ry;refine isnot_none_gen (dP I q ?_);cases x<;>first
  | (cases rx;rfl)
  | (obtain⟨t,rfl⟩:=rx;rfl)
theorem bq(b:Expr){op:CmpOp}(h:op≠.In:=by decide)(h2:op≠.NotIn:=by decide):behindInMarks op b=false:=by
 have e1:(op==CmpOp.In)=false:=by cases op<;>first | rfl | exact absurd rfl h
 have e2:(op==CmpOp.NotIn)=false:=by cases op<;>first | rfl | exact absurd rfl h2
 cases b<;>simp[behindInMarks,e1,e2]
theorem FR{op:CmpOp}{r:R2}(ho:nQ X (compareOp op) r)(ha:PE X a ta)(hb:PE X b tb)(hm:behindInMarks op b=false):PE X (.Compare a [op] [b] pos) (CC r ta tb):=by
 intro pins s σ H Q I h;exact wpAny_Compare1 (J8 ha hb I h λv u s2 x y H2 I2 rx ry q=>ho pins s2 σ H2 x y v u Q I2 rx ry q) hm
def v8(t:TE):TT:=λσ H Q=>t σ H λx H'=>∃k,x=.bl k/\Q k H'
theorem Ey{op:CmpOp}{r:R2}(ho:nQ X (compareOp op) r)(ha:PE X a ta)(hb:PE X b tb)(hm:behindInMarks op b=false):PT X (.Compare a [op] [b] pos) (v8 (CC r ta tb)):=by
 intro pins s σ H Q I h;refine wpAny_isTrue_Compare1 (eR (ha pins s σ H _ I h) λv s1 ⟨x,H1,I1,r1,q1⟩=>eR (hb pins s1 σ H1 _ I1 q1) λu s2 ⟨y,H2,I2,r2,q2⟩=>
  eR (ho pins s2 σ H2 x y v u _ I2 r1 r2 q2) λc s3 ⟨z,H3,I3,r3,k,e,q3⟩=>?_) hm
 subst e;cases r3;exact wpAny_truthy_bool ⟨H3,I3,q3⟩
def Hw(r r':R2)(ta tb tc:TE):TE:=λσ H Q=>ta σ H λx H1=>tb σ H1 λy H2=>r x y H2 λz H3=>∃k,z=.bl k ∧
 (if k=true then tc σ H3 λw' H4=>r' y w' H4 Q else Q (.bl false) H3)
def Ja(K:PySem.W.Frag)(x:V)(H:Hp)(k:Bool):Prop:=
 match x with
 | .non=>k=false
 | .bl b=>k=b
 | .int i=>k=(i != 0)
 | .str y=>y.length<=sizeLine/\k=((y.length:Int) != 0)
 | .byt y=>y.size<=sizeLine/\k=((y.size:Int) != 0)
 | .ref p=>(∃xs,bv K H p xs/\k=!xs.isEmpty)\/(∃xs,dA K H p xs/\k=!xs.isEmpty)\/∃kvs,H p=some (.dK kvs)/\k=!kvs.isEmpty
 | _=>False
theorem ya{κ:Type}{kvs:List (κ×V)}{vs:List (κ×Value)}(r:KV kvs vs):(!vs.isEmpty)=!kvs.isEmpty:=by
 cases r<;>rfl
theorem sL{xs:List V}{its:List Value}(r:cO xs its):(!its.toArray.isEmpty)=!xs.isEmpty:=by
 cases r<;>simp
theorem qG:(sizeLine:Nat)<2 ^ 63:=by rw[sizeLine_eq];decide
theorem Hh:MI X (λx H Q=>∃k,Ja X.K x H k/\Q k H):=by
 intro pins s σ H x v Q I rx h;obtain⟨k,e,q⟩:=h;have hl:=qG;have hs:sizeLine=16777216:=sizeLine_eq;cases x with
 | non=>
  cases rx;have e':k=false:=e;subst e';exact truthy_none ⟨H,I,q⟩
 | bl b=>
  cases rx;have e':k=b:=e;subst e';exact wpAny_truthy_bool ⟨H,I,q⟩
 | int i=>
  obtain⟨t,rfl⟩:=rx;have e':k=(i != 0):=e;subst e';exact PySem.P.truthy_int ⟨H,I,q⟩
 | str y=>
  obtain⟨t,rfl⟩:=rx;obtain⟨hy,e'⟩:y.length<=sizeLine/\k=((y.length:Int) != 0):=e;subst e';exact PySem.P.truthy_str (by omega) ⟨H,I.tok _,q⟩
 | byt y=>
  obtain⟨t,rfl⟩:=rx;obtain⟨hy,e'⟩:y.size<=sizeLine/\k=((y.size:Int) != 0):=e;subst e';exact PySem.W.truthy_bytes (by omega) ⟨H,I.tok _,q⟩
 | ref p=>
  cases rx;have e':(∃xs,bv X.K H p xs/\k=!xs.isEmpty)\/(∃xs,dA X.K H p xs/\k=!xs.isEmpty)\/∃kvs,H p=some (.dK kvs)/\k=!kvs.isEmpty:=e;rcases e' with ⟨xs,hx,e'⟩ | ⟨xs,hx,e'⟩ | ⟨kvs,hx,e'⟩
  ·subst e';obtain⟨its,r,pl,hz⟩:=I.list hx;have hlen:=r.length;exact wpAny_truthy_list pl.isList (by simp only[aQ];omega) ⟨H,I.tok _,by rw[sL r];exact q⟩
  ·subst e';obtain⟨its,r,pl,hz⟩:=I.tuple hx;have hlen:=r.length;exact truthy_tuple pl (by simp only[aQ];omega) ⟨H,I.tok _,by rw[sL r];exact q⟩
  ·subst e';obtain⟨hz,hS,vs,r,m⟩:kvs.length<=sizeLine/\(p==sysModules)=false/\∃vs,KV kvs vs/\s.heap.DictOf (eg X.prog X.w) p vs:=I.hok p _ hx;have hlen:kvs.length=vs.length:=bB r;exact wpAny_truthy_dict hS m (by omega) ⟨H,I.tok _,by rw[ya r];exact q⟩
 | _=>exact(show False from e).elim
theorem Cr(ha:PE X a ta)(he:∀whole,isTrue a X.env whole=(do let v <-whole;standAt a.pos;holding [v] (truthy v))):
  PT X a (λσ H Q=>ta σ H λx H'=>∃k,Ja X.K x H' k/\Q k H'):=by
 intro pins s σ H Q I h;exact isTrue_plain (eR (ha pins s σ H _ I h) λv s1 ⟨x,H1,I1,r1,q1⟩=>Hh pins s1 σ H1 x v Q I1 r1 q1) (he _)
theorem vals1{x:V}{us:List Value}(r:cO [x] us):∃u,us=[u]/\RelV x u:=by
 cases r with
 | cons r1 r2=>cases r2;exact⟨_,rfl,r1⟩
theorem vals2{x y:V}{us:List Value}(r:cO [x,y] us):∃u w',us=[u,w']/\RelV x u/\RelV y w':=by
 cases r with
 | cons r1 r2=>
  cases r2 with
  | cons r3 r4=>cases r4;exact⟨_,_,rfl,r1,r3⟩
theorem uV (hc:X.calm=true):iY X (.builtin "max") (λxs H Q=>∃i j,xs=[.int i,.int j]/\Q (.int (if j > i then j else i)) H):=by
 intro pins s σ H xs us Q I r h;obtain⟨i,j,rfl,q⟩:=h;obtain⟨u,w',rfl,⟨t,rfl⟩,⟨t',rfl⟩⟩:=vals2 r;refine max_two_ints (I.ok.hd hc) λh' tk k=>⟨_,H,I.kept k,?_,q⟩
 by_cases hj:j > i
 ·rw[if_pos hj,if_pos hj];exact⟨_,rfl⟩
 ·rw[if_neg hj,if_neg hj];exact⟨_,rfl⟩
theorem BK (hc:X.calm=true):iY X (.builtin "min") (λxs H Q=>∃i j,xs=[.int i,.int j]/\Q (.int (if j<i then j else i)) H):=by
 intro pins s σ H xs us Q I r h;obtain⟨i,j,rfl,q⟩:=h;obtain⟨u,w',rfl,⟨t,rfl⟩,⟨t',rfl⟩⟩:=vals2 r;refine min_two_ints (I.ok.hd hc) λh' tk k=>⟨_,H,I.kept k,?_,q⟩
 by_cases hj:j<i
 ·rw[if_pos hj,if_pos hj];exact⟨_,rfl⟩
 ·rw[if_neg hj,if_neg hj];exact⟨_,rfl⟩
theorem lV:iY X (.type "int") (λxs H Q=>(∃i,xs=[.int i]/\Q (.int i) H)\/∃k,xs=[.bl k]/\Q (.int (if k then 1 else 0)) H):=by
 intro pins s σ H xs us Q I r h;rcases h with ⟨i,rfl,q⟩ | ⟨k,rfl,q⟩
 ·obtain⟨u,rfl,t,rfl⟩:=vals1 r;exact call_int_int ⟨.int i,H,I,⟨_,rfl⟩,q⟩
 ·obtain⟨u,rfl,r1⟩:=vals1 r;cases r1;exact call_int_bool ⟨.int (if k then 1 else 0),H,I.tok _,⟨_,rfl⟩,q⟩
end
structure Je (h:Heap) (x dx C:Addr) (mA:Str->Option Value):Prop where
 obj:h.get? x=some (PySem.W.instObj C dx)
 ns:h.Ns1 dx mA
 ne:dx≠x
theorem Ap{h:Heap}{dx:Addr}{mA:Str->Option Value}(n:h.Ns1 dx mA):∃od,h.get? dx=some od/\∀name,PySem.W.lookIn name od=some (mA name):=by
 obtain⟨o,es,ep,ho,hd,hk,_,hm⟩:=n;refine⟨o,ho,λname=>?_⟩;have e:=hm name;unfold nsFind findBy at e;rw[<-Array.find?_toList] at e;unfold PySem.W.lookIn;rw[hd];dsimp only
 split
 ·rename_i y q;rw[q] at e;exact congrArg some e
 ·rename_i q;rw[q] at e;have a:es.toList.any (·.refKey)=false:=by
   rw[List.any_eq_false];intro y hy;obtain⟨z,t,hkey⟩:=hk y (Array.mem_toList_iff.mp hy);simp[DictEntry.refKey,hkey]
  have a':¬es.toList.any (·.refKey)=true:=by rw[a];exact a7
  rw[if_neg a'];exact congrArg some e
theorem Je.look{h:Heap}{x dx C:Addr}{mA:Str->Option Value}(I:Je h x dx C mA):∃od,PySem.W.InstAt h x (PySem.W.instObj C dx) C (some od)/\∀name,PySem.W.lookIn name od=some (mA name):=
 let ⟨od,ho,hl⟩:=Ap I.ns
 ⟨od,⟨I.obj,rfl,rfl,ho⟩,hl⟩
theorem qN.some_of{v:V}{o:Option Value}(r:qN (some v) o):∃u,o=some u/\RelV v u:=by
 cases o with
 | none=>exact(show False from r).elim
 | some u=>exact⟨u,rfl,r⟩
section
variable {P:Program} {w:World} {H:Hp} {h:Heap} {a C dx:Addr} {fs:List (Str×V)}
theorem Fk(hok:o6 P w H h)(e:H a=some (.ins C dx fs)):∃mA,Je h a dx C mA/\(∀f,qN (fs.lookup f) (mA f))/\PySem.Within mA (fs.map (·.1))/\fs.length<=1000/\H dx=some (.own a):=by
 obtain⟨d,z,ne,ob,mA,n,r,q⟩:=(show cZ P w H h a (.ins C dx fs) from hok a _ e)
 exact⟨mA,⟨ob,n,ne⟩,r,q,z,d⟩
end
structure GR (K:PySem.W.Frag) (C:Addr):Prop where
 pg:PySem.W.plainGet K C Str.empty=true
 hd:PySem.W.hasDictIn K C=true
 po:PySem.W.plainOver K C=true
 sa:PySem.W.findIn K (.ref C) "__setattr__"=some (some (.builtin "object.__setattr__"))
theorem GR.get{K:PySem.W.Frag}{C:Addr}(c:GR K C)(f:Str):PySem.W.plainGet K C f=true:=c.pg
section
variable {X:Cx} {pins:List (Addr×Obj)} {σ:St} {H:Hp} {s:Shared} {A:Around} {E:Value->Shared->Prop} {Q:Value->Shared->Prop} {c:Value} {b:Bool}
inductive o3 (K : PySem.W.Frag) (H : Hp) : V → Value → Prop where
 | non : o3 K H .non (.type "NoneType")
 | bl (x : Bool) : o3 K H (.bl x) (.type "bool")
 | int (i : Int) : o3 K H (.int i) (.type "int")
 | str (x : Str) : o3 K H (.str x) (.type "str")
 | flt (x : UInt64) : o3 K H (.flt x) (.type "float")
 | lst {a : Addr} {xs : List V} (e : H a = some (.lst xs)) : o3 K H (.ref a) (.type "list")
 | frz {a : Addr} {o : Obj} {xs : List V} (e : H a = some (.frz o (.lst xs))) : o3 K H (.ref a) (.type "list")
 | tup {a : Addr} {xs : List V} (e : H a = some (.tup xs)) : o3 K H (.ref a) (.type "tuple")
 | dK {a : Addr} {kvs : List (Key × V)} (e : H a = some (.dK kvs)) : o3 K H (.ref a) (.type "dict")
 | dT {a : Addr} {kvs : List (List Key × V)} (e : H a = some (.dT kvs)) : o3 K H (.ref a) (.type "dict")
 | ins {a C dx : Addr} {fs : List (Str × V)} (e : H a = some (.ins C dx fs)) (cl : GR K C) (ha : PySem.W.findIn K (.ref C) "__class__" = some (some (.builtin "object.__class__")))
   (hn : PySem.W.specialIn K (.builtin "object.__class__") "__get__" = some (some (.builtin "getset_descriptor.__get__"))) (htk : PySem.W.takesIn K (.builtin "object.__class__") = some true)
   (hm : PySem.W.mroIn K C (.type "object") = some true) : o3 K H (.ref a) (.ref C)
theorem Au{x:V}{u t:Value}(I:bi X pins σ H s)(rx:RelV x u)(ty:o3 X.K H x t)(e:PySem.W.kitOne X.K t c=some b)(h:∀tk,Q (.bool b) { s with toks:=tk }):
  wpAny (model X.prog X.w) A (call (.builtin "isinstance") [u,c]) Q E s:=by
 cases ty with
 | non=>cases (show u=Value.none from rx);exact dJ PySem.W.kitx_none I.kIn True.intro e (λz=>nomatch z) h
 | bl y=>cases (show u=Value.bool y from rx);exact dJ PySem.W.kitx_bool I.kIn True.intro e (λz=>nomatch z) h
 | int i=>obtain⟨t,q⟩:=(show ∃t,u=Value.int i t from rx);cases q;exact dJ PySem.W.kitx_int I.kIn True.intro e (λz=>nomatch z) h
 | str y=>obtain⟨t,q⟩:=(show ∃t,u=Value.str y t from rx);cases q;exact dJ PySem.W.kitx_str I.kIn True.intro e (λz=>nomatch z) h
 | flt y=>obtain⟨t,q⟩:=(show ∃t,u=Value.float y t from rx);cases q;exact dJ PySem.W.kitx_float I.kIn True.intro e (λz=>nomatch z) h
 | @lst a xs ea=>
  cases (show u=Value.ref a from rx);obtain⟨_,_,n,_,h1⟩:=(show cZ X.prog X.w H s.heap a (.lst xs) from I.hok a _ ea)
  exact dJ PySem.W.kitx_list I.kIn ⟨_,h1,rfl⟩ e (λz=>nomatch z) h
 | @frz a ob xs ea=>
  cases (show u=Value.ref a from rx);obtain⟨_,_,_,n,_,h1⟩:=(show cZ X.prog X.w H s.heap a (.frz ob (.lst xs)) from I.hok a _ ea)
  exact dJ PySem.W.kitx_list I.kIn ⟨_,h1,rfl⟩ e (λz=>nomatch z) h
 | @tup a xs ea=>
  cases (show u=Value.ref a from rx);obtain⟨_,_,_,p⟩:=(show cZ X.prog X.w H s.heap a (.tup xs) from I.hok a _ ea)
  obtain⟨o,h1,h2,_⟩:=p;exact dJ PySem.W.kitx_tuple I.kIn ⟨o,h1,h2⟩ e (λz=>nomatch z) h
 | @dK a kvs ea=>
  cases (show u=Value.ref a from rx);obtain⟨_,_,vs,_,p⟩:=(show cZ X.prog X.w H s.heap a (.dK kvs) from I.hok a _ ea)
  obtain⟨o,es,ep,h1,h2,_⟩:=p;exact dJ PySem.W.kitx_dict I.kIn ⟨o,h1,h2.1⟩ e (λz=>nomatch z) h
 | @dT a kvs ea=>
  cases (show u=Value.ref a from rx);obtain⟨_,_,xs,_,o,es,ep,h1,h2,_⟩:=(show cZ X.prog X.w H s.heap a (.dT kvs) from I.hok a _ ea)
  exact dJ PySem.W.kitx_dict I.kIn ⟨o,h1,h2.1⟩ e (λz=>nomatch z) h
 | @ins a C dx fs ea cl ha hn htk hm=>
  cases (show u=Value.ref a from rx);obtain⟨mA,O,_⟩:=Fk I.hok ea;obtain⟨od,J,_⟩:=O.look;exact dJ (PySem.W.kitx_own (cl.get _) cl.hd ha hn htk hm) I.kIn J e (λz=>nomatch z) h
end
structure iM (k:Nat) (A:Around):Prop where
 hd:A.handled=none
 dp:A.depth+3 * k+5<recursionLimit
 un:A.units+16 * k+200<cLine
 gd:A.guards=some []
theorem iM.mono{j k:Nat}{A:Around}(r:iM k A)(h:j<=k):iM j A:=⟨r.hd,by have:=r.dp;omega,by have:=r.un;omega,r.gd⟩
theorem iM.deeper{k:Nat}{A:Around}(r:iM (k+1) A)(env:Env):iM k (A.deeper env):=
 ⟨r.hd,by have:=r.dp;show A.depth+1+3*k+5<_;omega,by have:=r.un;show A.units+3+16*k+200<_;omega,r.gd⟩
theorem iM.in1{k:Nat}{A:Around}(r:iM (k+1) A):iM k A.in1:=
 ⟨r.hd,by have:=r.dp;show A.depth+3*k+5<_;omega,by have:=r.un;show A.units+1+16*k+200<_;omega,r.gd⟩
theorem iM.depth{k:Nat}{A:Around}(r:iM k A):A.depth<recursionLimit:=by have:=r.dp;omega
theorem iM.units{k:Nat}{A:Around}(r:iM k A):A.units+64<cLine:=by have:=r.un;omega
def Hr:TA:=λ_ H Q=>Q [] H
def gU(ta:TE)(tr:TA):TA:=λσ H Q=>ta σ H λx H1=>tr σ H1 λxs H2=>Q (x::xs) H2
section
variable {X:Cx} {e:Expr} {es:List Expr} {te:TE} {t:TA} {pos:Pos}
theorem xr:PA X [] Hr:=λ_ _ _ _ H Q I h=>iy ⟨[],H,I,.nil,h⟩
theorem gp(ha:PE X e te)(hr:PA X es t)(hs:starEach (e::es) X.env=(false,eval e X.env)::starEach es X.env:=by rfl):PA X (e::es) (gU te t):=by
 intro pos pins s σ H Q I h;rw[hs];show wpAny _ _ (spliced ((false,eval e X.env)::backTo pos (starEach es X.env))) _ _ s;refine gI (eR (ha pins s σ H _ I h) λu s1 ⟨x,H1,I1,r1,q1⟩=>?_);exact eR (hr pos pins s1 σ H1 _ I1 q1) λus s2 ⟨xs,H2,I2,r2,q2⟩=>⟨x::xs,H2,I2,.cons r1 r2,q2⟩
def Hi(t:TA):TE:=λσ H Q=>t σ H λxs H1=>xs.length<=sizeLine/\∀p,H1 p=none->Q (.ref p) (upd H1 p (.tup xs))
def Hs(t:TA):TE:=λσ H Q=>t σ H λxs H1=>xs.length<=sizeLine/\∀p,H1 p=none->Q (.ref p) (upd H1 p (.lst xs))
theorem Ii{x1}(h:PA X es t):PE X (.Tuple es x1 pos) (Hi t):=by
 intro pins s σ H Q I hq;refine wpAny_Tuple_spliced (eR (h pos pins s σ H _ I hq) λus s1 ⟨xs,H1,I1,r,z,q⟩=>⟨by rw[<-r.length];exact z,?_⟩);have hf:H1 s1.heap.objs.size=none:=I1.hok.fresh (aH _);refine⟨.ref s1.heap.objs.size,upd H1 s1.heap.objs.size (.tup xs),I1.laid (t':=s1.toks) (λb u e=>aB _ e) (aH _) ?_,rfl,q _ hf⟩;exact⟨z,us,r,⟨_,aO _ rfl,rfl,_,rfl⟩⟩
theorem Io(h:PA X es t):PE X (.List es pos) (Hs t):=by
 intro pins s σ H Q I hq;refine wpAny_List_spliced (eR (h pos pins s σ H _ I hq) λus s1 ⟨xs,H1,I1,r,z,q⟩=>⟨by rw[<-r.length];exact z,?_⟩);have hf:H1 s1.heap.objs.size=none:=I1.hok.fresh (aH _);refine⟨.ref s1.heap.objs.size,upd H1 s1.heap.objs.size (.lst xs),I1.laid (t':=s1.toks) (λb u e=>aB _ e) (aH _) ?_,rfl,q _ hf⟩;exact⟨z,us,0,r,aO _ rfl⟩
end
abbrev Sp:=List V->Hp->VK->XK->Prop
abbrev EO:=List Env->Hp->Shared->XK->Value->Shared->Prop
structure yx (P:Program) (w:World) (K:PySem.W.Frag) (mg:Str->Option Value) (base:Heap) (A:Around) (outer:List Env) (s:Shared) (H:Hp):Prop where
 frames:A.frames=some outer
 mod:Mod K mg base
 bs:∀ b o,base.get? b=some o->s.heap.get? b=some o/\H b=none
 bsz:base.objs.size<=s.heap.objs.size
 funs:s.heap.FunFrames base outer
 frf:∀ b∈yf outer,H b=none
 hok:o6 P w H s.heap
 bare:AllBare s.gens
def CE(outer:List Env)(P:Program)(w:World)(H:Hp)(s:Shared)(Q:VK)(u:Value)(s':Shared):Prop:=
 ∃v H',s'.os=s.os/\AllBare s'.gens/\Un (yf outer) [] H H' s.heap s'.heap/\o6 P w H' s'.heap/\RelV v u/\Q v H'
def CR(CX:EO)(outer:List Env)(P:Program)(w:World)(H:Hp)(s:Shared)(Q:VK)(E:XK)(r:Result)(s':Shared):Prop:=
 match r with
 | .ok (.ret u)=>CE outer P w H s Q u s'
 | .ok _=>False
 | .error e=>CX outer H s E e s'
structure qO (P:Program) (w:World) (K:PySem.W.Frag) (mg:Str->Option Value) (base:Heap) (CX:EO) (k:Nat) (f:Addr) (fd:FuncData) (ps:List Str) (sp:Sp):Prop where
 len:∀ vs H Q E,sp vs H Q E->vs.length=ps.length
 run:∀ (A:Around) (outer:List Env) (s:Shared) (H:Hp) (args:Args) (us:List Value) (vs:List V) (Q:VK) (E:XK),iM k A->yx P w K mg base A outer s H->BindsTo s fd args (ps.zip us)->cO vs us->sp vs H Q E →
  codeAny (model P w) A (.call (.ref f) args) (CR CX outer P w H s Q E) s
theorem yx.in1{P:Program}{w:World}{K:PySem.W.Frag}{mg:Str->Option Value}{base:Heap}{A:Around}{outer:List Env}{s:Shared}{H:Hp}(e:yx P w K mg base A outer s H):
  yx P w K mg base A.in1 outer s H:=⟨e.frames,e.mod,e.bs,e.bsz,e.funs,e.frf,e.hok,e.bare⟩
section
variable {X:Cx} {pins:List (Addr×Obj)} {σ:St} {H:Hp} {s s':Shared}
theorem bi.env0(I:bi X pins σ H s):yx X.prog X.w X.K X.mg X.base X.A X.stack s H:=
 ⟨I.ok.frames,I.ok.mod,I.bs,bU I.ok.bsz I.sz,I.stack,I.stkFree,I.hok,I.bare⟩
theorem bi.after{Q:VK}{u:Value}(I:bi X pins σ H s)(h:CE X.stack X.prog X.w H s Q u s'):EP X pins σ Q u s':=by
 obtain⟨v,H',os,bare,un,hok,r,q⟩:=h;obtain⟨hh,g,d,t,os'⟩:=s';obtain rfl:os'=s.os:=os;exact⟨v,H',I.call (h':=hh) (g':=g) (d':=d) (t':=t) (ch:=[]) un hok bare (λb z=>absurd z (by simp)),r,q⟩
end
def zS(sp:Sp)(dvs:List V)(E:XK)(t:TA):TE:=λσ H Q=>t σ H λvs H1=>sp (vs++dvs) H1 Q E
def Binds(K:PySem.W.Frag)(fd:FuncData)(ps:List Str)(ds:List Value):Prop:=
 ∀(s:Shared) (us:List Value),K.In s.heap->(us++ds).length=ps.length->BindsTo s fd ⟨us,[]⟩ (ps.zip (us++ds))
theorem Binds.all{K:PySem.W.Frag}{fd:FuncData}{ps:List Str}(h:∀us:List Value,us.length=ps.length->bindArgs fd ⟨us,[]⟩=pure (ps.zip us)):Binds K fd ps []:=λs us _ hl=>by
 rw[cV] at hl ⊢;exact .of_eq (h us hl)
def yw(CX:EO)(X:Cx)(E:XK):Prop:=∀(pins:List (Addr×Obj)) (σ:St) (H:Hp) (s:Shared) (e:Value) (s':Shared),bi X pins σ H s->CX X.stack H s E e s'->X.xe e s'
section
variable {X:Cx} {CX:EO} {k:Nat} {f:Addr} {fd:FuncData} {ps:List Str} {sp:Sp} {dvs:List V} {ds:List Value} {E:XK} {x:Str} {p pos:Pos} {e:Expr} {es:List Expr} {t:TA}
theorem IC{pins:List (Addr×Obj)}{σ:St}{H:Hp}{s:Shared}{Q:VK}{us:List Value}{vs:List V}(F:qO X.prog X.w X.K X.mg X.base CX k f fd ps sp)(hr:iM k X.A)(hb:Binds X.K fd ps ds)(hd:cO dvs ds)(hx:yw CX X E)
  (I:bi X pins σ H s) (r:cO vs us) (h:sp (vs++dvs) H Q E):wpAny (model X.prog X.w) X.A (call (.ref f) us) (EP X pins σ Q) X.xe s:=by
 have r2:cO (vs++dvs) (us++ds):=r.append hd;have hl:(us++ds).length=ps.length:=by rw[<-r2.length];exact F.len _ _ _ _ h
 refine wpAny_call (codeAny_mono (F.run X.A X.stack s H ⟨us,[]⟩ (us++ds) (vs++dvs) Q E hr I.env0 (hb s us I.kIn hl) r2 h) λr s' hq=>?_);cases r with
 | error e=>exact hx pins σ H s e s' I hq
 | ok fl=>
  cases fl with
  | ret u=>exact I.after hq
  | next=>exact False.elim hq
  | brk=>exact False.elim hq
  | cont=>exact False.elim hq
theorem FS(F:qO X.prog X.w X.K X.mg X.base CX k f fd ps sp)(hr:iM k X.A)(hg:Gl X x)(hm:X.mg x=some (.ref f))(hk:PySem.W.keepIn X.K (.ref f)=true)(hb:Binds X.K fd ps ds)(hd:cO dvs ds)(hx:yw CX X E)
  (ha:PA X (e::es) t) (hdb:(x==("__debug__":Str))=false:=by decide) (he:starEach (e::es) X.env=(false,eval e X.env)::starEach es X.env:=by rfl) (hpl:(backTo pos (starEach es X.env)).any (·.1)=false:=by rfl) :
  PE X (.Call (.Name x p) (e::es) [] pos) (zS sp dvs E t):=by
 intro pins s σ H Q I h;refine wpAny_Call_Name_kw (vD I hg hm ?_ hdb);refine PySem.W.callWith_K (h₀:=X.base) I.ok.mod.kin hk (eR (ha pos pins s σ H _ I h) λus s1 ⟨vs,H1,I1,r,q⟩=>⟨I1.kIn,?_⟩) he hpl;exact IC F hr hb hd hx I1 r q
end
structure be (N P:List Str) (sc:Scope):Prop where
 kind:sc.kind=.function
 co:sc.isCoroutine=false
 gen:sc.isGenerator=false
 nd:N.Nodup
 pre:N.take P.length=P
 par:∀ x∈P,sc.names.lookup x=some .local\/sc.names.lookup x=some .cell
 nofree:∀ y∈sc.names,y.2≠.free
theorem uX{kindOf:Str->Option NameKind}{x:Str}:∀{binds:List (Str×Value)} {m:Str->Option Value},(∀v,(x,v)∉binds)->bindL kindOf binds m x=m x
 | [],_,_=>rfl
 | (n,v)::r,m,h=>by
  unfold bindL;rw[uX λw hw=>h w (aM _ hw)]
  split
  ·have:x≠n:=by rintro rfl;exact h v ar
   simp[this]
  ·rfl
theorem uZ{kindOf:Str->Option NameKind}{x:Str}:∀{binds:List (Str×Value)} {m:Str->Option Value},(∀v,(x,v)∉binds)->bindC kindOf binds m x=m x
 | [],_,_=>rfl
 | (n,v)::r,m,h=>by
  unfold bindC;rw[uZ λw hw=>h w (aM _ hw)]
  split
  ·rfl
  ·have:x≠n:=by rintro rfl;exact h v ar
   simp[this]
theorem uY{kindOf:Str->Option NameKind}{x:Str}{v:Value}:∀{P:List Str} {vs:List Value} {i:Nat} {m:Str->Option Value},P.Nodup->P[i]? = some x->vs[i]? = some v->kindOf x=some .local →
  bindL kindOf (P.zip vs) m x=some v
 | [],_,_,_,_,h,_,_=>by simp at h
 | _::_,[],_,_,_,_,h,_=>by simp at h
 | p::P,w::vs,0,m,nd,h1,h2,hk=>by
  simp at h1 h2;subst h1;subst h2;show bindL kindOf ((p,w)::P.zip vs) m p=_;unfold bindL;rw[uX λv hv=>(ba.mp nd).1 (mZ hv).1,if_pos hk];simp
 | p::P,w::vs,i+1,m,nd,h1,h2,hk=>by
  show bindL kindOf ((p,w)::P.zip vs) m x=_;unfold bindL;exact uY (i:=i) (ba.mp nd).2 (by simpa using h1) (by simpa using h2) hk
theorem u4{kindOf:Str->Option NameKind}{x:Str}{v:Value}:∀{P:List Str} {vs:List Value} {i:Nat} {m:Str->Option Value},P.Nodup->P[i]? = some x->vs[i]? = some v->kindOf x≠some .local →
  bindC kindOf (P.zip vs) m x=some v
 | [],_,_,_,_,h,_,_=>by simp at h
 | _::_,[],_,_,_,_,h,_=>by simp at h
 | p::P,w::vs,0,m,nd,h1,h2,hk=>by
  simp at h1 h2;subst h1;subst h2;show bindC kindOf ((p,w)::P.zip vs) m p=_;unfold bindC;rw[uZ λv hv=>(ba.mp nd).1 (mZ hv).1,if_neg hk];simp
 | p::P,w::vs,i+1,m,nd,h1,h2,hk=>by
  show bindC kindOf ((p,w)::P.zip vs) m x=_;unfold bindC;exact u4 (i:=i) (ba.mp nd).2 (by simpa using h1) (by simpa using h2) hk
def start(N:List Str)(vs:List V):St:=vs.map some++List.replicate (N.length-vs.length) none
def wt(CX:EO)(P:Program)(w:World)(K:PySem.W.Frag)(mg:Str->Option Value)(base:Heap)(N:List Str)(qual:Str)(scope:Scope)(f:Addr)(cd:Value)(A:Around)(outer:List Env)(s:Shared)(H:Hp)(E:XK):Cx where
 prog:=P
 w:=w
 K:=K
 mg:=mg
 base:=base
 A:=A.deeper (envOfC qual scope s.heap.objs.size f cd)
 N:=N
 s₀:=s
 H₀:=H
 env:=envOfC qual scope s.heap.objs.size f cd
 outer:=outer
 stack:=envOfC qual scope s.heap.objs.size f cd::outer
 ex:=[]
 calm:=true
 fn:=λ_=>true
 pn:=[]
 xe:=λe s'=>wpAny (model P w) (A.deeper (envOfC qual scope s.heap.objs.size f cd)) (leaving (envOfC qual scope s.heap.objs.size f cd) e) (λ_ s''=>CX outer H s E e s'') (λe' s''=>CX outer H s E e' s'') s'
theorem wz{sc:Scope}{n:Nat}{x:Str}(h:sc.names.lookup x=some .cell):∃c,(cellsFrom n sc.names []).lookup x=some c:=by
 have q:=mI sc.names n [] (.inl h);exact lE.mp q
theorem Av{CX:EO}{P:Program}{w:World}{K:PySem.W.Frag}{mg:Str->Option Value}{base:Heap}{N ps:List Str}{qual:Str}{scope:Scope}{f:Addr}{cd:Value}{A:Around}{outer:List Env}{s s1:Shared}{H:Hp}{E:XK}{us:List Value}{vs:List V}
  (S:be N ps scope) (hd:A.handled=none) (e0:yx P w K mg base A outer s H) (hl:vs.length=ps.length) (r:cO vs us)
  (x:InCallC s s.heap.objs.size (bindL (envOfC qual scope s.heap.objs.size f cd).kindOf (ps.zip us) λ_=>none) (cellsFrom (s.heap.objs.size+1) scope.names []) (bindC (envOfC qual scope s.heap.objs.size f cd).kindOf (ps.zip us) λ_=>none) s1) :
  bi (wt CX P w K mg base N qual scope f cd A outer s H E) [] (start N vs) H s1:=by
 have hpl:ps.length<=N.length:=by have:=congrArg List.length S.pre;rw[bp] at this;omega
 obtain⟨h1,tk,rfl,hk⟩:=x.done;have noA:∀b:Addr,b∉(wt CX P w K mg base N qual scope f cd A outer s H E).ex:=λb z=>absurd (show b∈([]:List Addr) from z) (by simp);refine⟨⟨e0.mod,S.kind,rfl,rfl,aH _,λy z c h1 h2=>?_,λy hy=>?_,λy c _ h=>?_,λ_=>hd,Around.frames_deeper e0.frames,.inr ⟨rfl,rfl⟩,λb z=>absurd z (noA b),e0.bs,e0.bsz,λb _ _=>noA b,λb z=>absurd z (noA b),e0.funs,e0.frf⟩,
  rfl,e0.bare,Un.kept hk,⟨_,x.toInCall.ns,λi y v h1 h2 h3=>?_⟩,λy c h=>⟨_,x.cell y c h⟩,e0.hok.fresh (aH _),λy c h=>?_,λp hp=>absurd (show p∈([]:List (Addr×Obj)) from hp) (by simp),e0.hok.kept hk,?_⟩
 ·exact name_of_addr x.apart (dQ h1) (dQ h2)
 ·have hy:scope.names.lookup y=some .cell\/scope.names.lookup y=some .free:=hy;rcases hy with hy | hy
  ·exact wz hy
  ·exact absurd rfl (S.nofree _ (dQ hy))
 ·exact bf (x.above y c (dQ h))
 ·have hi:i<vs.length:=by
   unfold start at h2;by_cases hi:i<vs.length
   ·exact hi
   ·rw[dH (by simpa using hi)] at h2;rw[l4] at h2
    split at h2<;>cases h2
  have ha:vs[i]? = some v:=by
   unfold start at h2;rw[hU (by simpa using hi),aS] at h2;cases e:vs[i]? with
   | none=>rw[e] at h2;cases h2
   | some a=>rw[e] at h2;cases h2;rfl
  obtain⟨u,hu,rv⟩:=r.get ha;have hp:ps[i]? = some y:=by
   rw[<-S.pre,iE (by omega)];exact h1
  have ndP:ps.Nodup:=by rw[<-S.pre];exact S.nd.sublist (List.take_sublist _ _)
  refine⟨u,rv,?_⟩;rcases S.par y (aR hp) with k | k
  ·exact .inl ⟨k,uY ndP hp hu k⟩
  ·obtain⟨c,e⟩:=wz (n:=s.heap.objs.size+1) k;refine .inr ⟨.inl k,c,e,?_⟩;have q:=x.cell y c e;rw[u4 ndP hp hu (by show scope.names.lookup y≠_;rw[k];decide)] at q;exact q
 ·exact e0.hok.fresh (bf (x.above y c (dQ h)))
 ·unfold start;show _=N.length;rw[af,aA,me];omega
theorem LI{CX:EO}{P:Program}{w:World}{K:PySem.W.Frag}{mg:Str->Option Value}{base:Heap}{k:Nat}{f:Addr}{name qual:Str}{params:Arguments}{body:List Stmt}{scope:Scope}{dV kV doc pm cdv ct oc:Value}{an od:Option Addr}
  {osl:Array (Option Value)} {N ps:List Str} {sp:Sp} (lk:K.lookup f=some ⟨oc,od,.func (PySem.W.fnOf name qual params body scope dV kV doc pm an cdv ct),osl⟩) (hcd:PySem.W.codeIn K cdv qual=true) (S:be N ps scope)
  (len:∀vs H Q E,sp vs H Q E->vs.length=ps.length)
  (hbody:∀(A:Around) (outer:List Env) (s:Shared) (H:Hp) (vs:List V) (Q:VK) (E:XK),iM k (A.deeper (envOfC qual scope s.heap.objs.size f cdv))->sp vs H Q E →
   ∃t,xF (wt CX P w K mg base N qual scope f cdv A outer s H E) body t/\t { nx:=λ_ H'=>Q .non H',rt:=Q } (start N vs) H) :
  qO P w K mg base CX (k+1) f (PySem.W.fnOf name qual params body scope dV kV doc pm an cdv ct) ps sp:=by
 refine⟨len,λA outer s H args us vs Q E hr e0 hb r hsp=>?_⟩;have hl:=len _ _ _ _ hsp;have KX:K.In s.heap:=e0.mod.kin.keeps λb o e=>(e0.bs b o e).1;have lim:s.heap.NoLimit:=e0.mod.nolimit.keeps λb o e=>(e0.bs b o e).1;have hkind:∀y∈ps.zip us,scope.names.lookup y.1=some .local\/(scope.names.lookup y.1=some .cell/\((cellsFrom (s.heap.objs.size+1) scope.names []).lookup y.1).isSome=true):=λ⟨n,v⟩ hy=>by
  rcases S.par n (mZ hy).1 with q | q
  ·exact .inl q
  ·exact .inr ⟨q,mI _ _ _ (.inl q)⟩
 refine codeAny_call_function hr.depth (KX _ _ lk) rfl S.co S.gen rfl (PySem.W.codeRec_of KX hcd) (hb _ _ _ _ ?_);refine wpAny_newFunctionEnv_cells S.kind hkind λenv he s1 x=>?_;subst he;refine⟨lim.keeps x.toInCall.keep,codeAny_func ?_⟩;obtain⟨t,ht,hq⟩:=hbody A outer s H vs Q E (hr.deeper _) hsp;have I:bi (wt CX P w K mg base N qual scope f cdv A outer s H E) [] (start N vs) H s1:=Av S hr.hd e0 hl r x;refine wpAny_mono (ht [] s1 (start N vs) H _ I hq) (λfl s' hs=>?_) λe s' hs=>hs;have fin:∀{σ':St} {H':Hp} {v:V} {u:Value},bi (wt CX P w K mg base N qual scope f cdv A outer s H E) [] σ' H' s'->RelV v u->Q v H'->CE outer P w H s Q u s':=
  fun {σ' H' v u} J rv q=>⟨v,H',J.os,J.bare,J.base,J.hok,rv,q⟩
 cases fl with
 | ret u=>
  obtain⟨v,σ',H',J,rv,q⟩:=hs;exact fin J rv q
 | next=>
  obtain⟨σ',H',J,q⟩:=hs;exact fin (v:=V.non) (u:=Value.none) J rfl q
 | brk=>
  obtain⟨_,_,_,q⟩:=hs;exact False.elim q
 | cont=>
  obtain⟨_,_,_,q⟩:=hs;exact False.elim q
section
variable {X:Cx} {x:Str} {p pos:Pos} {e:Expr} {es:List Expr} {t:TA} {id T:String} {r:List V->Hp->VK->Prop}
def K9(r:List V->Hp->VK->Prop)(t:TA):TE:=λσ H Q=>t σ H λvs H1=>r vs H1 Q
theorem DO (hc:iY X (.builtin id) r) (hg:Gl X x) (hm:X.mg x=none) (hv:bootBuiltins x=some (.builtin id)) (ha:PA X (e::es) t) (hn:x≠"__name__":=by decide) (hdb:(x==("__debug__":Str))=false:=by decide)
  (he:starEach (e::es) X.env=(false,eval e X.env)::starEach es X.env:=by rfl) (hpl:(backTo pos (starEach es X.env)).any (·.1)=false:=by rfl):PE X (.Call (.Name x p) (e::es) [] pos) (K9 r t):=by
 intro pins s σ H Q I h;refine wpAny_Call_Name_kw (jT I hg hm hv ?_ hn hdb);exact PyProof.Rows.callWith_builtin1 (eR (ha pos pins s σ H _ I h) λus s1 ⟨vs,H1,I1,r1,q1⟩=>hc pins s1 σ H1 vs us Q I1 r1 q1) he hpl
theorem Ae (hc:iY X (.type T) r) (hg:Gl X x) (hm:X.mg x=none) (hv:bootBuiltins x=some (.type T)) (ha:PA X (e::es) t) (hn:x≠"__name__":=by decide) (hdb:(x==("__debug__":Str))=false:=by decide)
  (he:starEach (e::es) X.env=(false,eval e X.env)::starEach es X.env:=by rfl) (hpl:(backTo pos (starEach es X.env)).any (·.1)=false:=by rfl):PE X (.Call (.Name x p) (e::es) [] pos) (K9 r t):=by
 intro pins s σ H Q I h;refine wpAny_Call_Name_kw (jT I hg hm hv ?_ hn hdb);exact bj (eR (ha pos pins s σ H _ I h) λus s1 ⟨vs,H1,I1,r1,q1⟩=>hc pins s1 σ H1 vs us Q I1 r1 q1) he hpl
end
end L2
namespace HT
open PySem PyProof.Rows
section
def sIx(n d:Nat):Option Int->Nat
 | none=>d
 | some v=>if v<0 then (v+(n:Int)).toNat else min v.toNat n
theorem sIx_none(n d:Nat):sIx n d none=d:=rfl
theorem sIx_nat(n d k:Nat):sIx n d (some (k:Int))=min k n:=by
 show (if (k:Int)<0 then ((k:Int)+(n:Int)).toNat else min (k:Int).toNat n)=min k n;rw[if_neg (by omega),cM]
end
end HT
namespace L2
open PySem PySem.Spec PyProof.Rows
abbrev TO:=St->Hp->(Option Int->Hp->Prop)->Prop
def PO(X:Cx)(e:Option Expr)(t:TO):Prop:=
 ∀(pins:List (Addr×Obj)) (s:Shared) (σ:St) (H:Hp) (Q:Option Int->Hp->Prop),bi X pins σ H s->t σ H Q →
  wpAny (model X.prog X.w) X.A (evalPart e X.env) (λu s'=>∃o H',bi X pins σ H' s'/\IsPart u o/\Q o H') X.xe s
def uc:TO:=λ_ H Q=>Q none H
def CB(t:TE):TO:=λσ H Q=>t σ H λx H1=>∃i,x=.int i/\Q (some i) H1
section
variable {X:Cx} {e:Expr} {te:TE} {lo hi:Option Expr} {tl th:TO} {pos p2:Pos}
theorem FH:PO X none uc:=by
 intro pins s σ H Q I h;rw[evalPart_none];exact wpAny_pure ⟨none,H,I,.none,h⟩
theorem FG(h:PE X e te):PO X (some e) (CB te):=by
 intro pins s σ H Q I hw;rw[evalPart_some];refine eR (h pins s σ H _ I hw) λu s1 ⟨x,H1,I1,r1,q1⟩=>?_;obtain⟨i,rfl,q⟩:=q1;obtain⟨t,rfl⟩:=r1;exact⟨some i,H1,I1,.int i t,q⟩
def L8(X:Cx)(r:V->Option Int->Option Int->Hp->VK->Prop):Prop:=
 ∀(pins:List (Addr×Obj)) (s:Shared) (σ:St) (H:Hp) (x:V) (v vl vu:Value) (lo hi:Option Int) (sl:Addr) (Q:VK),bi X pins σ H s->RelV x v->s.heap.IsSliceOf sl vl vu .none->IsPart vl lo->IsPart vu hi->r x lo hi H Q →
  ∃T id,typeLookup (.type T) "__getitem__"=pure (some (.builtin id))/\s.TypeIs v T/\wpAny (model X.prog X.w) X.A (getItem v (.ref sl)) (EP X pins σ Q) X.xe s
def Lj(r:V->Option Int->Option Int->Hp->VK->Prop)(te:TE)(tl th:TO):TE:=λσ H Q=>te σ H λx H1=>tl σ H1 λl H2=>th σ H2 λu H3=>r x l u H3 Q
theorem DG{r:V->Option Int->Option Int->Hp->VK->Prop}(hr:L8 X r)(he:PE X e te)(hl:PO X lo tl)(hu:PO X hi th):PE X (.Subscript e (.Slice lo hi none p2) pos) (Lj r te tl th):=by
 intro pins s σ H Q I h;refine Subscript_ (eR (he pins s σ H _ I h) λv s1 ⟨x,H1,I1,r1,q1⟩=>?_);refine wpAny_Slice (eR (hl pins s1 σ H1 _ I1 q1) λvl s2 ⟨l,H2,I2,pl,q2⟩=>eR (hu pins s2 σ H2 _ I2 q2) λvu s3 ⟨u,H3,I3,pu,q3⟩=>?_);rw[evalPart_none];refine wpAny_pure ?_;have I4:bi X pins σ H3 { s3 with heap:=s3.heap.push { cls:=.type "slice",data:=.fields #[vl,vu,.none] } }:=I3.kept (t':=s3.toks) λb ob q=>aB _ q;obtain⟨T,id,hT,ht,hg⟩:=hr pins { s3 with heap:=s3.heap.push { cls:=.type "slice",data:=.fields #[vl,vu,.none] } } σ H3 x v vl vu l u s3.heap.objs.size Q I4 r1 (Heap.IsSliceOf.new ..) pl pu q3;show wpAny (model X.prog X.w) X.A (subscriptTail e (.Slice lo hi none p2) v (.ref s3.heap.objs.size)) (EP X pins σ Q) X.xe { s3 with heap:=s3.heap.push { cls:=.type "slice",data:=.fields #[vl,vu,.none] } };exact tail_any (ops:=[.ref s3.heap.objs.size,v]) ht hT hg (by with_unfolding_all rfl)
def wv(xs:List V)(lo hi:Option Int):List V:=(xs.drop (HT.sIx xs.length 0 lo)).take (HT.sIx xs.length xs.length hi-HT.sIx xs.length 0 lo)
theorem wu(xs:List V)(lo hi:Option Int):(wv xs lo hi).length<=xs.length:=by
 unfold wv;rw[bp,jX];omega
end
def xJ(n:Nat)(i:Int):Option Nat:=if 0<=i then (if i<n then some i.toNat else none) else if -(n:Int)<=i then some (i+n).toNat else none
def pO{α:Type}(xs:List α)(i:Int):Option α:=(xJ xs.length i).bind λj=>xs[j]?
theorem zt{n:Nat}{i:Int}{j:Nat}(h:xJ n i=some j):seqIndex? i n=some j/\j<n/\-(n:Int)<=i/\i<n:=by
 unfold xJ at h;by_cases h0:0<=i
 ·rw[if_pos h0] at h;by_cases h1:i<n
  ·rw[if_pos h1] at h;have e:i.toNat=j:=bD h;exact⟨by rw[seqIndex_of h0 h1,e],by omega,by omega,h1⟩
  ·rw[if_neg h1] at h;cases h
 ·rw[if_neg h0] at h;by_cases h1:-(n:Int)<=i
  ·rw[if_pos h1] at h;have e:(i+n).toNat=j:=bD h;exact⟨by rw[seqIndex_neg (by omega) h1,e],by omega,h1,by omega⟩
  ·rw[if_neg h1] at h;cases h
theorem vK{α:Type}{xs:List α}{i:Int}{v:α}(h:pO xs i=some v):∃j,seqIndex? i xs.length=some j/\xs[j]? = some v/\j<xs.length/\-(xs.length:Int)<=i/\i<xs.length:=by
 unfold pO at h;cases e:xJ xs.length i with
 | none=>rw[e] at h;cases h
 | some j=>
  rw[e] at h;obtain⟨h1,h2,h3,h4⟩:=zt e;exact⟨j,h1,h,h2,h3,h4⟩
theorem fg{α:Type}{xs:List α}{j:Nat}{v:α}(h:xs[j]? = some v):pO xs (j:Int)=some v:=by
 have hj:j<xs.length:=(aF.mp h).1;have e:xJ xs.length (j:Int)=some j:=by
  unfold xJ;rw[if_pos (by omega),if_pos (by omega)];simp
 unfold pO;rw[e];exact h
theorem pN{α:Type}(xs:List α)(v:α):pO (xs++[v]) (-1)=some v:=by
 have hl:(xs++[v]).length=xs.length+1:=by simp
 have e:xJ (xs++[v]).length (-1)=some xs.length:=by
  unfold xJ;rw[hl,if_neg (by decide),if_pos (by omega)];congr 1;omega
 unfold pO;rw[e];show (xs++[v])[xs.length]? = some v;simp
def AO(b:Expr):Prop:=∀o i,subscripted b false o i=operate [o,i] (getItem o i)
def EQ(X:Cx)(r:R2):Prop:=
 ∀(value slice:Expr) (pins:List (Addr×Obj)) (s:Shared) (σ:St) (H:Hp) (x y:V) (v u:Value) (Q:VK),bi X pins σ H s->RelV x v->RelV y u->r x y H Q →
  subscripted slice false v u=operate [v,u] (getItem v u)->wpAny (model X.prog X.w) X.A (subscriptTail value slice v u) (EP X pins σ Q) X.xe s
def Jq(X:Cx)(id:String)(r:V->List V->Hp->VK->Prop):Prop:=
 ∀(pins:List (Addr×Obj)) (s:Shared) (σ:St) (H:Hp) (x:V) (xs:List V) (v:Value) (us:List Value) (Q:VK),bi X pins σ H s->RelV x v->cO xs us->r x xs H Q →
  wpAny (model X.prog X.w) X.A (call (.builtin id) (v::us)) (EP X pins σ Q) X.xe s
section
variable {X:Cx} {a b:Expr} {ta tb:TE} {pos:Pos}
theorem EQ.or{r r':R2}(h:EQ X r)(h':EQ X r'):EQ X (λx y H Q=>r x y H Q\/r' x y H Q):=by
 intro value slice pins s σ H x y v u Q I rx ry q hs;rcases q with q | q
 ·exact h value slice pins s σ H x y v u Q I rx ry q hs
 ·exact h' value slice pins s σ H x y v u Q I rx ry q hs
theorem Kw{r:R2}(hr:EQ X r)(ha:PE X a ta)(hb:PE X b tb)(hs:AO b):PE X (.Subscript a b pos) (CC r ta tb):=by
 intro pins s σ H Q I h;exact Subscript_ (J8 ha hb I h λv u s2 x y H2 I2 rx ry q=>hr a b pins s2 σ H2 x y v u Q I2 rx ry q (hs _ _))
def IK(K:PySem.W.Frag):R2:=λx y H Q=>∃p xs i v,x=.ref p/\y=.int i/\bv K H p xs/\pO xs i=some v/\Q v H
def II(K:PySem.W.Frag):R2:=λx y H Q=>∃p xs i v,x=.ref p/\y=.int i/\dA K H p xs/\pO xs i=some v/\Q v H
def IJ:R2:=λx y H Q=>∃z i c,x=.str z/\y=.int i/\z.length<=sizeLine/\pO z.cps.toList i=some c/\Q (.str ⟨#[c]⟩) H
theorem b6:EQ X (IK X.K):=by
 intro value slice pins s σ H x y v u Q I rx ry h hs;obtain⟨p,xs,i,z,rfl,rfl,hq,he,q⟩:=h;cases rx;obtain⟨t,rfl⟩:=ry;obtain⟨its,r,pl,hz⟩:=I.list hq;obtain⟨j,h1,h2,h3,h4,h5⟩:=vK he;obtain⟨w,ew,rw'⟩:=r.get h2;have hl:=r.length;have hn:=qG;have fin:EP X pins σ Q w s:=⟨z,H,I,rw',q⟩
 by_cases h0:0<=i
 ·have hj:i.toNat=j:=by
   rw[seqIndex_of h0 h5] at h1;exact bD h1
  exact item_listR pl.isList h0 (by omega) (by rw[hj];simpa using ew) fin hs
 ·have hj:(i+(its.toArray.size:Int)).toNat=j:=by
   rw[seqIndex_neg (by omega) h4] at h1;rw[aQ,<-hl];exact bD h1
  exact subscriptTail_builtinR (x:=w) pl.isList.typeIs slot_list_getitem.lookup
   (wpAny_getItem_list_neg (Q:=λr s'=>r=w/\EP X pins σ Q r s') pl.isList (by omega) (by rw[aQ]<;>omega) (by omega) (by rw[hj];simpa using ew) ⟨rfl,fin⟩) hs
theorem bx:EQ X (II X.K):=by
 intro value slice pins s σ H x y v u Q I rx ry h hs;obtain⟨p,xs,i,z,rfl,rfl,hq,he,q⟩:=h;cases rx;obtain⟨t,rfl⟩:=ry;obtain⟨its,r,pl,hz⟩:=I.tuple hq;obtain⟨j,h1,h2,h3,h4,h5⟩:=vK he;obtain⟨w,ew,rw'⟩:=r.get h2;have hl:=r.length;have hn:=qG;have fin:EP X pins σ Q w s:=⟨z,H,I,rw',q⟩
 exact subscriptTail_builtinR (x:=w) pl.typeIs slot_tuple_getitem.lookup
  (getItem_tuple (j:=j) (Q:=λr s'=>r=w/\EP X pins σ Q r s') pl (by omega) (by omega) (by rw[aQ,<-hl];exact h1) (by simpa using ew) ⟨rfl,fin⟩) hs
theorem Dp:EQ X IJ:=by
 intro value slice pins s σ H x y v u Q I rx ry h hs;obtain⟨z,i,c,rfl,rfl,hz,he,q⟩:=h;obtain⟨t,rfl⟩:=rx;obtain⟨t',rfl⟩:=ry;obtain⟨j,h1,h2,h3,h4,h5⟩:=vK he;have hl:z.cps.toList.length=z.length:=by simp[Str.length]
 rw[hl] at h1 h4 h5;have hn:=qG;exact tail_any (typeIs_str s z t) slot_str_getitem.lookup (getItem_str (c:=c) (by
  have e1:decide (i < -(2 ^ 63:Int))=false:=decide_eq_false (by omega);have e2:decide (i>=2 ^ 63)=false:=decide_eq_false (by omega);rw[e1,e2,dL]) (by rw[h1];simpa using h2) ⟨.str ⟨#[c]⟩,H,I.tok _,⟨_,rfl⟩,q⟩) hs
def MU(K:PySem.W.Frag):R2:=λx y H Q=>IK K x y H Q\/II K x y H Q\/IJ x y H Q
theorem ji:EQ X (MU X.K):=b6.or (bx.or Dp)
theorem yV (its:List Value) (n j:Nat) (u:Value):Obj.mapSeq (·.setIfInBounds j u) { cls:=.type "list",data:=.seq its.toArray n }={ cls:=.type "list",data:=.seq (its.set j u).toArray n }:=by
 simp[Obj.mapSeq]
theorem bi.lst{pins:List (Addr×Obj)}{σ:St}{H:Hp}{s:Shared}{p:Addr}{xs:List V}(I:bi X pins σ H s)(h:H p=some (.lst xs)):
  ∃(its:List Value) (n:Nat),cO xs its/\s.heap.get? p=some { cls:=.type "list",data:=.seq its.toArray n }/\xs.length<=sizeLine:=by
 obtain⟨z,its,n,r,e⟩:=I.hok p _ h;exact⟨its,n,r,e,z⟩
theorem bi.lstUpd{pins:List (Addr×Obj)}{σ:St}{H:Hp}{s:Shared}{p:Addr}{xs ys:List V}{its its':List Value}{n n':Nat}{f:Obj->Obj}(I:bi X pins σ H s)(h:H p=some (.lst xs))
  (ho:s.heap.get? p=some { cls:=.type "list",data:=.seq its.toArray n }) (hf:f { cls:=.type "list",data:=.seq its.toArray n }={ cls:=.type "list",data:=.seq its'.toArray n' }) (r:cO ys its') (hz:ys.length<=sizeLine) (t:Nat) :
  bi X pins σ (upd H p (.lst ys)) { s with heap:=s.heap.update p f,toks:=t }:=by
 have e:(s.heap.update p f).get? p=some { cls:=.type "list",data:=.seq its'.toArray n' }:=by
  rw[dX f ho (by rw[hf]<;>rfl),hf]
 refine I.write (x:=p) (e:=p) (by rw[h];trivial) (.inl rfl) (λb u hb q=>(dk _ _ (ig hb)).trans q) ⟨_,e⟩ ?_;exact⟨hz,its',n',r,e⟩
def Kh:V->V->V->Hp->(Hp->Prop)->Prop:=λo i v H Q=>∃p xs k j,o=.ref p/\i=.int k/\H p=some (.lst xs)/\xJ xs.length k=some j/\Q (upd H p (.lst (xs.set j v)))
theorem set_list:Jc X Kh:=by
 intro pins s σ H o i v ov iv u Q I ro ri rv h;obtain⟨p,xs,k,j,rfl,rfl,hp,hj,q⟩:=h;cases ro;obtain⟨t,rfl⟩:=ri;obtain⟨its,n,r,ho,hz⟩:=I.lst hp;obtain⟨h1,h2,h3,h4⟩:=zt hj;have hl:=r.length;have hn:=qG;have I':bi X pins σ (upd H p (.lst (xs.set j v))) { s with heap:=s.heap.update p (Obj.mapSeq (·.setIfInBounds j u)) }:=
  I.lstUpd hp ho (yV its n j u) (r.set rv j) (by rw[List.length_set];exact hz) s.toks
 by_cases h0:0<=k
 ·have hk:k.toNat=j:=by
   rw[seqIndex_of h0 h4] at h1;exact bD h1
  exact PySem.W.ki_setAt ho h0 (by omega) (by rw[aQ,<-hl];exact h4) (by rw[hk];exact⟨_,I',q⟩)
 ·have hk:(k+(its.toArray.size:Int)).toNat=j:=by
   rw[seqIndex_neg (by omega) h3] at h1;rw[aQ,<-hl];exact bD h1
  exact PySem.W.ki_setBack ho (by omega) (by rw[aQ,<-hl];exact h3) (by omega) (by rw[hk];exact⟨_,I',q⟩)
theorem uj(lo hi:Option Int)(n:Nat):(sliceBounds lo hi none n).1=((HT.sIx n 0 lo:Nat):Int)/\(sliceBounds lo hi none n).2.1=((HT.sIx n n hi:Nat):Int)/\(sliceBounds lo hi none n).2.2=1:=by
 refine⟨?_,?_,rfl⟩
 ·cases lo with
  | none=>simp[sliceBounds,HT.sIx]
  | some i=>
   simp only[sliceBounds,HT.sIx,Option.getD_none,show (1:Int) > 0 by decide,if_true];by_cases h:i<0
   ·simp only[h,if_true]<;>omega
   ·simp only[h,if_false]<;>omega
 ·cases hi with
  | none=>simp[sliceBounds,HT.sIx]
  | some i=>
   simp only[sliceBounds,HT.sIx,Option.getD_none,show (1:Int) > 0 by decide,if_true];by_cases h:i<0
   ·simp only[h,if_true]<;>omega
   ·simp only[h,if_false]<;>omega
theorem sr(its:List Value)(lo hi:Option Int):slicePick its.toArray lo hi none=((its.drop (HT.sIx its.length 0 lo)).take (HT.sIx its.length its.length hi-HT.sIx its.length 0 lo)).toArray:=by
 obtain⟨h1,h2,h3⟩:=uj lo hi its.toArray.size;unfold slicePick;rw[h1,h2,h3];simp only[sliceRange_one,pick_run,aQ]<;>rfl
def Kg(K:PySem.W.Frag):V->Option Int->Option Int->Hp->VK->Prop:=λx lo hi H Q=>∃a xs,x=.ref a/\bv K H a xs/\∀p,H p=none->Q (.ref p) (upd H p (.lst (wv xs lo hi)))
theorem za:L8 X (Kg X.K):=by
 intro pins s σ H x v vl vu lo hi sl Q I rx hs pl pu h;obtain⟨a,xs,rfl,hx,q⟩:=h;cases rx;obtain⟨its,r,ht,hz⟩:=I.list hx;have hlen:=r.length;refine⟨"list",_,slot_list_getitem.lookup,ht.isList.typeIs,?_⟩;refine wpAny_getItem_list_slice ht.isList hs pl pu .none (by simp) ?_ (by rw[aQ]<;>omega);rw[sr,<-hlen];refine⟨.ref s.heap.objs.size,_,I.laid (t':=s.toks) (o:=.lst (wv xs lo hi)) (λb ob q=>aB _ q) (aH _) ?_,rfl,q _ (I.hok.fresh (aH _))⟩;exact⟨bU (wu xs lo hi) hz,_,0,(r.drop (HT.sIx xs.length 0 lo)).take (HT.sIx xs.length xs.length hi-HT.sIx xs.length 0 lo),aO _ rfl⟩
def Mb:V->V->Bool
 | .non,.non=>true
 | .bl a,.bl b=>a==b
 | .bl a,.int b=>(if a then 1 else 0)==b
 | .int a,.bl b=>a==(if b then 1 else 0)
 | .int a,.int b=>a==b
 | .str a,.str b=>a==b
 | _,_=>false
def Lz(x:V)(xs:List V):Bool:=xs.any λy=>Mb y x
theorem bS:iY X (.builtin "len") (λxs H Q=>∃p ys,xs=[.ref p]/\(bv X.K H p ys\/dA X.K H p ys)/\Q (.int ys.length) H):=by
 intro pins s σ H xs us Q I r h;obtain⟨p,ys,rfl,hq,q⟩:=h;obtain⟨u,rfl,rx⟩:=vals1 r;cases rx;have hn:=qG;rcases hq with hq | hq
 ·obtain⟨its,r',pl,hz⟩:=I.list hq;have hlen:=r'.length;exact Calls.call_len_list pl.isList (by simp only[aQ]<;>omega) ⟨.int ys.length,H,I.tok _,⟨s.toks+1,by rw[aQ,hlen]⟩,q⟩
 ·obtain⟨its,r',pl,hz⟩:=I.tuple hq;have hlen:=r'.length;exact len_tuple pl (by simp only[aQ]<;>omega) ⟨.int ys.length,H,I.tok _,⟨s.toks+1,by rw[aQ,hlen]⟩,q⟩
theorem pM:iY X (.type "list") (λxs H Q=>∃p ys,xs=[.ref p]/\(bv X.K H p ys\/dA X.K H p ys)/\∀l,H l=none->Q (.ref l) (upd H l (.lst ys))):=by
 intro pins s σ H xs us Q I r h;obtain⟨p,ys,rfl,hq,q⟩:=h;obtain⟨u,rfl,rx⟩:=vals1 r;cases rx;have fin:∀(its:List Value),cO ys its->ys.length<=sizeLine->∀(h':Heap) (c':Nat),(∀b o',s.heap.get? b=some o'->h'.get? b=some o') →
   h'.get? s.heap.objs.size=some { cls:=.type "list",dict:=none,data:=.seq its.toArray c',slots:=#[] }->EP X pins σ Q (.ref s.heap.objs.size) { s with heap:=h' }:=λits r' hz h' c' kp e=>
  ⟨.ref s.heap.objs.size,_,I.laid (t':=s.toks) kp (aH _) (show cZ X.prog X.w _ h' _ (.lst ys) from ⟨hz,its,c',r',e⟩),rfl,q _ (I.hok.fresh (aH _))⟩
 rcases hq with hq | hq
 ·obtain⟨its,r',pl,hz⟩:=I.list hq;have hlen:=r'.length;obtain⟨o,ho,hc,n,hd⟩:=pl.isList;exact call_list_seq p (.inl rfl) ho hc hd (λh' c' kp e=>fin its r' hz h' c' kp e) (by simp only[aQ]<;>omega)
 ·obtain⟨its,r',pl,hz⟩:=I.tuple hq;have hlen:=r'.length;obtain⟨o,ho,hc,n,hd⟩:=pl;exact call_list_seq p (.inr rfl) ho hc hd (λh' c' kp e=>fin its r' hz h' c' kp e) (by simp only[aQ]<;>omega)
theorem lB:iY X (.type "tuple") (λxs H Q=>∃p ys,xs=[.ref p]/\((bv X.K H p ys/\∀l,H l=none->Q (.ref l) (upd H l (.tup ys)))\/(dA X.K H p ys/\Q (.ref p) H))):=by
 intro pins s σ H xs us Q I r h;obtain⟨p,ys,rfl,h⟩:=h;obtain⟨u,rfl,rx⟩:=vals1 r;cases rx;rcases h with ⟨hq,q⟩ | ⟨hq,q⟩
 ·obtain⟨its,r',pl,hz⟩:=I.list hq;have hlen:=r'.length;refine call_tuple_list pl.isList (λh' kp=>?_) (by simp only[aQ]<;>omega);have I1:bi X pins σ H { s with heap:=h' }:=I.kept (t':=s.toks) kp;have I2:bi X pins σ (upd H h'.objs.size (.tup ys)) { s with heap:=h'.push { cls:=.type "tuple",data:=.seq its.toArray } }:=
   I1.laid (t':=s.toks) (λb o e=>aB _ e) (aH _) (show cZ X.prog X.w _ _ _ (.tup ys) from ⟨hz,its,r',IsTup.new _ _⟩)
  exact⟨.ref h'.objs.size,_,I2,rfl,q _ (I1.hok.fresh (aH _))⟩
 ·obtain⟨its,r',pl,hz⟩:=I.tuple hq;exact call_tuple_same pl ⟨.ref p,H,I,rfl,q⟩
def Bs (K : PySem.W.Frag) (T : String) (x : V) (H : Hp) : Prop := match x with
 | .str _ => T = "str"
 | .int _ => T = "int"
 | .ref p => (T = "list" ∧ ∃ xs, bv K H p xs) ∨ (T = "tuple" ∧ ∃ o, K.lookup p = some o ∧ o.cls = .type "tuple" ∧ o.dict = none) ∨
   (T = "dict" ∧ ((∃ kvs, H p = some (.dK kvs)) ∨ ∃ kvs, H p = some (.dT kvs))) ∨ (T = "set" ∧ ∃ S n, H p = some (.set S n))
 | _ => False
theorem Br{pins:List (Addr×Obj)}{σ:St}{H:Hp}{s:Shared}{T:String}{x:V}{v:Value}(I:bi X pins σ H s)(r:RelV x v)(ty:Bs X.K T x H):
  s.TypeIs v T/\∀a,v=.ref a->∃ob,s.heap.get? a=some ob/\ob.dict=none:=by
 cases x with
 | str z=>
  obtain⟨t,rfl⟩:=r;cases (show T="str" from ty);exact⟨typeIs_str s z t,λ_ e=>nomatch e⟩
 | int i=>
  obtain⟨t,rfl⟩:=r;cases (show T="int" from ty);exact⟨typeIs_int s i t,λ_ e=>nomatch e⟩
 | ref p=>
  cases r;rcases ty with ⟨rfl,xs,hq⟩ | ⟨rfl,o,hk,hc,hd⟩ | ⟨rfl,hk⟩ | ⟨rfl,S,n,hk⟩
  ·obtain⟨its,_,pl,_⟩:=I.list hq;refine⟨pl.isList.typeIs,λa e=>?_⟩;cases e;obtain⟨o,n,e,c,hd,_⟩:=pl;exact⟨o,e,hd⟩
  ·refine⟨⟨o,I.kIn p o hk,hc⟩,λa e=>?_⟩;cases e;exact⟨o,I.kIn _ o hk,hd⟩
  ·have z:∃o,s.heap.get? p=some o/\o.ExactDict:=by
    rcases hk with ⟨kvs,hk⟩ | ⟨kvs,hk⟩
    ·obtain⟨_,_,_,_,o,_,_,e,ex,_⟩:=I.hok p _ hk;exact⟨o,e,ex⟩
    ·obtain⟨_,_,_,_,o,_,_,e,ex,_⟩:=I.hok p _ hk;exact⟨o,e,ex⟩
   obtain⟨o,e,ex⟩:=z;refine⟨⟨o,e,ex.1⟩,λa e2=>?_⟩;cases e2;exact⟨o,e,ex.2.1⟩
  ·obtain⟨o,_,_,_,e,ex,_⟩:=I.hok p _ hk;refine⟨⟨o,e,ex.1⟩,λa e2=>?_⟩;cases e2;exact⟨o,e,ex.2.1⟩
 | _=>exact False.elim ty
def Hx(K:PySem.W.Frag)(T:String)(r:V->List V->Hp->VK->Prop)(to:TE):TE:=λσ H Q=>to σ H λx H1=>Bs K T x H1/\r x [] H1 Q
def Ka(K:PySem.W.Frag)(T:String)(r:V->List V->Hp->VK->Prop)(to:TE)(t:TA):TE:=λσ H Q=>to σ H λx H1=>Bs K T x H1/\t σ H1 λxs H2=>r x xs H2 Q
variable {o e:Expr} {es:List Expr} {to:TE} {t:TA} {name:Str} {apos cpos:Pos} {T id:String} {r:V->List V->Hp->VK->Prop}
theorem Ir (pa:PlainAttrs T) (slot:Slot T name id) (hty:typeOf (.builtin id)=pure (.type "method_descriptor")) (hm:Jq X id r) (ho:PE X o to)
  (hbase:attributeBase o name X.env (eval o X.env)=eval o X.env:=by rfl) (hline:(apos.endLine==cpos.line)=true:=by rfl):PE X (.Call (.Attribute o name apos) [] [] cpos) (Hx X.K T r to):=by
 intro pins s σ H Q I h;refine wpAny_Call_method0_late hbase hline (eR (ho pins s σ H _ I h) λv s1 ⟨x,H1,I1,r1,ty,q1⟩=>?_);obtain⟨h1,h2⟩:=Br I1 r1 ty;exact⟨T,id,pa,slot,hty,h1,h2,iz rfl (PySem.evalArgs_none (hm pins s1 σ H1 x [] v [] Q I1 r1 .nil q1))⟩
theorem Kx (pa:PlainAttrs T) (slot:Slot T name id) (hty:typeOf (.builtin id)=pure (.type "method_descriptor")) (hm:Jq X id r) (ho:PE X o to) (ha:PA X (e::es) t)
  (hbase:attributeBase o name X.env (eval o X.env)=eval o X.env:=by rfl)
  (hfew:((backTo cpos (starEach (e::es) X.env)).all (λx=>!x.1)&&(backToKw cpos (keywordEach [] X.env)).all (λx=>x.1.isSome)
   && decide ((e::es).length+([]:List Keyword).length+(if ([]:List Keyword).isEmpty then 0 else 1)<30))=true:=by rfl)
  (hline:(apos.endLine==cpos.line)=true:=by rfl) (hs:starEach (e::es) X.env=(false,eval e X.env)::starEach es X.env:=by rfl) (hplain:(backTo cpos (starEach es X.env)).any (·.1)=false:=by rfl) :
  PE X (.Call (.Attribute o name apos) (e::es) [] cpos) (Ka X.K T r to t):=by
 intro pins s σ H Q I h;refine wpAny_Call_method_late hbase hfew hline rfl (eR (ho pins s σ H _ I h) λv s1 ⟨x,H1,I1,r1,ty,q1⟩=>?_);obtain⟨h1,h2⟩:=Br I1 r1 ty;refine⟨T,id,pa,slot,hty,h1,h2,?_⟩;have hA:=ha cpos pins s1 σ H1 _ I1 q1;rw[hs] at hA ⊢;refine iz (by show (false || (backTo cpos (starEach es X.env)).any (·.1))=false;rw[hplain]<;>rfl) (Calls.evalArgs_plain ?_);exact eR hA λus s2 ⟨vs,H2,I2,r2,q2⟩=>hm pins s2 σ H2 x vs v us Q I2 r1 r2 q2
/- xs.append(e),list.index on a module's tuple .. are Jq facts of 06m -/
end
def Jg(X:Cx)(id:String)(r:V->List V->Hp->VK->Prop):Prop:=
 ∀(pins:List (Addr×Obj)) (s:Shared) (σ:St) (H:Hp) (x:V) (xs:List V) (v:Value) (us:List Value) (Q:VK),bi X pins σ H s->RelV x v->cO xs us->r x xs H Q →
  wpAny (model X.prog X.w) X.A (call (.builtin id) (v::us)) (EP X pins σ Q) X.xe s
theorem cO.one:∀{x:V} {us:List Value},cO [x] us->∃u,us=[u]/\RelV x u
 | _,_,.cons r .nil=>⟨_,rfl,r⟩
theorem cO.two:∀{x y:V} {us:List Value},cO [x,y] us->∃u v,us=[u,v]/\RelV x u/\RelV y v
 | _,_,_,.cons r (.cons q .nil)=>⟨_,_,rfl,r,q⟩
theorem cO.zero:∀{us:List Value},cO [] us->us=[]
 | _,.nil=>rfl
theorem cO.dropLast{xs:List V}{us:List Value}(h:cO xs us):cO xs.dropLast us.dropLast:=by
 induction h with
 | nil=>exact .nil
 | cons r t ih=>
  cases t with
  | nil=>exact .nil
  | cons q t'=>exact .cons r ih
theorem cO.rep{xs:List V}{us:List Value}(h:cO xs us):∀k:Nat,cO (List.replicate k xs).flatten (List.replicate k us).flatten
 | 0=>.nil
 | k+1=>by
  rw[fh,fh,io,io];exact cO.append h (cO.rep h k)
theorem yh{α:Type}(l:List α):l.eraseIdx (l.length - 1)=l.dropLast:=by
 induction l with
 | nil=>rfl
 | cons a r ih=>
  cases r with
  | nil=>rfl
  | cons b r=>
   have e:(a::b::r).length - 1=((b::r).length - 1)+1:=by
    have h1:(a::b::r).length=r.length+2:=rfl;have h2:(b::r).length=r.length+1:=rfl;omega
   rw[e,List.eraseIdx_cons_succ,ih]
   all_goals rfl
theorem foldl_rep(its:List Value):∀(k:Nat) (acc:List Value),
  List.foldl (λx1 x2=>x1++x2) acc.toArray (List.replicate k its.toArray)=(acc++(List.replicate k its).flatten).toArray
 | 0,acc=>by simp
 | k+1,acc=>by
  have e:acc.toArray++its.toArray=(acc++its).toArray:=by simp
  have e2:(acc++its)++(List.replicate k its).flatten=acc++(List.replicate (k+1) its).flatten:=by
   rw[fh,io,cK]
  rw[<-e2,<-foldl_rep its k (acc++its),<-e,fh,fX]
section
variable {X:Cx} {pins:List (Addr×Obj)} {σ:St} {H:Hp} {s:Shared} {l:Addr} {xs ys:List V}
theorem bi.lset{its its':List Value}{n:Nat}{f:Array Value->Array Value}{t':Nat}(I:bi X pins σ H s)(hH:H l=some (.lst xs))
  (e:s.heap.get? l=some { cls:=.type "list",data:=.seq its.toArray n }) (hf:f its.toArray=its'.toArray) (hv:cO ys its') (hz:ys.length<=sizeLine) :
  bi X pins σ (upd H l (.lst ys)) { s with heap:=s.heap.update l (Obj.mapSeq f),toks:=t' }:=by
 have q:=PySem.IsL.update e f;rw[hf] at q;refine I.write (x:=l) (e:=l) (by rw[hH];exact trivial) (.inl rfl) (λb' u hb hu=>(dk s.heap (Obj.mapSeq f) (ig hb)).trans hu) ⟨_,q⟩ ?_;exact⟨hz,its',_,hv,q⟩
theorem bi.lnew{its:List Value}{t':Nat}(I:bi X pins σ H s)(hv:cO ys its)(hz:ys.length<=sizeLine):
  bi X pins σ (upd H s.heap.objs.size (.lst ys)) { s with heap:=s.heap.push { cls:=.type "list",data:=.seq its.toArray },toks:=t' }:=
 I.laid (λ_ _ q=>aB _ q) (aH _) ⟨hz,its,0,hv,aO _ rfl⟩
theorem bi.fresh(I:bi X pins σ H s):H s.heap.objs.size=none:=I.hok.fresh (aH _)
theorem bi.lstM (I:bi X pins σ H s) (hH:H l=some (.lst xs)):xs.length<=sizeLine/\∃(its:List Value) (n:Nat),cO xs its/\xs.length=its.length/\s.heap.get? l=some { cls:=.type "list",data:=.seq its.toArray n }:=by
 obtain⟨z,its,n,r,e⟩:=I.hok l _ hH;exact⟨z,its,n,r,r.length,e⟩
theorem wX{n:Nat}(h:n<=sizeLine):Builtin.List.listTooLong n=false:=by
 unfold Builtin.List.listTooLong;exact decide_eq_false (by omega)
end
section
variable {X:Cx}
def uu:V->List V->Hp->VK->Prop:=λx vs H Q=>∃l xs y,x=.ref l/\vs=[y]/\H l=some (.lst xs)/\xs.length<sizeLine/\Q .non (upd H l (.lst (xs++[y])))
theorem d9:Jg X "list.append" uu:=by
 intro pins s σ H x vs v us Q I rx rv h;obtain⟨l,xs,y,rfl,rfl,hH,hz,q⟩:=h;cases rx;obtain⟨u,rfl,ru⟩:=rv.one;obtain⟨z,its,n,r,hl,e⟩:=I.lstM hH;refine call_meets F.slot_list_append ⟨_,e,rfl⟩ F.entry_list_append (F.args_list_append_2 _ _) (PySem.list_append l its.toArray n u (by rw[aQ];omega)) ⟨e,?_⟩;refine⟨.non,_,I.lset (its':=its++[u]) hH e (by simp) (r.append (.cons ru .nil)) ?_,rfl,q⟩;rw[af,cP];omega
def Et:V->List V->Hp->VK->Prop:=λx vs H Q=>∃l b xs zs,x=.ref l/\vs=[.ref b]/\H l=some (.lst xs)/\H b=some (.lst zs)/\xs.length+zs.length<=sizeLine/\Q .non (upd H l (.lst (xs++zs)))
theorem Jo:Jg X "list.extend" Et:=by
 intro pins s σ H x vs v us Q I rx rv h;obtain⟨l,b,xs,zs,rfl,rfl,hH,hB,hz,q⟩:=h;cases rx;obtain⟨u,rfl,ru⟩:=rv.one;cases ru;obtain⟨z,its,n,r,hl,e⟩:=I.lstM hH;obtain⟨z2,its2,n2,r2,hl2,e2⟩:=I.lstM hB;have hsz:its.toArray.size+its2.toArray.size<=sizeLine:=by rw[aQ,aQ];omega
 have hlong:¬(!its.toArray.isEmpty&&Builtin.List.listTooLong (its.toArray.size+its2.toArray.size))=true:=by
  rw[wX hsz,Bool.and_false];exact a7
 refine call_meets F.slot_list_extend ⟨_,e,rfl⟩ F.entry_list_extend (F.args_list_extend_2 _ _)
  (AutoSeq1.list_extend_list_list_0 l its.toArray n b its2.toArray n2 hlong (by rw[aQ];omega) (by omega)) ⟨e,e2,?_⟩
 refine⟨.non,_,I.lset (its':=its++its2) hH e (by simp) (r.append r2) ?_,rfl,q⟩;rw[af];omega
def Ki:V->List V->Hp->VK->Prop:=λx vs H Q=>∃l xs y,x=.ref l/\vs=[]/\H l=some (.lst xs)/\xs[xs.length - 1]? = some y/\Q y (upd H l (.lst xs.dropLast))
theorem Da:Jg X "list.pop" Ki:=by
 intro pins s σ H x vs v us Q I rx rv h;obtain⟨l,xs,y,rfl,rfl,hH,hy,q⟩:=h;cases rx;have hus:=rv.zero;subst hus;obtain⟨z,its,n,r,hl,e⟩:=I.lstM hH;obtain⟨u,hu,ru⟩:=r.get hy;have hy':its.toArray[its.toArray.size - 1]? = some u:=by
  show its.toArray[its.length - 1]? = some u;rw[<-fR,<-hl];exact hu
 refine call_meets F.slot_list_pop ⟨_,e,rfl⟩ F.entry_list_pop (F.args_list_pop_1 _) (MeetsSeq.list_pop_last l its.toArray n u hy' (by rw[aQ];omega)) ⟨e,?_⟩;refine⟨y,_,I.lset (its':=its.dropLast) hH e ?_ r.dropLast ?_,ru,q⟩
 ·show its.toArray.eraseIdxIfInBounds (its.toArray.size - 1)=its.dropLast.toArray;rw[aQ,List.eraseIdxIfInBounds_toArray,yh]
 ·rw[List.length_dropLast];omega
def Km:R2:=λx y H Q=>∃l b xs zs,x=.ref l/\y=.ref b/\H l=some (.lst xs)/\H b=some (.lst zs)/\xs.length+zs.length<=sizeLine/\∀p,H p=none->Q (.ref p) (upd H p (.lst (xs++zs)))
theorem oR:nQ X (binaryOp .Add) Km:=by
 intro pins s σ H x y v u Q I rx ry h;obtain⟨l,b,xs,zs,rfl,rfl,hH,hB,hz,q⟩:=h;cases rx;cases ry;obtain⟨z,its,n,r,hl,e⟩:=I.lstM hH;obtain⟨z2,its2,n2,r2,hl2,e2⟩:=I.lstM hB;refine PySem.P.add_list e e2 ?_ (by rw[aQ,aQ];omega);have ea:its.toArray++its2.toArray=(its++its2).toArray:=by simp
 rw[ea];exact⟨.ref _,_,I.lnew (t':=s.toks) (r.append r2) (by rw[af];omega),rfl,q _ I.fresh⟩
def Lq:R2:=λx y H Q=>∃l k xs,x=.ref l/\y=.int k/\H l=some (.lst xs)/\-(2 ^ 63)<=k/\k<2 ^ 63/\xs.length*k.toNat<=sizeLine ∧
 ∀p,H p=none->Q (.ref p) (upd H p (.lst (List.replicate k.toNat xs).flatten))
theorem len_rep{α:Type}(xs:List α)(k:Nat):(List.replicate k xs).flatten.length=k*xs.length:=by
 induction k with
 | zero=>simp
 | succ k ih=>rw[fh,io,af,ih,Nat.succ_mul,Nat.add_comm]
theorem Iw:nQ X (binaryOp .Mult) Lq:=by
 intro pins s σ H x y v u Q I rx ry h;obtain⟨l,k,xs,rfl,rfl,hH,h1,h2,hz,q⟩:=h;cases rx;obtain⟨t,rfl⟩:=ry;obtain⟨z,its,n,r,hl,e⟩:=I.lstM hH;have hlen:its.toArray.size*k.toNat<=sizeLine:=by rw[aQ,<-hl];exact hz
 have hcap:¬its.toArray.size*k.toNat > (2 ^ 63 - 1) / 8:=by
  have:(sizeLine:Nat)<=(2 ^ 63 - 1) / 8:=by decide
  omega
 have hfit:¬(!Builtin.List.listFitsIndex k)=true:=by
  rw[fitsIndex_both h1 h2];exact a7
 have hlong:¬Builtin.List.listTooLong (its.toArray.size*k.toNat)=true:=by
  rw[wX hlen];exact a7
 have hnew:List.foldl (λx1 x2=>x1++x2) #[] (List.replicate (if its.toArray.isEmpty=true then 0 else k.toNat) its.toArray)=(List.replicate k.toNat its).flatten.toArray:=by
  have f0:∀m:Nat,List.foldl (λx1 x2=>x1++x2) #[] (List.replicate m its.toArray)=(List.replicate m its).flatten.toArray:=λm=>by
   have:=foldl_rep its m [];rw[fW] at this;exact this
  rw[f0];cases its with
  | nil=>simp
  | cons a r'=>rw[if_neg (by simp)]
 refine wpAny_binaryOp_repeat_ref (T:="list") (U:="int") (by decide) ⟨_,e,rfl⟩ (λs'=>typeIs_int s' k t) noFill_list_mul F.fills_int_mul F.slot_int_rmul repeat_list F.slot_int_index.lookup
  (call_meets F.slot_int_rmul (typeIs_int s k t) F.entry_int_rmul (F.args_int_rmul_2 _ _) (int___rmul___int_list k t l its.toArray n)
   ⟨e,rfl,⟨_,e,rfl⟩,call_meets F.slot_list_mul ⟨_,e,rfl⟩ F.entry_list_mul (F.args_list_mul_2 _ _) (AutoListH.list___mul___list_int_3 l its.toArray n k t hfit hcap hlong) ⟨e,?_⟩⟩)
 rw[hnew];exact⟨.ref _,_,I.lnew (t':=s.toks) (r.rep k.toNat) (by rw[len_rep,Nat.mul_comm];exact hz),rfl,q _ I.fresh⟩
end
section
set_option maxRecDepth 100000 in
end
end L2
namespace Att
open PySem PySem.W PySem.Calls PyProof.Rows
theorem qg{P:Params}{h:Heap}:∀(ns:List Int) (vs:List Value),WellAll P h vs (ns.map WData.int)->IntsAre vs ns:=by
 intro ns
 induction ns with
 | nil=>
  intro vs w;rw[fF] at w;cases w;exact .nil
 | cons n ns ih=>
  intro vs w;rw[ao] at w;cases w with
  | cons a b=>
   cases a;exact .cons _ _ (ih _ b)
theorem AZ{l:OpenLaw}{n:Nat}(hn:l.most=some n){P:Params}{h:Heap}{args:List WData}{vals:List Value}
  (hpre:l.row.toRowW.claim.pre args=true) (hwl:WellAll P h vals args) :
  ∃a vs ns,vals=[Value.ref a]/\args=[WData.list (ns.map WData.int)]/\h.get? a=some { cls:=.type "list",data:=.seq vs.toArray }/\IntsAre vs ns/\ns.length<=n:=by
 have hsh:WShape.hasAll [] args [.list .int]=true:=(pre_splitW hpre).1;have hc:l.pre.holds [] { args:=args }=true:=(pre_splitW hpre).2;obtain⟨d,r,rfl,h1,h2⟩:=hasAllW_cons hsh;obtain rfl:=hasAllW_nil h2;obtain⟨xs,rfl,h3⟩:=hasW_list h1;obtain⟨ns,rfl⟩:=items_int h3;have hlen:ns.length<=n:=by
  unfold OpenLaw.pre at hc;have h4:(WTm.not (.lt (.lit (.int (n:Int))) (.len (.arg 0)))).holds [] { args:=[.list (ns.map .int)] }=true:=by
   have h4:=(holds_andW hc).1;rw[hn] at h4;exact h4
  have h5:=condW_of h4 (w_not (w_lt w_lit (w_len_list (w_arg rfl))));rw[aA] at h5;refine Nat.le_of_not_lt λq=>?_;have q':(n:Int)<((ns.length:Nat):Int):=by omega
  first
   | (rw[decide_eq_true q'] at h5;exact absurd h5 (by decide))
   | (simp at h5;omega)
 cases hwl with
 | cons w1 w2=>
  cases w2;cases w1 with
  | list ho hall=>exact⟨_,_,ns,rfl,rfl,ho,qg ns _ hall,hlen⟩
theorem Ab(l:OpenLaw)(args:List WData):l.row.toRowW.claim.post args (.bool true) args=true:=
 postW_of (r:=l.row.toRowW) (X:=(true==true))
  (show WShape.has [] (.bool true) .bool=true by first | rfl | decide | simp[WShape.has,WShape.arms,WShape.armsAll])
  (show (WTm.eq .res (.lit (.bool true))).value [] { args:=args,res:=some (.bool true),after:=args }=some (.bool (true==true)) from w_eq_bool (w_res rfl) w_lit) rfl
theorem attach_call{l:OpenLaw}{n:Nat}{q:Program}{loose:List Str}{XP:(Str->Option Value)->Heap->Prop}{YP:World->Heap->Prop}{d:DefRec}
  (hn:l.most=some n) (hdf:d.params.defaults=[])
  (call:∀(w:World) (s₀ s₁:Shared) (mg mb:Str->Option Value) (fa:Addr) (o:Obj) (pm cd doc:Value) (a:Addr) (vs:List Value) (ns:List Int),
   Ground q loose [] XP w s₀ mg mb s₁.heap->YP w s₁.heap →
   s₁.heap.get? fa=some o->o.data=.func (docDef d.name d.params d.body d.scope pm cd doc)->s₁.heap.CodeRec cd d.name->mg d.name=some (.ref fa) →
   s₁.heap.get? a=some { cls:=.type "list",data:=.seq vs.toArray }->IntsAre vs ns->ns.length<=n->s₁.gens=#[] →
   codeAny (model l.prog w) callerA (.call (.ref fa) ⟨[.ref a],[]⟩) (λr s'=>r=.ok (.ret (.bool true))/\OldK s₁.heap s'.heap/\s'.os=s₁.os/\AllBare s'.gens) s₁) :
  WalkO q loose XP YP l.row.toRowW d [] (λf vs=>PySem.call f vs):=by
 intro w s₀ s₁ mg mb G Y fa o pm cd doc dV kV ho hd hcd hD hmg hg args vals as hpre hlay hrd hwl hlo;obtain rfl:dV=.none:=Dflts.none hD hdf;obtain rfl:kV=.none:=Dflts.noKw hD;obtain⟨a,vs,ns,rfl,rfl,hobj,hints,hlen⟩:=AZ hn hpre hwl;refine enter_call (codeAny_mono (call w s₀ s₁ mg mb fa o pm cd doc a vs ns G Y ho (fd_plain hd) hcd hmg hobj hints hlen hg) λr s' hq=>?_);obtain⟨rfl,h2,h3,h4⟩:=hq;exact⟨.inl ⟨.bool true,.bool true,[],rfl,λ_=>rfl,.bool true,Ab l _,λ_=>⟨List.Pairwise.nil,λ_ hm=>(nomatch hm)⟩⟩,h2,h3,h4⟩
end Att
namespace L2
open PySem PySem.Spec PyProof.Rows
theorem nW:∀{vs:List Value} {ns:List Int},IntsAre vs ns->cO (ns.map V.int) vs
 | _,_,.nil=>.nil
 | _,_,.cons n t h=>.cons ⟨t,rfl⟩ (nW h)
def Jd(H:Hp):Prop:=∀b,H b=none\/∃o xs,H b=some (.frz o (.lst xs))
theorem Dm{P:Program}{w:World}{K:PySem.W.Frag}{mg mb:Str->Option Value}{CX:EO}{k:Nat}{fa a:Addr}{fd:FuncData}{x:Str}{sp:Sp}{s₁:Shared}{vs:List Value}{ns:List Int}
  (KX:K.In s₁.heap) (hns:s₁.heap.Ns mainGlobals mg) (hb:s₁.heap.Ns builtinsNs mb) (hbb:∀x:Str,x≠"__name__"->mb x=bootBuiltins x) (hlim:s₁.heap.NoLimit) (hg:s₁.gens=#[])
  (ha:s₁.heap.get? a=some { cls:=.type "list",data:=.seq vs.toArray }) (hi:IntsAre vs ns) (hl:ns.length<=sizeLine) (hr:iM k callerA)
  (F:∀base:Heap,K.In base->base.Ns mainGlobals mg->qO P w K mg base CX k fa fd [x] sp) (hbind:∀(s:Shared) (u:Value),BindsTo s fd ⟨[u],[]⟩ [(x,u)])
  (hsp:∀H:Hp,Jd H->bv K H a (ns.map V.int)->sp [.ref a] H (λv _=>v=.bl true) λ_ _ _=>False)
  (hCX:∀H e s',CX [] H s₁ (λ_ _ _=>False) e s'->False) :
  codeAny (model P w) callerA (.call (.ref fa) ⟨[.ref a],[]⟩) (λr s'=>r=.ok (.ret (.bool true))/\OldK s₁.heap s'.heap/\s'.os=s₁.os/\AllBare s'.gens) s₁:=by
 have rv:=nW hi;have lenV:=hi.length;have core:∀H:Hp,Jd H->bv K H a (ns.map V.int)->o6 P w H s₁.heap->(∀b,H b≠none->b=a)->(H a≠none->K.lookup a=none) →
   codeAny (model P w) callerA (.call (.ref fa) ⟨[.ref a],[]⟩) (λr s'=>r=.ok (.ret (.bool true))/\OldK s₁.heap s'.heap/\s'.os=s₁.os/\AllBare s'.gens) s₁:=by
  intro H hO hS hok hA hK;have base_of:∀{b:Addr} {o:Obj},s₁.heap.get? b=some o->H b=none->(vF s₁.heap H).get? b=some o:=λe n=>Du e n;have noA:∀{b:Addr} {o:Obj} {es:Array DictEntry} {ep:Nat},s₁.heap.get? b=some o->o.data=.dict es ep->H b=none:=fun {b o es ep} e d=>by
   cases q:H b with
   | none=>rfl
   | some u=>
    have e':b=a:=hA b (by rw[q];simp);subst e';rw[ha] at e;cases e;have d':Data.seq vs.toArray _=Data.dict es ep:=d;cases d'
  have nsK:∀{b:Addr} {m:Str->Option Value},s₁.heap.Ns b m->(vF s₁.heap H).Ns b m:=fun {b m} ⟨o,es,ep,e,d,r⟩=>⟨o,es,ep,base_of e (noA e d),d,r⟩
  have hKb:K.In (vF s₁.heap H):=λb o e=>base_of (KX b o e) (by
   cases q:H b with
   | none=>rfl
   | some u=>
    have e':b=a:=hA b (by rw[q];simp);subst e';rw[hK (by rw[q];simp)] at e;cases e)
  have hM:Mod K mg (vF s₁.heap H):=⟨hKb,nsK hns,⟨mb,nsK hb,hbb⟩,let ⟨mc,h1,h2⟩:=hlim;⟨mc,nsK h1,h2⟩⟩
  have e0:yx P w K mg (vF s₁.heap H) callerA [] s₁ H:=⟨rfl,hM,λb o e=>Fd e,gq (Aw _ _),trivial,λb hb=>absurd (show b∈([]:List Addr) from hb) (by simp),hok,.of_eq hg⟩
  refine codeAny_mono ((F _ hKb (nsK hns)).run callerA [] s₁ H ⟨[.ref a],[]⟩ [.ref a] [.ref a] _ _ hr e0 (hbind s₁ (.ref a)) (.cons rfl .nil) (hsp H hO hS)) λr s' h=>?_;cases r with
  | error e=>exact(hCX H e s' h).elim
  | ok fl=>
   cases fl with
   | next=>exact False.elim h
   | brk=>exact False.elim h
   | cont=>exact False.elim h
   | ret u=>
    obtain⟨v,H',os,bare,un,hok',r',q⟩:=h;have q':v=.bl true:=q;subst q';obtain rfl:u=Value.bool true:=r';refine⟨rfl,OldK.of_keep λb o e=>?_,os,bare⟩;cases q:H b with
    | none=>exact un.keep b o e q (by intro z;exact absurd (show b∈([]:List Addr) from z) (by simp)) (by simp)
    | some u=>
     rcases hO b with z | ⟨ob,xs,z⟩
     ·rw[q] at z;cases z
     ·have z2:=un.frzs b ob _ z;obtain⟨e1,_⟩:=hok b _ z;obtain⟨e2,_⟩:=hok' b _ z2;rw[e] at e1;cases e1;exact e2
 cases hk:K.lookup a with
 | some o=>
  have e:=KX a o hk;rw[ha] at e;cases e;refine core (λ_=>none) (λ_=>.inl rfl) (.inr ⟨_,vs.toArray,_,hk,rfl,rfl,rfl,by rw[aQ,lenV];exact hl,by simpa using rv⟩) (λb u z=>by have z':(none:Option HO)=some u:=z;cases z') (λb z=>absurd rfl z) λz=>absurd rfl z
 | none=>
  refine core (λb=>if b=a then some (.frz { cls:=.type "list",data:=.seq vs.toArray } (.lst (ns.map V.int))) else none) (λb=>?_) (.inl (.inr ⟨{ cls:=.type "list",data:=.seq vs.toArray },if_pos rfl⟩)) (λb u z=>?_) (λb z=>?_) λ_=>hk
  ·by_cases hb:b=a
   ·exact .inr ⟨_,_,if_pos hb⟩
   ·exact .inl (if_neg hb)
  ·by_cases hb:b=a
   ·have z':=(if_pos hb).symm.trans z;cases z';subst hb;exact⟨ha,by rw[aA];exact hl,vs,_,rv,ha⟩
   ·have z':=(if_neg hb).symm.trans z;cases z'
  ·by_cases hb:b=a
   ·exact hb
   ·exact absurd (if_neg hb) z
abbrev M0 {K:PySem.W.Frag} {h:Heap} (_:K.In h):PySem.W.Frag:=K
theorem yy{l:PySem.W.OpenLaw}{n k:Nat}{q:Program}{loose:List Str}{XP:(Str->Option Value)->Heap->Prop}{YP:World->Heap->Prop}{d:DefRec}{K:Params->PySem.W.Frag}{CX:World->EO}{sp:World->Sp}{x:Str}
  (hn:l.most=some n) (hn2:n<=sizeLine) (hdf:d.params.defaults=[]) (hr:iM k callerA)
  (hY:∀(w:World) (h:Heap),YP w h->(K w.params).In h)
  (F:∀(w:World) (mg:Str->Option Value) (fa:Addr) (h:Heap),(K w.params).In h->h.Ns mainGlobals mg->mg d.name=some (.ref fa) →
   ∃fd:FuncData,(∀(s:Shared) (u:Value),BindsTo s fd ⟨[u],[]⟩ [(x,u)]) ∧
    ∀base:Heap,(K w.params).In base->base.Ns mainGlobals mg->qO l.prog w (K w.params) mg base (CX w) k fa fd [x] (sp w))
  (hsp:∀(w:World) (H:Hp) (a:Addr) (ns:List Int),ns.length<=n->Jd H->bv (K w.params) H a (ns.map V.int)->sp w [.ref a] H (λv _=>v=.bl true) λ_ _ _=>False)
  (hCX:∀(w:World) (H:Hp) (s:Shared) (e:Value) (s':Shared),CX w [] H s (λ_ _ _=>False) e s'->False) :
  PySem.W.WalkO q loose XP YP l.row.toRowW d [] (λf vs=>PySem.call f vs):=by
 refine Att.attach_call hn hdf λw s₀ s₁ mg mb fa o pm cd doc a vs ns G Y ho hd hcd hmg hobj hints hlen hg=>?_;have KX:=hY w _ Y;obtain⟨fd,hb,hF⟩:=F w mg fa _ KX G.T.g hmg;exact Dm KX G.T.g G.T.b G.T.builtins G.T.nolimit hg hobj hints (bU hlen hn2) hr hF hb (λH hO hS=>hsp w H a ns hlen hO hS) λH e s'=>hCX w H s₁ e s'
end L2
/- THE LAST THEOREM (shape;LID,My.* are yours):
   My.Adr: a structure of the addresses that your layer names (classes,functions);My.Txt K t: a structure (Prop) of the equations over K;
   My.txt_mk:{K} {implicit addresses ..} (e1:nsIn K mainGlobals "law"=some (some (.ref f))) (e2:K.lookup f=some ⟨oc,od,.func (fnOf "law" "law" params body scope dV kV doc pm an cdv ct),sl⟩) (e3:codeIn K cdv "law"=true) ..:∃t,My.Txt K t
set_option maxRecDepth 100000 in
set_option maxHeartbeats 0 in
theorem PySem.Challenge.cw_LID_holds : PySem.Challenge.rw_LID.Holds := by
 w_on; o_law; k_head; (case hw => w_witness2)
 k_fill
 refine L2.yy (l := PySem.Challenge.rw_LID) (n := 63) (k := 40) (x := "script") (CX := λw => ..) (sp := λ_ => My.sp_law) rfl (by decide) rfl ⟨rfl, by decide, by decide⟩ (λw h Y => PySem.W.kIn_of Y) ?F ?S ?C
 case F =>
  intro w mg fa h KX G hmg;have T : ∃t, My.Txt (L2.M0 KX) t := by
   dsimp only [L2.M0]                          -- K must stand as «<heap const> w.params» for k_is;refine' My.txt_mk ?e1 ?e2 ?e3 ..
   (case e1 => PySem.W.k_is)                    -- in the order: a name -> its address -> its object -> its parts
   (case e2 => PySem.W.k_is)
   ..
  obtain ⟨t, T⟩ := T;have e0 := hmg.symm.trans (eK KX G T.law);cases e0                                       -- fa is the law's own address;exact ⟨_, λs u => .of_eq rfl, λbase kb nb => My.law_fn T kb nb⟩     -- if «.of_eq rfl» comes too early: refine' ⟨_, ?b, λbase kb nb => My.law_fn T kb nb⟩; exact λs u => .of_eq rfl
 case S => exact λw H a ns hl hO hS => ..
 case C => exact ..
(the tactic k_is has no namespace: write k_is) -/
namespace L2
open PySem PySem.Spec PyProof.Rows
def kg(s:Stmt):Arguments:=match s with
 | .FunctionDef _ a _ _ _ _ _ _ _ _=>a
 | _=>{ posonlyargs:=[],args:=[],vararg:=none,kwonlyargs:=[],kw_defaults:=[],kwarg:=none,defaults:=[] }
def j4(s:Stmt):List Stmt:=match s with
 | .FunctionDef _ _ b _ _ _ _ _ _ _=>b
 | _=>[]
def bC(s:Stmt):Scope:=match s with
 | .FunctionDef _ _ _ _ _ _ sc _ _ _=>sc
 | _=>{ kind:=.function,names:=[],isGenerator:=false,isCoroutine:=false }
abbrev BV:EO:=λ_ _ _ _ _ _=>False
abbrev E0:XK:=λ_ _ _=>False
theorem Kz{X:Cx}:yw BV X E0:=λ_ _ _ _ _ _ _ h=>h.elim
structure ER (K:PySem.W.Frag) (x qual:Str) (st:Stmt) (f:Addr) (fd:FuncData):Prop where
 ex:∃ (oc:Value) (od:Option Addr) (kV doc pm:Value) (an:Option Addr) (cdv ct:Value) (osl:Array (Option Value)),
  fd=PySem.W.fnOf x qual (kg st) (j4 st) (bC st) .none kV doc pm an cdv ct/\K.lookup f=some ⟨oc,od,.func fd,osl⟩/\PySem.W.codeIn K cdv qual=true
 kp:PySem.W.keepIn K (.ref f)=true
section
variable {P:Program} {w:World} {K:PySem.W.Frag} {mg:Str->Option Value} {base:Heap}
theorem ER.ok{x qual:Str}{st:Stmt}{f:Addr}{fd:FuncData}{N ps:List Str}{k:Nat}{sp:Sp}(F:ER K x qual st f fd)(S:be N ps (bC st))(len:∀vs H Q E,sp vs H Q E->vs.length=ps.length)
  (hbody:∀(cdv:Value) (A:Around) (outer:List Env) (s:Shared) (H:Hp) (vs:List V) (Q:VK) (E:XK),iM k (A.deeper (envOfC qual (bC st) s.heap.objs.size f cdv))->sp vs H Q E →
   ∃t,xF (wt BV P w K mg base N qual (bC st) f cdv A outer s H E).nox (j4 st) t/\t { nx:=λ_ H'=>Q .non H',rt:=Q } (start N vs) H):qO P w K mg base BV (k+1) f fd ps sp:=by
 obtain⟨oc,od,kV,doc,pm,an,cdv,ct,osl,rfl,lk,hcd⟩:=F.ex;refine LI lk hcd S len λA outer s H vs Q E hr hsp=>?_;obtain⟨t,h,q⟩:=hbody cdv A outer s H vs Q E hr hsp;exact⟨t,h.nox,q⟩
theorem ER.binds{x qual:Str}{st:Stmt}{f:Addr}{fd:FuncData}{ps:List Str}(F:ER K x qual st f fd)
  (h:∀(kV doc pm:Value) (an:Option Addr) (cdv ct:Value) (us:List Value),us.length=ps.length->bindArgs (PySem.W.fnOf x qual (kg st) (j4 st) (bC st) .none kV doc pm an cdv ct) ⟨us,[]⟩=pure (ps.zip us)):Binds K fd ps []:=by
 obtain⟨oc,od,kV,doc,pm,an,cdv,ct,osl,rfl,lk,hcd⟩:=F.ex;exact .all (h kV doc pm an cdv ct)
theorem J2{x qual:Str}{st:Stmt}{f:Addr}{oc:Value}{od an:Option Addr}{osl:Array (Option Value)}{kV doc pm cdv ct:Value}(l:K.lookup f=some ⟨oc,od,.func (PySem.W.fnOf x qual (kg st) (j4 st) (bC st) .none kV doc pm an cdv ct),osl⟩)
  (c:PySem.W.codeIn K cdv qual=true) (k:PySem.W.keepIn K (.ref f)=true):ER K x qual st f (PySem.W.fnOf x qual (kg st) (j4 st) (bC st) .none kV doc pm an cdv ct):=⟨⟨oc,od,kV,doc,pm,an,cdv,ct,osl,rfl,l,c⟩,k⟩
end
theorem bO{n:Nat}(h:n<=1000):n<sizeLine:=Nat.lt_of_le_of_lt h (by decide)
section
variable {X:Cx}
theorem pv (i:Nat) {x:Str} {pos:Pos} (hN:X.N[i]? = some x:=by rfl) (hv:LM X.env.scope x:=by first | exact Or.inl rfl | exact Or.inr (Or.inl rfl) | exact Or.inr (Or.inr rfl)) (hd:(x==("__debug__":Str))=false:=by decide)
  (hcd:(x==("__classdict__":Str))=false:=by decide):PE X (.Name x pos) (xT i):=Ih hN hv hd hcd
end
theorem JU{A B:Prop}(h:B):if false=true then A else B:=by
 rw[if_neg a7];exact h
theorem JT{A B:Prop}(h:A):if true=true then A else B:=by
 rw[if_pos rfl];exact h
theorem hZ{c A B:Prop} [Decidable c] (h1:c->A) (h2:¬c->B):if c then A else B:=by
 by_cases h:c
 ·rw[if_pos h];exact h1 h
 ·rw[if_neg h];exact h2 h
def ak(H H':Hp):Prop:=∀b o,H b=some o->H' b=some o
theorem ak.refl(H:Hp):ak H H:=λ_ _ h=>h
theorem ak.trans{H H1 H2:Hp}(a:ak H H1)(b:ak H1 H2):ak H H2:=λc o h=>b c o (a c o h)
theorem ak.free{H H':Hp}(e:ak H H'){l:Addr}(h:H' l=Option.none):H l=Option.none:=by
 cases q:H l with
 | none=>rfl
 | some o=>
  rw[e l o q] at h;cases h
end L2
set_option maxHeartbeats 4000000
namespace L2
open PySem PySem.Spec PyProof.Rows
mutual
inductive Rep (K:PySem.W.Frag) (H:Hp):V->PyData->Prop
 | non:Rep K H .non .none
 | bl (b:Bool):Rep K H (.bl b) (.bool b)
 | int (i:Int):Rep K H (.int i) (.int i)
 | str (x:Str):Rep K H (.str x) (.str x)
 | tup {a:Addr} {xs:List V} {ds:List PyData}:dA K H a xs->qM K H xs ds->Rep K H (.ref a) (.tuple ds)
 | lst {a:Addr} {xs:List V} {ds:List PyData}:bv K H a xs->qM K H xs ds->Rep K H (.ref a) (.list ds)
inductive qM (K:PySem.W.Frag) (H:Hp):List V->List PyData->Prop
 | nil:qM K H [] []
 | cons {x:V} {xs:List V} {d:PyData} {ds:List PyData}:Rep K H x d->qM K H xs ds->qM K H (x::xs) (d::ds)
end
section
variable {X:Cx} {pins:List (Addr×Obj)} {σ:St} {H:Hp} {s:Shared}
mutual
theorem Rep.reads(I:bi X pins σ H s):∀{x:V} {d:PyData} {u:Value},Rep X.K H x d->RelV x u->∃as,Reads s.heap u d as
 | _,_,_,.non,r=>by cases r;exact⟨_,.none⟩
 | _,_,_,.bl b,r=>by cases r;exact⟨_,.bool b⟩
 | _,_,_,.int i,r=>by obtain⟨t,rfl⟩:=r;exact⟨_,.int i t⟩
 | _,_,_,.str x,r=>by obtain⟨t,rfl⟩:=r;exact⟨_,.str x t⟩
 | _,_,_,.tup h hl,r=>by
  cases r;obtain⟨its,vs,⟨o,e,c,n,dd⟩,_⟩:=I.tuple h;obtain⟨as,ra⟩:=qM.reads I hl vs;exact⟨_,.tuple e c dd (by simpa using ra)⟩
 | _,_,_,.lst h hl,r=>by
  cases r;obtain⟨its,vs,pl,_⟩:=I.list h;obtain⟨o,e,c,n,dd⟩:=pl.isList;obtain⟨as,ra⟩:=qM.reads I hl vs;exact⟨_,.list e c dd (by simpa using ra)⟩
theorem qM.reads(I:bi X pins σ H s):∀{xs:List V} {ds:List PyData} {us:List Value},qM X.K H xs ds->cO xs us->∃as,ReadsAll s.heap us ds as
 | _,_,_,.nil,.nil=>⟨_,.nil⟩
 | _,_,_,.cons h hl,.cons r rs=>by
  obtain⟨as,ra⟩:=Rep.reads I h r;obtain⟨bs,rb⟩:=qM.reads I hl rs;exact⟨_,.cons ra rb⟩
end
end
def A3(K:PySem.W.Frag)(neg:Bool):R2:=λx y H Q=>∃d e,Rep K H x d/\Rep K H y e/\d.canLay0=true/\e.canLay0=true/\min d.depth e.depth<=60 ∧
 Q (.bl (if neg then !PyData.eqv d e else PyData.eqv d e)) H
section
variable {X:Cx}
theorem xv(hu:X.A.units+64<cLine):nQ X (compareOp .Eq) (A3 X.K false):=by
 intro pins s σ H x y v u Q I rx ry h;obtain⟨d,e,h1,h2,h3,h4,h5,q⟩:=h;obtain⟨as,ra⟩:=h1.reads I rx;obtain⟨bs,rb⟩:=h2.reads I ry;exact SeqAt.compareEq_reads ra rb h3 h4 (by omega) ⟨.bl _,H,I,rfl,q⟩
theorem DU(hu:X.A.units+64<cLine):nQ X (compareOp .NotEq) (A3 X.K true):=by
 intro pins s σ H x y v u Q I rx ry h;obtain⟨d,e,h1,h2,h3,h4,h5,q⟩:=h;obtain⟨as,ra⟩:=h1.reads I rx;obtain⟨bs,rb⟩:=h2.reads I ry;exact SeqAt.compareNe_reads ra rb h3 h4 (by omega) ⟨.bl _,H,I,rfl,q⟩
open Classical in
noncomputable def eqR (h:Heap) (d:PyData) (u:Value):Bool:=if z:∃e as,Reads h u e as/\e.canLay0=true then PyData.eqv z.choose d else false
theorem EB{h:Heap}{d e:PyData}{u:Value}{as:List Addr}(r:Reads h u e as)(c:e.canLay0=true):eqR h d u=PyData.eqv e d:=by
 have z:∃e as,Reads h u e as/\e.canLay0=true:=⟨e,as,r,c⟩
 unfold eqR;rw[dif_pos z];obtain⟨as',r',c'⟩:=z.choose_spec;rw[SeqAt.Reads.unique _ _ _ _ _ c' r' r]
theorem pP{h:Heap}{d:PyData}:∀{us:List Value} {es:List PyData} {as:List Addr},ReadsAll h us es as->PyData.canLayAll0 es=true->us.any (eqR h d)=es.any λe=>PyData.eqv e d
 | _,_,_,.nil,_=>rfl
 | _,_,_,.cons r rs,c=>by
  have c':(PyData.canLay0 _&&PyData.canLayAll0 _)=true:=c;rw[aX] at c';rw[gO,gO,EB r c'.1,pP rs c'.2]
theorem pG{A:Around}{s:Shared}{d:PyData}{x:Value}{bs:List Addr}(rx:Reads s.heap x d bs)(cx:d.canLay0=true)(hu:A.units+d.depth<cLine):
  ∀{us:List Value} {es:List PyData} {as:List Addr},ReadsAll s.heap us es as->PyData.canLayAll0 es=true->∀u∈us,SeqAt.EqAt A s u x (eqR s.heap d u)
 | _,_,_,.nil,_=>λu hu=>nomatch hu
 | _,_,_,.cons r rs,c=>λu hm=>by
  have c':(PyData.canLay0 _&&PyData.canLayAll0 _)=true:=c;rw[aX] at c';rcases aJ.mp hm with rfl | hm
  ·rw[EB r c'.1];exact SeqAt.eqAt_reads _ _ A s _ _ _ _ r rx c'.1 cx (by omega)
  ·exact pG rx cx hu rs c'.2 u hm
def IM(K:PySem.W.Frag)(neg:Bool):R2:=λx y H Q=>∃d es p xs,Rep K H x d/\y=.ref p/\(bv K H p xs\/dA K H p xs)/\qM K H xs es/\d.canLay0=true/\PyData.canLayAll0 es=true/\d.depth<=60 ∧
 Q (.bl (if neg then !(es.any λe=>PyData.eqv e d) else es.any λe=>PyData.eqv e d)) H
theorem DV(hu:X.A.units+64<cLine):nQ X (compareOp .In) (IM X.K false):=by
 intro pins s σ H x y v u Q I rx ry h;obtain⟨d,es,p,xs,h1,rfl,hq,h2,h3,h4,h5,q⟩:=h;cases ry;obtain⟨as,ra⟩:=h1.reads I rx;rcases hq with hq | hq
 ·obtain⟨its,r,pl,hz⟩:=I.list hq;obtain⟨bs,rb⟩:=h2.reads I r;refine SeqAt.in_listAt (eqR s.heap d) pl.isList (λz hz=>pG (A:=X.A.in1) ra h3 (by show X.A.units+1+d.depth<cLine;omega) rb h4 z (by simpa using hz)) ⟨.bl _,H,I,rfl,?_⟩;rw[show its.toArray.any (eqR s.heap d)=its.any (eqR s.heap d) by simp,pP rb h4];exact q
 ·obtain⟨its,r,pl,hz⟩:=I.tuple hq;obtain⟨bs,rb⟩:=h2.reads I r;refine SeqAt.in_tupleAt (eqR s.heap d) pl (λz hz=>pG (A:=X.A.in1) ra h3 (by show X.A.units+1+d.depth<cLine;omega) rb h4 z (by simpa using hz)) ⟨.bl _,H,I,rfl,?_⟩;rw[show its.toArray.any (eqR s.heap d)=its.any (eqR s.heap d) by simp,pP rb h4];exact q
theorem Ag(hu:X.A.units+64<cLine):nQ X (compareOp .NotIn) (IM X.K true):=by
 intro pins s σ H x y v u Q I rx ry h;obtain⟨d,es,p,xs,h1,rfl,hq,h2,h3,h4,h5,q⟩:=h;cases ry;obtain⟨as,ra⟩:=h1.reads I rx;rcases hq with hq | hq
 ·obtain⟨its,r,pl,hz⟩:=I.list hq;obtain⟨bs,rb⟩:=h2.reads I r;refine SeqAt.notIn_listAt (eqR s.heap d) pl.isList (λz hz=>pG (A:=X.A.in1) ra h3 (by show X.A.units+1+d.depth<cLine;omega) rb h4 z (by simpa using hz)) ⟨.bl _,H,I,rfl,?_⟩;rw[show its.toArray.any (eqR s.heap d)=its.any (eqR s.heap d) by simp,pP rb h4];exact q
 ·obtain⟨its,r,pl,hz⟩:=I.tuple hq;obtain⟨bs,rb⟩:=h2.reads I r;refine SeqAt.notIn_tupleAt (eqR s.heap d) pl (λz hz=>pG (A:=X.A.in1) ra h3 (by show X.A.units+1+d.depth<cLine;omega) rb h4 z (by simpa using hz)) ⟨.bl _,H,I,rfl,?_⟩;rw[show its.toArray.any (eqR s.heap d)=its.any (eqR s.heap d) by simp,pP rb h4];exact q
def IL(K:PySem.W.Frag):List V->Hp->VK->Prop:=λxs H Q=>∃x T t b,xs=[x,.ty T]/\o3 K H x t/\PySem.W.kitOne K t (.type T)=some b/\Q (.bl b) H
theorem iC:iY X (.builtin "isinstance") (IL X.K):=by
 intro pins s σ H xs us Q I r h;obtain⟨x,T,t,b,rfl,ty,e,q⟩:=h;obtain⟨u,w,rfl,rx,rw'⟩:=cO.two r;cases (show w=Value.type T from rw');exact Au I rx ty e λtk=>⟨.bl b,H,I.tok tk,rfl,q⟩
def ue(r r' r2:R2)(ta tb tc td:TE):TE:=λσ H Q=>ta σ H λx H1=>tb σ H1 λy H2=>r x y H2 λz H3=>∃k,z=.bl k ∧
 (if k=true then tc σ H3 λw' H4=>r' y w' H4 λz2 H5=>∃k2,z2=.bl k2/\(if k2=true then td σ H5 λe H6=>r2 w' e H6 Q else Q (.bl false) H5) else Q (.bl false) H3)
theorem Aa{a b c d:Expr}{ta tb tc td:TE}{pos:Pos}{op op' op2:CmpOp}{r r' r2:R2}(ho:nQ X (compareOp op) r)(ho':nQ X (compareOp op') r')(ho2:nQ X (compareOp op2) r2)(ha:PE X a ta)(hb:PE X b tb)(hc:PE X c tc)(hd:PE X d td)
  (hm:lastMarks [op,op',op2] [b,c,d]=false:=by with_unfolding_all rfl):PT X (.Compare a [op,op',op2] [b,c,d] pos) (v8 (ue r r' r2 ta tb tc td)):=by
 intro pins s σ H Q I h;refine isTrue_chain (eR (ha pins s σ H _ I h) λv s1 ⟨x,H1,I1,r1,q1⟩=>test_link (eR (hb pins s1 σ H1 _ I1 q1) λu s2 ⟨y,H2,I2,r2',q2⟩=>
  eR (ho pins s2 σ H2 x y v u _ I2 r1 r2' q2) λe s3 ⟨z,H3,I3,r3,k,ek,q3⟩=>?_)) hm
 subst ek;cases r3;refine wpAny_truthy_bool ?_;cases k with
 | false=>
  obtain⟨k',e',q'⟩:=q3;cases e';exact ite_ff ⟨H3,I3,q'⟩
 | true=>
  refine ite_tt (test_link (eR (hc pins s3 σ H3 _ I3 q3) λw' s4 ⟨z',H4,I4,r4,q4⟩=>eR (ho' pins s4 σ H4 y z' u w' _ I4 r2' r4 q4) λd' s5 ⟨z2,H5,I5,r5,k2,e2,q5⟩=>?_));subst e2;cases r5;refine wpAny_truthy_bool ?_;cases k2 with
  | false=>
   obtain⟨k',e',q'⟩:=q5;cases e';exact ite_ff ⟨H5,I5,q'⟩
  | true=>
   refine ite_tt (test_last (eR (hd pins s5 σ H5 _ I5 q5) λw2 s6 ⟨z6,H6,I6,r6,q6⟩=>eR (ho2 pins s6 σ H6 z' z6 w' w2 _ I6 r4 r6 q6) λd7 s7 ⟨z7,H7,I7,r7,k7,e7,q7⟩=>?_));subst e7;cases r7;exact wpAny_truthy_bool ⟨H7,I7,q7⟩
def gV(lo:Int)(n:Nat):List Int:=(List.range n).map λ(i:Nat)=>lo+(i:Int)
theorem zN:∀{xs:List V} {us:List Value},xs.length=us.length->(∀(j:Nat) x u,xs[j]? = some x->us[j]? = some u->RelV x u)->cO xs us
 | [],[],_,_=>.nil
 | [],_::_,h,_=>by simp at h
 | _::_,[],h,_=>by simp at h
 | x::xs,u::us,h,f=>.cons (f 0 x u rfl rfl) (zN (by simpa using h) λj a b ha hb=>f (j+1) a b (by simpa using ha) (by simpa using hb))
theorem y8{lo:Int}{n:Nat}{acc:Array Value}(h:ItemsOf (λi v=>∃t,v=.int (lo+i*1) t) acc n):cO ((gV lo n).map V.int) acc.toList:=by
 refine zN (by simp[gV,h.1]) λj x u hx hu=>?_;obtain⟨t,rfl⟩:=h.2 j u (by simpa using hu);have hj:j<n:=by
  have:=(aF.mp hx).1;simpa [gV] using this
 have e:((gV lo n).map V.int)[j]? = some (.int (lo+(j:Int))):=by simp[gV,hj]
 rw[e] at hx;cases hx;exact⟨t,by simp⟩
theorem BJ:iY X (.type "range") (λxs H Q=>∃i j:Int,xs=[.int i,.int j]/\∀p,H p=none->Q (.ref p) (upd H p (.rng i j))):=by
 intro pins s σ H xs us Q I r h;obtain⟨i,j,rfl,q⟩:=h;obtain⟨u,u',rfl,⟨t,rfl⟩,t',rfl⟩:=cO.two r;exact call_range_2 ⟨.ref s.heap.objs.size,_,I.laid (λb o e=>aB _ e) (aH _) (show cZ X.prog X.w _ _ _ (.rng i j) from ⟨_,_,_,aO _ rfl⟩),rfl,q _ (I.hok.fresh (aH _))⟩
theorem tM (hc:X.calm=true):iY X (.type "list") (λxs H Q=>∃p lo hi,xs=[.ref p]/\H p=some (.rng lo hi)/\(-(2 ^ 30)<=lo/\lo<2 ^ 30/\-(2 ^ 30)<=hi/\hi<2 ^ 30/\(hi-lo).toNat<=1000) ∧
  ∀l,H l=none->Q (.ref l) (upd H l (.lst ((gV lo (hi-lo).toNat).map V.int)))):=by
 intro pins s σ H xs us Q I r h;obtain⟨p,lo,hi,rfl,hp,⟨b1,b2,b3,b4,b5⟩,q⟩:=h;obtain⟨u,rfl,rx⟩:=vals1 r;cases rx;obtain⟨t,u,v,e⟩:=(show cZ X.prog X.w H s.heap p (.rng lo hi) from I.hok p _ hp)
 have hn:Builtin.Range.rangeSize lo hi 1=(((hi-lo).toNat:Nat):Int):=by rw[rangeSize_one];split<;>omega
 refine call_list_range (n:=(hi-lo).toNat) (I.ok.hd hc) (show IsRange s.heap p lo hi 1 t u v from e) (small_one (by omega) (by omega) (by omega) (by omega)) hn (by omega) λh' tk acc' c' kp e' hit=>?_;have hv:=y8 hit;have hz:((gV lo (hi-lo).toNat).map V.int).length<=sizeLine:=by
  rw[aA,gV,aA,dR];exact bf (bO b5)
 exact⟨.ref s.heap.objs.size,_,I.laid kp (aH _) (show cZ X.prog X.w _ h' _ (.lst _) from ⟨hz,acc'.toList,c',hv,by simpa using e'⟩),rfl,q _ (I.hok.fresh (aH _))⟩
end
structure Fn (K:PySem.W.Frag) (mg:Str->Option Value) (x:Str) (st:Stmt) (ps:List Str):Prop where
 ex:∃ f fd,ER K x x st f fd/\mg x=some (.ref f)/\Binds K fd ps []
structure eO (P:Program) (w:World) (K:PySem.W.Frag) (mg:Str->Option Value) (base:Heap) (k:Nat) (x:Str) (st:Stmt) (ps:List Str) (sp:Sp):Prop where
 ex:∃ f fd,ER K x x st f fd/\mg x=some (.ref f)/\Binds K fd ps []/\qO P w K mg base BV k f fd ps sp
theorem Fn.mk'{P:Program}{w:World}{K:PySem.W.Frag}{mg:Str->Option Value}{base:Heap}{k:Nat}{x:Str}{st:Stmt}{ps:List Str}{sp:Sp}(E:Fn K mg x st ps)
  (h:∀f fd,ER K x x st f fd->qO P w K mg base BV k f fd ps sp):eO P w K mg base k x st ps sp:=by
 obtain⟨f,fd,F,m,b⟩:=E.ex;exact⟨f,fd,F,m,b,h f fd F⟩
theorem ak.new{H H2:Hp}{l:Addr}{o:HO}(s:ak H H2)(h:H l=none):ak H (upd H2 l o):=λb u e=>by rw[aP (au e h)];exact s b u e
theorem nF{α β:Type}{R:α->β->Prop}:∀{xs:List α} {ys:List β} {x:α} {y:β},Paired R xs ys->R x y->Paired R (xs++[x]) (ys++[y])
 | _,_,_,_,.nil,h=>.cons h .nil
 | _,_,_,_,.cons r t,h=>.cons r (nF t h)
theorem gW{α β:Type}{R S:α->β->Prop}:∀{xs:List α} {ys:List β},Paired R xs ys->(∀a b,R a b->S a b)->Paired S xs ys
 | _,_,.nil,_=>.nil
 | _,_,.cons r t,f=>.cons (f _ _ r) (gW t f)
theorem gX{α β:Type}{R:α->β->Prop}:∀{xs:List α} {ys:List β} {i:Nat} {x:α},Paired R xs ys->xs[i]? = some x->∃y,ys[i]? = some y/\R x y
 | _,_,_,_,.nil,e=>by simp at e
 | _,_,0,_,.cons r _,e=>by simp at e;subst e;exact⟨_,rfl,r⟩
 | _,_,i+1,x,.cons _ t,e=>by
  obtain⟨y,h1,h2⟩:=gX (i:=i) (x:=x) t (by simpa using e);exact⟨y,by simpa using h1,h2⟩
theorem DJ {X:Cx} {x:Str} {i:Int} {pos:Pos} (hg:Gl X x) (hm:∃t,X.mg x=some (.int i t)) (hd:(x==("__debug__":Str))=false:=by decide):PE X (.Name x pos) (tC (.int i)):=
 let ⟨t,h⟩:=hm
 ux hg h ⟨t,rfl⟩ hd
theorem DN{X:Cx}{k:Nat}{x:Str}{st:Stmt}{ps:List Str}{sp:Sp}{e:Expr}{es:List Expr}{t:TA}{p pos:Pos}(D:eO X.prog X.w X.K X.mg X.base k x st ps sp)(hr:iM k X.A)(hg:Gl X x)(ha:PA X (e::es) t)
  (hdb:(x==("__debug__":Str))=false:=by decide) (he:starEach (e::es) X.env=(false,eval e X.env)::starEach es X.env:=by rfl) (hpl:(backTo pos (starEach es X.env)).any (·.1)=false:=by rfl) :
  PE X (.Call (.Name x p) (e::es) [] pos) (zS sp [] E0 t):=by
 obtain⟨f,fd,F,m,b,G⟩:=D.ex;exact FS G hr hg m F.kp b .nil Kz ha hdb he hpl
section
variable {σ:St} {H:Hp} {Q:VK} {D:Ends}
theorem HE{v:V}:xT 0 (some v::σ) H Q=Q v H:=propext ⟨λ⟨_,e,h⟩=>by cases e;exact h,λh=>⟨v,rfl,h⟩⟩
theorem B0{i:Nat}{x:Option V}:xT (i+1) (x::σ) H Q=xT i σ H Q:=rfl
theorem MQ{v:V}:tC v σ H Q=Q v H:=rfl
theorem KC{r:R2}{ta tb:TE}:CC r ta tb σ H Q=ta σ H λx H1=>tb σ H1 λy H2=>r x y H2 Q:=rfl
theorem Ju{r:V->Hp->VK->Prop}{ta:TE}:Lh r ta σ H Q=ta σ H λx H1=>r x H1 Q:=rfl
theorem Lf{g:Int->Int->V}{i j:Int}:Gn g (.int i) (.int j) H Q=Q (g i j) H:=propext ⟨λ⟨_,_,e,e',h⟩=>by cases e;cases e';exact h,λh=>⟨i,j,rfl,rfl,h⟩⟩
theorem M3{C:Int->Int->Prop}{g:Int->Int->V}{i j:Int}:rI C g (.int i) (.int j) H Q=(C i j/\Q (g i j) H):=propext ⟨λ⟨_,_,e,e',h⟩=>by cases e;cases e';exact h,λh=>⟨i,j,rfl,rfl,h⟩⟩
theorem M1{g:Int->V}{i:Int}:rU g (.int i) H Q=Q (g i) H:=propext ⟨λ⟨_,e,h⟩=>by cases e;exact h,λh=>⟨i,rfl,h⟩⟩
theorem KU{i j:Int}:L3 (.int i) (.int j) H Q=Q (.bl (decide (i=j))) H:=propext ⟨λ⟨_,h⟩=>by simpa using h,λh=>⟨rfl,by simpa using h⟩⟩
theorem KF{i j:Int}:L1 (.int i) (.int j) H Q=Q (.bl (!decide (i=j))) H:=propext ⟨λ⟨_,h⟩=>by simpa using h,λh=>⟨rfl,by simpa using h⟩⟩
theorem Gb{i j:Str}:L3 (.str i) (.str j) H Q=Q (.bl (decide (i=j))) H:=propext ⟨λ⟨_,h⟩=>by simpa using h,λh=>⟨rfl,by simpa using h⟩⟩
theorem KD{i j:Str}:L1 (.str i) (.str j) H Q=Q (.bl (!decide (i=j))) H:=propext ⟨λ⟨_,h⟩=>by simpa using h,λh=>⟨rfl,by simpa using h⟩⟩
theorem KW{i j:Bool}:L3 (.bl i) (.bl j) H Q=Q (.bl (decide (i=j))) H:=propext ⟨λ⟨_,h⟩=>by simpa using h,λh=>⟨rfl,by simpa using h⟩⟩
theorem KG{i j:Bool}:L1 (.bl i) (.bl j) H Q=Q (.bl (!decide (i=j))) H:=propext ⟨λ⟨_,h⟩=>by simpa using h,λh=>⟨rfl,by simpa using h⟩⟩
theorem KS{b:Bool}{q:Bool->Prop}:(∃k,V.bl b=.bl k/\q k)=q b:=propext ⟨λ⟨_,e,h⟩=>by cases e;exact h,λh=>⟨b,rfl,h⟩⟩
theorem KR{b:Int}{q:Int->Prop}:(∃k,V.int b=.int k/\q k)=q b:=propext ⟨λ⟨_,e,h⟩=>by cases e;exact h,λh=>⟨b,rfl,h⟩⟩
theorem Hc{i j:Str}{q:Str->Str->Prop}:(∃a b,V.str i=.str a/\V.str j=.str b/\q a b)=q i j:=
 propext ⟨λ⟨_,_,e,e',h⟩=>by cases e;cases e';exact h,λh=>⟨i,j,rfl,rfl,h⟩⟩
theorem MR{CX:EO}{P:Program}{w:World}{K:PySem.W.Frag}{mg:Str->Option Value}{base:Heap}{N:List Str}{qual:Str}{scope:Scope}{f:Addr}{cd:Value}{A:Around}{outer:List Env}{s:Shared}{H:Hp}{E:XK}:(wt CX P w K mg base N qual scope f cd A outer s H E).K=K:=rfl
theorem Gf{i:Nat}{te:TE}{ti:MJ}:Ln i te ti D σ H=xT i σ H λx _=>te σ H λy H1=>ti x y H1 λz H2=>D.nx (σ.set i (some z)) H2:=rfl
theorem Le{f:Int->Int->Int}{i j:Int}:M9 f (.int i) (.int j) H Q=Q (.int (f i j)) H:=propext ⟨λ⟨_,_,e,e',h⟩=>by cases e;cases e';exact h,λh=>⟨i,j,rfl,rfl,h⟩⟩
theorem HP{a b:Bool}{q:Bool->Bool->Prop}:(∃c d,V.bl a=.bl c/\V.bl b=.bl d/\q c d)=q a b:=propext ⟨λ⟨_,_,e,e',h⟩=>by cases e;cases e';exact h,λh=>⟨a,b,rfl,rfl,h⟩⟩
theorem KQ{a:Addr}{q:Addr->Prop}:(∃b,V.ref a=.ref b/\q b)=q a:=propext ⟨λ⟨_,e,h⟩=>by cases e;exact h,λh=>⟨a,rfl,h⟩⟩
theorem HN{α:Type}{a:Addr}{q:Addr->α->Prop}:(∃b y,V.ref a=.ref b/\q b y)=∃y,q a y:=propext ⟨λ⟨_,y,e,h⟩=>by cases e;exact⟨y,h⟩,λ⟨y,h⟩=>⟨a,y,rfl,h⟩⟩
theorem HV{i:Int}{q:Int->Prop}:(∃j,[V.int i]=[.int j]/\q j)=q i:=propext ⟨λ⟨_,e,h⟩=>by cases e;exact h,λh=>⟨i,rfl,h⟩⟩
theorem HS{i:Str}{q:Str->Prop}:(∃j,[V.str i]=[.str j]/\q j)=q i:=propext ⟨λ⟨_,e,h⟩=>by cases e;exact h,λh=>⟨i,rfl,h⟩⟩
theorem HU{α:Type}{i:Addr}{q:Addr->α->Prop}:(∃j y,[V.ref i]=[.ref j]/\q j y)=∃y,q i y:=propext ⟨λ⟨_,y,e,h⟩=>by cases e;exact⟨y,h⟩,λ⟨y,h⟩=>⟨i,y,rfl,h⟩⟩
theorem HQ{α β:Type}{i:Addr}{q:Addr->α->β->Prop}:(∃j y z,[V.ref i]=[.ref j]/\q j y z)=∃y z,q i y z:=propext ⟨λ⟨_,y,z,e,h⟩=>by cases e;exact⟨y,z,h⟩,λ⟨y,z,h⟩=>⟨i,y,z,rfl,h⟩⟩
theorem HR{i j:Int}{q:Int->Int->Prop}:(∃a b,[V.int i,V.int j]=[.int a,.int b]/\q a b)=q i j:=propext ⟨λ⟨_,_,e,h⟩=>by cases e;exact h,λh=>⟨i,j,rfl,h⟩⟩
theorem HI{b:Bool}{q:Int->Prop}{r:Bool->Prop}:((∃i,[V.bl b]=[.int i]/\q i)\/∃k,[V.bl b]=[.bl k]/\r k)=r b:=
 propext ⟨λh=>by rcases h with ⟨_,e,_⟩ | ⟨_,e,h⟩<;>cases e;exact h,λh=>.inr ⟨b,rfl,h⟩⟩
theorem KI{z:Str}{i:Int}:IJ (.str z) (.int i) H Q=(z.length<=sizeLine/\∃c,pO z.cps.toList i=some c/\Q (.str ⟨#[c]⟩) H):=
 propext ⟨λ⟨_,_,c,e,e',h1,h2,h3⟩=>by cases e;cases e';exact⟨h1,c,h2,h3⟩,λ⟨h1,c,h2,h3⟩=>⟨z,i,c,rfl,rfl,h1,h2,h3⟩⟩
theorem KJ{K:PySem.W.Frag}{p:Addr}{i:Int}:IK K (.ref p) (.int i) H Q=∃xs v,bv K H p xs/\pO xs i=some v/\Q v H:=
 propext ⟨λ⟨_,xs,_,v,e,e',h⟩=>by cases e;cases e';exact⟨xs,v,h⟩,λ⟨xs,v,h⟩=>⟨p,xs,i,v,rfl,rfl,h⟩⟩
theorem KH{K:PySem.W.Frag}{p:Addr}{i:Int}:II K (.ref p) (.int i) H Q=∃xs v,dA K H p xs/\pO xs i=some v/\Q v H:=
 propext ⟨λ⟨_,xs,_,v,e,e',h⟩=>by cases e;cases e';exact⟨xs,v,h⟩,λ⟨xs,v,h⟩=>⟨p,xs,i,v,rfl,rfl,h⟩⟩
theorem K0{l:Addr}{y:V}:uu (.ref l) [y] H Q=∃xs,H l=some (.lst xs)/\xs.length<sizeLine/\Q .non (upd H l (.lst (xs++[y]))):=
 propext ⟨λ⟨_,xs,_,e,e',h⟩=>by cases e;cases e';exact⟨xs,h⟩,λ⟨xs,h⟩=>⟨l,xs,y,rfl,rfl,h⟩⟩
theorem KA{l:Addr}:Ki (.ref l) [] H Q=∃xs y,H l=some (.lst xs)/\xs[xs.length - 1]? = some y/\Q y (upd H l (.lst xs.dropLast)):=
 propext ⟨λ⟨_,xs,y,e,_,h⟩=>by cases e;exact⟨xs,y,h⟩,λ⟨xs,y,h⟩=>⟨l,xs,y,rfl,rfl,h⟩⟩
theorem iI{α:Type}{f:α->V}{l:List α}{k:Nat}{y:V}(h:(l.map f)[k]? = some y):∃x,l[k]? = some x/\y=f x:=by
 rw[aS] at h;cases e:l[k]? with
 | none=>rw[e] at h;cases h
 | some x=>rw[e] at h;exact⟨x,rfl,(bD h).symm⟩
theorem gw {K:PySem.W.Frag} {l:Addr} {xs:List V} (h:H l=some (.lst xs)):Bs K "list" (.ref l) H:=.inl ⟨rfl,xs,bv.of h⟩
theorem B2{t:TE}{q:Bool->Hp->Prop}:v8 t σ H q=t σ H λx H'=>∃k,x=.bl k/\q k H':=rfl
theorem Jv{t:TE}{q:Bool->Hp->Prop}:tB t σ H q=t σ H λx H'=>∃k,x=.bl k/\q k H':=rfl
theorem w_and{t u:TT}{q:Bool->Hp->Prop}:Hy t u σ H q=t σ H λc H1=>if c=true then u σ H1 q else q false H1:=rfl
theorem w_or{t u:TT}{q:Bool->Hp->Prop}:Lk t u σ H q=t σ H λc H1=>if c=true then q true H1 else u σ H1 q:=rfl
theorem w_not{t:TT}{q:Bool->Hp->Prop}:Hq t σ H q=t σ H λc H1=>q (!c) H1:=rfl
theorem Bp{ta tb:TE}:CK ta tb σ H Q=ta σ H λx H1=>∃c,x=.bl c/\if c=true then tb σ H1 Q else Q (.bl false) H1:=rfl
theorem GX{ta tb:TE}:Hn ta tb σ H Q=ta σ H λx H1=>∃c,x=.bl c/\if c=true then Q (.bl true) H1 else tb σ H1 Q:=rfl
theorem B8{ta:TE}:CD ta σ H Q=ta σ H λx H1=>∃c,x=.bl c/\Q (.bl (!c)) H1:=rfl
theorem KL{t:TT}{ta tb:TE}:Ll t ta tb σ H Q=t σ H λc H1=>if c=true then ta σ H1 Q else tb σ H1 Q:=rfl
theorem GV{t u:TS}:Hj t u D σ H=t { nx:=u D,rt:=D.rt,bk:=D.bk,ct:=D.ct } σ H:=rfl
theorem w_next:CF D σ H=D.nx σ H:=rfl
theorem Gd:xb D σ H=D.bk σ H:=rfl
theorem Bn:K8 D σ H=D.ct σ H:=rfl
theorem Bk{te:TE}:CH te D σ H=te σ H λ_ H1=>D.nx σ H1:=rfl
theorem GW{te:TE}:Hl te D σ H=te σ H D.rt:=rfl
theorem B5:K6 D σ H=D.rt .non H:=rfl
theorem Ga{c:TT}{t u:TS}:Hu c t u D σ H=c σ H λb H1=>if b=true then t D σ H1 else u D σ H1:=rfl
theorem Gg{te:TE}{g:TG}:uf te g D σ H=te σ H λx H1=>g x σ H1 D.nx:=rfl
theorem zD{i:Nat}{v:V}{q:St->Hp->Prop}:mY i v σ H q=q (σ.set i (some v)) H:=rfl
theorem B4{v:V}{x:Option V}:List.set (x::σ) 0 (some v)=some v::σ:=rfl
theorem B3{i:Nat}{v:V}{x:Option V}:List.set (x::σ) (i+1) (some v)=x::List.set σ i (some v):=rfl
theorem GY{q:List V->Hp->Prop}:Hr σ H q=q [] H:=rfl
theorem Bo{ta:TE}{tr:TA}{q:List V->Hp->Prop}:gU ta tr σ H q=ta σ H λx H1=>tr σ H1 λxs H2=>q (x::xs) H2:=rfl
theorem KY{r:List V->Hp->VK->Prop}{t:TA}:K9 r t σ H Q=t σ H λvs H1=>r vs H1 Q:=rfl
theorem GT{t:TA}:Hi t σ H Q=t σ H λxs H1=>xs.length<=sizeLine/\∀p,H1 p=none->Q (.ref p) (upd H1 p (.tup xs)):=rfl
theorem GZ{t:TA}:Hs t σ H Q=t σ H λxs H1=>xs.length<=sizeLine/\∀p,H1 p=none->Q (.ref p) (upd H1 p (.lst xs)):=rfl
theorem w_call{sp:Sp}{dvs:List V}{E:XK}{t:TA}:zS sp dvs E t σ H Q=t σ H λvs H1=>sp (vs++dvs) H1 Q E:=rfl
theorem KZ{K:PySem.W.Frag}{T:String}{r:V->List V->Hp->VK->Prop}{to:TE}{t:TA}:Ka K T r to t σ H Q=to σ H λx H1=>Bs K T x H1/\t σ H1 λxs H2=>r x xs H2 Q:=rfl
theorem Ge{K:PySem.W.Frag}{T:String}{r:V->List V->Hp->VK->Prop}{to:TE}:Hx K T r to σ H Q=to σ H λx H1=>Bs K T x H1/\r x [] H1 Q:=rfl
def oI(J:It)(g:TG)(tb:TS)(D:Ends)(σ:St)(H1:Hp):Prop:=∃W:Nat->Nat->St->Hp->Prop,(∃m,W 0 m σ H1)/\∀i m σ H,W i m σ H →
 (J.stop i H/\D.nx σ H)\/(J.go i H/\∃N:St->Hp->Prop,(∀σ' H',N σ' H'->∃m',m'<m/\W (i+1) m' σ' H')/\∀x H',J.yld i H x H'->g x σ H' λσ2 H2=>tb { D with nx:=N,ct:=N,bk:=D.nx } σ2 H2)
theorem Bj{ta:TA}{g:TG}{tb:TS}:qY (AD ta) g tb D σ H=ta σ H λvs H1=>∃j:Int,vs=[.int j]/\-(2 ^ 62)<=j/\j<2 ^ 62/\oI (BU 0 j.toNat) g tb D σ H1:=rfl
theorem Bi{ta:TA}{g:TG}{tb:TS}:qY (AC ta) g tb D σ H=ta σ H λvs H1=>∃i j:Int,vs=[.int i,.int j]/\(-(2 ^ 62)<=i/\i<2 ^ 62/\-(2 ^ 62)<=j/\j<2 ^ 62)/\oI (BU i (j-i).toNat) g tb D σ H1:=rfl
theorem Bg{K:PySem.W.Frag}{tl:TE}{g:TG}{tb:TS}:qY (AE K tl) g tb D σ H=tl σ H λx H1=>∃a,x=.ref a/\(∃xs,bv K H1 a xs)/\oI (GM K a) g tb D σ H1:=rfl
theorem Be{K:PySem.W.Frag}{tl:TE}{g:TG}{tb:TS}:qY (Fp K tl) g tb D σ H=tl σ H λx H1=>∃a,x=.ref a/\(∃xs,dA K H1 a xs)/\oI (Gx K a) g tb D σ H1:=rfl
theorem Bc{K:PySem.W.Frag}{n:Nat}{t:BQ}{v:V}{q:St->Hp->Prop}:JZ K n t v σ H q=∃a xs,v=.ref a/\dA K H a xs/\xs.length=n/\t xs σ H q:=rfl
theorem HK{q:St->Hp->Prop}:J1 [] σ H q=q σ H:=propext ⟨λh=>h.2,λh=>⟨rfl,h⟩⟩
theorem EY{t:TG}{u:BQ}{v:V}{r:List V}{q:St->Hp->Prop}:Dw t u (v::r) σ H q=t v σ H λσ' H'=>u r σ' H' q:=propext ⟨λ⟨_,_,e,h⟩=>by cases e;exact h,λh=>⟨v,r,rfl,h⟩⟩
theorem vU{r r' r2:R2}{ta tb tc td:TE}:ue r r' r2 ta tb tc td σ H Q=ta σ H λx H1=>tb σ H1 λy H2=>r x y H2 λz H3=>∃k,z=.bl k ∧
 (if k=true then tc σ H3 λw' H4=>r' y w' H4 λz2 H5=>∃k2,z2=.bl k2/\(if k2=true then td σ H5 λe H6=>r2 w' e H6 Q else Q (.bl false) H5) else Q (.bl false) H3):=rfl
theorem zM{r r':R2}{ta tb tc:TE}:Hw r r' ta tb tc σ H Q=ta σ H λx H1=>tb σ H1 λy H2=>r x y H2 λz H3=>∃k,z=.bl k ∧
 (if k=true then tc σ H3 λw' H4=>r' y w' H4 Q else Q (.bl false) H3):=rfl
end
theorem pR{P:List Value->Prop}(h:∀a:Value,P [a]):∀us:List Value,us.length=1->P us
 | [a],_=>h a
theorem Lg{P:List Value->Prop}{n:Nat}(h:∀(a:Value) (r:List Value),r.length=n->P (a::r)):∀us:List Value,us.length=n+1->P us
 | a::r,e=>h a r (Nat.succ.inj e)
theorem xM{P:List Value->Prop}(h:∀a b:Value,P [a,b]):∀us:List Value,us.length=2->P us:=Lg λa=>pR λb=>h a b
theorem LZ{P:List Value->Prop}(h:∀a b c:Value,P [a,b,c]):∀us:List Value,us.length=3->P us:=Lg λa=>xM λb c=>h a b c
theorem MS{P:List Value->Prop}(h:∀a b c d:Value,P [a,b,c,d]):∀us:List Value,us.length=4->P us:=Lg λa=>LZ λb c d=>h a b c d
end L2
namespace Rm
def dl(b:Bool):Int:=if b then 1 else -1
def D(bs:List Bool)(i:Nat):Int:=((bs.take i).map dl).sum
structure LQ (bs:List Bool) (k m:Nat):Prop where
 lt:k<m
 ml:m<bs.length
 op:bs[k]? = some true
 cl:bs[m]? = some false
 eq:D bs (m+1)=D bs k
 gt:∀ i,k<i->i<=m->D bs k<D bs i
end Rm
namespace L2
open PySem PySem.Spec PyProof.Rows
theorem ER.okS{P:Program}{w:World}{K:PySem.W.Frag}{mg:Str->Option Value}{base:Heap}{x qual:Str}{st:Stmt}{f:Addr}{fd:FuncData}{N ps:List Str}{k:Nat}{sp:Sp}(F:ER K x qual st f fd)(S:be N ps (bC st))(len:∀vs H Q E,sp vs H Q E->vs.length=ps.length)
  (hbody:∀(cdv:Value) (A:Around) (outer:List Env) (s:Shared) (H:Hp) (vs:List V) (Q:VK) (E:XK),iM k (A.deeper (envOfC qual (bC st) s.heap.objs.size f cdv))->sp vs H Q E →
   ∃(σ:St) (t:TS),start N vs=σ/\xF (wt BV P w K mg base N qual (bC st) f cdv A outer s H E).nox (j4 st) t/\t { nx:=λ_ H'=>Q .non H',rt:=Q } σ H):qO P w K mg base BV (k+1) f fd ps sp:=
 F.ok S len λcdv A outer s H vs Q E hr h=>by
  obtain⟨σ,t,e,h1,h2⟩:=hbody cdv A outer s H vs Q E hr h;exact⟨t,h1,by rw[e];exact h2⟩
theorem qW{A:Around}{k:Nat}(hr:iM k A):A.units+64<cLine:=hr.units
end L2
namespace Rm
open PySem L2
abbrev Bw:=Int×Int
def bZ(H:Hp)(a:Addr)(p:Bw):Prop:=H a=some (.tup [.int p.1,.int p.2])
def cY(H:Hp)(l:Addr)(ps:List Bw):Prop:=∃as:List Addr,H l=some (.lst (as.map V.ref))/\Paired (bZ H) as ps
theorem bZ.same{H H':Hp}(s:ak H H'){a:Addr}{p:Bw}(h:bZ H a p):bZ H' a p:=s _ _ h
theorem cY.same{H H':Hp}(s:ak H H'){l:Addr}{ps:List Bw}(h:cY H l ps):cY H' l ps:=
 let ⟨as,h1,h2⟩:=h
 ⟨as,s _ _ h1,gW h2 λ_ _ z=>z.same s⟩
theorem ie{H:Hp}{l f:Addr}{ps:List Bw}{xs ys:List V}(h:cY H f ps)(hl:H l=some (.lst xs))(ne:f≠l):cY (upd H l (.lst ys)) f ps:=by
 obtain⟨as,h1,h2⟩:=h;refine⟨as,by rw[aP ne];exact h1,gW h2 λa p z=>?_⟩;have z':H a=some (.tup [.int p.1,.int p.2]):=z;show upd _ _ _ a=_;rw[aP (D4 z' hl (by intro q;cases q))];exact z'
theorem uW{H:Hp}{l hd:Addr}{as:List Addr}{ps:List Bw}(h2:Paired (bZ H) as ps)(hn:H hd=none):cY (upd H hd (.lst (as.map V.ref))) hd ps:=
 ⟨as,aD,gW h2 λa p z=>by
  have z':H a=some (.tup [.int p.1,.int p.2]):=z;show upd _ _ _ a=_;rw[aP (au z' hn)];exact z'⟩
theorem cY.get{H:Hp}{l:Addr}{ps:List Bw}(h:cY H l ps):∃as:List Addr,H l=some (.lst (as.map V.ref))/\as.length=ps.length/\∀(i:Nat) x,(as.map V.ref)[i]? = some x->∃a p,x=.ref a/\ps[i]? = some p/\bZ H a p:=by
 obtain⟨as,h1,h2⟩:=h;refine⟨as,h1,bB h2,λi x hx=>?_⟩;rw[aS] at hx;cases e:as[i]? with
 | none=>rw[e] at hx;cases hx
 | some a=>
  rw[e] at hx;obtain⟨p,hp,ht⟩:=gX h2 e;exact⟨a,p,(bD hx).symm,hp,ht⟩
def eU(p q:Bw):Bool:=decide (p.1<q.1)&&(decide (q.1<p.2)&&decide (p.2<q.2))
def CZ(K:PySem.W.Frag):Sp:=λvs H Q _=>∃(a:Addr) (ns:List Int) (k:Nat),vs=[.ref a,.int k]/\bv K H a (ns.map V.int)/\Q (.int (ns.getD k 0)) H
def Lx(a k:Int):Int:=(a % 10 ^ 20+17*k+k*k*k+5)*48271 % 1000003*69621 % 999983
def Gh:Sp:=λvs H Q _=>∃a k:Int,vs=[.int a,.int k]/\0<=k/\k<=1000/\Q (.int (Lx a k)) H
def rM:Sp:=λvs H Q _=>∃l ps,vs=[.ref l]/\cY H l ps/\((∀p∈ps,∀q∈ps,eU p q=false)->Q .non H) ∧
 ∀p∈ps,∀q∈ps,eU p q=true->∀t a b H',H t=none->ak H H'->H' t=some (.tup [.ref a,.ref b])->bZ H' a p->bZ H' b q->Q (.ref t) H'
def oh (K:PySem.W.Frag):Sp:=λvs H Q _=>∃(x:V) (t:Value) (b c:Bool),vs=[x]/\o3 K H x t/\PySem.W.kitOne K t (.type "int")=some b/\PySem.W.kitOne K t (.type "bool")=some c/\Q (.bl (b&&!c)) H
def ve(K:PySem.W.Frag):Sp:=λvs H Q _=>∃(a:Addr) (ns:List Int),vs=[.ref a]/\bv K H a (ns.map V.int)/\ns.length<=63/\∀H',Q (.bl true) H'
end Rm
namespace L2
open PySem PySem.Spec PyProof.Rows
theorem lS:∀{ns:List Int} {us:List Value},cO (ns.map V.int) us->IntsAre us ns
 | [],_,.nil=>.nil
 | n::ns,_,.cons ⟨t,e⟩ r=>by subst e;exact .cons n t (lS r)
theorem rE:∀{bs:List Bool} {us:List Value},cO (bs.map V.bl) us->LSm.BoolsAre us bs
 | [],_,.nil=>.nil
 | b::bs,_,.cons r t=>by
  have e:_=Value.bool b:=r;subst e;exact .cons b (rE t)
theorem tP:∀{ts:List Str} {us:List Value},cO (ts.map V.str) us->∃l:List (Str×Tok),us=strValues l/\l.map (·.1)=ts
 | [],_,.nil=>⟨[],rfl,rfl⟩
 | t::ts,_,.cons ⟨k,e⟩ r=>by
  subst e;obtain⟨l,e1,e2⟩:=tP r;exact⟨(t,k)::l,by rw[e1];rfl,by rw[ao,e2]⟩
section
variable {X:Cx}
def IG(K:PySem.W.Frag):List V->Hp->VK->Prop:=λxs H Q=>∃(p:Addr) (ns:List Int),xs=[.ref p]/\bv K H p (ns.map V.int)/\ns.length<64 ∧
 ∀(l:Addr) (ms:List Int),H l=none->ms.Perm ns->ms.Pairwise (·<=·)->Q (.ref l) (upd H l (.lst (ms.map V.int)))
theorem qK:iY X (.builtin "sorted") (IG X.K):=by
 intro pins s σ H xs us Q I r h;obtain⟨p,ns,rfl,hq,hl,q⟩:=h;obtain⟨u,rfl,rx⟩:=vals1 r;cases rx;obtain⟨its,rv,pl,hz⟩:=I.list hq;have hi:=lS rv;have hlen:its.length=ns.length:=by have:=rv.length;simpa using this.symm
 refine sorted_ints pl.isList hi (by omega) λout ms hm hp hs=>?_;obtain⟨c,hc⟩:=sortedAll_at s.heap its out;have hml:ms.length=ns.length:=hp.length_eq;exact⟨.ref (s.heap.objs.size+1),upd H (s.heap.objs.size+1) (.lst (ms.map V.int)),I.laid (t':=s.toks) (λb o e=>sortedAll_old e) (dc _)
  (show cZ X.prog X.w _ _ _ (.lst _) from ⟨by rw[aA,hml];exact bf (bO (by omega)),out.toList,c,nW hm,by simpa using hc⟩),rfl,q _ ms (I.hok.fresh (dc _)) hp hs⟩
def Lr(K:PySem.W.Frag)(f:List Bool->Bool):List V->Hp->VK->Prop:=λxs H Q=>∃(p:Addr) (bs:List Bool),xs=[.ref p]/\bv K H p (bs.map V.bl)/\Q (.bl (f bs)) H
theorem yZ{s:Shared}{h':Heap}{o:Obj}(hk:∀b x,b∉[s.heap.objs.size]->(s.heap.push o).get? b=some x->h'.get? b=some x):∀b x,s.heap.get? b=some x->h'.get? b=some x:=
 λb x e=>hk b x (λhm=>by rw[dG.mp hm] at e;exact dY _ (aN e)) (aB _ e)
theorem xC (hc:X.calm=true):iY X (.builtin "all") (Lr X.K λbs=>bs.all id):=by
 intro pins s σ H xs us Q I r h;obtain⟨p,bs,rfl,hq,q⟩:=h;obtain⟨u,rfl,rx⟩:=vals1 r;cases rx;obtain⟨its,rv,pl,hz⟩:=I.list hq;have hb:=rE rv;have hl:=pl.isList;have hlt:p<s.heap.objs.size:=by obtain⟨_,e,_⟩:=hl;exact aN e
 refine call_all_walk (wpAny_pyIter_list hl ?_);refine⟨s.heap.objs.size,[s.heap.objs.size,p],[s.heap.objs.size],its.toArray.size,_,_,λi=>(bs[i]?).getD true,rfl,Walks.list (A:=X.A.in1) (I.ok.hd hc) _ p (av hlt) its.toArray,
  ⟨⟨_,aO _ rfl,rfl,rfl⟩,hl.push _⟩,λi v s' Q' E' hP hQ=>?_,λh' tk hk=>?_⟩
 ·obtain⟨b,e,rfl⟩:=hb.get i v (by simpa using hP);simp only[e,fz] at hQ;exact wpAny_truthy_bool hQ
 ·have e1:its.toArray.size=bs.length:=by have:=rv.length;simp at this;simp[this]
  rw[e1,LSm.range_all];exact⟨.bl _,H,I.kept (yZ hk),rfl,q⟩
def rJoin(K:PySem.W.Frag):V->List V->Hp->VK->Prop:=λx vs H Q=>∃(z:Str) (p:Addr) (ts:List Str),x=.str z/\vs=[.ref p]/\bv K H p (ts.map V.str)/\JoinOk z ts=true/\Q (.str (Txt.join z ts)) H
theorem qx:Jg X "str.join" (rJoin X.K):=by
 intro pins s σ H x xs v us Q I r rv h;obtain⟨z,p,ts,rfl,rfl,hq,ok,q⟩:=h;obtain⟨t,rfl⟩:=r;obtain⟨u,rfl,rx⟩:=vals1 rv;cases rx;obtain⟨its,rv',pl,hz⟩:=I.list hq;obtain⟨l,rfl,e⟩:=tP rv';exact SC.join pl.isList e ok λt' k=>⟨.str _,H,I.tok k,⟨t',rfl⟩,q⟩
end
mutual
inductive Dat (H:Hp):V->PyData->Prop
 | non:Dat H .non .none
 | bl (b:Bool):Dat H (.bl b) (.bool b)
 | int (i:Int):Dat H (.int i) (.int i)
 | str (x:Str):Dat H (.str x) (.str x)
 | tup {a:Addr} {xs:List V} {ds:List PyData}:H a=some (.tup xs)->j0 H xs ds->Dat H (.ref a) (.tuple ds)
 | lst {a:Addr} {xs:List V} {ds:List PyData}:H a=some (.lst xs)->j0 H xs ds->Dat H (.ref a) (.list ds)
inductive j0 (H:Hp):List V->List PyData->Prop
 | nil:j0 H [] []
 | cons {x:V} {xs:List V} {d:PyData} {ds:List PyData}:Dat H x d->j0 H xs ds->j0 H (x::xs) (d::ds)
end
mutual
theorem Dat.rep{K:PySem.W.Frag}{H:Hp}:∀{x:V} {d:PyData},Dat H x d->Rep K H x d
 | _,_,.non=>.non
 | _,_,.bl b=>.bl b
 | _,_,.int i=>.int i
 | _,_,.str x=>.str x
 | _,_,.tup h r=>.tup (dA.of h) (j0.rep r)
 | _,_,.lst h r=>.lst (bv.of h) (j0.rep r)
theorem j0.rep{K:PySem.W.Frag}{H:Hp}:∀{xs:List V} {ds:List PyData},j0 H xs ds->qM K H xs ds
 | _,_,.nil=>.nil
 | _,_,.cons h r=>.cons (Dat.rep h) (j0.rep r)
end
mutual
theorem Dat.same{H H':Hp}(s:ak H H'):∀{x:V} {d:PyData},Dat H x d->Dat H' x d
 | _,_,.non=>.non
 | _,_,.bl b=>.bl b
 | _,_,.int i=>.int i
 | _,_,.str x=>.str x
 | _,_,.tup h r=>.tup (s _ _ h) (j0.same s r)
 | _,_,.lst h r=>.lst (s _ _ h) (j0.same s r)
theorem j0.same{H H':Hp}(s:ak H H'):∀{xs:List V} {ds:List PyData},j0 H xs ds->j0 H' xs ds
 | _,_,.nil=>.nil
 | _,_,.cons h r=>.cons (Dat.same s h) (j0.same s r)
end
theorem j0.len{H:Hp}:∀{xs:List V} {ds:List PyData},j0 H xs ds->xs.length=ds.length
 | _,_,.nil=>rfl
 | _,_,.cons _ r=>by simp[j0.len r]
theorem j0.get{H:Hp}:∀{xs:List V} {ds:List PyData} {i:Nat} {x:V},j0 H xs ds->xs[i]? = some x->∃d,ds[i]? = some d/\Dat H x d
 | _,_,_,_,.nil,e=>by simp at e
 | _,_,0,_,.cons h _,e=>by simp at e;subst e;exact⟨_,rfl,h⟩
 | _,_,i+1,x,.cons _ r,e=>by
  obtain⟨d,h1,h2⟩:=j0.get (i:=i) (x:=x) r (by simpa using e);exact⟨d,by simpa using h1,h2⟩
def M5:PyData->Value
 | .none=>.type "NoneType"
 | .bool _=>.type "bool"
 | .int _=>.type "int"
 | .str _=>.type "str"
 | .list _=>.type "list"
 | .tuple _=>.type "tuple"
 | .dict _=>.type "dict"
theorem Dat.ty{K:PySem.W.Frag}{H:Hp}{x:V}{d:PyData}(h:Dat H x d):o3 K H x (M5 d):=by
 cases h with
 | non=>exact .non
 | bl b=>exact .bl b
 | int i=>exact .int i
 | str x=>exact .str x
 | tup h _=>exact .tup h
 | lst h _=>exact .lst h
def isI:PyData->Bool | .int _=>true | .bool _=>true | _=>false
def MX:PyData->Bool | .bool _=>true | _=>false
def MW:PyData->Bool | .str _=>true | _=>false
def L6:PyData->Bool | .tuple _=>true | _=>false
def isL:PyData->Bool | .list _=>true | _=>false
section
variable {K:PySem.W.Frag} {H:Hp} {x:V} {d:PyData} {Q:VK}
theorem zu (h:Dat H x d) (q:Q (.bl (MW d)) H):IL K [x,.ty "str"] H Q:=⟨x,"str",_,MW d,rfl,h.ty,by cases h<;>rfl,q⟩
theorem kH (h:Dat H x d) (q:Q (.bl (L6 d)) H):IL K [x,.ty "tuple"] H Q:=⟨x,"tuple",_,L6 d,rfl,h.ty,by cases h<;>rfl,q⟩
end
theorem ints_rep{K:PySem.W.Frag}{H:Hp}:∀(ns:List Int),qM K H (ns.map V.int) (ns.map PyData.int)
 | []=>.nil
 | n::ns=>.cons (.int n) (ints_rep ns)
theorem sP:∀ms ns:List Int,PyData.eqvAll (ms.map PyData.int) (ns.map PyData.int)=decide (ms=ns)
 | [],[]=>rfl
 | [],_::_=>by simp[PyData.eqvAll]
 | _::_,[]=>by simp[PyData.eqvAll]
 | p::ps,q::qs=>by
  show (PyData.eqv (.int p) (.int q)&&PyData.eqvAll (ps.map PyData.int) (qs.map PyData.int))=_;rw[sP ps qs];by_cases h1:p=q<;>by_cases h2:ps=qs<;>simp[PyData.eqv,h1,h2]
theorem gY:∀ns:List Int,PyData.canLayAll0 (ns.map PyData.int)=true
 | []=>rfl
 | n::ns=>by
  show (PyData.canLay0 (.int n)&&PyData.canLayAll0 (ns.map PyData.int))=true;rw[gY ns];rfl
theorem mF:∀ns:List Int,PyData.depthAll (ns.map PyData.int)=0
 | []=>rfl
 | n::ns=>by
  show max (PyData.depth (.int n)) (PyData.depthAll (ns.map PyData.int))=0;rw[mF ns];rfl
theorem EC{K:PySem.W.Frag}{H:Hp}{a b:Addr}{ms ns:List Int}{Q:VK}(ha:bv K H a (ms.map V.int))(hb:bv K H b (ns.map V.int))(q:Q (.bl (decide (ms=ns))) H):A3 K false (.ref a) (.ref b) H Q:=by
 refine⟨.list (ms.map PyData.int),.list (ns.map PyData.int),.lst ha (ints_rep ms),.lst hb (ints_rep ns),gY ms,gY ns,?_,?_⟩
 ·refine bU (Nat.min_le_left _ _) ?_;show PyData.depthAll (ms.map PyData.int)+1<=60;rw[mF];decide
 ·show Q (.bl (PyData.eqvAll (ms.map PyData.int) (ns.map PyData.int))) H;rw[sP];exact q
theorem Dq(n:Int)(ns:List Int):((ns.map PyData.int).any λe=>PyData.eqv e (.int n))=decide (n∈ns):=by
 induction ns with
 | nil=>simp
 | cons m ns ih=>
  rw[ao,gO,ih];by_cases h1:n=m
  ·subst h1;simp[PyData.eqv]
  ·have h2:¬m=n:=λe=>h1 e.symm;by_cases h3:n∈ns<;>simp[PyData.eqv,h1,h2,h3]
theorem zw{K:PySem.W.Frag}{H:Hp}{b:Addr}{n:Int}{ns:List Int}{neg:Bool}{Q:VK}(hb:bv K H b (ns.map V.int)\/dA K H b (ns.map V.int))(q:Q (.bl (if neg then !decide (n∈ns) else decide (n∈ns))) H):IM K neg (.int n) (.ref b) H Q:=by
 refine⟨.int n,ns.map PyData.int,b,_,.int n,rfl,hb,ints_rep ns,rfl,gY ns,a6 _,?_⟩;rw[Dq];exact q
def m7(env:Env):List (Str×NameKind)->List (Str×Addr)->List (Str×Addr)
 | [],acc=>acc
 | (n,k)::r,acc=>m7 env r (if (k==NameKind.free)=true then (n,(env.cells.lookup n).getD 0)::acc else acc)
theorem tL{scope:Scope}{env:Env}(h:∀x∈scope.names,x.2=.free->∃c,env.cells.lookup x.1=some c):closureFor scope env=pure (m7 env scope.names []):=by
 simp only[closureFor];generalize ([]:List (Str×Addr))=acc
 revert h
 generalize scope.names=l;intro h
 induction l generalizing acc with
 | nil=>rfl
 | cons x l ih=>
  obtain⟨n,k⟩:=x;have ih':=λacc=>ih acc λy hy=>h y (aM _ hy);rw[jp];cases hk:(k==NameKind.free) with
  | false=>
   simp only[bN,if_false,pure_bind];rw[show m7 env ((n,k)::l) acc=m7 env l acc by simp[m7,hk]];exact ih' acc
  | true=>
   obtain⟨c,hc⟩:=h (n,k) ar (by simpa using hk);have e:cellOf env n=pure c:=by unfold cellOf;rw[hc]
   simp only[if_true,e,pure_bind];rw[show m7 env ((n,k)::l) acc=m7 env l ((n,c)::acc) by simp[m7,hk,hc]];exact ih' ((n,c)::acc)
theorem nM{env:Env}{x:Str}{c:Addr}:∀{l:List (Str×NameKind)} {acc:List (Str×Addr)},(∀y∈l,y.2=.free->∃c,env.cells.lookup y.1=some c)->(m7 env l acc).lookup x=some c->acc.lookup x=some c\/env.cells.lookup x=some c
 | [],acc,_,h=>.inl h
 | (n,k)::l,acc,hf,h=>by
  have ih:=nM (l:=l) (acc:=if (k==NameKind.free)=true then (n,(env.cells.lookup n).getD 0)::acc else acc) (λy hy=>hf y (aM _ hy)) h;rcases ih with e | e
  ·cases hk:(k==NameKind.free) with
   | false=>rw[hk] at e;exact .inl (by simpa using e)
   | true=>
    rw[hk] at e;simp only[if_true,jW] at e;cases hx:x==n with
    | false=>rw[hx] at e;exact .inl e
    | true=>
     rw[hx] at e;obtain⟨c',hc⟩:=hf (n,k) ar (by simpa using hk);have hxn:x=n:=by simpa using hx
     subst hxn;rw[hc] at e;simp only[fz] at e;exact .inr (hc.trans e)
  ·exact .inr e
theorem uT{env:Env}{x:Str}:∀{l:List (Str×NameKind)} {acc:List (Str×Addr)},(∃c,acc.lookup x=some c)->∃c,(m7 env l acc).lookup x=some c
 | [],acc,h=>h
 | (n,k)::l,acc,h=>by
  refine uT (l:=l) ?_;cases hk:(k==NameKind.free) with
  | false=>simpa using h
  | true=>
   simp only[if_true,jW];cases hx:x==n with
   | false=>exact h
   | true=>exact⟨_,rfl⟩
theorem sX{env:Env}{x:Str}:∀{l:List (Str×NameKind)} {acc:List (Str×Addr)},(x,NameKind.free)∈l->∃c,(m7 env l acc).lookup x=some c
 | [],_,h=>nomatch h
 | (n,k)::l,acc,h=>by
  rcases aJ.mp h with e | e
  ·cases e;refine uT (l:=l) ?_;simp
  ·exact sX (l:=l) e
def BN(env:Env)(p:Str×NameKind):Str×NameKind:=if (p.2==NameKind.free&&env.scope.kind==.function&&env.kindOf p.1==some .cell) then (p.1,NameKind.cell) else p
theorem oM(scope:Scope)(env:Env):(relabel scope env).names=scope.names.map (BN env):=by
 show scope.names.map _=_;congr 1
theorem Em(env:Env)(p:Str×NameKind):(BN env p).1=p.1:=by unfold BN;split<;>rfl
theorem oW{env:Env}{x:Str}:∀{names:List (Str×NameKind)},(names.map (BN env)).lookup x=(names.lookup x).map λk=>(BN env (x,k)).2
 | []=>rfl
 | (n,q)::r=>by
  rw[ao];have e:BN env (n,q)=(n,(BN env (n,q)).2):=fL (Em env _) rfl;rw[e,jW,jW];cases hx:x==n with
  | true=>
   have hxn:x=n:=by simpa using hx
   subst hxn;rfl
  | false=>exact oW (names:=r)
theorem ow{scope:Scope}{env:Env}{x:Str}{k:NameKind}(h:(relabel scope env).names.lookup x=some k):scope.names.lookup x=some k\/(k=.cell/\scope.names.lookup x=some .free):=by
 rw[oM,oW] at h;cases e:scope.names.lookup x with
 | none=>rw[e] at h;cases h
 | some q=>
  rw[e] at h;have h':(BN env (x,q)).2=k:=bD h;unfold BN at h'
  split at h'
  ·rename_i hc;have hq:q=.free:=by
    have:=(aX _ _).mp ((aX _ _).mp hc).1;simpa using this.1
   exact .inr ⟨h'.symm,by rw[hq]⟩
  ·exact .inl (by rw[<-h'])
theorem ut{scope:Scope}{env:Env}{x:Str}(h:scope.names.lookup x=some .free):(relabel scope env).names.lookup x=some .cell\/(relabel scope env).names.lookup x=some .free:=by
 rw[oM,oW,h];show some (BN env (x,.free)).2=_\/some (BN env (x,.free)).2=_;unfold BN
 split
 ·exact .inl rfl
 ·exact .inr rfl
def qh(X:Cx)(N:List Str)(scope:Scope)(C:Addr)(s:Shared)(H:Hp)(fp:List Addr)(pn:List (Addr×Obj)):Cx:=
 { X with N:=N,s₀:=s,H₀:=H,env:=compEnvC scope (m7 X.env scope.names []) C X.env,outer:=X.stack,ex:=fp,fn:=λ_=>false,pn:=pn,xe:=λ_ _=>False }
structure mU (scope:Scope) (ns:List Str):Prop where
 kind:scope.kind=.function
 nocell:∀ y∈scope.names,y.2≠.cell
 names:∀ y∈scope.names,y.2=.local->scope.names.lookup y.1=some .local
 frees:∀ y∈scope.names,y.2=.free->y.1∈ns
inductive mT (X:Cx) (scope:Scope):List Str->List Nat->Prop
 | nil:mT X scope [] []
 | cons {x:Str} {i:Nat} {ns:List Str} {is:List Nat}:X.N[i]? = some x->scope.names.lookup x=some .free->(X.env.kindOf x=some .cell\/X.env.kindOf x=some .free)->mT X scope ns is->mT X scope (x::ns) (i::is)
theorem mT.mem{X:Cx}{scope:Scope}{ns:List Str}{is:List Nat}{x:Str}(c:mT X scope ns is)(h:x∈ns):X.env.kindOf x=some .cell\/X.env.kindOf x=some .free:=by
 induction c with
 | nil=>exact nomatch h
 | cons _ _ k _ ih=>
  rcases aJ.mp h with e | e
  ·subst e;exact k
  ·exact ih e
theorem mT.len{X:Cx}{scope:Scope}{ns:List Str}{is:List Nat}(c:mT X scope ns is):is.length=ns.length:=by
 induction c with
 | nil=>rfl
 | cons _ _ _ _ ih=>simp[ih]
theorem mT.at_{X:Cx}{scope:Scope}{ns:List Str}{is:List Nat}(c:mT X scope ns is){j:Nat}{x:Str}(h:ns[j]? = some x):
  ∃i,is[j]? = some i/\X.N[i]? = some x/\scope.names.lookup x=some .free/\(X.env.kindOf x=some .cell\/X.env.kindOf x=some .free):=by
 induction c generalizing j with
 | nil=>simp at h
 | cons a b k _ ih=>
  cases j with
  | zero=>simp at h;subst h;exact⟨_,rfl,a,b,k⟩
  | succ j=>exact ih (by simpa using h)
def Az(σ:St)(i:Nat):Option V:=(σ[i]?).join
def jD(k:Nat)(caps:List Nat)(σ:St):St:=List.replicate k none++caps.map λi=>Az σ i
section
variable {X:Cx} {pins:List (Addr×Obj)} {σ:St} {H:Hp} {s s4:Shared}
theorem yk{own ns:List Str}{caps:List Nat}{scope:Scope}{C:Addr}{fp:List Addr}(I:bi X pins σ H s)(S:mU scope ns)(cp:mT X scope ns caps)(hf:∀b∈fp,k6 X pins H b)
  (hfl:∀b∈fp,b<s.heap.objs.size) (hC:s.heap.objs.size<=C) (os:s4.os=s.os) (gens:s4.gens=s.gens) (k:∀b o,s.heap.get? b=some o->s4.heap.get? b=some o) {m:Str->Option Value} (hn:s4.heap.Ns C m) :
  bi (qh X (own++ns) scope C s H fp (X.pn++pins)) [] (jD own.length caps σ) H s4:=by
 have cells:∀x c,(m7 X.env scope.names []).lookup x=some c->X.env.cells.lookup x=some c:=λx c e=>by
  rcases nM (λy hy hfr=>I.ok.has y.1 (cp.mem (S.frees y hy hfr))) e with z | z
  ·simp at z
  ·exact z
 have neL:C≠X.env.locals:=fb (aq I.lt hC);have inFs:∀b,b∈yf X.stack->b=X.env.locals\/b∈X.fs:=λb hb=>aJ.mp (I.stkSub b hb);have nst:∀b,b≠X.env.locals->b∉X.fs->b∉yf X.stack:=λb h1 h2 z=>(inFs b z).elim h1 h2;have cle:∀x c,X.env.cells.lookup x=some c->c<s.heap.objs.size:=λx c e=>by obtain⟨v,q⟩:=I.cell x c e;exact q.lt
 refine⟨⟨I.ok.mod,S.kind,I.ok.glob,I.ok.blt,hC,λx y c h1 h2=>I.ok.inj x y c (cells _ _ h1) (cells _ _ h2),λx hx=>?_,(λx c h=>nomatch h),I.ok.hd,I.ok.frames,.inl rfl,λb hb=>⟨λz=>?_,λx c e=>(hf b hb).2.2.2.2.1 x c (cells _ _ e)⟩,
   I.bs,bU I.ok.bsz I.sz,λb o e hb=>?_,λb hb=>nst b (hf b hb).2.1 (hf b hb).2.2.1,I.stack,I.stkFree⟩,
  os,by rw[gens];exact I.bare,Un.kept k,⟨m,hn,λi x v e1 e2 e3=>?_⟩,λx c e=>?_,?_,λx c e=>I.freeC x c (cells _ _ e),λp hp=>?_,I.hok.kept k,?_⟩
 ·have hx':(relabel scope X.env).names.lookup x=some .cell\/(relabel scope X.env).names.lookup x=some .free:=hx;have hfree:scope.names.lookup x=some .free:=by
   rcases hx' with z | z
   ·rcases ow z with q | q
    ·exact absurd rfl (S.nocell _ (dQ q))
    ·exact q.2
   ·rcases ow z with q | q
    ·exact q
    ·exact absurd q.1 (by decide)
  exact sX (dQ hfree)
 ·exact absurd (aq (hfl b hb) hC) (by rw[show b=C from z];exact dY _)
 ·obtain⟨f0,f1,f2,f3,f4,f5⟩:=hf b hb;rcases f3 with z | z
  ·exact I.ok.noex b o e z
  ·exact absurd (aq (aN e) (bU I.ok.bsz z)) (dY _)
 ·have e2':(List.replicate own.length none++caps.map λi=>Az σ i)[i]? = some (some v):=e2;have e1':(own++ns)[i]? = some x:=e1;by_cases hi:i<own.length
  ·rw[hU (by simpa using hi),l4,if_pos hi] at e2';cases e2'
  ·rw[dH (by simpa using hi),me,aS] at e2';rw[dH (by omega)] at e1';obtain⟨i',h1,h2,h3,h4⟩:=cp.at_ e1';rw[h1] at e2';have e4:(σ[i']?).join=some v:=bD e2';have e5:σ[i']? = some (some v):=by
    cases q:σ[i']? with
    | none=>rw[q] at e4;cases e4
    | some w'=>rw[q] at e4;rw[show w'=some v from e4]
   obtain⟨m',hn',hl'⟩:=I.loc;have vis:LM X.env.scope x:=h4.elim (λz=>.inr (.inl z)) λz=>.inr (.inr z);obtain⟨u,r,l⟩:=hl' i' x v h2 e5 vis;refine⟨u,r,.inr ⟨ut h3,?_⟩⟩;obtain⟨c,hc⟩:=sX (env:=X.env) (acc:=[]) (dQ h3);rcases l with ⟨z,_⟩ | ⟨_,c',e6,z⟩
   ·rcases h4 with y | y<;>· rw[y] at z;cases z
   ·have:=cells _ _ hc;rw[e6] at this;cases this;obtain⟨o,ho,hd⟩:=z;exact⟨_,hc,o,k _ _ ho,hd⟩
 ·obtain⟨v,o,ho,hd⟩:=I.cell x c (cells _ _ e);exact⟨v,o,k _ _ ho,hd⟩
 ·exact I.hok.fresh hC
 ·have hp':p∈X.pn++pins:=by simpa [qh] using hp
  obtain⟨a1,a2,a3,a4,a5⟩:=I.pin p hp';exact⟨k _ _ a1,a2,av (aq (aN a1) hC),nst _ a3 a4,a5⟩
 ·show (jD own.length caps σ).length=(own++ns).length;simp[jD,cp.len]
end
def PF(X:Cx)(ifs:List Expr)(t:TT):Prop:=
 ∀(pins:List (Addr×Obj)) (s:Shared) (σ:St) (H:Hp) (Q:Bool->Hp->Prop),bi X pins σ H s->t σ H Q →
  wpAny (model X.prog X.w) X.A (forIn ifs true λc r=>if r=true then do let ok <-isTrue c X.env (eval c X.env);pure (ForInStep.yield ok) else pure (ForInStep.yield r)) (TP X pins σ Q) X.xe s
def tS:TT:=λ_ H q=>q true H
theorem Ig{X:Cx}:PF X [] tS:=λ_ _ _ H _ I h=>wpAny_pure ⟨H,I,h⟩
theorem Ie{X:Cx}{c:Expr}{t:TT}(h:PT X c t):PF X [c] t:=by
 intro pins s σ H Q I hq;rw[jp];simp only[if_true,bind_assoc,pure_bind];refine wpAny_bind (eR (h pins s σ H Q I hq) λb s1 q=>?_);exact wpAny_pure q
def jz(J:It)(g:TG)(tf:TT)(te:TE)(Q:VK)(σ:St)(H1:Hp):Prop:=∃W:Nat->Nat->List V->St->Hp->Prop,(∃m,W 0 m [] σ H1)/\∀i m ys σ H,W i m ys σ H →
 (J.stop i H/\ys.length<=sizeLine/\∀p,H p=none->Q (.ref p) (upd H p (.lst ys))) ∨
 (J.go i H/\ys.length<sizeLine/\∀x H',J.yld i H x H'->g x σ H' λσ2 H2=>tf σ2 H2 λb H3=>
  if b=true then te σ2 H3 λy H4=>∃m',m'<m/\W (i+1) m' (ys++[y]) σ2 H4 else ∃m',m'<m/\W (i+1) m' ys σ2 H3)
section
variable {X:Cx} {pins:List (Addr×Obj)} {σ:St} {H:Hp} {s:Shared}
theorem tK {prog : Program} {w : World} {A : Around} {R : Result → Shared → Prop} {s : Shared} {elt target iter : Expr} {ifs : List Expr} {scope : Scope} {pos : Pos} {it acc : Value} {env : Env} (I : Nat → Shared → Prop)
  (turn : ∀ n s, I n s → wpAny (model prog w) A (pyNext it) (fun r s₁ => match r with
   | none => R (.ok .next) s₁
   | some v => wpAny (model prog w) A (letOwnedTupleGo target it v) (fun _ s₁ => wpAny (model prog w) A (assign target env v) (fun _ s₂ =>
     wpAny (model prog w) A (forIn ifs true fun c r => if r = true then do let ok ← isTrue c env (eval c env); pure (ForInStep.yield ok) else pure (ForInStep.yield r)) (fun ok s₃ =>
      if ok = true then wpAny (model prog w) A (eval elt env) (fun x s₄ =>
       wpAny (model prog w) A (call (.builtin "list.append") [acc, x]) (fun _ s₅ => ∃ m, m < n ∧ I m s₅) (notedBy (model prog w) A env fun e s' => R (.error e) s') s₄) (notedBy (model prog w) A env fun e s' => R (.error e) s') s₃
      else ∃ m, m < n ∧ I m s₃) (notedBy (model prog w) A env fun e s' => R (.error e) s') s₂) (notedBy (model prog w) A env fun e s' => R (.error e) s') s₁) (notedBy (model prog w) A env fun e s' => R (.error e) s') s₁) (notedBy (model prog w) A env fun e s' => R (.error e) s') s)
  (n : Nat) (h : I n s) : codeAny (model prog w) A (.compLoop (.ListComp elt [⟨target, iter, ifs, 0⟩] scope pos) 0 it acc env) R s := by
 refine codeAny_loop rfl I (fun n s hI => ?_) n h
 show wpAny _ A ((compTurn (.ListComp elt [⟨target, iter, ifs, 0⟩] scope pos) 0 it acc env).onRaise (fun x => do noteFrame x env; theTreesLotGoes x)) _ _ s
 refine wpAny_noted ?_
 rw [compTurn_list]
 refine wpAny_bind (wpAny_standAt (wpAny_bind (wpAny_mono (turn n s hI) (fun r s₁ h₁ => ?_) fun _ _ h' => h')))
 cases r with
 | none => exact wpAny_pure h₁
 | some v =>
  refine wpAny_bind (wpAny_mono h₁ (fun _ s₁ h₁ => ?_) fun _ _ h' => h')
  refine wpAny_bind (wpAny_mono h₁ (fun _ s₂ h₂ => wpAny_bind (wpAny_mono h₂ (fun ok s₃ h₃ => ?_) fun _ _ h' => h')) fun _ _ h' => h')
  cases ok with
  | false => exact wpAny_pure ⟨rfl, h₃⟩
  | true =>
   exact wpAny_bind (wpAny_bind (wpAny_mono h₃ (fun x s₄ h₄ => wpAny_bind (wpAny_mono h₄ (fun _ s₅ h₅ => wpAny_pure (wpAny_pure ⟨rfl, h₅⟩)) fun _ _ h' => h')) fun _ _ h' => h'))
theorem sV{own ns:List Str}{caps:List Nat}{elt tg iter:Expr}{ifs:List Expr}{scope:Scope}{pos:Pos}{it:Addr}{fp:List Addr}{tn:Nat->Heap->Prop}{J:It}{g:TG}{tf:TT}{te:TE}{Q:VK}{E:Value->Shared->Prop}{RR:Value->Addr->Result->Shared->Prop}
  (hc:X.calm=true) (S:mU scope ns) (cp:mT X scope ns caps)
  (hg:∀C s H fp pn,PG (qh X (own++ns) scope C s H fp pn) tg g) (ht:∀C s H fp pn,PF (qh X (own++ns) scope C s H fp pn) ifs tf) (he:∀C s H fp pn,PE (qh X (own++ns) scope C s H fp pn) elt te)
  (I:bi X pins σ H s) (T:Turn X.prog X.w X.K tg J fp it tn) (st:tn 0 s.heap) (hf:∀b∈fp,k6 X pins H b) (hJ:jz J g tf te Q (jD own.length caps σ) H)
  (fin:∀D C m s' H' ys,D≠C->s'.heap.Ns C m->k6 X pins (upd H' D (.lst ys)) C->bi X pins σ (upd H' D (.lst ys)) s'->Q (.ref D) (upd H' D (.lst ys))->RR (.ref D) C (.ok .next) s') :
  wpAny (model X.prog X.w) X.A (newList []) (λacc s₃=>wpAny (model X.prog X.w) X.A (newFunctionEnv scope X.env.globals (m7 X.env scope.names []) [] X.env.qual none .none (some X.env)) (λcenv s₄=>
   codeAny (model X.prog X.w) X.A (.compStart (.ListComp elt [⟨tg,iter,ifs,0⟩] scope pos) 0 (.ref it) acc { cenv with scope:=relabel scope X.env }) (RR acc cenv.locals) s₄) E s₃) E s:=by
 refine wpAny_newObj_type (wpAny_newFunctionEnv S.nocell (by intro y hy;simp at hy) (λh₁ hns₁ hsb₁=>?_) S.kind);dsimp only at hns₁ hsb₁ ⊢;generalize hH2:s.heap.push { cls:=.type "list",dict:=none,data:=.seq ([]:List Value).toArray }=H2 at hns₁ hsb₁ ⊢;have hC:H2.objs.size=s.heap.objs.size+1:=by rw[<-hH2,fO]
 have hDC:s.heap.objs.size≠H2.objs.size:=by rw[hC];exact av (Nat.lt_succ_self _)
 have hCle:s.heap.objs.size<=H2.objs.size:=by rw[hC];exact dc _
 have old:∀b o,s.heap.get? b=some o->h₁.get? b=some o:=λb o e=>hsb₁.extBut b o (by rw[hC];exact av (fc (aN e))) (aB _ (hH2▸aB _ e));have hacc:h₁.PlainList s.heap.objs.size #[]:=⟨_,hsb₁.extBut _ _ hDC (aB _ (hH2▸aO _ rfl))⟩
 have hfl:∀b∈fp,b<s.heap.objs.size:=λb hb=>by obtain⟨o,e,_⟩:=T.obj _ _ st b hb;exact aN e
 generalize hD:s.heap.objs.size=D at hDC hacc ⊢;generalize hCe:H2.objs.size=C at hns₁ hsb₁ hDC hCle hC ⊢;have hDle:s.heap.objs.size<=D:=by rw[hD];exact aH _
 have hCle':s.heap.objs.size<=C:=by rw[hD];rw[hD] at hCle;exact hCle
 have I₁:bi (qh X (own++ns) scope C s H fp (X.pn++pins)) [] (jD own.length caps σ) H { s with heap:=h₁,toks:=s.toks+([]:List (Str×Value)).length }:=
  yk I S cp hf hfl hCle' rfl rfl old hns₁
 have st₁:tn 0 h₁:=T.keep _ _ _ st λb _ o e=>old b o e;generalize hY:qh X (own++ns) scope C s H fp (X.pn++pins)=Y at I₁;have hgY:PG Y tg g:=hY▸hg C s H fp (X.pn++pins);have htY:PF Y ifs tf:=hY▸ht C s H fp (X.pn++pins);have heY:PE Y elt te:=hY▸he C s H fp (X.pn++pins);have yP:Y.prog=X.prog:=by rw[<-hY];rfl
 have yW:Y.w=X.w:=by rw[<-hY];rfl
 have yK:Y.K=X.K:=by rw[<-hY];rfl
 have yA:Y.A=X.A:=by rw[<-hY];rfl
 have yC:Y.calm=true:=by rw[<-hY];exact hc
 have yE:Y.env=compEnvC scope (m7 X.env scope.names []) C X.env:=by rw[<-hY];rfl
 have yX:Y.xe=λ_ _=>False:=by rw[<-hY];rfl
 have yF:Y.fs=yf X.stack:=by rw[<-hY];rfl
 have yQ:Y.pn=X.pn++pins:=by rw[<-hY];rfl
 have yI:Y.ex=fp:=by rw[<-hY];rfl
 have yS:Y.s₀=s:=by rw[<-hY];rfl
 have yH:Y.H₀=H:=by rw[<-hY];rfl
 have cells:∀x c,Y.env.cells.lookup x=some c->X.env.cells.lookup x=some c:=λx c e=>by
  rw[yE] at e;rcases nM (λy hy hfr=>I.ok.has y.1 (cp.mem (S.frees y hy hfr))) (show (m7 X.env scope.names []).lookup x=some c from e) with z | z
  ·simp at z
  ·exact z
 have nst:∀b,b≠X.env.locals->b∉X.fs->b∉Y.fs:=λb h1 h2 z=>by
  rw[yF] at z;exact(aJ.mp (I.stkSub b z)).elim h1 h2
 have fpY:∀{H':Hp},(∀b∈fp,H' b=none)->∀b∈fp,k6 Y [] H' b:=fun {H'} hn b hb=>by
  obtain⟨f0,f1,f2,f3,f4,f5⟩:=hf b hb;refine⟨hn b hb,?_,nst b f1 f2,.inl (by rw[yI];exact hb),λx c e=>f4 x c (cells x c e),λp hp=>f5 p (by simpa [yQ] using hp)⟩;rw[yE];exact av (aq (hfl b hb) hCle')
 have fpD:∀{H':Hp},H' D=none->k6 Y [] H' D:=fun {H'} hn=>by
  obtain⟨f0,f1,f2,f3,f4,f5⟩:=I.fpOk (H':=H') hDle hn;refine⟨hn,by rw[yE];exact hDC,nst D f1 f2,.inr (by rw[yS];exact hDle),λx c e=>f4 x c (cells x c e),λp hp=>f5 p (by simpa [yQ] using hp)⟩
 have hDf:D∉fp:=λz=>dY _ (aq (hfl D z) hDle);have objD:∀{h:Heap} {us:List Value},h.PlainList D us.toArray->∃o,h.get? D=some o/\∀v,o.data≠.cell v:=fun {h us} ⟨n,e⟩=>⟨_,e,λv z=>by cases z⟩
 have noErr:∀{α:Type} {t:Sem α} {Qt:α->Shared->Prop} {sx:Shared} {E':Value->Shared->Prop},wpAny (model Y.prog Y.w) Y.A t Qt Y.xe sx->wpAny (model X.prog X.w) X.A t Qt E' sx:=fun {α t Qt sx E'} h=>by
  rw[yP,yW,yA,yX] at h;exact wpAny_mono h (λ_ _ q=>q) λ_ _ f=>f.elim
 obtain⟨W,⟨m0,w0⟩,turn⟩:=hJ;have TY:Turn Y.prog Y.w Y.K tg J fp it tn:=by rw[yP,yW,yK];exact T
 have loop:∀s₃:Shared,s₃={ s with heap:=h₁,toks:=s.toks+([]:List (Str×Value)).length } →
   codeAny (model X.prog X.w) X.A (.compLoop (.ListComp elt [⟨tg,iter,ifs,0⟩] scope pos) 0 (.ref it) (.ref D) (compEnvC scope (m7 X.env scope.names []) C X.env)) (RR (.ref D) C) s₃:=by
  rintro s₃ rfl;refine tK (λn s'=>∃i ys us σ' H',bi Y [] σ' H' s'/\tn i s'.heap/\(∀b∈fp,H' b=none)/\H' D=none/\s'.heap.PlainList D us.toArray/\cO ys us/\W i n ys σ' H') ?_ m0
   ⟨0,[],[],_,H,I₁,st₁,λb hb=>(hf b hb).1,I.hok.fresh hDle,hacc,.nil,w0⟩
  rintro n s3 ⟨i,ys,us,σ3,H3,I3,st3,fr3,hD3,L4,v3,w3⟩;have fD3:∀b∈[D],k6 Y [] H3 b:=λb hb=>by
   have e:b=D:=by simpa using hb
   subst e;exact fpD hD3
  have I3':bi Y ([]++mE [D] s3.heap) σ3 H3 s3:=I3.pinned fD3 λb hb=>by
   have e:b=D:=by simpa using hb
   subst e;exact objD L4
  rw[fW] at I3';have fpY':∀{H':Hp},(∀b∈fp,H' b=none)->∀b∈fp,k6 Y (mE [D] s3.heap) H' b:=fun {H'} hn b hb=>by
   obtain⟨f0,f1,f2,f3,f4,f5⟩:=fpY hn b hb;refine⟨f0,f1,f2,f3,f4,λp hp=>?_⟩;rcases aU.mp hp with z | z
   ·exact f5 p (by simpa using z)
   ·have e:p.1=D:=by simpa using (uH z).1
    exact λq=>hDf (by rw[<-e,q];exact hb)
  obtain⟨oD,eD,cD⟩:=objD L4;have keepD:∀{σ':St} {H':Hp} {s':Shared} {pl:List (Addr×Obj)},bi Y (mE [D] s3.heap++pl) σ' H' s'->s'.heap.PlainList D us.toArray/\H' D=none:=fun {σ' H' s' pl} I'=>by
   have:=I'.pin (D,oD) (bI _ (bu _ (iL (by simp) eD)));refine⟨?_,this.2.1⟩;obtain⟨k,e⟩:=L4;rw[e] at eD;cases eD;exact⟨k,this.1⟩
  rcases turn i n ys σ3 H3 w3 with ⟨stop,hlen,qn⟩ | ⟨go,hlen,step⟩
  ·refine noErr (eR (TY.done Y rfl rfl rfl yC i _ s3 σ3 H3 Y.xe I3' (fpY' fr3) st3 stop) λr s4 ⟨hr,I4⟩=>?_);subst hr;obtain⟨pl4,hD4⟩:=keepD (pl:=[]) (by rw[cV];exact I4);have hun:Un (yf X.stack) fp H H3 s.heap s4.heap:=by have:=I4.base;rw[yF,yI,yS,yH] at this;exact this
   have hok:o6 X.prog X.w H3 s4.heap:=by have:=I4.hok;rw[yP,yW] at this;exact this
   obtain⟨m4,hn4,_⟩:=I4.loc;rw[yE] at hn4;have hC4:H3 C=none:=by have:=I4.free;rw[yE] at this;exact this
   have ne:∀b u,H3 b=some u->b≠D:=λb u e z=>by rw[z,hD4] at e;cases e
   refine fin D C m4 s4 H3 ys hDC hn4 (I.fpOk hCle' (by rw[aP (ig hDC)];exact hC4)) (I.call' (ch:=fp) ?_ ?_ ?_ I4.bare ?_) (qn D hD4)
   ·have:=I4.os;rw[yS] at this;exact this
   ·exact⟨hun.keep,hun.slot,λb o e n hx=>by rw[aP (λz=>by rw[z] at e;exact absurd (aN e) (Nat.not_lt.mpr hDle))];exact hun.free b o e n hx,hun.there,
     λb xs e=>by have:=hun.tups b xs e;rw[aP (ne _ _ this)];exact this,λb o u e=>by have:=hun.frzs b o u e;rw[aP (ne _ _ this)];exact this,
     λb ps e=>by obtain⟨more,q⟩:=hun.tbls b ps e;exact⟨more,by rw[aP (ne _ _ q)];exact q⟩⟩
   ·intro b u e;by_cases hb:b=D
    ·subst hb;rw[aD] at e;cases e;obtain⟨k,e4⟩:=pl4;exact⟨hlen,us,k,v3,e4⟩
    ·rw[aP hb] at e;exact(hok b u e).stay (λc v _ q=>q) (λc q=>by rw[aP (ne _ _ q)];exact q) λc xs q=>by rw[aP (ne _ _ q)];exact q
   ·intro b hb;obtain⟨f0,f1,f2,f3,f4,f5⟩:=hf b hb;exact⟨f3,f1,f4,f5⟩
  ·refine noErr (eR (TY.item Y rfl rfl rfl yC i _ s3 σ3 H3 Y.xe I3' (fpY' fr3) st3 go) λr s4 ⟨u,hr,h4⟩=>?_);subst hr;refine noErr (eR h4 λ_ s5 ⟨x,H5,I5,r5,y5,st5,fr5⟩=>?_);have I5':=I5.pinned (fpY' fr5) (T.obj _ _ st5);rw[<-yE];refine noErr (eR (hgY _ s5 σ3 H5 x u _ I5' r5 (step x H5 y5)) λ_ s6 ⟨σ6,H6,I6,q6⟩=>?_);refine noErr (eR (htY _ s6 σ6 H6 _ I6 q6) λok s7 ⟨H7,I7,q7⟩=>?_);have fpK:∀{σ':St} {H':Hp} {s':Shared},bi Y (mE [D] s3.heap++mE fp s5.heap) σ' H' s'->tn (i+1) s'.heap/\∀b∈fp,H' b=none:=fun {σ' H' s'} I'=>
    ⟨T.keep _ _ _ st5 λb hb o e=>(I'.pin (b,o) (bI _ (bI _ (iL hb e)))).1,λb hb=>by
     obtain⟨o,e,_⟩:=T.obj _ _ st5 b hb;exact(I'.pin (b,o) (bI _ (bI _ (iL hb e)))).2.1⟩
   cases ok with
   | false=>
    rw[if_neg a7] at q7 ⊢;obtain⟨m',hm,w7⟩:=q7;obtain⟨pl7,hD7⟩:=keepD I7;obtain⟨st7,fr7⟩:=fpK I7;exact⟨m',hm,i+1,ys,us,σ6,H7,I7.pins_of (λp hp=>nomatch hp),st7,fr7,hD7,pl7,v3,w7⟩
   | true=>
    rw[if_pos rfl] at q7 ⊢;refine noErr (eR (heY _ s7 σ6 H7 _ I7 q7) λy s8 ⟨yv,H8,I8,r8,m',hm,w8⟩=>?_);obtain⟨pl8,hD8⟩:=keepD I8;obtain⟨st8,fr8⟩:=fpK I8;have hul:us.length=ys.length:=v3.length.symm;refine wpAny_list_append_plain (hsz:=by rw[aQ,hul];exact bf hlen) pl8 λh9 pl9 sb9=>?_;obtain⟨d0,d1,d2,d3,d4,d5⟩:=fpD hD8;refine⟨m',hm,i+1,ys++[yv],us++[y],σ6,H8,?_,?_,fr8,hD8,by simpa using pl9,v3.append (.cons r8 .nil),w8⟩
    ·exact(I8.pins_of (pins':=[]) λp hp=>nomatch hp).turned (t':=s8.toks) (λb o hb e=>(sb9.2 b hb).trans e) hD8 d1 d3 d4 d5
    ·exact T.keep _ _ _ st8 λb hb o e=>(sb9.2 b (λz=>hDf (z▸hb))).trans e
 exact codeAny_compStart_list (loop _ rfl) (T.self _ 0 _ _ _ st₁ (loop _ rfl))
def og(k:Nat)(caps:List Nat)(wi:TI)(g:TG)(tf:TT)(te:TE):TE:=λσ H Q=>wi σ H λJ H1=>jz J g tf te Q (jD k caps σ) H1
theorem mT.cl{scope:Scope}{ns:List Str}{caps:List Nat}(I:bi X pins σ H s)(S:mU scope ns)(cp:mT X scope ns caps):closureFor scope X.env=pure (m7 X.env scope.names []):=
 tL λy hy hfr=>I.ok.has y.1 (cp.mem (S.frees y hy hfr))
theorem FQ{own ns:List Str}{caps:List Nat}{elt tg iter:Expr}{ifs:List Expr}{scope:Scope}{pos:Pos}{wi:TI}{g:TG}{tf:TT}{te:TE}(hc:X.calm=true)(S:mU scope ns)(cp:mT X scope ns caps)(hi:PI X tg iter wi)
  (hg:∀C s H fp pn,PG (qh X (own++ns) scope C s H fp pn) tg g) (ht:∀C s H fp pn,PF (qh X (own++ns) scope C s H fp pn) ifs tf) (he:∀C s H fp pn,PE (qh X (own++ns) scope C s H fp pn) elt te)
  (hs:∀x,foldedSetIterable iter X.env x=pure x:=by intro _;rfl):PE X (.ListComp elt [⟨tg,iter,ifs,0⟩] scope pos) (og own.length caps wi g tf te):=by
 intro pins s σ H Q I h;rw[eval_ListComp];refine wpAny_comprehension_free (use:=none) rfl hs (cp.cl I S) S.kind S.names (eR (hi pins s σ H _ I h) λv s1 h1=>eR h1 λitv s2 h2=>?_);obtain⟨it,fp,tn,J,H2,e,I2,T,st2,f2,hJ⟩:=h2;subst e;refine sV hc S cp hg ht he I2 T st2 f2 hJ (RR:=λacc C=>compPost (model X.prog X.w) X.A X.xe none (EP X pins σ Q) acc C) λD C m s' H' ys hDC hn fC I' q=>?_;refine⟨m,hn,λh' hs'=>⟨.ref D,_,?_,rfl,q⟩⟩;obtain⟨f0,f1,f2,f3,f4,f5⟩:=fC;exact I'.turned (t':=s'.toks) (λb o hb e=>(hs'.2 b hb).trans e) f0 f1 f3 f4 f5
theorem FC{i:Nat}{x:Str}{own ns:List Str}{caps:List Nat}{elt tg iter:Expr}{ifs:List Expr}{scope:Scope}{pos pos' spos:Pos}{wi:TI}{g:TG}{tf:TT}{te:TE}(hN:X.N.Nodup)(hi:X.N[i]? = some x)(hx:Loc X.env.scope x)(hc:X.calm=true)(S:mU scope ns)(cp:mT X scope ns caps)(hit:PI X tg iter wi)
  (hg:∀C s H fp pn,PG (qh X (own++ns) scope C s H fp pn) tg g) (ht:∀C s H fp pn,PF (qh X (own++ns) scope C s H fp pn) ifs tf) (he:∀C s H fp pn,PE (qh X (own++ns) scope C s H fp pn) elt te)
  (hs:∀x,foldedSetIterable iter X.env x=pure x:=by intro _;rfl) (hsw:swapsWith (.ListComp elt [⟨tg,iter,ifs,0⟩] scope pos) (some (.Name x pos')) spos.line X.env=pure true:=by rfl)
  (hf:X.fn x=true\/X.env.scope.names.lookup x=some .local:=by first | exact .inl rfl | exact .inr rfl | assumption) :
  PS X (.Assign [.Name x pos'] (.ListComp elt [⟨tg,iter,ifs,0⟩] scope pos) spos) (uf (og own.length caps wi g tf te) (mY i)):=by
 intro pins s σ H D I h;rw[exec_Assign_Name_used _ _ _ _ hsw];refine wpAny_bind (wpAny_standAt (wpAny_bind ?_));show wpAny _ X.A (do let _ <-comprehension (.ListComp elt [⟨tg,iter,ifs,0⟩] scope pos) scope X.env _ (newList []) false (eval iter X.env) (some (assign (.Name x pos') X.env))) _ _ s;refine wpAny_bind (wpAny_mono (wpAny_comprehension_free (use:=some (assign (.Name x pos') X.env)) (Q:=λ_ s'=>SP X pins D .next s') rfl hs (cp.cl I S) S.kind S.names
  (eR (hit pins s σ H _ I h) λv s1 h1=>eR h1 λitv s2 h2=>?_)) (λ_ s' hq=>wpAny_pure (wpAny_pure hq)) λ_ _ e=>e)
 obtain⟨it,fp,tn,J,H2,e,I2,T,st2,f2,hJ⟩:=h2;subst e;refine sV hc S cp hg ht he I2 T st2 f2 hJ (RR:=λacc C=>compPost (model X.prog X.w) X.A X.xe (some (assign (.Name x pos') X.env)) (λ_ s'=>SP X pins D .next s') acc C) λL C m s' H' ys hDC hn fC I' q=>?_;show wpAny _ X.A (assign (.Name x pos') X.env (.ref L)) _ _ _;refine wpAny_assign_Name (pT I' hN hi hx (v:=.ref L) (u:=.ref L) rfl (λs'' I'' ⟨a,sb,ha⟩=>?_) hf);obtain⟨f0,f1,f2,f3,f4,f5⟩:=fC;have hCa:C≠a:=by
  rcases ha with z | z
  ·rw[z];exact f1
  ·exact λy=>f4 _ _ z y.symm
 exact⟨m,hn.sameBut sb hCa,λh' hs'=>⟨_,_,I''.turned (t':=s''.toks) (λb o hb e=>(hs'.2 b hb).trans e) f0 f1 f3 f4 f5,q⟩⟩
theorem zJ{k:Nat}{caps:List Nat}{K:PySem.W.Frag}{tl:TE}{g:TG}{tf:TT}{te:TE}{Q:VK}:og k caps (AE K tl) g tf te σ H Q=tl σ H λx H1=>∃a,x=.ref a/\(∃xs,bv K H1 a xs)/\jz (GM K a) g tf te Q (jD k caps σ) H1:=rfl
theorem zI{k:Nat}{caps:List Nat}{K:PySem.W.Frag}{tl:TE}{g:TG}{tf:TT}{te:TE}{Q:VK}:og k caps (Fp K tl) g tf te σ H Q=tl σ H λx H1=>∃a,x=.ref a/\(∃xs,dA K H1 a xs)/\jz (Gx K a) g tf te Q (jD k caps σ) H1:=rfl
theorem zL{k:Nat}{caps:List Nat}{ta:TA}{g:TG}{tf:TT}{te:TE}{Q:VK}:og k caps (AD ta) g tf te σ H Q=ta σ H λvs H1=>∃j:Int,vs=[.int j]/\-(2 ^ 62)<=j/\j<2 ^ 62/\jz (BU 0 j.toNat) g tf te Q (jD k caps σ) H1:=rfl
theorem zK{k:Nat}{caps:List Nat}{ta:TA}{g:TG}{tf:TT}{te:TE}{Q:VK}:og k caps (AC ta) g tf te σ H Q=ta σ H λvs H1=>∃i j:Int,vs=[.int i,.int j]/\(-(2 ^ 62)<=i/\i<2 ^ 62/\-(2 ^ 62)<=j/\j<2 ^ 62)/\jz (BU i (j-i).toNat) g tf te Q (jD k caps σ) H1:=rfl
theorem zC{x:Str}{l:List Str}{caps:List Nat}:jD (x::l).length caps σ=none::jD l.length caps σ:=rfl
theorem zA{i:Nat}{is:List Nat}:jD ([]:List Str).length (i::is) σ=Az σ i::jD ([]:List Str).length is σ:=rfl
theorem zB:jD ([]:List Str).length [] σ=[]:=rfl
theorem Bb{x:Option V}:Az (x::σ) 0=x:=rfl
theorem w_getS{x:Option V}{i:Nat}:Az (x::σ) (i+1)=Az σ i:=rfl
theorem B9{q:Bool->Hp->Prop}:tS σ H q=q true H:=rfl
end
section
variable {K:PySem.W.Frag} {a:Addr} {xs:List V} {g:TG} {tf:TT} {te:TE} {Q:VK} {σ:St} {H:Hp}
theorem rB{J:It}(n:Nat)(hsz:n<=sizeLine)(Pv:Nat->List V->St->Hp->Prop)(h0:Pv 0 [] σ H)(hlen:∀i ys σ H,Pv i ys σ H->ys.length<=i)(hgo:∀i ys σ H,i<n->Pv i ys σ H->J.go i H)(hstop:∀ys σ H,Pv n ys σ H->J.stop n H)
  (hs:∀i ys σ H x H' (N:List V->St->Hp->Prop),i<n->Pv i ys σ H->J.yld i H x H'->(∀ys σ H,Pv (i+1) ys σ H->N ys σ H)->g x σ H' λσ2 H2=>tf σ2 H2 λb H3=>if b=true then te σ2 H3 λy H4=>N (ys++[y]) σ2 H4 else N ys σ2 H3)
  (hd:∀ys σ H p,Pv n ys σ H->H p=none->Q (.ref p) (upd H p (.lst ys))):jz J g tf te Q σ H:=by
 refine⟨λi m ys σ H=>m=n-i/\i<=n/\Pv i ys σ H,⟨n,by simp,a6 _,h0⟩,?_⟩;rintro i m ys σ H ⟨rfl,hi,p⟩;have hy:=hlen i ys σ H p;by_cases hlt:i<n
 ·refine .inr ⟨hgo i ys σ H hlt p,by omega,λx H' y=>?_⟩;exact hs i ys σ H x H' (λys σ H=>∃m',m'<n-i/\m'=n-(i+1)/\i+1<=n/\Pv (i+1) ys σ H) hlt p y λys σ H z=>⟨n-(i+1),by omega,rfl,hlt,z⟩
 ·have e:i=n:=by omega
  subst e;exact .inl ⟨hstop ys σ H p,by omega,λp' hp=>hd ys σ H p' p hp⟩
theorem oE(Pv:Nat->List V->St->Hp->Prop)(h0:Pv 0 [] σ H)(hl:∀i ys σ H,Pv i ys σ H->bv K H a xs/\ys.length<=i)(hsz:xs.length<=sizeLine)
  (hs:∀i x ys σ H (N:List V->St->Hp->Prop),xs[i]? = some x->Pv i ys σ H->(∀ys σ H,Pv (i+1) ys σ H->N ys σ H)->g x σ H λσ2 H2=>tf σ2 H2 λb H3=>if b=true then te σ2 H3 λy H4=>N (ys++[y]) σ2 H4 else N ys σ2 H3)
  (hd:∀ys σ H p,Pv xs.length ys σ H->H p=none->Q (.ref p) (upd H p (.lst ys))):jz (GM K a) g tf te Q σ H:=by
 refine rB xs.length hsz Pv h0 (λi ys σ H p=>(hl i ys σ H p).2) (λi ys σ H hi p=>⟨xs,xs[i],(hl i ys σ H p).1,by simp[hi]⟩) (λys σ H p=>⟨xs,(hl _ ys σ H p).1,aH _⟩) ?_ hd;rintro i ys σ H x H' N hi p ⟨rfl,y⟩ hN;exact hs i x ys σ H' N (y xs (hl i ys σ _ p).1) p hN
theorem sW{lo:Int}{n:Nat}(Pv:Nat->List V->St->Hp->Prop)(h0:Pv 0 [] σ H)(hl:∀i ys σ H,Pv i ys σ H->ys.length<=i)(hsz:n<=sizeLine)
  (hs:∀i ys σ H (N:List V->St->Hp->Prop),i<n->Pv i ys σ H->(∀ys σ H,Pv (i+1) ys σ H->N ys σ H)->g (.int (lo+i)) σ H λσ2 H2=>tf σ2 H2 λb H3=>if b=true then te σ2 H3 λy H4=>N (ys++[y]) σ2 H4 else N ys σ2 H3)
  (hd:∀ys σ H p,Pv n ys σ H->H p=none->Q (.ref p) (upd H p (.lst ys))):jz (BU lo n) g tf te Q σ H:=by
 refine rB n hsz Pv h0 hl (λi ys σ H hi p=>hi) (λys σ H p=>aH _) ?_ hd;rintro i ys σ H x H' N hi p ⟨rfl,rfl⟩ hN;exact hs i ys σ H' N hi p hN
theorem wx{J:It}(n:Nat)(hsz:n<=sizeLine){rest:St}(xs ys:List V)(hl:ys.length=n)(hgo:∀i,i<n->J.go i H)(hstop:J.stop n H)(hy:∀i x H',i<n->J.yld i H x H'->H'=H/\xs[i]? = some x)
  (hs:∀(i:Nat) (x y:V) (Q':VK),xs[i]? = some x->ys[i]? = some y->Q' y H->te (some x::rest) H Q')
  (q:∀p,H p=none->Q (.ref p) (upd H p (.lst ys))):jz J (mY 0) tS te Q (none::rest) H:=by
 refine rB n hsz (λi zs σ H'=>H'=H/\zs=ys.take i/\∃x,σ=x::rest) ⟨rfl,by simp,_,rfl⟩ ?_ ?_ ?_ ?_ ?_
 ·rintro i zs σ H' ⟨rfl,rfl,_⟩;rw[bp];omega
 ·rintro i zs σ H' hi ⟨rfl,_,_⟩;exact hgo i hi
 ·rintro zs σ H' ⟨rfl,_,_⟩;exact hstop
 ·rintro i zs σ H1 x H' N hi ⟨rfl,rfl,z,rfl⟩ y hN;obtain⟨rfl,hx⟩:=hy i x H' hi y;show te (some x::rest) H' _;have hyi:ys[i]? = some ys[i]:=aK (by omega);refine hs i x ys[i] _ hx hyi (hN _ _ _ ⟨rfl,?_,_,rfl⟩);rw[bF,hyi];rfl
 ·rintro zs σ H' p ⟨rfl,rfl,_⟩ hp;rw[<-hl,bW];exact q p hp
theorem BI{rest:St}(hx:bv K H a xs)(hsz:xs.length<=sizeLine)(ys:List V)(hl:ys.length=xs.length)
  (hs:∀(i:Nat) (x y:V) (Q':VK),xs[i]? = some x->ys[i]? = some y->Q' y H->te (some x::rest) H Q')
  (q:∀p,H p=none->Q (.ref p) (upd H p (.lst ys))):jz (GM K a) (mY 0) tS te Q (none::rest) H:=by
 refine wx xs.length hsz xs ys hl (λi hi=>⟨xs,xs[i],hx,by simp[hi]⟩) ⟨xs,hx,aH _⟩ (λi x H' hi y=>⟨y.1,y.2 xs hx⟩) hs q
theorem BH{rest:St}(hx:dA K H a xs)(hsz:xs.length<=sizeLine)(ys:List V)(hl:ys.length=xs.length)
  (hs:∀(i:Nat) (x y:V) (Q':VK),xs[i]? = some x->ys[i]? = some y->Q' y H->te (some x::rest) H Q')
  (q:∀p,H p=none->Q (.ref p) (upd H p (.lst ys))):jz (Gx K a) (mY 0) tS te Q (none::rest) H:=
 wx xs.length hsz xs ys hl (λi hi=>⟨xs,xs[i],hx,by simp[hi]⟩) ⟨xs,hx,aH _⟩ (λi x H' hi y=>⟨y.1,y.2 xs hx⟩) hs q
end
end L2
namespace Rm
open PySem L2
theorem vy(lo:Int)(n:Nat):(gV lo n).length=n:=by simp[gV]
def i5(d:PyData):Bool:=isI d&&!MX d
theorem vO{K:PySem.W.Frag}{H:Hp}{x:V}{d:PyData}{Q:VK}{E:XK}(h:Dat H x d)(q:Q (.bl (i5 d)) H):oh K [x] H Q E:=
 ⟨x,_,isI d,MX d,rfl,h.ty,by cases h<;>rfl,by cases h<;>rfl,q⟩
theorem Fy{H:Hp}{xs:List V}{d e:PyData}(h:j0 H xs [d,e]):∃x y,xs=[x,y]/\Dat H x d/\Dat H y e:=by
 cases h with
 | cons h1 h2=>
  cases h2 with
  | cons h3 h4=>cases h4;exact⟨_,_,rfl,h1,h3⟩
theorem wJ{α β:Type}{f:α->β}{ys:List β}{zs:List β}(h:ys.Perm zs):∀{xs:List α},zs=xs.map f->∃xs':List α,xs'.Perm xs/\ys=xs'.map f:=by
 induction h with
 | nil=>intro xs e;exact⟨[],by rw[List.map_eq_nil_iff.mp e.symm],rfl⟩
 | cons x _ ih=>
  intro xs e;obtain⟨a,r,rfl,rfl,rfl⟩:=jg.mp e.symm;obtain⟨r',h1,rfl⟩:=ih rfl;exact⟨a::r',h1.cons a,rfl⟩
 | swap x y l=>
  intro xs e;obtain⟨a,r,rfl,rfl,e2⟩:=jg.mp e.symm;obtain⟨b,r2,rfl,rfl,rfl⟩:=jg.mp e2;exact⟨b::a::r2,.swap a b r2,rfl⟩
 | trans _ _ ih1 ih2=>
  intro xs e;obtain⟨r,h1,e1⟩:=ih2 e;obtain⟨r',h2,e2⟩:=ih1 e1;exact⟨r',h2.trans h1,e2⟩
theorem rY{α β:Type}{R:α->β->Prop}:∀{xs:List α} {ys:List β},Paired R xs ys->∃zs:List (α×β),xs=zs.map (·.1)/\ys=zs.map (·.2)/\∀z∈zs,R z.1 z.2
 | _,_,.nil=>⟨[],rfl,rfl,(λz h=>nomatch h)⟩
 | _,_,.cons (a:=a) (b:=b) r t=>by
  obtain⟨zs,rfl,rfl,h⟩:=rY t;exact⟨(a,b)::zs,rfl,rfl,λz hz=>by
   rcases aJ.mp hz with rfl | hz
   ·exact r
   ·exact h z hz⟩
end Rm
namespace L2
open PySem PySem.Spec PyProof.Rows
section
variable {κ:Type} [DecidableEq κ]
def dy(kvs:List (κ×V))(k:κ):Option V:=(kvs.find? λkv=>decide (kv.1=k)).map (·.2)
def putK(kvs:List (κ×V))(k:κ)(v:V):List (κ×V):=
 if (kvs.any λkv=>decide (kv.1=k))=true then kvs.map (λkv=>if kv.1=k then (kv.1,v) else kv) else kvs++[(k,v)]
theorem fZ{p:κ×V}{r:List (κ×V)}{k:κ}(e:p.1=k):dy (p::r) k=some p.2:=by simp[dy,fY,e]
theorem eP{p:κ×V}{r:List (κ×V)}{k:κ}(e:¬p.1=k):dy (p::r) k=dy r k:=by simp[dy,fY,e]
theorem lI(k:κ):∀kvs:List (κ×V),(kvs.any λkv=>decide (kv.1=k))=(dy kvs k).isSome
 | []=>rfl
 | p::r=>by
  rw[gO];by_cases e:p.1=k
  ·simp only[fZ e,decide_eq_true e,Bool.true_or,Option.isSome_some]
  ·rw[eP e,decide_eq_false e,lF];exact lI k r
theorem vW(k j:κ)(y:V):∀kvs:List (κ×V),dy (kvs.map λkv=>if kv.1=k then (kv.1,y) else kv) j=(dy kvs j).map λx=>if j=k then y else x
 | []=>rfl
 | p::r=>by
  have ih:=vW k j y r;rw[ao];by_cases h:p.1=k
  ·rw[if_pos h];by_cases e:p.1=j
   ·rw[fZ (p:=(p.1,y)) e,fZ e,jm,if_pos (e.symm.trans h)]
   ·rw[eP (p:=(p.1,y)) e,eP e,ih]
  ·rw[if_neg h];by_cases e:p.1=j
   ·rw[fZ (p:=p) e,fZ e,jm,if_neg (λz=>h (e.trans z))]
   ·rw[eP (p:=p) e,eP e,ih]
theorem nX(k j:κ)(y:V):∀kvs:List (κ×V),dy kvs k=none->dy (kvs++[(k,y)]) j=if j=k then some y else dy kvs j
 | [],_=>by
  by_cases e:k=j
  ·rw[if_pos e.symm];exact fZ (p:=(k,y)) e
  ·rw[if_neg (λz=>e z.symm)];exact eP (p:=(k,y)) e
 | p::r,hn=>by
  rw[gC];have hk:¬p.1=k:=λz=>by rw[fZ z] at hn;cases hn
  rw[eP hk] at hn;have ih:=nX k j y r hn;by_cases e:p.1=j
  ·rw[fZ e,fZ e,if_neg (λz=>hk (e.trans z))]
  ·rw[eP e,eP e,ih]
theorem j5(kvs:List (κ×V))(k j:κ)(y:V):dy (putK kvs k y) j=if j=k then some y else dy kvs j:=by
 unfold putK;by_cases a:(kvs.any λkv=>decide (kv.1=k))=true
 ·rw[if_pos a,vW];rw[lI] at a;by_cases e:j=k
  ·obtain⟨x,hx⟩:=lE.mp a;rw[if_pos e,e,hx,jm,if_pos rfl]
  ·rw[if_neg e];cases dy kvs j with
   | none=>rfl
   | some x=>rw[jm,if_neg e]
 ·rw[if_neg a];refine nX k j y kvs ?_;rw[lI] at a;cases q:dy kvs k with
  | none=>rfl
  | some x=>rw[q] at a;exact(a rfl).elim
theorem dt(kvs:List (κ×V))(k:κ)(v:V):(putK kvs k v).length<=kvs.length+1:=by
 unfold putK
 split
 ·rw[aA];omega
 ·rw[af,cG,jo];omega
theorem pB{kvs:List (κ×V)}{k:κ}(v:V)(h:dy kvs k=none):putK kvs k v=kvs++[(k,v)]:=by
 unfold putK;rw[lI,h];exact if_neg (by decide)
theorem qN.isSome_eq{o:Option V}{u:Option Value}(r:qN o u):o.isSome=u.isSome:=by
 cases o with
 | none=>cases u with
  | none=>rfl
  | some _=>exact(show False from r).elim
 | some _=>cases u with
  | none=>exact(show False from r).elim
  | some _=>rfl
theorem qN.getD{o:Option V}{u:Option Value}{d:V}{d':Value}(r:qN o u)(rd:RelV d d'):RelV (o.getD d) (u.getD d'):=by
 cases o with
 | none=>cases u with
  | none=>exact rd
  | some _=>exact(show False from r).elim
 | some _=>cases u with
  | none=>exact(show False from r).elim
  | some _=>exact r
theorem KV.val{kvs:List (κ×V)}{vs:List (κ×Value)}(r:KV kvs vs)(k:κ):qN (dy kvs k) (valueAt vs k):=by
 unfold KV at r
 induction r with
 | nil=>exact True.intro
 | @cons p q ps qs h t ih=>
  obtain⟨h1,h2⟩:=h;by_cases e:p.1=k
  ·have e':q.1=k:=h1.symm.trans e;have b:valueAt (q::qs) k=some q.2:=by simp[valueAt,fY,e']
   rw[fZ e,b];exact h2
  ·have e':¬q.1=k:=λz=>e (h1.trans z);have b:valueAt (q::qs) k=valueAt qs k:=by simp[valueAt,fY,e']
   rw[eP e,b];exact ih
theorem KV.any{kvs:List (κ×V)}{vs:List (κ×Value)}(r:KV kvs vs)(k:κ):(kvs.any λkv=>decide (kv.1=k))=vs.any λkv=>decide (kv.1=k):=by
 unfold KV at r
 induction r with
 | nil=>rfl
 | cons h t ih=>rw[gO,gO,ih,h.1]
theorem KV.repl{kvs:List (κ×V)}{vs:List (κ×Value)}(r:KV kvs vs)(k:κ){y:V}{u:Value}(ry:RelV y u):
  KV (kvs.map λkv=>if kv.1=k then (kv.1,y) else kv) (vs.map λkv=>if kv.1=k then (kv.1,u) else kv):=by
 unfold KV at r ⊢
 induction r with
 | nil=>exact .nil
 | @cons p q ps qs h t ih=>
  rw[ao,ao];refine .cons ?_ ih;obtain⟨h1,h2⟩:=h;by_cases e:p.1=k
  ·rw[if_pos e,if_pos (h1.symm.trans e)];exact⟨h1,ry⟩
  ·rw[if_neg e,if_neg (λz=>e (h1.trans z))];exact⟨h1,h2⟩
theorem KV.put{kvs:List (κ×V)}{vs:List (κ×Value)}(r:KV kvs vs)(k:κ){y:V}{u:Value}(ry:RelV y u):KV (putK kvs k y) (stored vs k u):=by
 unfold putK stored;rw[r.any k];by_cases e:(vs.any λkv=>decide (kv.1=k))=true
 ·rw[if_pos e,if_pos e];exact r.repl k ry
 ·rw[if_neg e,if_neg e];exact Paired.snoc r ⟨rfl,ry⟩
theorem KV.length{kvs:List (κ×V)}{vs:List (κ×Value)}(r:KV kvs vs):kvs.length=vs.length:=bB r
end
theorem sH{P:Program}{w:World}{k:Key}{u:Value}(r:RelV (kV k) u):(eg P w).is k u=true:=by
 cases k with
 | inl i=>obtain⟨t,e⟩:=(show ∃t,u=Value.int i t from r);subst e;exact wa P w i t
 | inr x=>obtain⟨t,e⟩:=(show ∃t,u=Value.str x t from r);subst e;exact w9 P w x t
theorem uQ{P:Program}{w:World}:∀{ks:List Key} {us:List Value},cO (ks.map kV) us->ItemsAre (eg P w) ks us
 | [],_,r=>by rw[fF] at r;cases r;exact .nil
 | k::ks,_,r=>by
  rw[ao] at r;cases r with
  | cons h t=>exact .cons (sH h) (uQ t)
abbrev KT (H:Hp):List (List Key×V)->List (List Key×Addr×Value)->Prop:=Paired λp q=>p.1=q.1/\H q.2.1=some (.tup (p.1.map kV))/\RelV p.2 q.2.2
theorem KT.val{H:Hp}{kvs:List (List Key×V)}{xs:List (List Key×Addr×Value)}(r:KT H kvs xs)(k:List Key):qN (dy kvs k) ((atKey xs k).map (·.2)):=by
 induction r with
 | nil=>exact True.intro
 | @cons p q ps qs h t ih=>
  obtain⟨h1,_,h2⟩:=h;by_cases e:p.1=k
  ·have e':q.1=k:=h1.symm.trans e;have b:atKey (q::qs) k=some q.2:=by simp[atKey,fY,e']
   rw[fZ e,b];exact h2
  ·have e':¬q.1=k:=λz=>e (h1.trans z);have b:atKey (q::qs) k=atKey qs k:=by simp[atKey,fY,e']
   rw[eP e,b];exact ih
theorem KT.repl{H:Hp}{kvs:List (List Key×V)}{xs:List (List Key×Addr×Value)}(r:KT H kvs xs)(k:List Key){y:V}{u:Value}(ry:RelV y u):
  KT H (kvs.map λkv=>if kv.1=k then (kv.1,y) else kv) (xs.map (putAt k u)):=by
 induction r with
 | nil=>exact .nil
 | @cons p q ps qs h t ih=>
  rw[ao,ao];refine .cons ?_ ih;obtain⟨h1,h2,h3⟩:=h;unfold putAt;by_cases e:p.1=k
  ·rw[if_pos e,if_pos (h1.symm.trans e)];exact⟨h1,h2,ry⟩
  ·rw[if_neg e,if_neg (λz=>e (h1.trans z))];exact⟨h1,h2,h3⟩
theorem KT.put{H:Hp}{kvs:List (List Key×V)}{xs:List (List Key×Addr×Value)}(r:KT H kvs xs)(k:List Key){b:Addr}{y:V}{u:Value}(hb:H b=some (.tup (k.map kV)))(ry:RelV y u):
  KT H (putK kvs k y) (storedH xs k b u):=by
 have e:(kvs.any λkv=>decide (kv.1=k))=(atKey xs k).isSome:=by
  rw[lI,(r.val k).isSome_eq,ki]
 unfold putK storedH;rw[e];by_cases q:(atKey xs k).isSome=true
 ·rw[if_pos q,if_pos q];exact r.repl k ry
 ·rw[if_neg q,if_neg q];exact Paired.snoc r ⟨rfl,hb,ry⟩
theorem KT.keeps{H H':Hp}{kvs:List (List Key×V)}{xs:List (List Key×Addr×Value)}(r:KT H kvs xs)(ht:∀b ys,H b=some (.tup ys)->H' b=some (.tup ys)):KT H' kvs xs:=
 Paired.mapP r λ_ _ z=>⟨z.1,ht _ _ z.2.1,z.2.2⟩
section
variable {P:Program} {w:World} {H:Hp} {h:Heap} {a:Addr}
theorem Gk{u:HO}(ok:o6 P w H h)(e:Rd H a u):cZ P w H h a u:=e.ok ok
theorem sU{kvs:List (Key×V)}(ok:o6 P w H h)(e:Rd H a (.dK kvs)):kvs.length<=sizeLine/\(a==sysModules)=false/\∃vs,KV kvs vs/\h.DictOf (eg P w) a vs:=
 show cZ P w H h a (.dK kvs) from Gk ok e
theorem Gv{kvs:List (Key×V)}(ok:o6 P w H h)(e:H a=some (.dK kvs)):kvs.length<=sizeLine/\(a==sysModules)=false/\∃vs,KV kvs vs/\h.DictOf (eg P w) a vs:=sU ok (.inl e)
theorem qH{ks:List Key}(ok:o6 P w H h)(e:H a=some (.tup (ks.map kV))):(tupleKind (eg P w)).is h ks a:=by
 obtain⟨_,its,r,o,h1,h2,n,h3⟩:=(show cZ P w H h a (.tup (ks.map kV)) from ok a _ e)
 exact⟨o,its.toArray,n,h1,h2,h3,by simpa using uQ r⟩
theorem sT{kvs:List (List Key×V)}(ok:o6 P w H h)(e:Rd H a (.dT kvs)):kvs.length<=sizeLine/\(a==sysModules)=false ∧
  ∃xs,KT H kvs xs/\h.DictOfH (tupleKind (eg P w)) a xs:=by
 obtain⟨z,y,xs,r,o,es,ep,h1,h2,h3,h4,h5⟩:=(show cZ P w H h a (.dT kvs) from Gk ok e)
 refine⟨z,y,xs,r,o,es,ep,h1,h2,h3,h4,λx hx=>?_,h5⟩;have all:∀{l:List (List Key×V)} {m:List (List Key×Addr×Value)},KT H l m->∀x∈m,(tupleKind (eg P w)).is h x.1 x.2.1:=by
  intro l m q
  induction q with
  | nil=>intro x hx;exact nomatch hx
  | @cons p q ps qs hq t ih=>
   intro x hx;rcases aJ.mp hx with e | hx
   ·subst e;exact qH ok (by rw[<-hq.1];exact hq.2.1)
   ·exact ih x hx
 exact all r x hx
theorem LJ{kvs:List (List Key×V)}(ok:o6 P w H h)(e:H a=some (.dT kvs)):kvs.length<=sizeLine/\(a==sysModules)=false ∧
  ∃xs,KT H kvs xs/\h.DictOfH (tupleKind (eg P w)) a xs:=sT ok (.inl e)
end
def iN(H:Hp)(a:Addr)(y:V)(r:Option V):Prop:=
 (∃kvs k,Rd H a (.dK kvs)/\y=kV k/\r=dy kvs k)\/∃kvs k b,Rd H a (.dT kvs)/\y=.ref b/\H b=some (.tup (k.map kV))/\r=dy kvs k
def lh(H:Hp)(a:Addr)(y v:V)(H':Hp):Prop:=
 (∃kvs k,H a=some (.dK kvs)/\y=kV k/\kvs.length<sizeLine/\H'=upd H a (.dK (putK kvs k v))) ∨
 ∃kvs k b,H a=some (.dT kvs)/\y=.ref b/\H b=some (.tup (k.map kV))/\kvs.length<sizeLine/\H'=upd H a (.dT (putK kvs k v))
theorem iN.k{H:Hp}{a:Addr}{kvs:List (Key×V)}{k:Key}(e:H a=some (.dK kvs)):iN H a (kV k) (dy kvs k):=.inl ⟨kvs,k,.inl e,rfl,rfl⟩
theorem iN.t{H:Hp}{a b:Addr}{kvs:List (List Key×V)}{k:List Key}(e:H a=some (.dT kvs))(eb:H b=some (.tup (k.map kV))):iN H a (.ref b) (dy kvs k):=.inr ⟨kvs,k,b,.inl e,rfl,eb,rfl⟩
theorem lh.k{H:Hp}{a:Addr}{kvs:List (Key×V)}{k:Key}{v:V}(e:H a=some (.dK kvs))(hl:kvs.length<sizeLine):lh H a (kV k) v (upd H a (.dK (putK kvs k v))):=.inl ⟨kvs,k,e,rfl,hl,rfl⟩
theorem lh.t{H:Hp}{a b:Addr}{kvs:List (List Key×V)}{k:List Key}{v:V}(e:H a=some (.dT kvs))(eb:H b=some (.tup (k.map kV)))(hl:kvs.length<sizeLine):
  lh H a (.ref b) v (upd H a (.dT (putK kvs k v))):=.inr ⟨kvs,k,b,e,rfl,eb,hl,rfl⟩
section
variable {X:Cx} {pins:List (Addr×Obj)} {σ:St} {H:Hp} {s:Shared} {a:Addr} {y v:V} {u r:Value} {o:Option V} {A:Around} {E:Value->Shared->Prop}
theorem bi.big(I:bi X pins σ H s):sysModules<s.heap.objs.size:=by
 have h:mainGlobals<s.heap.objs.size:=(I.mod.glob.keeps I.bk).lt;exact Nat.lt_trans (by decide) h
theorem BF{Q:Value->Shared->Prop}(hu:A.units+1<cLine)(I:bi X pins σ H s)(g:iN H a y (some v))(ry:RelV y u)(h:∀w' s',bi X pins σ H s'->RelV v w'->Q w' s'):
  wpAny (model X.prog X.w) A (getItem (.ref a) u) Q E s:=by
 rcases g with ⟨kvs,k,e,ey,l⟩ | ⟨kvs,k,b,e,ey,eb,l⟩
 ·subst ey;obtain⟨z,hd,vs,rel,dd⟩:=sU I.hok e;obtain⟨w',hw,rw'⟩:=qN.some_of (v:=v) (o:=valueAt vs k) (by rw[l];exact rel.val k);exact wpAny_getItem_of (sH ry) dd.mapOf hw (h w' _ (I.tok _) rw')
 ·subst ey;cases (show u=Value.ref b from ry);obtain⟨z,hd,xs,rel,dd⟩:=sT I.hok e;obtain⟨w',hw,rw'⟩:=qN.some_of (v:=v) (o:=(atKey xs k).map (·.2)) (by rw[l];exact rel.val k);obtain⟨p,hp,hp2⟩:=cC.mp hw;refine wpAny_getItem_heap (tupleKind_room_in1 hu) (qH I.hok eb) dd hp ?_;rw[hp2];exact h w' _ (I.tok _) rw'
theorem MB{Q:Value->Shared->Prop}(hu:A.units+1<cLine)(I:bi X pins σ H s)(g:iN H a y o)(ry:RelV y u)(h:∀s',bi X pins σ H s'->Q (.bool o.isSome) s'):
  wpAny (model X.prog X.w) A (compareOp .In u (.ref a)) Q E s:=by
 rcases g with ⟨kvs,k,e,ey,l⟩ | ⟨kvs,k,b,e,ey,eb,l⟩
 ·subst ey;obtain⟨z,hd,vs,rel,dd⟩:=sU I.hok e;refine wpAny_in_of (sH ry) hd dd.mapOf ?_;rw[<-(rel.val k).isSome_eq,<-l];exact h _ (I.tok _)
 ·subst ey;cases (show u=Value.ref b from ry);obtain⟨z,hd,xs,rel,dd⟩:=sT I.hok e;refine wpAny_in_heap (tupleKind_room_in1 hu) (qH I.hok eb) hd dd ?_;have q:=(rel.val k).isSome_eq;rw[ki] at q;rw[<-q,<-l];exact h _ (I.tok _)
theorem Fz{Q:Value->Shared->Prop}(hu:A.units+1<cLine)(I:bi X pins σ H s)(g:iN H a y o)(ry:RelV y u)(h:∀s',bi X pins σ H s'->Q (.bool (!o.isSome)) s'):
  wpAny (model X.prog X.w) A (compareOp .NotIn u (.ref a)) Q E s:=by
 rcases g with ⟨kvs,k,e,ey,l⟩ | ⟨kvs,k,b,e,ey,eb,l⟩
 ·subst ey;obtain⟨z,hd,vs,rel,dd⟩:=sU I.hok e;refine wpAny_notIn_of (sH ry) hd dd.mapOf ?_;rw[<-(rel.val k).isSome_eq,<-l];exact h _ (I.tok _)
 ·subst ey;cases (show u=Value.ref b from ry);obtain⟨z,hd,xs,rel,dd⟩:=sT I.hok e;refine wpAny_notIn_heap (tupleKind_room_in1 hu) (qH I.hok eb) hd dd ?_;have q:=(rel.val k).isSome_eq;rw[ki] at q;rw[<-q,<-l];exact h _ (I.tok _)
theorem vI{h':Heap}{t':Nat}{ob:HO}(I:bi X pins σ H s)(mu:LP (H a))(hs:Heap.SameBut a s.heap h')(he:∃q,h'.get? a=some q)(new:cZ X.prog X.w (upd H a ob) h' a ob):
  bi X pins σ (upd H a ob) { s with heap:=h',toks:=t' }:=
 I.write (x:=a) (e:=a) mu (.inl rfl) (λb q hb z=>(hs.2 b hb).trans z) he new
theorem EF{P:Program}{w:World}{H':Hp}{h':Heap}{kvs:List (Key×V)}{vs:List (Key×Value)}(z:kvs.length<=sizeLine)(hd:(a==sysModules)=false)(rel:KV kvs vs)(dd:h'.DictOf (eg P w) a vs):
  cZ P w H' h' a (.dK kvs):=⟨z,hd,vs,rel,dd⟩
theorem BE{H':Hp}{Q:Unit->Shared->Prop}(hu:A.units+1<cLine)(I:bi X pins σ H s)(g:lh H a y v H')(ry:RelV y u)(rv:RelV v r)(h:∀s',bi X pins σ H' s'->Q () s'):
  wpAny (model X.prog X.w) A (setItem (.ref a) u r) Q E s:=by
 rcases g with ⟨kvs,k,e,ey,l,eH⟩ | ⟨kvs,k,b,e,ey,eb,l,eH⟩
 ·subst ey eH;obtain⟨z,hd,vs,rel,dd⟩:=Gv I.hok e;have hz:vs.length<=sizeLine:=by rw[<-rel.length];exact z
  have hl:(putK kvs k v).length<=sizeLine:=by have:=dt kvs k v;omega
  refine wpAny_setItem_pairs (hsz:=hz) (sH ry) dd λh' dd' hs=>h _ ?_;have he:∃q,h'.get? a=some q:=let ⟨q,_,_,hq,_⟩:=dd';⟨q,hq⟩;exact vI I (by rw[e];exact True.intro) hs he (EF hl hd (rel.put k rv) dd')
 ·subst ey eH;cases (show u=Value.ref b from ry);obtain⟨z,hd,xs,rel,dd⟩:=LJ I.hok e;have hz:xs.length<=sizeLine:=by rw[<-bB rel];exact z
  have hl:(putK kvs k v).length<=sizeLine:=by have:=dt kvs k v;omega
  refine wpAny_setItem_heap (hsz:=hz) (tupleKind_room_in1 hu) (qH I.hok eb) dd λh' dd' hs=>h _ ?_;obtain⟨q,es,ep,hq,h2,h3,h4,_,h5⟩:=dd';refine vI I (by rw[e];exact True.intro) hs ⟨q,hq⟩ ⟨hl,hd,_,(rel.put k eb rv).keeps λc ys ec=>?_,q,es,ep,hq,h2,h3,h4,h5⟩;rw[aP (D4 ec e (λz=>nomatch z))];exact ec
end
def Jf(i:Expr):Prop:=∀ov iv,subscripted i false ov iv=operate [ov,iv] (getItem ov iv)
theorem Ea{prog:Program}{w:World}{A:Around}{E:Value->Shared->Prop}{s:Shared}{env:Env}{value slice:Expr}{pos:Pos}{T id:String}{Q:Value->Shared->Prop}
  (hl:typeLookup (.type T) "__getitem__"=pure (some (.builtin id))) (hs:Jf slice)
  (h:wpAny (model prog w) A (eval value env) (λo s₁=>wpAny (model prog w) A (eval slice env) (λi s₂=>s₂.TypeIs o T/\wpAny (model prog w) A (getItem o i) Q E s₂) E s₁) E s) :
  wpAny (model prog w) A (eval (.Subscript value slice pos) env) Q E s:=by
 refine Subscript_ (wpAny_mono h (λo s₁ h₁=>wpAny_mono h₁ (λi s₂ h₂=>?_) λ_ _ x=>x) λ_ _ x=>x);obtain⟨hT,h₂⟩:=h₂;unfold subscriptTail;refine wpAny_bind ?_;rw[getitemInPython_of_ne hT.not_modules];refine wpAny_bind (wpAny_specialOf hT hl ?_);have fin:wpAny (model prog w) A (subscripted slice false o i) (λr s₃=>wpAny (model prog w) A (letTemporaryGo value o r>>=λ_=>pure r) Q E s₃) E s₂:=by
  rw[hs o i];exact wpAny_operating (wpAny_mono h₂ (λr s₃ h₃=>wpAny_bind (wpAny_letTemporaryGo (wpAny_pure h₃))) λ_ _ x=>x)
 first
  | exact wpAny_pure (wpAny_bind fin)
  | exact wpAny_bind (wpAny_pure (wpAny_bind fin))
  | exact wpAny_bind fin
theorem wn {X:Cx} {pins:List (Addr×Obj)} {σ:St} {H:Hp} {s:Shared} {a:Addr} {y:V} {o:Option V} (I:bi X pins σ H s) (g:iN H a y o):s.TypeIs (.ref a) "dict":=by
 rcases g with ⟨kvs,k,e,_,_⟩ | ⟨kvs,k,b,e,_,_,_⟩
 ·obtain⟨_,_,vs,_,dd⟩:=sU I.hok e;exact dd.typeIs
 ·obtain⟨_,_,xs,_,dd⟩:=sT I.hok e;exact dd.typeIs
def CJ(td ty:TE):TE:=λσ H Q=>td σ H λx H1=>ty σ H1 λy H2=>∃a v,x=.ref a/\iN H2 a y (some v)/\Q v H2
def E9(ty td:TE):TE:=λσ H Q=>ty σ H λy H1=>td σ H1 λx H2=>∃a o,x=.ref a/\iN H2 a y o/\Q (.bl o.isSome) H2
def qo(ty td:TE):TE:=λσ H Q=>ty σ H λy H1=>td σ H1 λx H2=>∃a o,x=.ref a/\iN H2 a y o/\Q (.bl (!o.isSome)) H2
def C7(td ty tv:TE):TS:=λD σ H=>tv σ H λv H1=>td σ H1 λx H2=>ty σ H2 λy H3=>∃a H4,x=.ref a/\lh H3 a y v H4/\D.nx σ H4
section
variable {X:Cx} {o i value:Expr} {pos pos':Pos} {td ty tv:TE}
theorem FP(hu:X.A.units+1<cLine)(ho:PE X o td)(hi:PE X i ty)(hs:Jf i):PE X (.Subscript o i pos) (CJ td ty):=by
 intro pins s σ H Q I h;refine Ea PySem.F.slot_dict_getitem.lookup hs (eR (ho pins s σ H _ I h) λu s1 ⟨x,H1,I1,rx,q1⟩=>eR (hi pins s1 σ H1 _ I1 q1) λiv s2 ⟨y,H2,I2,ry,a,v,ex,g,q2⟩=>?_);subst ex;obtain rfl:u=Value.ref a:=rx;exact⟨wn I2 g,BF hu I2 g ry λw' s3 I3 rw'=>⟨v,H2,I3,rw',q2⟩⟩
theorem Iv(hu:X.A.units+1<cLine)(hi:PE X i ty)(ho:PE X o td):PC X .In i o (E9 ty td):=by
 intro pins s σ H Q I h;refine eR (hi pins s σ H _ I h) λiv s1 ⟨y,H1,I1,ry,q1⟩=>eR (ho pins s1 σ H1 _ I1 q1) λu s2 ⟨x,H2,I2,rx,a,ov,ex,g,q2⟩=>?_;subst ex;obtain rfl:u=Value.ref a:=rx;exact MB hu I2 g ry λs3 I3=>⟨.bl ov.isSome,H2,I3,rfl,q2⟩
theorem Af(hu:X.A.units+1<cLine)(hi:PE X i ty)(ho:PE X o td):PC X .NotIn i o (qo ty td):=by
 intro pins s σ H Q I h;refine eR (hi pins s σ H _ I h) λiv s1 ⟨y,H1,I1,ry,q1⟩=>eR (ho pins s1 σ H1 _ I1 q1) λu s2 ⟨x,H2,I2,rx,a,ov,ex,g,q2⟩=>?_;subst ex;obtain rfl:u=Value.ref a:=rx;exact Fz hu I2 g ry λs3 I3=>⟨.bl (!ov.isSome),H2,I3,rfl,q2⟩
theorem FE(hu:X.A.units+1<cLine)(ho:PE X o td)(hi:PE X i ty)(hv:PE X value tv)(hs:swapsWith value (some (.Subscript o i pos')) pos.line X.env=pure false):
  PS X (.Assign [.Subscript o i pos'] value pos) (C7 td ty tv):=by
 intro pins s σ H D I h;refine wpAny_Assign_Subscript (eR (hv pins s σ H _ I h) λr s1 ⟨v,H1,I1,rv,q1⟩=>eR (ho pins s1 σ H1 _ I1 q1) λu s2 ⟨x,H2,I2,rx,q2⟩=>eR (hi pins s2 σ H2 _ I2 q2) λiv s3 ⟨y,H3,I3,ry,a,H4,ex,g,q3⟩=>?_) hs;subst ex;obtain rfl:u=Value.ref a:=rx;exact BE hu I3 g ry rv λs4 I4=>⟨σ,H4,I4,q3⟩
end
theorem wm {P:Program} {w:World} {H:Hp} (h:Heap) (hb:sysModules<h.objs.size):cZ P w H (h.push { cls:=.type "dict",data:=.dict #[] }) h.objs.size (.dK []):=
 ⟨a6 _,beq_eq_false_iff_ne.mpr (ig (av hb)),[],.nil,Heap.DictOf.new h⟩
theorem EE {P:Program} {w:World} {H:Hp} (h:Heap) (hb:sysModules<h.objs.size):cZ P w H (h.push { cls:=.type "dict",data:=.dict #[] }) h.objs.size (.dT []):=
 ⟨a6 _,beq_eq_false_iff_ne.mpr (ig (av hb)),[],.nil,_,#[],0,aO _ rfl,⟨rfl,rfl,rfl⟩,rfl,rfl,nR⟩
def xX:TE:=λ_ H Q=>∀p,H p=none->Q (.ref p) (upd H p (.dK []))
def xW:TE:=λ_ H Q=>∀p,H p=none->Q (.ref p) (upd H p (.dT []))
section
variable {X:Cx} {pos:Pos}
theorem DL:PE X (.Dict [] [] pos) xX:=λpins s σ H Q I h=>
 wpAny_Dict_empty ⟨.ref s.heap.objs.size,_,I.laid (a:=s.heap.objs.size) (o:=.dK []) (t':=s.toks) (λ_ _ q=>aB _ q) (aH _) (wm s.heap I.big),rfl,h _ (I.hok.fresh (aH _))⟩
theorem DK:PE X (.Dict [] [] pos) xW:=λpins s σ H Q I h=>
 wpAny_Dict_empty ⟨.ref s.heap.objs.size,_,I.laid (a:=s.heap.objs.size) (o:=.dT []) (t':=s.toks) (λ_ _ q=>aB _ q) (aH _) (EE s.heap I.big),rfl,h _ (I.hok.fresh (aH _))⟩
end
def oP:List (TE×TE)->St->Hp->(List (V×V)->Hp->Prop)->Prop
 | [],_,H,Q=>Q [] H
 | (tk,tv)::r,σ,H,Q=>tk σ H λx H1=>tv σ H1 λy H2=>oP r σ H2 λps H3=>Q ((x,y)::ps) H3
abbrev VV:List (V×V)->List (Value×Value)->Prop:=Paired λp q=>RelV p.1 q.1/\RelV p.2 q.2
def LN(X:Cx)(pos:Pos)(keys:List (Option Expr))(values:List Expr)(trs:List (TE×TE)):Prop:=
 ∀(pins:List (Addr×Obj)) (s:Shared) (σ:St) (H:Hp) (Q:List (V×V)->Hp->Prop),bi X pins σ H s->oP trs σ H Q →
  wpAny (model X.prog X.w) X.A (evalPairs (pairTrees keys values X.env pos)) (λvs s'=>∃ps H',bi X pins σ H' s'/\VV ps vs/\Q ps H') X.xe s
theorem FF{X:Cx}{pos:Pos}:LN X pos [] [] []:=λpins s σ H Q I h=>pairTrees_nil_walk ⟨[],H,I,.nil,h⟩
theorem DB{X:Cx}{pos:Pos}{k v:Expr}{ks:List (Option Expr)}{vs:List Expr}{tk tv:TE}{trs:List (TE×TE)}(hk:PE X k tk)(hv:PE X v tv)(hr:LN X pos ks vs trs):
  LN X pos (some k::ks) (v::vs) ((tk,tv)::trs):=λpins s σ H Q I h=>
 pairTrees_cons_walk (eR (hk pins s σ H _ I h) λu s1 ⟨x,H1,I1,rx,q1⟩=>eR (hv pins s1 σ H1 _ I1 q1) λw2 s2 ⟨y,H2,I2,ry,q2⟩=>
  eR (hr pins s2 σ H2 _ I2 q2) λws s3 ⟨ps,H3,I3,rel,q3⟩=>⟨(x,y)::ps,H3,I3,.cons ⟨rx,ry⟩ rel,q3⟩)
def oU(kvs more:List (Key×V)):List (Key×V):=more.foldl (λacc kv=>putK acc kv.1 kv.2) kvs
theorem KV.merge:∀{more:List (Key×V)} {rs:List (Key×Value)} {kvs:List (Key×V)} {vs:List (Key×Value)},KV more rs->KV kvs vs->KV (oU kvs more) (merged vs rs):=by
 intro more rs kvs vs r;unfold KV at r
 induction r generalizing kvs vs with
 | nil=>intro q;exact q
 | @cons p q ps qs h t ih=>
  intro r0;have e:KV (putK kvs p.1 p.2) (stored vs q.1 q.2):=by
   have:=r0.put p.1 h.2;rw[<-h.1];exact this
  exact ih e
theorem oN:∀(more kvs:List (Key×V)),(oU kvs more).length<=kvs.length+more.length
 | [],kvs=>by show kvs.length<=kvs.length+0;omega
 | p::r,kvs=>by
  have h1:=oN r (putK kvs p.1 p.2);have h2:=dt kvs p.1 p.2;show (oU (putK kvs p.1 p.2) r).length<=_;rw[cG];omega
theorem sY{P:Program}{w:World}:∀{kvs:List (Key×V)} {ws:List (Value×Value)},VV (kvs.map λkv=>(kV kv.1,kv.2)) ws->∃rs,Carries (eg P w) ws rs/\KV kvs rs
 | [],_,r=>by rw[fF] at r;cases r;exact⟨[],True.intro,.nil⟩
 | p::kvs,_,r=>by
  rw[ao] at r;cases r with
  | @cons a b as bs h t=>
   obtain⟨rs,c,q⟩:=sY (P:=P) (w:=w) t;obtain⟨b1,b2⟩:=b;exact⟨(p.1,b2)::rs,⟨sH h.1,rfl,c⟩,.cons ⟨rfl,h.2⟩ q⟩
def CI(trs:List (TE×TE)):TE:=λσ H Q=>∀p,H p=none->oP trs σ (upd H p (.dK [])) λps H2=>H2 p=some (.dK [])/\∃kvs:List (Key×V),ps=kvs.map (λkv=>(kV kv.1,kv.2))/\kvs.length<=15/\Q (.ref p) (upd H2 p (.dK (oU [] kvs)))
theorem FN{X:Cx}{pos:Pos}{keys:List (Option Expr)}{values:List Expr}{trs:List (TE×TE)}(h:LN X pos keys values trs)(hall:keys.all (·.isSome)=true)(hl:keys.length=values.length)(h0:keys≠[])
  (h15:keys.length<=15):PE X (.Dict keys values pos) (CI trs):=by
 intro pins s σ H Q I q;have hn:=I.hok.fresh (aH s.heap.objs.size);have I1:=I.laid (a:=s.heap.objs.size) (o:=.dK []) (h':=s.heap.push { cls:=.type "dict",data:=.dict #[] }) (t':=s.toks) (λ_ _ q=>aB _ q) (aH _) (wm s.heap I.big);refine wpAny_Dict_walk (knd:=eg X.prog X.w) hall hl h0 h15 (eR (h pins _ σ _ _ I1 (q _ hn)) λws s2 ⟨ps,H2,I2,rel,e,kvs,ep,lk,q2⟩=>?_);subst ep;obtain⟨rs,c,rk⟩:=sY (P:=X.prog) (w:=X.w) rel;obtain⟨z,hd,vs0,r0,dd⟩:=Gv I2.hok e;cases r0;refine⟨rs,c,dd,λh' dd' hs=>⟨.ref s.heap.objs.size,_,?_,rfl,q2⟩⟩;have hz:(oU [] kvs).length<=sizeLine:=by
  have h1:=oN kvs [];rw[jo] at h1;rw[sizeLine_eq];omega
 have he:∃q,h'.get? s.heap.objs.size=some q:=let ⟨q,_,_,hq,_⟩:=dd';⟨q,hq⟩;exact vI I2 (by rw[e];exact True.intro) hs he (EF hz hd (rk.merge .nil) dd')
structure M2 (X:Cx) (o:Expr) (m:Str) (apos:Pos) (e f:Expr) (cpos:Pos):Prop where
 base:attributeBase o m X.env (eval o X.env)=eval o X.env
 few:((backTo cpos (starEach [e,f] X.env)).all (fun x=>!x.1)&&(backToKw cpos (keywordEach [] X.env)).all (fun x=>x.1.isSome)
  && decide (([e,f]:List Expr).length+([]:List Keyword).length+(if ([]:List Keyword).isEmpty then 0 else 1)<30))=true
 line:(apos.endLine==cpos.line)=true
 trees:backTo cpos (starEach [e,f] X.env)=[(false,eval e X.env),(false,eval f X.env)]
def MK(H:Hp)(a:Addr):Prop:=(∃kvs,Rd H a (.dK kvs))\/∃kvs,Rd H a (.dT kvs)
theorem JV{X:Cx}{pins:List (Addr×Obj)}{σ:St}{H:Hp}{s:Shared}{a:Addr}(I:bi X pins σ H s)(d:MK H a):
  s.TypeIs (.ref a) "dict"/\(∀b,Value.ref a=.ref b->∃ob,s.heap.get? b=some ob/\ob.dict=none)/\(a==sysModules)=false:=by
 rcases d with ⟨kvs,e⟩ | ⟨kvs,e⟩
 ·obtain⟨_,hd,vs,_,dd⟩:=sU I.hok e;refine⟨dd.typeIs,λb q=>?_,hd⟩;cases q;obtain⟨ob,_,_,h1,h2,_⟩:=dd;exact⟨ob,h1,h2.2.1⟩
 ·obtain⟨_,hd,xs,_,dd⟩:=sT I.hok e;refine⟨dd.typeIs,λb q=>?_,hd⟩;cases q;obtain⟨ob,_,_,h1,h2,_⟩:=dd;exact⟨ob,h1,h2.2.1⟩
section
variable {X:Cx} {pins:List (Addr×Obj)} {σ:St} {H:Hp} {s:Shared} {a:Addr} {y d:V} {u r:Value} {o:Option V} {A:Around} {E:Value->Shared->Prop}
theorem J5{Q:Value->Shared->Prop}(hu:A.units+1<cLine)(I:bi X pins σ H s)(g:iN H a y o)(ry:RelV y u)(rd:RelV d r)(h:∀w' s',bi X pins σ H s'->RelV (o.getD d) w'->Q w' s'):
  wpAny (model X.prog X.w) A (call (.builtin "dict.get") [.ref a,u,r]) Q E s:=by
 rcases g with ⟨kvs,k,e,ey,l⟩ | ⟨kvs,k,b,e,ey,eb,l⟩
 ·subst ey;obtain⟨z,hd,vs,rel,dd⟩:=sU I.hok e;refine call_meetsIn jF dd.typeIs mJ (lW _ _ _) (meets_dict_get_default (eg X.prog X.w) a (sH ry) hd r) ⟨_,dd.mapOf,h _ _ (I.tok _) ?_⟩;rw[l];exact(rel.val k).getD rd
 ·subst ey;cases (show u=Value.ref b from ry);obtain⟨z,hd,xs,rel,dd⟩:=sT I.hok e;refine call_meetsIn jF dd.typeIs mJ (lW _ _ _) (meetsH_dict_get_default (tupleKind (eg X.prog X.w)) a b hd r) ⟨tupleKind_room_in1 hu,k,xs,qH I.hok eb,dd,h _ _ (I.tok _) ?_⟩;rw[l];exact(rel.val k).getD rd
end
def xY(td ty tx:TE):TE:=λσ H Q=>td σ H λx H1=>∃a,x=.ref a/\MK H1 a/\ty σ H1 λy H2=>tx σ H2 λz H3=>∃o,iN H3 a y o/\Q (o.getD z) H3
section
variable {X:Cx} {o e f:Expr} {apos cpos:Pos} {td ty tx:TE}
theorem DM (hu:X.A.units+1<cLine) (ho:PE X o td) (he:PE X e ty) (hf:PE X f tx) (m:M2 X o "get" apos e f cpos):PE X (.Call (.Attribute o "get" apos) [e,f] [] cpos) (xY td ty tx):=by
 intro pins s σ H Q I h;refine wpAny_Call_method m.base m.few m.line iV jF PySem.F.type_dict_get (eR (ho pins s σ H _ I h) λu s1 ⟨x,H1,I1,rx,a,ex,d,q1⟩=>?_);subst ex;obtain rfl:u=Value.ref a:=rx;obtain⟨t1,t2,_⟩:=JV I1 d;refine⟨t1,t2,?_⟩;rw[m.trees];refine iz rfl (Calls.evalArgs_plain (gI (eR (he pins s1 σ H1 _ I1 q1) λiv s2 ⟨y,H2,I2,ry,q2⟩=>
  gI (eR (hf pins s2 σ H2 _ I2 q2) λfv s3 ⟨z,H3,I3,rz,ov,g,q3⟩=>iy ?_))))
 exact J5 hu I3 g ry rz λw' s4 I4 rw'=>⟨_,H3,I4,rw',q3⟩
end
end L2
namespace Rm
open PySem PySem.W PyProof.Rows
section
variable {r:Nat->Int} {N:Nat} {cmp:Nat->Nat->(Bool->Shared->Prop)->Shared->Prop} {s:Shared}
def Told(r:Nat->Int)(N:Nat)(cmp:Nat->Nat->(Bool->Shared->Prop)->Shared->Prop)(s:Shared):Prop:=
 ∀i j,i<N->j<N->∀C:Bool->Shared->Prop,C (decide (r i<r j)) s->cmp i j C s
def In(N:Nat)(p:Array Nat):Prop:=p.size=N/\∀i,p.getD i 0<N
def Kk(r:Nat->Int)(p:Array Nat)(i:Nat):Int:=r (p.getD i 0)
def sq(r:Nat->Int)(p:Array Nat)(k:Nat):Prop:=∀i j,i<=j->j<k->Kk r p i<=Kk r p j
def Gz(r:Nat->Int)(p:Array Nat)(k:Nat):Prop:=∀i j,i<=j->j<k->Kk r p j<=Kk r p i
theorem nU{p q:Array Nat}{i j:Nat}(h:p[i]? = q[j]?):Kk r p i=Kk r q j:=by
 unfold Kk;rw[cE,cE,h]
theorem vL{p:Array Nat}{i j:Nat}(hj:j<=p.size)(k:Nat):Kk r (kas_rev p i j) k=if i<=k/\k<j then Kk r p (i+j - 1-k) else Kk r p k:=by
 have e:=getElem?_mirror_all (i:=i) hj k;unfold kas_rev;by_cases h1:i<=k/\k<j
 ·rw[if_pos h1] at e ⊢;exact nU e
 ·rw[if_neg h1] at e ⊢;exact nU e
theorem u5{p:Array Nat}{src d:Nat}(hs:src<p.size)(hd:d<=src)(k:Nat):Kk r (bubble p src d) k=if k=src-d then Kk r p src else if src-d<k/\k<=src then Kk r p (k - 1) else Kk r p k:=by
 have e:=getElem?_bubble hs d hd k;by_cases h1:k=src-d
 ·rw[if_pos h1] at e ⊢;exact nU e
 ·rw[if_neg h1] at e ⊢;by_cases h2:src-d<k/\k<=src
  ·rw[if_pos h2] at e ⊢;exact nU e
  ·rw[if_neg h2] at e ⊢;exact nU e
theorem In.of_perm{p q:Array Nat}(h:In N p)(hp:q.Perm p):In N q:=by
 refine⟨hp.size_eq.trans h.1,λi=>?_⟩;rw[cE];cases e:q[i]? with
 | none=>
  have:=h.2 N;rw[cE,gJ (gq h.1)] at this;exact this
 | some x=>
  have hx:x∈q:=mi e;have hx':x∈p:=hp.mem_iff.mp hx;obtain⟨j,hj,rfl⟩:=Array.mem_iff_getElem.mp hx';have:=h.2 j;rw[cE,bw hj] at this;exact this
theorem In.rev{p:Array Nat}(h:In N p)(i j:Nat):In N (kas_rev p i j):=h.of_perm (mirror_perm _ _ _ _)
theorem sf(T:Told r N cmp s){G:Nat->Shared->Prop}{p:Array Nat}(hp:In N p):∀(f n:Nat),1<=n->sq r p n->(∀m,n<=m->m<=n+f->sq r p m->(m<n+f->Kk r p m<Kk r p (m - 1))->G m s)->(kas_asc p f n).kasWp cmp G s
 | 0,n,_,ha,hG=>hG n (aH _) (aH _) ha (λh=>absurd h (by omega))
 | f+1,n,h1,ha,hG=>by
  refine T _ _ (hp.2 _) (hp.2 _) _ ?_;by_cases c:Kk r p n<Kk r p (n - 1)
  ·have c':r (p.getD n 0)<r (p.getD (n - 1) 0):=c;rw[decide_eq_true c'];exact hG n (aH _) (by omega) ha λ_=>c
  ·have c':¬r (p.getD n 0)<r (p.getD (n - 1) 0):=c;rw[decide_eq_false c'];refine sf T hp f (n+1) (by omega) (λi j hij hj=>?_) λm a b c2 d=>hG m (by omega) (by omega) c2 λe=>d (by omega);by_cases e:j=n
   ·subst e;by_cases e2:i=j
    ·subst e2;exact dw _
    ·have:=ha i (j - 1) (by omega) (by omega);omega
   ·exact ha i j hij (by omega)
def Jb(r:Nat->Int)(p:Array Nat)(n q:Nat):Prop:=q<n/\∀k,n-(q+1)<=k->k<n->Kk r p k=Kk r p (n - 1)
theorem vz{p:Array Nat}{n q:Nat}(hn:n<=p.size)(h:Jb r p n q)(k:Nat):Kk r (kas_rev p (n-(q+1)) n) k=Kk r p k:=by
 rw[vL hn]
 split
 ·rw[h.2 _ (by have:=h.1;omega) (by omega),h.2 k (by omega) (by omega)]
 ·rfl
theorem Gz.same{p p':Array Nat}{n:Nat}(h:Gz r p n)(e:∀k,Kk r p' k=Kk r p k):Gz r p' n:=λi j a b=>by rw[e,e];exact h i j a b
theorem qI(T:Told r N cmp s){G:Array Nat×Nat×Nat->Shared->Prop}:∀(f:Nat) (p:Array Nat) (n q:Nat),In N p->n+f<=N->Gz r p n->Jb r p n q →
  (∀p' n' q',p'.Perm p->n<=n'->n'<=n+f->Gz r p' n'->Jb r p' n' q'->G (p',n',q') s)->(kas_desc f p n q).kasWp cmp G s
 | 0,p,n,q,_,_,hd,ht,hG=>hG p n q (.refl _) (aH _) (aH _) hd ht
 | f+1,p,n,q,hp,hN,hd,ht,hG=>by
  refine T _ _ (hp.2 _) (hp.2 _) _ ?_;by_cases c:Kk r p n<Kk r p (n - 1)
  ·have c':r (p.getD n 0)<r (p.getD (n - 1) 0):=c;rw[decide_eq_true c'];have hq:=ht.1;have grow:∀p':Array Nat,p'.Perm p->(∀k,Kk r p' k=Kk r p k)->(kas_desc f p' (n+1) 0).kasWp cmp G s:=λp' hpp e=>by
    refine qI T f p' (n+1) 0 (hp.of_perm hpp) (by omega) (λi j hij hj=>?_) ⟨by omega,λk h1 h2=>by have e9:k=n:=(by omega);rw[e9];rfl⟩ λp2 n2 q2 a b c2 d e2=>hG p2 n2 q2 (a.trans hpp) (by omega) (by omega) d e2;rw[e,e];by_cases e3:j=n
    ·subst e3;by_cases e4:i=j
     ·subst e4;exact dw _
     ·have:=hd i (j - 1) (by omega) (by omega);omega
    ·exact hd i j hij (by omega)
   show KasT.kasWp cmp (if true=true then (if q > 0 then kas_desc f (kas_rev p (n-(q+1)) n) (n+1) 0 else kas_desc f p (n+1) 0) else _) G s;rw[if_pos rfl]
   split
   ·exact grow _ (mirror_perm _ _ _ _) (vz (by rw[hp.1];omega) ht)
   ·exact grow p (.refl _) λ_=>rfl
  ·have c':¬r (p.getD n 0)<r (p.getD (n - 1) 0):=c;rw[decide_eq_false c'];show KasT.kasWp cmp (if false=true then _ else KasT.ask (p.getD (n - 1) 0) (p.getD n 0) λd=>if d=true then .ret (p,n,q) else kas_desc f p (n+1) (q+1)) G s;rw[if_neg (by simp)];refine T _ _ (hp.2 _) (hp.2 _) _ ?_;by_cases d:Kk r p (n - 1)<Kk r p n
   ·have d':r (p.getD (n - 1) 0)<r (p.getD n 0):=d;rw[decide_eq_true d'];exact hG p n q (.refl _) (aH _) (by omega) hd ht
   ·have d':¬r (p.getD (n - 1) 0)<r (p.getD n 0):=d;rw[decide_eq_false d'];have hq:=ht.1;have eq:Kk r p n=Kk r p (n - 1):=by omega
    refine qI T f p (n+1) (q+1) hp (by omega) (λi j hij hj=>?_) ⟨by omega,λk h1 h2=>?_⟩ λp2 n2 q2 a b c2 d2 e2=>hG p2 n2 q2 a (by omega) (by omega) d2 e2
    ·by_cases e3:j=n
     ·subst e3;by_cases e4:i=j
      ·subst e4;exact dw _
      ·have:=hd i (j - 1) (by omega) (by omega);omega
     ·exact hd i j hij (by omega)
    ·show Kk r p k=Kk r p n;by_cases e3:k=n
     ·rw[e3]
     ·rw[eq];exact ht.2 k (by omega) (by omega)
def Js(r:Nat->Int)(p:Array Nat)(nrem:Nat)(G:Nat×Array Nat->Shared->Prop)(s:Shared):Prop:=∀n p',p'.Perm p->1<=n->n<=nrem->sq r p' n->G (n,p') s
theorem rH(T:Told r N cmp s){G:Nat×Array Nat->Shared->Prop}{p:Array Nat}{n:Nat}(hp:In N p)(h1:1<=n)(hn:n<=N)(hd:Gz r p n)(hG:Js r p N G s):(kas_tail3 n N p).kasWp cmp G s:=by
 unfold kas_tail3;rw[KasT.kasWp_bind];refine sf T (hp.rev 0 n) (N-n) n h1 (λi j hij hj=>?_) λm a b c _=>hG m _ (mirror_perm _ _ _ _) (by omega) (by omega) c;rw[vL (by rw[hp.1];exact hn),vL (by rw[hp.1];exact hn),if_pos (by omega),if_pos (by omega)];exact hd _ _ (by omega) (by omega)
theorem Js.perm{p q:Array Nat}{G:Nat×Array Nat->Shared->Prop}(h:Js r p N G s)(hp:q.Perm p):Js r q N G s:=λn p' a b c d=>h n p' (a.trans hp) b c d
theorem oO(T:Told r N cmp s){G:Nat×Array Nat->Shared->Prop}{p:Array Nat}{n:Nat}(hp:In N p)(hn:n+1<=N)(h1:1<=n)(hd:Gz r p (n+1))(hG:Js r p N G s):(kas_descPart n N p).kasWp cmp G s:=by
 unfold kas_descPart;rw[KasT.kasWp_bind];refine qI T _ p (n+1) 0 hp (by omega) hd ⟨by omega,λk a b=>by have e9:k=n:=(by omega);rw[e9];rfl⟩ λp' n' q' a b c d e=>?_;dsimp only;have hp':=hp.of_perm a
 split
 ·exact rH T (hp'.rev _ _) (by omega) (by omega) (d.same (vz (by rw[hp'.1];omega) e)) (hG.perm ((mirror_perm _ _ _ _).trans a))
 ·exact rH T hp' (by omega) (by omega) d (hG.perm a)
theorem yi(T:Told r N cmp s){G:Nat×Array Nat->Shared->Prop}{p:Array Nat}(hp:In N p)(hN:1<=N)(hG:Js r p N G s):(kas_count N p).kasWp cmp G s:=by
 unfold kas_count;rw[KasT.kasWp_bind];refine sf T hp (N - 1) 1 (aH _) (λi j a b=>by have e9:i=j:=(by omega);rw[e9];exact dw _) λn h1 h2 ha hb=>?_;by_cases e:n=N
 ·subst e;rw[if_pos (by simp)];exact hG n p (.refl _) h1 (aH _) ha
 ·rw[if_neg (by simp[e])];have hlt:=hb (by omega)
  split
  ·refine T _ _ (hp.2 _) (hp.2 _) _ ?_;by_cases c:Kk r p 0<Kk r p (n - 1)
   ·have c':r (p.getD 0 0)<r (p.getD (n - 1) 0):=c;rw[decide_eq_true c'];exact hG n p (.refl _) h1 (by omega) ha
   ·have c':¬r (p.getD 0 0)<r (p.getD (n - 1) 0):=c;rw[decide_eq_false c'];have alike:∀k,k<n->Kk r p k=Kk r p (n - 1):=λk hk=>by
     have a1:=ha 0 k (by omega) hk;have a2:=ha k (n - 1) (by omega) (by omega);omega
    have same:∀k,Kk r (kas_rev p 0 n) k=Kk r p k:=λk=>by
     rw[vL (by rw[hp.1];omega)]
     split
     ·rw[alike _ (by omega),alike k (by omega)]
     ·rfl
    refine oO T (hp.rev 0 n) (by omega) h1 (Gz.same (p:=p) (λi j hij hj=>?_) same) (hG.perm (mirror_perm _ _ _ _));by_cases e3:j=n
    ·subst e3;by_cases e4:i=j
     ·subst e4;exact dw _
     ·rw[alike i (by omega)];omega
    ·rw[alike i (by omega),alike j (by omega)];exact dw _
  ·have:n=1:=by omega
   subst this;refine oO T hp (by omega) (aH _) (λi j hij hj=>?_) hG;have hj':j=0\/j=1:=by omega
   have hi':i=0\/i=1:=by omega
   rcases hj' with rfl | rfl<;>rcases hi' with rfl | rfl
   ·exact dw _
   ·omega
   ·have:Kk r p 1<Kk r p 0:=hlt;omega
   ·exact dw _
theorem place_spec(T:Told r N cmp s){G:Nat->Shared->Prop}{p:Array Nat}{k:Nat}(hp:In N p)(hs:sq r p k):∀(f l e:Nat),e<=k->e<=l+f->l<=e->(∀i,i<l->Kk r p i<=Kk r p k)->(∀i,e<=i->i<k->Kk r p k<Kk r p i) →
  (∀l,l<=k->(∀i,i<l->Kk r p i<=Kk r p k)->(∀i,l<=i->i<k->Kk r p k<Kk r p i)->G l s)->(kas_place p k f l e).kasWp cmp G s
 | 0,l,e,h1,h2,h3,h4,h5,hG=>by
  have:l=e:=by omega
  subst this;exact hG l h1 h4 h5
 | f+1,l,e,h1,h2,h3,h4,h5,hG=>by
  unfold kas_place
  split
  ·have:l=e:=by omega
   subst this;exact hG l h1 h4 h5
  ·refine T _ _ (hp.2 _) (hp.2 _) _ ?_;by_cases c:Kk r p k<Kk r p ((l+e) / 2)
   ·have c':r (p.getD k 0)<r (p.getD ((l+e) / 2) 0):=c;rw[decide_eq_true c'];refine place_spec T hp hs f l ((l+e) / 2) (by omega) (by omega) (by omega) h4 (λi a b=>?_) hG;have:=hs ((l+e) / 2) i a b;omega
   ·have c':¬r (p.getD k 0)<r (p.getD ((l+e) / 2) 0):=c;rw[decide_eq_false c'];refine place_spec T hp hs f ((l+e) / 2+1) e h1 (by omega) (by omega) (λi a=>?_) h5 hG;have:=hs i ((l+e) / 2) (by omega) (by omega);omega
theorem yr{p:Array Nat}{k l:Nat}(hk:k<p.size)(hs:sq r p k)(hl:l<=k)(h1:∀i,i<l->Kk r p i<=Kk r p k)(h2:∀i,l<=i->i<k->Kk r p k<Kk r p i):sq r (bubble p k (k-l)) (k+1):=λi j hij hj=>by
 rw[u5 hk (by omega),u5 hk (by omega)];have e:k-(k-l)=l:=by omega
 rw[e];by_cases i1:i=l
 ·rw[if_pos i1];by_cases j1:j=l
  ·rw[if_pos j1];exact dw _
  ·rw[if_neg j1,if_pos (by omega)];have:=h2 (j - 1) (by omega) (by omega);omega
 ·rw[if_neg i1];by_cases i2:l<i/\i<=k
  ·rw[if_pos i2,if_neg (by omega),if_pos (by omega)];exact hs _ _ (by omega) (by omega)
  ·rw[if_neg i2];by_cases j1:j=l
   ·rw[if_pos j1];exact h1 i (by omega)
   ·rw[if_neg j1];by_cases j2:l<j/\j<=k
    ·rw[if_pos j2];exact hs _ _ (by omega) (by omega)
    ·rw[if_neg j2];exact hs _ _ (by omega) (by omega)
theorem xD(T:Told r N cmp s){G:Array Nat->Shared->Prop}:∀(f:Nat) (p:Array Nat) (k:Nat),In N p->k+f=N->sq r p k->(∀p',p'.Perm p->sq r p' N->G p' s)->(kas_bin f p k).kasWp cmp G s
 | 0,p,k,hp,hk,hs,hG=>hG p (.refl _) (by have e9:k=N:=(by omega);rw[<-e9];exact hs)
 | f+1,p,k,hp,hk,hs,hG=>by
  unfold kas_bin;rw[KasT.kasWp_bind];refine place_spec T hp hs k 0 k (aH _) (by omega) (by omega) (λi h=>absurd h (by omega)) (λi h h'=>absurd h' (by omega)) λl h1 h2 h3=>?_;refine xD T f _ (k+1) (hp.of_perm (bubble_perm _ _ _)) (by omega) (yr (by rw[hp.1];omega) hs h1 h2 h3) λp' a b=>hG p' (a.trans (bubble_perm _ _ _)) b
theorem tX(T:Told r N cmp s){G:Array Nat->Shared->Prop}(hN:1<=N)(hG:∀p:Array Nat,p.Perm (List.toArray (List.range N))->sq r p N->G p s):(kas_sort N).kasWp cmp G s:=by
 have h0:In N (List.toArray (List.range N)):=⟨by simp,λi=>by
  rw[cE];cases e:(List.toArray (List.range N))[i]? with
  | none=>exact hN
  | some x=>
   have:=mi e;simpa using this⟩
 unfold kas_sort;rw[KasT.kasWp_bind];refine yi T h0 hN λn p a b c d=>?_;dsimp only;have hp:=h0.of_perm a
 split
 ·have e:max n 1=n:=by omega
  rw[e];exact xD T _ p n hp (by omega) d λp' x y=>hG p' (x.trans a) y
 ·have:n=N:=by omega
  subst this;exact hG p a d
end
section
variable {prog:Program} {w:World} {A:Around} {E:Value->Shared->Prop} {s:Shared}
def fu(vs:List Value)(p:Array Nat):Array Value:=List.toArray (p.toList.map λi=>vs.getD i Value.none)
theorem AY:∀vs:List Value,vs.length<2->(vs.toArray.zip vs.toArray).map (·.2)=fu vs (List.toArray (List.range vs.length))
 | [],_=>by simp[fu]
 | [v],_=>by simp[fu]
 | _::_::_,h=>by simp at h;omega
def Kp(a:Addr)(h h':Heap):Prop:=∀b o,b≠a->h.get? b=some o->h'.get? b=some o
theorem sF {a:Addr} {vs:List Value} {n:Nat} {P:PySem.Fin->Shared->Prop} {r:Nat->Int} (κ:SortKind) (ho:s.heap.get? a=some (seqObj "list" vs.toArray n)) (h64:vs.length<64)
  (hk:2<=vs.length->∀(h':Heap) (Q:SortKind->Shared->Prop),Kp a s.heap h'->Q κ { s with heap:=h' }->wpAny (model prog w) A (keyKind' vs.toArray) Q E { s with heap:=h' })
  (hc:∀i j,i<vs.length->j<vs.length->∀(h':Heap) (C:Bool->Shared->Prop),Kp a s.heap h'->C (decide (r i<r j)) { s with heap:=h' }->wpAny (model prog w) A (keyLt' κ (vs.getD i Value.none) (vs.getD j Value.none)) C (λ_ _=>False) { s with heap:=h' })
  (h:∀p:Array Nat,p.Perm (List.toArray (List.range vs.length))->sq r p vs.length->P (.done (.ret .none)) { s with heap:=sortedHeap s.heap a vs (fu vs p) }) :
  wpAny (model prog w) A (Builtin.«list.sort» ⟨[.ref a],[]⟩) P E s:=by
 rw[list_sort_plain];have ha:a<s.heap.objs.size:=aN ho;refine wpAny_bind (listItems_at ho rfl ?_);refine wpAny_bind (listUpdate_at ho rfl ?_);obtain⟨e1,ho1⟩:∃e1,(s.heap.update a (Obj.mapSeq λ_=>#[])).get? a=some (seqObj "list" #[] e1):=⟨_,get?_update_seq ho (λ_=>#[])⟩
 refine wpAny_bind (seqEpoch_at ho1 rfl ?_);refine wpAny_bind (wpAny_newTuple ?_);refine wpAny_bind (wpAny_newList ?_);refine wpAny_holding ?_;have ho6:(((s.heap.update a (Obj.mapSeq λ_=>#[])).push (seqObj "tuple" vs.toArray 0)).push (seqObj "list" #[] 0)).get? a=some (seqObj "list" #[] e1):=by
  rw[ir _ _ _ (by rw[size_push',gu];exact av (fc ha)),ir _ _ _ (by rw[gu];exact av ha)];exact ho1
 have kp6:Kp a s.heap (((s.heap.update a (Obj.mapSeq λ_=>#[])).push (seqObj "tuple" vs.toArray 0)).push (seqObj "list" #[] 0)):=λb o hb e=>
  aB _ (aB _ (by rw[fj _ _ _ _ hb];exact e))
 show wpAny (model prog w) A _ P E { s with heap:=((s.heap.update a (Obj.mapSeq λ_=>#[])).push (seqObj "tuple" vs.toArray 0)).push (seqObj "list" #[] 0) };dsimp only;have hsz:vs.toArray.size=vs.length:=by simp
 by_cases h2:vs.toArray.size<2
 ·rw[if_pos h2,if_pos h2];refine wpAny_bind (wpAny_pure ?_);rw[StateT.run_pure];refine wpAny_bind (wpAny_pure ?_);dsimp only;refine wpAny_bind (seqEpoch_at ho6 rfl ?_);refine wpAny_bind (listUpdate_at ho6 rfl ?_ (hsz2:=by rw[Array.size_map];show (pairsOf vs).size<=_;rw[pairsOf_size,sizeLine_eq];omega));simp only[bne_self_eq_false,bN,if_false];have e:(arrOf (SortSt.mk' general' (vs.toArray.zip vs.toArray) #[] 7 none)).map (·.2)=fu vs (List.toArray (List.range vs.length)):=by
   exact AY vs (by omega)
  rw[e];refine wpAny_pure (h (List.toArray (List.range vs.length)) (Array.Perm.refl _) ?_);intro i j hij hj;have e9:i=j:=by omega
  rw[e9];exact dw _
 ·rw[if_neg h2,if_neg h2];refine wpAny_bind (hk (by omega) _ _ kp6 ?_);have T:Told r vs.length (kas_ask prog w A κ vs) { s with heap:=((s.heap.update a (Obj.mapSeq λ_=>#[])).push (seqObj "tuple" vs.toArray 0)).push (seqObj "list" #[] 0) }:=λi j hi hj C hC=>hc i j hi hj _ C kp6 hC;refine wpAny_bind (wpAny_mono (kat_run (ks:=vs) (vs:=vs) (Q:=λst' s'=>s'={ s with heap:=((s.heap.update a (Obj.mapSeq λ_=>#[])).push (seqObj "tuple" vs.toArray 0)).push (seqObj "list" #[] 0) }/\∃p:Array Nat,p.size=vs.length/\arrOf st'=p.map (kas_item (vs.toArray.zip vs.toArray))/\failedOf st'=none/\p.Perm (List.toArray (List.range vs.length))/\sq r p vs.length)
   (G:=λp s'=>s'={ s with heap:=((s.heap.update a (Obj.mapSeq λ_=>#[])).push (seqObj "tuple" vs.toArray 0)).push (seqObj "list" #[] 0) }/\p.Perm (List.toArray (List.range vs.length))/\sq r p vs.length)
   rfl (by omega) h64 (λp' st' s' a1 a2 a3 a4=>⟨a4.1,p',a1,a2,a3,a4.2⟩) (tX T (by omega) λp hp ha=>⟨rfl,hp,ha⟩)) ?_ λ_ _ e=>e)
  rintro⟨⟨⟩,st'⟩ s' ⟨rfl,p,hps,har,hf,hp,hs⟩;dsimp only;have hout:=kat_snds (ks:=vs) (vs:=vs) rfl har;rw[hout];refine wpAny_bind (seqEpoch_at ho6 rfl ?_);refine wpAny_bind (listUpdate_at ho6 rfl ?_ (hsz2:=by rw[aQ,aA,cS,hps,sizeLine_eq];omega));rw[hf];simp only[bne_self_eq_false,bN,if_false];exact wpAny_pure (h p hp hs)
theorem mw {l:Addr} {vs:List Value} {Q:Value->Shared->Prop} {r:Nat->Int} (κ:SortKind) (hcol:∀(A:Around) (E:Value->Shared->Prop) (Q:List Value->Shared->Prop),Q vs { s with heap:=(s.heap.push (seqObj "list" #[] 0)).update s.heap.objs.size (Obj.mapSeq (·++vs.toArray)) }->wpAny (model prog w) A (collect (.ref l)) Q E s) (h64:vs.length<64)
  (hk:2<=vs.length->∀(h':Heap) (Q:SortKind->Shared->Prop),(∀b o,s.heap.get? b=some o->h'.get? b=some o)->Q κ { s with heap:=h' }->wpAny (model prog w) A.in1.in1 (keyKind' vs.toArray) Q (λ_ _=>False) { s with heap:=h' })
  (hc:∀i j,i<vs.length->j<vs.length->∀(h':Heap) (C:Bool->Shared->Prop),(∀b o,s.heap.get? b=some o->h'.get? b=some o)->C (decide (r i<r j)) { s with heap:=h' }->wpAny (model prog w) A.in1.in1 (keyLt' κ (vs.getD i Value.none) (vs.getD j Value.none)) C (λ_ _=>False) { s with heap:=h' })
  (h:∀p:Array Nat,p.Perm (List.toArray (List.range vs.length))->sq r p vs.length->Q (.ref (s.heap.objs.size+1)) { s with heap:=sortedAll s.heap vs (fu vs p) }) :
  wpAny (model prog w) A (call (.builtin "sorted") [.ref l]) Q E s:=by
 refine Calls.call_function_entry kind_sorted plain_sorted entry_sorted (args_sorted1 _) ?_;unfold Builtin.«sorted»;refine wpAny_bind (m:=checkCount "sorted" 1 1 _) (wpAny_pure ?_);refine wpAny_bind (hcol _ _ _ ?_);refine wpAny_bind (wpAny_newList ?_);have hsz:((s.heap.push (seqObj "list" #[] 0)).update s.heap.objs.size (Obj.mapSeq (·++vs.toArray))).objs.size=s.heap.objs.size+1:=by
  rw[gu,size_push']
 have hoL:(((s.heap.push (seqObj "list" #[] 0)).update s.heap.objs.size (Obj.mapSeq (·++vs.toArray))).push (seqObj "list" vs.toArray 0)).get? (s.heap.objs.size+1)=some (seqObj "list" vs.toArray 0):=by
  rw[<-hsz];exact aO _ rfl
 have keep:∀b o,s.heap.get? b=some o->(((s.heap.push (seqObj "list" #[] 0)).update s.heap.objs.size (Obj.mapSeq (·++vs.toArray))).push (seqObj "list" vs.toArray 0)).get? b=some o:=λb o q=>by
  have hlt:b<s.heap.objs.size:=aN q;rw[ir _ _ _ (by rw[hsz];exact av (fc hlt)),fj _ _ _ _ (av hlt),ir _ _ _ (av hlt)];exact q
 have keep2:∀h',Kp (s.heap.objs.size+1) (((s.heap.push (seqObj "list" #[] 0)).update s.heap.objs.size (Obj.mapSeq (·++vs.toArray))).push (seqObj "list" vs.toArray 0)) h'->∀b o,s.heap.get? b=some o->h'.get? b=some o:=λh' k b o q=>
  k b o (av (fc (aN q))) (keep b o q)
 show wpAny _ _ _ _ _ { s with heap:=((s.heap.push (seqObj "list" #[] 0)).update s.heap.objs.size (Obj.mapSeq (·++vs.toArray))).push (seqObj "list" vs.toArray 0) };rw[hsz];refine wpAny_bind (wpAny_holding (wpAny_call_entry slot_list_sort ⟨_,hoL,rfl⟩ entry_list_sort (sF (r:=r) κ hoL h64 (λh2 h' Q k q=>?_) (λi j hi hj h' C k q=>?_) λp hp ha=>⟨_,rfl,?_⟩) (args_list_sort _)))
 ·exact wpAny_mono (hk h2 h' Q (keep2 h' k) q) (λ_ _ z=>z) λ_ _ z=>z.elim
 ·exact hc i j hi hj h' C (keep2 h' k) q
 ·exact wpAny_pure ⟨_,rfl,h p hp ha⟩
theorem qQ{l:Addr}{vs:List Value}{Q:Value->Shared->Prop}{r:Nat->Int}(κ:SortKind)(hl:s.heap.IsList l vs.toArray)(h64:vs.length<64)
  (hk:2<=vs.length->∀(h':Heap) (Q:SortKind->Shared->Prop),(∀b o,s.heap.get? b=some o->h'.get? b=some o)->Q κ { s with heap:=h' }->wpAny (model prog w) A.in1.in1 (keyKind' vs.toArray) Q (λ_ _=>False) { s with heap:=h' })
  (hc:∀i j,i<vs.length->j<vs.length->∀(h':Heap) (C:Bool->Shared->Prop),(∀b o,s.heap.get? b=some o->h'.get? b=some o)->C (decide (r i<r j)) { s with heap:=h' }->wpAny (model prog w) A.in1.in1 (keyLt' κ (vs.getD i Value.none) (vs.getD j Value.none)) C (λ_ _=>False) { s with heap:=h' })
  (h:∀p:Array Nat,p.Perm (List.toArray (List.range vs.length))->sq r p vs.length->Q (.ref (s.heap.objs.size+1)) { s with heap:=sortedAll s.heap vs (fu vs p) }) :
  wpAny (model prog w) A (call (.builtin "sorted") [.ref l]) Q E s:=
 mw κ (λA E Q q=>collect_list hl q (by rw[sizeLine_eq];omega)) h64 hk hc h
theorem wy{l:Addr}{vs:List Value}{Q:List Value->Shared->Prop}(hl:IsTup s.heap l vs.toArray)
  (h:Q vs { s with heap:=(s.heap.push (seqObj "list" #[] 0)).update s.heap.objs.size (Obj.mapSeq (·++vs.toArray)) }) (hsz:vs.length<=sizeLine) :
  wpAny (model prog w) A (collect (.ref l)) Q E s:=by
 obtain⟨o,ho,hc,n,hd⟩:=id hl;unfold collect;refine wpAny_bind (wpAny_runValue (codeAny_builtin entry_proto_collect' ?_));show wpAny _ _ (do again (.builtin "list.__iadd__" ⟨[<-newList [],.ref l],[]⟩)) _ _ s;refine wpAny_bind (wpAny_newList (wpAny_pure ⟨Code.quiet_builtin _ (by decide +kernel),codeAny_builtin entry_list_iadd' ?_⟩));show wpAny _ _ (Builtin.List.listExtendWith (.ref s.heap.objs.size) (.ref l) (.ref s.heap.objs.size)) _ _ { s with heap:=s.heap.push (seqObj "list" #[] 0) };unfold Builtin.List.listExtendWith;have ho':(s.heap.push (seqObj "list" #[] 0)).get? l=some o:=aB _ ho;refine wpAny_bind (wpAny_typeOf (T:="tuple") ⟨o,ho',hc⟩ ?_);have ht:(Value.type "tuple"==Value.type "tuple")=true:=by rfl
 rw[if_pos (by rw[ht];simp)];refine wpAny_bind (listItems_at ho' hd ?_);refine wpAny_bind (listItems_at (xs:=#[]) (n:=0) (aO _ rfl) rfl ?_);rw[if_neg (by simp)];refine wpAny_bind (listUpdate_at (xs:=#[]) (n:=0) (aO _ rfl) rfl ?_ (a6 _) (by show (#[]++vs.toArray).size<=sizeLine+1;simp only[Array.size_append,aQ,jo];omega));refine wpAny_pure ?_;show wpAny (model prog w) A (do
   let o <-load s.heap.objs.size
   match o.data with
   | .seq xs _=>pure xs.toList
   | _=>unsupported "internal:collect") Q E { s with heap:=(s.heap.push (seqObj "list" #[] 0)).update s.heap.objs.size (Obj.mapSeq (·++vs.toArray)) }
 refine wpAny_bind (wpAny_load (get?_update_seq (aO _ rfl) _) ?_);show wpAny _ _ (pure ((#[]:Array Value)++vs.toArray).toList) Q E _;rw[show ((#[]:Array Value)++vs.toArray).toList=vs by simp];exact wpAny_pure h
theorem uh{l:Addr}{vs:List Value}{Q:Value->Shared->Prop}{r:Nat->Int}(κ:SortKind)(hl:IsTup s.heap l vs.toArray)(h64:vs.length<64)
  (hk:2<=vs.length->∀(h':Heap) (Q:SortKind->Shared->Prop),(∀b o,s.heap.get? b=some o->h'.get? b=some o)->Q κ { s with heap:=h' }->wpAny (model prog w) A.in1.in1 (keyKind' vs.toArray) Q (λ_ _=>False) { s with heap:=h' })
  (hc:∀i j,i<vs.length->j<vs.length->∀(h':Heap) (C:Bool->Shared->Prop),(∀b o,s.heap.get? b=some o->h'.get? b=some o)->C (decide (r i<r j)) { s with heap:=h' }->wpAny (model prog w) A.in1.in1 (keyLt' κ (vs.getD i Value.none) (vs.getD j Value.none)) C (λ_ _=>False) { s with heap:=h' })
  (h:∀p:Array Nat,p.Perm (List.toArray (List.range vs.length))->sq r p vs.length->Q (.ref (s.heap.objs.size+1)) { s with heap:=sortedAll s.heap vs (fu vs p) }) :
  wpAny (model prog w) A (call (.builtin "sorted") [.ref l]) Q E s:=
 mw κ (λA E Q q=>wy hl q (by rw[sizeLine_eq];omega)) h64 hk hc h
end
end Rm
namespace Rm
open PySem PySem.W PyProof.Rows L2
theorem nV:∀{as:List Addr} {us:List Value},cO (as.map V.ref) us->us=as.map Value.ref
 | [],_,.nil=>rfl
 | a::as,u::us,.cons r t=>by
  have e:u=Value.ref a:=r;rw[e,nV t];rfl
theorem A2(as:List Addr):cO (as.map V.ref) (as.map Value.ref):=by
 induction as with
 | nil=>exact .nil
 | cons a as ih=>exact .cons rfl ih
def GK (h:Heap) (a:Addr) (p:Bw):Prop:=∃o t u n,h.get? a=some o/\o.cls=.type "tuple"/\o.data=.seq #[.int p.1 t,.int p.2 u] n
theorem Hf{X:Cx}{pins:List (Addr×Obj)}{σ:L2.St}{H:Hp}{s:Shared}(I:bi X pins σ H s){a:Addr}{p:Bw}(h:bZ H a p):GK s.heap a p:=by
 obtain⟨_,its,v,o,e,c,n,d⟩:=I.hok a _ h;obtain⟨u,w,rfl,⟨t,rfl⟩,t',rfl⟩:=cO.two v;exact⟨o,t,t',n,e,c,by rw[d]⟩
theorem GK.kept{h h':Heap}{a:Addr}{p:Bw}(x:GK h a p)(k:∀b o,h.get? b=some o->h'.get? b=some o):GK h' a p:=by
 obtain⟨o,t,u,n,e,c,d⟩:=x;exact⟨o,t,u,n,k _ _ e,c,d⟩
theorem vZ{h:Heap}:∀{as:List Addr} {ps:List Bw},Paired (GK h) as ps->∃fs,KatTups h (as.map Value.ref) fs/\fs.length=as.length/\∀v∈fs,∃n t,v=Value.int n t
 | _,_,.nil=>⟨[],KatTups.nil,rfl,(λv hv=>nomatch hv)⟩
 | _,_,.cons r t=>by
  obtain⟨o,t1,u1,n,e,c,d⟩:=r;obtain⟨fs,h1,h2,h3⟩:=vZ t;exact⟨.int _ t1::fs,KatTups.cons e c d rfl h1,by simp[h2],λv hv=>by
   rcases aJ.mp hv with rfl | hv
   ·exact⟨_,_,rfl⟩
   ·exact h3 v hv⟩
def jv(p:Bw):Int:=p.1*1000+p.2
def kB:SortKind:=tuples' (Value.type "int" != Value.type "tuple")
theorem Hg{prog:Program}{w:World}{A:Around}{s:Shared}{a b:Addr}{p q:Bw}{C:Bool->Shared->Prop}(ha:GK s.heap a p)(hb:GK s.heap b q)(hp:0<=p.2/\p.2<1000)(hq:0<=q.2/\q.2<1000)
  (h:C (decide (jv p<jv q)) s):wpAny (model prog w) A (keyLt' kB (.ref a) (.ref b)) C (λ_ _=>False) s:=by
 obtain⟨oa,t,u,n,ea,ca,da⟩:=ha;obtain⟨ob,t',u',n',eb,cb,db⟩:=hb;refine kat_lt ea da eb db ?_;show KatLex prog w A _ _ C [(Value.int p.1 t,Value.int q.1 t'),(Value.int p.2 u,Value.int q.2 u')] 0 s;refine kat_cons (wpAny_eqBool_int (kat_go (λe=>?_) (λe=>?_)))
 ·have e1:p.1=q.1:=by simpa using e
  refine kat_yes (kat_cons (wpAny_eqBool_int (kat_go (λe=>?_) (λe=>?_))))
  ·have e2:p.2=q.2:=by simpa using e
   refine kat_yes (kat_nil ?_);have z:decide (jv p<jv q)=false:=decide_eq_false (by unfold jv;omega);rw[z] at h;exact h
  ·have e2:¬p.2=q.2:=by simpa using e
   refine kat_no ?_;have z:decide (jv p<jv q)=decide (p.2<q.2):=by
    by_cases y:p.2<q.2
    ·rw[decide_eq_true y,decide_eq_true (by unfold jv;omega)]
    ·rw[decide_eq_false y,decide_eq_false (by unfold jv;omega)]
   rw[z] at h;have b0:((Value.type "int" != Value.type "tuple")&&((0+1:Nat)==0))=false:=by decide
   rw[b0];exact kat_one _ _ (lt_int h)
 ·have e1:¬p.1=q.1:=by simpa using e
  refine kat_no ?_;have z:decide (jv p<jv q)=decide (p.1<q.1):=by
   by_cases y:p.1<q.1
   ·rw[decide_eq_true y,decide_eq_true (by unfold jv;omega)]
   ·rw[decide_eq_false y,decide_eq_false (by unfold jv;omega)]
  rw[z] at h;have b0:((Value.type "int" != Value.type "tuple")&&((0:Nat)==0))=true:=by decide
  rw[b0];exact oneLt_int h
def pick{α:Type}(d:α)(xs:List α)(p:Array Nat):List α:=p.toList.map λi=>xs.getD i d
theorem lQ{α:Type}(d:α)(xs:List α){p:Array Nat}(hp:p.Perm (List.toArray (List.range xs.length))):(pick d xs p).Perm xs:=by
 have h1:p.toList.Perm (List.range xs.length):=by simpa using dm.mp hp
 have h2:=h1.map λi=>xs.getD i d;have e:(List.range xs.length).map (λi=>xs.getD i d)=xs:=by
  apply l8
  ·simp
  ·intro i h1 h2;simp at h1;simp[h1]
 rw[e] at h2;exact h2
theorem wH{α β:Type}{R:α->β->Prop}(d:α)(e:β){xs:List α}{ys:List β}(h:Paired R xs ys){p:Array Nat}(hp:∀i∈p.toList,i<xs.length):Paired R (pick d xs p) (pick e ys p):=by
 unfold pick
 revert hp
 induction p.toList with
 | nil=>intro _;exact .nil
 | cons i r ih=>
  intro hp;refine .cons ?_ (ih λj hj=>hp j (aM _ hj));have hi:=hp i ar;have hx:xs[i]? = some xs[i]:=aK hi;obtain⟨y,hy,hr⟩:=gX h hx;have e1:xs.getD i d=xs[i]:=by simp[List.getD,hx]
  have e2:ys.getD i e=y:=by simp[List.getD,hy]
  show R (xs.getD i d) (ys.getD i e);rw[e1,e2];exact hr
theorem wI{r:Nat->Int}{n:Nat}{p:Array Nat}(hn:p.size=n)(ha:sq r p n){α:Type}(d:α)(xs:List α)(f:α->Int)(hf:∀i,r i=f (xs.getD i d)):(pick d xs p).Pairwise λa b=>f a<=f b:=by
 rw[fS];intro i j hi hj hij;have hi':i<p.size:=by simpa [pick] using hi
 have hj':j<p.size:=by simpa [pick] using hj
 have h1:=ha i j (bf hij) (by omega);unfold Kk at h1;rw[hf,hf] at h1;simp only[cE,bw hi',bw hj',fz] at h1;simpa [pick] using h1
def leB(p q:Bw):Prop:=p.1<q.1\/p.1=q.1/\p.2<=q.2
def IH(K:PySem.W.Frag):List V->Hp->VK->Prop:=λxs H Q=>∃(l:Addr) (as:List Addr) (ps:List Bw),xs=[.ref l]/\bv K H l (as.map V.ref)/\Paired (bZ H) as ps/\ps.length<64/\(∀p∈ps,0<=p.2/\p.2<1000) ∧
 ∀l' as' ps',H l'=none->Paired (bZ H) as' ps'->ps'.Perm ps->ps'.Pairwise leB->Q (.ref l') (upd H l' (.lst (as'.map V.ref)))
theorem lU {X:Cx}:iY X (.builtin "sorted") (IH X.K):=by
 intro pins s σ H xs us Q I rr h;obtain⟨l,as,ps,rfl,hq,hP,h64,hb,q⟩:=h;obtain⟨u,rfl,rx⟩:=vals1 rr;cases rx;obtain⟨its,rv,pl,hz⟩:=I.list hq;have e:=nV rv;subst e;have hlen:as.length=ps.length:=bB hP;have two:Paired (GK s.heap) as ps:=gW hP λa p z=>Hf I z;have at_:∀i,i<as.length->∃a p,(as.map Value.ref).getD i Value.none=.ref a/\ps.getD i (0,0)=p/\GK s.heap a p/\0<=p.2/\p.2<1000:=λi hi=>by
  have hx:as[i]? = some as[i]:=aK hi;obtain⟨p,hp,ht⟩:=gX two hx;exact⟨as[i],p,by simp[List.getD,hi],by simp[List.getD,hp],ht,hb p (aR hp)⟩
 refine qQ (r:=λi=>jv (ps.getD i (0,0))) kB pl.isList (by rw[aA];omega) (λh2 h' Q' k q'=>?_) (λi j hi hj h' C k q'=>?_) λp hp ha=>?_
 ·obtain⟨fs,k1,k2,k3⟩:=vZ (gW two λa p z=>z.kept k);refine kat_kind (T:=.type "int") k1 (by rw[aA] at h2;omega) (λv hv=>?_) rfl q';obtain⟨n,t,rfl⟩:=k3 v hv;exact(show Looks _ _ (pure (Value.type "int")) (Value.type "int") from .now)
 ·rw[aA] at hi hj;obtain⟨a,p,e1,e2,t1,b1⟩:=at_ i hi;obtain⟨c,p',e3,e4,t2,b2⟩:=at_ j hj;rw[e1,e3];refine Hg (t1.kept k) (t2.kept k) b1 b2 ?_;rw[<-e2,<-e4];exact q'
 ·rw[aA] at hp ha;obtain⟨c,hc⟩:=sortedAll_at s.heap (as.map Value.ref) (fu (as.map Value.ref) p);have hin:∀i∈p.toList,i<as.length:=λi hi=>by
   have h1:p.toList.Perm (List.range as.length):=by simpa using dm.mp hp
   simpa using h1.mem_iff.mp hi
  have eo:fu (as.map Value.ref) p=List.toArray ((pick 0 as p).map Value.ref):=by
   unfold fu pick;rw[bc];congr 1;refine cA λi hi=>?_;have:=hin i hi;simp[List.getD,this]
  have hps:(pick 0 as p).length<=sizeLine:=by
   have:=(lQ 0 as hp).length_eq;rw[this];exact bf (bO (by omega))
  rw[eo] at hc;have hp':p.Perm (List.toArray (List.range ps.length)):=by rw[<-hlen];exact hp
  refine⟨.ref (s.heap.objs.size+1),upd H (s.heap.objs.size+1) (.lst ((pick 0 as p).map V.ref)),I.laid (t':=s.toks) (λb o e=>sortedAll_old e) (dc _) ?_,rfl,?_⟩
  ·exact(show cZ X.prog X.w _ _ _ (.lst _) from ⟨by rw[aA];exact hps,(pick 0 as p).map Value.ref,c,A2 _,by rw[eo];exact hc⟩)
  ·have hasc:=wI (n:=as.length) (by have:=hp.size_eq;simpa using this) ha (0,0) ps jv λi=>rfl;have hmem:∀x∈pick (0,0) ps p,0<=x.2/\x.2<1000:=λx hx=>hb x ((lQ (0,0) ps hp').mem_iff.mp hx);refine q _ _ (pick (0,0) ps p) (I.hok.fresh (dc _)) (wH 0 (0,0) hP hin) (lQ (0,0) ps hp') ?_;refine fe (fun {a b} ma mb hab=>?_) hasc;have h1:=hmem a ma;have h2:=hmem b mb;unfold jv at hab;unfold leB;omega
end Rm
namespace L2
open PySem PySem.W PySem.Spec PyProof.Rows Rm
section
variable {X:Cx}
theorem ints_getD:∀{us:List Value} {ns:List Int},IntsAre us ns->∀i,i<us.length->∃t,us.getD i Value.none=.int (ns.getD i 0) t
 | _,_,.nil,i,h=>by simp at h
 | _,_,.cons n t r,0,_=>⟨t,rfl⟩
 | _,_,.cons n t r,i+1,h=>by
  obtain⟨t',e⟩:=ints_getD r i (by simpa using h);exact⟨t',by simpa using e⟩
theorem uR{us:List Value}{ns:List Int}(hi:IntsAre us ns):∀(p:List Nat),(∀i∈p,i<us.length)->IntsAre (p.map λi=>us.getD i Value.none) (p.map λi=>ns.getD i 0)
 | [],_=>.nil
 | i::p,h=>by
  obtain⟨t,e⟩:=ints_getD hi i (h i ar);rw[ao,ao,e];exact .cons _ t (uR hi p λj hj=>h j (aM _ hj))
theorem sN{us:List Value}{ns:List Int}(hi:IntsAre us ns):us.length=ns.length:=by
 induction hi with
 | nil=>rfl
 | cons _ _ _ ih=>simp[ih]
theorem sM:∀{us:List Value} {ns:List Int},IntsAre us ns->∀v∈us,∃n t,v=Value.int n t
 | _,_,.nil,v,h=>nomatch h
 | _,_,.cons n t r,v,h=>by
  rcases aJ.mp h with rfl | h
  ·exact⟨n,t,rfl⟩
  ·exact sM r v h
def IF(K:PySem.W.Frag):List V->Hp->VK->Prop:=λxs H Q=>∃(p:Addr) (ns:List Int),xs=[.ref p]/\(bv K H p (ns.map V.int)\/dA K H p (ns.map V.int))/\ns.length<64 ∧
 ∀(l:Addr) (ms:List Int),H l=none->ms.Perm ns->ms.Pairwise (·<=·)->Q (.ref l) (upd H l (.lst (ms.map V.int)))
theorem pL:iY X (.builtin "sorted") (IF X.K):=by
 intro pins s σ H xs us Q I r h;obtain⟨p,ns,rfl,hq,hl,q⟩:=h;obtain⟨u,rfl,rx⟩:=vals1 r;cases rx;have fin:∀its:List Value,IntsAre its ns->∀pr:Array Nat,pr.Perm (List.toArray (List.range its.length))->sq (λi=>ns.getD i 0) pr its.length →
   EP X pins σ Q (.ref (s.heap.objs.size+1)) { s with heap:=sortedAll s.heap its (fu its pr) }:=λits hi pr hp ha=>by
  obtain⟨c,hc⟩:=sortedAll_at s.heap its (fu its pr);have hil:=sN hi;have hin:∀i∈pr.toList,i<its.length:=λi him=>by
   have h1:pr.toList.Perm (List.range its.length):=by simpa using dm.mp hp
   simpa using h1.mem_iff.mp him
  have hp':pr.Perm (List.toArray (List.range ns.length)):=by rw[<-hil];exact hp
  have hpk:=lQ 0 ns hp';have hlen:=hpk.length_eq;refine⟨.ref (s.heap.objs.size+1),upd H (s.heap.objs.size+1) (.lst ((pick 0 ns pr).map V.int)),I.laid (t':=s.toks) (λb o e=>sortedAll_old e) (dc _)
   (show cZ X.prog X.w _ _ _ (.lst _) from ⟨by rw[aA,hlen];exact bf (bO (by omega)),(fu its pr).toList,c,nW ?_,by simpa using hc⟩),rfl,q _ _ (I.hok.fresh (dc _)) hpk ?_⟩
  ·have:=uR hi pr.toList hin;simpa [fu,pick] using this
  ·exact wI (n:=its.length) (by have:=hp.size_eq;simpa using this) ha 0 ns (λx=>x) λi=>rfl
 have kind:∀(A:Around) (its:List Value),IntsAre its ns->2<=its.length->∀(h':Heap) (Q:SortKind->Shared->Prop),Q oneType' { s with heap:=h' }->wpAny (model X.prog X.w) A (keyKind' its.toArray) Q (λ_ _=>False) { s with heap:=h' }:=λA its hi h2 h' Q q'=>by
  refine kas_kind (T:=.type "int") h2 (λv hv=>?_) (by decide) (by decide) q';obtain⟨n,t,rfl⟩:=sM hi v hv;exact(show Looks _ _ (pure (Value.type "int")) (Value.type "int") from .now)
 have lt:∀(A:Around) (its:List Value),IntsAre its ns->∀i j,i<its.length->j<its.length->∀(h':Heap) (C:Bool->Shared->Prop),C (decide (ns.getD i 0<ns.getD j 0)) { s with heap:=h' } →
   wpAny (model X.prog X.w) A (keyLt' oneType' (its.getD i Value.none) (its.getD j Value.none)) C (λ_ _=>False) { s with heap:=h' }:=λA its hi i j h1 h2 h' C q'=>by
  obtain⟨t,e⟩:=ints_getD hi i h1;obtain⟨t',e'⟩:=ints_getD hi j h2;rw[e,e'];exact kat_lt_int q'
 rcases hq with hq | hq
 ·obtain⟨its,rv,pl,hz⟩:=I.list hq;have hi:=lS rv;have hil:=sN hi;exact qQ (r:=λi=>ns.getD i 0) oneType' pl.isList (by omega) (λh2 h' Q k q'=>kind _ its hi h2 h' Q q') (λi j h1 h2 h' C k q'=>lt _ its hi i j h1 h2 h' C q') (fin its hi)
 ·obtain⟨its,rv,pl,hz⟩:=I.tuple hq;have hi:=lS rv;have hil:=sN hi;exact uh (r:=λi=>ns.getD i 0) oneType' pl (by omega) (λh2 h' Q k q'=>kind _ its hi h2 h' Q q') (λi j h1 h2 h' C k q'=>lt _ its hi i j h1 h2 h' C q') (fin its hi)
end
end L2
namespace Rm
open PySem PySem.W PyProof.Rows L2
section
variable {prog:Program} {w:World} {A:Around} {E:Value->Shared->Prop} {S:Shared}
theorem xc:∀(ks vs:List Value),ks.length=vs.length->vs.length<2->(ks.toArray.zip vs.toArray).map (·.2)=fu vs (List.toArray (List.range vs.length))
 | [],[],_,_=>by simp[fu]
 | [k],[v],_,_=>by simp[fu]
 | _,_::_::_,_,h=>by simp at h;omega
 | [],[_],h,_=>by simp at h
 | _::_,[],h,_=>by simp at h
 | _::_::_,[_],h,_=>by simp at h
theorem Fg {a kS:Addr} {vs ks:List Value} {kz:List Int} {e e1:Nat} {P:PySem.Fin->Shared->Prop} (hki:IntsAre ks kz) (hl:ks.length=vs.length) (h64:vs.length<64) (ha:S.heap.get? a=some (seqObj "list" #[] e1))
  (hk:S.heap.get? kS=some (seqObj "list" ks.toArray e)) (hne:a≠kS)
  (h:∀p:Array Nat,p.Perm (List.toArray (List.range vs.length))->sq (λi=>kz.getD i 0) p vs.length->P (.done (.ret .none)) { S with heap:=(S.heap.update kS (Obj.mapSeq λ_=>#[])).update a (Obj.mapSeq λ_=>fu vs p) }) :
  wpAny (model prog w) A (ksk_end a false vs.toArray e1 (.ref kS) ks.toArray) P E S:=by
 have hz:vs.toArray.size=vs.length:=by simp
 have tail:∀(st:SortSt) (p:Array Nat),(arrOf st).map (·.2)=fu vs p->failedOf st=none->p.Perm (List.toArray (List.range vs.length))->sq (λi=>kz.getD i 0) p vs.length->wpAny (model prog w) A (ksk_tail a false e1 (.ref kS) st) P E S:=by
  intro st p e1' hf hp hs;have hps:p.size=vs.length:=by have:=hp.size_eq;simpa using this
  have ha1:(S.heap.update kS (Obj.mapSeq λ_=>(#[]:Array Value))).get? a=some (seqObj "list" #[] e1):=(fj _ _ _ _ hne).trans ha;unfold ksk_tail;refine wpAny_bind (listUpdate_at hk rfl (wpAny_bind (wpAny_letGo (wpAny_bind (seqEpoch_at ha1 rfl (wpAny_bind (listUpdate_at ha1 rfl ?_ (a6 _) ?_)))))) ?_ (a6 _))
  ·rw[hf,e1'];simp only[bne_self_eq_false,bN,if_false];exact wpAny_pure (h p hp hs)
  ·show (if false=true then _ else (arrOf st).map (·.2)).size<=sizeLine+1;rw[if_neg a7,e1',fu,aQ,aA,cS,hps,sizeLine_eq];omega
  ·rw[aQ,hl,sizeLine_eq];omega
 unfold ksk_end;dsimp only;by_cases h2:vs.toArray.size<2
 ·simp only[h2,if_true,if_false,bN];refine wpAny_bind (wpAny_pure ?_);rw[StateT.run_pure];refine wpAny_bind (wpAny_pure ?_);refine tail _ (List.toArray (List.range vs.length)) (xc ks vs hl (by omega)) rfl (Array.Perm.refl _) λi j hij hj=>?_;have e9:i=j:=by omega
  rw[e9];exact dw _
 ·simp only[h2,if_true,if_false,bN];have h2':2<=vs.length:=by omega
  refine wpAny_bind (kas_kind (T:=.type "int") (by omega) (λv hv=>?_) (by decide) (by decide) ?_)
  ·obtain⟨n,t,rfl⟩:=sM hki v hv;exact(show Looks _ _ (pure (Value.type "int")) (Value.type "int") from .now)
  have T:Told (λi=>kz.getD i 0) vs.length (kas_ask prog w A oneType' ks) S:=λi j hi hj C hC=>by
   obtain⟨t,et⟩:=ints_getD hki i (by omega);obtain⟨u,eu⟩:=ints_getD hki j (by omega);show wpAny _ _ (keyLt' oneType' (ks.getD i Value.none) (ks.getD j Value.none)) _ _ _;rw[et,eu];exact kat_lt_int hC
  refine wpAny_bind (wpAny_mono (kat_run (ks:=ks) (vs:=vs) (Q:=λst' s'=>s'=S/\∃p:Array Nat,p.size=vs.length/\arrOf st'=p.map (kas_item (ks.toArray.zip vs.toArray))/\failedOf st'=none/\p.Perm (List.toArray (List.range vs.length))/\sq (λi=>kz.getD i 0) p vs.length)
   (G:=λp s'=>s'=S/\p.Perm (List.toArray (List.range vs.length))/\sq (λi=>kz.getD i 0) p vs.length)
   hl h2' h64 (λp' st' s' a1 a2 a3 a4=>⟨a4.1,p',a1,a2,a3,a4.2⟩) (tX T (by omega) λp hp ha=>⟨rfl,hp,ha⟩)) ?_ λ_ _ e=>e)
  rintro⟨⟨⟩,st'⟩ s' ⟨rfl,p,hps,har,hf,hp,hs⟩;refine tail st' p ?_ hf hp hs;have hout:=kat_snds (ks:=ks) (vs:=vs) hl har;rw[hout];rfl
end
section
variable {X:Cx} {pins:List (Addr×Obj)} {σ:L2.St} {H:Hp} {s:Shared}
theorem Ej{k:Nat}{f:Addr}{fd:FuncData}{ps:List Str}{sp:Sp}{Q:VK}{us:List Value}{vs:List V}{E:Value->Shared->Prop}(F:qO X.prog X.w X.K X.mg X.base BV k f fd ps sp)(hr:iM (k+2) X.A)(hb:Binds X.K fd ps [])
  (I:bi X pins σ H s) (r:cO vs us) (h:sp vs H Q E0):wpAny (model X.prog X.w) X.A.in1.in1 (call (.ref f) us) (EP X pins σ Q) E s:=by
 have hl:(us++[]).length=ps.length:=by rw[cV,<-r.length];exact F.len _ _ _ _ h
 have hbb:=hb s us I.kIn hl;rw[cV] at hbb;refine wpAny_call (codeAny_mono (F.run X.A.in1.in1 X.stack s H ⟨us,[]⟩ us vs Q E0 (iM.in1 (iM.in1 hr)) I.env0.in1.in1 hbb r h) λr s' hq=>?_);cases r with
 | error e=>exact False.elim hq
 | ok fl=>
  cases fl with
  | ret u=>exact I.after hq
  | next=>exact False.elim hq
  | brk=>exact False.elim hq
  | cont=>exact False.elim hq
theorem Do{k:Nat}{f:Addr}{fd:FuncData}{ps:List Str}{sp:Sp}{xs:List V}{vs:List Value}{kz:List Int}{a kS:Addr}{e1:Nat}{P:PySem.Fin->Shared->Prop}{E:Value->Shared->Prop}
  (F:qO X.prog X.w X.K X.mg X.base BV k f fd ps sp) (hr:iM (k+2) X.A) (hb:Binds X.K fd ps []) (I:bi X pins σ H s) (hv:cO xs vs) (hkl:kz.length=xs.length) (h64:vs.length<64)
  (hsp:∀(i:Nat) x k (Q':VK),xs[i]? = some x->kz[i]? = some k->Q' (.int k) H->sp [x] H Q' E0)
  (fa:k6 X pins H a) (fk:k6 X pins H kS) (hne:a≠kS) (ha:s.heap.get? a=some (seqObj "list" #[] e1)) (hk:s.heap.get? kS=some (seqObj "list" #[] 0))
  (h:∀(p:Array Nat) (s':Shared) (ks:List Value) (e:Nat),bi X pins σ H s'->s'.heap.get? a=some (seqObj "list" #[] e1)->s'.heap.get? kS=some (seqObj "list" ks.toArray e)->p.Perm (List.toArray (List.range vs.length))->sq (λi=>kz.getD i 0) p vs.length →
   P (.done (.ret .none)) { s' with heap:=(s'.heap.update kS (Obj.mapSeq λ_=>#[])).update a (Obj.mapSeq λ_=>fu vs p) }) :
  wpAny (model X.prog X.w) X.A.in1.in1 (ksk_rest a (.ref f) false vs.toArray e1 (.ref kS)) P E s:=by
 unfold ksk_rest;refine wpAny_bind (wpAny_rule ?_);rw[<-Array.forIn_toList];simp only[List.toList_toArray];have hvl:vs.length=xs.length:=hv.length.symm;refine wpAny_bind (wpAny_forIn_list _ (λrest _ s'=>∃(done:List Value) (ks:List Value) (e:Nat),vs=done++rest/\IntsAre ks (kz.take done.length)/\ks.length=done.length/\bi X pins σ H s'/\s'.heap.get? a=some (seqObj "list" #[] e1)/\s'.heap.get? kS=some (seqObj "list" ks.toArray e)) _ ?_ ?_ vs _
  ⟨[],[],0,rfl,by simpa using IntsAre.nil,rfl,I,ha,hk⟩)
 ·rintro v rest _ s' ⟨done,ks,e,hvs,hki,hkl2,I',ha',hk'⟩;have hdl:done.length<vs.length:=by rw[hvs];simp
  have hvi:vs[done.length]? = some v:=by rw[hvs];simp
  obtain⟨x,hx,rx⟩:∃x,xs[done.length]? = some x/\RelV x v:=by
   have hxi:xs[done.length]? = some xs[done.length]:=aK (by omega);obtain⟨u,hu,ru⟩:=hv.get hxi;rw[hvi] at hu;cases hu;exact⟨_,hxi,ru⟩
  have hki':kz[done.length]? = some kz[done.length]:=aK (by omega);have fp:∀b∈[a,kS],k6 X pins H b:=λb hb=>by
   rcases aJ.mp hb with z | z
   ·rw[z];exact fa
   ·have z':b=kS:=by simpa using z
    rw[z'];exact fk
  have Ip:=I'.pinned fp λb hb=>by
   rcases aJ.mp hb with z | z
   ·rw[z];exact⟨_,ha',λv z=>by cases z⟩
   ·have z':b=kS:=by simpa using z
    rw[z'];exact⟨_,hk',λv z=>by cases z⟩
  refine wpAny_bind (wpAny_attempt (wpAny_mono (Ej (E:=λ_ _=>False) (Q:=λv' H'=>v'=.int kz[done.length]/\H'=H) F hr hb Ip (.cons rx .nil) (hsp _ x _ _ hx hki' ⟨rfl,rfl⟩)) (λu s2 hq=>?_) λ_ _ z=>z.elim));obtain⟨v',H2,I2,r2,rfl,rfl⟩:=hq;obtain⟨t,rfl⟩:=r2;have pa:=(I2.pin (a,_) (bI _ (bI _ (iL (by simp) ha')))).1;have pk:=(I2.pin (kS,_) (bI _ (bI _ (iL (by simp) hk')))).1;have sb:=cy s2.heap kS (Obj.mapSeq (·.push (Value.int kz[done.length] t)));obtain⟨c2,hc2⟩:∃c2,(s2.heap.update kS (Obj.mapSeq (·.push (Value.int kz[done.length] t)))).get? kS=some (seqObj "list" (ks++[Value.int kz[done.length] t]).toArray c2):=⟨_,by
   have:=get?_update_seq pk (·.push (Value.int kz[done.length] t));simpa using this⟩
  refine wpAny_bind (listUpdate_at pk rfl ?_ (by rw[aQ,sizeLine_eq];omega) (by rw[Array.size_push,aQ,sizeLine_eq];omega));obtain⟨k0,k1,k2,k3,k4,k5⟩:=fk;refine wpAny_pure ⟨done++[v],ks++[Value.int kz[done.length] t],c2,by rw[hvs];simp,?_,by simp[hkl2],I2.unpinned.turned (t':=s2.toks) (λb o hb e=>(sb.2 b hb).trans e) k0 k1 k3 k4 k5,(sb.2 a hne).trans pa,hc2⟩;rw[af,cP,bF,hki'];exact ksk_snoc hki
 ·rintro _ s' ⟨done,ks,e,hvs,hki,hkl2,I',ha',hk'⟩;rw[cV] at hvs;subst hvs;rw[cW (by omega)] at hki;refine wpAny_bind (listItems_at hk' rfl ?_);exact Fg hki (by omega) h64 ha' hk' hne λp hp hs=>h p s' ks e I' ha' hk' hp hs
end
end Rm
namespace L2
open PySem PySem.W PySem.Spec PyProof.Rows Rm
def xU(K:PySem.W.Frag)(sp:Sp)(te:TE):TE:=λσ H Q=>te σ H λx H1=>∃(l:Addr) (xs:List V) (kz:List Int),x=.ref l/\bv K H1 l xs/\xs.length<64/\kz.length=xs.length ∧
 (∀(i:Nat) x k (Q':VK),xs[i]? = some x->kz[i]? = some k->Q' (.int k) H1->sp [x] H1 Q' E0) ∧
 ∀(l':Addr) (zs:List (Int×V)),H1 l'=none->zs.Perm (kz.zip xs)->zs.Pairwise (λa b=>a.1<=b.1)->Q (.ref l') (upd H1 l' (.lst (zs.map (·.2))))
theorem ET{K:PySem.W.Frag}{sp:Sp}{te:TE}{σ:St}{H:Hp}{Q:VK}:xU K sp te σ H Q=te σ H λx H1=>∃(l:Addr) (xs:List V) (kz:List Int),x=.ref l/\bv K H1 l xs/\xs.length<64/\kz.length=xs.length ∧
 (∀(i:Nat) x k (Q':VK),xs[i]? = some x->kz[i]? = some k->Q' (.int k) H1->sp [x] H1 Q' E0) ∧
 ∀(l':Addr) (zs:List (Int×V)),H1 l'=none->zs.Perm (kz.zip xs)->zs.Pairwise (λa b=>a.1<=b.1)->Q (.ref l') (upd H1 l' (.lst (zs.map (·.2)))):=rfl
theorem tQ:∀{xs:List V} {us:List Value},cO xs us->∀(p:List Nat),(∀i∈p,i<xs.length)->cO (p.map λi=>xs.getD i .non) (p.map λi=>us.getD i Value.none)
 | xs,us,h,[],_=>.nil
 | xs,us,h,i::p,hp=>by
  have hi:=hp i ar;have hx:xs[i]? = some xs[i]:=aK hi;obtain⟨u,hu,ru⟩:=h.get hx;refine .cons ?_ (tQ h p λj hj=>hp j (aM _ hj));simp only[List.getD,hx,hu,fz];exact ru
theorem bi.adopt{X:Cx}{pins:List (Addr×Obj)}{σ:St}{H:Hp}{s:Shared}{a:Addr}{o:HO}(I:bi X pins σ H s)(fa:k6 X pins H a)(new:cZ X.prog X.w (upd H a o) s.heap a o):bi X pins σ (upd H a o) s:=by
 obtain⟨f0,f1,f2,f3,f4,f5⟩:=fa;have ne:∀b u,H b=some u->b≠a:=λb u e z=>by rw[z,f0] at e;cases e
 refine I.step (g':=s.gens) (d':=s.drawn) (t':=s.toks) (h':=s.heap) (ch:=[a]) (λb hb=>?_) (λb u _ _ _ e _=>e) (λb u _ _ _ e _=>⟨u.slots,e⟩) (λb u hc e n=>by rw[aP (λz=>hc (by simp[z]))];exact n) (λb u _ e=>⟨u,e⟩)
  (λb xs e=>by rw[aP (ne _ _ e)];exact e) (λb u xs e=>by rw[aP (ne _ _ e)];exact e) (λb ps e=>⟨#[],by rw[aP (ne _ _ e),e];simp⟩) (λm hm=>hm) (λb u e=>?_) I.bare
 ·have e:b=a:=by simpa using hb
  subst e;exact⟨f3,f1,f4,f5⟩
 ·by_cases hb:b=a
  ·subst hb;rw[aD] at e;cases e;exact new
  ·rw[aP hb] at e;exact(I.hok b u e).stay (λc v _ q=>q) (λc q=>by rw[aP (ne _ _ q)];exact q) λc xs q=>by rw[aP (ne _ _ q)];exact q
section
variable {X:Cx} {k:Nat} {x f:Str} {st:Stmt} {ps:List Str} {sp:Sp} {e:Expr} {te:TE} {p p2 kp pos:Pos}
theorem DF (D:eO X.prog X.w X.K X.mg X.base k f st ps sp) (hr:iM (k+2) X.A) (hg:Gl X "sorted") (hm:X.mg "sorted"=none) (hgf:Gl X f) (he:PE X e te) (hdf:(f==("__debug__":Str))=false:=by decide)
  (hs:starEach [e] X.env=[(false,eval e X.env)]:=by rfl):PE X (.Call (.Name "sorted" p) [e] [⟨some "key",.Name f p2,kp⟩] pos) (xU X.K sp te):=by
 obtain⟨fa,fd,F,m,b,G⟩:=D.ex;intro pins s σ H Q I h;refine wpAny_Call_Name_kw (jT I hg hm eM ?_)
 let B:V->Hp->Prop:=λx H1=>∃(l:Addr) (xs:List V) (kz:List Int),x=.ref l/\bv X.K H1 l xs/\xs.length<64/\kz.length=xs.length ∧
  (∀(i:Nat) x k (Q':VK),xs[i]? = some x->kz[i]? = some k->Q' (.int k) H1->sp [x] H1 Q' E0) ∧
  ∀(l':Addr) (zs:List (Int×V)),H1 l'=none->zs.Perm (kz.zip xs)->zs.Pairwise (λa b=>a.1<=b.1)->Q (.ref l') (upd H1 l' (.lst (zs.map (·.2))))
 refine callWith_kw (eR (gp he xr hs pos pins s σ H (λvs H1=>match vs with | [x]=>B x H1 | _=>False) I h) λus s1 ⟨vs,H1,I1,r1,q1⟩=>?_) (by rw[hs];rfl) (by rw[hs];rfl);refine kws_cons (vD I1 hgf m (kws_nil ?_) hdf)
 match vs,r1,q1 with
 | [x],r1,q1=>
  obtain⟨l,xs,kz,rfl,hq,h64,hkl,hsp,q⟩:=q1;obtain⟨u,rfl,rx⟩:=vals1 r1;cases rx;obtain⟨its,rv,pl,hz⟩:=I1.list hq;have hil:its.length=xs.length:=rv.length.symm;show wpAny _ X.A (call (.builtin "sorted") [.ref l] [(Str.ofString "key",.ref fa)]) _ _ s1;refine call_function_entry_kw kind_sorted plain_sorted entry_sorted (ksk_s1 _ _) ?_;unfold Builtin.«sorted»;refine wpAny_bind (m:=checkCount "sorted" 1 1 _) (wpAny_pure (wpAny_bind (collect_list pl.isList (wpAny_bind (wpAny_newList ?_ (by rw[sizeLine_eq];omega))) (by rw[sizeLine_eq];omega))));have hsz:((s1.heap.push (seqObj "list" #[] 0)).update s1.heap.objs.size (Obj.mapSeq (·++its.toArray))).objs.size=s1.heap.objs.size+1:=by rw[gu,size_push']
  generalize hh2:(s1.heap.push (seqObj "list" #[] 0)).update s1.heap.objs.size (Obj.mapSeq (·++its.toArray))=h2 at hsz;have keep:∀b o,s1.heap.get? b=some o->h2.get? b=some o:=λb o e=>by
   rw[<-hh2];exact(fj _ _ _ _ (av (aN e))).trans (aB _ e)
  have hle:s1.heap.objs.size<=h2.objs.size:=by rw[hsz];exact dc _
  have ho:(h2.push (seqObj "list" its.toArray 0)).get? h2.objs.size=some (seqObj "list" its.toArray 0):=aO _ rfl;refine wpAny_bind (wpAny_holding (wpAny_call_entry_kw slot_list_sort ⟨_,ho,rfl⟩ entry_list_sort ?body (ksk_l1 _ _)))
  case body=>
   show wpAny _ X.A.in1.in1 (Builtin.«list.sort» ⟨[.ref h2.objs.size],[(Str.ofString "key",.ref fa)]⟩) _ _ { s1 with heap:=h2.push (seqObj "list" its.toArray 0) };rw[ksk_t1];unfold ksk_tree;obtain⟨c1,hc1⟩:∃c1,((h2.push (seqObj "list" its.toArray 0)).update h2.objs.size (Obj.mapSeq λ_=>#[])).get? h2.objs.size=some (seqObj "list" #[] c1):=⟨_,get?_update_seq ho λ_=>#[]⟩
   refine wpAny_bind (listItems_at ho rfl (wpAny_bind (listUpdate_at ho rfl ?_ (by rw[aQ,sizeLine_eq];omega) (a6 _))));refine wpAny_bind (seqEpoch_at hc1 rfl (wpAny_bind (wpAny_newTuple (wpAny_bind (wpAny_newList (wpAny_holding ?_) (a6 _))) (by show its.length<=_;rw[sizeLine_eq];omega))));have hs3:((h2.push (seqObj "list" its.toArray 0)).update h2.objs.size (Obj.mapSeq λ_=>#[])).objs.size=h2.objs.size+1:=by rw[gu,size_push']
   generalize hh3:(h2.push (seqObj "list" its.toArray 0)).update h2.objs.size (Obj.mapSeq λ_=>#[])=h3 at hc1 hs3;have keep3:∀b o,s1.heap.get? b=some o->h3.get? b=some o:=λb o e=>by
    rw[<-hh3];exact(fj _ _ _ _ (av (aq (aN e) hle))).trans (aB _ (keep b o e))
   have hkS:(h3.push (seqObj "tuple" its.toArray 0)).objs.size=h3.objs.size+1:=size_push' ..;have hleK:s1.heap.objs.size<=(h3.push (seqObj "tuple" its.toArray 0)).objs.size:=by rw[hkS,hs3];omega
   have hneK:h2.objs.size≠(h3.push (seqObj "tuple" its.toArray 0)).objs.size:=by rw[hkS,hs3];omega
   have I2:bi X pins σ H1 { s1 with heap:=(h3.push (seqObj "tuple" its.toArray 0)).push (seqObj "list" #[] 0) }:=I1.kept (t':=s1.toks) λb o e=>aB _ (aB _ (keep3 b o e));have fA:k6 X pins H1 h2.objs.size:=I1.fpOk hle (I1.hok.fresh hle);have fK:k6 X pins H1 (h3.push (seqObj "tuple" its.toArray 0)).objs.size:=I1.fpOk hleK (I1.hok.fresh hleK);refine Do (s:={ s1 with heap:=(h3.push (seqObj "tuple" its.toArray 0)).push (seqObj "list" #[] 0) }) (kz:=kz) G hr b I2 rv hkl (by omega) hsp fA fK hneK (aB _ (aB _ hc1)) (aO _ rfl) λp s' ks e I3 ha hk hp hasc=>⟨_,rfl,wpAny_pure ⟨_,rfl,?_⟩⟩
   generalize (h3.push (seqObj "tuple" its.toArray 0)).objs.size=kS at fK hneK hk ⊢;generalize h2.objs.size=D' at fA hneK ha ⊢;have hin:∀i∈p.toList,i<its.length:=λi him=>by
    have h1:p.toList.Perm (List.range its.length):=by simpa using dm.mp hp
    simpa using h1.mem_iff.mp him
   have sbK:=cy s'.heap kS (Obj.mapSeq λ_=>(#[]:Array Value));have sbA:=cy (s'.heap.update kS (Obj.mapSeq λ_=>(#[]:Array Value))) D' (Obj.mapSeq λ_=>fu its p);obtain⟨k0,k1,k2,k3,k4,k5⟩:=fK;obtain⟨a0,a1,a2,a3,a4,a5⟩:=id fA;have I4:=I3.turned (t':=s'.toks) (h':=s'.heap.update kS (Obj.mapSeq λ_=>#[])) (λb o hb e=>(sbK.2 b hb).trans e) k0 k1 k3 k4 k5;have I5:=I4.turned (t':=s'.toks) (h':=(s'.heap.update kS (Obj.mapSeq λ_=>#[])).update D' (Obj.mapSeq λ_=>fu its p)) (λb o hb e=>(sbA.2 b hb).trans e) a0 a1 a3 a4 a5;have ha1:(s'.heap.update kS (Obj.mapSeq λ_=>(#[]:Array Value))).get? D'=some (seqObj "list" #[] c1):=(sbK.2 D' hneK).trans ha;obtain⟨c5,hc5⟩:∃c5,((s'.heap.update kS (Obj.mapSeq λ_=>(#[]:Array Value))).update D' (Obj.mapSeq λ_=>fu its p)).get? D'=some (seqObj "list" (fu its p) c5):=⟨_,get?_update_seq ha1 λ_=>fu its p⟩
   have hpl:p.toList.length=its.length:=by
    have h1:p.toList.Perm (List.range its.length):=by simpa using dm.mp hp
    have:=h1.length_eq;simpa using this
   refine⟨.ref D',upd H1 D' (.lst ((p.toList.map λi=>(kz.getD i 0,xs.getD i V.non)).map (·.2))),I5.adopt fA ?_,rfl,q D' _ a0 ?_ ?_⟩
   ·rw[bc];exact⟨by rw[aA,hpl,sizeLine_eq];omega,p.toList.map λi=>its.getD i Value.none,c5,tQ rv p.toList λi hi=>by rw[<-hil];exact hin i hi,hc5⟩
   ·have e0:p.toList.map (λi=>(kz.getD i 0,xs.getD i V.non))=pick (0,V.non) (kz.zip xs) p:=by
     unfold pick;refine cA λi hi=>?_;have h1:i<xs.length:=by rw[<-hil];exact hin i hi
     have h2:i<kz.length:=by omega
     have hz:(kz.zip xs)[i]? = some (kz[i],xs[i]):=by rw[aK (by rw[List.length_zip];omega),List.getElem_zip]
     simp only[List.getD,hz,aK h1,aK h2,fz]
    rw[e0];refine lQ (0,V.non) (kz.zip xs) ?_;rw[List.length_zip,hkl,Nat.min_self,<-hil];exact hp
   ·rw[c9];have hps:p.size=its.length:=by rw[<-hpl];simp
    rw[fS];intro i j hi hj hij;have:=hasc i j (bf hij) (by rw[<-hpl];exact hj);unfold Kk at this;have hi':i<p.size:=by simpa using hi
    have hj':j<p.size:=by simpa using hj
    simp only[cE,bw hi',bw hj',fz] at this;simpa using this
end
end L2
namespace L2
open PySem PySem.Spec PyProof.Rows
section
variable {prog:Program} {w:World} {A:Around} {E:Value->Shared->Prop} {s:Shared}
theorem we{d:Addr}{o:Obj}{es:Array DictEntry}{ep:Nat}{Q:Value->Shared->Prop}(hd:(d==sysModules)=false)(ho:s.heap.get? d=some o)(hx:o.ExactDict)(hdat:o.data=.dict es ep)
  (hQ:Q (.ref s.heap.objs.size) { s with heap:=s.heap.push { cls:=.type "dict_keyiterator",data:=.fields #[.ref d,.int 0 0,.int es.size 0,.int ep 0] } }):wpAny (model prog w) A (pyIter (.ref d)) Q E s:=by
 have hT:s.TypeIs (.ref d) "dict":=⟨o,ho,hx.1⟩
 refine wpAny_pyIter_slot hT F.slot_dict_iter (wpAny_call_entry F.slot_dict_iter hT F.entry_dict_iter ?_ (F.args_dict_iter_1 _));unfold Builtin.«dict.__iter__» Builtin.Dict.dictSlotNone;refine wpAny_bind (wpAny_bind (wpAny_notOrdered_dict hT (wpAny_pure (a:=Value.ref d) ?_)));unfold Builtin.Dict.showsAll;refine wpAny_bind (m:=Builtin.Dict.addrOf (Value.ref d)) (wpAny_pure (a:=d) ?_);rw[if_neg (show ¬(d==sysModules)=true by rw[hd];exact a7)];refine wpAny_bind (wpAny_pure (wpAny_bind (wpAny_dictEntries ho hdat (wpAny_bind (wpAny_dictEpoch ho hdat (wpAny_bind (wpAny_newObj_type (wpAny_pure ⟨_,rfl,"dict_keyiterator",_,⟨_,aO _ rfl,rfl⟩,dZ.lookup,?_⟩))))))));simpa [rawInt] using hQ
theorem wZ{it d:Addr}{i ep:Nat}{o:Obj}{es:Array DictEntry}{Q:Option Value->Shared->Prop}(hit:s.heap.IsKeyIter it d i es.size ep)(ho:s.heap.get? d=some o)(hdat:o.data=.dict es ep)(hi:i<es.size)
  (hQ:∀h',h'.IsKeyIter it d (i+1) es.size ep->Heap.SameBut it s.heap h'->Q (some es[i].key) { s with heap:=h' }):wpAny (model prog w) A (pyNext (.ref it)) Q E s:=by
 obtain⟨oi,hoi,hc,hd⟩:=id hit;unfold pyNext;refine wpAny_bind (wpAny_attempt (wpAny_callSpecial?_slot (name:=Str.ofString "__next__") hit.typeIs dZ (wpAny_call_entry dZ hit.typeIs jh (wpAny_bind (wpAny_pure (wpAny_bind (wpAny_bind ?_)))) (jZ _))))
 first | refine wpAny_bind (wpAny_typeNameOfWhole_keyiter hit.typeIs (wpAny_pure (wpAny_bind (wpAny_fieldsOf hoi hd ?_)))) | refine wpAny_bind (wpAny_typeNameOf_keyiter hit.typeIs (wpAny_pure (wpAny_bind (wpAny_fieldsOf hoi hd ?_))))
 rw[if_neg (show ¬(Builtin.Dict_items.ownsTuple "dict_keyiterator")=true by decide)];show wpAny _ _ (if (Value.ref d==Value.none)=true then _ else _) _ _ s;rw[if_neg (show ¬(Value.ref d==Value.none)=true from a7)];refine wpAny_bind (wpAny_pure (wpAny_bind (wpAny_dictEntries ho hdat ?_)));rw[if_neg (by simp)];refine wpAny_bind (wpAny_pure (wpAny_bind (wpAny_dictEpoch ho hdat ?_)));rw[if_neg (by simp)];refine wpAny_pure ?_;simp only[show ¬((i:Int)<0) from by omega,if_false,cM,bw hi];refine wpAny_bind ?_
 first | refine wpAny_bind (wpAny_typeNameOfWhole_keyiter hit.typeIs (wpAny_pure (wpAny_bind (wpAny_isOneOf_keyiter hit.typeIs ?_)))) | refine wpAny_bind (wpAny_typeNameOf_keyiter hit.typeIs (wpAny_pure (wpAny_bind (wpAny_isOneOf_keyiter hit.typeIs ?_))))
 show wpAny _ _ (setField (.ref it) 1 (rawInt ((i:Int)+1))>>=_) _ _ s;have hit':(s.heap.update it (Obj.mapFields (·.setIfInBounds 1 (rawInt ((i:Int)+1))))).IsKeyIter it d (i+1) es.size ep:=⟨_,dX _ hoi (jG (fM hd _)),(kj ..).trans hc,by rw[fM hd];simp[rawInt]⟩
 refine wpAny_bind (wpAny_setField hoi hd (by simp) (wpAny_bind (wpAny_holding (wpAny_bind (wpAny_isOneOf_keyiter (s:={ s with heap:=s.heap.update it (Obj.mapFields (·.setIfInBounds 1 (rawInt ((i:Int)+1)))) }) hit'.typeIs ?_)))));exact wpAny_pure (a:=es[i].key) (wpAny_pure ⟨_,rfl,wpAny_pure (hQ _ hit' (cy ..))⟩)
theorem AJ{it d:Addr}{ep:Nat}{o:Obj}{es:Array DictEntry}{Q:Option Value->Shared->Prop}(hh:A.handled=none)(hit:s.heap.IsKeyIter it d es.size es.size ep)(ho:s.heap.get? d=some o)(hdat:o.data=.dict es ep)
  (hQ:∀h',Heap.ExtBut it s.heap h'->Q none { s with heap:=h' }):wpAny (model prog w) A (pyNext (.ref it)) Q E s:=by
 obtain⟨oi,hoi,hc,hd⟩:=id hit;unfold pyNext;refine wpAny_bind (wpAny_attempt (wpAny_callSpecial?_slot (name:=Str.ofString "__next__") hit.typeIs dZ (wpAny_call_entry dZ hit.typeIs jh (wpAny_bind (wpAny_pure (wpAny_bind (wpAny_bind ?_)))) (jZ _))))
 first | refine wpAny_bind (wpAny_typeNameOfWhole_keyiter hit.typeIs (wpAny_pure (wpAny_bind (wpAny_fieldsOf hoi hd ?_)))) | refine wpAny_bind (wpAny_typeNameOf_keyiter hit.typeIs (wpAny_pure (wpAny_bind (wpAny_fieldsOf hoi hd ?_))))
 rw[if_neg (show ¬(Builtin.Dict_items.ownsTuple "dict_keyiterator")=true by decide)];show wpAny _ _ (if (Value.ref d==Value.none)=true then _ else _) _ _ s;rw[if_neg (show ¬(Value.ref d==Value.none)=true from a7)];refine wpAny_bind (wpAny_pure (wpAny_bind (wpAny_dictEntries ho hdat ?_)));rw[if_neg (by simp)];refine wpAny_bind (wpAny_pure (wpAny_bind (wpAny_dictEpoch ho hdat ?_)));rw[if_neg (by simp)];refine wpAny_pure ?_;simp only[show ¬((es.size:Int)<0) from by omega,if_false,cM,gJ (aH es.size)];refine wpAny_bind ?_
 first | refine wpAny_bind (wpAny_typeNameOfWhole_keyiter hit.typeIs (wpAny_pure ?_)) | refine wpAny_bind (wpAny_typeNameOf_keyiter hit.typeIs (wpAny_pure ?_))
 refine wpAny_bind (m:=setField (.ref it) 0 .none) (wpAny_setField hoi hd (by simp) (wpAny_bind (m:=newExc (.type "StopIteration") []) ?_));simp only[newExc,newTuple];refine wpAny_bind (wpAny_newObj_type (wpAny_bind (m:=firstArgMember _ _) (wpAny_of_eq (a:=Value.none) (by first | rfl | (simp only[firstArgMember];rfl)) (wpAny_newObj_type ?_ (by size_fits)))) (by size_fits));simp only[raiseNew];refine wpAny_bind (wpAny_handled ?_);rw[show A.in1.handled=none from hh];refine wpAny_bind (wpAny_pure (wpAny_throw ?_));refine wpAny_bind (wpAny_isInstance (T:="StopIteration") (b:=true) ⟨_,aO _ rfl,rfl⟩ isSubtype_stop ?_);exact wpAny_pure (hQ _ (((cy ..).extBut.push _).push _))
end
def LS(a:Addr)(o:Obj)(kvs:List (List Key×V)):It:=
 ⟨λi H=>i<kvs.length/\H a=some (.frz o (.dT kvs)),λi H x H'=>H'=H/\∃k v b,kvs[i]? = some (k,v)/\x=.ref b/\H b=some (.tup (k.map kV)),λi H=>i=kvs.length/\H a=some (.frz o (.dT kvs))⟩
theorem AV {P : Program} {w : World} {K : PySem.W.Frag} {tg : Expr} (a it : Addr) (o : Obj) (es : Array DictEntry) (ep : Nat) (kvs : List (List Key × V)) (hdat : o.data = .dict es ep) (hes : es.size = kvs.length) :
    Turn P w K tg (LS a o kvs) [it] it (fun i h => h.IsKeyIter it a i es.size ep) where
  mem := by simp
  obj := fun i h st b hb => by
    have e : b = it := by simpa using hb
    subst e
    obtain ⟨oi, e, c, d⟩ := st
    exact ⟨oi, e, fun v z => by rw [d] at z; cases z⟩
  keep := fun i h h' st k => by
    obtain ⟨oi, e, r⟩ := st
    exact ⟨oi, k it (by simp) _ e, r⟩
  item := by
    intro X hP hw hK hc i pins s σ H E I hf st hg
    subst hP hw hK
    obtain ⟨hi, hH⟩ := hg
    obtain ⟨ho, z, y, xs, r, o', es', ep', e1, ex, ed, el, nd⟩ := (show cZ X.prog X.w H s.heap a (.frz o (.dT kvs)) from I.hok a _ hH)
    rw [ho] at e1
    cases e1
    rw [hdat] at ed
    cases ed
    obtain ⟨f0, f1, f2, f3, f4, f5⟩ := hf it (by simp)
    have hi' : i < es.size := by omega
    refine wZ st ho hdat hi' fun h' st' sb => ?_
    have hki : kvs[i]? = some kvs[i] := aK hi
    obtain ⟨q, hq, q1, q2, q3⟩ := gX r hki
    have ek : es[i].key = .ref q.2.1 := by
      have e3 : es.toList[i]? = some (entryOfKey (tupleKind (eg X.prog X.w)) q) := by rw [el, aS, hq]; rfl
      have e4 : es.toList[i]? = some es[i] := by simp [hi']
      rw [e4] at e3
      rw [bD e3]
      rfl
    have I1 : bi X pins σ H { s with heap := h' } := I.turned (t' := s.toks) (fun b ob hb e => (sb.2 b hb).trans e) f0 f1 f3 f4 f5
    obtain ⟨oi, e, c, d⟩ := id st'
    rw [ek]
    exact ⟨_, rfl, wg (s := { s with heap := h' }) e c d (by decide) ⟨.ref q.2.1, H, I1, rfl, ⟨rfl, kvs[i].1, kvs[i].2, q.2.1, hki, rfl, q2⟩, st', fun b hb => (hf b hb).1⟩⟩
  done := by
    intro X hP hw hK hc i pins s σ H E I hf st hg
    subst hP hw hK
    obtain ⟨rfl, hH⟩ := hg
    obtain ⟨ho, _⟩ := (show cZ X.prog X.w H s.heap a (.frz o (.dT kvs)) from I.hok a _ hH)
    obtain ⟨f0, f1, f2, f3, f4, f5⟩ := hf it (by simp)
    rw [← hes] at st
    exact AJ (I.ok.hd hc) st ho hdat fun h' eb => ⟨rfl, I.turned (t' := s.toks) (fun b o hb e => eb b o hb e) f0 f1 f3 f4 f5⟩
  self := fun _ _ _ _ _ st h => wpAny_pyIter_keyiter st h
section
variable {X:Cx} {pins:List (Addr×Obj)} {σ:St} {H:Hp} {s:Shared} {a:Addr} {o:Obj} {kvs:List (List Key×V)}
theorem bi.freeze(I:bi X pins σ H s)(hH:H a=some (.dT kvs))(ho:s.heap.get? a=some o):bi X pins σ (upd H a (.frz o (.dT kvs))) s:=by
 have ne:∀b u,H b=some u->u≠.dT kvs->b≠a:=λb u e n z=>by rw[z,hH] at e;cases e;exact n rfl
 have nn:∀b,H b=none->b≠a:=λb e z=>by rw[z,hH] at e;cases e
 refine I.step (g':=s.gens) (d':=s.drawn) (t':=s.toks) (h':=s.heap) (ch:=[]) (λb hb=>nomatch hb) (λb u _ _ _ e _=>e) (λb u _ _ _ e _=>⟨u.slots,e⟩) (λb u _ e n=>by rw[aP (nn b n)];exact n) (λb u _ e=>⟨u,e⟩)
  (λb xs e=>by rw[aP (ne _ _ e (by intro z;cases z))];exact e) (λb u xs e=>by rw[aP (ne _ _ e (by intro z;cases z))];exact e) (λb ps e=>⟨#[],by rw[aP (ne _ _ e (by intro z;cases z)),e];simp⟩) (λm hm=>hm) (λb u e=>?_) I.bare
 have stay:∀{b u},cZ X.prog X.w H s.heap b u->cZ X.prog X.w (upd H a (.frz o (.dT kvs))) s.heap b u:=fun {b u} x=>x.stay (λc v _ q=>q) (λc q=>by rw[aP (ne _ _ q (by intro z;cases z))];exact q) λc xs q=>by rw[aP (ne _ _ q (by intro z;cases z))];exact q
 by_cases hb:b=a
 ·subst hb;rw[aD] at e;cases e;exact⟨ho,stay (I.hok b _ hH)⟩
 ·rw[aP hb] at e;exact stay (I.hok b u e)
theorem bi.notFrozen(I:bi X pins σ H s)(hH:H a=some (.dT kvs)):∀o u,X.H₀ a≠some (.frz o u):=λo u e=>by
 have:=I.base.frzs a o u e;rw[hH] at this;cases this
theorem bi.thaw(I:bi X pins σ H s)(nf:∀o u,X.H₀ a≠some (.frz o u))(hH:H a=some (.frz o (.dT kvs))):bi X pins σ (upd H a (.dT kvs)) s:=by
 have ne:∀b u,H b=some u->u≠.frz o (.dT kvs)->b≠a:=λb u e n z=>by rw[z,hH] at e;cases e;exact n rfl
 have nn:∀b,H b=none->b≠a:=λb e z=>by rw[z,hH] at e;cases e
 have stay:∀{b u},cZ X.prog X.w H s.heap b u->cZ X.prog X.w (upd H a (.dT kvs)) s.heap b u:=fun {b u} x=>x.stay (λc v _ q=>q) (λc q=>by rw[aP (ne _ _ q (by intro z;cases z))];exact q) λc xs q=>by rw[aP (ne _ _ q (by intro z;cases z))];exact q
 refine⟨I.ok,I.os,I.bare,⟨I.base.keep,I.base.slot,λb u e n hx=>by rw[aP (nn b (I.base.free b u e n hx))];exact I.base.free b u e n hx,I.base.there,λb xs e=>?_,λb u v e=>?_,λb ps e=>?_⟩,I.loc,I.cell,by rw[aP (nn _ I.free)];exact I.free,λx c e=>by rw[aP (nn _ (I.freeC x c e))];exact I.freeC x c e,λp hp=>?_,λb u e=>?_,I.len⟩
 ·have:=I.base.tups b xs e;rw[aP (ne _ _ this (by intro z;cases z))];exact this
 ·have:=I.base.frzs b u v e;rw[aP (λz:b=a=>nf u v (by rw[<-z];exact e))];exact this
 ·obtain⟨more,q⟩:=I.base.tbls b ps e;exact⟨more,by rw[aP (ne _ _ q (by intro z;cases z))];exact q⟩
 ·obtain⟨p1,p2,p3⟩:=I.pin p hp;exact⟨p1,by rw[aP (nn _ p2)];exact p2,p3⟩
 ·by_cases hb:b=a
  ·subst hb;rw[aD] at e;cases e;exact stay (I.hok b _ hH).2
  ·rw[aP hb] at e;exact stay (I.hok b u e)
def xZ(k:Nat)(caps:List Nat)(tl:TE)(g:TG)(tf:TT)(te:TE):TE:=λσ H Q=>tl σ H λx H1=>∃(a:Addr) (kvs:List (List Key×V)),x=.ref a/\H1 a=some (.dT kvs) ∧
 ∀o,jz (LS a o kvs) g tf te (λv H'=>H' a=some (.frz o (.dT kvs))/\Q v (upd H' a (.dT kvs))) (jD k caps σ) (upd H1 a (.frz o (.dT kvs)))
theorem E3{k:Nat}{caps:List Nat}{tl:TE}{g:TG}{tf:TT}{te:TE}{Q:VK}:xZ k caps tl g tf te σ H Q=tl σ H λx H1=>∃(a:Addr) (kvs:List (List Key×V)),x=.ref a/\H1 a=some (.dT kvs) ∧
 ∀o,jz (LS a o kvs) g tf te (λv H'=>H' a=some (.frz o (.dT kvs))/\Q v (upd H' a (.dT kvs))) (jD k caps σ) (upd H1 a (.frz o (.dT kvs))):=rfl
theorem Fw{tg:Expr}{R:Value->Shared->Prop}{E:Value->Shared->Prop}(I:bi X pins σ H s)(hH:H a=some (.dT kvs))
  (h:∀o it tn s2,s.heap.get? a=some o->bi X pins σ (upd H a (.frz o (.dT kvs))) s2->Turn X.prog X.w X.K tg (LS a o kvs) [it] it tn->tn 0 s2.heap->(∀b∈[it],k6 X pins (upd H a (.frz o (.dT kvs))) b)->R (.ref it) s2) :
  wpAny (model X.prog X.w) X.A (pyIter (.ref a)) R E s:=by
 obtain⟨z,y,xs,r,o,es,ep,ho,ex,ed,el,nd⟩:=(show cZ X.prog X.w H s.heap a (.dT kvs) from I.hok a _ hH)
 have hes:es.size=kvs.length:=by
  have h1:es.toList.length=xs.length:=by rw[el,aA]
  have h2:kvs.length=xs.length:=bB r;rw[<-cS];omega
 refine we y ho ex ed ?_;have I1:=I.freeze hH ho;refine h o s.heap.objs.size (λi h=>h.IsKeyIter s.heap.objs.size a i es.size ep) _ ho (I1.kept (t':=s.toks) λb o e=>aB _ e) (AV a _ o es ep kvs ed hes) ⟨_,aO _ rfl,rfl,rfl⟩ λb hb=>?_;have e:b=s.heap.objs.size:=by simpa using hb
 subst e;exact I1.fpOk (aH _) (I1.hok.fresh (aH _))
theorem Cw{i:Nat}{x:Str}{own ns:List Str}{caps:List Nat}{elt tg iter:Expr}{ifs:List Expr}{scope:Scope}{pos pos' spos:Pos}{tl:TE}{g:TG}{tf:TT}{te:TE}(hN:X.N.Nodup)(hi:X.N[i]? = some x)(hx:Loc X.env.scope x)(hc:X.calm=true)(S:mU scope ns)(cp:mT X scope ns caps)(hit:PE X iter tl)
  (hg:∀C s H fp pn,PG (qh X (own++ns) scope C s H fp pn) tg g) (ht:∀C s H fp pn,PF (qh X (own++ns) scope C s H fp pn) ifs tf) (he:∀C s H fp pn,PE (qh X (own++ns) scope C s H fp pn) elt te)
  (hs:∀x,foldedSetIterable iter X.env x=pure x:=by intro _;rfl) (hsw:swapsWith (.ListComp elt [⟨tg,iter,ifs,0⟩] scope pos) (some (.Name x pos')) spos.line X.env=pure true:=by rfl)
  (hf:X.fn x=true\/X.env.scope.names.lookup x=some .local:=by first | exact .inl rfl | exact .inr rfl | assumption) :
  PS X (.Assign [.Name x pos'] (.ListComp elt [⟨tg,iter,ifs,0⟩] scope pos) spos) (uf (xZ own.length caps tl g tf te) (mY i)):=by
 intro pins s σ H D I h;rw[exec_Assign_Name_used _ _ _ _ hsw];refine wpAny_bind (wpAny_standAt (wpAny_bind ?_));show wpAny _ X.A (do let _ <-comprehension (.ListComp elt [⟨tg,iter,ifs,0⟩] scope pos) scope X.env _ (newList []) false (eval iter X.env) (some (assign (.Name x pos') X.env))) _ _ s;refine wpAny_bind (wpAny_mono (wpAny_comprehension_free (use:=some (assign (.Name x pos') X.env)) (Q:=λ_ s'=>SP X pins D .next s') rfl hs (cp.cl I S) S.kind S.names
  (eR (hit pins s σ H _ I h) λv s1 ⟨y,H1,I1,r1,q1⟩=>?_)) (λ_ s' hq=>wpAny_pure (wpAny_pure hq)) λ_ _ e=>e)
 obtain⟨a,kvs,e,hH,hJ⟩:=q1;subst e;cases r1;refine Fw (tg:=tg) I1 hH λo it tn s2 ho I2 T st2 f2=>?_;refine sV hc S cp hg ht he I2 T st2 f2 (hJ o) (RR:=λacc C=>compPost (model X.prog X.w) X.A X.xe (some (assign (.Name x pos') X.env)) (λ_ s'=>SP X pins D .next s') acc C) λL C m s' H' ys hDC hn fC I' q=>?_;obtain⟨q1,q2⟩:=q;show wpAny _ X.A (assign (.Name x pos') X.env (.ref L)) _ _ _;refine wpAny_assign_Name (pT I' hN hi hx (v:=.ref L) (u:=.ref L) rfl (λs'' I'' ⟨b,sb,hb⟩=>?_) hf);obtain⟨f0,f1,f2,f3,f4,f5⟩:=fC;have hCb:C≠b:=by
  rcases hb with z | z
  ·rw[z];exact f1
  ·exact λy=>f4 _ _ z y.symm
 exact⟨m,hn.sameBut sb hCb,λh' hs'=>⟨_,_,(I''.turned (t':=s''.toks) (λb o hb e=>(hs'.2 b hb).trans e) f0 f1 f3 f4 f5).thaw (I1.notFrozen hH) q1,q2⟩⟩
theorem uS{g:TG}{tf:TT}{te:TE}{Q:VK}(hsz:kvs.length<=sizeLine)(Pv:Nat->List V->St->Hp->Prop)(h0:Pv 0 [] σ H)(hl:∀i ys σ H,Pv i ys σ H->H a=some (.frz o (.dT kvs))/\ys.length<=i)
  (hs:∀i k v b ys σ H (N:List V->St->Hp->Prop),kvs[i]? = some (k,v)->H b=some (.tup (k.map kV))->Pv i ys σ H->(∀ys σ H,Pv (i+1) ys σ H->N ys σ H)->g (.ref b) σ H λσ2 H2=>tf σ2 H2 λb H3=>if b=true then te σ2 H3 λy H4=>N (ys++[y]) σ2 H4 else N ys σ2 H3)
  (hd:∀ys σ H p,Pv kvs.length ys σ H->H p=none->Q (.ref p) (upd H p (.lst ys))):jz (LS a o kvs) g tf te Q σ H:=by
 refine rB kvs.length hsz Pv h0 (λi ys σ H p=>(hl i ys σ H p).2) (λi ys σ H hi p=>⟨hi,(hl i ys σ H p).1⟩) (λys σ H p=>⟨rfl,(hl _ ys σ H p).1⟩) ?_ hd;rintro i ys σ H x H' N hi p ⟨rfl,k,v,b,h1,rfl,h2⟩ hN;exact hs i k v b ys σ H' N h1 h2 p hN
theorem Bm{td ty:TE}{Q:VK}:CJ td ty σ H Q=td σ H λx H1=>ty σ H1 λy H2=>∃a v,x=.ref a/\iN H2 a y (some v)/\Q v H2:=rfl
theorem Bl{td ty tv:TE}{D:Ends}:C7 td ty tv D σ H=tv σ H λv H1=>td σ H1 λx H2=>ty σ H2 λy H3=>∃a H4,x=.ref a/\lh H3 a y v H4/\D.nx σ H4:=rfl
theorem E1{Q:VK}:xW σ H Q=∀p,H p=none->Q (.ref p) (upd H p (.dT [])):=rfl
theorem zG{Q:VK}:xX σ H Q=∀p,H p=none->Q (.ref p) (upd H p (.dK [])):=rfl
theorem Gc{ty td:TE}{Q:VK}:E9 ty td σ H Q=ty σ H λy H1=>td σ H1 λx H2=>∃a o,x=.ref a/\iN H2 a y o/\Q (.bl o.isSome) H2:=rfl
theorem vT{ty td:TE}{Q:VK}:qo ty td σ H Q=ty σ H λy H1=>td σ H1 λx H2=>∃a o,x=.ref a/\iN H2 a y o/\Q (.bl (!o.isSome)) H2:=rfl
theorem IV{k d:Expr}{ty td:TE}{pos:Pos}(hu:X.A.units+1<cLine)(hk:PE X k ty)(hd:PE X d td)(hm:behindInMarks .In d=false:=by first | rfl | with_unfolding_all rfl):PT X (.Compare k [.In] [d] pos) (tB (E9 ty td)):=Ct (Iv hu hk hd) hm
theorem A9{k d:Expr}{ty td:TE}{pos:Pos}(hu:X.A.units+1<cLine)(hk:PE X k ty)(hd:PE X d td)(hm:behindInMarks .NotIn d=false:=by first | rfl | with_unfolding_all rfl):PT X (.Compare k [.NotIn] [d] pos) (tB (qo ty td)):=Ct (Af hu hk hd) hm
end
def Am(z:Nat->Int):Nat->Option Int
 | 0=>none
 | i+1=>some (match Am z i with | none=>z i | some m=>if m<z i then z i else m)
def MD(b:Option Value):Array Value:=match b with | none=>#[] | some v=>#[v,v]
def MC(b:Option Value)(m:Option Int):Prop:=match b,m with | none,none=>True | some v,some i=>∃t,v=.int i t | _,_=>False
section
variable {prog:Program} {w:World} {A:Around} {R:Result->Shared->Prop} {I:Addr} {fp wr:List Addr} {n:Nat} {P:Nat->Value->Prop} {St:Nat->Heap->Prop} {z:Nat->Int} {d:Value}
abbrev Dh (I S:Addr) (d:Value):Code:=.builtin "max.loop" ⟨[.ref I,.none,.ref S],[("default",d)]⟩
theorem Ao(W:Walks prog w A.in1 I fp wr n P St)(hP:∀i v,P i v->∃t,v=.int (z i) t)(S:Addr)(hSf:S∉fp):∀(k i:Nat) (s:Shared) (b:Option Value) (c:Nat),n-i=k->i<=n->St i s.heap->MC b (Am z i) →
  s.heap.get? S=some { cls:=.type "list",dict:=none,data:=.seq (MD b) c,slots:=#[] } →
  (∀v h' tk,(match Am z n with | none=>v=d | some m=>∃t,v=.int m t)->(∀a o,a∉wr->a≠S->s.heap.get? a=some o->h'.get? a=some o)->R (.ok (.ret v)) { s with heap:=h',toks:=tk }) →
  codeAny (model prog w) A (Dh I S d) R s:=by
 have hSw:S∉wr:=λh=>hSf (W.sub _ h);have again':(toString "max"++toString ".loop":String)="max.loop":=by decide
 intro k
 induction k with
 | zero=>
  intro i s b c hk hi hst hb hS hR;have hin:i=n:=by omega
  subst hin;refine codeAny_builtin F.entry_max_loop ?_;rw[Around.under_plainId gD _];refine wpAny_bind (m:=seqItems? (.ref S)) (wpAny_seqItems hS rfl (wpAny_bind (m:=tryCatch (pyNext (.ref I)) _) (wpAny_tryCatch (W.done s _ _ hst λh' tk hk'=>?_))));have hS':=hk' S _ hSw hS;cases b with
  | none=>
   cases hm:Am z i with
   | some m=>rw[hm] at hb;exact hb.elim
   | none=>
    refine wpAny_bind (m:=rule _) (wpAny_rule (wpAny_pure (hR d h' tk (by rw[hm]) λa o h1 h2 e=>hk' a o h1 e)))
  | some v=>
   cases hm:Am z i with
   | none=>rw[hm] at hb;exact hb.elim
   | some m=>
    rw[hm] at hb;obtain⟨t,rfl⟩:=hb;refine wpAny_bind (m:=updateSeq S λ_=>#[]) (wpAny_updateSeq hS' rfl (wpAny_bind (wpAny_letGo (wpAny_pure ?_))) (by show 2<=sizeLine;decide) (a6 _));exact hR _ _ tk (by rw[hm];exact⟨t,rfl⟩) λa o h1 h2 e=>(dk _ _ (ig h2)).trans (hk' a o h1 e)
 | succ k ih=>
  intro i s b c hk hi hst hb hS hR;have hlt:i<n:=by omega
  refine codeAny_builtin F.entry_max_loop ?_;rw[Around.under_plainId gD _];refine wpAny_bind (m:=seqItems? (.ref S)) (wpAny_seqItems hS rfl (wpAny_bind (m:=tryCatch (pyNext (.ref I)) _) (wpAny_tryCatch (W.item i s _ _ hlt hst λv h' tk hPv hst' hk'=>?_))));have hS':=hk' S _ hSw hS;obtain⟨t,rfl⟩:=hP i v hPv;have onS:∀f,St (i+1) (h'.update S f):=λf=>W.frame _ _ _ hst' λa ha o e=>(dk _ _ (λq:S=a=>hSf (q▸ha))).trans e;have fin:∀f v' h'' tk'',(match Am z n with | none=>v'=d | some m=>∃t,v'=.int m t)->(∀a o,a∉wr->a≠S->(h'.update S f).get? a=some o->h''.get? a=some o)->R (.ok (.ret v')) { s with heap:=h'',toks:=tk'' }:=λf v' h'' tk'' q1 q2=>
   hR v' h'' tk'' q1 λa o h1 h2 e=>q2 a o h1 h2 ((dk _ _ (ig h2)).trans (hk' a o h1 e))
  cases b with
  | none=>
   cases hm:Am z i with
   | some m=>rw[hm] at hb;exact hb.elim
   | none=>
    refine wpAny_bind (m:=updateSeq S λ_=>#[.int (z i) t,.int (z i) t]) (wpAny_updateSeq hS' rfl ?_);rw[again'];refine wpAny_pure ⟨plainId_quiet gD _,ih (i+1) _ (some (.int (z i) t)) _ (by omega) hlt (onS _) (show ∃u,Value.int (z i) t=.int _ u by rw[hm];exact⟨t,rfl⟩) (dX _ hS' rfl) (fin _)⟩
  | some v=>
   cases hm:Am z i with
   | none=>rw[hm] at hb;exact hb.elim
   | some m=>
    rw[hm] at hb;obtain⟨u,rfl⟩:=hb;have gt:=CmpOf.ints_gt (prog:=prog) (w:=w) (A:=A.in1) (P:=λj v=>∃t,v=.int (if j=0 then z i else m) t) (λj=>if j=0 then z i else m) λ_ _ h=>h;refine wpAny_bind (m:=tryCatch (holding [Value.int (z i) t,Value.int (z i) t] _) _) (wpAny_tryCatch (wpAny_holding (wpAny_bind (gt 0 1 _ _ _ _ _ ⟨t,rfl⟩ ⟨u,rfl⟩ (wpAny_bind (wpAny_holding (wpAny_truthy_bool (wpAny_bind (wpAny_letGo (wpAny_pure ?_))))))))));rw[again']
    split
    ·rename_i hq;have hgt:m<z i:=of_decide_eq_true (show decide (m<z i)=true from hq);refine wpAny_bind (m:=updateSeq S λ_=>#[.int (z i) t,.int (z i) t]) (wpAny_updateSeq hS' rfl (wpAny_bind (wpAny_letGo ?_)) (by show 2<=sizeLine;decide) (by show 2<=sizeLine+1;decide));refine wpAny_pure ⟨plainId_quiet gD _,ih (i+1) _ (some (.int (z i) t)) _ (by omega) hlt (onS _) (show ∃u,Value.int (z i) t=.int _ u by rw[hm];simp only[if_pos hgt];exact⟨t,rfl⟩) (dX _ hS' rfl) (fin _)⟩
    ·rename_i hq;have hgt:¬m<z i:=λq=>hq (show decide (m<z i)=true from decide_eq_true q);refine wpAny_bind (wpAny_letGo (wpAny_pure ⟨plainId_quiet gD _,ih (i+1) _ (some (.int m u)) c (by omega) hlt hst' (show ∃u',Value.int m u=.int _ u' by rw[hm];simp only[if_neg hgt];exact⟨u,rfl⟩) hS' λv' h'' tk'' q1 q2=>?_⟩));exact hR v' h'' tk'' q1 λa o h1 h2 e=>q2 a o h1 h2 (hk' a o h1 e)
end
def Jn(m:Option Int)(x:Int):Option Int:=match m with | none=>some x | some y=>some (if y<x then x else y)
def m6(ns:List Int)(d:Int):Int:=(ns.foldl Jn none).getD d
theorem w6(ns:List Int):∀i,i<=ns.length->Am (λj=>ns.getD j 0) i=(ns.take i).foldl Jn none
 | 0,_=>by simp[Am]
 | i+1,h=>by
  have hi:i<ns.length:=h;rw[bF,aK hi];simp only[kU,List.foldl_append,fX,List.foldl_nil];rw[<-w6 ns i (by omega)];show some _=_;have e:ns.getD i 0=ns[i]:=by simp[List.getD,hi]
  simp only[e];cases Am (λj=>ns.getD j 0) i<;>rfl
def wB(K:PySem.W.Frag):V->V->Hp->VK->Prop:=λx y H Q=>∃(p:Addr) (ns:List Int) (d:Int),x=.ref p/\y=.int d/\bv K H p (ns.map V.int)/\Q (.int (m6 ns d)) H
theorem sO:∀{us:List Value} {ns:List Int},IntsAre us ns->∀i,i<us.length->∃t,us.getD i Value.none=.int (ns.getD i 0) t
 | _,_,.nil,i,h=>by simp at h
 | _,_,.cons n t r,0,_=>⟨t,rfl⟩
 | _,_,.cons n t r,i+1,h=>by
  obtain⟨t',e⟩:=sO r i (by simpa using h);exact⟨t',by simpa using e⟩
section
variable {X:Cx}
theorem BM(hc:X.calm=true){pins:List (Addr×Obj)}{σ:St}{H:Hp}{s:Shared}{x y:V}{u v:Value}{Q:VK}(I:bi X pins σ H s)(rx:RelV x u)(ry:RelV y v)(h:wB X.K x y H Q):
  wpAny (model X.prog X.w) X.A (call (.builtin "max") [u] [(Str.ofString "default",v)]) (EP X pins σ Q) X.xe s:=by
 obtain⟨p,ns,d,rfl,rfl,hq,q⟩:=h;cases rx;obtain⟨td,rfl⟩:=ry;obtain⟨its,rv,pl,hz⟩:=I.list hq;have hi:=lS rv;have hil:its.length=ns.length:=by have:=rv.length;simpa using this.symm
 have hl:=pl.isList;have hlt:p<s.heap.objs.size:=by obtain⟨_,e,_⟩:=hl;exact aN e
 have key:∀R:Result->Shared->Prop,(∀v h' tk,(match Am (λj=>ns.getD j 0) its.toArray.size with | none=>v=Value.int d td | some m=>∃t,v=.int m t)->(∀a o,s.heap.get? a=some o->h'.get? a=some o)->R (.ok (.ret v)) { s with heap:=h',toks:=tk }) →
   codeAny (model X.prog X.w) X.A (.call (.builtin "max") ⟨[.ref p],[(Str.ofString "default",.int d td)]⟩) R s:=by
  intro R hR;refine codeAny_call_builtin F.plain_max F.entry_max ?_;have body:wpAny (model X.prog X.w) X.A.in1 (Builtin.«max» ⟨[.ref p],[(Str.ofString "default",.int d td)]⟩) (λfin s'=>match fin with | .done f=>R (.ok f) s' | .again c'=>c'.quiet=true/\codeAny (model X.prog X.w) X.A c' R s') (λe s'=>R (.error e) s') s:=by
   refine wpAny_bind (m:=Builtin.Builtins.bindParams "max" ["key","default"] 0 ⟨[],[(Str.ofString "default",.int d td)]⟩) (wpAny_of_eq (show _=pure [none,some (Value.int d td)] from rfl) ?_);refine wpAny_bind (wpAny_pure ?_);refine wpAny_bind (wpAny_pyIter_list hl ?_);refine wpAny_bind (wpAny_newObj_type ?_);have again':(toString "max"++toString ".loop":String)="max.loop":=by decide
   rw[again'];have W:=Walks.list (prog:=X.prog) (w:=X.w) (A:=X.A.in1) (I.ok.hd hc) s.heap.objs.size p (av hlt) its.toArray;have hI:((s.heap.push { cls:=.type "list_iterator",data:=.fields #[.ref p,.int 0 0] }).push { cls:=.type "list",data:=.seq #[] }).get? s.heap.objs.size=some { cls:=.type "list_iterator",data:=.fields #[.ref p,.int 0 0] }:=aB _ (aO _ rfl);refine wpAny_pure ⟨plainId_quiet gD _,Ao (z:=λj=>ns.getD j 0) W (λi v hv=>?_) _ ?_ _ 0 _ none 0 rfl (a6 _) ?_ trivial (aO _ rfl) λv h' tk hv hk=>?_⟩
   ·have hv':its[i]? = some v:=by simpa using hv
    obtain⟨t,e⟩:=sO hi i (aF.mp hv').1;exact⟨t,by rw[<-e];simp[List.getD,hv']⟩
   ·rw[fO];intro z;rcases aJ.mp z with e | e
    ·exact lX _ e
    ·have e':s.heap.objs.size+1=p:=by simpa using e
     exact absurd hlt (by rw[<-e'];exact Nat.not_lt.mpr (dc _))
   ·exact⟨⟨_,hI,rfl,rfl⟩,(hl.push _).push _⟩
   ·refine hR v h' tk hv λa o e=>hk a o ?_ ?_ (aB _ (aB _ e))
    ·exact λz=>by rw[dG.mp z] at e;exact dY _ (aN e)
    ·exact λz=>by rw[z,fO] at e;exact absurd (aN e) (Nat.not_lt.mpr (dc _))
  simp only[checkBuiltinCall,F.kind_max];have ha:argsOk "max" ⟨[.ref p],[(Str.ofString "default",.int d td)]⟩:=by unfold argsOk;kernel_rfl
  cases hsig:Manifest.signature? "max" with
  | none=>exact wpAny_pure body
  | some sig=>
   simp only[argsOk,hsig] at ha;show wpAny _ X.A.in1 (Bind.checkArgs "max" sig _) _ _ s;rw[show Bind.checkArgs "max" sig ⟨[.ref p],[(Str.ofString "default",.int d td)]⟩=pure () from ha];exact wpAny_pure body
 refine wpAny_call (key _ λv h' tk hv hk=>?_);have e1:its.toArray.size=ns.length:=by rw[aQ,hil]
 rw[e1,w6 ns ns.length (aH _),bW] at hv;have fin:v=.int (m6 ns d) td\/∃t,v=.int (m6 ns d) t:=by
  unfold m6
  revert hv
  generalize ns.foldl _ none=o;intro hv;cases o with
  | none=>exact .inl hv
  | some m=>exact .inr hv
 refine⟨.int (m6 ns d),H,I.kept hk,?_,q⟩;rcases fin with z | z
 ·exact⟨td,z⟩
 ·exact z
theorem FM {e e2:Expr} {te td:TE} {p kp pos:Pos} (hc:X.calm=true) (hg:Gl X "max") (hm:X.mg "max"=none) (he:PE X e te) (hd:PE X e2 td) (hs:starEach [e] X.env=[(false,eval e X.env)]:=by rfl) :
  PE X (.Call (.Name "max" p) [e] [⟨some "default",e2,kp⟩] pos) (CC (wB X.K) te td):=by
 intro pins s σ H Q I h;refine wpAny_Call_Name_kw (jT I hg hm fQ ?_);refine callWith_kw (eR (gp he xr hs pos pins s σ H (λvs H1=>match vs with | [x]=>td σ H1 λy H2=>wB X.K x y H2 Q | _=>False) I h) λus s1 ⟨vs,H1,I1,r1,q1⟩=>?_) (by rw[hs];rfl) (by rw[hs];rfl)
 match vs,r1,q1 with
 | [x],r1,q1=>
  obtain⟨u,rfl,rx⟩:=vals1 r1;refine kws_cons (eR (hd pins s1 σ H1 _ I1 q1) λv s2 ⟨y,H2,I2,ry,q2⟩=>kws_nil ?_);exact BM hc I2 rx ry q2
theorem HH{K:PySem.W.Frag}{a:Addr}{d:Int}{H:Hp}{Q:VK}:wB K (.ref a) (.int d) H Q=∃ns:List Int,bv K H a (ns.map V.int)/\Q (.int (m6 ns d)) H:=
 propext ⟨λ⟨_,ns,_,e1,e2,h⟩=>by cases e1;cases e2;exact⟨ns,h⟩,λ⟨ns,h⟩=>⟨a,ns,d,rfl,rfl,h⟩⟩
theorem iZ{A:Around}{k:Nat}(hr:iM k A):A.units+1<cLine:=by have:=hr.units;omega
end
end L2
namespace Rm
open PySem L2
def jj(p q:Bw):Bool:=decide (q.1<p.1)&&decide (p.2<q.2)
def fG(p:Bw):Int:=p.2-p.1
abbrev Acc:=List (Bw×Int)
structure Top (acc:Acc) (q:Bw) (m:Int):Prop where
 nn:0<=m
 le:∀ e∈acc,jj e.1 q=true->e.2<=m
 is:m=0\/∃ e∈acc,jj e.1 q=true/\e.2=m
theorem je{p q:Bw}(h:jj p q=true):fG p<fG q:=by
 unfold jj at h;rw[aX,decide_eq_true_eq,decide_eq_true_eq] at h;unfold fG;omega
structure Kn (qs:List Bw) (i:Nat) (acc:Acc):Prop where
 keys:acc.map (·.1)=qs.take i
 pos:∀ e∈acc,1<=e.2
 top:∀ e∈acc,Top acc e.1 (e.2 - 1)
theorem Kn.start(qs:List Bw):Kn qs 0 []:=⟨by simp,(λe h=>nomatch h),(λe h=>nomatch h)⟩
theorem Kn.len{qs:List Bw}{i:Nat}{acc:Acc}(K:Kn qs i acc)(h:i<=qs.length):acc.length=i:=by
 have:=congrArg List.length K.keys;rw[aA,bp] at this;omega
def gZ(acc:Acc)(q:Bw):List Int:=(acc.filter λe=>jj e.1 q).map (·.2)
theorem fold_max(ns:List Int):∀o:Option Int,(∀y,o=some y->1<=y)->(∀n∈ns,1<=n)->∀r,ns.foldl Jn o=r →
  (∀y,o=some y->∃z,r=some z/\y<=z)/\(∀n∈ns,∃z,r=some z/\n<=z)/\(r=o\/∃n∈ns,r=some n):=by
 induction ns with
 | nil=>intro o h1 _ r e;subst e;exact⟨λy e=>⟨y,e,dw _⟩,(λn h=>nomatch h),.inl rfl⟩
 | cons n ns ih=>
  intro o h1 h2 r e;rw[fX] at e;obtain⟨a,b,c⟩:=ih (Jn o n) (λy hy=>by
   cases o with
   | none=>cases hy;exact h2 n ar
   | some y0=>
    have hy':(if y0<n then n else y0)=y:=bD hy;have:=h1 y0 rfl;have:=h2 n ar
    split at hy'<;>omega) (λx hx=>h2 x (aM _ hx)) r e
  cases o with
  | none=>
   obtain⟨z,hz1,hz2⟩:=a n rfl;refine⟨(λy hy=>nomatch hy),λx hx=>?_,?_⟩
   ·rcases aJ.mp hx with e | e
    ·subst e;exact⟨z,hz1,hz2⟩
    ·exact b x e
   ·rcases c with c | ⟨x,hx,c⟩
    ·exact .inr ⟨n,ar,c⟩
    ·exact .inr ⟨x,aM _ hx,c⟩
  | some y0=>
   obtain⟨z,hz1,hz2⟩:=a (if y0<n then n else y0) rfl;refine⟨λy hy=>?_,λx hx=>?_,?_⟩
   ·cases hy;refine⟨z,hz1,?_⟩
    split at hz2<;>omega
   ·rcases aJ.mp hx with e | e
    ·subst e;refine⟨z,hz1,?_⟩
     split at hz2<;>omega
    ·exact b x e
   ·rcases c with c | ⟨x,hx,c⟩
    ·by_cases h:y0<n
     ·have c:r=some (if y0<n then n else y0):=c;rw[if_pos h] at c;exact .inr ⟨n,ar,c⟩
     ·have c:r=some (if y0<n then n else y0):=c;rw[if_neg h] at c;exact .inl c
    ·exact .inr ⟨x,aM _ hx,c⟩
theorem Df{acc:Acc}{q:Bw}(hp:∀e∈acc,1<=e.2):Top acc q (m6 (gZ acc q) 0):=by
 have hin:∀n,n∈gZ acc q<->∃e∈acc,jj e.1 q=true/\e.2=n:=λn=>by
  unfold gZ;rw[aT];constructor
  ·rintro⟨e,he,rfl⟩;obtain⟨h1,h2⟩:=aV.mp he;exact⟨e,h1,h2,rfl⟩
  ·rintro⟨e,h1,h2,rfl⟩;exact⟨e,aV.mpr ⟨h1,h2⟩,rfl⟩
 have hpos:∀n∈gZ acc q,1<=n:=λn hn=>by obtain⟨e,h1,_,rfl⟩:=(hin n).mp hn;exact hp e h1
 obtain⟨_,b,c⟩:=fold_max (gZ acc q) none (λy h=>nomatch h) hpos _ rfl;unfold m6;generalize (gZ acc q).foldl _ none=r at b c ⊢;rcases c with c | ⟨n,hn,c⟩
 ·subst c;refine⟨dw _,λe he hi=>?_,.inl rfl⟩;obtain⟨z,hz,_⟩:=b e.2 ((hin _).mpr ⟨e,he,hi,rfl⟩);cases hz
 ·subst c;have:=hpos n hn;refine⟨by simp;omega,λe he hi=>?_,.inr ?_⟩
  ·obtain⟨z,hz,h2⟩:=b e.2 ((hin _).mpr ⟨e,he,hi,rfl⟩);cases hz;exact h2
  ·obtain⟨e,h1,h2,h3⟩:=(hin n).mp hn;exact⟨e,h1,h2,h3⟩
theorem Kn.next{qs:List Bw}{i:Nat}{acc:Acc}{q:Bw}(K:Kn qs i acc)(hq:qs[i]? = some q)(hs:qs.Pairwise (λa b=>fG a<=fG b)):Kn qs (i+1) (acc++[(q,1+m6 (gZ acc q) 0)]):=by
 have T:=Df (acc:=acc) (q:=q) K.pos;have hi:=(aF.mp hq).1;have hle:∀e∈acc,fG e.1<=fG q:=λe he=>by
  have hm:e.1∈qs.take i:=by rw[<-K.keys];exact aT.mpr ⟨e,he,rfl⟩
  obtain⟨j,hj,ej⟩:=jx hm;rw[bp] at hj;rw[List.getElem_take] at ej;rw[<-ej];have:=fS.mp hs j i (by omega) hi (by omega);have e2:qs[i]=q:=(aF.mp hq).2;rw[e2] at this;exact this
 have hno:∀e∈acc,jj q e.1=false:=λe he=>by
  cases z:jj q e.1 with
  | false=>rfl
  | true=>have:=je z;have:=hle e he;omega
 have hself:jj q q=false:=by
  cases z:jj q q with
  | false=>rfl
  | true=>have:=je z;omega
 refine⟨by rw[aW,K.keys,bF,hq];rfl,λe he=>?_,λe he=>?_⟩
 ·rcases aU.mp he with z | z
  ·exact K.pos e z
  ·have:e=(q,1+m6 (gZ acc q) 0):=by simpa using z
   subst this;have:=T.nn;simp only;omega
 ·have grow:∀r m,jj q r=false->Top acc r m->Top (acc++[(q,1+m6 (gZ acc q) 0)]) r m:=λr m hr t=>by
   refine⟨t.nn,λx hx hxi=>?_,t.is.imp id λ⟨x,h1,h2⟩=>⟨x,bu _ h1,h2⟩⟩;rcases aU.mp hx with z | z
   ·exact t.le x z hxi
   ·have:x=(q,1+m6 (gZ acc q) 0):=by simpa using z
    subst this;simp only at hxi;rw[hr] at hxi;cases hxi
  rcases aU.mp he with z | z
  ·exact grow e.1 _ (hno e z) (K.top e z)
  ·have:e=(q,1+m6 (gZ acc q) 0):=by simpa using z
   subst this;have e3:(1+m6 (gZ acc q) 0) - 1=m6 (gZ acc q) 0:=by omega
   show Top _ q ((1+m6 (gZ acc q) 0) - 1);rw[e3];exact grow q _ hself T
def qf(p:Bw):List Key:=[Sum.inl p.1,Sum.inl p.2]
def dB(acc:Acc):List (List Key×V):=acc.map λe=>(qf e.1,.int e.2)
theorem wd{p q:Bw}(h:qf p=qf q):p=q:=by
 unfold qf at h;simp at h;exact fL h.1 h.2
theorem EH{acc:Acc}(nd:(acc.map (·.1)).Nodup):∀{e:Bw×Int},e∈acc->dy (dB acc) (qf e.1)=some (.int e.2):=by
 induction acc with
 | nil=>intro e h;exact nomatch h
 | cons x acc ih=>
  intro e he;rw[ao,ba] at nd;rcases aJ.mp he with z | z
  ·subst z;exact fZ rfl
  ·show dy ((qf x.1,V.int x.2)::dB acc) _=_;rw[eP (λq=>nd.1 (by rw[wd q];exact aT.mpr ⟨e,z,rfl⟩))];exact ih nd.2 z
theorem GA{acc:Acc}{q:Bw}(h:q∉acc.map (·.1)):dy (dB acc) (qf q)=none:=by
 induction acc with
 | nil=>rfl
 | cons x acc ih=>
  rw[ao,aJ] at h;show dy ((qf x.1,V.int x.2)::dB acc) _=_;rw[eP (λz=>h (.inl (wd z).symm))];exact ih λz=>h (.inr z)
theorem J6{acc:Acc}{q:Bw}{n:Int}(h:q∉acc.map (·.1)):putK (dB acc) (qf q) (.int n)=dB (acc++[(q,n)]):=by
 rw[pB _ (GA h)];simp[dB]
structure Lc (ps:List Bw) (hs:List Int):Prop where
 len:hs.length=ps.length
 pos:∀ h∈hs,1<=h
 top:∀ (i:Nat) p h,ps[i]? = some p->hs[i]? = some h->Top (ps.zip hs) p (h - 1)
def tI(acc:Acc)(p:Bw):Int:=((acc.find? λe=>decide (e.1=p)).map (·.2)).getD 0
theorem lT{acc:Acc}(nd:(acc.map (·.1)).Nodup):∀{e:Bw×Int},e∈acc->tI acc e.1=e.2:=by
 induction acc with
 | nil=>intro e h;exact nomatch h
 | cons x acc ih=>
  intro e he;rw[ao,ba] at nd;unfold tI;rw[fY];rcases aJ.mp he with z | z
  ·subst z;simp
  ·have:¬x.1=e.1:=λq=>nd.1 (by rw[q];exact aT.mpr ⟨e,z,rfl⟩);simp only[this,decide_false];exact ih nd.2 z
theorem Kn.hts{qs ps:List Bw}{acc:Acc}(K:Kn qs qs.length acc)(hp:qs.Perm ps)(nd:ps.Nodup):Lc ps (ps.map (tI acc)):=by
 have hk:acc.map (·.1)=qs:=by rw[K.keys,bW]
 have ndk:(acc.map (·.1)).Nodup:=by rw[hk];exact hp.nodup_iff.mpr nd
 have mem:∀p,p∈ps->∃e∈acc,e.1=p:=λp h=>by
  have:p∈acc.map (·.1):=by rw[hk];exact hp.mem_iff.mpr h
  obtain⟨e,h1,h2⟩:=aT.mp this;exact⟨e,h1,h2⟩
 have zip:∀x,x∈ps.zip (ps.map (tI acc))<->x∈acc:=λx=>by
  have e0:ps.zip (ps.map (tI acc))=ps.map λp=>(p,tI acc p):=by
   clear hk ndk mem hp nd
   induction ps with
   | nil=>rfl
   | cons p ps ih=>simp[ih]
  rw[e0,aT];constructor
  ·rintro⟨p,h,rfl⟩;obtain⟨e,h1,rfl⟩:=mem p h;rw[lT ndk h1];exact h1
  ·intro h;refine⟨x.1,?_,by rw[lT ndk h]⟩;exact hp.mem_iff.mp (by rw[<-hk];exact aT.mpr ⟨x,h,rfl⟩)
 refine⟨by simp,λh hh=>?_,λi p h h1 h2=>?_⟩
 ·obtain⟨p,hp',rfl⟩:=aT.mp hh;obtain⟨e,h1,rfl⟩:=mem p hp';rw[lT ndk h1];exact K.pos e h1
 ·obtain⟨e,h3,rfl⟩:=mem p (aR h1);rw[aS,h1] at h2;have h2':tI acc e.1=h:=bD h2;rw[lT ndk h3] at h2';subst h2';have t:=K.top e h3;exact⟨t.nn,λx hx=>t.le x ((zip x).mp hx),t.is.imp id λ⟨x,h1,h2⟩=>⟨x,(zip x).mpr h1,h2⟩⟩
def CQ:Sp:=λvs H Q _=>∃a p,vs=[.ref a]/\bZ H a p/\Q (.int (fG p)) H
def vb:Sp:=λvs H Q _=>∃a b p q,vs=[.ref a,.ref b]/\bZ H a p/\bZ H b q/\Q (.bl (jj p q)) H
def nZ:Sp:=λvs H Q _=>∃l ps,vs=[.ref l]/\cY H l ps/\ps.Nodup/\ps.length<=40/\∀l' hs H',H l'=none->ak H H'->H' l'=some (.lst (hs.map V.int))->Lc ps hs->Q (.ref l') H'
end Rm
namespace L2
open PySem PySem.Spec PyProof.Rows
theorem pH{c:Prop} [Decidable c] {A B:Prop} (h:¬c) (b:B):if c then A else B:=by rw[if_neg h];exact b
theorem sS{c:Prop} [Decidable c] {A B:Prop} (h:c) (a:A):if c then A else B:=by rw[if_pos h];exact a
section
variable {X:Cx} {K:PySem.W.Frag}
theorem Dc (h:X.K=K):Jg X "str.join" (rJoin K):=h▸qx
end
def yu (o:Obj) (xs:List Str):Prop:=o.cls=.type "tuple"/\∃its n,o.data=.seq its n/\its.size<=sizeLine/\cO (xs.map V.str) its.toList
theorem AW {o:Obj} {xs:List Str} {its:Array Value} {n:Nat} (h1:o.cls=.type "tuple") (h2:o.data=.seq its n) (h3:its.size<=sizeLine) (h4:cO (xs.map V.str) its.toList):yu o xs:=⟨h1,its,n,h2,h3,h4⟩
theorem Dv{K:PySem.W.Frag}{h:Heap}{mg:Str->Option Value}{x:Str}{a:Addr}{o:Obj}{xs:List Str}(X:K.In h)(G:h.Ns mainGlobals mg)(y:PySem.W.nsIn K mainGlobals x=some (some (.ref a)))(l:K.lookup a=some o)(t:yu o xs):
  ∃a,mg x=some (.ref a)/\∀H,dA K H a (xs.map V.str):=by
 obtain⟨h1,its,n,h2,h3,h4⟩:=t;exact⟨a,eK X G y,λH=>.inr ⟨o,its,n,l,h1,h2,h3,h4⟩⟩
def xV(K:PySem.W.Frag)(xs:List V):TE:=λ_ H Q=>∀a,(∀H,dA K H a xs)->Q (.ref a) H
theorem DI {X:Cx} {x:Str} {K:PySem.W.Frag} {xs:List V} {pos:Pos} (hg:Gl X x) (hm:∃a,X.mg x=some (.ref a)/\∀H,dA K H a xs) (hd:(x==("__debug__":Str))=false:=by decide):PE X (.Name x pos) (xV K xs):=by
 obtain⟨a,h1,h2⟩:=hm;intro pins s σ H Q I h;exact ux (v:=.ref a) hg h1 rfl hd pins s σ H Q I (h a h2)
theorem EX{K:PySem.W.Frag}{xs:List V}{σ:St}{H:Hp}{Q:VK}:xV K xs σ H Q=∀a,(∀H,dA K H a xs)->Q (.ref a) H:=rfl
def Hv(t u:TS):TS:=λD σ H=>∃J:St->Hp->Prop,t { D with nx:=J } σ H/\∀σ' H',J σ' H'->u D σ' H'
theorem FB{X:Cx}{st:Stmt}{rest:List Stmt}{t u:TS}(h1:PS X st t)(h2:xF X rest u):xF X (st::rest) (Hv t u):=by
 intro pins s σ H D I h;obtain⟨J,h,hJ⟩:=h;refine wpAny_execs_cons (eR (h1 pins s σ H { D with nx:=J } I h) λf s1 q=>?_);cases f with
 | next=>
  obtain⟨σ',H',I',q⟩:=q;exact h2 pins s1 σ' H' D I' (hJ _ _ q)
 | ret v=>exact q
 | brk=>exact q
 | cont=>exact q
section
variable {X:Cx} {es:List Expr} {te:TE} {t:TA}
theorem DT{a0:PySem.Expr}{a1:PySem.Operator}{a2:PySem.Expr}{a3:PySem.Pos}(ha:PE X (Expr.BinOp a0 a1 a2 a3) te)(hr:PA X es t):PA X ((Expr.BinOp a0 a1 a2 a3)::es) (gU te t):=gp ha hr rfl
theorem wL{a0:PySem.Expr}{a1:List Comprehension}{a2:PySem.Scope}{a3:PySem.Pos}(ha:PE X (Expr.ListComp a0 a1 a2 a3) te)(hr:PA X es t):PA X ((Expr.ListComp a0 a1 a2 a3)::es) (gU te t):=gp ha hr rfl
theorem xt{a0:PySem.Expr}{a1:List CmpOp}{a2:List Expr}{a3:PySem.Pos}(ha:PE X (Expr.Compare a0 a1 a2 a3) te)(hr:PA X es t):PA X ((Expr.Compare a0 a1 a2 a3)::es) (gU te t):=gp ha hr rfl
theorem FY{a0:PySem.Expr}{a1:List Expr}{a2:List Keyword}{a3:PySem.Pos}(ha:PE X (Expr.Call a0 a1 a2 a3) te)(hr:PA X es t):PA X ((Expr.Call a0 a1 a2 a3)::es) (gU te t):=gp ha hr rfl
theorem wM{a0:PySem.Const}{a1:Nat}{a2:PySem.Pos}(ha:PE X (Expr.Constant a0 a1 a2) te)(hr:PA X es t):PA X ((Expr.Constant a0 a1 a2)::es) (gU te t):=gp ha hr rfl
theorem uy{a0:PySem.Expr}{a1:PySem.Expr}{a2:PySem.Pos}(ha:PE X (Expr.Subscript a0 a1 a2) te)(hr:PA X es t):PA X ((Expr.Subscript a0 a1 a2)::es) (gU te t):=gp ha hr rfl
theorem FV{a0:PySem.Str}{a1:PySem.Pos}(ha:PE X (Expr.Name a0 a1) te)(hr:PA X es t):PA X ((Expr.Name a0 a1)::es) (gU te t):=gp ha hr rfl
theorem FW{a0:List Expr}{a1:PySem.Pos}(ha:PE X (Expr.List a0 a1) te)(hr:PA X es t):PA X ((Expr.List a0 a1)::es) (gU te t):=gp ha hr rfl
theorem DS{a0:List Expr}{a1:Nat}{a2:PySem.Pos}(ha:PE X (Expr.Tuple a0 a1 a2) te)(hr:PA X es t):PA X ((Expr.Tuple a0 a1 a2)::es) (gU te t):=gp ha hr rfl
theorem FX{a0:List (Option Expr)}{a1:List Expr}{a2:PySem.Pos}(ha:PE X (Expr.Dict a0 a1 a2) te)(hr:PA X es t):PA X ((Expr.Dict a0 a1 a2)::es) (gU te t):=gp ha hr rfl
end
theorem Bd{to ti:TE}{t:EM}{v:V}{σ:St}{H:Hp}{q:St->Hp->Prop}:J0 to ti t v σ H q=to σ H λo H1=>ti σ H1 λi H2=>t o i v H2 λH3=>q σ H3:=rfl
theorem bP{t u:TS}{D:Ends}{σ:St}{H:Hp}(J:St->Hp->Prop)(h1:t { nx:=J,rt:=D.rt,bk:=D.bk,ct:=D.ct } σ H)(h2:∀σ' H',J σ' H'->u D σ' H'):Hv t u D σ H:=⟨J,h1,h2⟩
end L2
namespace Rm
open PySem L2
def intOf:PyData->Int
 | .int n=>n
 | _=>0
theorem xL:∀{d:PyData},i5 d=true->d=.int (intOf d)
 | .int n,_=>rfl
def qB:PyData->Bool
 | .tuple ds=>decide (ds.length<=20)&&(ds.all i5&&(ds.map intOf).isPerm (gV 1 ds.length))
 | _=>false
def qR:PyData->Bool
 | .str z=>decide (z=Str.ofString "l") || decide (z=Str.ofString "r")
 | _=>false
def wb:PyData->Bool
 | .tuple [a,b]=>qR a&&qB b
 | _=>false
theorem Dd{x:Int}{n:Nat}:x∈gV 1 n<->1<=x/\x<=n:=by
 unfold gV;rw[aT];constructor
 ·rintro⟨i,hi,rfl⟩;have:=cX.mp hi;omega
 ·rintro⟨h1,h2⟩;exact⟨(x - 1).toNat,cX.mpr (by omega),by omega⟩
theorem Cb(n:Nat):(gV 1 n).Pairwise (·<=·):=by
 unfold gV;rw[c9,fS];intro i j hi hj hij;simp;omega
theorem xn(n:Nat):(gV 1 n).Nodup:=by
 unfold gV List.Nodup;rw[c9];exact(l3 (n:=n)).imp λh e=>h (by omega)
theorem ui{ms ns:List Int}(hp:ms.Perm ns)(hs:ms.Pairwise (·<=·)):decide (ms=gV 1 ns.length)=ns.isPerm (gV 1 ns.length):=by
 by_cases h:ns.Perm (gV 1 ns.length)
 ·rw[m3.mpr h];exact decide_eq_true (PySem.W.ksm_same (hp.trans h) hs (Cb _))
 ·have h2:ns.isPerm (gV 1 ns.length)=false:=by
   cases e:ns.isPerm (gV 1 ns.length) with
   | false=>rfl
   | true=>exact absurd (m3.mp e) h
  rw[h2];exact decide_eq_false λe=>h (e▸hp.symm)
theorem Dl:(Str.ofString "l")=⟨#[108]⟩:=by decide +kernel
theorem Dk:(Str.ofString "r")=⟨#[114]⟩:=by decide +kernel
theorem C2 (d:PyData):([PyData.str (Str.ofString "l"),.str (Str.ofString "r")].any λe=>PyData.eqv e d)=qR d:=by
 cases d with
 | str z=>
  show (decide (Str.ofString "l"=z) || (decide (Str.ofString "r"=z) || false))=_;rw[dL];show _=(decide (z=Str.ofString "l") || decide (z=Str.ofString "r"))
  congr 1
  ·exact decide_eq_decide.mpr ⟨mS,mS⟩
  ·exact decide_eq_decide.mpr ⟨mS,mS⟩
 | _=>rfl
structure Pl (d:PyData) (n:Nat):Prop where
 lay:d.canLay0=true
 deep:d.depth<=n
def vf:Sp:=λvs H Q _=>∃x d,vs=[x]/\Dat H x d/\Pl d 60/\Q (.bl (qR d)) H
def tU:Sp:=λvs H Q _=>∃x d,vs=[x]/\Dat H x d/\∀H',ak H H'->Q (.bl (qB d)) H'
def rJ:Sp:=λvs H Q _=>∃x d,vs=[x]/\Dat H x d/\Pl d 60/\∀H',ak H H'->Q (.bl (wb d)) H'
mutual
def Lu:PyData->Bool
 | .list _=>false
 | .tuple ds=>Fe ds
 | .dict _=>false
 | _=>true
def Fe:List PyData->Bool
 | []=>true
 | d::ds=>Lu d&&Fe ds
end
mutual
theorem Fx{H:Hp}{l:Addr}{ys:List V}{o:HO}(hl:H l=some (.lst ys)):∀{x:V} {d:PyData},Dat H x d->Lu d=true->Dat (upd H l o) x d
 | _,_,.non,_=>.non
 | _,_,.bl b,_=>.bl b
 | _,_,.int i,_=>.int i
 | _,_,.str x,_=>.str x
 | _,_,.tup h r,n=>.tup (by rw[aP (D4 h hl (by intro q;cases q))];exact h) (wq hl r n)
 | _,_,.lst h r,n=>nomatch n
theorem wq{H:Hp}{l:Addr}{ys:List V}{o:HO}(hl:H l=some (.lst ys)):∀{xs:List V} {ds:List PyData},j0 H xs ds->Fe ds=true->j0 (upd H l o) xs ds
 | _,_,.nil,_=>.nil
 | _,_,.cons h r,n=>by
  have n':(Lu _&&Fe _)=true:=n;rw[aX] at n';exact .cons (Fx hl h n'.1) (wq hl r n'.2)
end
theorem sQ{H:Hp}:∀ns:List Int,j0 H (ns.map V.int) (ns.map PyData.int)
 | []=>.nil
 | n::ns=>.cons (.int n) (sQ ns)
end Rm
namespace L2
open PySem PySem.Spec PyProof.Rows
section
variable {σ:St} {H:Hp}
theorem HW{trs:List (TE×TE)}{Q:VK}:CI trs σ H Q=∀p,H p=none->oP trs σ (upd H p (.dK [])) λps H2=>H2 p=some (.dK [])/\∃kvs:List (Key×V),ps=kvs.map (λkv=>(kV kv.1,kv.2))/\kvs.length<=15/\Q (.ref p) (upd H2 p (.dK (oU [] kvs))):=rfl
theorem Jz{Q:List (V×V)->Hp->Prop}:oP [] σ H Q=Q [] H:=rfl
theorem Jy{tk tv:TE}{r:List (TE×TE)}{Q:List (V×V)->Hp->Prop}:oP ((tk,tv)::r) σ H Q=tk σ H λx H1=>tv σ H1 λy H2=>oP r σ H2 λps H3=>Q ((x,y)::ps) H3:=rfl
theorem Jx{r:V->Option Int->Option Int->Hp->VK->Prop}{te:TE}{tl th:TO}{Q:VK}:Lj r te tl th σ H Q=te σ H λx H1=>tl σ H1 λl H2=>th σ H2 λu H3=>r x l u H3 Q:=rfl
theorem B7{t:TE}{Q:Option Int->Hp->Prop}:CB t σ H Q=t σ H λx H1=>∃i,x=.int i/\Q (some i) H1:=rfl
theorem vR{Q:Option Int->Hp->Prop}:uc σ H Q=Q none H:=rfl
end
end L2
namespace Rm
open PySem L2
def sd (b:Bool):Str:=if b then Str.ofString "r" else Str.ofString "l"
theorem Lp (b:Bool):(sd b=Str.ofString "l")=(b=false):=by cases b<;>simp[sd,Dl,Dk]
theorem Kd (b:Bool):(sd b=Str.ofString "r")=(b=true):=by cases b<;>simp[sd,Dl,Dk]
theorem JN:(Str.ofString "lr")=⟨#[108,114]⟩:=by decide +kernel
theorem LG {i:Int} (h0:0<=i) (h1:i<2):pO (Str.ofString "lr").cps.toList i=some (if i=1 then 114 else 108):=by
 have e:i=0\/i=1:=by omega
 rw[JN];rcases e with rfl | rfl<;>rfl
theorem LF(i:Int):(⟨#[if i=1 then 114 else 108]⟩:Str)=sd (decide (i=1)):=by
 by_cases h:i=1
 ·simp[h,sd,Dk]
 ·simp[h,sd,Dl]
def odd(i:Nat):Bool:=i % 2==1
theorem jc(i:Nat):odd (i+1)=!odd i:=by
 unfold odd;rcases fN i with h | h<;>simp[Nat.add_mod,h]
def eJ(ns:List Int):List Int:=0::(ns++[(ns.length:Int)+1])
theorem iS(ns:List Int):(eJ ns).length=ns.length+2:=by simp[eJ]
def bQ(ns:List Int)(i:Nat):Int:=(eJ ns).getD i 0
def cH(ns:List Int)(i:Nat):Bw:=(min (bQ ns i) (bQ ns (i+1)),max (bQ ns i) (bQ ns (i+1)))
def cQ(b s:Bool)(i:Nat):Bool:=(b ^^ odd i)==s
def bJ(b:Bool)(ns:List Int)(s:Bool)(m:Nat):List Bw:=((List.range m).filter (cQ b s)).map (cH ns)
theorem i6{b:Bool}{ns:List Int}{s:Bool}{i:Nat}(h:cQ b s i=true):bJ b ns s (i+1)=bJ b ns s i++[cH ns i]:=by
 unfold bJ;rw[dv,dI,aW];simp[h]
theorem j7{b:Bool}{ns:List Int}{s:Bool}{i:Nat}(h:cQ b s i=false):bJ b ns s (i+1)=bJ b ns s i:=by
 unfold bJ;rw[dv,dI,aW];simp[h]
theorem nH(b:Bool)(i:Nat):cQ b (b ^^ odd i) i=true:=by simp[cQ]
theorem vB(b:Bool)(i:Nat):cQ b (!(b ^^ odd i)) i=false:=by cases h:(b ^^ odd i)<;>simp[cQ,h]
theorem gi(b:Bool)(ns:List Int)(s:Bool)(m:Nat):(bJ b ns s m).length<=m:=by
 unfold bJ;rw[aA];exact bU (gR _ _) (by rw[dR];exact aH _)
theorem oq(b:Bool)(ns:List Int):∀m,(bJ b ns false m).length+(bJ b ns true m).length=m
 | 0=>rfl
 | m+1=>by
  have ih:=oq b ns m;cases h:(b ^^ odd m) with
  | false=>
   rw[i6 (s:=false) (by simp[cQ,h]),j7 (s:=true) (by simp[cQ,h])];simp;omega
  | true=>
   rw[j7 (s:=false) (by simp[cQ,h]),i6 (s:=true) (by simp[cQ,h])];simp;omega
structure fE (ns:List Int):Prop where
 len:ns.length<=20
 perm:ns.Perm (gV 1 ns.length)
theorem fE.mem{ns:List Int}(O:fE ns){x:Int}:x∈ns<->1<=x/\x<=ns.length:=O.perm.mem_iff.trans Dd
theorem fE.rows_nodup{ns:List Int}(O:fE ns):(eJ ns).Nodup:=by
 have nd:ns.Nodup:=O.perm.nodup_iff.mpr (xn _);unfold eJ;rw[ba,cJ];refine⟨λh=>?_,nd,by simp,λa ha b hb e=>?_⟩
 ·rcases aU.mp h with z | z
  ·have:=O.mem.mp z;omega
  ·have:(0:Int)=ns.length+1:=by simpa using z
   omega
 ·have:b=(ns.length:Int)+1:=by simpa using hb
  have:=O.mem.mp ha;omega
theorem fE.rows_mem{ns:List Int}(O:fE ns){x:Int}(h:x∈eJ ns):0<=x/\x<=(ns.length:Int)+1:=by
 unfold eJ at h;rcases aJ.mp h with z | z
 ·omega
 ·rcases aU.mp z with z | z
  ·have:=O.mem.mp z;omega
  ·have:x=(ns.length:Int)+1:=by simpa using z
   omega
theorem iA{ns:List Int}{i:Nat}(h:i<ns.length+2):(eJ ns)[i]? = some (bQ ns i):=by
 unfold bQ;have:i<(eJ ns).length:=by rw[iS];exact h
 simp[List.getD,this]
theorem fE.row_inj{ns:List Int}(O:fE ns){i j:Nat}(hi:i<ns.length+2)(hj:j<ns.length+2)(h:bQ ns i=bQ ns j):i=j:=by
 have h1:=aF.mp (iA hi);have h2:=aF.mp (iA hj);exact(gB O.rows_nodup (h₀:=h1.1) (h₁:=h2.1)).mp (h1.2.trans (h.trans h2.2.symm))
theorem fE.row_in{ns:List Int}(O:fE ns){i:Nat}(hi:i<ns.length+2):0<=bQ ns i/\bQ ns i<=(ns.length:Int)+1:=O.rows_mem (aR (iA hi))
theorem xm(ns:List Int):bQ ns 0=0:=rfl
theorem iT(ns:List Int):bQ ns (ns.length+1)=(ns.length:Int)+1:=by simp[bQ,eJ,List.getD]
theorem Ca{ns:List Int}{i:Nat}{x:Int}(h:(ns++[(ns.length:Int)+1])[i]? = some x):bQ ns (i+1)=x:=by simp only[bQ,eJ,List.getD,List.getElem?_cons_succ,h];rfl
theorem lL{ns:List Int}{i:Nat}{x:Int}(h:ns[i]? = some x):bQ ns (i+1)=x:=Ca (by rw[hU (aF.mp h).1];exact h)
theorem fE.step_lt{ns:List Int}(O:fE ns){i:Nat}(hi:i<=ns.length):(cH ns i).1<(cH ns i).2:=by
 have:bQ ns i≠bQ ns (i+1):=λe=>by
  have:=O.row_inj (by omega) (by omega) e;omega
 show min (bQ ns i) (bQ ns (i+1))<max (bQ ns i) (bQ ns (i+1));omega
theorem fE.step_in{ns:List Int}(O:fE ns){i:Nat}(hi:i<=ns.length):0<=(cH ns i).1/\(cH ns i).2<=(ns.length:Int)+1:=by
 have h1:=O.row_in (i:=i) (by omega);have h2:=O.row_in (i:=i+1) (by omega);show 0<=min (bQ ns i) (bQ ns (i+1))/\max (bQ ns i) (bQ ns (i+1))<=_;omega
theorem eX{b:Bool}{ns:List Int}{s:Bool}{m:Nat}{p:Bw}(h:p∈bJ b ns s m):∃i,i<m/\cQ b s i=true/\p=cH ns i:=by
 unfold bJ at h;obtain⟨i,hi,rfl⟩:=aT.mp h;obtain⟨h1,h2⟩:=aV.mp hi;exact⟨i,cX.mp h1,h2,rfl⟩
theorem kI{b:Bool}{ns:List Int}{s:Bool}{m i:Nat}(h:i<m)(hs:cQ b s i=true):cH ns i∈bJ b ns s m:=
 aT.mpr ⟨i,aV.mpr ⟨cX.mpr h,hs⟩,rfl⟩
def pI(x:Int)(p:Bw):Bool:=decide (x=p.1) || decide (x=p.2)
theorem fE.has_iff{ns:List Int}(O:fE ns){i j:Nat}(hi:i<ns.length+2)(hj:j<=ns.length):pI (bQ ns i) (cH ns j)=decide (j=i\/j+1=i):=by
 have e:pI (bQ ns i) (cH ns j)=decide (bQ ns i=bQ ns j\/bQ ns i=bQ ns (j+1)):=by
  show (decide (bQ ns i=min (bQ ns j) (bQ ns (j+1))) || decide (bQ ns i=max (bQ ns j) (bQ ns (j+1))))=_;rw[<-kZ];exact decide_eq_decide.mpr (by omega)
 rw[e];refine decide_eq_decide.mpr ⟨λh=>?_,λh=>?_⟩
 ·rcases h with h | h
  ·exact .inl (O.row_inj hi (by omega) h).symm
  ·exact .inr (O.row_inj hi (by omega) h).symm
 ·rcases h with rfl | rfl
  ·exact .inl rfl
  ·exact .inr rfl
theorem tj{k:Nat}:∀{m:Nat},k<m->(List.range m).filter (λj=>decide (j=k))=[k]
 | m+1,h=>by
  rw[dv,dI];by_cases e:k=m
  ·subst e;have:(List.range k).filter (λj=>decide (j=k))=[]:=ip.mpr λx hx=>by have:=cX.mp hx;simp;omega
   simp[this]
  ·have hm:¬m=k:=λz=>e z.symm;rw[tj (m:=m) (by omega)];simp[hm]
theorem oT{b s:Bool}{j k:Nat}(h1:cQ b s j=true)(h2:cQ b s k=true)(h:j=k+1):False:=by
 subst h;simp only[cQ,jc,beq_iff_eq] at h1 h2;cases b<;>cases s<;>cases hk:odd k<;>simp[hk] at h1 h2
theorem fE.only{ns:List Int}(O:fE ns){b s:Bool}{i k:Nat}(hk:k<=ns.length)(hs:cQ b s k=true)(h:k=i\/k+1=i):(bJ b ns s (ns.length+1)).filter (pI (bQ ns i))=[cH ns k]:=by
 unfold bJ;rw[List.filter_map,List.filter_filter];have e:(List.range (ns.length+1)).filter (λa=>(pI (bQ ns i)∘cH ns) a&&cQ b s a)=(List.range (ns.length+1)).filter (λj=>decide (j=k)):=by
  refine List.filter_congr λj hj=>?_;have hj:=cX.mp hj;show (pI (bQ ns i) (cH ns j)&&cQ b s j)=_;rw[O.has_iff (by omega) (by omega)];by_cases e:j=k
  ·subst e;simp[hs,h]
  ·cases hsj:cQ b s j with
   | false=>simp[e]
   | true=>
    have:¬(j=i\/j+1=i):=λz=>by
     have:j=k+1\/k=j+1:=by omega
     rcases this with z | z
     ·exact oT hsj hs z
     ·exact oT hs hsj z
    simp[this,e]
 rw[e,tj (by omega)];rfl
theorem CL(ns:List Int)(i:Nat):(cH ns i).1+(cH ns i).2=bQ ns i+bQ ns (i+1):=by
 show min (bQ ns i) (bQ ns (i+1))+max (bQ ns i) (bQ ns (i+1))=_;omega
structure dh (b:Bool) (ns:List Int) (s:Bool) (L:List Bw):Prop where
 perm:L.Perm (bJ b ns s (ns.length+1))
 asc:L.Pairwise leB
theorem dh.len{b:Bool}{ns:List Int}{s:Bool}{L:List Bw}(h:dh b ns s L)(O:fE ns):L.length<=21:=by
 have h1:=h.perm.length_eq;have h2:=gi b ns s (ns.length+1);have:=O.len;omega
theorem dh.lt{b:Bool}{ns:List Int}{s:Bool}{L:List Bw}(h:dh b ns s L)(O:fE ns):∀p∈L,p.1<p.2:=λp hp=>by
 obtain⟨i,hi,_,rfl⟩:=eX (h.perm.mem_iff.mp hp);exact O.step_lt (by omega)
theorem xO{x y:Int}{ms:List Int}(h:ms.Perm [x,y])(hs:ms.Pairwise (·<=·)):ms=[min x y,max x y]:=by
 have:(if x<=y then [x,y] else [y,x]).Perm [x,y]:=by
  by_cases e:x<=y
  ·rw[if_pos e]
  ·rw[if_neg e];exact List.Perm.swap x y []
 have e2:[min x y,max x y]=(if x<=y then [x,y] else [y,x]):=by
  by_cases e:x<=y
  ·rw[if_pos e];simp[Int.min_def,Int.max_def,e]
  ·rw[if_neg e];have:y<=x:=by omega
   simp[Int.min_def,Int.max_def,e]
 rw[e2];refine List.Perm.eq_of_pairwise (le:=(·<=·)) (λa b _ _ h h'=>by omega) hs ?_ (h.trans this.symm);by_cases e:x<=y
 ·rw[if_pos e];simp[e]
 ·rw[if_neg e];simp;omega
theorem GC{ns:List Int}{i:Nat}(h:i<=ns.length):wv ((eJ ns).map V.int) (some (0+(i:Int))) (some (0+(i:Int)+2))=[bQ ns i,bQ ns (i+1)].map V.int:=by
 have e1:HT.sIx ((eJ ns).map V.int).length 0 (some (0+(i:Int)))=i:=by
  show (if (0+(i:Int))<0 then (0+(i:Int)+(((eJ ns).map V.int).length:Int)).toNat else min (0+(i:Int)).toNat ((eJ ns).map V.int).length)=i;rw[if_neg (by omega),aA,iS];omega
 have e2:HT.sIx ((eJ ns).map V.int).length ((eJ ns).map V.int).length (some (0+(i:Int)+2))=i+2:=by
  show (if (0+(i:Int)+2)<0 then (0+(i:Int)+2+(((eJ ns).map V.int).length:Int)).toNat else min (0+(i:Int)+2).toNat ((eJ ns).map V.int).length)=i+2;rw[if_neg (by omega),aA,iS];omega
 unfold wv;rw[e1,e2,show i+2-i=2 by omega,<-List.map_drop,<-List.map_take];congr 1;have h1:=aF.mp (iA (ns:=ns) (i:=i) (by omega));have h2:=aF.mp (iA (ns:=ns) (i:=i+1) (by omega));rw[cT h1.1,cT h2.1,h1.2,h2.2];rfl
def eV(H:Hp)(m o:Addr)(b:Bool)(ns:List Int):Prop:=H m=some (.tup [.str (sd b),.ref o])/\H o=some (.tup (ns.map V.int))
theorem eV.same{H H':Hp}{m o:Addr}{b:Bool}{ns:List Int}(h:eV H m o b ns)(s:ak H H'):eV H' m o b ns:=⟨s _ _ h.1,s _ _ h.2⟩
def zW:Sp:=λvs H Q _=>∃b,vs=[.str (sd b)]/\Q (.str (sd !b)) H
def vc:Sp:=λvs H Q _=>∃m o b ns,∃k:Nat,vs=[.ref m,.int k]/\eV H m o b ns/\Q (.str (sd (b ^^ odd k))) H
def CS:Sp:=λvs H Q _=>∃m o b ns,vs=[.ref m]/\eV H m o b ns/\ns.length<=40/\∀l H',H l=none->ak H H'->H' l=some (.lst ((eJ ns).map V.int))->Q (.ref l) H'
structure Jk (H:Hp) (t l r:Addr) (b:Bool) (ns:List Int) (L R:List Bw):Prop where
 tup:H t=some (.tup [.ref l,.ref r])
 left:cY H l L
 right:cY H r R
 isL:dh b ns false L
 isR:dh b ns true R
 ne:l≠r
def rO:Sp:=λvs H Q _=>∃m o b ns,vs=[.ref m]/\eV H m o b ns/\fE ns/\∀t l r L R H',H t=none->H l=none->H r=none->ak H H'->Jk H' t l r b ns L R->Q (.ref t) H'
theorem oG{H:Hp}{l t:Addr}{as:List Addr}{ps:List Bw}{p:Bw}(h1:H l=some (.lst (as.map V.ref)))(h2:Paired (bZ H) as ps)(ht:bZ H t p):cY (upd H l (.lst (as.map V.ref++[.ref t]))) l (ps++[p]):=by
 have st:∀{a:Addr} {p:Bw},bZ H a p->bZ (upd H l (.lst (as.map V.ref++[.ref t]))) a p:=fun {a p} h=>by
  have:a≠l:=λe=>by subst e;unfold bZ at h;rw[h1] at h;cases h
  unfold bZ;rw[aP this];exact h
 refine⟨as++[t],by rw[aD,aW];rfl,?_⟩;clear h1;generalize upd H l (.lst (as.map V.ref++[.ref t]))=H' at st ⊢
 induction h2 with
 | nil=>exact .cons (st ht) .nil
 | cons a b ih=>exact .cons (st a) ih
theorem qA{α β:Type}{F:α->β->Prop}{l:List α}{m:List β}{a:α}{b:β}(h:Paired F l m)(hb:F a b):Paired F (l++[a]) (m++[b]):=by
 induction h with
 | nil=>exact .cons hb .nil
 | cons x y ih=>exact .cons x ih
abbrev Oe:=Int×Int
def chain:Bool->List Int->Bool->List Bw
 | s,a::b::rest,t=>(if (!s)=t then [(min a b,max a b)] else [])++chain (!s) (b::rest) t
 | _,_,_=>[]
def fy(s:Bool)(R:List Int):Bool:=s ^^ odd R.length
def Ax(R:List Int):Int:=R.head?.getD 0
def ltZ(R:List Int):Int:=R.getLast?.getD 0
theorem sG(s:Bool)(a:Int)(R:List Int):fy s (a::R)=fy (!s) R:=by
 unfold fy;rw[cG,jc];cases s<;>cases odd R.length<;>rfl
theorem yY(s:Bool)(R:List Int)(r:Int):fy s (R++[r])=!fy s R:=by
 unfold fy;rw[af,cP,jc];cases s<;>cases odd R.length<;>rfl
theorem Di(R:List Int)(r:Int):ltZ (R++[r])=r:=by simp[ltZ]
theorem Dj(a b:Int)(R:List Int):ltZ (a::b::R)=ltZ (b::R):=by simp[ltZ]
theorem AG(R:List Int):Ax R.reverse=ltZ R:=by simp[Ax,ltZ]
theorem vC(R:List Int):ltZ R.reverse=Ax R:=by simp[Ax,ltZ]
theorem AH{R S:List Int}(h:R≠[]):Ax (R++S)=Ax R:=by cases R with | nil=>exact absurd rfl h | cons a R=>rfl
theorem zo{R S:List Int}(h:S≠[]):ltZ (R++S)=ltZ S:=by
 unfold ltZ;rw[List.getLast?_append];cases e:S.getLast? with
 | none=>exact absurd (List.getLast?_eq_none_iff.mp e) h
 | some x=>rfl
theorem oZ:∀{R:List Int} (s:Bool) (r:Int) (S:List Int) (t:Bool),R≠[]->chain s (R++r::S) t=chain s R t++(if fy s R=t then [(min (ltZ R) r,max (ltZ R) r)] else [])++chain (fy s R) (r::S) t
 | [a],s,r,S,t,_=>by
  show (if (!s)=t then [(min a r,max a r)] else [])++chain (!s) (r::S) t=[]++_++_;have e:fy s [a]=!s:=by cases s<;>rfl
  rw[e];rfl
 | a::b::R,s,r,S,t,_=>by
  show (if (!s)=t then [(min a b,max a b)] else [])++chain (!s) ((b::R)++r::S) t=((if (!s)=t then [(min a b,max a b)] else [])++chain (!s) (b::R) t)++_++_;rw[oZ (!s) r S t (by simp),sG s a (b::R),Dj];simp only[cK]
theorem chain_snoc{R:List Int}(s:Bool)(r:Int)(t:Bool)(h:R≠[]):chain s (R++[r]) t=chain s R t++(if fy s R=t then [(min (ltZ R) r,max (ltZ R) r)] else []):=by
 rw[oZ s r [] t h];show _++[]=_;rw[cV]
theorem qJ:∀(R:List Int) (s t:Bool),(chain (fy s R) R.reverse t).Perm (chain s R t)
 | [],_,_=>.refl _
 | [a],s,t=>.refl _
 | a::b::R,s,t=>by
  have ih:=qJ (b::R) (!s) t;rw[gT,sG,chain_snoc _ _ _ (by simp)];have e:fy (fy (!s) (b::R)) (b::R).reverse=!s:=by
   unfold fy;rw[e8];cases s<;>cases odd (b::R).length<;>rfl
  rw[e,vC];show (chain (fy (!s) (b::R)) (b::R).reverse t++(if (!s)=t then [(min b a,max b a)] else [])).Perm ((if (!s)=t then [(min a b,max a b)] else [])++chain (!s) (b::R) t);rw[Int.min_comm b a,Int.max_comm b a];exact dU.trans (ih.append_left _)
structure Pc where
 lab:Int
 rows:List Int
 s:Bool
 main:Bool
def Pc.fst(p:Pc):Oe×Bool:=((Ax p.rows,p.lab),p.s)
def Pc.lst(p:Pc):Oe×Bool:=((ltZ p.rows,p.lab),fy p.s p.rows)
def Pc.more(p:Pc):List (Oe×Bool):=if p.main then [] else [p.fst]
def Pc.ends(p:Pc):List (Oe×Bool):=p.lst::p.more
def Pc.rev(p:Pc):Pc:={ p with rows:=p.rows.reverse,s:=fy p.s p.rows }
def Pc.bows(t:Bool)(p:Pc):List Bw:=chain p.s p.rows t
theorem ur(p:Pc):p.rev.lst=p.fst:=by
 show ((ltZ p.rows.reverse,p.lab),fy (fy p.s p.rows) p.rows.reverse)=((Ax p.rows,p.lab),p.s)
 rw[vC];congr 1;unfold fy;rw[e8];cases p.s<;>cases odd p.rows.length<;>rfl
theorem Es(p:Pc):p.rev.fst=p.lst:=by
 show ((Ax p.rows.reverse,p.lab),fy p.s p.rows)=_;rw[AG];rfl
def eF(st:Bool->List Oe):List (Oe×Bool):=(st false).map (·,false)++(st true).map (·,true)
theorem mG{st:Bool->List Oe}{t:Bool}{st':List Oe}{e:Oe}(h:st t=st'++[e]):(eF st).Perm ((e,t)::eF λu=>if u=t then st' else st u):=by
 unfold eF;cases t with
 | false=>
  simp only[h,if_true,iO,if_false,aW,ao,fF,cK,gC,fW];exact de
 | true=>
  simp only[h,if_true,bN,if_false,aW,ao,fF];rw[<-cK];exact dU
theorem nK{st:Bool->List Oe}{t:Bool}{e:Oe}:(eF λu=>if u=t then st u++[e] else st u).Perm ((e,t)::eF st):=by
 have h:=mG (st:=λu=>if u=t then st u++[e] else st u) (t:=t) (st':=st t) (e:=e) (by simp);refine h.trans ?_;have:(λu=>if u=t then st t else if u=t then st u++[e] else st u)=st:=by
  funext u;by_cases z:u=t
  ·simp[z]
  ·simp[z]
 rw[this]
structure qL (st:List Oe) (f:List Bw) (r:Nat):Prop where
 inc:st.Pairwise fun a b=>a.1<b.1
 low:∀ e∈st,0<=e.1/\e.1<r
 bow:∀ p∈f,0<=p.1/\p.1<p.2/\p.2<r
 nc:∀ p∈f,∀ q∈f,eU p q=false
 un:∀ p∈f,∀ e∈st,¬ (p.1<e.1/\e.1<p.2)
theorem qL.keep{st:List Oe}{f:List Bw}{r:Nat}(S:qL st f r):qL st f (r+1):=
 ⟨S.inc,λe h=>by have:=S.low e h;omega,λp h=>by have:=S.bow p h;omega,S.nc,S.un⟩
theorem qL.push{st:List Oe}{f:List Bw}{r:Nat}(S:qL st f r)(l:Int):qL (st++[((r:Int),l)]) f (r+1):=by
 refine⟨jf.mpr ⟨S.inc,by simp,λa ha b hb=>?_⟩,λe h=>?_,λp h=>by have:=S.bow p h;omega,S.nc,λp hp e h=>?_⟩
 ·have e:b=((r:Int),l):=by simpa using hb
  subst e;exact(S.low a ha).2
 ·rcases aU.mp h with z | z
  ·have:=S.low e z;omega
  ·have e':e=((r:Int),l):=by simpa using z
   subst e';simp only;omega
 ·rcases aU.mp h with z | z
  ·exact S.un p hp e z
  ·have e':e=((r:Int),l):=by simpa using z
   subst e';have:=S.bow p hp;simp only;omega
theorem qL.close{st:List Oe}{f:List Bw}{r:Nat}{o l:Int}(S:qL (st++[(o,l)]) f r):qL st (f++[(o,(r:Int))]) (r+1):=by
 have ho:=S.low (o,l) (by simp);simp only at ho;have low:∀e∈st,e.1<o:=λe he=>(jf.mp S.inc).2.2 e he (o,l) (by simp);have cr:∀p q:Bw,(¬(p.1<q.1/\q.1<p.2/\p.2<q.2))->eU p q=false:=λp q h=>by
  unfold eU;by_cases a:p.1<q.1
  ·by_cases b:q.1<p.2
   ·have c:¬p.2<q.2:=λc=>h ⟨a,b,c⟩;simp[c]
   ·simp[b]
  ·simp[a]
 refine⟨(jf.mp S.inc).1,λe h=>by have:=S.low e (bu _ h);omega,λp h=>?_,λp hp q hq=>?_,λp hp e h=>?_⟩
 ·rcases aU.mp h with z | z
  ·have:=S.bow p z;omega
  ·have e':p=(o,(r:Int)):=by simpa using z
   subst e';simp only;omega
 ·rcases aU.mp hp with z | z
  ·rcases aU.mp hq with y | y
   ·exact S.nc p z q y
   ·have e':q=(o,(r:Int)):=by simpa using y
    subst e';have h1:=S.un p z (o,l) (by simp);exact cr _ _ λh=>h1 ⟨h.1,h.2.1⟩
  ·have e':p=(o,(r:Int)):=by simpa using z
   subst e';rcases aU.mp hq with y | y
   ·have h1:=S.bow q y;exact cr _ _ λh=>by simp only at h;omega
   ·have e':q=(o,(r:Int)):=by simpa using y
    subst e';exact cr _ _ λh=>by simp only at h;omega
 ·have h1:=low e h;rcases aU.mp hp with z | z
  ·exact S.un p z e (bu _ h)
  ·have e':p=(o,(r:Int)):=by simpa using z
   subst e';simp only;omega
theorem qL.map{st:List Oe}{f:List Bw}{r:Nat}(S:qL st f r)(g:Int->Int):qL (st.map λe=>(e.1,g e.2)) f r:=by
 refine⟨?_,λe h=>?_,S.bow,S.nc,λp hp e h=>?_⟩
 ·rw[c9];exact S.inc
 ·obtain⟨x,hx,rfl⟩:=aT.mp h;exact S.low x hx
 ·obtain⟨x,hx,rfl⟩:=aT.mp h;exact S.un p hp x hx
structure Gr (b:Bool) (st:Bool->List Oe) (f:Bool->List Bw) (r:Nat) (is:List Pc):Prop where
 ne:∀ p∈is,p.rows≠[]
 rows:(is.flatMap Pc.rows).Perm (gV 0 r)
 labs:(is.map Pc.lab).Nodup
 lr:∀ p∈is,p.lab<r
 one:is.countP Pc.main=1
 hd:∀ p∈is,p.main=true->p.rows.head? = some 0/\p.s=!b
 ends:(eF st).Perm (is.flatMap Pc.ends)
 bows:∀ t,(f t).Perm (is.flatMap (Pc.bows t))
 stk:∀ t,qL (st t) (f t) r
section
variable {b:Bool} {st:Bool->List Oe} {f:Bool->List Bw} {r:Nat} {is js:List Pc} {p q:Pc}
theorem Gr.perm(G:Gr b st f r is)(h:is.Perm js):Gr b st f r js:=
 ⟨λp hp=>G.ne p (h.mem_iff.mpr hp),(h.flatMap_right _).symm.trans G.rows,(h.map _).nodup_iff.mp G.labs,λp hp=>G.lr p (h.mem_iff.mpr hp),(h.countP_eq _).symm.trans G.one,λp hp=>G.hd p (h.mem_iff.mpr hp),
  G.ends.trans (h.flatMap_right _),λt=>(G.bows t).trans (h.flatMap_right _),G.stk⟩
theorem Gr.flip(G:Gr b st f r (p::is))(h:p.main=false):Gr b st f r (p.rev::is):=by
 have more:p.more=[p.fst]:=by unfold Pc.more;rw[h];rfl
 have more':p.rev.more=[p.lst]:=by
  unfold Pc.more;rw[show p.rev.main=false from h,Es];rfl
 refine⟨λq hq=>?_,?_,G.labs,λq hq=>?_,?_,λq hq hm=>?_,?_,λt=>?_,G.stk⟩
 ·rcases aJ.mp hq with z | z
  ·subst z;exact λe=>G.ne p ar (lZ.mp e)
  ·exact G.ne q (aM _ z)
 ·exact((ii p.rows).append_right _).trans G.rows
 ·rcases aJ.mp hq with z | z
  ·subst z;exact G.lr p ar
  ·exact G.lr q (aM _ z)
 ·have:=G.one;rw[cU] at this ⊢;exact this
 ·rcases aJ.mp hq with z | z
  ·subst z;rw[show p.rev.main=false from h] at hm;cases hm
  ·exact G.hd q (aM _ z) hm
 ·refine G.ends.trans ?_;rw[aw,aw];refine List.Perm.append_right _ ?_;unfold Pc.ends;rw[more,more',ur];exact List.Perm.swap _ _ _
 ·refine(G.bows t).trans ?_;rw[aw,aw];exact(qJ p.rows p.s t).symm.append_right _
theorem Gr.pick(G:Gr b st f r is){e:Oe×Bool}(h:e∈eF st):∃p js,p.lst=e/\Gr b st f r (p::js)/\∀q∈js,q∈is:=by
 obtain⟨p,hp,he⟩:=jV.mp (G.ends.mem_iff.mp h);obtain⟨A,B,rfl⟩:=List.append_of_mem hp;have G1:=G.perm de;have sub:∀q∈A++B,q∈A++p::B:=λq hq=>by
  rcases aU.mp hq with z | z
  ·exact bu _ z
  ·exact bI _ (aM _ z)
 rcases aJ.mp he with z | z
 ·exact⟨p,A++B,z.symm,G1,sub⟩
 ·unfold Pc.more at z;cases hm:p.main with
  | true=>rw[hm] at z;cases z
  | false=>
   rw[hm] at z;have e':e=p.fst:=by simpa using z
   exact⟨p.rev,A++B,by rw[ur,e'],G1.flip hm,sub⟩
theorem rW(r:Nat):gV 0 (r+1)=gV 0 r++[(r:Int)]:=by
 unfold gV;rw[dv,aW];simp
theorem Gr.opA(G:Gr b st f r is):Gr b (λu=>st u++[((r:Int),(r:Int))]) f (r+1) (⟨r,[(r:Int)],false,false⟩::is):=by
 refine⟨λq hq=>?_,?_,?_,λq hq=>?_,?_,λq hq hm=>?_,?_,λt=>?_,λt=>(G.stk t).push _⟩
 ·rcases aJ.mp hq with z | z
  ·subst z;simp
  ·exact G.ne q z
 ·rw[rW];exact(G.rows.cons (r:Int)).trans (dU (l₁:=[(r:Int)]) (l₂:=gV 0 r))
 ·rw[ao,ba];refine⟨λz=>?_,G.labs⟩;obtain⟨q,hq,e⟩:=aT.mp z;have:=G.lr q hq;simp only at e;omega
 ·rcases aJ.mp hq with z | z
  ·subst z;simp only;omega
  ·have:=G.lr q z;omega
 ·rw[cU,G.one];rfl
 ·rcases aJ.mp hq with z | z
  ·subst z;cases hm
  ·exact G.hd q z hm
 ·have h1:=nK (st:=st) (t:=false) (e:=((r:Int),(r:Int)));have h2:=nK (st:=λu=>if u=false then st u++[((r:Int),(r:Int))] else st u) (t:=true) (e:=((r:Int),(r:Int)));have e:(λu=>if u=true then (if u=false then st u++[((r:Int),(r:Int))] else st u)++[((r:Int),(r:Int))] else if u=false then st u++[((r:Int),(r:Int))] else st u)=λu=>st u++[((r:Int),(r:Int))]:=by
   funext u;cases u<;>rfl
  rw[e] at h2;refine h2.trans ((h1.cons _).trans ?_);rw[aw];exact((G.ends.cons _).cons _)
 ·refine(G.bows t).trans ?_;rw[aw];exact .refl _
theorem Gr.ext{t:Bool}{st':List Oe}{o l:Int}(G:Gr b st f r (p::is))(hl:p.lst=((o,l),t))(hs:st t=st'++[(o,l)]):
  Gr b (λu=>if u=t then st' else st u++[((r:Int),l)]) (λu=>if u=t then f u++[(o,(r:Int))] else f u) (r+1) ({ p with rows:=p.rows++[(r:Int)] }::is):=by
 have pne:=G.ne p ar;have e1:ltZ p.rows=o:=congrArg (λx=>x.1.1) hl;have e2:p.lab=l:=congrArg (λx=>x.1.2) hl;have e3:fy p.s p.rows=t:=congrArg (λx=>x.2) hl;have low:=(G.stk t).low (o,l) (by rw[hs];simp);simp only at low;have lst':Pc.lst { p with rows:=p.rows++[(r:Int)] }=(((r:Int),l),!t):=by
  show ((ltZ (p.rows++[(r:Int)]),p.lab),fy p.s (p.rows++[(r:Int)]))=_;rw[Di,yY,e2,e3]
 have more':Pc.more { p with rows:=p.rows++[(r:Int)] }=p.more:=by
  unfold Pc.more Pc.fst;rw[AH pne]
 refine⟨λq hq=>?_,?_,G.labs,λq hq=>?_,?_,λq hq hm=>?_,?_,λu=>?_,λu=>?_⟩
 ·rcases aJ.mp hq with z | z
  ·subst z;simp
  ·exact G.ne q (aM _ z)
 ·have h1:=G.rows;rw[aw] at h1 ⊢;rw[rW];show ((p.rows++[(r:Int)])++is.flatMap Pc.rows).Perm _;rw[cK];exact(de (l₁:=p.rows) (a:=(r:Int)) (l₂:=is.flatMap Pc.rows)).trans ((h1.cons _).trans (dU (l₁:=[(r:Int)])))
 ·rcases aJ.mp hq with z | z
  ·subst z;have:=G.lr p ar;simp only;omega
  ·have:=G.lr q (aM _ z);omega
 ·have:=G.one;rw[cU] at this ⊢;exact this
 ·rcases aJ.mp hq with z | z
  ·subst z;obtain⟨a,c⟩:=G.hd p ar hm;refine⟨?_,c⟩;show (p.rows++[(r:Int)]).head? = _;rw[List.head?_append,a];rfl
  ·exact G.hd q (aM _ z) hm
 ·have h1:=(mG hs).symm.trans G.ends;rw[aw] at h1 ⊢;have h2:(eF λu=>if u=t then st' else st u).Perm (p.more++is.flatMap Pc.ends):=by
   have e:p.ends++is.flatMap Pc.ends=((o,l),t)::(p.more++is.flatMap Pc.ends):=by
    unfold Pc.ends;rw[hl];rfl
   rw[e] at h1;exact h1.cons_inv
  have e:(λu=>if u=t then st' else st u++[((r:Int),l)])=λu=>if u=(!t) then (if u=t then st' else st u)++[((r:Int),l)] else (if u=t then st' else st u):=by
   funext u;cases u<;>cases t<;>rfl
  rw[e];refine nK.trans ((h2.cons _).trans ?_);have e4:Pc.ends { p with rows:=p.rows++[(r:Int)] }=(((r:Int),l),!t)::p.more:=by
   unfold Pc.ends;rw[lst',more']
  rw[e4];exact .refl _
 ·have h1:=G.bows u;rw[aw] at h1 ⊢;have e4:Pc.bows u { p with rows:=p.rows++[(r:Int)] }=p.bows u++if u=t then [(o,(r:Int))] else []:=by
   show chain p.s (p.rows++[(r:Int)]) u=chain p.s p.rows u++_;rw[chain_snoc _ _ _ pne,e1,e3];have m1:min o (r:Int)=o:=by omega
   have m2:max o (r:Int)=(r:Int):=by omega
   rw[m1,m2];congr 1;cases t<;>cases u<;>rfl
  rw[e4];by_cases z:u=t
  ·rw[if_pos z,if_pos z,cK];exact(h1.append_right _).trans (by rw[cK];exact jH _ dU)
  ·rw[if_neg z,if_neg z,cV];exact h1
 ·by_cases z:u=t
  ·subst z;simp only[if_true];have:=G.stk u;rw[hs] at this;exact this.close
  ·simp only[z,if_false];exact(G.stk u).push l
theorem Gr.pick2{o1 l1 o2 l2:Int}{n' f':List Oe}(G:Gr b st f r is)(h1:st false=n'++[(o1,l1)])(h2:st true=f'++[(o2,l2)])(hne:l1≠l2):∃p q js,p.lst=((o1,l1),false)/\q.lst=((o2,l2),true)/\Gr b st f r (p::q::js):=by
 obtain⟨p,js,hp,G1,_⟩:=G.pick (e:=((o1,l1),false)) (by unfold eF;rw[h1];simp);have hm:((o2,l2),true)∈eF st:=by unfold eF;rw[h2];simp
 obtain⟨q,hq,he⟩:=jV.mp (G1.ends.mem_iff.mp hm);have lab:∀(x:Pc) e,e∈x.ends->e.1.2=x.lab:=λx e h=>by
  rcases aJ.mp h with z | z
  ·subst z;rfl
  ·unfold Pc.more at z;cases hm:x.main with
   | true=>rw[hm] at z;cases z
   | false=>
    rw[hm] at z;have e':e=x.fst:=by simpa using z
    subst e';rfl
 have pl:p.lab=l1:=congrArg (λx=>x.1.2) hp;have ql:=lab q _ he;rcases aJ.mp hq with z | z
 ·subst z;simp only at ql;exact absurd (pl.symm.trans ql.symm) hne
 ·obtain⟨A,B,rfl⟩:=List.append_of_mem z;have G2:Gr b st f r (q::p::(A++B)):=G1.perm ((de.cons p).trans (List.Perm.swap _ _ _));rcases aJ.mp he with y | y
  ·exact⟨p,q,A++B,hp,y.symm,G2.perm (List.Perm.swap _ _ _)⟩
  ·unfold Pc.more at y;cases hm:q.main with
   | true=>rw[hm] at y;cases y
   | false=>
    rw[hm] at y;have e':((o2,l2),true)=q.fst:=by simpa using y
    exact⟨p,q.rev,A++B,hp,by rw[ur,<-e'],(G2.flip hm).perm (List.Perm.swap _ _ _)⟩
def gS(x y:Int)(e:Oe):Oe:=(e.1,if e.2=x then y else e.2)
theorem Gr.join0{ta:Bool}{o:Bool->Int}{la lb l1 l2:Int}{st':Bool->List Oe}(G:Gr b st f r (p::q::is))(hp:p.lst=((o ta,la),ta))(hq:q.lst=((o (!ta),lb),!ta))(hs:∀u,st u=st' u++[(o u,if u=ta then la else lb)])(hm:q.main=false)(hlab:(l1=la/\l2=lb)\/(l1=lb/\l2=la)):
  Gr b (λu=>(st' u).map (gS l2 l1)) (λu=>f u++[(o u,(r:Int))]) (r+1) (⟨l1,p.rows++(r:Int)::q.rows.reverse,p.s,p.main⟩::is):=by
 have pne:=G.ne p ar;have qne:=G.ne q (aM _ ar);have qrne:q.rows.reverse≠[]:=λe=>qne (lZ.mp e);have p1:ltZ p.rows=o ta:=congrArg (λx=>x.1.1) hp;have p2:p.lab=la:=congrArg (λx=>x.1.2) hp;have p3:fy p.s p.rows=ta:=congrArg (λx=>x.2) hp;have q1:ltZ q.rows=o (!ta):=congrArg (λx=>x.1.1) hq;have q2:q.lab=lb:=congrArg (λx=>x.1.2) hq;have q3:fy q.s q.rows=!ta:=congrArg (λx=>x.2) hq;have low:∀u,0<=o u/\o u<r:=λu=>(G.stk u).low (o u,if u=ta then la else lb) (by rw[hs u];simp);have nd:=G.labs;rw[ao,ao,ba,ba,p2,q2] at nd;obtain⟨n1,n2,n3⟩:=nd;have nab:la≠lb:=λe=>n1 (by rw[e];exact ar);have nla:∀x∈is,x.lab≠la:=λx hx e=>n1 (aM _ (aT.mpr ⟨x,hx,e⟩));have nlb:∀x∈is,x.lab≠lb:=λx hx e=>n2 (aT.mpr ⟨x,hx,e⟩);have n1':∀x∈is,x.lab≠l1:=λx hx=>by rcases hlab with ⟨e,_⟩ | ⟨e,_⟩<;>rw[e];exact nla x hx;exact nlb x hx
 have n2':∀x∈is,x.lab≠l2:=λx hx=>by rcases hlab with ⟨_,e⟩ | ⟨_,e⟩<;>rw[e];exact nlb x hx;exact nla x hx
 have rla:(if la=l2 then l1 else la)=l1:=by
  rcases hlab with ⟨e,e'⟩ | ⟨e,e'⟩
  ·rw[e',if_neg nab,e]
  ·rw[e',if_pos rfl]
 have rlb:(if lb=l2 then l1 else lb)=l1:=by
  rcases hlab with ⟨e,e'⟩ | ⟨e,e'⟩
  ·rw[e',if_pos rfl]
  ·rw[e',if_neg nab.symm,e]
 refine⟨λx hx=>?_,?_,?_,λx hx=>?_,?_,λx hx hmx=>?_,?_,λu=>?_,λu=>?_⟩
 ·rcases aJ.mp hx with z | z
  ·subst z;simp
  ·exact G.ne x (aM _ (aM _ z))
 ·have h1:=G.rows;rw[aw,aw] at h1;rw[aw,rW];show ((p.rows++(r:Int)::q.rows.reverse)++is.flatMap Pc.rows).Perm _;rw[cK,gC];refine de.trans (List.Perm.trans ?_ (dU (l₁:=[(r:Int)])));refine List.Perm.cons _ (List.Perm.trans ?_ h1);exact jH _ ((ii q.rows).append_right _)
 ·rw[ao,ba];refine⟨λz=>?_,n3⟩;obtain⟨x,hx,e⟩:=aT.mp z;exact n1' x hx e
 ·rcases aJ.mp hx with z | z
  ·subst z;have h1:=G.lr p ar;have h2:=G.lr q (aM _ ar);simp only;rcases hlab with ⟨e,_⟩ | ⟨e,_⟩<;>rw[e]<;>omega
  ·have:=G.lr x (aM _ (aM _ z));omega
 ·have:=G.one;rw[cU,cU,hm] at this;rw[cU];simpa using this
 ·rcases aJ.mp hx with z | z
  ·subst z;obtain⟨a,c⟩:=G.hd p ar hmx;refine⟨?_,c⟩;show (p.rows++(r:Int)::q.rows.reverse).head? = _;rw[List.head?_append,a];rfl
  ·exact G.hd x (aM _ (aM _ z)) hmx
 ·have h0:(eF st).Perm (((o ta,la),ta)::((o (!ta),lb),!ta)::eF st'):=by
   have e1:(eF st).Perm _:=mG (t:=ta) (hs ta);refine e1.trans ?_;rw[if_pos rfl];refine List.Perm.cons _ ?_;have e2:=mG (st:=λu=>if u=ta then st' ta else st u) (t:=!ta) (st':=st' (!ta)) (e:=(o (!ta),lb)) (by
    have z:¬(!ta)=ta:=by cases ta<;>decide
    simp only[z,if_false];rw[hs (!ta),if_neg z])
   refine e2.trans (List.Perm.cons _ ?_);have:(λu=>if u=(!ta) then st' (!ta) else if u=ta then st' ta else st u)=st':=by
    funext u;cases u<;>cases ta<;>rfl
   rw[this]
  have h1:=h0.symm.trans G.ends;rw[aw,aw] at h1;have eqm:q.more=[q.fst]:=by unfold Pc.more;rw[hm];rfl
  have h2:(eF st').Perm (p.more++(q.fst::is.flatMap Pc.ends)):=by
   have e:(p.ends++(q.ends++is.flatMap Pc.ends)).Perm (((o ta,la),ta)::((o (!ta),lb),!ta)::(p.more++(q.fst::is.flatMap Pc.ends))):=by
    unfold Pc.ends;rw[hp,hq,eqm];refine List.Perm.cons _ ?_;exact de
   exact(h1.trans e).cons_inv.cons_inv
  have hmap:(eF λu=>(st' u).map (gS l2 l1))=(eF st').map λx=>(gS l2 l1 x.1,x.2):=by
   unfold eF;rw[aW,bc,bc,bc,bc];rfl
  rw[hmap];refine(h2.map _).trans ?_;rw[aW,ao,aw];have r1:(is.flatMap Pc.ends).map (λx=>(gS l2 l1 x.1,x.2))=is.flatMap Pc.ends:=by
   have:∀x∈is.flatMap Pc.ends,(gS l2 l1 x.1,x.2)=x:=λx hx=>by
    obtain⟨y,hy,he⟩:=jV.mp hx;have:x.1.2=y.lab:=by
     rcases aJ.mp he with z | z
     ·subst z;rfl
     ·unfold Pc.more at z;cases hm:y.main with
      | true=>rw[hm] at z;cases z
      | false=>
       rw[hm] at z;have e':x=y.fst:=by simpa using z
       subst e';rfl
    unfold gS;rw[if_neg (by rw[this];exact n2' y hy)]
   exact(cA this).trans (nT _)
  have r2:(gS l2 l1 q.fst.1,q.fst.2)=Pc.lst ⟨l1,p.rows++(r:Int)::q.rows.reverse,p.s,p.main⟩:=by
   show ((Ax q.rows,if q.lab=l2 then l1 else q.lab),q.s)=((ltZ (p.rows++(r:Int)::q.rows.reverse),l1),fy p.s (p.rows++(r:Int)::q.rows.reverse))
   rw[q2,rlb,zo (by simp)];have e1:ltZ ((r:Int)::q.rows.reverse)=Ax q.rows:=by
    have:(r:Int)::q.rows.reverse=[(r:Int)]++q.rows.reverse:=rfl;rw[this,zo qrne,vC]
   rw[e1];congr 1;unfold fy at p3 q3 ⊢;rw[af,cG,e8];have:odd (p.rows.length+(q.rows.length+1))=(odd p.rows.length ^^ !odd q.rows.length):=by
    unfold odd;rcases fN p.rows.length with h | h<;>rcases fN q.rows.length with h' | h'<;>simp[Nat.add_mod,h,h']
   rw[this]
   revert p3 q3
   cases p.s<;>cases q.s<;>cases odd p.rows.length<;>cases odd q.rows.length<;>cases ta<;>decide
  have r3:p.more.map (λx=>(gS l2 l1 x.1,x.2))=Pc.more ⟨l1,p.rows++(r:Int)::q.rows.reverse,p.s,p.main⟩:=by
   unfold Pc.more;cases hmp:p.main with
   | true=>rfl
   | false=>
    show [((Ax p.rows,if p.lab=l2 then l1 else p.lab),p.s)]=[((Ax (p.rows++(r:Int)::q.rows.reverse),l1),p.s)]
    rw[AH pne,p2,rla]
  rw[r1,r2,r3];exact de
 ·have h1:=G.bows u;rw[aw,aw] at h1;rw[aw];have e4:(Pc.bows u ⟨l1,p.rows++(r:Int)::q.rows.reverse,p.s,p.main⟩).Perm ((o u,(r:Int))::(p.bows u++q.bows u)):=by
   show (chain p.s (p.rows++(r:Int)::q.rows.reverse) u).Perm _;rw[oZ _ _ _ _ pne,p1,p3];obtain⟨x,R,hR⟩:∃x R,q.rows.reverse=x::R:=by
    cases e:q.rows.reverse with
    | nil=>exact absurd e qrne
    | cons x R=>exact⟨x,R,rfl⟩
   have hx:x=o (!ta):=by
    rw[<-q1,<-AG,hR];rfl
   have e5:chain ta ((r:Int)::q.rows.reverse) u=(if (!ta)=u then [(o (!ta),(r:Int))] else [])++chain (!ta) q.rows.reverse u:=by
    rw[hR];show (if (!ta)=u then [(min (r:Int) x,max (r:Int) x)] else [])++chain (!ta) (x::R) u=_;have:=low (!ta);rw[hx];have m1:min (r:Int) (o (!ta))=o (!ta):=by omega
    have m2:max (r:Int) (o (!ta))=(r:Int):=by omega
    rw[m1,m2]
   have m1:min (o ta) (r:Int)=o ta:=by have:=low ta;omega
   have m2:max (o ta) (r:Int)=(r:Int):=by have:=low ta;omega
   rw[e5,m1,m2];have cq:(chain (!ta) q.rows.reverse u).Perm (q.bows u):=by
    have:=qJ q.rows q.s u;rw[q3] at this;exact this
   by_cases z:ta=u
   ·have z':¬(!ta)=u:=by rw[<-z];cases ta<;>decide
    rw[if_pos z,if_neg z',<-z,fW,cK];refine(de (l₁:=chain p.s p.rows ta) (a:=(o ta,(r:Int))) (l₂:=chain (!ta) q.rows.reverse ta)).trans ?_;rw[<-z] at cq;exact(cq.append_left _).cons _
   ·have z':(!ta)=u:=by revert z;cases ta<;>cases u<;>decide
    rw[if_neg z,if_pos z',cV];refine(de (l₁:=chain p.s p.rows u) (a:=(o (!ta),(r:Int))) (l₂:=chain (!ta) q.rows.reverse u)).trans ?_;rw[<-z'];rw[<-z'] at cq;exact(cq.append_left _).cons _
  refine List.Perm.trans ?_ (e4.symm.append_right _);refine(dU (l₁:=f u) (l₂:=[(o u,(r:Int))])).trans ?_;refine List.Perm.cons _ (h1.trans ?_);show (Pc.bows u p++(Pc.bows u q++is.flatMap (Pc.bows u))).Perm ((Pc.bows u p++Pc.bows u q)++is.flatMap (Pc.bows u));rw[cK]
 ·have:=G.stk u;rw[hs u] at this;exact this.close.map λx=>if x=l2 then l1 else x
theorem Gr.join{o1 l1 o2 l2:Int}{n' f':List Oe}(G:Gr b st f r is)(h1:st false=n'++[(o1,l1)])(h2:st true=f'++[(o2,l2)])(hne:l1≠l2):
  ∃js,Gr b (λu=>(if u then f' else n').map (gS l2 l1)) (λu=>f u++[(if u then o2 else o1,(r:Int))]) (r+1) js:=by
 obtain⟨p,q,js,hp,hq,G2⟩:=G.pick2 h1 h2 hne;cases hm:q.main with
 | false=>
  exact⟨_,G2.join0 (ta:=false) (o:=λu=>if u then o2 else o1) (st':=λu=>if u then f' else n') hp hq (λu=>by cases u;exact h1;exact h2) hm (.inl ⟨rfl,rfl⟩)⟩
 | true=>
  have hm2:p.main=false:=by
   have:=G2.one;rw[cU,cU,hm] at this;cases z:p.main with
   | false=>rfl
   | true=>rw[z] at this;simp at this
  have G3:=G2.perm (List.Perm.swap q p js);exact⟨_,G3.join0 (ta:=true) (o:=λu=>if u then o2 else o1) (st':=λu=>if u then f' else n') hq hp (λu=>by cases u;exact h1;exact h2) hm2 (.inr ⟨rfl,rfl⟩)⟩
theorem Gr.many(G:Gr b st f r is):(st false).length+(st true).length+1=2*is.length:=by
 have h1:=G.ends.length_eq;unfold eF at h1;rw[af,aA,aA] at h1;have h2:∀js:List Pc,(js.flatMap Pc.ends).length+js.countP Pc.main=2*js.length:=by
  intro js
  induction js with
  | nil=>rfl
  | cons p js ih=>
   rw[aw,af,cU,cG];have:p.ends.length+(if p.main=true then 1 else 0)=2:=by
    unfold Pc.ends Pc.more;cases p.main<;>rfl
   omega
 have:=h2 is;rw[G.one] at this;omega
theorem Gr.three(G:Gr b st f r is){x y z:Oe×Bool}{L:List (Oe×Bool)}(h:(eF st).Perm (x::y::z::L)):¬(x.1.2=y.1.2/\y.1.2=z.1.2):=by
 rintro⟨e1,e2⟩;have cnt:∀js:List Pc,(js.map Pc.lab).Nodup->∀l,(js.flatMap Pc.ends).countP (λe=>decide (e.1.2=l))<=2:=by
  intro js
  induction js with
  | nil=>intro _ l;exact a6 _
  | cons p js ih=>
   intro nd l;rw[ao,ba] at nd;rw[aw,List.countP_append];have len:p.ends.length<=2:=by unfold Pc.ends Pc.more;cases p.main<;>simp
   by_cases z:p.lab=l
   ·have:(js.flatMap Pc.ends).countP (λe=>decide (e.1.2=l))=0:=List.countP_eq_zero.mpr λe he=>by
     obtain⟨q,hq,hm⟩:=jV.mp he;have:e.1.2=q.lab:=by
      rcases aJ.mp hm with y | y
      ·subst y;rfl
      ·unfold Pc.more at y;cases hmm:q.main with
       | true=>rw[hmm] at y;cases y
       | false=>
        rw[hmm] at y;have e':e=q.fst:=by simpa using y
        subst e';rfl
     simp only[decide_eq_true_eq];intro w;exact nd.1 (aT.mpr ⟨q,hq,by rw[<-this,w,z]⟩)
    have:=List.countP_le_length (p:=λe:Oe×Bool=>decide (e.1.2=l)) (l:=p.ends);omega
   ·have:p.ends.countP (λe=>decide (e.1.2=l))=0:=List.countP_eq_zero.mpr λe he=>by
     have:e.1.2=p.lab:=by
      rcases aJ.mp he with y | y
      ·subst y;rfl
      ·unfold Pc.more at y;cases hmm:p.main with
       | true=>rw[hmm] at y;cases y
       | false=>
        rw[hmm] at y;have e':e=p.fst:=by simpa using y
        subst e';rfl
     simp only[decide_eq_true_eq];intro w;exact z (by rw[<-this,w])
    have:=ih nd.2 l;omega
 have h1:=cnt is G.labs x.1.2;rw[<-(G.ends.symm.trans h).symm.countP_eq] at h1;rw[cU,cU,cU] at h1;simp only[e1,e2,decide_true,if_true] at h1;omega
theorem Gr.start (b : Bool) : Gr b (fun u => if u = b then [((0 : Int), (0 : Int))] else []) (fun _ => []) 1 [⟨0, [0], !b, true⟩] := by
  refine ⟨fun p hp => ?_, ?_, by simp, fun p hp => ?_, rfl, fun p hp _ => ?_, ?_, fun t => .refl _, fun t => ?_⟩
  · have e : p = ⟨0, [0], !b, true⟩ := by simpa using hp
    subst e; simp
  · exact .refl _
  · have e : p = ⟨0, [0], !b, true⟩ := by simpa using hp
    subst e; exact (by decide : (0 : Int) < 1)
  · have e : p = ⟨0, [0], !b, true⟩ := by simpa using hp
    subst e; exact ⟨rfl, rfl⟩
  · cases b <;> exact .refl _
  · by_cases z : t = b
    · simp only [z, if_true]
      exact ⟨by simp, fun e h => by have e' : e = (0, 0) := by simpa using h
                                    subst e'; decide, fun p h => (nomatch h), fun p h => (nomatch h), fun p h => (nomatch h)⟩
    · simp only [z, if_false]
      exact ⟨.nil, fun p h => (nomatch h), fun p h => (nomatch h), fun p h => (nomatch h), fun p h => (nomatch h)⟩
theorem Gr.last{t:Bool}{o l:Int}(G:Gr b st f r is)(h1:st t=[(o,l)])(h2:st (!t)=[]):
  ∃ns:List Int,ns.length+1=r/\ns.Perm (gV 1 ns.length)/\∀u,(if u=t then f u++[(o,(r:Int))] else f u).Perm (bJ b ns u (ns.length+1))/\∀p∈bJ b ns u (ns.length+1),∀q∈bJ b ns u (ns.length+1),eU p q=false:=by
 have hl:=G.many;have h3:(st false).length+(st true).length=1:=by
  cases t
  ·rw[h1,show st true=[] from h2];rfl
  ·rw[h1,show st false=[] from h2];rfl
 obtain⟨p,rfl⟩:∃p,is=[p]:=by
  match is,(show is.length=1 by omega) with
  | [p],_=>exact⟨p,rfl⟩
 have hm:p.main=true:=by
  have:=G.one;rw[cU] at this;cases z:p.main with
  | true=>rfl
  | false=>rw[z] at this;simp at this
 obtain⟨hd,hs⟩:=G.hd p (by simp) hm;have he:=G.ends;have hp:p.lst=((o,l),t):=by
  have e:eF st=[((o,l),t)]:=by
   unfold eF;cases t
   ·rw[h1,show st true=[] from h2];rfl
   ·rw[h1,show st false=[] from h2];rfl
  rw[e,aw,l6,cV] at he;unfold Pc.ends Pc.more at he;rw[hm] at he;have:=List.perm_singleton.mp he.symm;simpa using this
 have G':=G.ext hp (st':=[]) h1;obtain⟨ns,hns⟩:∃ns,p.rows=0::ns:=by
  cases e:p.rows with
  | nil=>rw[e] at hd;cases hd
  | cons a R=>rw[e] at hd;cases hd;exact⟨R,rfl⟩
 have hr:=G.rows;rw[aw,l6,cV,hns] at hr;have hlen:=hr.length_eq;rw[cG,vy] at hlen;have hr1:ns.Perm (gV 1 ns.length):=by
  have e:gV 0 r=0::gV 1 ns.length:=by
   rw[<-hlen];unfold gV;rw[mN,ao,bc];congr 1;refine cA λi _=>?_;simp only[Function.comp]
   push_cast
   omega
  rw[e] at hr;exact hr.cons_inv
 have er:p.rows++[(r:Int)]=eJ ns:=by
  rw[hns,<-hlen];unfold eJ
  push_cast
  rfl
 have ch:∀(k m:Nat) (u:Bool),m=ns.length+1-k->k<=ns.length+1->chain (!(b ^^ odd k)) ((eJ ns).drop k) u=(((List.range m).map (·+k)).filter (cQ b u)).map (cH ns):=by
  intro k m
  induction m generalizing k with
  | zero=>
   intro u hm hk;have e:k=ns.length+1:=by omega
   have:(eJ ns).drop k=[bQ ns k]:=by
    have h:=aF.mp (iA (ns:=ns) (i:=k) (by omega));rw[cT h.1,h.2,List.drop_of_length_le (by rw[iS];omega)]
   rw[this];rfl
  | succ m ih=>
   intro u hm hk;have h:=aF.mp (iA (ns:=ns) (i:=k) (by omega));have h':=aF.mp (iA (ns:=ns) (i:=k+1) (by omega));have ih':=ih (k+1) u (by omega) (by omega);rw[cT h.1,h.2,cT h'.1,h'.2];show (if (!!(b ^^ odd k))=u then [(min (bQ ns k) (bQ ns (k+1)),max (bQ ns k) (bQ ns (k+1)))] else [])++chain (!!(b ^^ odd k)) (bQ ns (k+1)::(eJ ns).drop (k+1+1)) u=_;have e2:chain (!!(b ^^ odd k)) (bQ ns (k+1)::(eJ ns).drop (k+1+1)) u=(((List.range m).map (·+(k+1))).filter (cQ b u)).map (cH ns):=by
    rw[<-ih',jc];have e3:(!(b ^^ !odd k))=!!(b ^^ odd k):=by cases b<;>cases odd k<;>rfl
    rw[e3];congr 1;rw[cT h'.1,h'.2]
   rw[e2,mN,ao,bc,List.filter_cons];have e4:((λx=>x+k)∘Nat.succ)=λx=>x+(k+1):=by funext x;simp only[Function.comp];omega
   rw[e4];show _=List.map (cH ns) (if cQ b u (0+k)=true then _ else _);rw[Nat.zero_add];have e5:cQ b u k=decide ((!!(b ^^ odd k))=u):=by unfold cQ;cases b<;>cases u<;>cases odd k<;>rfl
   rw[e5];by_cases z:(!!(b ^^ odd k))=u
   ·rw[if_pos z,decide_eq_true z,if_pos rfl];rfl
   ·rw[if_neg z,decide_eq_false z,if_neg a7];rfl
 have sb:∀u,Pc.bows u { p with rows:=p.rows++[(r:Int)] }=bJ b ns u (ns.length+1):=λu=>by
  show chain p.s (p.rows++[(r:Int)]) u=_;have:=ch 0 (ns.length+1) u rfl (a6 _);rw[show odd 0=false from rfl,kY] at this;rw[hs,er];refine Eq.trans this ?_;unfold bJ;congr 2;simp
 have pu:∀u,(if u=t then f u++[(o,(r:Int))] else f u).Perm (bJ b ns u (ns.length+1)):=λu=>by
  have:=G'.bows u;rw[aw,l6,cV,sb u] at this;exact this
 refine⟨ns,hlen,hr1,λu=>⟨pu u,λx hx y hy=>?_⟩⟩;exact(G'.stk u).nc x ((pu u).mem_iff.mpr hx) y ((pu u).mem_iff.mpr hy)
end
def bY(st:Bool->List Oe):List Int:=(st false++(st true).reverse).map (·.2)
def o7(L:List Int):Nat:=if L[0]? = L[1]? then 2 else 1
def xK(st:Bool->List Oe):Nat:=if (bY st).length<=1 then 0 else (((st false).length:Int)-o7 (bY st)).natAbs+3*((bY st).length / 2) - 2
def mX(m:Int):Int:=if m<2 then 0 else 5*(m - 1) / 2 - 2
theorem nY(L:List Int):o7 L=1\/o7 L=2:=by unfold o7;split<;>simp
theorem kT(st:Bool->List Oe):(bY st).length=(st false).length+(st true).length:=by simp[bY]
section
variable {b:Bool} {st:Bool->List Oe} {f:Bool->List Bw} {r:Nat} {is:List Pc}
theorem Gr.phi_need(G:Gr b st f r is):(xK st:Int)<=mX ((st false).length+(st true).length):=by
 have hm:=G.many;have hl:=kT st;unfold xK mX;by_cases h:(bY st).length<=1
 ·rw[if_pos h]
  split<;>omega
 ·rw[if_neg h,if_neg (by omega)];rcases nY (bY st) with e | e<;>rw[e]<;>omega
theorem Gr.tgt_ne(G:Gr b st f r is)(h:1<(bY st).length):∃x y,(bY st)[o7 (bY st) - 1]? = some x/\(bY st)[o7 (bY st)]? = some y/\x≠y:=by
 have hm:=G.many;have hl:=kT st;have h3:3<=(bY st).length:=by omega
 have hE:∃x y z L,(eF st).Perm (x::y::z::L)/\(bY st)[0]? = some x.1.2/\(bY st)[1]? = some y.1.2/\(bY st)[2]? = some z.1.2:=by
  have hp:(eF st).Perm ((st false).map (·,false)++((st true).reverse).map (·,true)):=by
   unfold eF;exact jH _ ((ii _).map _).symm
  have hlab:bY st=((st false).map (·,false)++((st true).reverse).map (·,true)).map (λx:Oe×Bool=>x.1.2):=by
   unfold bY;rw[aW,aW,bc,bc];rfl
  rw[hlab] at h3 ⊢;generalize (st false).map (·,false)++((st true).reverse).map (·,true)=E at hp h3 ⊢
  match E,h3 with
  | x::y::z::L,_=>exact⟨x,y,z,L,hp,rfl,rfl,rfl⟩
 obtain⟨x,y,z,L,hp,e0,e1,e2⟩:=hE;have:=G.three hp;unfold o7;rw[e0,e1];by_cases e:x.1.2=y.1.2
 ·rw[if_pos (by rw[e])];exact⟨_,_,e1,e2,λz=>this ⟨e,z⟩⟩
 ·rw[if_neg (λz=>e (bD z))];exact⟨_,_,e0,e1,e⟩
theorem Ks{far':List Oe}{o l:Int}(h:st true=far'++[(o,l)])(h1:1<(bY st).length)(ht:(st false).length<o7 (bY st)):xK (λu=>if u=true then far' else st u++[((r:Int),l)])+1=xK st:=by
 have e:bY (λu=>if u=true then far' else st u++[((r:Int),l)])=bY st:=by
  unfold bY;simp only[h,bN,if_false,if_true,jw,gT,List.reverse_nil,fW,aW,ao,fF,cK,gC]
 unfold xK;rw[e,if_neg (by omega),if_neg (by omega)];have e2:((λu=>if u=true then far' else st u++[((r:Int),l)]) false).length=(st false).length+1:=by simp
 rw[e2];have:=kT st;omega
theorem Kr{near':List Oe}{o l:Int}(h:st false=near'++[(o,l)])(h1:1<(bY st).length)(ht:o7 (bY st)<(st false).length):xK (λu=>if u=false then near' else st u++[((r:Int),l)])+1=xK st:=by
 have e:bY (λu=>if u=false then near' else st u++[((r:Int),l)])=bY st:=by
  unfold bY;simp only[h,iO,if_false,if_true,jw,gT,List.reverse_nil,fW,aW,ao,fF,cK,gC]
 unfold xK;rw[e,if_neg (by omega),if_neg (by omega)];have e2:(st false).length=near'.length+1:=by rw[h];simp
 have e3:((λu=>if u=false then near' else st u++[((r:Int),l)]) false).length=near'.length:=by simp
 rw[e3];omega
theorem Gr.phi_d{n' f':List Oe}{o1 l1 o2 l2:Int}(G:Gr b st f r is)(h:st false=n'++[(o1,l1)])(h':st true=f'++[(o2,l2)])(h1:1<(bY st).length)(ht:(st false).length=o7 (bY st)):xK (λu=>(if u then f' else n').map (gS l2 l1))+1<=xK st:=by
 have hm:=G.many;have hl:=kT st;have hl2:=kT (λu=>(if u then f' else n').map (gS l2 l1));have e2:(st false).length=n'.length+1:=by rw[h];simp
 have e3:(st true).length=f'.length+1:=by rw[h'];simp
 simp only[bN,if_false,if_true,aA] at hl2;have t1:=nY (bY st);have t2:=nY (bY (λu=>(if u then f' else n').map (gS l2 l1)));unfold xK;rw[if_neg (show ¬(bY st).length<=1 by omega)];have e4:((λu:Bool=>(if u=true then f' else n').map (gS l2 l1)) false).length=n'.length:=by simp
 rw[e4]
 split
 ·omega
 ·rcases t1 with t1 | t1<;>rcases t2 with t2 | t2<;>rw[t1,t2]<;>omega
end
end Rm
namespace L2
open PySem PySem.Spec PyProof.Rows
def Mf(dO:Option Addr)(e:Addr)(h:Heap):Prop:=∃o vs,h.get? e=some o/\(o.dict=dO/\o.data=.fields vs)/\vs[2]? = some .none
def Hm(C:Addr)(E:XK)(t:TA):TS:=λ_ σ H=>t σ H λvs H1=>vs.length<=sizeLine/\E (.ref C) none H1
def tJ(dO:Option Addr)(C a:Addr):HO:=.ext λh=>(∃o,h.get? a=some o/\o.cls=.ref C)/\Mf dO a h
def Li(sp:Sp)(K:PySem.W.Frag)(c:Value)(i:Nat)(t:TA)(ts:Addr->TS):TS:=λD σ H=>t σ H λvs H1=>sp vs H1 (λ_ H2=>D.nx σ H2) λcls dO H2=>
 ∃C,cls=.ref C/\PySem.W.exmOne K (.ref C) c=some true/\∀a,H2 a=none->ts a { nx:=λσ' H'=>D.nx (σ'.set i none) H',rt:=D.rt,bk:=λσ' H'=>D.bk (σ'.set i none) H',ct:=λσ' H'=>D.ct (σ'.set i none) H' } (σ.set i (some (.ref a))) (upd H2 a (tJ dO C a))
section
variable {σ:St} {H:Hp}
theorem yz{C:Addr}{E:XK}{t:TA}{D:Ends}:Hm C E t D σ H=t σ H λvs H1=>vs.length<=sizeLine/\E (.ref C) none H1:=rfl
theorem GU{sp:Sp}{K:PySem.W.Frag}{c:Value}{i:Nat}{t:TA}{ts:Addr->TS}{D:Ends}:Li sp K c i t ts D σ H=t σ H λvs H1=>sp vs H1 (λ_ H2=>D.nx σ H2) λcls dO H2=>
 ∃C,cls=.ref C/\PySem.W.exmOne K (.ref C) c=some true/\∀a,H2 a=none->ts a { nx:=λσ' H'=>D.nx (σ'.set i none) H',rt:=D.rt,bk:=λσ' H'=>D.bk (σ'.set i none) H',ct:=λσ' H'=>D.ct (σ'.set i none) H' } (σ.set i (some (.ref a))) (upd H2 a (tJ dO C a)):=rfl
end
def Kf:V->Option Int->Option Int->Hp->VK->Prop:=λx lo hi H Q=>∃z,x=.str z/\z.length<=sizeLine/\Q (.str (Txt.slice z lo hi)) H
section
variable {X:Cx}
theorem Hz:L8 X Kf:=by
 intro pins s σ H x v vl vu lo hi sl Q I rx hs pl pu h;obtain⟨z,rfl,hz,q⟩:=h;obtain⟨t,rfl⟩:=rx;have fin:∀t' k,EP X pins σ Q (.str (Txt.slice z lo hi) t') { s with toks:=k }:=λt' k=>⟨.str _,H,I.tok k,⟨t',rfl⟩,q⟩
 refine⟨"str",_,F.slot_str_getitem.lookup,typeIs_str _ _ _,?_⟩;cases pl with
 | none=>
  cases pu with
  | none=>exact wpAny_getItem_str_slice (l:=none) (u:=none) (st:=none) hs rfl (post_val_or_str ⟨bU (mH z _ _) hz,fin⟩)
  | int j u=>exact wpAny_getItem_str_slice (l:=none) (u:=some (j,u)) (st:=none) hs rfl (post_val_or_str ⟨bU (mH z _ _) hz,fin⟩)
 | int i w=>
  cases pu with
  | none=>exact wpAny_getItem_str_slice (l:=some (i,w)) (u:=none) (st:=none) hs rfl (post_val_or_str ⟨bU (mH z _ _) hz,fin⟩)
  | int j u=>exact wpAny_getItem_str_slice (l:=some (i,w)) (u:=some (j,u)) (st:=none) hs rfl (post_val_or_str ⟨bU (mH z _ _) hz,fin⟩)
theorem Jw{z:Str}{lo hi:Option Int}{H:Hp}{Q:VK}:Kf (.str z) lo hi H Q=(z.length<=sizeLine/\Q (.str (Txt.slice z lo hi)) H):=
 propext ⟨λ⟨_,e,h⟩=>by cases e;exact h,λh=>⟨z,rfl,h⟩⟩
end
end L2
namespace Rm
open PySem L2
def wo(H:Hp)(m:Addr):Hp:=λb=>if b=m then none else H b
theorem ES(H:Hp)(m:Addr):ak (wo H m) H:=λb o e=>by
 unfold wo at e;by_cases h:b=m
 ·rw[if_pos h] at e;cases e
 ·rw[if_neg h] at e;exact e
theorem HD{H:Hp}{m t:Addr}{o:HO}(h:H t=none):ak (wo H m) (wo (upd H t o) m):=λb u e=>by
 have e':=ES H m b u e;unfold wo at e ⊢;by_cases hb:b=m
 ·rw[if_pos hb] at e;cases e
 ·rw[if_neg hb,aP (au e' h)];exact e'
theorem Jt{H:Hp}{m t:Addr}{u:HO}(h:t≠m)(e:H t=some u):wo H m t=some u:=by unfold wo;rw[if_neg h];exact e
def Fr(A B:Bool->Addr)(H H':Hp):Prop:=∀b o,(∀u,b≠A u/\b≠B u)->H b=some o->H' b=some o
theorem Fr.refl(A B:Bool->Addr)(H:Hp):Fr A B H H:=λ_ _ _ h=>h
theorem Fr.trans{A B:Bool->Addr}{H H1 H2:Hp}(a:Fr A B H H1)(b:Fr A B H1 H2):Fr A B H H2:=λc o n h=>b c o n (a c o n h)
theorem Fr.new{A B:Bool->Addr}{H H':Hp}{t:Addr}{o:HO}(a:Fr A B H H')(n:H' t=none):Fr A B H (upd H' t o):=λc u m h=>by
 have:=a c u m h;rw[aP (au this n)];exact this
theorem Fr.updA{A B:Bool->Addr}{H H':Hp}{o:HO}(a:Fr A B H H')(u:Bool):Fr A B H (upd H' (A u) o):=λc v m h=>by rw[aP (m u).1];exact a c v m h
theorem Fr.updB{A B:Bool->Addr}{H H':Hp}{o:HO}(a:Fr A B H H')(u:Bool):Fr A B H (upd H' (B u) o):=λc v m h=>by rw[aP (m u).2];exact a c v m h
theorem Fr.same{A B:Bool->Addr}{H H':Hp}(s:ak H H'):Fr A B H H':=λc v _ h=>s c v h
structure GS (H:Hp) (oe fd:Addr) (A B:Bool->Addr) (st:Bool->List Oe) (f:Bool->List Bw):Prop where
 oe_:H oe=some (.lst [.ref (A false),.ref (A true)])
 fd_:H fd=some (.lst [.ref (B false),.ref (B true)])
 s:∀ u,cY H (A u) (st u)
 f_:∀ u,cY H (B u) (f u)
 na:A false≠A true
 nb:B false≠B true
 ab:∀ u v,A u≠B v
 no:∀ u,oe≠A u/\oe≠B u/\fd≠A u/\fd≠B u
section
variable {H:Hp} {oe fd:Addr} {A B:Bool->Addr} {st:Bool->List Oe} {f:Bool->List Bw}
theorem GS.aa(G:GS H oe fd A B st f){u v:Bool}(h:u≠v):A u≠A v:=by
 cases u<;>cases v<;>first | exact absurd rfl h | exact G.na | exact G.na.symm
theorem GS.bb(G:GS H oe fd A B st f){u v:Bool}(h:u≠v):B u≠B v:=by
 cases u<;>cases v<;>first | exact absurd rfl h | exact G.nb | exact G.nb.symm
theorem GS.same{H':Hp}(G:GS H oe fd A B st f)(s:ak H H'):GS H' oe fd A B st f:=
 ⟨s _ _ G.oe_,s _ _ G.fd_,λu=>(G.s u).same s,λu=>(G.f_ u).same s,G.na,G.nb,G.ab,G.no⟩
theorem GS.new{t:Addr}{o:HO}(G:GS H oe fd A B st f)(n:H t=none):GS (upd H t o) oe fd A B st f:=G.same ((ak.refl H).new n)
theorem nP{l:Addr}{S:List Bw}{p:Bw}(h:cY H l (S++[p])):∃(as:List Addr) (a:Addr),H l=some (.lst (as.map V.ref++[.ref a]))/\Paired (bZ H) as S/\bZ H a p/\as.length=S.length:=by
 obtain⟨bs,h1,h2⟩:=h;have key:∀{bs:List Addr} {S:List Bw},Paired (bZ H) bs (S++[p])->∃as a,bs=as++[a]/\Paired (bZ H) as S/\bZ H a p:=by
  intro bs S
  induction S generalizing bs with
  | nil=>intro h;cases h with | cons x y=>cases y;exact⟨[],_,rfl,.nil,x⟩
  | cons q S ih=>intro h;cases h with | cons x y=>obtain⟨as,a,rfl,h3,h4⟩:=ih y;exact⟨_::as,a,rfl,.cons x h3,h4⟩
 obtain⟨as,a,rfl,h3,h4⟩:=key h2;exact⟨as,a,by rw[h1,aW];rfl,h3,h4,bB h3⟩
theorem rZ{l:Addr}{as:List Addr}{S:List Bw}{xs ys:List V}(hl:H l=some (.lst xs))(h:Paired (bZ H) as S):Paired (bZ (upd H l (.lst ys))) as S:=
 Paired.mapP h λa p ta=>by
  have:a≠l:=λe=>by subst e;unfold bZ at ta;rw[hl] at ta;cases ta
  unfold bZ;rw[aP this];exact ta
theorem GS.setA(G:GS H oe fd A B st f)(u:Bool){as:List Addr}{S:List Oe}(h:Paired (bZ H) as S):GS (upd H (A u) (.lst (as.map V.ref))) oe fd A B (λv=>if v=u then S else st v) f:=by
 obtain⟨bs,e,_⟩:=G.s u;refine⟨by rw[aP (G.no u).1];exact G.oe_,by rw[aP (G.no u).2.2.1];exact G.fd_,λv=>?_,λv=>ie (G.f_ v) e (G.ab u v).symm,G.na,G.nb,G.ab,G.no⟩;by_cases z:v=u
 ·subst z;simp only[if_true];exact⟨as,aD,rZ e h⟩
 ·simp only[z,if_false];exact ie (G.s v) e (G.aa z)
theorem GS.setB(G:GS H oe fd A B st f)(u:Bool){as:List Addr}{S:List Bw}(h:Paired (bZ H) as S):GS (upd H (B u) (.lst (as.map V.ref))) oe fd A B st (λv=>if v=u then S else f v):=by
 obtain⟨bs,e,_⟩:=G.f_ u;refine⟨by rw[aP (G.no u).2.1];exact G.oe_,by rw[aP (G.no u).2.2.2];exact G.fd_,λv=>ie (G.s v) e (G.ab v u),λv=>?_,G.na,G.nb,G.ab,G.no⟩;by_cases z:v=u
 ·subst z;simp only[if_true];exact⟨as,aD,rZ e h⟩
 ·simp only[z,if_false];exact ie (G.f_ v) e (G.bb z)
theorem GS.pop(G:GS H oe fd A B st f){u:Bool}{S:List Oe}{p:Oe}(h:st u=S++[p]):∃(xs:List V) (a:Addr),H (A u)=some (.lst (xs++[.ref a]))/\bZ H a p/\GS (upd H (A u) (.lst xs)) oe fd A B (λv=>if v=u then S else st v) f:=by
 have:=G.s u;rw[h] at this;obtain⟨as,a,e,hp,ta,_⟩:=nP this;exact⟨as.map V.ref,a,e,ta,G.setA u hp⟩
theorem GS.push(G:GS H oe fd A B st f)(u:Bool){t:Addr}{p:Oe}(ht:bZ H t p):∃xs:List V,H (A u)=some (.lst xs)/\xs.length=(st u).length/\GS (upd H (A u) (.lst (xs++[.ref t]))) oe fd A B (λv=>if v=u then st u++[p] else st v) f:=by
 obtain⟨as,e,hp⟩:=G.s u;have:=G.setA u (qA hp ht);rw[aW] at this;exact⟨as.map V.ref,e,by rw[aA];exact bB hp,this⟩
theorem GS.add(G:GS H oe fd A B st f)(u:Bool){t:Addr}{p:Bw}(ht:bZ H t p):∃xs:List V,H (B u)=some (.lst xs)/\xs.length=(f u).length/\GS (upd H (B u) (.lst (xs++[.ref t]))) oe fd A B st (λv=>if v=u then f u++[p] else f v):=by
 obtain⟨as,e,hp⟩:=G.f_ u;have:=G.setB u (qA hp ht);rw[aW] at this;exact⟨as.map V.ref,e,by rw[aA];exact bB hp,this⟩
end
def ky (k:Nat):Str:=if k=0 then Str.ofString "a" else if k=1 then Str.ofString "b" else if k=2 then Str.ofString "c" else Str.ofString "d"
def vM(y:String)(k:Nat):Bool:=!(Builtin.Str.occurrences (Str.ofString y) (ky k) 0 (Str.ofString y).length 1).isEmpty
theorem zx:vM "cd" 0=false/\vM "cd" 1=false/\vM "cd" 2=true/\vM "cd" 3=true:=by decide +kernel
theorem zy:vM "bd" 0=false/\vM "bd" 1=true/\vM "bd" 2=false/\vM "bd" 3=true:=by decide +kernel
theorem AB:vM "ab" 0=true/\vM "ab" 1=true/\vM "ab" 2=false/\vM "ab" 3=false:=by decide +kernel
theorem AA:vM "ac" 0=true/\vM "ac" 1=false/\vM "ac" 2=true/\vM "ac" 3=false:=by decide +kernel
theorem wc:∀k,k<4->decide (ky k=Str.ofString "d")=decide (k=3):=by decide +kernel
theorem LD:∀k,k<4->decide (ky k=Str.ofString "b")=decide (k=1):=by decide +kernel
theorem Gs:∀k,k<4->decide (ky k=Str.ofString "a")=decide (k=0):=by decide +kernel
def xB(st:Bool->List Oe)(k:Nat):Bool:=
 if k=3 then decide (st false≠[])&&(decide (st true≠[])&&decide (((st false).getLast?.map (·.2))≠((st true).getLast?.map (·.2))))
 else if k=1 then decide (st true≠[]) else decide (k=0) || decide (st false≠[])
inductive EN (st:Bool->List Oe) (f:Bool->List Bw) (r:Nat):Nat->(Bool->List Oe)->(Bool->List Bw)->Prop
 | a:EN st f r 0 (fun u=>st u++[((r:Int),(r:Int))]) f
 | b {S:List Oe} {o l:Int}:st true=S++[(o,l)]->EN st f r 1 (fun u=>if u=true then S else st u++[((r:Int),l)]) (fun u=>if u=true then f u++[(o,(r:Int))] else f u)
 | c {S:List Oe} {o l:Int}:st false=S++[(o,l)]->EN st f r 2 (fun u=>if u=false then S else st u++[((r:Int),l)]) (fun u=>if u=false then f u++[(o,(r:Int))] else f u)
 | d {n' f':List Oe} {o1 l1 o2 l2:Int}:st false=n'++[(o1,l1)]->st true=f'++[(o2,l2)]->l1≠l2->EN st f r 3 (fun u=>(if u then f' else n').map (gS l2 l1)) (fun u=>f u++[(if u then o2 else o1,(r:Int))])
theorem EN.gr{b:Bool}{st st':Bool->List Oe}{f f':Bool->List Bw}{r k:Nat}{is:List Pc}(P:EN st f r k st' f')(G:Gr b st f r is):∃js,Gr b st' f' (r+1) js:=by
 cases P with
 | a=>exact⟨_,G.opA⟩
 | @b S o l h=>obtain⟨p,js,hp,G1,_⟩:=G.pick (e:=((o,l),true)) (by unfold eF;rw[h];simp);exact⟨_,G1.ext hp h⟩
 | @c S o l h=>obtain⟨p,js,hp,G1,_⟩:=G.pick (e:=((o,l),false)) (by unfold eF;rw[h];simp);exact⟨_,G1.ext hp h⟩
 | d h h' ne=>exact G.join h h' ne
theorem IS{st:Bool->List Oe}{k:Nat}(f:Bool->List Bw)(r:Nat)(hk:k<4)(h:xB st k=true):∃st' f',EN st f r k st' f':=by
 have sn:∀S:List Oe,S≠[]->∃T o l,S=T++[(o,l)]:=λS h=>by
  rcases mf S with e | ⟨T,⟨o,l⟩,e⟩
  ·exact absurd e h
  ·exact⟨T,o,l,by rw[e,mh]⟩
 match k,hk with
 | 0,_=>exact⟨_,_,.a⟩
 | 1,_=>obtain⟨T,o,l,e⟩:=sn (st true) (of_decide_eq_true h);exact⟨_,_,.b e⟩
 | 2,_=>
  have h':(false || decide (st false≠[]))=true:=h;rw[lF] at h';obtain⟨T,o,l,e⟩:=sn (st false) (of_decide_eq_true h');exact⟨_,_,.c e⟩
 | 3,_=>
  have h':(decide (st false≠[])&&(decide (st true≠[])&&decide (((st false).getLast?.map (·.2))≠((st true).getLast?.map (·.2)))))=true:=h;rw[aX,aX] at h';obtain⟨T,o,l,e⟩:=sn (st false) (of_decide_eq_true h'.1);obtain⟨T',o',l',e'⟩:=sn (st true) (of_decide_eq_true h'.2.1);have:=of_decide_eq_true h'.2.2;rw[e,e'] at this;exact⟨_,_,.d e e' λz=>this (by simp[z])⟩
def vg:Sp:=λvs H Q _=>∃c base:Int,vs=[.int c,.int base]/\1<=base/\base<=100/\∀(l:Addr) (ds:List Int) (H':Hp),H l=none->ak H H'->H' l=some (.lst (ds.map V.int))->ds.length<=20->Q (.ref l) H'
def CU:Sp:=λvs H Q _=>∃m:Int,vs=[.int m]/\-1000<=m/\m<=1000/\Q (.int (mX m)) H
def Gi:Sp:=λvs H Q _=>∃oe fd A B st f,∃k:Nat,vs=[.ref oe,.str (ky k)]/\k<4/\GS H oe fd A B st f/\Q (.bl (xB st k)) H
def CT:Sp:=λvs H Q _=>∃oe fd A B st f st' f',∃k r:Nat,vs=[.ref oe,.ref fd,.str (ky k),.int r]/\GS H oe fd A B st f/\(∀u,(st u).length<=100/\(f u).length<=100)/\EN st f r k st' f'/\∀H',Fr A B H H'->GS H' oe fd A B st' f'->Q .non H'
theorem pN{α:Type}(xs:List α)(v:α):pO (xs++[v]) (-1)=some v:=by
 unfold pO;have e:xJ (xs++[v]).length (-1)=some xs.length:=by
  unfold xJ;rw[af,cP,if_neg (by decide),if_pos (by omega)];congr 1;omega
 rw[e];simp
theorem uK(S:List Oe)(p:Oe):((S++[p]).getLast?.map (·.2))=some p.2:=by simp
theorem n8(S:List Oe):S=[]\/∃T o l,S=T++[(o,l)]:=by
 rcases mf S with e | ⟨T,⟨o,l⟩,e⟩
 ·exact .inl e
 ·exact .inr ⟨T,o,l,by rw[e,mh]⟩
theorem qz{K:PySem.W.Frag}{H:Hp}{m n:Int}{neg:Bool}{Q:VK}(q:Q (.bl (if neg then !decide (m=n) else decide (m=n))) H):A3 K neg (.int m) (.int n) H Q:=
 ⟨.int m,.int n,.int _,.int _,rfl,rfl,a6 _,by
  have e:PyData.eqv (.int m) (.int n)=decide (m=n):=rfl;rw[e];exact q⟩
theorem xI(y:String)(k:Nat):(Builtin.Str.occurrences (Str.ofString y) (ky k) 0 (Str.ofString y).length 1).isEmpty=!vM y k:=by unfold vM;rw[Bool.not_not]
theorem Fr.updP{A B:Bool->Addr}{H H':Hp}{p:Addr}{o:HO}(a:Fr A B H H')(n:H p=none):Fr A B H (upd H' p o):=λc u m h=>by rw[aP (au h n)];exact a c u m h
theorem GS.updP{H:Hp}{oe fd p:Addr}{A B:Bool->Addr}{st:Bool->List Oe}{f:Bool->List Bw}{xs ys:List V}(G:GS H oe fd A B st f)(hp:H p=some (.lst xs))(pn:∀u,p≠A u/\p≠B u)(po:p≠oe/\p≠fd):GS (upd H p (.lst ys)) oe fd A B st f:=
 ⟨by rw[aP po.1.symm];exact G.oe_,by rw[aP po.2.symm];exact G.fd_,λu=>ie (G.s u) hp (pn u).1.symm,λu=>ie (G.f_ u) hp (pn u).2.symm,G.na,G.nb,G.ab,G.no⟩
theorem kd{H:Hp}{l a:Addr}{p:Bw}{xs ys:List V}(hl:H l=some (.lst xs))(h:bZ H a p):bZ (upd H l (.lst ys)) a p:=by
 have:a≠l:=λe=>by subst e;unfold bZ at h;rw[hl] at h;cases h
 unfold bZ;rw[aP this];exact h
theorem pC{K:PySem.W.Frag}{Ho H:Hp}{oe fd p:Addr}{A B:Bool->Addr}{st:Bool->List Oe}{f:Bool->List Bw}{u:Bool}{S:List Oe}{o l:Int}{E:List V}{i:Int}{r:Nat}{K1:Hp->Prop}(Fo:Fr A B Ho H)(np:Ho p=none)(G:GS H oe fd A B st f)(h:st u=S++[(o,l)])(hp:H p=some (.lst E))(hE:E.length<=10)(hf:(f u).length<=100)(pn:∀u,p≠A u/\p≠B u)(po:p≠oe/\p≠fd)
  (hi:pO [V.ref (B false),.ref (B true)] i=some (.ref (B u)))
  (k:∀H4 a,Fr A B Ho H4->GS H4 oe fd A B (λv=>if v=u then S else st v) (λv=>if v=u then f u++[(o,(r:Int))] else f v)->H4 p=some (.lst (E++[.ref a]))->bZ H4 a (o,l)->(∀a' q,bZ H a' q->bZ H4 a' q)->K1 H4) :
  Bs K "list" (.ref p) H/\Bs K "list" (.ref (A u)) H/\∃xs y,H (A u)=some (.lst xs)/\xs[xs.length - 1]? = some y/\∃xs1,upd H (A u) (.lst xs.dropLast) p=some (.lst xs1)/\xs1.length<sizeLine ∧
   ∃xs2 v,bv K (upd (upd H (A u) (.lst xs.dropLast)) p (.lst (xs1++[y]))) fd xs2/\pO xs2 i=some v/\Bs K "list" v (upd (upd H (A u) (.lst xs.dropLast)) p (.lst (xs1++[y]))) ∧
    ∃xs3 v1,bv K (upd (upd H (A u) (.lst xs.dropLast)) p (.lst (xs1++[y]))) p xs3/\pO xs3 (-1)=some v1/\MU K v1 (.int 0) (upd (upd H (A u) (.lst xs.dropLast)) p (.lst (xs1++[y]))) λx H1=>
     [x,V.int r].length<=sizeLine/\∀t,H1 t=none->uu v [.ref t] (upd H1 t (.tup [x,.int r])) λ_ H1=>K1 H1:=by
 obtain⟨xs,a,e,ta,G1⟩:=G.pop h;have hp1:upd H (A u) (.lst xs) p=some (.lst E):=by rw[aP (pn u).1];exact hp
 have G2:=G1.updP (ys:=E++[.ref a]) hp1 pn po;have ta2:bZ (upd (upd H (A u) (.lst xs)) p (.lst (E++[.ref a]))) a (o,l):=kd hp1 (kd e ta);have F2:Fr A B Ho (upd (upd H (A u) (.lst xs)) p (.lst (E++[.ref a]))):=(Fo.updA u).updP np;have old:∀a' q,bZ H a' q->bZ (upd (upd H (A u) (.lst xs)) p (.lst (E++[.ref a]))) a' q:=λa' q z=>kd hp1 (kd e z);have dl:(xs++[V.ref a]).dropLast=xs:=by simp
 refine⟨gw hp,gw e,_,.ref a,e,by simp,?_⟩;rw[dl];refine⟨E,hp1,bO (by omega),?_⟩;have p2:upd (upd H (A u) (.lst xs)) p (.lst (E++[.ref a])) p=some (.lst (E++[.ref a])):=aD;generalize upd (upd H (A u) (.lst xs)) p (.lst (E++[.ref a]))=H2 at *;obtain⟨_,eB,_⟩:=G2.f_ u;refine⟨_,_,bv.of G2.fd_,hi,gw eB,_,_,bv.of p2,pN _ _,.inr (.inl ⟨a,_,_,_,rfl,rfl,dA.of ta2,rfl,(by show 2<=sizeLine;decide),λt nt=>?_⟩)⟩;have G3:=G2.new (o:=.tup [.int o,.int r]) nt;have t3:bZ (upd H2 t (.tup [.int o,.int r])) t (o,(r:Int)):=aD;obtain⟨ys,eY,lY,G4⟩:=G3.add u t3;have s3:=(ak.refl H2).new (o:=.tup [.int o,.int r]) nt;refine⟨B u,ys,_,rfl,rfl,eY,bO (by omega),k _ a ((F2.new nt).updB u) G4 ?_ (kd eY (ta2.same s3)) λa' q z=>kd eY ((old a' q z).same s3)⟩;rw[aP (pn u).2];exact s3 _ _ p2
theorem GS.cg{H:Hp}{oe fd:Addr}{A B:Bool->Addr}{st st':Bool->List Oe}{f f':Bool->List Bw}(G:GS H oe fd A B st f)(h:∀u,st u=st' u)(h':∀u,f u=f' u):GS H oe fd A B st' f':=by
 rw[<-funext h,<-funext h'];exact G
theorem Cd(X:List Oe)(g:Oe->Oe){k:Nat}{e:Oe}(h:X[k]? = some e):((X.take k).map g++X.drop k)[k]? = some e/\((X.take k).map g++X.drop k).set k (g e)=(X.take (k+1)).map g++X.drop (k+1):=by
 obtain⟨hk,he⟩:=aF.mp h;have hl:((X.take k).map g).length=k:=by rw[aA,bp];omega
 have hd:X.drop k=e::X.drop (k+1):=by rw[cT hk,he]
 refine⟨?_,?_⟩
 ·rw[dH (by omega),hl,mM,hd];rfl
 ·rw[List.set_append_right _ _ (by omega),hl,mM,hd,List.set_cons_zero,bF,h,aW];simp
theorem wK{H:Hp}:∀{as:List Addr} {S:List Bw} {i:Nat} {t:Addr} {q:Bw},Paired (bZ H) as S->bZ H t q->Paired (bZ H) (as.set i t) (S.set i q)
 | [],_,_,_,_,h,_=>by cases h;exact .nil
 | a::as,_,0,t,q,h,ht=>by cases h with | cons x y=>exact .cons ht y
 | a::as,_,i+1,t,q,h,ht=>by cases h with | cons x y=>exact .cons x (wK y ht)
theorem GS.get{H:Hp}{oe fd:Addr}{A B:Bool->Addr}{st:Bool->List Oe}{f:Bool->List Bw}(G:GS H oe fd A B st f)(u:Bool){i:Nat}{e:Oe}(h:(st u)[i]? = some e):∃(as:List Addr) (a:Addr),H (A u)=some (.lst (as.map V.ref))/\(as.map V.ref)[i]? = some (.ref a)/\bZ H a e/\Paired (bZ H) as (st u):=by
 obtain⟨as,h1,h2⟩:=G.s u;obtain⟨as',c1,cl,bg⟩:=(G.s u).get;rw[h1] at c1;have ea:as.map V.ref=as'.map V.ref:=by injection c1 with c1;injection c1 with c1
 have hi:i<(as'.map V.ref).length:=by rw[aA,cl];exact(aF.mp h).1
 obtain⟨a,p,e1,e2,e3⟩:=bg i _ (aK hi);rw[h] at e2;cases e2;exact⟨as,a,h1,by rw[ea,aK hi,e1],e3,h2⟩
theorem GS.set{H:Hp}{oe fd:Addr}{A B:Bool->Addr}{st:Bool->List Oe}{f:Bool->List Bw}(G:GS H oe fd A B st f)(u:Bool){as:List Addr}(i:Nat){t:Addr}{q:Oe}(h:Paired (bZ H) as (st u))(ht:bZ H t q):GS (upd H (A u) (.lst ((as.map V.ref).set i (.ref t)))) oe fd A B (λv=>if v=u then (st u).set i q else st v) f:=by
 have:=G.setA u (wK (i:=i) h ht);rw[List.map_set] at this;exact this
theorem Fj{n i:Nat}(h:i<n):xJ n (i:Int)=some i:=by
 unfold xJ;rw[if_pos (by omega),if_pos (by omega)];simp
def o0(m:Int)(k:Nat):Int:=m+2*(if k=0 then 1 else 0) - 2*(if k=3 then 1 else 0)
def tV:Sp:=λvs H Q _=>∃oe fd A B st f,∃(r:Nat) (d:Int),vs=[.ref oe,.int r,.int d]/\GS H oe fd A B st f/\(∀u,(st u).length<=100)/\r<=100/\∀(l:Addr) (ks:List Nat) (H':Hp),H l=none->ak H H'->H' l=some (.lst (ks.map λk=>V.str (ky k)))->(∀k∈ks,k<4/\xB st k=true/\(r:Int)+mX (o0 ((st false).length+(st true).length) k)<=20)->Q (.ref l) H'
theorem GJ:∀j:Nat,j<4->(Txt.slice (Str.ofString "abcdabcd") (some (j:Int)) (some ((j:Int)+4))).cps.all (·<128)=true/\(Txt.slice (Str.ofString "abcdabcd") (some (j:Int)) (some ((j:Int)+4))).cps.toList.all (λc=>decide (c=97\/c=98\/c=99\/c=100))=true/\(Txt.slice (Str.ofString "abcdabcd") (some (j:Int)) (some ((j:Int)+4))).length=4:=by decide +kernel
theorem JK{c:Nat}(h:c=97\/c=98\/c=99\/c=100):∃k,k<4/\(⟨#[c]⟩:Str)=ky k:=by
 rcases h with rfl | rfl | rfl | rfl
 ·exact⟨0,by decide,by decide +kernel⟩
 ·exact⟨1,by decide,by decide +kernel⟩
 ·exact⟨2,by decide,by decide +kernel⟩
 ·exact⟨3,by decide,by decide +kernel⟩
theorem JM {k:Nat} (h:k<4):(ky k=Str.ofString "a")=(k=0):=propext (decide_eq_decide.mp (Gs k h))
theorem JL {k:Nat} (h:k<4):(ky k=Str.ofString "d")=(k=3):=propext (decide_eq_decide.mp (wc k h))
structure Found (H:Hp) (fd:Addr) (g:Bool->Addr) (b:Bool) (ns:List Int) (Fs:Bool->List Bw):Prop where
 at_:H fd=some (.lst [.ref (g false),.ref (g true)])
 bows:∀ u,cY H (g u) (Fs u)
 perm:∀ u,(Fs u).Perm (bJ b ns u (ns.length+1))
 ord:fE ns
theorem Found.same{H H':Hp}{fd:Addr}{g:Bool->Addr}{b:Bool}{ns:List Int}{Fs:Bool->List Bw}(F:Found H fd g b ns Fs)(s:ak H H'):Found H' fd g b ns Fs:=⟨s _ _ F.at_,λu=>(F.bows u).same s,F.perm,F.ord⟩
theorem Found.sum{H:Hp}{fd:Addr}{g:Bool->Addr}{b:Bool}{ns:List Int}{Fs:Bool->List Bw}(F:Found H fd g b ns Fs):(Fs false).length+(Fs true).length=ns.length+1:=by
 rw[(F.perm false).length_eq,(F.perm true).length_eq,oq]
theorem Found.only{H:Hp}{fd:Addr}{g:Bool->Addr}{b:Bool}{ns:List Int}{Fs:Bool->List Bw}(F:Found H fd g b ns Fs){i:Nat}(hi:i<=ns.length):(Fs (b ^^ odd i)).filter (pI (bQ ns i))=[cH ns i]:=by
 have:=(F.perm (b ^^ odd i)).filter (pI (bQ ns i));rw[F.ord.only hi (nH b i) (.inl rfl)] at this;exact List.perm_singleton.mp this
def tT:Sp:=λvs H Q _=>∃b fd g ns Fs,vs=[.str (sd b),.ref fd]/\Found H fd g b ns Fs/\∀t H',H t=none->ak H H'->H' t=some (.tup (ns.map V.int))->Q (.ref t) H'
def NC(b:Bool)(ns:List Int):Prop:=∀u,∀p∈bJ b ns u (ns.length+1),∀q∈bJ b ns u (ns.length+1),eU p q=false
def zY:Sp:=λvs H Q _=>∃b dl,∃ds:List Int,vs=[.str (sd b),.ref dl]/\H dl=some (.lst (ds.map V.int))/\ds.length<=20/\∀fd g ns Fs H',H fd=none->ak H H'->Found H' fd g b ns Fs->NC b ns->Q (.ref fd) H'
def rL:Sp:=λvs H Q _=>∃b dl,∃ds:List Int,vs=[.str (sd b),.ref dl]/\H dl=some (.lst (ds.map V.int))/\ds.length<=20/\∀m o ns H',H m=none->H o=none->ak H H'->eV H' m o b ns->fE ns->NC b ns->Q (.ref m) H'
def z5:Sp:=λvs H Q _=>∃oe fd A B b st f is,∃r:Nat,vs=[.ref oe,.ref fd,.int r]/\GS H oe fd A B st f/\Gr b st f r is/\r+xK st<=21/\∀n ns Fs H',Fr A B H H'->Found H' fd B b ns Fs->NC b ns->Q (.int n) H'
theorem uU:∀(R:List Int) (s t:Bool),(chain s R t).length<=R.length
 | [],_,_=>a6 _
 | [a],_,_=>a6 _
 | a::b::R,s,t=>by
  have ih:=uU (b::R) (!s) t;show ((if (!s)=t then [(min a b,max a b)] else [])++chain (!s) (b::R) t).length<=_;rw[af,cG]
  split
  ·simp only[cP];omega
  ·simp only[jo];omega
theorem Gr.small{b:Bool}{st:Bool->List Oe}{f:Bool->List Bw}{r:Nat}{is:List Pc}(G:Gr b st f r is):∀u,(st u).length<=2*r/\(f u).length<=r:=by
 have h1:=G.rows.length_eq;rw[vy] at h1;have h2:∀js:List Pc,(∀p∈js,p.rows≠[])->js.length<=(js.flatMap Pc.rows).length:=by
  intro js
  induction js with
  | nil=>intro _;exact a6 _
  | cons p js ih=>
   intro h;have i1:=ih λq hq=>h q (aM _ hq);have i2:0<p.rows.length:=List.length_pos_iff.mpr (h p ar);rw[aw,af,cG];omega
 have h3:∀(js:List Pc) u,(js.flatMap (Pc.bows u)).length<=(js.flatMap Pc.rows).length:=by
  intro js u
  induction js with
  | nil=>exact a6 _
  | cons p js ih=>
   have:=uU p.rows p.s u;rw[aw,aw,af,af];show (chain p.s p.rows u).length+_<=_;omega
 have h4:=h2 is G.ne;have h5:=G.many;intro u;refine⟨?_,?_⟩
 ·cases u<;>omega
 ·rw[(G.bows u).length_eq];exact bU (h3 is u) (gq h1)
theorem Fr.toSame{A B:Bool->Addr}{H H0 H':Hp}(n:∀u,H (A u)=none/\H (B u)=none)(s:ak H H0)(f:Fr A B H0 H'):ak H H':=λb o h=>
 f b o (λu=>⟨au h (n u).1,au h (n u).2⟩) (s b o h)
theorem EN.many{st st':Bool->List Oe}{f f':Bool->List Bw}{r k:Nat}(P:EN st f r k st' f'):((st' false).length:Int)+(st' true).length=o0 ((st false).length+(st true).length) k:=by
 cases P with
 | a=>simp only[af,cP,o0];simp;omega
 | b h=>rw[h];simp[o0];omega
 | c h=>rw[h];simp[o0];omega
 | d h h' ne=>rw[h,h'];simp[o0];omega
theorem DQ{α β:Type}{F:α->β->Prop}{l:List α}{m:List β}(h:Paired F l m):Paired F l.reverse m.reverse:=by
 induction h with
 | nil=>exact .nil
 | cons a b ih=>rw[gT,gT];exact qA ih a
theorem DR{α β:Type}{F:α->β->Prop}{l l':List α}{m m':List β}(h:Paired F l m)(h':Paired F l' m'):Paired F (l++l') (m++m'):=by
 induction h with
 | nil=>exact h'
 | cons a b ih=>exact .cons a ih
theorem FU{F:Addr->Oe->Prop}{l:List Addr}{m:List Oe}(h:Paired F l m):∀{i:Nat} {e:Oe},m[i]? = some e->∃a,l[i]? = some a/\F a e:=by
 induction h with
 | nil=>intro i e h;simp at h
 | cons a b ih=>
  intro i e h;cases i with
  | zero=>cases h;exact⟨_,rfl,a⟩
  | succ i=>exact ih h
def BD(st:Bool->List Oe):Nat:=if (st false).length<o7 (bY st) then 1 else if o7 (bY st)<(st false).length then 2 else 3
theorem Gr.end_put{b:Bool}{st:Bool->List Oe}{f:Bool->List Bw}{r:Nat}{is:List Pc}(G:Gr b st f r is)(h:1<(st false).length+(st true).length):∃st' f',EN st f r (BD st) st' f'/\xK st'+1<=xK st:=by
 have hl:1<(bY st).length:=by rw[kT];exact h
 have hm:=G.many;have ht:=nY (bY st);unfold BD;by_cases h1:(st false).length<o7 (bY st)
 ·rw[if_pos h1];rcases n8 (st true) with e | ⟨S,o,l,e⟩
  ·rw[e] at hm h;simp at hm h;omega
  ·exact⟨_,_,.b e,gq (Ks e hl h1)⟩
 ·rw[if_neg h1];by_cases h2:o7 (bY st)<(st false).length
  ·rw[if_pos h2];rcases n8 (st false) with e | ⟨S,o,l,e⟩
   ·rw[e] at h2;simp at h2
   ·exact⟨_,_,.c e,gq (Kr e hl h2)⟩
  ·rw[if_neg h2];have h3:(st false).length=o7 (bY st):=by omega
   rcases n8 (st false) with e | ⟨S,o,l,e⟩
   ·rw[e] at h3;simp at h3;omega
   ·rcases n8 (st true) with e' | ⟨S',o',l',e'⟩
    ·rw[e'] at hm h;simp at hm h;omega
    ·refine⟨_,_,.d e e' λz=>?_,G.phi_d e e' hl h3⟩;obtain⟨x,y,ex,ey,ne⟩:=G.tgt_ne hl;have hS:(S++[(o,l)]).length=o7 (bY st):=by rw[<-e];exact h3
     simp only[af,cP] at hS;have hL:bY st=S.map (·.2)++(l::l'::(S'.reverse).map (·.2)):=by
      unfold bY;rw[e,e'];simp
     rw[hL] at ex ey;have i1:o7 (S.map (·.2)++(l::l'::(S'.reverse).map (·.2)))=S.length+1:=by rw[<-hL];exact hS.symm
     rw[i1,dH (by simp)] at ex;rw[i1,dH (by simp only[aA];omega)] at ey;simp at ex ey;exact ne (ex.symm.trans (z.trans ey))
def z9:Sp:=λvs H Q _=>∃m o b ns,vs=[.ref m]/\eV H m o b ns/\ns.length<=40/\∀fd (g:Bool->Addr) H',H fd=none->(∀u,H (g u)=none)->ak H H'->H' fd=some (.lst [.ref (g false),.ref (g true)])->(∀u,cY H' (g u) (bJ b ns u (ns.length+1)))->g false≠g true->Q (.ref fd) H'
end Rm
namespace L2
open PySem PySem.Spec PyProof.Rows
section
variable {X:Cx} {pins:List (Addr×Obj)} {σ:St} {H:Hp} {s:Shared} {h':Heap}
theorem bi.turnNew{fp:List Addr}{p:Addr}{o:HO}{t':Nat}(I:bi X pins σ H s)(hf:∀b∈fp,k6 X pins H b)(k:∀b u,b∉fp->s.heap.get? b=some u->h'.get? b=some u)(hp:s.heap.objs.size<=p)
  (new:cZ X.prog X.w (upd H p o) h' p o):bi X pins σ (upd H p o) { s with heap:=h',toks:=t' }:=by
 have hn:H p=none:=I.hok.fresh hp;have nfp:∀b u,H b=some u->b∉fp:=λb u e z=>by rw[(hf b z).1] at e;cases e
 refine I.step (g':=s.gens) (d':=s.drawn) (ch:=fp) (λb hb=>?_) (λb u _ _ hc e _=>k b u hc e) (λb u _ _ hc e _=>⟨u.slots,k b u hc e⟩)
  (λb u _ e n=>by rw[aP (av (aq (aN e) hp))];exact n) (λb u hc e=>⟨u,k b u hc e⟩) (λb xs e=>by rw[aP (au e hn)];exact e)
  (λb u xs e=>by rw[aP (au e hn)];exact e) (λb ps e=>⟨#[],by rw[aP (au e hn),e];simp⟩) (λm hm=>?_) (λb u e=>?_) I.bare
 ·obtain⟨_,f1,_,f3,f4,f5⟩:=hf b hb;exact⟨f3,f1,f4,f5⟩
 ·obtain⟨ob,es,ep,ho,r⟩:=hm;exact⟨ob,es,ep,k _ ob (λz=>(hf _ z).2.1 rfl) ho,r⟩
 ·by_cases hb:b=p
  ·subst hb;rw[aD] at e;cases e;exact new
  ·rw[aP hb] at e;refine(I.hok b u e).stay (λc v hc q=>k c v ?_ q) (λc q=>by rw[aP (au q hn)];exact q) λc xs q=>by rw[aP (au q hn)];exact q
   rcases hc with z | z
   ·rw[z];exact nfp b u e
   ·exact nfp c _ z
end
def La(x:Str):It:=⟨λi _=>i<x.cps.size,λi H v H'=>H'=H/\∃c,x.cps[i]? = some c/\v=.str ⟨#[c]⟩,λi _=>x.cps.size<=i⟩
theorem Bx {P : Program} {w : World} {K : PySem.W.Frag} {tg : Expr} (it : Addr) (x : Str) (t : Tok) : Turn P w K tg (La x) [it] it (fun i h => h.IsStrIter it "str_ascii_iterator" x t i) where
  mem := by simp
  obj := fun i h st b hb => by
    have e : b = it := by simpa using hb
    subst e
    obtain ⟨o, e, c, d⟩ := st
    exact ⟨o, e, fun v z => by rw [d] at z; cases z⟩
  keep := fun i h h' st k => by
    obtain ⟨o, e, r⟩ := st
    exact ⟨o, k it (by simp) o e, r⟩
  item := by
    intro X hP hw hK hc i pins s σ H E I hf st hg
    subst hP hw hK
    obtain ⟨f0, f1, f2, f3, f4, f5⟩ := hf it (by simp)
    have hx : x.cps[i]? = some x.cps[i] := bw hg
    refine wpAny_pyNext_ascii_item st hx fun h' st' sb => ?_
    have I1 : bi X pins σ H { s with heap := h', toks := s.toks + 1 } := I.turned (t' := s.toks + 1) (fun b o hb e => (sb.2 b hb).trans e) f0 f1 f3 f4 f5
    obtain ⟨o, e, c, d⟩ := id st'
    exact ⟨_, rfl, wg (s := { s with heap := h', toks := s.toks + 1 }) e c d (by decide) ⟨.str ⟨#[x.cps[i]]⟩, H, I1, ⟨_, rfl⟩, ⟨rfl, _, hx, rfl⟩, st', fun b hb => (hf b hb).1⟩⟩
  done := by
    intro X hP hw hK hc i pins s σ H E I hf st hg
    subst hP hw hK
    obtain ⟨f0, f1, f2, f3, f4, f5⟩ := hf it (by simp)
    exact wpAny_pyNext_ascii_end (I.ok.hd hc) st (gJ hg) fun h' eb => ⟨rfl, I.turned (t' := s.toks) (fun b o hb e => eb b o hb e) f0 f1 f3 f4 f5⟩
  self := fun _ _ _ _ _ st h => wpAny_pyIter_striter_ascii st h
def JW(tl:TE):TI:=λσ H R=>tl σ H λx H1=>∃z,x=.str z/\z.cps.all (·<128)=true/\R (La z) H1
theorem Ia{X:Cx}{tg l:Expr}{tl:TE}(hl:PE X l tl):PI X tg l (JW tl):=by
 intro pins s σ H R I h;refine eR (hl pins s σ H _ I h) λv s1 ⟨x,H1,I1,r1,z,e,ha,q⟩=>?_;subst e;obtain⟨t,rfl⟩:=r1;refine wpAny_pyIter_ascii ha ?_;exact⟨s1.heap.objs.size,[s1.heap.objs.size],_,_,H1,rfl,I1.kept (t':=s1.toks) λb o e=>aB _ e,Bx _ z t,⟨_,aO _ rfl,rfl,rfl⟩,
  λb hb=>by
   have e:b=s1.heap.objs.size:=by simpa using hb
   subst e;exact I1.fpOk (aH _) (I1.hok.fresh (aH _)),q⟩
def Lb(x:Str):It:=⟨λi _=>i<x.cps.size,λi H v H'=>∃p c,H p=none/\x.cps[i]? = some c/\v=.ref p/\H'=upd H p (.tup [.int i,.str ⟨#[c]⟩]),λi _=>i=x.cps.size⟩
theorem AU {P : Program} {w : World} {K : PySem.W.Frag} {elts : List Expr} {x1 : Nat} {pos : Pos} (e it : Addr) (hne : e ≠ it) (x : Str) (t : Tok) :
    Turn P w K (.Tuple elts x1 pos) (Lb x) [e, it] e (fun i h => (∃ old, IsEnum h e it i old) ∧ h.IsStrIter it "str_ascii_iterator" x t i) where
  mem := by simp
  obj := fun i h st b hb => by
    obtain ⟨⟨old, he⟩, o, ei, c, d⟩ := st
    rcases aJ.mp hb with z | z
    · subst z; exact ⟨_, he, fun v z => by cases z⟩
    · have z' : b = it := by simpa using z
      subst z'
      exact ⟨o, ei, fun v z => by rw [d] at z; cases z⟩
  keep := fun i h h' st k => by
    obtain ⟨⟨old, he⟩, o, ei, r⟩ := st
    exact ⟨⟨old, k e (by simp) _ he⟩, o, k it (by simp) o ei, r⟩
  item := by
    intro X hP hw hK hc i pins s σ H E I hf st hg
    subst hP hw hK
    obtain ⟨⟨old, he⟩, hst⟩ := st
    have D : Draws X.prog X.w X.A.in1 it [it] x.cps.size _ _ := Draws.strAscii (show X.A.in1.handled = none from I.ok.hd hc) it x t
    refine wpAny_pyNext_enum_itemD D he hst hg hne (by simpa using hne) fun v h' tk hv ho st' ht hsz kp => ?_
    obtain ⟨c, u, hx, rfl⟩ := hv
    refine ⟨_, rfl, wpAny_letOwnedTupleGo_enum ho fun h2 he2 hs2 => ?_⟩
    have het : s.heap.objs.size ≠ e := fb (aN he)
    have ht2 : h2.get? s.heap.objs.size = some { cls := .type "tuple", data := .seq #[.int i tk, .str ⟨#[c]⟩ u] } := (hs2.2 _ het).trans ht
    have hn : H s.heap.objs.size = none := I.hok.fresh (aH _)
    refine ⟨.ref s.heap.objs.size, upd H s.heap.objs.size (.tup [.int i, .str ⟨#[c]⟩]), I.turnNew (fp := [e, it]) hf (fun b o hb q => ?_) (aH _) (show cZ X.prog X.w _ h2 _ (.tup _) from ⟨(by show 2 ≤ sizeLine; decide), [.int i tk, .str ⟨#[c]⟩ u], .cons ⟨_, rfl⟩ (.cons ⟨_, rfl⟩ .nil), _, ht2, rfl, _, rfl⟩), rfl, ⟨_, c, hn, hx, rfl, rfl⟩, ⟨⟨_, by exact_mod_cast he2⟩, ?_⟩, fun b hb => ?_⟩
    · have n1 : b ≠ e := fun z => hb (by simp [z])
      have n2 : b ≠ it := fun z => hb (by simp [z])
      exact (hs2.2 b n1).trans (kp b o n1 n2 q)
    · obtain ⟨o, ei, r⟩ := st'
      exact ⟨o, (hs2.2 it hne.symm).trans ei, r⟩
    · have hb' := (hf b hb).1
      rw [aP (fun z => ?_)]
      · exact hb'
      · obtain ⟨o, q, _⟩ := hst
        rcases aJ.mp hb with y | y
        · exact het (z.symm.trans y)
        · have y' : b = it := by simpa using y
          exact absurd (y'.symm.trans z) (av (aN q))
  done := by
    intro X hP hw hK hc i pins s σ H E I hf st hg
    subst hP hw hK
    obtain ⟨⟨old, he⟩, hst⟩ := st
    have hg' : i = x.cps.size := hg
    subst hg'
    obtain ⟨f0, f1, f2, f3, f4, f5⟩ := hf it (by simp)
    have D : Draws X.prog X.w X.A.in1 it [it] x.cps.size _ _ := Draws.strAscii (show X.A.in1.handled = none from I.ok.hd hc) it x t
    exact wpAny_pyNext_enum_endD D he hst fun h' eb => ⟨rfl, I.turned (t' := s.toks) (fun b o hb q => eb b o hb q) f0 f1 f3 f4 f5⟩
  self := fun _ _ _ _ _ st h => by
    obtain ⟨⟨old, he⟩, _⟩ := st
    exact wpAny_pyIter_enum he h
def Ds(ta:TA):TI:=λσ H R=>ta σ H λvs H1=>∃z,vs=[.str z]/\z.cps.all (·<128)=true/\R (Lb z) H1
theorem FJ {X:Cx} {a:Expr} {ta:TA} {elts:List Expr} {x1:Nat} {p pos tpos:Pos} (hg:Gl X "enumerate") (hm:X.mg "enumerate"=none) (ha:PA X [a] ta) (hs:starEach [a] X.env=[(false,eval a X.env)]:=by rfl) :
  PI X (.Tuple elts x1 tpos) (.Call (.Name "enumerate" p) [a] [] pos) (Ds ta):=by
 intro pins s σ H R I h;refine Call_ (jT I hg hm boot_enumerate (bj (eR (ha pos pins s σ H _ I h) λus s1 ⟨vs,H1,I1,r1,z,e,hz,q⟩=>?_) hs rfl));subst e;obtain⟨u,rfl,t,rfl⟩:=vals1 r1;refine call_enumerate_str λh' he hit hsz kp=>?_;have ht:strIterType z="str_ascii_iterator":=by unfold strIterType;rw[if_pos hz]
 rw[ht] at hit;refine wpAny_pyIter_enum he ?_;have I2:bi X pins σ H1 { s1 with heap:=h' }:=I1.kept (t':=s1.toks) kp;exact⟨s1.heap.objs.size+1,[s1.heap.objs.size+1,s1.heap.objs.size],_,_,H1,rfl,I2,AU _ _ (lX _) z t,⟨⟨_,he⟩,hit⟩,
  λb hb=>by
   have hle:s1.heap.objs.size<=b:=by
    rcases aJ.mp hb with y | y
    ·rw[y];exact dc _
    ·have y':b=s1.heap.objs.size:=by simpa using y
     exact gq y'.symm
   exact I1.fpOk hle (I1.hok.fresh hle),q⟩
section
variable {σ:St} {H:Hp} {D:Ends}
theorem Bf{tl:TE}{g:TG}{tb:TS}:qY (JW tl) g tb D σ H=tl σ H λx H1=>∃z,x=.str z/\z.cps.all (·<128)=true/\oI (La z) g tb D σ H1:=rfl
theorem Bh{ta:TA}{g:TG}{tb:TS}:qY (Ds ta) g tb D σ H=ta σ H λvs H1=>∃z,vs=[.str z]/\z.cps.all (·<128)=true/\oI (Lb z) g tb D σ H1:=rfl
theorem KP{a:Str}{q:Str->Prop}:(∃b,V.str a=.str b/\q b)=q a:=propext ⟨λ⟨_,e,h⟩=>by cases e;exact h,λh=>⟨a,rfl,h⟩⟩
theorem Fv{x:Str}{g:TG}{tb:TS}(Pv:Nat->St->Hp->Prop)(h0:Pv 0 σ H)
  (hs:∀i c σ H,x.cps[i]? = some c->Pv i σ H->g (.str ⟨#[c]⟩) σ H λσ2 H2=>tb { D with nx:=Pv (i+1),ct:=Pv (i+1),bk:=D.nx } σ2 H2) (hd:∀σ H,Pv x.cps.size σ H->D.nx σ H):oI (La x) g tb D σ H:=by
 refine⟨λi m σ H=>m+i=x.cps.size/\Pv i σ H,⟨x.cps.size,rfl,h0⟩,?_⟩;rintro i m σ H ⟨hm,hp⟩;by_cases hi:i<x.cps.size
 ·refine .inr ⟨hi,Pv (i+1),λσ' H' h=>⟨m - 1,by omega,by omega,h⟩,?_⟩;rintro v H' ⟨rfl,c,hc,rfl⟩;exact hs i c σ H' hc hp
 ·have e:i=x.cps.size:=by omega
  subst e;exact .inl ⟨aH _,hd σ H hp⟩
theorem EA{x:Str}{g:TG}{tb:TS}(Pv:Nat->St->Hp->Prop)(h0:Pv 0 σ H)
  (hs:∀i c σ H p,x.cps[i]? = some c->Pv i σ H->H p=none->g (.ref p) σ (upd H p (.tup [.int i,.str ⟨#[c]⟩])) λσ2 H2=>tb { D with nx:=Pv (i+1),ct:=Pv (i+1),bk:=D.nx } σ2 H2) (hd:∀σ H,Pv x.cps.size σ H->D.nx σ H):oI (Lb x) g tb D σ H:=by
 refine⟨λi m σ H=>m+i=x.cps.size/\Pv i σ H,⟨x.cps.size,rfl,h0⟩,?_⟩;rintro i m σ H ⟨hm,hp⟩;by_cases hi:i<x.cps.size
 ·refine .inr ⟨hi,Pv (i+1),λσ' H' h=>⟨m - 1,by omega,by omega,h⟩,?_⟩;rintro v H' ⟨p,c,hn,hc,rfl,rfl⟩;exact hs i c σ H p hc hp hn
 ·have e:i=x.cps.size:=by omega
  subst e;exact .inl ⟨rfl,hd σ H hp⟩
end
theorem D0:typeLookup (.type "list_reverseiterator") "__len__"=pure none:=by rw[typeLookup_type,builtinLookup_eq_fast];kernel_rfl
theorem Fq:typeLookup (.type "list_reverseiterator") "__length_hint__"=pure (some (.builtin "list_reverseiterator.__length_hint__")):=by rw[typeLookup_type,builtinLookup_eq_fast];kernel_rfl
section
variable {prog:Program} {w:World} {A:Around} {E:Value->Shared->Prop} {s:Shared}
theorem Dt{I l:Addr}{i:Int}{Q:Bool->Shared->Prop}(hit:s.heap.IsRevIter I l i)(h:Q false s):wpAny (model prog w) A (Builtin.List.listLengthHint (.ref I)) Q E s:=by
 unfold Builtin.List.listLengthHint;refine wpAny_bind (wpAny_specialOf hit.typeIs D0 ?_);show wpAny _ A (specialOf (Value.ref I) (Str.ofString "__length_hint__")>>=_) _ _ _;refine wpAny_bind (wpAny_specialOf hit.typeIs Fq ?_);generalize hid:("list_reverseiterator.__length_hint__":String)=id0
 wp_delta
 rw[show splitId id0=some ("list_reverseiterator","__length_hint__") from by subst hid;decide +kernel];subst hid;refine wpAny_bind (wpAny_isInstance (b:=true) hit.typeIs (by rw[isSubtype_type];kernel_rfl) ?_);refine wpAny_pure ?_;exact h
theorem yg{R:Result->Shared->Prop}{l I:Addr}{items:Array Value}(hh:A.handled=none)(hit:s.heap.IsRevIter I l ((items.size:Int) - 1))(hl:s.heap.IsList l items)(hne:l≠I)(hlen:items.size<=1000)(S:Addr)(res:Value)(c₀:Nat)
  (hS:s.heap.get? S=some { cls:=.type "list",data:=.seq #[] c₀ }) (hSI:S≠I) (hSl:S≠l)
  (hR:∀h' tk acc' c',(∀b o,b≠S->b≠I->s.heap.get? b=some o->h'.get? b=some o)->h'.get? S=some { cls:=.type "list",dict:=none,data:=.seq acc' c',slots:=#[] } →
   ItemsOf (λi v=>items[items.size - 1-i]? = some v) acc' items.size->R (.ok (.ret res)) { s with heap:=h',toks:=tk }) :
  wpAny (model prog w) A.in1 (Builtin.List.listExtendWith (.ref S) (.ref I) res)
   (λfin s'=>match fin with | .done f=>R (.ok f) s' | .again c'=>c'.quiet=true/\codeAny (model prog w) A c' R s') (λe s'=>R (.error e) s') s:=by
 have hSf:S∉[I,l]:=λhm=>by
  rcases aJ.mp hm with e | e
  ·exact hSI e
  ·exact hSl (dG.mp e)
 have W:=(Walks.listRev (prog:=prog) (w:=w) (A:=A.in1) hh I l hne items).toS;have h1:Builtin.List.listSameRef (.ref S) (.ref I)=false:=by simp[Builtin.List.listSameRef,hSI]
 have h2:(Value.type "list_reverseiterator"==Value.type "list")=false:=by decide
 have h3:(Value.type "list_reverseiterator"==Value.type "tuple")=false:=by decide
 have hz:((items.size:Int) - 1-((0:Nat):Int))=(items.size:Int) - 1:=by simp
 unfold Builtin.List.listExtendWith;refine wpAny_bind (wpAny_typeOf hit.typeIs ?_);simp only[h1,h2,h3,dL,bN,if_false];refine wpAny_bind (wpAny_pyIter_revIter hit ?_);refine wpAny_bind (wpAny_holding (Dt hit ?_));refine wpAny_pure ⟨plainId_quiet F.plain_extend_loop _,?_⟩;refine codeAny_extend_loopS W (bf (bO hlen)) S hSf res items.size 0 _ #[] c₀ rfl (a6 _) ⟨a6 _,by rw[hz];exact hit,hl⟩ hS (ItemsOf.nil _) λs' acc' c' hm hS' hacc=>?_;rw[Moved.eq_with hm];refine hR s'.heap s'.toks acc' c' (λb o hb hb2 e=>hm.heap b o (λhmem=>?_) e) hS' hacc;rcases aJ.mp hmem with e' | hmem
 ·exact hb e'
 ·exact hb2 (dG.mp hmem)
theorem Dr{R:Result->Shared->Prop}{l I:Addr}{items:Array Value}(hh:A.handled=none)(hit:s.heap.IsRevIter I l ((items.size:Int) - 1))(hl:s.heap.IsList l items)(hne:l≠I)(hlen:items.size<=1000)(S:Addr)
  (hS:s.heap.get? S=some { cls:=.type "list",data:=.seq #[] }) (hSI:S≠I) (hSl:S≠l)
  (hR:∀h' tk acc' c',(∀b o,b≠S->b≠I->s.heap.get? b=some o->h'.get? b=some o)->h'.get? S=some { cls:=.type "list",dict:=none,data:=.seq acc' c',slots:=#[] } →
   ItemsOf (λi v=>items[items.size - 1-i]? = some v) acc' items.size->R (.ok (.ret .none)) { s with heap:=h',toks:=tk }) :
  wpAny (model prog w) A.in1 (Builtin.«list.__init__» ⟨[.ref S,.ref I],[]⟩)
   (λfin s'=>match fin with | .done f=>R (.ok f) s' | .again c'=>c'.quiet=true/\codeAny (model prog w) A c' R s') (λe s'=>R (.error e) s') s:=by
 show wpAny _ _ (do let old <-Builtin.List.listItems (.ref S);Builtin.List.listUpdate (.ref S) (λ_=>#[]);letGo old.toList.reverse;Builtin.List.listExtendWith (.ref S) (.ref I) .none) _ _ s;refine wpAny_bind ?_;unfold Builtin.List.listItems;refine wpAny_bind (wpAny_seqItems hS rfl (wpAny_pure ?_));show wpAny _ _ (updateSeq S (λ_=>#[])>>=λ_=>letGo (#[]:Array Value).toList.reverse>>=λ_=>Builtin.List.listExtendWith (.ref S) (.ref I) .none) _ _ s;refine wpAny_bind (wpAny_updateSeq hS rfl ?_);have hS₂:=dX (Obj.mapSeq (λ_=>(#[]:Array Value))) hS rfl;have oth:∀b o,b≠S->s.heap.get? b=some o->(s.heap.update S (Obj.mapSeq (λ_=>(#[]:Array Value)))).get? b=some o:=
  λb o hb e=>(dk _ _ (ig hb)).trans e
 refine wpAny_bind (wpAny_letGo ?_);refine yg hh (hit.at λo e=>oth I o hSI.symm e) (hl.at λo e=>oth l o hSl.symm e) hne hlen S .none _ hS₂ hSI hSl λh' tk acc' c' hk hS' hacc=>?_;exact hR h' tk acc' c' (λb o hb hb2 e=>hk b o hb hb2 (oth b o hb e)) hS' hacc
theorem tN{Q:Value->Shared->Prop}{l I:Addr}{items:Array Value}(hh:A.handled=none)(hit:s.heap.IsRevIter I l ((items.size:Int) - 1))(hl:s.heap.IsList l items)(hne:l≠I)(hlen:items.size<=1000)
  (hQ:∀h' tk acc' c',(∀b o,b≠I->s.heap.get? b=some o->h'.get? b=some o) →
   h'.get? s.heap.objs.size=some { cls:=.type "list",dict:=none,data:=.seq acc' c',slots:=#[] }->ItemsOf (λi v=>items[items.size - 1-i]? = some v) acc' items.size->Q (.ref s.heap.objs.size) { s with heap:=h',toks:=tk }) :
  wpAny (model prog w) A (call (.type "list") [.ref I]) Q E s:=by
 refine callType_codes (Q₁:=λobj s₁=>obj=.ref s.heap.objs.size/\s₁={ s with heap:=s.heap.push { cls:=.type "list",data:=.seq #[] } }) F.called_list (F.typeCall_list_1 _) F.entry_list_init
  (code_list_new _ ⟨rfl,rfl⟩) λobj s₁ h₁=>?_
 obtain⟨rfl,rfl⟩:=h₁;have hS:(s.heap.push { cls:=.type "list",data:=.seq #[] }).get? s.heap.objs.size=some { cls:=.type "list",data:=.seq #[] }:=aO _ rfl;obtain⟨o1,e1,_⟩:=id hit;obtain⟨o2,e2,_⟩:=id hl;have n1:s.heap.objs.size≠I:=(av (aN e1)).symm;have n2:s.heap.objs.size≠l:=(av (aN e2)).symm;refine⟨⟨_,hS,rfl⟩,F.args_list_init_2 _ _,Dr (A:=A.in1) hh (hit.at λo e=>aB _ e) (hl.at λo e=>aB _ e) hne hlen _ hS n1 n2 λh' tk acc' c' hk hS' hacc=>?_⟩;exact⟨rfl,hQ h' tk acc' c' (λb o hb e=>hk b o (av (aN e)) hb (aB _ e)) hS' hacc⟩
end
def Hk(te:TE):TE:=λσ H Q=>te σ H λx H1=>∃(a:Addr) (xs:List V),x=.ref a/\H1 a=some (.lst xs)/\xs.length<=1000/\∀l,H1 l=none->Q (.ref l) (upd H1 l (.lst xs.reverse))
theorem w_rev{te:TE}{σ:St}{H:Hp}{Q:VK}:Hk te σ H Q=te σ H λx H1=>∃(a:Addr) (xs:List V),x=.ref a/\H1 a=some (.lst xs)/\xs.length<=1000/\∀l,H1 l=none->Q (.ref l) (upd H1 l (.lst xs.reverse)):=rfl
theorem Bq{xs:List V}{us:List Value}(r:cO xs us):∀{i:Nat} {x:V} {u:Value},xs[i]? = some x->us[i]? = some u->RelV x u:=by
 induction r with
 | nil=>intro i x u h;simp at h
 | cons a b ih=>
  intro i x u h h';cases i with
  | zero=>cases h;cases h';exact a
  | succ i=>exact ih h h'
theorem E5{xs:List V}{us:List Value}(hl:xs.length=us.length)(h:∀(i:Nat) x u,xs[i]? = some x->us[i]? = some u->RelV x u):cO xs us:=by
 induction xs generalizing us with
 | nil=>cases us with | nil=>exact .nil | cons a b=>simp at hl
 | cons x xs ih=>
  cases us with
  | nil=>simp at hl
  | cons u us=>exact .cons (h 0 x u rfl rfl) (ih (by simpa using hl) λi y v h1 h2=>h (i+1) y v h1 h2)
theorem xq {X:Cx} {e:Expr} {te:TE} {p p2 pos2 pos:Pos} (hc:X.calm=true) (hgl:Gl X "list") (hml:X.mg "list"=none) (hgr:Gl X "reversed") (hmr:X.mg "reversed"=none) (he:PE X e te)
  (hs:starEach [.Call (.Name "reversed" p2) [e] [] pos2] X.env=[(false,eval (.Call (.Name "reversed" p2) [e] [] pos2) X.env)]:=by rfl) (hs2:starEach [e] X.env=[(false,eval e X.env)]:=by rfl) :
  PE X (.Call (.Name "list" p) [.Call (.Name "reversed" p2) [e] [] pos2] [] pos) (Hk te):=by
 intro pins s σ H Q I h;refine wpAny_Call_Name_kw (jT I hgl hml boot_list ?_);refine bj ?_ hs rfl;rw[hs];show wpAny _ _ (spliced ((false,eval (.Call (.Name "reversed" p2) [e] [] pos2) X.env)::[])) _ _ s;refine gI (wpAny_Call_Name_kw (jT I hgr hmr boot_reversed (bj ?_ hs2 rfl)));rw[hs2];show wpAny _ _ (spliced ((false,eval e X.env)::[])) _ _ s;refine gI (eR (he pins s σ H _ I h) λu s1 ⟨x,H1,I1,r1,a,xs,ex,hx,hle,q⟩=>?_);subst ex;cases r1;obtain⟨hz,its,n,rv,hlen,ho⟩:=I1.lstM hx;have hL:s1.heap.IsList a its.toArray:=⟨_,ho,rfl,n,rfl⟩
 have hsz:its.toArray.size=its.length:=by simp
 have hal:=aN ho;refine iy (call_reversed_list hL (iy ?_));refine tN (I:=s1.heap.objs.size) (l:=a) (items:=its.toArray) (I1.ok.hd hc) ⟨_,aO _ rfl,rfl,rfl⟩ (hL.at λo e=>aB _ e) (av hal) (by rw[hsz];omega) λh' tk acc' c' kp e' hit=>?_;have sz:(s1.heap.push (revObj a ((its.toArray.size:Int) - 1))).objs.size=s1.heap.objs.size+1:=fO _ _;have hv:cO xs.reverse acc'.toList:=by
  obtain⟨a1,a2⟩:=hit;rw[hsz] at a1 a2;have al:acc'.toList.length=its.length:=by rw[<-a1];simp
  refine E5 (by rw[e8,hlen,al]) λi x u h1 h2=>?_;have hu:acc'[i]? = some u:=by simpa using h2
  have h3:=a2 i u hu;have hi:i<its.length:=by rw[<-a1];exact(gf.mp hu).1
  rw[List.getElem?_reverse (by rw[hlen];exact hi),hlen] at h1;have h4:its[its.length - 1-i]? = some u:=by simpa using h3
  exact Bq rv h1 h4
 refine⟨.ref _,_,I1.laid (h':=h') (t':=tk) (λb o e=>kp b o (av (aN e)) (aB _ e)) (by rw[sz];exact dc _) (show cZ X.prog X.w _ h' _ (.lst _) from ⟨by rw[e8];exact hz,acc'.toList,c',hv,by simpa using e'⟩),rfl,q _ (I1.hok.fresh (by rw[sz];exact dc _))⟩
structure QE (X:Cx) (e:Expr) (t:TE):Prop where
 h:PE X e t
structure QT (X:Cx) (e:Expr) (t:TT):Prop where
 h:PT X e t
structure QA (X:Cx) (es:List Expr) (t:TA):Prop where
 h:PA X es t
structure QS (X:Cx) (st:Stmt) (t:TS):Prop where
 h:PS X st t
structure jE (X:Cx) (sts:List Stmt) (t:TS):Prop where
 h:xF X sts t
structure QG (X:Cx) (e:Expr) (t:TG):Prop where
 h:PG X e t
structure L9 (X:Cx) (es:List Expr) (t:BQ):Prop where
 h:LO X es t
structure QF (X:Cx) (es:List Expr) (t:TT):Prop where
 h:PF X es t
structure QW (X:Cx) (e:Expr) (t:TT):Prop where
 h:PW X e t
structure QO (X:Cx) (e:Option Expr) (t:TO):Prop where
 h:PO X e t
structure GL (X:Cx) (pos:Pos) (keys:List (Option Expr)) (values:List Expr) (trs:List (TE×TE)):Prop where
 h:LN X pos keys values trs
structure QI (X:Cx) (tg iter:Expr) (t:TI):Prop where
 h:PI X tg iter t
theorem QW.pt{X:Cx}{e:Expr}{t:TT}(h:QW X e t):QT X e t:=⟨h.h.pt⟩
section
variable {X:Cx}
theorem aE{i j pos}:QE X (.Constant (.int i) j pos) (tC (.int i)):=⟨Iq ⟩
end
section
variable {X:Cx}
theorem kx{b j pos}:QE X (.Constant (.bool b) j pos) (tC (.bl b)):=⟨Ky ⟩
end
section
variable {X:Cx}
theorem pA{j pos}:QE X (.Constant .none j pos) (tC .non):=⟨Im ⟩
end
section
variable {X:Cx}
theorem cI{x j pos}:QE X (.Constant (.str x) j pos) (tC (.str x)):=⟨Ij ⟩
end
section
variable {X:Cx}
theorem iB {x:Str} {v:V} {u:Value} {pos:Pos} (hg:Gl X x) (hm:X.mg x=none) (hv:bootBuiltins x=some u) (r:RelV v u) (hn:x≠"__name__":=by decide) (hd:(x==("__debug__":Str))=false:=by decide):QE X (.Name x pos) (tC v):=⟨FT hg hm hv r hn hd⟩
end
section
variable {X:Cx} {pos:Pos}
theorem iH{e:Expr}{t:TE}(h:QE X e t)(he:∀whole,isTrue e X.env whole=(do let v <-whole;standAt e.pos;holding [v] (truthy v)):=by intro _;rfl):QT X e (tB t):=⟨IT h.h he⟩
end
section
variable {X:Cx} {a:Expr} {pos:Pos} {tA:TT}
theorem nD(ha:QT X a tA):QW X (.BoolOp .And [a] pos) tA:=⟨Ex ha.h⟩
end
section
variable {X:Cx} {a:Expr} {pos:Pos} {tA:TT}
theorem ox(ha:QT X a tA):QW X (.BoolOp .Or [a] pos) tA:=⟨IQ ha.h⟩
end
section
variable {X:Cx} {a b:Expr} {pos:Pos} {tA tB':TT} {rest:List Expr}
theorem oy(ha:QT X a tA)(hb:QW X (.BoolOp .And (b::rest) pos) tB'):QW X (.BoolOp .And (a::b::rest) pos) (Hy tA tB'):=⟨IR ha.h hb.h⟩
end
section
variable {X:Cx} {a b:Expr} {pos:Pos} {tA tB':TT} {rest:List Expr}
theorem ph(ha:QT X a tA)(hb:QW X (.BoolOp .Or (b::rest) pos) tB'):QW X (.BoolOp .Or (a::b::rest) pos) (Lk tA tB'):=⟨Ko ha.h hb.h⟩
end
section
variable {X:Cx} {a:Expr} {pos:Pos} {tA:TT}
theorem i7(ha:QT X a tA):QT X (.UnaryOp .Not a pos) (Hq tA):=⟨IU ha.h⟩
end
section
variable {X:Cx} {a:Expr} {pos:Pos}
theorem mD{op}{t:TE}(h:QE X a t):QE X (.BoolOp op [a] pos) t:=⟨Ik h.h⟩
end
section
variable {X:Cx} {a b:Expr} {ta tb:TE} {pos:Pos} {rest:List Expr}
theorem kf(ha:QE X a ta)(hb:QE X (.BoolOp .And (b::rest) pos) tb):QE X (.BoolOp .And (a::b::rest) pos) (CK ta tb):=⟨Iu ha.h hb.h⟩
end
section
variable {X:Cx} {a b:Expr} {ta tb:TE} {pos:Pos} {rest:List Expr}
theorem IP(ha:QE X a ta)(hb:QE X (.BoolOp .Or (b::rest) pos) tb):QE X (.BoolOp .Or (a::b::rest) pos) (Hn ta tb):=⟨Ku ha.h hb.h⟩
end
section
variable {X:Cx} {a:Expr} {ta:TE} {pos:Pos}
theorem zh(ha:QE X a ta):QE X (.UnaryOp .Not a pos) (CD ta):=⟨Il ha.h⟩
end
section
variable {X:Cx} {a b:Expr} {ta tb:TE} {pos:Pos} {tA:TT}
theorem uC{c:Expr}(hc:QT X c tA)(ha:QE X a ta)(hb:QE X b tb):QE X (.IfExp c a b pos) (Ll tA ta tb):=⟨DH hc.h ha.h hb.h⟩
end
section
variable {X:Cx}
theorem bh  : jE X [] CF:=⟨FA ⟩
end
section
variable {X:Cx} {st:Stmt} {rest:List Stmt} {t u:TS}
theorem aI(h1:QS X st t)(h2:jE X rest u):jE X (st::rest) (Hj t u):=⟨Cu h1.h h2.h⟩
end
section
variable {X:Cx} {st:Stmt} {t:TS}
theorem aL(h1:QS X st t):jE X [st] t:=⟨Ez h1.h⟩
end
section
variable {X:Cx} {pos:Pos}
theorem A4  : QS X (.Break pos) xb:=⟨Cz ⟩
end
section
variable {X:Cx} {e:Expr} {te:TE} {pos:Pos}
theorem cf(he:QE X e te)(hs:swapsWith e none pos.line X.env=pure false:=by rfl):QS X (.Expr e pos) (CH te):=⟨FD he.h hs⟩
end
section
variable {X:Cx} {e:Expr} {te:TE} {pos:Pos}
theorem bT(he:QE X e te):QS X (.Return (some e) pos) (Hl te):=⟨IX he.h⟩
end
section
variable {X:Cx} {t u:TS} {pos:Pos}
theorem ce{c:Expr}{a b:List Stmt}{tc:TT}(hc:QT X c tc)(ha:jE X a t)(hb:jE X b u):QS X (.If c a b pos) (Hu tc t u):=⟨Kq hc.h ha.h hb.h⟩
end
section
variable {X:Cx} {st:Stmt}
theorem ny  : QS X st CG:=⟨Cy ⟩
end
section
variable {X:Cx} {pos:Pos}
theorem bM{i:Nat}{x:Str}(hN:X.N.Nodup)(hi:X.N[i]? = some x)(hx:Loc X.env.scope x)(hf:X.fn x=true\/X.env.scope.names.lookup x=some .local:=by first | exact .inl rfl | exact .inr rfl | assumption):QG X (.Name x pos) (mY i):=⟨FL hN hi hx hf⟩
end
section
variable {X:Cx}
theorem ja  : L9 X [] J1:=⟨FK ⟩
end
section
variable {X:Cx}
theorem dq{e:Expr}{es:List Expr}{t:TG}{u:BQ}(h1:QG X e t)(h2:L9 X es u)(hs:(assignEach (e::es) X.env).map (·.2)=assign e X.env::(assignEach es X.env).map (·.2):=by rfl):L9 X (e::es) (Dw t u):=⟨DD h1.h h2.h hs⟩
end
section
variable {X:Cx} {pos:Pos}
theorem ke{es:List Expr}{k:Nat}{t:BQ}{n:Nat}(hc:X.calm=true)(h:L9 X es t)(hn:(assignEach es X.env).length=n:=by rfl)(hst:(assignEach es X.env).findIdx? (·.1)=none:=by rfl):QG X (.Tuple es k pos) (JZ X.K n t):=⟨Ib hc h.h hn hst⟩
end
section
variable {X:Cx} {pos:Pos}
theorem qv{o i:Expr}{to ti:TE}{t:EM}(ho:QE X o to)(hi:QE X i ti)(hs:Jc X t)(ha:∀v,assign (.Subscript o i pos) X.env v=(do
   let ov <-holding [v] (eval o X.env)
   let iv <-holding [v,ov] (eval i X.env)
   standAt pos
   holding [v,ov,iv] (setItem ov iv v)
   release [v,ov,iv] []):=by intro _;rfl):QG X (.Subscript o i pos) (J0 to ti t):=⟨Ic ho.h hi.h hs ha⟩
end
section
variable {X:Cx} {pos:Pos}
theorem qr{tg e:Expr}{te:TE}{g:TG}(he:QE X e te)(hg:QG X tg g)(hs:swapsWithSole [tg] e pos.line X.env=pure false:=by rfl)(hw:swappedStores [tg] e X.env=pure none:=by rfl)(h1:(assignEach [tg] X.env).map (·.2)=[assign tg X.env]:=by rfl):QS X (.Assign [tg] e pos) (uf te g):=⟨IZ he.h hg.h hs hw h1⟩
end
section
variable {X:Cx} {pos:Pos}
theorem aj{i:Nat}{x:Str}{e:Expr}{te:TE}{pos':Pos}(hN:X.N.Nodup)(hi:X.N[i]? = some x)(hx:Loc X.env.scope x)(he:QE X e te)(hs:swapsWith e (some (.Name x pos')) pos.line X.env=pure false:=by rfl)(hf:X.fn x=true\/X.env.scope.names.lookup x=some .local:=by first | exact .inl rfl | exact .inr rfl | assumption):QS X (.Assign [.Name x pos'] e pos) (uf te (mY i)):=⟨IW hN hi hx he.h hs hf⟩
end
section
variable {X:Cx} {pos:Pos}
theorem nw{c:Expr}{body:List Stmt}{tc:TT}{tb:TS}(hp:PassesOwn (model X.prog X.w) X.A X.env X.xe)(hc:QT X c tc)(hb:jE X body tb):QS X (.While c body [] pos) (CA tc tb):=⟨Cv hp hc.h hb.h⟩
end
section
variable {X:Cx} {tg:Expr}
theorem eZ{l:Expr}{tl:TE}(hl:QE X l tl):QI X tg l (AE X.K tl):=⟨FI hl.h⟩
end
section
variable {X:Cx} {tg:Expr}
theorem qu{l:Expr}{tl:TE}(hl:QE X l tl):QI X tg l (Fp X.K tl):=⟨I9 hl.h⟩
end
section
variable {X:Cx} {tg:Expr}
theorem iK {a:Expr} {ta:TA} {p pos:Pos} (hg:Gl X "range") (hm:X.mg "range"=none) (ha:QA X [a] ta) (hs:starEach [a] X.env=[(false,eval a X.env)]:=by rfl):QI X tg (.Call (.Name "range" p) [a] [] pos) (AD ta):=⟨Ad hg hm ha.h hs⟩
end
section
variable {X:Cx} {tg:Expr}
theorem iJ {a b:Expr} {ta:TA} {p pos:Pos} (hg:Gl X "range") (hm:X.mg "range"=none) (ha:QA X [a,b] ta) (hs:starEach [a,b] X.env=[(false,eval a X.env),(false,eval b X.env)]:=by rfl) (hs2:starEach [b] X.env=[(false,eval b X.env)]:=by rfl):QI X tg (.Call (.Name "range" p) [a,b] [] pos) (AC ta):=⟨Ac hg hm ha.h hs hs2⟩
end
section
variable {X:Cx} {tg:Expr}
theorem c8{iter:Expr}{body:List Stmt}{wi:TI}{g:TG}{tb:TS}{pos:Pos}(hp:PassesOwn (model X.prog X.w) X.A X.env X.xe)(hc:X.calm=true)(hi:QI X tg iter wi)(hg:QG X tg g)(hb:jE X body tb)(hs:∀x,foldedSetIterable iter X.env x=pure x:=by intro _;rfl):QS X (.For tg iter body [] pos) (qY wi g tb):=⟨IY hp hc hi.h hg.h hb.h hs⟩
end
section
variable {X:Cx} {a b:Expr} {ta tb:TE} {pos:Pos}
theorem ae{op:Operator}{r:R2}(ho:nQ X (binaryOp op) r)(ha:QE X a ta)(hb:QE X b tb):QE X (.BinOp a op b pos) (CC r ta tb):=⟨Kv ho ha.h hb.h⟩
end
section
variable {X:Cx} {a:Expr} {ta:TE} {pos:Pos}
theorem uw{op:UnaryOp}{r:V->Hp->VK->Prop}(ho:L7 X (unaryOp op) r)(ha:QE X a ta):QE X (.UnaryOp op a pos) (Lh r ta):=⟨Kt ho ha.h⟩
end
section
variable {X:Cx} {a b:Expr} {ta tb:TE} {pos:Pos}
theorem eQ{op:CmpOp}{r:R2}(ho:nQ X (compareOp op) r)(ha:QE X a ta)(hb:QE X b tb)(hm:behindInMarks op b=false):QE X (.Compare a [op] [b] pos) (CC r ta tb):=⟨FR ho ha.h hb.h hm⟩
end
section
variable {X:Cx} {a b:Expr} {ta tb:TE} {pos:Pos}
theorem bX{op:CmpOp}{r:R2}(ho:nQ X (compareOp op) r)(ha:QE X a ta)(hb:QE X b tb)(hm:behindInMarks op b=false):QT X (.Compare a [op] [b] pos) (v8 (CC r ta tb)):=⟨Ey ho ha.h hb.h hm⟩
end
section
variable {X:Cx} {a:Expr} {ta:TE} {pos:Pos}
theorem tu(ha:QE X a ta)(he:∀whole,isTrue a X.env whole=(do let v <-whole;standAt a.pos;holding [v] (truthy v))):QT X a (λσ H Q=>ta σ H λx H'=>∃k,Ja X.K x H' k/\Q k H'):=⟨Cr ha.h he⟩
end
section
variable {X:Cx}
theorem aC  : QA X [] Hr:=⟨xr ⟩
end
section
variable {X:Cx} {e:Expr} {es:List Expr} {te:TE} {t:TA}
theorem Cp(ha:QE X e te)(hr:QA X es t)(hs:starEach (e::es) X.env=(false,eval e X.env)::starEach es X.env:=by rfl):QA X (e::es) (gU te t):=⟨gp ha.h hr.h hs⟩
end
section
variable {X:Cx} {es:List Expr} {t:TA} {pos:Pos}
theorem dE{x1}(h:QA X es t):QE X (.Tuple es x1 pos) (Hi t):=⟨Ii h.h⟩
end
section
variable {X:Cx} {es:List Expr} {t:TA} {pos:Pos}
theorem cv(h:QA X es t):QE X (.List es pos) (Hs t):=⟨Io h.h⟩
end
section
variable {X:Cx} {x:Str} {p pos:Pos} {e:Expr} {es:List Expr} {t:TA} {id:String} {r:List V->Hp->VK->Prop}
theorem bG (hc:iY X (.builtin id) r) (hg:Gl X x) (hm:X.mg x=none) (hv:bootBuiltins x=some (.builtin id)) (ha:QA X (e::es) t) (hn:x≠"__name__":=by decide) (hdb:(x==("__debug__":Str))=false:=by decide) (he:starEach (e::es) X.env=(false,eval e X.env)::starEach es X.env:=by rfl) (hpl:(backTo pos (starEach es X.env)).any (·.1)=false:=by rfl):QE X (.Call (.Name x p) (e::es) [] pos) (K9 r t):=⟨DO hc hg hm hv ha.h hn hdb he hpl⟩
end
section
variable {X:Cx} {x:Str} {p pos:Pos} {e:Expr} {es:List Expr} {t:TA} {T:String} {r:List V->Hp->VK->Prop}
theorem d8 (hc:iY X (.type T) r) (hg:Gl X x) (hm:X.mg x=none) (hv:bootBuiltins x=some (.type T)) (ha:QA X (e::es) t) (hn:x≠"__name__":=by decide) (hdb:(x==("__debug__":Str))=false:=by decide) (he:starEach (e::es) X.env=(false,eval e X.env)::starEach es X.env:=by rfl) (hpl:(backTo pos (starEach es X.env)).any (·.1)=false:=by rfl):QE X (.Call (.Name x p) (e::es) [] pos) (K9 r t):=⟨Ae hc hg hm hv ha.h hn hdb he hpl⟩
end
section
variable {X:Cx}
theorem Cj  : QO X none uc:=⟨FH ⟩
end
section
variable {X:Cx} {e:Expr} {te:TE}
theorem nE(h:QE X e te):QO X (some e) (CB te):=⟨FG h.h⟩
end
section
variable {X:Cx} {e:Expr} {te:TE} {lo hi:Option Expr} {tl th:TO} {pos p2:Pos}
theorem pq{r:V->Option Int->Option Int->Hp->VK->Prop}(hr:L8 X r)(he:QE X e te)(hl:QO X lo tl)(hu:QO X hi th):QE X (.Subscript e (.Slice lo hi none p2) pos) (Lj r te tl th):=⟨DG hr he.h hl.h hu.h⟩
end
section
variable {X:Cx} {a b:Expr} {ta tb:TE} {pos:Pos}
theorem a9{r:R2}(hr:EQ X r)(ha:QE X a ta)(hb:QE X b tb)(hs:AO b):QE X (.Subscript a b pos) (CC r ta tb):=⟨Kw hr ha.h hb.h hs⟩
end
section
variable {X:Cx} {o:Expr} {to:TE} {name:Str} {apos cpos:Pos} {T id:String} {r:V->List V->Hp->VK->Prop}
theorem qw (pa:PlainAttrs T) (slot:Slot T name id) (hty:typeOf (.builtin id)=pure (.type "method_descriptor")) (hm:Jq X id r) (ho:QE X o to) (hbase:attributeBase o name X.env (eval o X.env)=eval o X.env:=by rfl) (hline:(apos.endLine==cpos.line)=true:=by rfl):QE X (.Call (.Attribute o name apos) [] [] cpos) (Hx X.K T r to):=⟨Ir pa slot hty hm ho.h hbase hline⟩
end
section
variable {X:Cx} {o e:Expr} {es:List Expr} {to:TE} {t:TA} {name:Str} {apos cpos:Pos} {T id:String} {r:V->List V->Hp->VK->Prop}
theorem fJ (pa:PlainAttrs T) (slot:Slot T name id) (hty:typeOf (.builtin id)=pure (.type "method_descriptor")) (hm:Jq X id r) (ho:QE X o to) (ha:QA X (e::es) t) (hbase:attributeBase o name X.env (eval o X.env)=eval o X.env:=by rfl) (hfew:((backTo cpos (starEach (e::es) X.env)).all (λx=>!x.1)&&(backToKw cpos (keywordEach [] X.env)).all (λx=>x.1.isSome)
   && decide ((e::es).length+([]:List Keyword).length+(if ([]:List Keyword).isEmpty then 0 else 1)<30))=true:=by rfl) (hline:(apos.endLine==cpos.line)=true:=by rfl) (hs:starEach (e::es) X.env=(false,eval e X.env)::starEach es X.env:=by rfl) (hplain:(backTo cpos (starEach es X.env)).any (·.1)=false:=by rfl):QE X (.Call (.Attribute o name apos) (e::es) [] cpos) (Ka X.K T r to t):=⟨Kx pa slot hty hm ho.h ha.h hbase hfew hline hs hplain⟩
end
section
variable {X:Cx}
theorem a8 (i:Nat) {x:Str} {pos:Pos} (hN:X.N[i]? = some x:=by rfl) (hv:LM X.env.scope x:=by first | exact Or.inl rfl | exact Or.inr (Or.inl rfl) | exact Or.inr (Or.inr rfl)) (hd:(x==("__debug__":Str))=false:=by decide) (hcd:(x==("__classdict__":Str))=false:=by decide):QE X (.Name x pos) (xT i):=⟨pv i hN hv hd hcd⟩
end
section
variable {X:Cx}
theorem xp{a b c d:Expr}{ta tb tc td:TE}{pos:Pos}{op op' op2:CmpOp}{r r' r2:R2}(ho:nQ X (compareOp op) r)(ho':nQ X (compareOp op') r')(ho2:nQ X (compareOp op2) r2)(ha:QE X a ta)(hb:QE X b tb)(hc:QE X c tc)(hd:QE X d td)(hm:lastMarks [op,op',op2] [b,c,d]=false:=by with_unfolding_all rfl):QT X (.Compare a [op,op',op2] [b,c,d] pos) (v8 (ue r r' r2 ta tb tc td)):=⟨Aa ho ho' ho2 ha.h hb.h hc.h hd.h hm⟩
end
section
theorem A7 {X:Cx} {x:Str} {i:Int} {pos:Pos} (hg:Gl X x) (hm:∃t,X.mg x=some (.int i t)) (hd:(x==("__debug__":Str))=false:=by decide):QE X (.Name x pos) (tC (.int i)):=⟨DJ hg hm hd⟩
end
section
theorem ac {X:Cx} {k:Nat} {x:Str} {st:Stmt} {ps:List Str} {sp:Sp} {e:Expr} {es:List Expr} {t:TA} {p pos:Pos} (D:eO X.prog X.w X.K X.mg X.base k x st ps sp) (hr:iM k X.A) (hg:Gl X x) (ha:QA X (e::es) t) (hdb:(x==("__debug__":Str))=false:=by decide) (he:starEach (e::es) X.env=(false,eval e X.env)::starEach es X.env:=by rfl) (hpl:(backTo pos (starEach es X.env)).any (·.1)=false:=by rfl):QE X (.Call (.Name x p) (e::es) [] pos) (zS sp [] E0 t):=⟨DN D hr hg ha.h hdb he hpl⟩
end
section
theorem Ew{X:Cx}{tg l:Expr}{tl:TE}(hl:QE X l tl):QI X tg l (JW tl):=⟨Ia hl.h⟩
end
section
theorem Cm {X:Cx} {a:Expr} {ta:TA} {elts:List Expr} {x1:Nat} {p pos tpos:Pos} (hg:Gl X "enumerate") (hm:X.mg "enumerate"=none) (ha:QA X [a] ta) (hs:starEach [a] X.env=[(false,eval a X.env)]:=by rfl):QI X (.Tuple elts x1 tpos) (.Call (.Name "enumerate" p) [a] [] pos) (Ds ta):=⟨FJ hg hm ha.h hs⟩
end
section
theorem mC{X:Cx}:QF X [] tS:=⟨Ig ⟩
end
section
theorem uv{X:Cx}{c:Expr}{t:TT}(h:QT X c t):QF X [c] t:=⟨Ie h.h⟩
end
section
variable {X:Cx} {H:Hp} {s:Shared}
theorem lO{own ns:List Str}{caps:List Nat}{elt tg iter:Expr}{ifs:List Expr}{scope:Scope}{pos:Pos}{wi:TI}{g:TG}{tf:TT}{te:TE}(hc:X.calm=true)(S:mU scope ns)(cp:mT X scope ns caps)(hi:QI X tg iter wi)(hg:∀C s H fp pn,QG (qh X (own++ns) scope C s H fp pn) tg g)(ht:∀C s H fp pn,QF (qh X (own++ns) scope C s H fp pn) ifs tf)(he:∀C s H fp pn,QE (qh X (own++ns) scope C s H fp pn) elt te)(hs:∀x,foldedSetIterable iter X.env x=pure x:=by intro _;rfl):QE X (.ListComp elt [⟨tg,iter,ifs,0⟩] scope pos) (og own.length caps wi g tf te):=⟨FQ hc S cp hi.h (λC s H fp pn=>(hg C s H fp pn).h) (λC s H fp pn=>(ht C s H fp pn).h) (λC s H fp pn=>(he C s H fp pn).h) hs⟩
end
section
variable {X:Cx} {H:Hp} {s:Shared}
theorem wC{i:Nat}{x:Str}{own ns:List Str}{caps:List Nat}{elt tg iter:Expr}{ifs:List Expr}{scope:Scope}{pos pos' spos:Pos}{wi:TI}{g:TG}{tf:TT}{te:TE}(hN:X.N.Nodup)(hi:X.N[i]? = some x)(hx:Loc X.env.scope x)(hc:X.calm=true)(S:mU scope ns)(cp:mT X scope ns caps)(hit:QI X tg iter wi)(hg:∀C s H fp pn,QG (qh X (own++ns) scope C s H fp pn) tg g)(ht:∀C s H fp pn,QF (qh X (own++ns) scope C s H fp pn) ifs tf)(he:∀C s H fp pn,QE (qh X (own++ns) scope C s H fp pn) elt te)(hs:∀x,foldedSetIterable iter X.env x=pure x:=by intro _;rfl)(hsw:swapsWith (.ListComp elt [⟨tg,iter,ifs,0⟩] scope pos) (some (.Name x pos')) spos.line X.env=pure true:=by rfl)(hf:X.fn x=true\/X.env.scope.names.lookup x=some .local:=by first | exact .inl rfl | exact .inr rfl | assumption):QS X (.Assign [.Name x pos'] (.ListComp elt [⟨tg,iter,ifs,0⟩] scope pos) spos) (uf (og own.length caps wi g tf te) (mY i)):=⟨FC hN hi hx hc S cp hit.h (λC s H fp pn=>(hg C s H fp pn).h) (λC s H fp pn=>(ht C s H fp pn).h) (λC s H fp pn=>(he C s H fp pn).h) hs hsw hf⟩
end
section
theorem uD {X:Cx} {x:Str} {K:PySem.W.Frag} {xs:List V} {pos:Pos} (hg:Gl X x) (hm:∃a,X.mg x=some (.ref a)/\∀H,dA K H a xs) (hd:(x==("__debug__":Str))=false:=by decide):QE X (.Name x pos) (xV K xs):=⟨DI hg hm hd⟩
end
section
theorem c6{X:Cx}{st:Stmt}{rest:List Stmt}{t u:TS}(h1:QS X st t)(h2:jE X rest u):jE X (st::rest) (Hv t u):=⟨FB h1.h h2.h⟩
end
section
variable {X:Cx} {es:List Expr} {te:TE} {t:TA}
theorem ck{a0:PySem.Expr}{a1:PySem.Operator}{a2:PySem.Expr}{a3:PySem.Pos}(ha:QE X (Expr.BinOp a0 a1 a2 a3) te)(hr:QA X es t):QA X ((Expr.BinOp a0 a1 a2 a3)::es) (gU te t):=⟨DT ha.h hr.h⟩
end
section
variable {X:Cx} {es:List Expr} {te:TE} {t:TA}
theorem i8{a0:PySem.Expr}{a1:List Comprehension}{a2:PySem.Scope}{a3:PySem.Pos}(ha:QE X (Expr.ListComp a0 a1 a2 a3) te)(hr:QA X es t):QA X ((Expr.ListComp a0 a1 a2 a3)::es) (gU te t):=⟨wL ha.h hr.h⟩
end
section
variable {X:Cx} {es:List Expr} {te:TE} {t:TA}
theorem jb{a0:PySem.Expr}{a1:List CmpOp}{a2:List Expr}{a3:PySem.Pos}(ha:QE X (Expr.Compare a0 a1 a2 a3) te)(hr:QA X es t):QA X ((Expr.Compare a0 a1 a2 a3)::es) (gU te t):=⟨xt ha.h hr.h⟩
end
section
variable {X:Cx} {es:List Expr} {te:TE} {t:TA}
theorem ci{a0:PySem.Expr}{a1:List Expr}{a2:List Keyword}{a3:PySem.Pos}(ha:QE X (Expr.Call a0 a1 a2 a3) te)(hr:QA X es t):QA X ((Expr.Call a0 a1 a2 a3)::es) (gU te t):=⟨FY ha.h hr.h⟩
end
section
variable {X:Cx} {es:List Expr} {te:TE} {t:TA}
theorem cB{a0:PySem.Const}{a1:Nat}{a2:PySem.Pos}(ha:QE X (Expr.Constant a0 a1 a2) te)(hr:QA X es t):QA X ((Expr.Constant a0 a1 a2)::es) (gU te t):=⟨wM ha.h hr.h⟩
end
section
variable {X:Cx} {es:List Expr} {te:TE} {t:TA}
theorem aY{a0:PySem.Expr}{a1:PySem.Expr}{a2:PySem.Pos}(ha:QE X (Expr.Subscript a0 a1 a2) te)(hr:QA X es t):QA X ((Expr.Subscript a0 a1 a2)::es) (gU te t):=⟨uy ha.h hr.h⟩
end
section
variable {X:Cx} {es:List Expr} {te:TE} {t:TA}
theorem aG{a0:PySem.Str}{a1:PySem.Pos}(ha:QE X (Expr.Name a0 a1) te)(hr:QA X es t):QA X ((Expr.Name a0 a1)::es) (gU te t):=⟨FV ha.h hr.h⟩
end
section
variable {X:Cx} {es:List Expr} {te:TE} {t:TA}
theorem lP{a0:List Expr}{a1:PySem.Pos}(ha:QE X (Expr.List a0 a1) te)(hr:QA X es t):QA X ((Expr.List a0 a1)::es) (gU te t):=⟨FW ha.h hr.h⟩
end
section
variable {X:Cx} {es:List Expr} {te:TE} {t:TA}
theorem eE{a0:List Expr}{a1:Nat}{a2:PySem.Pos}(ha:QE X (Expr.Tuple a0 a1 a2) te)(hr:QA X es t):QA X ((Expr.Tuple a0 a1 a2)::es) (gU te t):=⟨DS ha.h hr.h⟩
end
section
variable {X:Cx} {es:List Expr} {te:TE} {t:TA}
theorem wG{a0:List (Option Expr)}{a1:List Expr}{a2:PySem.Pos}(ha:QE X (Expr.Dict a0 a1 a2) te)(hr:QA X es t):QA X ((Expr.Dict a0 a1 a2)::es) (gU te t):=⟨FX ha.h hr.h⟩
end
section
variable {X:Cx} {o i:Expr} {pos:Pos} {td ty:TE}
theorem f7(hu:X.A.units+1<cLine)(ho:QE X o td)(hi:QE X i ty)(hs:Jf i):QE X (.Subscript o i pos) (CJ td ty):=⟨FP hu ho.h hi.h hs⟩
end
section
variable {X:Cx} {o i value:Expr} {pos pos':Pos} {td ty tv:TE}
theorem ft(hu:X.A.units+1<cLine)(ho:QE X o td)(hi:QE X i ty)(hv:QE X value tv)(hs:swapsWith value (some (.Subscript o i pos')) pos.line X.env=pure false):QS X (.Assign [.Subscript o i pos'] value pos) (C7 td ty tv):=⟨FE hu ho.h hi.h hv.h hs⟩
end
section
variable {X:Cx} {pos:Pos}
theorem pw  : QE X (.Dict [] [] pos) xX:=⟨DL ⟩
end
section
variable {X:Cx} {pos:Pos}
theorem lM  : QE X (.Dict [] [] pos) xW:=⟨DK ⟩
end
section
theorem Ci{X:Cx}{pos:Pos}:GL X pos [] [] []:=⟨FF ⟩
end
section
theorem uB{X:Cx}{pos:Pos}{k v:Expr}{ks:List (Option Expr)}{vs:List Expr}{tk tv:TE}{trs:List (TE×TE)}(hk:QE X k tk)(hv:QE X v tv)(hr:GL X pos ks vs trs):GL X pos (some k::ks) (v::vs) ((tk,tv)::trs):=⟨DB hk.h hv.h hr.h⟩
end
section
theorem Co{X:Cx}{pos:Pos}{keys:List (Option Expr)}{values:List Expr}{trs:List (TE×TE)}(h:GL X pos keys values trs)(hall:keys.all (·.isSome)=true)(hl:keys.length=values.length)(h0:keys≠[])(h15:keys.length<=15):QE X (.Dict keys values pos) (CI trs):=⟨FN h.h hall hl h0 h15⟩
end
section
variable {X:Cx} {o e f:Expr} {apos cpos:Pos} {td ty tx:TE}
theorem A8 (hu:X.A.units+1<cLine) (ho:QE X o td) (he:QE X e ty) (hf:QE X f tx) (m:M2 X o "get" apos e f cpos):QE X (.Call (.Attribute o "get" apos) [e,f] [] cpos) (xY td ty tx):=⟨DM hu ho.h he.h hf.h m⟩
end
section
variable {X:Cx} {k:Nat} {f:Str} {st:Stmt} {ps:List Str} {sp:Sp} {e:Expr} {te:TE} {p p2 kp pos:Pos}
theorem A6 (D:eO X.prog X.w X.K X.mg X.base k f st ps sp) (hr:iM (k+2) X.A) (hg:Gl X "sorted") (hm:X.mg "sorted"=none) (hgf:Gl X f) (he:QE X e te) (hdf:(f==("__debug__":Str))=false:=by decide) (hs:starEach [e] X.env=[(false,eval e X.env)]:=by rfl):QE X (.Call (.Name "sorted" p) [e] [⟨some "key",.Name f p2,kp⟩] pos) (xU X.K sp te):=⟨DF D hr hg hm hgf he.h hdf hs⟩
end
section
variable {X:Cx}
theorem wD {e e2:Expr} {te td:TE} {p kp pos:Pos} (hc:X.calm=true) (hg:Gl X "max") (hm:X.mg "max"=none) (he:QE X e te) (hd:QE X e2 td) (hs:starEach [e] X.env=[(false,eval e X.env)]:=by rfl):QE X (.Call (.Name "max" p) [e] [⟨some "default",e2,kp⟩] pos) (CC (wB X.K) te td):=⟨FM hc hg hm he.h hd.h hs⟩
end
section
variable {X:Cx} {H:Hp} {s:Shared}
theorem uA{i:Nat}{x:Str}{own ns:List Str}{caps:List Nat}{elt tg iter:Expr}{ifs:List Expr}{scope:Scope}{pos pos' spos:Pos}{tl:TE}{g:TG}{tf:TT}{te:TE}(hN:X.N.Nodup)(hi:X.N[i]? = some x)(hx:Loc X.env.scope x)(hc:X.calm=true)(S:mU scope ns)(cp:mT X scope ns caps)(hit:QE X iter tl)(hg:∀C s H fp pn,QG (qh X (own++ns) scope C s H fp pn) tg g)(ht:∀C s H fp pn,QF (qh X (own++ns) scope C s H fp pn) ifs tf)(he:∀C s H fp pn,QE (qh X (own++ns) scope C s H fp pn) elt te)(hs:∀x,foldedSetIterable iter X.env x=pure x:=by intro _;rfl)(hsw:swapsWith (.ListComp elt [⟨tg,iter,ifs,0⟩] scope pos) (some (.Name x pos')) spos.line X.env=pure true:=by rfl)(hf:X.fn x=true\/X.env.scope.names.lookup x=some .local:=by first | exact .inl rfl | exact .inr rfl | assumption):QS X (.Assign [.Name x pos'] (.ListComp elt [⟨tg,iter,ifs,0⟩] scope pos) spos) (uf (xZ own.length caps tl g tf te) (mY i)):=⟨Cw hN hi hx hc S cp hit.h (λC s H fp pn=>(hg C s H fp pn).h) (λC s H fp pn=>(ht C s H fp pn).h) (λC s H fp pn=>(he C s H fp pn).h) hs hsw hf⟩
end
section
variable {X:Cx}
theorem Eu{k d:Expr}{ty td:TE}{pos:Pos}(hu:X.A.units+1<cLine)(hk:QE X k ty)(hd:QE X d td)(hm:behindInMarks .In d=false:=by first | rfl | with_unfolding_all rfl):QT X (.Compare k [.In] [d] pos) (tB (E9 ty td)):=⟨IV hu hk.h hd.h hm⟩
end
section
variable {X:Cx}
theorem xo{k d:Expr}{ty td:TE}{pos:Pos}(hu:X.A.units+1<cLine)(hk:QE X k ty)(hd:QE X d td)(hm:behindInMarks .NotIn d=false:=by first | rfl | with_unfolding_all rfl):QT X (.Compare k [.NotIn] [d] pos) (tB (qo ty td)):=⟨A9 hu hk.h hd.h hm⟩
end
section
theorem wF {X:Cx} {e:Expr} {te:TE} {p p2 pos2 pos:Pos} (hc:X.calm=true) (hgl:Gl X "list") (hml:X.mg "list"=none) (hgr:Gl X "reversed") (hmr:X.mg "reversed"=none) (he:QE X e te) (hs:starEach [.Call (.Name "reversed" p2) [e] [] pos2] X.env=[(false,eval (.Call (.Name "reversed" p2) [e] [] pos2) X.env)]:=by rfl) (hs2:starEach [e] X.env=[(false,eval e X.env)]:=by rfl):QE X (.Call (.Name "list" p) [.Call (.Name "reversed" p2) [e] [] pos2] [] pos) (Hk te):=⟨xq hc hgl hml hgr hmr he.h hs hs2⟩
end
open AutoSeq1 (wpAny_loadPart')
section
variable {prog:Program} {w:World} {A:Around} {E:Value->Shared->Prop} {s:Shared}
theorem yR{it t:Addr}{i:Nat}{items}{x:Value}{Q:Value->Shared->Prop}(hit:s.heap.IsTupleIter it t i)(ht:s.heap.IsTuple t items)(hx:items[i]? = some x)
  (hQ:∀h',h'.IsTupleIter it t (i+1)->Heap.SameBut it s.heap h'->Q x { s with heap:=h' }):wpAny (model prog w) A (Builtin.SmallTypes.nextOf (.ref it)) Q E s:=by
 obtain⟨o,ho,hc,hd⟩:=id hit;obtain⟨ol,hol,_,nl,hdl⟩:=ht;unfold Builtin.SmallTypes.nextOf;refine wpAny_bind (wpAny_callSpecial?_slot (name:=Str.ofString "__next__") hit.typeIs fP (wpAny_call_entry fP hit.typeIs kC ?_ (ju _)));show wpAny _ _ (field (.ref it) 0>>=_) _ _ s;refine wpAny_bind (wpAny_field ho hd (x:=.ref t) rfl ?_);show wpAny _ _ (if (Value.ref t==Value.none)=true then _ else _) _ _ s;rw[if_neg (show ¬((Value.ref t==Value.none)=true) from a7)];show wpAny _ _ (field (.ref it) 1>>=_) _ _ s;refine wpAny_bind (wpAny_field ho hd (x:=.int i 0) rfl ?_);show wpAny _ _ (seqItems? (.ref t)>>=_) _ _ s;refine wpAny_bind (wpAny_seqItems hol hdl ?_);simp only[cM,hx];refine wpAny_bind (wpAny_setField ho hd (by simp) (wpAny_pure ⟨x,rfl,wpAny_pure (hQ _ ?_ (cy ..))⟩));exact⟨_,dX _ ho (jG (fM hd _)),(kj ..).trans hc,by rw[fM hd];simp[rawInt]⟩
theorem Al{it t:Addr}{i:Nat}{items}{Q:Value->Shared->Prop}(hh:A.handled=none)(hit:s.heap.IsTupleIter it t i)(ht:s.heap.IsTuple t items)(hx:items[i]? = none)
  (hE:∀h' e,Heap.ExtBut it s.heap h'->(∃o,h'.get? e=some o/\o.cls=.type "StopIteration")->E (.ref e) { s with heap:=h' }):wpAny (model prog w) A (Builtin.SmallTypes.nextOf (.ref it)) Q E s:=by
 obtain⟨o,ho,hc,hd⟩:=id hit;obtain⟨ol,hol,_,nl,hdl⟩:=ht;unfold Builtin.SmallTypes.nextOf;refine wpAny_bind (wpAny_callSpecial?_slot (name:=Str.ofString "__next__") hit.typeIs fP (wpAny_call_entry fP hit.typeIs kC ?_ (ju _)));show wpAny _ _ (field (.ref it) 0>>=_) _ _ s;refine wpAny_bind (wpAny_field ho hd (x:=.ref t) rfl ?_);show wpAny _ _ (if (Value.ref t==Value.none)=true then _ else _) _ _ s;rw[if_neg (show ¬((Value.ref t==Value.none)=true) from a7)];show wpAny _ _ (field (.ref it) 1>>=_) _ _ s;refine wpAny_bind (wpAny_field ho hd (x:=.int i 0) rfl ?_);show wpAny _ _ (seqItems? (.ref t)>>=_) _ _ s;refine wpAny_bind (wpAny_seqItems hol hdl ?_);simp only[cM,hx];refine wpAny_bind (wpAny_rule (wpAny_bind (wpAny_setField ho hd (by simp) ?_)));show wpAny _ _ (newExc (.type "StopIteration") []>>=_) _ _ _;refine wpAny_bind ?_;simp only[newExc,newTuple];refine wpAny_bind (wpAny_newObj_type ?_ (by size_fits));refine wpAny_bind (m:=firstArgMember _ _) (wpAny_of_eq (a:=Value.none) (by first | rfl | (simp only[firstArgMember];rfl)) ?_);refine wpAny_newObj_type ?_ (by size_fits);simp only[raiseNew];refine wpAny_bind (wpAny_handled ?_);first | rw[show A.in1.handled=none from hh] | rw[hh]
 refine wpAny_bind (wpAny_pure (wpAny_throw ?_));exact hE _ _ (((cy ..).extBut.push _).push _) ⟨_,aO _ rfl,rfl⟩
theorem Draws.tup(hh:A.handled=none)(it t:Addr)(hne:t≠it)(items:Array Value):Draws prog w A it [it,t] items.size (λi v=>items[i]? = some v) (λi h=>h.IsTupleIter it t i/\h.IsTuple t items) where
 live:=λ_ _ st=>let ⟨o,ho,_⟩:=st.1;⟨o,ho⟩
 frame:=λ_ _ _ st hk=>by
  obtain⟨st1,o,ho,r⟩:=st;exact⟨st1.at λo e=>hk it (by simp) o e,o,hk t (by simp) o ho,r⟩
 item:=λi s Q E hi st hQ=>yR st.1 st.2 (x:=items[i]) (by simp[hi]) λh' hit' hs'=>hQ _ h' s.toks (by simp[hi]) ⟨hit',st.2.extBut hs'.extBut hne⟩ hs'
 done:=λs Q E st hE=>Al hh st.1 st.2 (by simp) hE
end
section
variable {X:Cx} {pins:List (Addr×Obj)} {σ:St} {H:Hp} {s:Shared} {h':Heap}
theorem bi.turnAll{fp:List Addr}{t':Nat}(I:bi X pins σ H s)(hf:∀b∈fp,k6 X pins H b)(k:∀b u,b∉fp->s.heap.get? b=some u->h'.get? b=some u):bi X pins σ H { s with heap:=h',toks:=t' }:=by
 have nfp:∀b u,H b=some u->b∉fp:=λb u e z=>by rw[(hf b z).1] at e;cases e
 refine I.step (g':=s.gens) (d':=s.drawn) (ch:=fp) (λb hb=>?_) (λb o _ _ hc e _=>k b o hc e) (λb o _ _ hc e _=>⟨o.slots,k b o hc e⟩) (λ_ _ _ _ n=>n)
  (λb o hc e=>⟨o,k b o hc e⟩) (λ_ _ e=>e) (λ_ _ _ e=>e) (λb ps e=>⟨#[],by rw[e];simp⟩) (λm hm=>?_) (λb u e=>?_) I.bare
 ·obtain⟨_,f1,_,f3,f4,f5⟩:=hf b hb;exact⟨f3,f1,f4,f5⟩
 ·obtain⟨ob,es,ep,ho,r⟩:=hm;exact⟨ob,es,ep,k _ ob (λz=>(hf _ z).2.1 rfl) ho,r⟩
 ·refine(I.hok b u e).stay (λc v hc q=>k c v ?_ q) (λ_ q=>q) λ_ _ q=>q;rcases hc with z | z
  ·rw[z];exact nfp b u e
  ·exact nfp c _ z
end
def LR(K:PySem.W.Frag)(a:Addr):It:=
 ⟨λi H=>∃xs x,dA K H a xs/\xs[i]? = some x,λi H v H'=>∃p x,H p=none/\(∀xs,dA K H a xs->xs[i]? = some x)/\v=.ref p/\H'=upd H p (.tup [.int i,x]),λi H=>∃xs,dA K H a xs/\xs.length=i⟩
def JX(K:PySem.W.Frag)(ta:TA):TI:=λσ H R=>ta σ H λvs H1=>∃a,vs=[.ref a]/\(∃xs,dA K H1 a xs)/\R (LR K a) H1
def Jr(K:PySem.W.Frag)(a b:Addr):It:=
  ⟨λi H=>∃xs ys x y,bv K H a xs/\bv K H b ys/\xs[i]? = some x/\ys[i]? = some y,
   λi H v H'=>∃p x y,H p=none/\(∀xs,bv K H a xs->xs[i]? = some x)/\(∀ys,bv K H b ys->ys[i]? = some y)/\v=.ref p/\H'=upd H p (.tup [x,y]),
   λi H=>∃xs ys,bv K H a xs/\bv K H b ys/\(xs.length<=i\/ys.length<=i)⟩
theorem Bv {P : Program} {w : World} {K : PySem.W.Frag} {elts : List Expr} {x1 : Nat} {pos : Pos} (z TI TO i1 i2 a b : Addr) (ap : ZipApart z TI TO i1 i2 a b) :
    Turn P w K (.Tuple elts x1 pos) (Jr K a b) [z, TI, TO, i1, i2] z (fun i h => IsZip h z TI TO .none ∧ IsPair h TI (.ref i1) (.ref i2) ∧ (∃ u v, IsPair h TO u v) ∧ h.IsListIter i1 a i ∧ h.IsListIter i2 b i) where
  mem := by simp
  obj := fun i h st c hb => by
    obtain ⟨h1, h2, ⟨u, v, h3⟩, ⟨o4, e4, c4, d4⟩, ⟨o5, e5, c5, d5⟩⟩ := st
    simp only [aJ, bn, or_false] at hb
    rcases hb with rfl | rfl | rfl | rfl | rfl
    · exact ⟨_, h1, fun v z => by cases z⟩
    · exact ⟨_, h2, fun v z => by cases z⟩
    · exact ⟨_, h3, fun v z => by cases z⟩
    · exact ⟨o4, e4, fun v z => by rw [d4] at z; cases z⟩
    · exact ⟨o5, e5, fun v z => by rw [d5] at z; cases z⟩
  keep := fun i h h' st k => by
    obtain ⟨h1, h2, ⟨u, v, h3⟩, h4, h5⟩ := st
    exact ⟨k z (by simp) _ h1, k TI (by simp) _ h2, ⟨u, v, k TO (by simp) _ h3⟩, h4.at fun o e => k i1 (by simp) o e, h5.at fun o e => k i2 (by simp) o e⟩
  item := by
    intro X hP hw hK hc i pins s σ H E I hf st hg
    subst hP hw hK
    obtain ⟨h1, h2, ⟨u0, v0, h3⟩, h4, h5⟩ := st
    obtain ⟨xs, ys, x, y, hqa, hqb, hx, hy⟩ := hg
    obtain ⟨ia, ra, pa, _⟩ := I.list hqa
    obtain ⟨ib, rb, pb, _⟩ := I.list hqb
    obtain ⟨ua, hua, rua⟩ := ra.get hx
    obtain ⟨ub, hub, rub⟩ := rb.get hy
    refine wpAny_pyNext_zip_item ap h1 h2 h3 h4 h5 pa.isList pb.isList (x := ua) (y := ub) (by simpa using hua) (by simpa using hub) fun h' hz ho hi1 hi2 hp hsz kp => ?_
    refine ⟨_, rfl, wpAny_letOwnedTupleGo_zip hz fun hh hz2 hs2 => ?_⟩
    have hn : H s.heap.objs.size = none := I.hok.fresh (aH _)
    have lz : s.heap.objs.size ≠ z := fb (aN h1)
    have ht2 : hh.get? s.heap.objs.size = some { cls := .type "tuple", data := .seq #[ua, ub] } := (hs2.2 _ lz).trans hp
    refine ⟨.ref s.heap.objs.size, upd H s.heap.objs.size (.tup [x, y]), I.turnNew (fp := [z, TI, TO, i1, i2]) hf (fun c o hb q => ?_) (aH _) (show cZ X.prog X.w _ hh _ (.tup _) from ⟨(by show 2 ≤ sizeLine; decide), [ua, ub], .cons rua (.cons rub .nil), _, ht2, rfl, _, rfl⟩), rfl, ⟨_, x, y, hn, fun zs hz => by rw [I.list_inj hz hqa]; exact hx, fun zs hz => by rw [I.list_inj hz hqb]; exact hy, rfl, rfl⟩, ?_, fun c hb => ?_⟩
    · simp only [aJ, bn, or_false, not_or] at hb
      exact (hs2.2 c hb.1).trans (kp c o hb.1 hb.2.2.1 hb.2.2.2.1 hb.2.2.2.2 q)
    · refine ⟨hz2, (hs2.2 TI ap.TIz).trans (kp TI _ ap.TIz ap.TITO ap.TIi1 ap.TIi2 h2), ⟨_, _, (hs2.2 TO ap.TOz).trans ho⟩, hi1.at fun o e => (hs2.2 i1 ap.i1z).trans e, hi2.at fun o e => (hs2.2 i2 ap.i2z).trans e⟩
    · have hb' := (hf c hb).1
      rw [aP (fun z => ?_)]
      · exact hb'
      · have : c < s.heap.objs.size := by
          simp only [aJ, bn, or_false] at hb
          obtain ⟨o4, e4, _⟩ := h4
          obtain ⟨o5, e5, _⟩ := h5
          rcases hb with rfl | rfl | rfl | rfl | rfl
          · exact aN h1
          · exact aN h2
          · exact aN h3
          · exact aN e4
          · exact aN e5
        exact absurd z (av this)
  done := by
    intro X hP hw hK hc i pins s σ H E I hf st hg
    subst hP hw hK
    obtain ⟨h1, h2, ⟨u0, v0, h3⟩, h4, h5⟩ := st
    obtain ⟨xs, ys, hqa, hqb, hxy⟩ := hg
    obtain ⟨ia, ra, pa, _⟩ := I.list hqa
    obtain ⟨ib, rb, pb, _⟩ := I.list hqb
    have la := ra.length
    have lb := rb.length
    refine wpAny_pyNext_zip_end (I.ok.hd hc) ap h1 h2 h3 h4 h5 pa.isList pb.isList (hxy.imp (fun h => by simp; omega) (fun h => by simp; omega)) fun h' kp => ⟨rfl, I.turnAll (t' := s.toks) hf fun c o hb q => ?_⟩
    simp only [aJ, bn, or_false, not_or] at hb
    exact kp c o hb.1 hb.2.2.1 hb.2.2.2.1 hb.2.2.2.2 q
  self := fun _ _ _ _ _ st h => wpAny_pyIter_zip st.1 h
def Fm(K:PySem.W.Frag)(ta:TA):TI:=λσ H R=>ta σ H λvs H1=>∃a b,vs=[.ref a,.ref b]/\(∃xs,bv K H1 a xs)/\(∃ys,bv K H1 b ys)/\R (Jr K a b) H1
theorem I0 {X:Cx} {a b:Expr} {ta:TA} {elts:List Expr} {x1:Nat} {p pos tpos:Pos} (hg:Gl X "zip") (hm:X.mg "zip"=none) (ha:PA X [a,b] ta) (hs:starEach [a,b] X.env=(false,eval a X.env)::starEach [b] X.env:=by rfl) (hpl:(backTo pos (starEach [b] X.env)).any (·.1)=false:=by rfl) :
  PI X (.Tuple elts x1 tpos) (.Call (.Name "zip" p) [a,b] [] pos) (Fm X.K ta):=by
 intro pins s σ H R I h;refine Call_ (jT I hg hm boot_zip (bj (eR (ha pos pins s σ H _ I h) λus s1 ⟨vs,H1,I1,r1,z1,z2,e,⟨xs,hx⟩,⟨ys,hy⟩,q⟩=>?_) hs hpl));subst e;obtain⟨u,u',rfl,r2,r3⟩:=vals2 r1;cases r2;cases r3;obtain⟨ia,ra,pa,_⟩:=I1.list hx;obtain⟨ib,rb,pb,_⟩:=I1.list hy;obtain⟨oa,hoa,_⟩:=id pa.isList;obtain⟨ob,hob,_⟩:=id pb.isList;refine call_zip_2 pa.isList pb.isList λh' hz hti hto hi1 hi2 hsz kp=>?_;refine wpAny_pyIter_zip hz ?_;have I2:bi X pins σ H1 { s1 with heap:=h' }:=I1.kept (t':=s1.toks) kp;refine⟨_,_,_,_,H1,rfl,I2,Bv _ _ _ _ _ z1 z2 (zipApart_new (aN hoa) (aN hob)),⟨hz,hti,⟨_,_,hto⟩,hi1,hi2⟩,λb hb=>?_,q⟩;have hle:s1.heap.objs.size<=b:=by
  simp only[aJ,bn,or_false] at hb;rcases hb with rfl | rfl | rfl | rfl | rfl
  ·exact eG _ _
  ·exact eG _ _
  ·exact eG _ _
  ·exact aH _
  ·exact eG _ _
 exact I1.fpOk hle (I1.hok.fresh hle)
end L2
namespace L2
open PySem PySem.Spec PyProof.Rows HT
section
variable {X:Cx}
theorem zg {a b:Expr} {ta:TA} {elts:List Expr} {x1:Nat} {p pos tpos:Pos} (hg:Gl X "zip") (hm:X.mg "zip"=none) (ha:QA X [a,b] ta) (hs:starEach [a,b] X.env=(false,eval a X.env)::starEach [b] X.env:=by rfl) (hpl:(backTo pos (starEach [b] X.env)).any (·.1)=false:=by rfl) :
  QI X (.Tuple elts x1 tpos) (.Call (.Name "zip" p) [a,b] [] pos) (Fm X.K ta):=⟨I0 hg hm ha.h hs hpl⟩
end
section
variable {σ:St} {H:Hp} {D:Ends} {K:PySem.W.Frag}
theorem zF{ta:TA}{g:TG}{tb:TS}:qY (JX K ta) g tb D σ H=ta σ H λvs H1=>∃a,vs=[.ref a]/\(∃xs,dA K H1 a xs)/\oI (LR K a) g tb D σ H1:=rfl
theorem zH{k:Nat}{caps:List Nat}{ta:TA}{g:TG}{tf:TT}{te:TE}{Q:VK}:og k caps (Fm K ta) g tf te σ H Q=ta σ H λvs H1=>∃a b,vs=[.ref a,.ref b]/\(∃xs,bv K H1 a xs)/\(∃ys,bv K H1 b ys)/\jz (Jr K a b) g tf te Q (jD k caps σ) H1:=rfl
end
end L2
namespace L2
open PySem PySem.Spec PyProof.Rows
structure so (z TI TO i1 i2:Addr) (f1 f2:List Addr):Prop where
 tz:TI≠z
 oz:TO≠z
 az:i1≠z
 bz:i2≠z
 to:TI≠TO
 ta:TI≠i1
 tb:TI≠i2
 oa:TO≠i1
 ob:TO≠i2
 ab:i1≠i2
 z1:z∉f1
 o1:TO∉f1
 b1:i2∉f1
 z2:z∉f2
 o2:TO∉f2
 a2:i1∉f2
section
variable {prog:Program} {w:World} {A:Around} {E:Value->Shared->Prop} {s:Shared} {z TI TO i1 i2:Addr} {f1 f2:List Addr} {n1 n2 k:Nat} {P1 P2:Nat->Value->Prop} {S1 S2:Nat->Heap->Prop} {a b:Value}
theorem gF{it:Addr}{fp:List Addr}{n i:Nat}{P:Nat->Value->Prop}{S:Nat->Heap->Prop}{h h':Heap}{c:Addr}(D:Draws prog w A it fp n P S)(st:S i h)(sb:Heap.SameBut c h h')(hc:c∉fp):S i h':=
 D.frame i h h' st λb hb o e=>(sb.2 b (λq=>hc (q▸hb))).trans e
theorem AQ{Q:Value->Shared->Prop}(D1:Draws prog w A i1 f1 n1 P1 S1)(D2:Draws prog w A i2 f2 n2 P2 S2)(ap:so z TI TO i1 i2 f1 f2)(hz:IsZip s.heap z TI TO .none)(hTI:IsPair s.heap TI (.ref i1) (.ref i2))(hTO:IsPair s.heap TO a b)(h1:S1 k s.heap)(h2:S2 k s.heap)(k1:k<n1)(k2:k<n2)
  (hQ:∀(h':Heap) (x y:Value) (tk:Nat),P1 k x->P2 k y->IsZip h' z TI TO (rawInt s.heap.objs.size)->IsPair h' TO x y->S1 (k+1) h'->S2 (k+1) h'->IsPair h' s.heap.objs.size x y->(∀c o,c≠z->c≠TO->c≠i1->c≠i2->s.heap.get? c=some o->h'.get? c=some o)->Q (.ref s.heap.objs.size) { s with heap:=h',toks:=tk }) :
  wpAny (model prog w) A (Builtin.«zip.__next__» ⟨[.ref z],[]⟩) (λfin s'=>∃v,fin=.done (.ret v)/\Q v s') E s:=by
 show wpAny _ _ (field (.ref z) 2>>=_) _ _ _;refine wpAny_bind (wpAny_field hz rfl (x:=.bool false) rfl ?_);show wpAny _ _ (field (.ref z) 3>>=_) _ _ _;refine wpAny_bind (wpAny_field hz rfl (x:=.ref TI) rfl ?_);refine wpAny_bind (wpAny_seqItems hTI rfl ?_);show wpAny _ _ (Builtin.SmallTypes.ownedTupleIsFree (.ref z)>>=_) _ _ _;refine wpAny_bind ?_;unfold Builtin.SmallTypes.ownedTupleIsFree;refine wpAny_bind (wpAny_field hz rfl (x:=.none) rfl (wpAny_pure ?_));simp only[if_true];refine wpAny_bind (wpAny_rule ?_);refine wpAny_bind (wpAny_field hz rfl (x:=.ref TO) rfl ?_);refine wpAny_bind (wpAny_setField_rec hz (by simp) λg1 hz1 b1=>?_)
 replace hz1:IsZip g1 z TI TO .ellipsis:=hz1
 refine wpAny_bind ?_;simp only[List.zipIdx_cons,List.zipIdx_nil,jp,List.forIn_nil];refine wpAny_bind (wpAny_bind (wpAny_onRaise ?_));show wpAny _ _ (Builtin.SmallTypes.nextOf (.ref i1)>>=_) _ _ _;refine wpAny_bind (D1.item k { s with heap:=g1 } _ _ k1 (gF D1 h1 b1 ap.z1) λx g2 t2 px s2 b2=>wpAny_pure ?_);have hT2:IsPair g2 TO a b:=b2.extBut _ _ ap.oa (b1.extBut _ _ ap.oz hTO);refine wpAny_bind (wpAny_seqItems hT2 rfl ?_);refine wpAny_bind (wpAny_updateSeq_pair hT2 λg3 hT3 b3=>?_)
 replace hT3:IsPair g3 TO x b:=hT3
 refine wpAny_bind (wpAny_letGo (wpAny_pure ?_));refine wpAny_bind (wpAny_bind (wpAny_onRaise ?_));show wpAny _ _ (Builtin.SmallTypes.nextOf (.ref i2)>>=_) _ _ _;refine wpAny_bind (D2.item k { s with heap:=g3,toks:=t2 } _ _ k2 (gF D2 (gF D2 (gF D2 h2 b1 ap.z2) b2 ap.a2) b3 ap.o2) λy g4 t4 py s4 b4=>wpAny_pure ?_);have hT4:IsPair g4 TO x b:=b4.extBut _ _ ap.ob hT3;refine wpAny_bind (wpAny_seqItems hT4 rfl ?_);refine wpAny_bind (wpAny_updateSeq_pair hT4 λg5 hT5 b5=>?_)
 replace hT5:IsPair g5 TO x y:=hT5
 refine wpAny_bind (wpAny_letGo (wpAny_pure (wpAny_pure ?_)));refine wpAny_bind (wpAny_seqItems hT5 rfl ?_);refine wpAny_bind (wpAny_newTuple ?_);have hsz:g5.objs.size=s.heap.objs.size:=by rw[b5.1,b4.1,b3.1,b2.1,b1.1]
 have hz5:IsZip g5 z TI TO .ellipsis:=b5.extBut _ _ ap.oz.symm (b4.extBut _ _ ap.bz.symm (b3.extBut _ _ ap.oz.symm (b2.extBut _ _ ap.az.symm hz1)));have kp5:∀c o,c≠z->c≠TO->c≠i1->c≠i2->s.heap.get? c=some o->g5.get? c=some o:=λc o c1 c2 c3 c4 e=>b5.extBut _ _ c2 (b4.extBut _ _ c4 (b3.extBut _ _ c2 (b2.extBut _ _ c3 (b1.extBut _ _ c1 e))));have w1:S1 (k+1) g5:=gF D1 (gF D1 (gF D1 s2 b3 ap.o1) b4 ap.b1) b5 ap.o1;have w2:S2 (k+1) g5:=gF D2 s4 b5 ap.o2;have zlt:z<g5.objs.size:=aN hz5;show wpAny _ _ (Builtin.SmallTypes.ownedTupleHandOut (.ref z) (.ref g5.objs.size)>>=_) _ _ _;refine wpAny_bind ?_;unfold Builtin.SmallTypes.ownedTupleHandOut;have hz6:IsZip (g5.push { cls:=.type "tuple",data:=.seq #[x,y] }) z TI TO .ellipsis:=aB _ hz5;refine wpAny_bind (wpAny_setField_rec hz6 (by simp) λg7 hz7 b7=>?_)
 replace hz7:IsZip g7 z TI TO (rawInt g5.objs.size):=hz7
 refine wpAny_setField_rec hz7 (by simp) λg8 hz8 b8=>?_
 replace hz8:IsZip g8 z TI TO (rawInt g5.objs.size):=hz8
 have up:∀c o,c≠z->g5.get? c=some o->g8.get? c=some o:=λc o c1 e=>b8.extBut _ _ c1 (b7.extBut _ _ c1 (aB _ e));have hP:IsPair g8 g5.objs.size x y:=b8.extBut _ _ (fb zlt) (b7.extBut _ _ (fb zlt) (aO _ rfl));rw[hsz] at hz8 hP;refine wpAny_pure ⟨_,rfl,?_⟩;show Q (.ref g5.objs.size) _;rw[hsz];exact hQ g8 x y t4 px py hz8 (up _ _ ap.oz hT5) (D1.frame _ _ _ w1 λc hc o e=>up c o (λq=>ap.z1 (q▸hc)) e) (D2.frame _ _ _ w2 λc hc o e=>up c o (λq=>ap.z2 (q▸hc)) e) hP λc o c1 c2 c3 c4 e=>up c o c1 (kp5 c o c1 c2 c3 c4 e)
theorem BX{Q:Fin->Shared->Prop}(D1:Draws prog w A i1 f1 n1 P1 S1)(ap:so z TI TO i1 i2 f1 f2)(hz:IsZip s.heap z TI TO .none)(hTI:IsPair s.heap TI (.ref i1) (.ref i2))(h1:S1 n1 s.heap)
  (hE:∀h' e,(∀c o,c≠z->c≠i1->s.heap.get? c=some o->h'.get? c=some o)->(∃o,h'.get? e=some o/\o.cls=.type "StopIteration")->E (.ref e) { s with heap:=h' }):wpAny (model prog w) A (Builtin.«zip.__next__» ⟨[.ref z],[]⟩) Q E s:=by
 show wpAny _ _ (field (.ref z) 2>>=_) _ _ _;refine wpAny_bind (wpAny_field hz rfl (x:=.bool false) rfl ?_);show wpAny _ _ (field (.ref z) 3>>=_) _ _ _;refine wpAny_bind (wpAny_field hz rfl (x:=.ref TI) rfl ?_);refine wpAny_bind (wpAny_seqItems hTI rfl ?_);show wpAny _ _ (Builtin.SmallTypes.ownedTupleIsFree (.ref z)>>=_) _ _ _;refine wpAny_bind ?_;unfold Builtin.SmallTypes.ownedTupleIsFree;refine wpAny_bind (wpAny_field hz rfl (x:=.none) rfl (wpAny_pure ?_));simp only[if_true];refine wpAny_bind (wpAny_rule ?_);refine wpAny_bind (wpAny_field hz rfl (x:=.ref TO) rfl ?_);refine wpAny_bind (wpAny_setField_rec hz (by simp) λg1 hz1 b1=>?_)
 replace hz1:IsZip g1 z TI TO .ellipsis:=hz1
 refine wpAny_bind ?_;simp only[List.zipIdx_cons,List.zipIdx_nil,jp,List.forIn_nil];refine wpAny_bind (wpAny_bind (wpAny_onRaise ?_));show wpAny _ _ (Builtin.SmallTypes.nextOf (.ref i1)>>=_) _ _ _;refine wpAny_bind (D1.done { s with heap:=g1 } _ _ (gF D1 h1 b1 ap.z1) λg2 e b2 he=>?_);obtain⟨oe,hoe,hce⟩:=he;have hz2:IsZip g2 z TI TO .ellipsis:=b2 _ _ ap.az.symm hz1;have hez:e≠z:=λx=>by subst x;rw[hz2] at hoe;cases hoe;simp at hce
 exact wpAny_setField_rec hz2 (by simp) λg3 _ b3=>hE g3 e (λc o c1 c3 x=>b3.extBut _ _ c1 (b2 _ _ c3 (b1.extBut _ _ c1 x))) ⟨oe,b3.extBut _ _ hez hoe,hce⟩
theorem yO{Q:Option Value->Shared->Prop}(D1:Draws prog w A.in1 i1 f1 n1 P1 S1)(D2:Draws prog w A.in1 i2 f2 n2 P2 S2)(ap:so z TI TO i1 i2 f1 f2)(hz:IsZip s.heap z TI TO .none)(hTI:IsPair s.heap TI (.ref i1) (.ref i2))(hTO:IsPair s.heap TO a b)(h1:S1 k s.heap)(h2:S2 k s.heap)(k1:k<n1)(k2:k<n2)
  (hQ:∀(h':Heap) (x y:Value) (tk:Nat),P1 k x->P2 k y->IsZip h' z TI TO (rawInt s.heap.objs.size)->IsPair h' TO x y->S1 (k+1) h'->S2 (k+1) h'->IsPair h' s.heap.objs.size x y->(∀c o,c≠z->c≠TO->c≠i1->c≠i2->s.heap.get? c=some o->h'.get? c=some o)->Q (some (.ref s.heap.objs.size)) { s with heap:=h',toks:=tk }) :
  wpAny (model prog w) A (pyNext (.ref z)) Q E s:=by
 have hT:s.TypeIs (.ref z) "zip":=⟨_,hz,rfl⟩
 unfold pyNext;exact wpAny_bind (wpAny_attempt (wpAny_callSpecial?_slot (name:=Str.ofString "__next__") hT jt (wpAny_call_entry jt hT F.entry_zip_next (AQ D1 D2 ap hz hTI hTO h1 h2 k1 k2 λh' x y tk q1 q2 q3 q4 q5 q6 q7 q8=>wpAny_pure (hQ h' x y tk q1 q2 q3 q4 q5 q6 q7 q8)) (F.args_zip_next_1 _))))
theorem Aj{Q:Option Value->Shared->Prop}(D1:Draws prog w A.in1 i1 f1 n1 P1 S1)(ap:so z TI TO i1 i2 f1 f2)(hz:IsZip s.heap z TI TO .none)(hTI:IsPair s.heap TI (.ref i1) (.ref i2))(h1:S1 n1 s.heap)
  (hQ:∀h',(∀c o,c≠z->c≠i1->s.heap.get? c=some o->h'.get? c=some o)->Q none { s with heap:=h' }):wpAny (model prog w) A (pyNext (.ref z)) Q E s:=by
 have hT:s.TypeIs (.ref z) "zip":=⟨_,hz,rfl⟩
 unfold pyNext;refine wpAny_bind (wpAny_attempt (wpAny_callSpecial?_slot (name:=Str.ofString "__next__") hT jt (wpAny_call_entry jt hT F.entry_zip_next (BX D1 ap hz hTI h1 λh' e hk he=>?_) (F.args_zip_next_1 _))));obtain⟨o,ho,hc⟩:=he;exact wpAny_bind (wpAny_isInstance (T:="StopIteration") (b:=true) ⟨o,ho,hc⟩ isSubtype_stop (wpAny_pure (hQ _ hk)))
end
abbrev BW (h:Heap) (l:Addr):Heap:=h.push { cls:=.type "tuple_iterator",data:=.fields #[.ref l,.int 0 0] }
abbrev LY (h:Heap) (l1 l2:Addr):Heap:=(BW (BW h l1) l2).push { cls:=.type "tuple",data:=.seq #[.ref h.objs.size,.ref (BW h l1).objs.size] }
abbrev LX (h:Heap) (l1 l2:Addr):Heap:=(LY h l1 l2).push { cls:=.type "tuple",data:=.seq #[.none,.none] }
abbrev Jl (h:Heap) (l1 l2:Addr):Heap:=(LX h l1 l2).push { cls:=.type "zip",data:=.fields #[.none,.bool false,.bool false,.ref (BW (BW h l1) l2).objs.size,.ref (LY h l1 l2).objs.size] }
theorem Ff (l1 l2:Addr) (xs ys:Array Value):Meets (Builtin.«zip.__new__» ⟨[.type "zip",.ref l1,.ref l2],[]⟩) (λ_ R s=>s.heap.IsTuple l1 xs/\s.heap.IsTuple l2 ys/\R (.ok (.ret (.ref (LX s.heap l1 l2).objs.size))) { s with heap:=Jl s.heap l1 l2 }):=.of_wp λprog w A R s h=>by
  obtain⟨hp,g,d,tk,os⟩:=s;obtain⟨hl1,hl2,h⟩:=h;have hsub:=sub_zip;have hL1:Heap.IsTuple (Shared.heap ⟨hp,g,d,tk,os⟩) l1 xs:=hl1;have hL2:Heap.IsTuple (Shared.heap ⟨hp.push { cls:=.type "tuple_iterator",data:=.fields #[.ref l1,.int 0 0] },g,d,tk,os⟩) l2 ys:=Heap.IsTuple.push hl2 _
  wp_walk using wpAny_pyIter_tuple hL1,wpAny_pyIter_tuple hL2;exact⟨_,rfl,h⟩
theorem J7{prog:Program}{w:World}{A:Around}{E:Value->Shared->Prop}{s:Shared}{l1 l2:Addr}{xs ys:Array Value}{Q:Value->Shared->Prop}(hl1:s.heap.IsTuple l1 xs)(hl2:s.heap.IsTuple l2 ys)
  (h:∀h' n,n=s.heap.objs.size->IsZip h' (n+4) (n+2) (n+3) .none->IsPair h' (n+2) (.ref n) (.ref (n+1))->IsPair h' (n+3) .none .none->h'.IsTupleIter n l1 0->h'.IsTupleIter (n+1) l2 0->(∀c o,s.heap.get? c=some o->h'.get? c=some o)->Q (.ref (n+4)) { s with heap:=h' }):wpAny (model prog w) A (call (.type "zip") [.ref l1,.ref l2]) Q E s:=by
 refine callType_new F.called_zip (by decide) (F.typeCall_zip_2 _ _) (F.newCall_zip_2 _ _) (λobj=>F.args_object_init_3 obj _ _) F.entry_zip_new (Ff l1 l2 xs ys) ⟨hl1,hl2,?_⟩;have z1:(BW s.heap l1).objs.size=s.heap.objs.size+1:=fO ..;have z2:(BW (BW s.heap l1) l2).objs.size=s.heap.objs.size+2:=by rw[fO,z1]
 have z3:(LY s.heap l1 l2).objs.size=s.heap.objs.size+3:=by rw[fO,z2]
 have z4:(LX s.heap l1 l2).objs.size=s.heap.objs.size+4:=by rw[fO,z3]
 have g5:(Jl s.heap l1 l2).get? (LX s.heap l1 l2).objs.size=some _:=aO _ rfl;have g4:(Jl s.heap l1 l2).get? (LY s.heap l1 l2).objs.size=some _:=aB _ (aO _ rfl);have g3:(Jl s.heap l1 l2).get? (BW (BW s.heap l1) l2).objs.size=some _:=aB _ (aB _ (aO _ rfl));have g2:(Jl s.heap l1 l2).get? (BW s.heap l1).objs.size=some _:=aB _ (aB _ (aB _ (aO _ rfl)));have g1:(Jl s.heap l1 l2).get? s.heap.objs.size=some _:=aB _ (aB _ (aB _ (aB _ (aO _ rfl))));show _/\_;rw[z2,z3,z4] at g5;rw[z1,z2] at g3;rw[z3] at g4;rw[z1] at g2;rw[z4];exact⟨⟨_,g5,rfl⟩,h _ _ rfl g5 g3 g4 ⟨_,g1,rfl,rfl⟩ ⟨_,g2,rfl,rfl⟩ λc o x=>aB _ (aB _ (aB _ (aB _ (aB _ x))))⟩
def GN(K:PySem.W.Frag)(a b:Addr):It:=
  ⟨λi H=>∃xs ys x y,dA K H a xs/\dA K H b ys/\xs[i]? = some x/\ys[i]? = some y,
   λi H v H'=>∃p x y,H p=none/\(∀xs,dA K H a xs->xs[i]? = some x)/\(∀ys,dA K H b ys->ys[i]? = some y)/\v=.ref p/\H'=upd H p (.tup [x,y]),
   λi H=>∃xs,dA K H a xs/\xs.length=i⟩
theorem AR {P : Program} {w : World} {K : PySem.W.Frag} {elts : List Expr} {x1 : Nat} {pos : Pos} (n a b : Addr) (ha : a < n) (hb : b < n) :
    Turn P w K (.Tuple elts x1 pos) (GN K a b) [n + 4, n + 2, n + 3, n, n + 1] (n + 4) (fun i h => IsZip h (n + 4) (n + 2) (n + 3) .none ∧ IsPair h (n + 2) (.ref n) (.ref (n + 1)) ∧ (∃ u v, IsPair h (n + 3) u v) ∧ h.IsTupleIter n a i ∧ h.IsTupleIter (n + 1) b i) := by
  have hap : so (n + 4) (n + 2) (n + 3) n (n + 1) [n, a] [n + 1, b] := by
    have h1 : @LT.lt Nat _ a n := ha
    have h2 : @LT.lt Nat _ b n := hb
    constructor <;> first
      | (intro h; simp only [aJ, bn, or_false] at h; rcases h with h | h <;> (have h' : @Eq Nat _ _ := h; omega))
      | (intro h; have h' : @Eq Nat _ _ := h; omega)
  exact {
    mem := by simp
    obj := fun i h st c hb => by
      obtain ⟨h1, h2, ⟨u, v, h3⟩, ⟨o4, e4, c4, d4⟩, ⟨o5, e5, c5, d5⟩⟩ := st
      simp only [aJ, bn, or_false] at hb
      rcases hb with rfl | rfl | rfl | rfl | rfl
      · exact ⟨_, h1, fun v z => by cases z⟩
      · exact ⟨_, h2, fun v z => by cases z⟩
      · exact ⟨_, h3, fun v z => by cases z⟩
      · exact ⟨o4, e4, fun v z => by rw [d4] at z; cases z⟩
      · exact ⟨o5, e5, fun v z => by rw [d5] at z; cases z⟩
    keep := fun i h h' st k => by
      obtain ⟨h1, h2, ⟨u, v, h3⟩, h4, h5⟩ := st
      exact ⟨k _ (by simp) _ h1, k _ (by simp) _ h2, ⟨u, v, k _ (by simp) _ h3⟩, h4.at fun o e => k _ (by simp) o e, h5.at fun o e => k _ (by simp) o e⟩
    item := by
      intro X hP hw hK hc i pins s σ H E I hf st hg
      subst hP hw hK
      obtain ⟨h1, h2, ⟨u0, v0, h3⟩, h4, h5⟩ := st
      obtain ⟨xs, ys, x, y, hqa, hqb, hx, hy⟩ := hg
      obtain ⟨ia, ra, pa, _⟩ := I.tuple hqa
      obtain ⟨ib, rb, pb, _⟩ := I.tuple hqb
      obtain ⟨ua, hua, rua⟩ := ra.get hx
      obtain ⟨ub, hub, rub⟩ := rb.get hy
      have hA : X.A.in1.handled = none := I.ok.hd hc
      have la : i < ia.toArray.size := by rw [aQ]; exact (aF.mp hua).1
      have lb : i < ib.toArray.size := by rw [aQ]; exact (aF.mp hub).1
      refine yO (Draws.tup hA n a (av ha) ia.toArray) (Draws.tup hA (n + 1) b (av (fc hb)) ib.toArray) hap h1 h2 h3 ⟨h4, pa⟩ ⟨h5, pb⟩ la lb fun h' x' y' tk e1 e2 hz ho hi1 hi2 hp kp => ?_
      have e1' : x' = ua := by have : ia[i]? = some x' := by simpa using e1
                               rw [hua] at this; cases this; rfl
      have e2' : y' = ub := by have : ib[i]? = some y' := by simpa using e2
                               rw [hub] at this; cases this; rfl
      subst e1' e2'
      refine ⟨_, rfl, wpAny_letOwnedTupleGo_zip hz fun hh hz2 hs2 => ?_⟩
      have hn : H s.heap.objs.size = none := I.hok.fresh (aH _)
      have lz : s.heap.objs.size ≠ n + 4 := fb (aN h1)
      have ht2 : hh.get? s.heap.objs.size = some { cls := .type "tuple", data := .seq #[x', y'] } := (hs2.2 _ lz).trans hp
      refine ⟨.ref s.heap.objs.size, upd H s.heap.objs.size (.tup [x, y]), I.turnNew (fp := [n + 4, n + 2, n + 3, n, n + 1]) hf (fun c o hb q => ?_) (aH _) (show cZ X.prog X.w _ hh _ (.tup _) from ⟨(by show 2 ≤ sizeLine; decide), [x', y'], .cons rua (.cons rub .nil), _, ht2, rfl, _, rfl⟩), rfl, ⟨_, x, y, hn, fun zs hz => by rw [I.tuple_inj hz hqa]; exact hx, fun zs hz => by rw [I.tuple_inj hz hqb]; exact hy, rfl, rfl⟩, ?_, fun c hb => ?_⟩
      · simp only [aJ, bn, or_false, not_or] at hb
        exact (hs2.2 c hb.1).trans (kp c o hb.1 hb.2.2.1 hb.2.2.2.1 hb.2.2.2.2 q)
      · exact ⟨hz2, (hs2.2 _ hap.tz).trans (kp _ _ hap.tz hap.to hap.ta hap.tb h2), ⟨_, _, (hs2.2 _ hap.oz).trans ho⟩, hi1.1.at fun o e => (hs2.2 _ hap.az).trans e, hi2.1.at fun o e => (hs2.2 _ hap.bz).trans e⟩
      · have hb' := (hf c hb).1
        rw [aP (fun z => ?_)]
        · exact hb'
        · have hz4 : @LT.lt Nat _ (n + 4) s.heap.objs.size := aN h1
          have z' : @Eq Nat c s.heap.objs.size := z
          simp only [aJ, bn, or_false] at hb
          rcases hb with h | h | h | h | h <;> (have h' : @Eq Nat _ _ := h; omega)
    done := by
      intro X hP hw hK hc i pins s σ H E I hf st hg
      subst hP hw hK
      obtain ⟨h1, h2, ⟨u0, v0, h3⟩, h4, h5⟩ := st
      obtain ⟨xs, hqa, hx⟩ := hg
      obtain ⟨ia, ra, pa, _⟩ := I.tuple hqa
      have la := ra.length
      have hA : X.A.in1.handled = none := I.ok.hd hc
      have ei : ia.toArray.size = i := by rw [aQ]; omega
      refine Aj (Draws.tup hA n a (av ha) ia.toArray) hap h1 h2 ⟨by rw [ei]; exact h4, pa⟩ fun h' kp => ⟨rfl, I.turnAll (t' := s.toks) hf fun c o hb q => ?_⟩
      simp only [aJ, bn, or_false, not_or] at hb
      exact kp c o hb.1 hb.2.2.2.1 q
    self := fun _ _ _ _ _ st h => wpAny_pyIter_zip st.1 h }
def Gu(K:PySem.W.Frag)(ta:TA):TI:=λσ H R=>ta σ H λvs H1=>∃a b,vs=[.ref a,.ref b]/\(∃xs,dA K H1 a xs)/\(∃ys,dA K H1 b ys)/\R (GN K a b) H1
theorem Ck {X:Cx} {a b:Expr} {ta:TA} {elts:List Expr} {x1:Nat} {p pos tpos:Pos} (hg:Gl X "zip") (hm:X.mg "zip"=none) (ha:QA X [a,b] ta) (hs:starEach [a,b] X.env=(false,eval a X.env)::starEach [b] X.env:=by rfl) (hpl:(backTo pos (starEach [b] X.env)).any (·.1)=false:=by rfl) :
  QI X (.Tuple elts x1 tpos) (.Call (.Name "zip" p) [a,b] [] pos) (Gu X.K ta):=⟨by
 intro pins s σ H R I h;refine Call_ (jT I hg hm boot_zip (bj (eR (ha.h pos pins s σ H _ I h) λus s1 ⟨vs,H1,I1,r1,z1,z2,e,⟨xs,hx⟩,⟨ys,hy⟩,q⟩=>?_) hs hpl));subst e;obtain⟨u,u',rfl,r2,r3⟩:=vals2 r1;cases r2;cases r3;obtain⟨ia,ra,pa,_⟩:=I1.tuple hx;obtain⟨ib,rb,pb,_⟩:=I1.tuple hy;have ha':s1.heap.IsTuple z1 ia.toArray:=pa;have hb':s1.heap.IsTuple z2 ib.toArray:=pb;obtain⟨oa,hoa,_⟩:=id ha';obtain⟨ob,hob,_⟩:=id hb';refine J7 ha' hb' λh' n en hz hti hto hi1 hi2 kp=>?_;refine wpAny_pyIter_zip hz ?_;have I2:bi X pins σ H1 { s1 with heap:=h' }:=I1.kept (t':=s1.toks) kp;refine⟨_,_,_,_,H1,rfl,I2,AR n z1 z2 (by rw[en];exact aN hoa) (by rw[en];exact aN hob),⟨hz,hti,⟨_,_,hto⟩,hi1,hi2⟩,λb hb=>?_,q⟩;have hle:s1.heap.objs.size<=b:=by
  simp only[aJ,bn,or_false] at hb;have en':@Eq Nat n s1.heap.objs.size:=en;show @LE.le Nat _ _ _;rcases hb with h | h | h | h | h<;>(have h':@Eq Nat _ _:=h;omega)
 exact I1.fpOk hle (I1.hok.fresh hle)⟩
theorem zE{K:PySem.W.Frag}{σ:St}{H:Hp}{D:Ends}{ta:TA}{g:TG}{tb:TS}:qY (Gu K ta) g tb D σ H=ta σ H λvs H1=>∃a b,vs=[.ref a,.ref b]/\(∃xs,dA K H1 a xs)/\(∃ys,dA K H1 b ys)/\oI (GN K a b) g tb D σ H1:=rfl
theorem Dx{K:PySem.W.Frag}{σ:St}{H:Hp}{D:Ends}{a b:Addr}{xs ys:List V}{g:TG}{tb:TS}(hle:xs.length<=ys.length)(Pv:Nat->St->Hp->Prop)(h0:Pv 0 σ H)(hl:∀i σ H,Pv i σ H->dA K H a xs/\dA K H b ys)
  (hs:∀i x y σ H p,xs[i]? = some x->ys[i]? = some y->Pv i σ H->H p=none->g (.ref p) σ (upd H p (.tup [x,y])) λσ2 H2=>tb { D with nx:=Pv (i+1),ct:=Pv (i+1),bk:=D.nx } σ2 H2) (hd:∀σ H,Pv xs.length σ H->D.nx σ H):oI (GN K a b) g tb D σ H:=by
 refine⟨λi m σ H=>m+i=xs.length/\Pv i σ H,⟨xs.length,rfl,h0⟩,?_⟩;rintro i m σ H ⟨hm,hp⟩;obtain⟨q1,q2⟩:=hl i σ H hp;by_cases hi:i<xs.length
 ·refine .inr ⟨⟨xs,ys,xs[i],ys[i],q1,q2,by simp[hi],by simp[aq hi hle]⟩,Pv (i+1),λσ' H' h=>⟨m - 1,by omega,by omega,h⟩,?_⟩;rintro v H' ⟨p,x,y,hn,hx,hy,rfl,rfl⟩;exact hs i x y σ H p (hx xs q1) (hy ys q2) hp hn
 ·have e:i=xs.length:=by omega
  subst e;exact .inl ⟨⟨xs,q1,rfl⟩,hd σ H hp⟩
def K5(sp:Sp)(K:PySem.W.Frag)(c:Value)(t:TA)(ts:Addr->TS):TS:=λD σ H=>t σ H λvs H1=>sp vs H1 (λ_ H2=>D.nx σ H2) λcls dO H2=>
 ∃C,cls=Value.ref C/\PySem.W.exmOne K (.ref C) c=some true/\∀a,H2 a=none->ts a D σ (upd H2 a (tJ dO C a))
theorem B1{sp:Sp}{K:PySem.W.Frag}{c:Value}{t:TA}{ts:Addr->TS}{D:Ends}{σ:St}{H:Hp}:K5 sp K c t ts D σ H=t σ H λvs H1=>sp vs H1 (λ_ H2=>D.nx σ H2) λcls dO H2=>
 ∃C,cls=Value.ref C/\PySem.W.exmOne K (.ref C) c=some true/\∀a,H2 a=none->ts a D σ (upd H2 a (tJ dO C a)):=rfl
end L2
namespace L2
open PySem
theorem E2{td ty tx:TE}{σ:St}{H:Hp}{Q:VK}:xY td ty tx σ H Q=td σ H λx H1=>∃a,x=.ref a/\MK H1 a/\ty σ H1 λy H2=>tx σ H2 λz H3=>∃o,iN H3 a y o/\Q (o.getD z) H3:=rfl
end L2
namespace Rm
open PySem L2
structure View where
 φ:Hp->Hp
 ok:Hp->Prop
 new:∀ {H t o},ok H->H t=none->ok (upd H t o)/\ak (φ H) (φ (upd H t o))/\φ (upd H t o) t=some o
def View.all:View:=⟨id,λ_=>True,λ_ h=>⟨trivial,(ak.refl _).new h,aD⟩⟩
def View.but(m:Addr):View:=⟨λH=>wo H m,λH=>∃o,H m=some o,fun {H t o} ⟨u,hu⟩ h=>⟨⟨u,by rw[aP (au hu h)];exact hu⟩,HD h,Jt (au hu h).symm aD⟩⟩
structure DE (w:View) (σ:St) (H0:Hp) (te:TE) (d:PyData):Prop where
 run:∀ (H:Hp) (Q:VK),w.ok H->ak H0 H->ak (w.φ H0) (w.φ H)->(∀ x H',w.ok H'->ak H H'->ak (w.φ H) (w.φ H')->Dat (w.φ H') x d->Q x H')->te σ H Q
structure DA (w:View) (σ:St) (H0:Hp) (ta:TA) (ds:List PyData):Prop where
 run:∀ (H:Hp) (Q:List V->Hp->Prop),w.ok H->ak H0 H->ak (w.φ H0) (w.φ H)->(∀ xs H',w.ok H'->ak H H'->ak (w.φ H) (w.φ H')->j0 (w.φ H') xs ds->Q xs H')->ta σ H Q
end Rm
namespace Rm
open PySem L2 PyProof.Rows
section
variable {σ:L2.St} {H0:Hp}
abbrev D1 (σ:L2.St) (H0:Hp) (te:TE) (d:PyData):Prop:=DE View.all σ H0 te d
abbrev D2 (σ:L2.St) (H0:Hp) (ta:TA) (ds:List PyData):Prop:=DA View.all σ H0 ta ds
end
def Am(ns:List Int):Int:=ns.foldl max 0
theorem gW{α β:Type}{R T:α->β->Prop}(f:∀a b,R a b->T a b):∀{xs:List α} {ys:List β},Paired R xs ys->Paired T xs ys
 | _,_,.nil=>.nil
 | _,_,.cons r t=>.cons (f _ _ r) (gW f t)
theorem gX{α β:Type}{R:α->β->Prop}:∀{xs:List α} {ys:List β},Paired R xs ys->∀{i:Nat} {x:α},xs[i]? = some x->∃y,ys[i]? = some y/\R x y
 | _,_,.nil,i,x,h=>by simp at h
 | _,_,.cons r t,0,x,h=>by simp at h;subst h;exact⟨_,rfl,r⟩
 | _,_,.cons r t,i+1,x,h=>gX t (by simpa using h)
theorem Mc{K:PySem.W.Frag}{H:Hp}{a b o1 o2:Addr}{s t:Bool}{ms ns:List Int}{Q:VK}(ha:eV H a o1 s ms)(hb:eV H b o2 t ns)(q:Q (.bl (decide (s=t)&&decide (ms=ns))) H):A3 K false (.ref a) (.ref b) H Q:=by
 refine⟨.tuple [.str (sd s),.tuple (ms.map PyData.int)],.tuple [.str (sd t),.tuple (ns.map PyData.int)],.tup (dA.of ha.1) (.cons (.str _) (.cons (.tup (dA.of ha.2) (ints_rep ms)) .nil)),.tup (dA.of hb.1) (.cons (.str _) (.cons (.tup (dA.of hb.2) (ints_rep ns)) .nil)),?_,?_,?_,?_⟩
 ·show (PyData.canLay0 (.str (sd s))&&(PyData.canLayAll0 (ms.map PyData.int)&&true))=true;rw[gY];cases s<;>decide +kernel
 ·show (PyData.canLay0 (.str (sd t))&&(PyData.canLayAll0 (ns.map PyData.int)&&true))=true;rw[gY];cases t<;>decide +kernel
 ·refine bU (Nat.min_le_left _ _) ?_;show max 0 (max (PyData.depthAll (ms.map PyData.int)+1) 0)+1<=60;rw[mF];decide
 ·show Q (.bl (PyData.eqv (.str (sd s)) (.str (sd t))&&(PyData.eqvAll (ms.map PyData.int) (ns.map PyData.int)&&true))) H;rw[sP,lG];have e:PyData.eqv (.str (sd s)) (.str (sd t))=decide (s=t):=by cases s<;>cases t<;>decide +kernel
  rw[e];exact q
def Ji(H:Hp)(t:Addr)(u:Bool)(p q:Bw):Prop:=∃a c,H t=some (.tup [.str (sd u),.ref a,.ref c])/\bZ H a p/\bZ H c q
def pU:Sp:=λvs H Q _=>∃m o b ns,vs=[.ref m]/\eV H m o b ns/\fE ns/\(NC b ns->∀H',ak H H'->Q .non H') ∧
 ∀u,∀p∈bJ b ns u (ns.length+1),∀q∈bJ b ns u (ns.length+1),eU p q=true->∀t H',ak H H'->Ji H' t u p q->Q (.ref t) H'
def Lw(b:Bool)(ns:List Int):PyData:=.tuple [.str (sd b),.tuple (ns.map PyData.int)]
theorem eV.dat{H:Hp}{m o:Addr}{b:Bool}{ns:List Int}(h:eV H m o b ns):Dat H (.ref m) (Lw b ns):=.tup h.1 (.cons (.str _) (.cons (.tup h.2 (sQ ns)) .nil))
theorem D8{b:Bool}{ns:List Int}(O:fE ns):wb (Lw b ns)=true:=by
 show (qR (.str (sd b))&&qB (.tuple (ns.map PyData.int)))=true;have e1:qR (.str (sd b))=true:=by cases b<;>decide +kernel
 have e2:(ns.map PyData.int).map intOf=ns:=by rw[bc];show ns.map id=ns;exact nT _
 have e3:(ns.map PyData.int).all i5=true:=by rw[List.all_map,jY];intro _ _;rfl
 rw[e1,fH];show (decide ((ns.map PyData.int).length<=20)&&((ns.map PyData.int).all i5&&((ns.map PyData.int).map intOf).isPerm (gV 1 (ns.map PyData.int).length)))=true;rw[e2,e3,aA,decide_eq_true O.len,m3.mpr O.perm];rfl
theorem D7{b:Bool}{ns:List Int}:Pl (Lw b ns) 60:=by
 refine⟨?_,?_⟩
 ·show (PyData.canLay0 (.str (sd b))&&(PyData.canLayAll0 (ns.map PyData.int)&&true))=true;rw[gY];cases b<;>decide +kernel
 ·show max 0 (max (PyData.depthAll (ns.map PyData.int)+1) 0)+1<=60;rw[mF];decide
theorem M8{d:PyData}{k:Nat}(h:Pl d k):∀e∈[d],Pl e k:=λe he=>by rw[dG] at he;subst he;exact h
theorem M7{d e:PyData}{k:Nat}(h:Pl d k)(g:Pl e k):∀f∈[d,e],Pl f k:=λf hf=>by
 rcases aJ.mp hf with rfl | hf
 ·exact h
 ·exact M8 g f hf
theorem L4{d e f:PyData}{k:Nat}(h:Pl d k)(g:Pl e k)(i:Pl f k):∀x∈[d,e,f],Pl x k:=λx hx=>by
 rcases aJ.mp hx with rfl | hx
 ·exact h
 ·exact M7 g i x hx
def IB:PyData->Bool
 | .none | .bool _ | .int _ | .str _=>true
 | _=>false
theorem BG{xs:List V}{k:Nat}(h:k<=xs.length):wv xs (some (k:Int)) none=xs.drop k:=by
 unfold wv;rw[HT.sIx_nat,HT.sIx_none,show min k xs.length=k by omega];exact cW (by rw[jX];omega)
section
variable {K:PySem.W.Frag} {H:Hp} {Q:VK} {a:Addr} {xs:List V}
theorem Lv{R:Addr->Hp->Prop}{o:HO}(q:∀p H',H p=none->ak H H'->H' p=some o->R p H'):∀p,H p=none->R p (upd H p o):=λp hp=>q p _ hp ((ak.refl H).new hp) aD
theorem C0{k:Nat}(ha:H a=some (.lst xs))(h:k<=xs.length)(q:∀p H',H p=none->ak H H'->H' p=some (.lst (xs.drop k))->Q (.ref p) H'):Kg K (.ref a) (some (k:Int)) none H Q:=
 ⟨a,xs,rfl,bv.of ha,by rw[BG h];exact Lv (R:=λp H'=>Q (.ref p) H') q⟩
end
end Rm
namespace L2
open PySem PySem.Spec PyProof.Rows
def J3(dO:Option Addr)(C t:Addr):Obj:=⟨.ref C,dO,.fields #[.ref t,.none,.none,.none,.bool false,.none],#[]⟩
def tZ(dO:Option Addr)(C e:Addr):HO:=.ext λh=>∃t,h.get? e=some (J3 dO C t)
def Ht(C:Addr)(t:TA):TE:=λσ H Q=>t σ H λvs H1=>∃e v,vs=[.ref e,v]/\H1 e=some (tZ none C e)/\Q .non H1
def Ke(C:Addr)(f:Str)(ta tv:TE):TS:=λD σ H=>tv σ H λy H1=>ta σ H1 λx H2=>∃e,x=.ref e/\H2 e=some (tZ none C e)/\∀dx,H2 dx=none->dx≠e->D.nx σ (upd (upd H2 dx (.xd [(f,y)])) e (tZ (some dx) C e))
def E8(C:Addr)(f:Str)(ok:V->Hp->Prop)(E:XK)(t:TA):TS:=λ_ σ H=>t σ H λvs H1=>∃v,vs=[v]/\ok v H1/\∀dx,H1 dx=none->E (.ref C) (some dx) (upd H1 dx (.xd [(f,v)]))
structure LW (K:PySem.W.Frag) (C:Addr) (f:Str):Prop where
 ga:PySem.W.findIn K (.ref C) "__getattribute__"=some (some (.builtin "BaseException.__getattribute__"))
 gt:PySem.W.findIn K (.ref C) "__getattr__"=some none
 no:PySem.W.findIn K (.ref C) f=some none
 hd:PySem.W.hasDictIn K C=true
 own:∃ B bmB,ExcAttrBase B bmB/\∀ h:Heap,K.In h->∃ nm q N bs bm hdct sn sub ab col dd k0 k1 k2 k3 k5 newId,h.get? C=some (excClassObj nm q C N bs bm hdct sn sub ab col dd k0 k1 k2 k3 k5 newId)/\OwnTailQ h bmB bm
def K7(K:PySem.W.Frag)(f:Str)(ta:TE):TE:=λσ H Q=>ta σ H λx H1=>∃a C dx v,x=.ref a/\H1 a=some (tJ (some dx) C a)/\H1 dx=some (.xd [(f,v)])/\LW K C f/\Q v H1
section
variable {σ:St} {H:Hp} {Q:VK} {D:Ends}
theorem EV{C:Addr}{t:TA}:Ht C t σ H Q=t σ H λvs H1=>∃e v,vs=[.ref e,v]/\H1 e=some (tZ none C e)/\Q .non H1:=rfl
theorem HG{C:Addr}{f:Str}{ta tv:TE}:Ke C f ta tv D σ H=tv σ H λy H1=>ta σ H1 λx H2=>∃e,x=.ref e/\H2 e=some (tZ none C e)/\∀dx,H2 dx=none->dx≠e->D.nx σ (upd (upd H2 dx (.xd [(f,y)])) e (tZ (some dx) C e)):=rfl
theorem B6{C:Addr}{f:Str}{ok:V->Hp->Prop}{E:XK}{t:TA}:E8 C f ok E t D σ H=t σ H λvs H1=>∃v,vs=[v]/\ok v H1/\∀dx,H1 dx=none->E (.ref C) (some dx) (upd H1 dx (.xd [(f,v)])):=rfl
theorem HM{K:PySem.W.Frag}{f:Str}{ta:TE}:K7 K f ta σ H Q=ta σ H λx H1=>∃a C dx v,x=.ref a/\H1 a=some (tJ (some dx) C a)/\H1 dx=some (.xd [(f,v)])/\LW K C f/\Q v H1:=rfl
end
theorem nV:∀{cs:List Addr} {us:List Value},cO (cs.map V.ref) us->us=cs.map Value.ref
 | [],_,.nil=>rfl
 | c::cs,_,.cons r t=>by
  rw[nV t];cases r;rfl
def MV(v:V)(H:Hp):Prop:=∃a d,v=.ref a/\Dat H v d/\d.showable=true/\d.hasDict=false/\d.depth<=10/\d.shown.length<=500
def Lm(ta tb:TE):TE:=λσ H Q=>ta σ H λx H1=>∃c,x=.str c/\c.length<=400/\tb σ H1 λy H2=>MV y H2/\∀z,Q (.str z) H2
theorem KO{σ:St}{H:Hp}{Q:VK}{ta tb:TE}:Lm ta tb σ H Q=ta σ H λx H1=>∃c,x=.str c/\c.length<=400/\tb σ H1 λy H2=>MV y H2/\∀z,Q (.str z) H2:=rfl
end L2
namespace Rm
open PySem L2 PyProof.Rows
structure Md (S:List Bw) (n:Int):Prop where
 lt:∀ p∈S,p.1<p.2
 bd:∀ p∈S,0<=p.1/\p.2<=n+1
 has:∀ x,1<=x->x<=n->∃ p∈S,p.1=x\/p.2=x
 one:∀ p∈S,∀ q∈S,∀ x,(p.1=x\/p.2=x)->(q.1=x\/q.2=x)->p=q
 nc:∀ p∈S,∀ q∈S,eU p q=false
theorem nJ{x:Int}{p:Bw}:pI x p=true<->(p.1=x\/p.2=x):=by
 unfold pI;rw[cu,decide_eq_true_eq,decide_eq_true_eq];exact⟨λh=>h.imp mS mS,λh=>h.imp mS mS⟩
theorem Kc{b:Bool}{ns:List Int}(O:fE ns)(nc:NC b ns)(u:Bool):Md (bJ b ns u (ns.length+1)) ns.length where
 lt:=λp hp=>by obtain⟨i,hi,_,rfl⟩:=eX hp;exact O.step_lt (by omega)
 bd:=λp hp=>by obtain⟨i,hi,_,rfl⟩:=eX hp;exact O.step_in (by omega)
 has:=λx h1 h2=>by
  obtain⟨i,hi⟩:=cj (O.mem.mpr ⟨h1,h2⟩);have il:=(aF.mp hi).1;have er:=lL hi;have:cQ b u i=true\/cQ b u (i+1)=true:=by
   unfold cQ;rw[jc];cases b<;>cases u<;>cases odd i<;>simp
  rcases this with s | s
  ·refine⟨_,kI (by omega) s,?_⟩;rw[<-nJ,<-er,O.has_iff (by omega) (by omega)];simp
  ·refine⟨_,kI (by omega) s,?_⟩;rw[<-nJ,<-er,O.has_iff (by omega) (by omega)];simp
 one:=λp hp q hq x h1 h2=>by
  obtain⟨i,hi,si,rfl⟩:=eX hp;obtain⟨j,hj,sj,rfl⟩:=eX hq;have hx:∃k,k<ns.length+2/\x=bQ ns k/\(i=k\/i+1=k):=by
   have e:x=bQ ns i\/x=bQ ns (i+1):=by
    have h1':min (bQ ns i) (bQ ns (i+1))=x\/max (bQ ns i) (bQ ns (i+1))=x:=h1;omega
   rcases e with e | e
   ·exact⟨i,by omega,e,.inl rfl⟩
   ·exact⟨i+1,by omega,e,.inr rfl⟩
  obtain⟨k,hk,rfl,ik⟩:=hx;have h2':=nJ.mpr h2;rw[O.has_iff hk (by omega)] at h2';have jk:=of_decide_eq_true h2';have:i=j\/i=j+1\/j=i+1:=by omega
  rcases this with z | z | z
  ·rw[z]
  ·exact absurd z λz=>oT si sj z
  ·exact absurd z λz=>oT sj si z
 nc:=nc u
theorem ul{b:Bool}{ns:List Int}(O:fE ns){u:Bool}{p:Bw}(hp:p∈bJ b ns u (ns.length+1)):0<=p.1/\p.1<p.2/\p.2<=21:=by
 obtain⟨i,hi,_,rfl⟩:=eX hp;have h1:=O.step_in (i:=i) (by omega);have h2:=O.step_lt (i:=i) (by omega);have:=O.len;exact⟨h1.1,h2,by omega⟩
end Rm
namespace Rm
open PySem L2
theorem lR{α β:Type}{F:α->β->Prop}{l:List α}{m:List β}(h:Paired F l m):∀{i:Nat} {a:α},l[i]? = some a->∃b,m[i]? = some b/\F a b:=by
 induction h with
 | nil=>intro i a h;simp at h
 | cons r _ ih=>
  intro i a h;cases i with
  | zero=>cases h;exact⟨_,rfl,r⟩
  | succ i=>exact ih h
end Rm
namespace Rm
def rn(lo hi v:Int):Int:=if v=hi then lo else v
def M6(pre:List Int)(x:Int):Nat:=if 0<x then (if x∈pre then 41 else 40) else 42
def Lo:List Int->List Int->List Nat
 | _,[]=>[]
 | pre,x::r=>M6 pre x::Lo (pre++[x]) r
def vl(c:Nat):Int:=if c=40 then 1 else if c=41 then -1 else 0
def ps(cs:List Nat):Int:=(cs.map vl).sum
section
variable {x y:Int}
theorem off{l:List Int}(h1:x∉l)(h2:y∉l):∀v∈l,v≠x/\v≠y:=λv hv=>⟨λe=>h1 (e▸hv),λe=>h2 (e▸hv)⟩
end
def mx:List Int->Int
 | []=>0
 | x::l=>max x (mx l)
end Rm
namespace L2
open PySem PySem.Spec PyProof.Rows PySem.Builtin PySem.Builtin.Str
theorem AX{prog:Program}{w:World}{A:Around}{E:Value->Shared->Prop}{s:Shared}{x y:Str}{t u:Tok}{Q:Value->Shared->Prop}(hy:(y.length==0)=false)(hsz:x.length+2<=sizeLine)
  (hq:∀(l:List (Str×Tok)) (k:Nat),l.map (·.1)=Txt.split x y->Q (.ref s.heap.objs.size) { s with heap:=s.heap.push { cls:=.type "list",data:=.seq (strValues l).toArray },toks:=k }) :
  wpAny (model prog w) A (call (.builtin "str.split") [.str x t,.str y u]) Q E s:=by
 have hle:=split_le x y;cases h1:(decide (x.length<y.length) || decide (strKind x<strKind y))
 ·cases hf:(occurrences x y 0 x.length (x.length+1)).isEmpty
  ·have es:Txt.split x y=partsBetween x (occurrences x y 0 x.length (x.length+1)) y.length:=(if_neg (ne_true_of_eq_false h1)).trans (if_neg (ne_true_of_eq_false hf));rw[es] at hle;refine call_meets lg (typeIs_str _ _ _) kq (kW _ _) (meets_str_split_sep x y t u h1 hy hf (bU (eG _ _) hsz) (bU hle hsz)) ?_;show wants Q E _ { s with toks:=_,heap:=s.heap.push { cls:=.type "list",data:=.seq (strsFrom s.toks (partsBetween x (occurrences x y 0 x.length (x.length+1)) y.length)).toArray } };rw[strsFrom_eq];exact hq (numbered s.toks _) _ ((numbered_texts _ _).trans es.symm)
  ·exact call_meets lg (typeIs_str _ _ _) kq (kW _ _) (meets_str_split_not_found x y t u h1 hy hf)
    (hq [(x,t)] s.toks ((if_neg (ne_true_of_eq_false h1)).trans (if_pos hf)).symm)
 ·exact call_meets lg (typeIs_str _ _ _) kq (kW _ _) (meets_str_split_cannot_occur x y t u h1)
   (hq [(x,t)] s.toks (if_pos h1).symm)
theorem o9:∀(l:List (Str×Tok)),cO ((l.map (·.1)).map V.str) (strValues l)
 | []=>.nil
 | (a,t)::l=>.cons ⟨t,rfl⟩ (o9 l)
section
variable {X:Cx}
def IE:V->List V->Hp->VK->Prop:=λx vs H Q=>∃z y,x=.str z/\vs=[.str y]/\(y.length==0)=false/\z.length<=100000/\∀l,H l=none->Q (.ref l) (upd H l (.lst ((Txt.split z y).map V.str)))
theorem D9:Jg X "str.split" IE:=by
 intro pins s σ H x xs v us Q I r rv h;obtain⟨z,y,rfl,rfl,hy,hz,q⟩:=h;obtain⟨t,rfl⟩:=r;obtain⟨u,rfl,t2,rfl⟩:=vals1 rv;have hz2:z.length+2<=sizeLine:=by rw[sizeLine_eq];omega
 refine AX hy hz2 λl k e=>?_;have hl:((Txt.split z y).map V.str).length<=sizeLine:=by rw[aA];exact bU (split_le z y) hz2
 have hv:cO ((Txt.split z y).map V.str) (strValues l):=e▸o9 l;exact⟨.ref s.heap.objs.size,_,I.laid (λb o e=>aB _ e) (aH _) (show cZ X.prog X.w _ _ _ (.lst _) from ⟨hl,strValues l,_,hv,aO _ rfl⟩),rfl,q _ (I.hok.fresh (aH _))⟩
def Gm(K:PySem.W.Frag):List V->Hp->VK->Prop:=λxs H Q=>∃(p:Addr) (ns:List Int),xs=[.ref p]/\bv K H p (ns.map V.int)/\0<ns.length/\∀M,M∈ns->(∀a∈ns,a<=M)->Q (.int M) H
theorem sZ (hc:X.calm=true):iY X (.builtin "max") (Gm X.K):=by
 intro pins s σ H xs us Q I r h;obtain⟨p,ns,rfl,hq,hn,q⟩:=h;obtain⟨u,rfl,rx⟩:=vals1 r;cases rx;obtain⟨its,rv,pl,hz⟩:=I.list hq;have hi:=lS rv;have hl:=pl.isList;obtain⟨xs,e⟩:=hi.allInts.items;have hns:ns=xs.toList.map (·.1):=by rw[<-hi.numsOf,<-nums_intItems,<-e]
 have hsz:0<xs.size:=by
  have h3:=hn;rw[hns,aA,cS] at h3;exact h3
 rw[e] at hl;refine max_intList (I.ok.hd hc) hl hsz λv h' tk hv hk=>?_;obtain⟨t,rfl⟩:=intItems_at hv;obtain⟨h1,h2⟩:=argBest_gt (numAt xs) (xs.size - 1);refine⟨.int _,H,I.kept hk,⟨t,rfl⟩,q _ ?_ λa ha=>?_⟩
 ·rw[hns,numAt_eq];exact getD_mem (by rw[aA,cS];omega)
 ·rw[hns] at ha;obtain⟨j,hj,rfl⟩:=mem_getD ha;rw[aA,cS] at hj;rw[<-numAt_eq];exact h2 j (by omega)
end
end L2
namespace Rm
open PySem L2
def tx(cs:List Nat):Str:=⟨cs.toArray⟩
def lJ(c:Nat):V:=V.str ⟨#[c]⟩
theorem xN(cs:List Nat):(tx cs).length=cs.length:=by simp[tx,Str.length]
theorem He(cs:List Nat):(tx cs).cps.toList=cs:=by simp[tx]
theorem Bu(a b:List Nat):tx a++tx b=tx (a++b):=by
 show Str.mk _=Str.mk _;simp[tx]
theorem Bt{a b:List Nat}(h:tx a=tx b):a=b:=by
 have:=congrArg (λz:Str=>z.cps.toList) h;simpa [tx] using this
theorem J4{a b:Nat}:((⟨#[a]⟩:Str)=tx [b])=(a=b):=propext ⟨λh=>by have:=Bt (show tx [a]=tx [b] from h);simpa using this,λh=>by rw[h];rfl⟩
theorem zR:∀(cs:List Nat) (acc:Array Nat),(cs.map λc=>(⟨#[c]⟩:Str)).foldl (λacc p=>acc++(Str.ofString "").cps++p.cps) acc=acc++cs.toArray
 | [],acc=>by simp
 | c::cs,acc=>by
  rw[ao,fX,zR cs];have:(Str.ofString "").cps=#[]:=by decide +kernel
  rw[this];simp
theorem zQ (cs:List Nat):Txt.join (Str.ofString "") (cs.map λc=>(⟨#[c]⟩:Str))=tx cs:=by
 cases cs with
 | nil=>rfl
 | cons c cs=>
  show Str.mk (((((c::cs).map λc=>(⟨#[c]⟩:Str)).drop 1).foldl (λacc p=>acc++(Str.ofString "").cps++p.cps) (((c::cs).map λc=>(⟨#[c]⟩:Str)).headD Str.empty).cps))=_;rw[ao,List.drop_one,List.tail_cons,List.headD_cons,zR];simp[tx]
theorem tR {cs:List Nat} (hl:cs.length<=900):JoinOk (Str.ofString "") (cs.map λc=>(⟨#[c]⟩:Str))=true:=by
 unfold JoinOk;have e:Builtin.Str.tooLong ((cs.map λc=>(⟨#[c]⟩:Str)).toArray.foldl (λa t=>a+t.length+(Str.ofString "").length) 0)=false:=by
  have h0:∀(cs:List Nat) (a:Nat),(cs.map λc=>(⟨#[c]⟩:Str)).foldl (λa t=>a+t.length+(Str.ofString "").length) a=a+cs.length:=by
   intro cs
   induction cs with
   | nil=>intro a;rfl
   | cons b cs ih=>
    intro a;rw[ao,fX,ih];have h1:(⟨#[b]⟩:Str).length=1:=rfl;have h2:(Str.ofString "").length=0:=by decide +kernel
    rw[h1,h2,cG];omega
  rw[List.foldl_toArray',h0];unfold Builtin.Str.tooLong;exact decide_eq_false (by have:=bO (n:=0+cs.length) (by omega);omega);simp
 rw[e];rfl
end Rm
namespace Rm
open PySem L2 PyProof.Rows
def Pr(bs:List Bool)(x y:Nat):Prop:=LQ bs x y\/LQ bs y x
open Classical in
noncomputable def mtF (bs:List Bool) (x:Nat):Nat:=if h:∃y,Pr bs x y then h.choose else x
def gv(g:List Int)(x:Nat):Int:=g.getD x 0
def Jp(L R:Nat->Nat)(e:Nat):Nat->Nat
 | 0=>e
 | i+1=>R (L (Jp L R e i))
def MT(L R:Nat->Nat)(e:Nat):Nat->List Nat
 | 0=>[]
 | i+1=>MT L R e i++[Jp L R e i]++[L (Jp L R e i)]
def Inj(L R:Nat->Nat)(e i:Nat):Prop:=∀j k,j<i->k<i->Jp L R e j=Jp L R e k->j=k
structure Me (L R:Nat->Nat) (e i:Nat):Prop where
 pos:0<i
 inj:Inj L R e i
 back:Jp L R e i=e
open Classical in
noncomputable def perF (L R:Nat->Nat) (e:Nat):Nat:=if h:∃i,Me L R e i then h.choose else 0
noncomputable def rdF (L R:Nat->Nat) (e:Nat):List Nat:=MT L R e (perF L R e)
open Classical in
noncomputable def rsF (L R:Nat->Nat):Nat->List (List Nat)
 | 0=>[]
 | i+1=>if ∃r∈rsF L R i,i∈r then rsF L R i else rsF L R i++[rdF L R i]
def rk(G:Nat->Bool):Nat->Nat
 | 0=>0
 | k+1=>if G k then rk G k else rk G k+1
def dK(G:Nat->Bool)(bs:List Bool):Nat->Int
 | 0=>0
 | k+1=>if G k then dK G bs k else dK G bs k+((bs[k]?).toList.map dl).sum
end Rm
namespace L2
open PySem PySem.Spec PyProof.Rows
theorem Ls{X:Cx}{K:PySem.W.Frag}{e:Expr}{T:String}{r:V->List V->Hp->VK->Prop}{to:TE}{t:TA}(hK:X.K=K)(h:QE X e (Ka X.K T r to t)):QE X e (Ka K T r to t):=hK▸h
theorem iU {X:Cx} {x:Str} {z:Str} {pos:Pos} (hg:Gl X x) (hm:∃t,X.mg x=some (.str z t)) (hd:(x==("__debug__":Str))=false:=by decide):QE X (.Name x pos) (tC (.str z)):=
 let ⟨t,h⟩:=hm
 ⟨ux hg h ⟨t,rfl⟩ hd⟩
def zf:V->List V->Hp->VK->Prop:=λx vs H Q=>∃(l:Addr) (ks:List Str) (z:Str) (j:Nat),x=.ref l/\vs=[.str z]/\H l=some (.lst (ks.map V.str))/\ks.length<=1000/\ks[j]? = some z/\(∀m,m<j->ks[m]?≠some z)/\Q (.int j) H
theorem An {X:Cx}:Jg X "list.index" zf:=by
 intro pins s σ H x vs v us Q I rx rv h;obtain⟨l,ks,z,j,rfl,rfl,hH,hsz,hj,hno,q⟩:=h;cases rx;obtain⟨u,rfl,ru⟩:=rv.one;obtain⟨t,rfl⟩:=ru;obtain⟨c,its,n,r,hl,e⟩:=I.lstM hH;have at_:∀(m:Nat) (k:Str),ks[m]? = some k->∃t,its[m]? = some (Value.str k t):=λm k hk=>by
  obtain⟨w,hw,t,ht⟩:=r.get (show (ks.map V.str)[m]? = some (V.str k) by rw[aS,hk];rfl);exact⟨t,by rw[hw,ht]⟩
 have ln:its.length=ks.length:=by have:=r.length;rw[aA] at this;exact this.symm
 have jl:j<ks.length:=(aF.mp hj).1
 let f:Value->Bool:=λy=>match y with | .str v _=>v.cps.toList==z.cps.toList | _=>false
 refine call_meets F.slot_list_index ⟨_,e,rfl⟩ F.entry_list_index (F.args_list_index_2 _ _)
  (MeetsSeq.list_index l its.toArray n (.str z t) f (λy hy=>?_) j (by rw[aQ];omega) (by omega) ?_ ?_) ⟨e,⟨.int j,H,I.tok _,⟨_,rfl⟩,q⟩⟩
 ·obtain⟨m,hm,rfl⟩:=jx (List.mem_toArray.mp hy);obtain⟨t',ht⟩:=at_ m ks[m] (aK (by omega));rw[aK hm] at ht;rw[bD ht];exact SeqRoads2.EqGives.str _ _ _ _
 ·obtain⟨t',ht⟩:=at_ j z hj;have h2:its.toArray[j]'(by rw[aQ];omega)=Value.str z t':=by
   rw[List.getElem_toArray];rw[aK (by omega)] at ht;exact bD ht
  rw[h2];exact beq_self_eq_true z.cps.toList
 ·intro m hm hmj;obtain⟨t',ht⟩:=at_ m ks[m] (aK (by omega));have h2:its.toArray[m]=Value.str (ks[m]'(by omega)) t':=by
   rw[List.getElem_toArray];rw[aK (by omega)] at ht;exact bD ht
  rw[h2];have:=hno m hmj;rw[aK (by omega)] at this;refine beq_false_of_ne λe=>this ?_;have:(ks[m]'(by omega)).cps=z.cps:=by simpa using congrArg List.toArray e
  congr 1;generalize ks[m]'(by omega)=y at this;obtain⟨y⟩:=y;obtain⟨z⟩:=z;simp only at this;rw[this]
theorem HL{K:PySem.W.Frag}{σ:St}{H:Hp}{D:Ends}{ta:TA}{g:TG}{tb:TS}:qY (Fm K ta) g tb D σ H=ta σ H λvs H1=>∃a b,vs=[.ref a,.ref b]/\(∃xs,bv K H1 a xs)/\(∃ys,bv K H1 b ys)/\oI (Jr K a b) g tb D σ H1:=rfl
theorem Dz{K:PySem.W.Frag}{σ:St}{H:Hp}{D:Ends}{a b:Addr}{xs ys:List V}{g:TG}{tb:TS}(hle:xs.length<=ys.length)(Pv:Nat->St->Hp->Prop)(h0:Pv 0 σ H)(hl:∀i σ H,Pv i σ H->bv K H a xs/\bv K H b ys)
  (hs:∀i x y σ H p,xs[i]? = some x->ys[i]? = some y->Pv i σ H->H p=none->g (.ref p) σ (upd H p (.tup [x,y])) λσ2 H2=>tb { D with nx:=Pv (i+1),ct:=Pv (i+1),bk:=D.nx } σ2 H2) (hd:∀σ H,Pv xs.length σ H->D.nx σ H):oI (Jr K a b) g tb D σ H:=by
 refine⟨λi m σ H=>m+i=xs.length/\Pv i σ H,⟨xs.length,rfl,h0⟩,?_⟩;rintro i m σ H ⟨hm,hp⟩;obtain⟨q1,q2⟩:=hl i σ H hp;by_cases hi:i<xs.length
 ·refine .inr ⟨⟨xs,ys,xs[i],ys[i],q1,q2,by simp[hi],by simp[aq hi hle]⟩,Pv (i+1),λσ' H' h=>⟨m - 1,by omega,by omega,h⟩,?_⟩;rintro v H' ⟨p,x,y,hn,hx,hy,rfl,rfl⟩;exact hs i x y σ H p (hx xs q1) (hy ys q2) hp hn
 ·have e:i=xs.length:=by omega
  subst e;exact .inl ⟨⟨xs,ys,q1,q2,.inl (aH _)⟩,hd σ H hp⟩
theorem Ba{l:Addr}{z:Str}{H:Hp}{Q:VK}:zf (.ref l) [.str z] H Q=∃(ks:List Str) (j:Nat),H l=some (.lst (ks.map V.str))/\ks.length<=1000/\ks[j]? = some z/\(∀m,m<j->ks[m]?≠some z)/\Q (.int j) H:=
 propext ⟨λ⟨_,ks,_,j,e,e',h⟩=>by cases e;cases e';exact⟨ks,j,h⟩,λ⟨ks,j,h⟩=>⟨l,ks,z,j,rfl,rfl,h⟩⟩
end L2
namespace Rm
open PySem L2 PyProof.Rows
def hN(S:List Bw):Nat->Bw->Nat
 | 0,_=>1
 | k+1,p=>1+((S.filter λq=>jj q p).map (hN S k)).foldl max 0
def hF(S:List Bw)(p:Bw):Nat:=hN S (fG p).toNat p
theorem pJ{l:List Nat}{m:Nat}:∀a,(∀x∈l,x<=m)->a<=m->l.foldl max a<=m:=by
 induction l with
 | nil=>intro a _ h;exact h
 | cons x l ih=>intro a h ha;exact ih _ (λy hy=>h y (aM _ hy)) (by have:=h x (by simp);omega)
theorem pK{l:List Nat}:∀a,a<=l.foldl max a/\∀x∈l,x<=l.foldl max a:=by
 induction l with
 | nil=>intro a;exact⟨aH _,λx h=>nomatch h⟩
 | cons y l ih=>
  intro a;obtain⟨h1,h2⟩:=ih (max a y);refine⟨by show a<=l.foldl max (max a y);omega,λx hx=>?_⟩;rcases aJ.mp hx with rfl | hx
  ·show x<=l.foldl max (max a x);omega
  ·exact h2 x hx
theorem AI{l:List Nat}:∀a,l.foldl max a=a\/l.foldl max a∈l:=by
 induction l with
 | nil=>intro a;exact .inl rfl
 | cons y l ih=>
  intro a;rcases ih (max a y) with h | h
  ·show l.foldl max (max a y)=a\/l.foldl max (max a y)∈y::l;rw[h];rcases Nat.le_total a y with z | z
   ·rw[Nat.max_eq_right z];exact .inr (by simp)
   ·rw[Nat.max_eq_left z];exact .inl rfl
  ·exact .inr (aM _ h)
theorem Ay{S:List Bw}(hS:∀q∈S,q.1<q.2):∀(k:Nat) (p:Bw),(fG p).toNat<=k->hN S k p=hF S p:=by
 intro k
 induction k using Nat.strongRecOn with
 | ind k ih=>
  intro p hp;unfold hF;by_cases e:(fG p).toNat=k
  ·rw[e]
  ·match k,ih,hp,e with
   | 0,_,hp,e=>omega
   | k+1,ih,hp,e=>
    cases hs:(fG p).toNat with
    | zero=>
     have:(S.filter λq=>jj q p).map (hN S k)=(S.filter λq=>jj q p).map λ_=>1:=by
      refine cA λq hq=>?_;have hi:=(aV.mp hq).2;have:=je hi;rw[ih k (by omega) q (by omega)];unfold hF;rw[show (fG q).toNat=0 by omega];rfl
     show 1+((S.filter λq=>jj q p).map (hN S k)).foldl max 0=1;rw[this];cases hf:S.filter λq=>jj q p with
     | nil=>rfl
     | cons q r=>
      exfalso;have hm:=aV.mp (by rw[hf];simp:q∈S.filter λq=>jj q p);have h1:=je hm.2;have h2:=hS q hm.1;unfold fG at h1 hs;omega
    | succ j=>
     show 1+((S.filter λq=>jj q p).map (hN S k)).foldl max 0=1+((S.filter λq=>jj q p).map (hN S j)).foldl max 0;congr 2;refine cA λq hq=>?_;have:=je (aV.mp hq).2;rw[ih k (by omega) q (by omega),ih j (by omega) q (by omega)]
theorem qX{S:List Bw}(hS:∀q∈S,q.1<q.2){p:Bw}(hp:p.1<p.2):hF S p=1+((S.filter λq=>jj q p).map (hF S)).foldl max 0:=by
 unfold hF;obtain⟨k,hk⟩:∃k,(fG p).toNat=k+1:=⟨(fG p).toNat - 1,by unfold fG;omega⟩
 rw[hk];show 1+((S.filter λq=>jj q p).map (hN S k)).foldl max 0=_;congr 2;refine cA λq hq=>?_;have:=je (aV.mp hq).2;exact Ay hS k q (by omega)
theorem ye{S:List Bw}(hS:∀q∈S,q.1<q.2){p:Bw}(hp:p∈S):1<=hF S p:=by rw[qX hS (hS p hp)];omega
theorem Ft{S:List Bw}(hS:∀q∈S,q.1<q.2){h:Bw->Int}(hh:∀p∈S,∃m:Int,h p=1+m/\0<=m/\(∀q∈S,jj q p=true->h q<=m)/\(m=0\/∃q∈S,jj q p=true/\h q=m)):∀(k:Nat) (p:Bw),p∈S->(fG p).toNat=k->h p=(hF S p:Nat):=by
 intro k
 induction k using Nat.strongRecOn with
 | ind k ih=>
  intro p hp hk;obtain⟨m,e,m0,m1,m2⟩:=hh p hp;have ihq:∀q∈S,jj q p=true->h q=(hF S q:Nat):=λq hq hi=>by
   have:=je hi;have:=hS q hq;exact ih (fG q).toNat (by unfold fG at *;omega) q hq rfl
  rw[e,qX hS (hS p hp)];have g:=pK (l:=(S.filter λq=>jj q p).map (hF S)) 0;generalize hM:((S.filter λq=>jj q p).map (hF S)).foldl max 0=M at g;have le:M<=m.toNat:=by
   rw[<-hM];refine pJ 0 (λx hx=>?_) (a6 _);obtain⟨q,hq,rfl⟩:=aT.mp hx;obtain⟨q1,q2⟩:=aV.mp hq;have:=m1 q q1 q2;rw[ihq q q1 q2] at this;omega
  have ge:m.toNat<=M:=by
   rcases m2 with z | ⟨q,q1,q2,z⟩
   ·omega
   ·have:=g.2 (hF S q) (aT.mpr ⟨q,aV.mpr ⟨q1,q2⟩,rfl⟩);rw[ihq q q1 q2] at z;omega
  omega
theorem JY{S:List Bw}{hs:List Int}(hS:∀q∈S,q.1<q.2)(nd:S.Nodup)(h:Lc S hs):hs=S.map λp=>((hF S p:Nat):Int):=by
 let f:Bw->Int:=λp=>tI (S.zip hs) p
 have nz:((S.zip hs).map (·.1)).Nodup:=by
  rw[List.map_fst_zip (by rw[h.len];exact aH _)];exact nd
 have at_:∀(i:Nat) p x,S[i]? = some p->hs[i]? = some x->f p=x:=λi p x h1 h2=>
  lT (e:=(p,x)) nz (aR (by rw[gz];exact⟨h1,h2⟩))
 have key:=Ft hS (h:=f) λp hp=>by
  obtain⟨i,hi⟩:=cj hp;have il:=(aF.mp hi).1;have hx:hs[i]? = some (hs[i]'(by rw[h.len];exact il)):=aK _;have T:=h.top i p _ hi hx;have ep:=at_ i p _ hi hx;refine⟨_,by rw[ep];omega,T.nn,λq hq hi2=>?_,?_⟩
  ·obtain⟨j,hj⟩:=cj hq;have jl:=(aF.mp hj).1;have hy:hs[j]? = some (hs[j]'(by rw[h.len];exact jl)):=aK _;rw[at_ j q _ hj hy];exact T.le (q,_) (aR (i:=j) (by rw[gz];exact⟨hj,hy⟩)) hi2
  ·rcases T.is with z | ⟨e,he,z1,z2⟩
   ·exact .inl z
   ·obtain⟨j,hj⟩:=cj he;rw[gz] at hj;exact .inr ⟨e.1,aR hj.1,z1,by rw[at_ j e.1 e.2 hj.1 hj.2];exact z2⟩
 apply l8
 ·rw[aA,h.len]
 ·intro i h1 h2;rw[List.getElem_map];have il:i<S.length:=by rw[<-h.len];exact h1
  rw[<-key _ S[i] (List.getElem_mem _) rfl];exact(at_ i _ _ (aK il) (aK h1)).symm
def ic(S:List Bw):Nat:=(S.map (hF S)).foldl max 0
theorem i9{S:List Bw}{p:Bw}(hp:p∈S):hF S p<=ic S:=(pK 0).2 _ (aT.mpr ⟨p,hp,rfl⟩)
theorem Dg (S : List Bw) : m6 (S.map fun p => ((hF S p : Nat) : Int)) 0 = (ic S : Nat) := by
  have gen : ∀ (l : List Nat) (o : Option Int) (a : Nat), o.getD 0 = (a : Int) → (∀ y, o = some y → 0 ≤ y) → ((l.map fun n => ((n : Nat) : Int)).foldl Jn o).getD 0 = ((l.foldl max a : Nat) : Int) := by
    intro l
    induction l with
    | nil => intro o a h _; exact h
    | cons x l ih =>
      intro o a h h2
      refine ih _ _ ?_ ?_
      · cases o with
        | none => have : a = 0 := by simpa using h.symm
                  subst this; simp [Jn]
        | some y =>
          have : y = a := by simpa using h
          subst this
          show (if (a : Int) < x then (x : Int) else a) = ((max a x : Nat) : Int)
          split <;> omega
      · intro y hy
        cases o with
        | none =>
          have hy' : (x : Int) = y := bD hy
          omega
        | some z =>
          have := h2 z rfl
          have hy' : (if z < (x : Int) then (x : Int) else z) = y := bD hy
          split at hy' <;> omega
  have e : (S.map fun p => ((hF S p : Nat) : Int)) = (S.map (hF S)).map fun n => ((n : Nat) : Int) := by rw [bc]; rfl
  rw [e]
  exact gen _ none 0 rfl fun y hy => nomatch hy
abbrev Gy:=Nat->Nat->Nat
def q9(w:Nat)(r:Nat->Nat):List V:=(List.range w).map λx=>lJ (r x)
theorem uq(w:Nat)(r:Nat->Nat):(q9 w r).length=w:=by simp[q9]
theorem Ei{w x c:Nat}{r:Nat->Nat}:(q9 w r).set x (lJ c)=q9 w λy=>if y=x then c else r y:=by
 apply l8
 ·simp[q9]
 ·intro i h1 h2;rw[List.getElem_set];simp only[q9,List.getElem_map,List.getElem_range];by_cases e:x=i
  ·subst e;simp
  ·have:¬i=x:=λz=>e z.symm;simp[e,this]
theorem pd{w:Nat}{r s:Nat->Nat}(h:∀x,x<w->r x=s x):q9 w r=q9 w s:=by
 unfold q9;exact cA λx hx=>by rw[h x (cX.mp hx)]
structure gH (H:Hp) (g:Addr) (as:List Addr) (w:Nat) (G:Gy):Prop where
 top:H g=some (.lst (as.map V.ref))
 nd:as.Nodup
 gn:g∉as
 row:∀ (i:Nat) a,as[i]? = some a->H a=some (.lst (q9 w (G i)))
def Keeps(as:List Addr)(H H':Hp):Prop:=∀b o,b∉as->H b=some o->H' b=some o
theorem Keeps.refl(as:List Addr)(H:Hp):Keeps as H H:=λ_ _ _ h=>h
theorem Keeps.trans{as:List Addr}{H H1 H2:Hp}(a:Keeps as H H1)(b:Keeps as H1 H2):Keeps as H H2:=λx o hx h=>b x o hx (a x o hx h)
theorem ak.keeps{as:List Addr}{H H':Hp}(s:ak H H'):Keeps as H H':=λ_ _ _ h=>s _ _ h
theorem Keeps.upd{as:List Addr}{H:Hp}{a:Addr}{o:HO}(h:a∈as):Keeps as H (upd H a o):=λb u nb hb=>by
 have:b≠a:=λe=>nb (e▸h);rw[aP this];exact hb
theorem gH.off{H:Hp}{g:Addr}{as:List Addr}{w:Nat}{G:Gy}(h:gH H g as w G){b:Addr}{o:HO}(hb:H b=some o)(ho:∀xs,o≠.lst xs):b∉as:=λhm=>by
 obtain⟨i,hi⟩:=cj hm;rw[h.row i b hi] at hb;exact ho _ (bD hb).symm
theorem gH.congr{H:Hp}{g:Addr}{as:List Addr}{w:Nat}{G G':Gy}(h:gH H g as w G)(e:∀i x,i<as.length->x<w->G i x=G' i x):gH H g as w G':=
 ⟨h.top,h.nd,h.gn,λi a hi=>by rw[h.row i a hi,pd λx hx=>e i x (aF.mp hi).1 hx]⟩
theorem gH.set{H:Hp}{g:Addr}{as:List Addr}{w:Nat}{G:Gy}(h:gH H g as w G){i x c:Nat}{a:Addr}(hi:as[i]? = some a):gH (upd H a (.lst ((q9 w (G i)).set x (lJ c)))) g as w (λi' x'=>if i'=i/\x'=x then c else G i' x'):=by
 have ma:a∈as:=aR hi;refine⟨?_,h.nd,h.gn,λj b hj=>?_⟩
 ·rw[aP λe:g=a=>h.gn (e▸ma)];exact h.top
 ·by_cases e:b=a
  ·subst e;have ij:i=j:=by
    have h1:=aF.mp hi;have h2:=aF.mp hj;exact(gB h.nd (h₀:=h1.1) (h₁:=h2.1)).mp (h1.2.trans h2.2.symm)
   subst ij;rw[aD,Ei,pd λy _=>?_];simp
  ·rw[aP e,h.row j b hj];have ij:¬j=i:=λz=>by
    subst z;rw[hi] at hj;exact e (bD hj).symm
   rw[pd λy _=>?_];simp[ij]
def xu(G:Gy)(P:Nat->Nat->Bool):Gy:=λi x=>if P i x then 46 else G i x
theorem uz{G:Gy}{P P':Nat->Nat->Bool}{i x:Nat}(h:P i x=P' i x):xu G P i x=xu G P' i x:=by unfold xu;rw[h]
theorem zi{G:Gy}{P P':Nat->Nat->Bool}{i x i0 x0:Nat}(h:P' i x=(P i x || decide (i=i0/\x=x0))):(if i=i0/\x=x0 then 46 else xu G P i x)=xu G P' i x:=by
 unfold xu;rw[h];by_cases z:i=i0/\x=x0
 ·rw[if_pos z,decide_eq_true z,Bool.or_true,if_pos rfl]
 ·rw[if_neg z,decide_eq_false z,dL]
def sR(p:Bw)(i:Nat):Bool:=decide (2*p.1+1<=(i:Int))&&decide ((i:Int)<=2*p.2+1)
def lH(S:List Bw)(c:Bw->Nat)(i x:Nat):Bool:=S.any λp=>sR p i&&decide (x=c p)
def xH(n:Nat)(kL kR:Nat->Nat)(i x:Nat):Bool:=decide (i % 2=1/\3<=i/\i<=2*n+1)&&(decide (kL ((i - 1) / 2)<=x)&&decide (x<=kR ((i - 1) / 2)))
def li(kvs:List (Key×V))(S:List Bw)(c:Bw->Nat):Prop:=∀p∈S,dy kvs (.inl p.1:Key)=some (.int (c p:Nat))/\dy kvs (.inl p.2:Key)=some (.int (c p:Nat))
structure xG (S:List Bw):Prop where
 nd:S.Nodup
 lt:∀ p∈S,p.1<p.2
 len:S.length<=40
 one:∀ p∈S,∀ q∈S,∀ x,(p.1=x\/p.2=x)->(q.1=x\/q.2=x)->p=q
def oj:Sp:=λvs H Q _=>∃r:Int,vs=[.int r]/\Q (.int (2*r+1)) H
def zZ:Sp:=λvs H Q _=>∃l S,vs=[.ref l]/\cY H l S/\xG S/\∀H',ak H H'->Q (.int (ic S:Nat)) H'
def ug:Sp:=λvs H Q _=>∃l k S,∃c:Bw->Nat,vs=[.ref l,.ref k]/\cY H l S/\xG S/\H k=some (.lst (S.map λp=>V.int (c p:Nat)))/\∀d kvs H',H d=none->ak H H'->H' d=some (.dK kvs)->li kvs S c->Q (.ref d) H'
def zX:Sp:=λvs H Q _=>∃l S,∃m:Nat,vs=[.ref l,.int (m:Nat)]/\cY H l S/\xG S/\ic S<=m/\∀d kvs H',H d=none->ak H H'->H' d=some (.dK kvs)->li kvs S (λp=>2*(m-hF S p)+1)->Q (.ref d) H'
def vd:Sp:=λvs H Q _=>∃l S,∃m:Nat,vs=[.ref l,.int (m:Nat)]/\cY H l S/\xG S/\∀d kvs H',H d=none->ak H H'->H' d=some (.dK kvs)->li kvs S (λp=>2*m+2*hF S p - 1)->Q (.ref d) H'
def vi:Sp:=λvs H Q _=>∃g l d as w G S c kvs,vs=[.ref g,.ref l,.ref d]/\gH H g as w G/\l∉as/\cY H l S/\H d=some (.dK kvs)/\li kvs S c/\(∀p∈S,0<=p.1/\p.1<p.2/\2*p.2+1<as.length/\c p<w)/\as.length<=100/\w<=1000/\∀H',Keeps as H H'->gH H' g as w (xu G (lH S c))->Q .non H'
def vh:Sp:=λvs H Q _=>∃g dl dr as w G kl kr,∃n:Nat,∃kL kR:Nat->Nat,vs=[.ref g,.int (n:Nat),.ref dl,.ref dr]/\gH H g as w G/\H dl=some (.dK kl)/\H dr=some (.dK kr)/\(∀r:Nat,1<=r->r<=n->dy kl (.inl (r:Int):Key)=some (.int (kL r:Nat))/\dy kr (.inl (r:Int):Key)=some (.int (kR r:Nat))/\kL r<w/\kR r<w)/\2*n+1<as.length/\as.length<=100/\w<=1000/\∀H',Keeps as H H'->gH H' g as w (xu G (xH n kL kR))->Q .non H'
def CW:Sp:=λvs H Q _=>∃a w,∃r:Nat->Nat,∃x0 c:Nat,vs=[.ref a,.str ⟨#[c]⟩]/\H a=some (.lst (q9 w r))/\x0<w/\r x0=46/\(∀x,x<x0->r x≠46)/\w<=1000/\Q .non (upd H a (.lst ((q9 w r).set x0 (lJ c))))
theorem yc{S:List Bw}{hs:List Int}(B:xG S)(h:Lc S hs):hs=S.map λp=>((hF S p:Nat):Int):=JY B.lt B.nd h
def oF(L:List Bw)(p:Bw):Nat:=2*(ic L-hF L p)+1
def nO(L R:List Bw)(p:Bw):Nat:=2*ic L+2*hF R p - 1
def GE(S:List Bw)(r:Nat):Bw:=(S.find? λp=>decide (p.1=(r:Int)) || decide (p.2=(r:Int))).getD (0,0)
def jU(L:List Bw)(r:Nat):Nat:=oF L (GE L r)
def nI(L R:List Bw)(r:Nat):Nat:=nO L R (GE R r)
def dC(L R:List Bw):Nat:=2*(ic L+ic R)+1
def df(n:Nat)(L R:List Bw)(i x:Nat):Bool:=lH L (oF L) i x || (lH R (nO L R) i x || xH n (jU L) (nI L R) i x)
def signG(n:Nat)(L R:List Bw)(i x:Nat):Nat:=if df n L R i x then (if i=1 then 118 else if i=2*n+3 then 64 else 46) else 35
def jB(n:Nat)(L R:List Bw)(i:Nat):List Nat:=(List.range (dC L R)).map (signG n L R i)
def ff:List (List Nat)->List Nat
 | []=>[]
 | [r]=>r
 | r::s::rs=>r++10::ff (s::rs)
def gg(n:Nat)(L R:List Bw):List Nat:=ff ((List.range (2*n+5)).map (jB n L R))
theorem qV:∀(rs:List (List Nat)) (acc:Array Nat),(rs.map tx).foldl (λacc p=>acc++(Str.ofString "\n").cps++p.cps) acc=acc++(rs.flatMap λr=>10::r).toArray
 | [],acc=>by simp
 | r::rs,acc=>by
  have e:(Str.ofString "\n").cps=#[10]:=by decide +kernel
  rw[ao,fX,qV rs,e];simp[tx]
theorem sJ:∀(r:List Nat) (rs:List (List Nat)),ff (r::rs)=r++rs.flatMap λr=>10::r
 | r,[]=>by simp[ff]
 | r,s::rs=>by
  show r++10::ff (s::rs)=_;rw[sJ s rs];simp
theorem zr (rs:List (List Nat)):Txt.join (Str.ofString "\n") (rs.map tx)=tx (ff rs):=by
 cases rs with
 | nil=>rfl
 | cons r rs=>
  show Str.mk ((((r::rs).map tx).drop 1).foldl (λacc p=>acc++(Str.ofString "\n").cps++p.cps) (((r::rs).map tx).headD Str.empty).cps)=_;rw[ao,List.drop_one,List.tail_cons,List.headD_cons,qV,sJ];simp[tx]
theorem uM {rs:List (List Nat)} (h1:rs.length<=1000) (h2:∀r∈rs,r.length<=1000):JoinOk (Str.ofString "\n") (rs.map tx)=true:=by
 unfold JoinOk;have e:Builtin.Str.tooLong ((rs.map tx).toArray.foldl (λa t=>a+t.length+(Str.ofString "\n").length) 0)=false:=by
  have h0:∀(rs:List (List Nat)) (a:Nat),(∀r∈rs,r.length<=1000)->(rs.map tx).foldl (λa t=>a+t.length+(Str.ofString "\n").length) a<=a+rs.length*1001:=by
   intro rs
   induction rs with
   | nil=>intro a _;exact eG _ _
   | cons b bs ih=>
    intro a hb;rw[ao,fX];have h3:(Str.ofString "\n").length=1:=by decide +kernel
    have h4:=hb b (by simp);have:=ih (a+(tx b).length+(Str.ofString "\n").length) λr hr=>hb r (by simp[hr]);rw[xN,h3] at this;rw[xN,h3,cG];refine bU this ?_;have:(bs.length+1)*1001=bs.length*1001+1001:=Nat.succ_mul _ _;omega
  rw[List.foldl_toArray' (h:=by simp)];have:=h0 rs 0 h2;unfold Builtin.Str.tooLong;refine decide_eq_false ?_;rw[sizeLine_eq];have:rs.length*1001<=1000*1001:=Nat.mul_le_mul_right _ h1;omega
 rw[e];rfl
theorem vx(w:Nat)(r:Nat->Nat):q9 w r=(((List.range w).map r).map λc=>(⟨#[c]⟩:Str)).map V.str:=by unfold q9;rw[bc,bc];rfl
theorem dh.bws{b:Bool}{ns:List Int}{u:Bool}{L:List Bw}(h:dh b ns u L)(O:fE ns):xG L where
 nd:=by
  have:(bJ b ns u (ns.length+1)).Nodup:=by
   unfold bJ List.Nodup;rw[c9];refine fe (fun {i j} hi hj ne e=>?_) ((l3).filter _);have hi:=aV.mp hi;have hj:=aV.mp hj;have h1:=O.has_iff (i:=i) (j:=i) (by have:=cX.mp hi.1;omega) (by have:=cX.mp hi.1;omega);have h2:=O.has_iff (i:=i) (j:=j) (by have:=cX.mp hi.1;omega) (by have:=cX.mp hj.1;omega);rw[<-e,h1] at h2;have h3:decide (j=i\/j+1=i)=true:=by rw[<-h2];simp
   have h4:=of_decide_eq_true h3;rcases h4 with z | z
   ·exact ne z.symm
   ·exact oT hi.2 hj.2 z.symm
  exact h.perm.nodup_iff.mpr this
 lt:=h.lt O
 len:=by have:=h.len O;omega
 one:=λp hp q hq x h1 h2=>by
  have hp:=h.perm.mem_iff.mp hp;have hq:=h.perm.mem_iff.mp hq;obtain⟨i,hi,si,rfl⟩:=eX hp;obtain⟨j,hj,sj,rfl⟩:=eX hq;have hx:∃k,k<ns.length+2/\x=bQ ns k/\(i=k\/i+1=k):=by
   have e:x=bQ ns i\/x=bQ ns (i+1):=by
    have h1':min (bQ ns i) (bQ ns (i+1))=x\/max (bQ ns i) (bQ ns (i+1))=x:=h1;omega
   rcases e with e | e
   ·exact⟨i,by omega,e,.inl rfl⟩
   ·exact⟨i+1,by omega,e,.inr rfl⟩
  obtain⟨k,hk,rfl,ik⟩:=hx;have h2':=nJ.mpr h2;rw[O.has_iff hk (by omega)] at h2';have jk:=of_decide_eq_true h2';have:i=j\/i=j+1\/j=i+1:=by omega
  rcases this with z | z | z
  ·rw[z]
  ·exact absurd z λz=>oT si sj z
  ·exact absurd z λz=>oT sj si z
theorem dh.has{b:Bool}{ns:List Int}{u:Bool}{L:List Bw}(h:dh b ns u L)(O:fE ns){r:Nat}(h1:1<=r)(h2:r<=ns.length):∃p∈L,p.1=(r:Int)\/p.2=(r:Int):=by
 obtain⟨i,hi⟩:=cj (O.mem.mpr ⟨(by omega:(1:Int)<=r),by omega⟩);have il:=(aF.mp hi).1;have er:=lL hi;have:cQ b u i=true\/cQ b u (i+1)=true:=by
  unfold cQ;rw[jc];cases b<;>cases u<;>cases odd i<;>simp
 rcases this with s | s
 ·refine⟨_,h.perm.mem_iff.mpr (kI (by omega) s),?_⟩;rw[<-nJ,<-er,O.has_iff (by omega) (by omega)];simp
 ·refine⟨_,h.perm.mem_iff.mpr (kI (by omega) s),?_⟩;rw[<-nJ,<-er,O.has_iff (by omega) (by omega)];simp
theorem fB{S:List Bw}(B:xG S){p:Bw}(hp:p∈S){r:Nat}(h:p.1=(r:Int)\/p.2=(r:Int)):GE S r=p:=by
 unfold GE;cases e:S.find? λp=>decide (p.1=(r:Int)) || decide (p.2=(r:Int)) with
 | none=>
  have:=List.find?_eq_none.mp e p hp;rw[cu,decide_eq_true_eq,decide_eq_true_eq] at this;exact absurd h this
 | some q=>
  have h1:=List.find?_some e;have h2:=List.mem_of_find?_eq_some e;rw[cu,decide_eq_true_eq,decide_eq_true_eq] at h1;exact B.one q h2 p hp _ h1 h
theorem JJ{S:List Bw}{m:Nat}(h:∀p∈S,hF S p<=m):ic S<=m:=pJ 0 (λx hx=>by obtain⟨p,hp,rfl⟩:=aT.mp hx;exact h p hp) (a6 _)
theorem Fu{S:List Bw}(hS:∀q∈S,q.1<q.2):∀(k:Nat) (p:Bw),(fG p).toNat=k->p.1<p.2->hF S p<=k:=by
 intro k
 induction k using Nat.strongRecOn with
 | ind k ih=>
  intro p hk hp;rw[qX hS hp];have:((S.filter λq=>jj q p).map (hF S)).foldl max 0<=k - 1:=by
   refine pJ 0 (λx hx=>?_) (a6 _);obtain⟨q,hq,rfl⟩:=aT.mp hx;obtain⟨q1,q2⟩:=aV.mp hq;have h1:=je q2;have h2:=hS q q1;have:=ih (fG q).toNat (by unfold fG at *;omega) q rfl h2;unfold fG at *;omega
  unfold fG at hk;omega
theorem dh.mx{b:Bool}{ns:List Int}{u:Bool}{L:List Bw}(h:dh b ns u L)(O:fE ns):ic L<=21:=JJ λp hp=>by
 have:=ul O (h.perm.mem_iff.mp hp);exact bU (Fu (h.lt O) _ p rfl this.2.1) (by unfold fG;omega)
theorem BC{b:Bool}{ns:List Int}(O:fE ns){u:Bool}{p:Bw}(hp:p∈bJ b ns u (ns.length+1))(h:p.1=0):u=b/\p=cH ns 0:=by
 obtain⟨j,hj,sj,rfl⟩:=eX hp;have h':=nJ.mpr (Or.inl (b:=(cH ns j).2=bQ ns 0) (show (cH ns j).1=bQ ns 0 by rw[xm];exact h));rw[O.has_iff (by omega) (by omega)] at h';have:j=0:=by have:=of_decide_eq_true h';omega
 subst this;unfold cQ at sj;exact⟨by have:=beq_iff_eq.mp sj;rw[<-this];simp[odd],rfl⟩
theorem Dn{b:Bool}{ns:List Int}(O:fE ns){u:Bool}{p:Bw}(hp:p∈bJ b ns u (ns.length+1))(h:p.2=(ns.length:Int)+1):u=(b ^^ odd ns.length)/\p=cH ns ns.length:=by
 obtain⟨j,hj,sj,rfl⟩:=eX hp;have h':=nJ.mpr (Or.inr (a:=(cH ns j).1=bQ ns (ns.length+1)) (show (cH ns j).2=bQ ns (ns.length+1) by rw[iT];exact h));rw[O.has_iff (by omega) (by omega)] at h';have:j=ns.length:=by have:=of_decide_eq_true h';omega
 subst this;unfold cQ at sj;exact⟨(beq_iff_eq.mp sj).symm,rfl⟩
theorem AN{S:List Bw}{P:Bw->Bool}{p0:Bw}(h0:p0∈S)(h:∀p∈S,P p=true->p=p0):S.any P=P p0:=by
 rw[d6,cw];exact⟨λ⟨p,hp,e⟩=>by rw[h p hp e] at e;exact e,λe=>⟨p0,h0,e⟩⟩
theorem EK{S:List Bw}{P:Bw->Bool}(h:∀p∈S,P p=false):S.any P=false:=List.any_eq_false.mpr λp hp=>by rw[h p hp];decide
theorem yq{L R:List Bw}{p:Bw}(hS:∀q∈L,q.1<q.2)(hp:p∈L):oF L p<dC L R:=by
 have:=ye hS hp;have:=i9 hp;unfold oF dC;omega
theorem ym{L R:List Bw}{p:Bw}(hS:∀q∈R,q.1<q.2)(hp:p∈R):nO L R p<dC L R:=by
 have:=ye hS hp;have:=i9 hp;unfold nO dC;omega
theorem wO{b:Bool}{ns:List Int}{L R:List Bw}(O:fE ns)(hL:dh b ns false L)(hR:dh b ns true R){i:Nat}{u:Bool}{p0:Bw}(h0:p0∈bJ b ns u (ns.length+1))(hi0:sR p0 i=true)(hu:∀v,∀p∈bJ b ns v (ns.length+1),sR p i=true->v=u/\p=p0)(hg:∀x,xH ns.length (jU L) (nI L R) i x=false):∃x0,x0<dC L R/\∀x,df ns.length L R i x=decide (x=x0):=by
 have mL:∀p,p∈L<->p∈bJ b ns false (ns.length+1):=λp=>hL.perm.mem_iff;have mR:∀p,p∈R<->p∈bJ b ns true (ns.length+1):=λp=>hR.perm.mem_iff;cases u with
 | false=>
  refine⟨oF L p0,yq (hL.lt O) ((mL _).mpr h0),λx=>?_⟩;unfold df;rw[hg,dL];have e1:lH R (nO L R) i x=false:=EK λp hp=>by
   cases e:sR p i with
   | false=>rfl
   | true=>exact nomatch (hu true p ((mR p).mp hp) e).1
  have e2:lH L (oF L) i x=(sR p0 i&&decide (x=oF L p0)):=AN (P:=λp=>sR p i&&decide (x=oF L p)) ((mL _).mpr h0) λp hp e=>by
   rw[aX] at e;exact(hu false p ((mL p).mp hp) e.1).2
  rw[e1,e2,hi0,fH,dL]
 | true=>
  refine⟨nO L R p0,ym (hR.lt O) ((mR _).mpr h0),λx=>?_⟩;unfold df;rw[hg,dL];have e1:lH L (oF L) i x=false:=EK λp hp=>by
   cases e:sR p i with
   | false=>rfl
   | true=>exact nomatch (hu false p ((mL p).mp hp) e).1
  have e2:lH R (nO L R) i x=(sR p0 i&&decide (x=nO L R p0)):=AN (P:=λp=>sR p i&&decide (x=nO L R p)) ((mR _).mpr h0) λp hp e=>by
   rw[aX] at e;exact(hu true p ((mR p).mp hp) e.1).2
  rw[e1,e2,hi0,fH,lF]
theorem qy{p:Bw}{i:Nat}:sR p i=true<->2*p.1+1<=(i:Int)/\(i:Int)<=2*p.2+1:=by
 unfold sR;rw[aX,decide_eq_true_eq,decide_eq_true_eq]
theorem rf{b:Bool}{ns:List Int}{L R:List Bw}(O:fE ns)(hL:dh b ns false L)(hR:dh b ns true R):∃x0,x0<dC L R/\∀x,df ns.length L R 1 x=decide (x=x0):=by
 have s0:cQ b b 0=true:=by unfold cQ;simp[odd]
 have h0:=kI (b:=b) (ns:=ns) (s:=b) (m:=ns.length+1) (i:=0) (by omega) s0;refine wO O hL hR h0 (qy.mpr ?_) (λv p hp e=>?_) (λx=>?_)
 ·have:=ul O h0;have e0:(cH ns 0).1=0:=by
   have h1:=O.row_in (i:=1) (by omega);show min (bQ ns 0) (bQ ns 1)=0;rw[xm];omega
  omega
 ·have h1:=qy.mp e;have h2:=ul O hp;exact BC O hp (by omega)
 ·unfold xH;rw[decide_eq_false (by omega),jA]
theorem uF{b:Bool}{ns:List Int}{L R:List Bw}(O:fE ns)(hL:dh b ns false L)(hR:dh b ns true R):∃x0,x0<dC L R/\∀x,df ns.length L R (2*ns.length+3) x=decide (x=x0):=by
 have s0:cQ b (b ^^ odd ns.length) ns.length=true:=by unfold cQ;simp
 have h0:=kI (b:=b) (ns:=ns) (s:=b ^^ odd ns.length) (m:=ns.length+1) (i:=ns.length) (by omega) s0;have top:∀v,∀p∈bJ b ns v (ns.length+1),p.2<=(ns.length:Int)+1:=λv p hp=>by
  obtain⟨j,hj,_,rfl⟩:=eX hp;exact(O.step_in (i:=j) (by omega)).2
 refine wO O hL hR h0 (qy.mpr ?_) (λv p hp e=>?_) (λx=>?_)
 ·have e0:(cH ns ns.length).2=(ns.length:Int)+1:=by
   have h1:=O.row_in (i:=ns.length) (by omega);show max (bQ ns ns.length) (bQ ns (ns.length+1))=_;rw[iT];omega
  have:=(O.step_lt (i:=ns.length) (aH _))
  omega
 ·have h1:=qy.mp e;have h2:=top v p hp;exact Dn O hp (by omega)
 ·unfold xH;rw[decide_eq_false (by omega),jA]
theorem ID(w c:Nat):(List.replicate w [lJ c]).flatten=q9 w λ_=>c:=by
 unfold q9
 induction w with
 | zero=>rfl
 | succ w ih=>
  rw[List.replicate_succ',List.flatten_append,ih,dv,aW];rfl
theorem sign_of{n:Nat}{L R:List Bw}{x0 x1:Nat}(op0:∀x,df n L R 1 x=decide (x=x0))(op1:∀x,df n L R (2*n+3) x=decide (x=x1))(i x:Nat):
  (if i=2*n+3/\x=x1 then 64 else if i=1/\x=x0 then 118 else if df n L R i x then 46 else 35)=signG n L R i x:=by
 unfold signG;by_cases h1:i=1
 ·subst h1;have:¬((1:Nat)=2*n+3/\x=x1):=by omega
  rw[if_neg this,op0];by_cases e:x=x0
  ·subst e;simp
  ·simp[e]
 ·by_cases h2:i=2*n+3
  ·subst h2;rw[op1];by_cases e:x=x1
   ·subst e;simp
   ·simp[e]
  ·simp[h1,h2]
def CO:Sp:=λvs H Q _=>∃m o b ns,vs=[.ref m]/\eV H m o b ns/\fE ns/\NC b ns/\∀H',ak H H'->Q (.bl true) H'
def rK:Sp:=λvs H Q _=>∃m o b ns,vs=[.ref m]/\eV H m o b ns/\fE ns/\NC b ns/\∀L R H',dh b ns false L->dh b ns true R->ak H H'->Q (.str (tx (gg ns.length L R))) H'
end Rm
namespace L2
open PySem PySem.Spec PyProof.Rows
section
variable {prog:Program} {w:World} {A:Around} {E:Value->Shared->Prop} {s:Shared}
theorem As{v d:Addr}{o:Obj}{es:Array DictEntry}{ep:Nat}{Q:Value->Shared->Prop}(hv:s.heap.IsValuesView v d)(ho:s.heap.get? d=some o)(hdat:o.data=.dict es ep)
  (hQ:Q (.ref s.heap.objs.size) { s with heap:=s.heap.push { cls:=.type "dict_valueiterator",data:=.fields #[.ref d,.int 0 0,.int es.size 0,.int ep 0] } }):wpAny (model prog w) A (pyIter (.ref v)) Q E s:=by
 obtain⟨ov,hov,hcv,hdv⟩:=id hv;refine wpAny_pyIter_slot hv.typeIs F.slot_dict_values_iter (wpAny_call_entry F.slot_dict_values_iter hv.typeIs F.entry_dict_values_iter (wpAny_bind (wpAny_pure (wpAny_bind (wpAny_bind (wpAny_field hov hdv (x:=.ref d) rfl (wpAny_pure (wpAny_bind ?_))))))) (F.args_dict_values_iter_1 _));refine wpAny_bind (wpAny_dictEntries ho hdat (wpAny_bind (wpAny_dictEpoch ho hdat ?_)));simp only[if_neg (show ¬(Builtin.Dict_items.ownsTuple "dict_valueiterator")=true by decide)];refine wpAny_newObj_type (wpAny_pure ⟨_,rfl,"dict_valueiterator",_,⟨_,aO _ rfl,rfl⟩,dN.lookup,?_⟩);simpa [rawInt] using hQ
theorem Ak{it d:Addr}{i ep:Nat}{o:Obj}{es:Array DictEntry}{Q:Option Value->Shared->Prop}(hit:s.heap.IsValIter it d i es.size ep)(ho:s.heap.get? d=some o)(hdat:o.data=.dict es ep)(hi:i<es.size)
  (hQ:∀h',h'.IsValIter it d (i+1) es.size ep->Heap.SameBut it s.heap h'->Q (some es[i].val) { s with heap:=h' }):wpAny (model prog w) A (pyNext (.ref it)) Q E s:=by
 obtain⟨oi,hoi,hc,hd⟩:=id hit;unfold pyNext;refine wpAny_bind (wpAny_attempt (wpAny_callSpecial?_slot (name:=Str.ofString "__next__") hit.typeIs dN (wpAny_call_entry dN hit.typeIs jC (wpAny_bind (wpAny_pure (wpAny_bind (wpAny_bind ?_)))) (iu _))))
 first | refine wpAny_bind (wpAny_typeNameOfWhole_valiter hit.typeIs (wpAny_pure (wpAny_bind (wpAny_fieldsOf hoi hd ?_)))) | refine wpAny_bind (wpAny_typeNameOf_valiter hit.typeIs (wpAny_pure (wpAny_bind (wpAny_fieldsOf hoi hd ?_))))
 rw[if_neg (show ¬(Builtin.Dict_items.ownsTuple "dict_valueiterator")=true by decide)];show wpAny _ _ (if (Value.ref d==Value.none)=true then _ else _) _ _ s;rw[if_neg (show ¬(Value.ref d==Value.none)=true from a7)];refine wpAny_bind (wpAny_pure (wpAny_bind (wpAny_dictEntries ho hdat ?_)));rw[if_neg (by simp)];refine wpAny_bind (wpAny_pure (wpAny_bind (wpAny_dictEpoch ho hdat ?_)));rw[if_neg (by simp)];refine wpAny_pure ?_;simp only[show ¬((i:Int)<0) from by omega,if_false,cM,bw hi];refine wpAny_bind ?_
 first | refine wpAny_bind (wpAny_typeNameOfWhole_valiter hit.typeIs (wpAny_pure (wpAny_bind (wpAny_isOneOf_valiter hit.typeIs ?_)))) | refine wpAny_bind (wpAny_typeNameOf_valiter hit.typeIs (wpAny_pure (wpAny_bind (wpAny_isOneOf_valiter hit.typeIs ?_))))
 show wpAny _ _ (setField (.ref it) 1 (rawInt ((i:Int)+1))>>=_) _ _ s;have hit':(s.heap.update it (Obj.mapFields (·.setIfInBounds 1 (rawInt ((i:Int)+1))))).IsValIter it d (i+1) es.size ep:=⟨_,dX _ hoi (jG (fM hd _)),(kj ..).trans hc,by rw[fM hd];simp[rawInt]⟩
 refine wpAny_bind (wpAny_setField hoi hd (by simp) (wpAny_bind (wpAny_holding (wpAny_bind (wpAny_isOneOf_valiter (s:={ s with heap:=s.heap.update it (Obj.mapFields (·.setIfInBounds 1 (rawInt ((i:Int)+1)))) }) hit'.typeIs (wpAny_bind (wpAny_isOneOf_valiter (s:={ s with heap:=s.heap.update it (Obj.mapFields (·.setIfInBounds 1 (rawInt ((i:Int)+1)))) }) hit'.typeIs ?_)))))));exact wpAny_pure (a:=es[i].val) (wpAny_pure ⟨_,rfl,wpAny_pure (hQ _ hit' (cy ..))⟩)
theorem ED{it d:Addr}{ep:Nat}{o:Obj}{es:Array DictEntry}{Q:Option Value->Shared->Prop}(hh:A.handled=none)(hit:s.heap.IsValIter it d es.size es.size ep)(ho:s.heap.get? d=some o)(hdat:o.data=.dict es ep)
  (hQ:∀h',Heap.ExtBut it s.heap h'->Q none { s with heap:=h' }):wpAny (model prog w) A (pyNext (.ref it)) Q E s:=by
 obtain⟨oi,hoi,hc,hd⟩:=id hit;unfold pyNext;refine wpAny_bind (wpAny_attempt (wpAny_callSpecial?_slot (name:=Str.ofString "__next__") hit.typeIs dN (wpAny_call_entry dN hit.typeIs jC (wpAny_bind (wpAny_pure (wpAny_bind (wpAny_bind ?_)))) (iu _))))
 first | refine wpAny_bind (wpAny_typeNameOfWhole_valiter hit.typeIs (wpAny_pure (wpAny_bind (wpAny_fieldsOf hoi hd ?_)))) | refine wpAny_bind (wpAny_typeNameOf_valiter hit.typeIs (wpAny_pure (wpAny_bind (wpAny_fieldsOf hoi hd ?_))))
 rw[if_neg (show ¬(Builtin.Dict_items.ownsTuple "dict_valueiterator")=true by decide)];show wpAny _ _ (if (Value.ref d==Value.none)=true then _ else _) _ _ s;rw[if_neg (show ¬(Value.ref d==Value.none)=true from a7)];refine wpAny_bind (wpAny_pure (wpAny_bind (wpAny_dictEntries ho hdat ?_)));rw[if_neg (by simp)];refine wpAny_bind (wpAny_pure (wpAny_bind (wpAny_dictEpoch ho hdat ?_)));rw[if_neg (by simp)];refine wpAny_pure ?_;simp only[show ¬((es.size:Int)<0) from by omega,if_false,cM,gJ (aH es.size)];refine wpAny_bind ?_
 first | refine wpAny_bind (wpAny_typeNameOfWhole_valiter hit.typeIs (wpAny_pure ?_)) | refine wpAny_bind (wpAny_typeNameOf_valiter hit.typeIs (wpAny_pure ?_))
 refine wpAny_bind (m:=setField (.ref it) 0 .none) (wpAny_setField hoi hd (by simp) (wpAny_bind (m:=newExc (.type "StopIteration") []) ?_));simp only[newExc,newTuple];refine wpAny_bind (wpAny_newObj_type (wpAny_bind (m:=firstArgMember _ _) (wpAny_of_eq (a:=Value.none) (by first | rfl | (simp only[firstArgMember];rfl)) (wpAny_newObj_type ?_ (by size_fits)))) (by size_fits));simp only[raiseNew];refine wpAny_bind (wpAny_handled ?_);rw[show A.in1.handled=none from hh];refine wpAny_bind (wpAny_pure (wpAny_throw ?_));refine wpAny_bind (wpAny_isInstance (T:="StopIteration") (b:=true) ⟨_,aO _ rfl,rfl⟩ isSubtype_stop ?_);exact wpAny_pure (hQ _ (((cy ..).extBut.push _).push _))
end
section
variable {prog:Program} {w:World} {d r:Addr} {o:Obj} {es:Array DictEntry} {ep:Nat}
theorem Fi (hd:(d==sysModules)=false) (hx:o.ExactDict) (hdat:o.data=.dict es ep):PySem.W.KdlSrc prog w "dict" d d es.size (λi v=>∃e,es[i]? = some e/\v=e.key) (λh=>h.get? d=some o) where
 type:=λ_ e=>⟨o,e,hx.1⟩
 there:=λ_ e=>⟨aN e,aN e⟩
 keep:=λ_ _ e k=>k d (.inl rfl) o e
 notList:=by decide
 notTuple:=by decide
 hint:=λ_ _ _ _ e hq=>PySem.W.kdl_hint_dict ⟨o,e,hx.1⟩ hq
 iter:=λA s hh e=>⟨_,λi h=>h.IsKeyIter s.heap.objs.size d i es.size ep/\h.get? d=some o,λ_ _ hq=>we hd e hx hdat hq,
  { sub:=(λb hb=>by simp at hb;simp[hb]),frame:=(λi h h' st k=>⟨st.1.at λo e=>k _ (by simp) o e,k d (by simp) o st.2⟩),item:=(λi s' Q E hi st hQ=>wZ st.1 st.2 hdat hi λh' st' sb=>hQ _ h' s'.toks ⟨es[i],by simp[hi],rfl⟩ ⟨st',(sb.2 d (av (aN e))).trans st.2⟩ λb o hb e=>(sb.2 b (λz=>hb (by simp[z]))).trans e),done:=(λs' Q E st hQ=>AJ hh st.1 st.2 hdat λh' eb=>hQ h' s'.toks λb o hb e=>eb b o (λz=>hb (by simp[z])) e),self:=(λ_ _ _ _ st hQ=>wpAny_pyIter_keyiter st.1 hQ) },⟨⟨_,aO _ rfl,rfl,rfl⟩,aB _ e⟩⟩
theorem Fh (hdat:o.data=.dict es ep):PySem.W.KdlSrc prog w "dict_values" r d es.size (λi v=>∃e,es[i]? = some e/\v=e.val) (λh=>h.IsValuesView r d/\h.get? d=some o) where
 type:=λ_ e=>e.1.typeIs
 there:=λ_ e=>⟨let ⟨_,ho,_⟩:=e.1;aN ho,aN e.2⟩
 keep:=λ_ _ e k=>⟨let ⟨o,ho,x⟩:=e.1;⟨o,k r (.inl rfl) o ho,x⟩,k d (.inr rfl) o e.2⟩
 notList:=by decide
 notTuple:=by decide
 hint:=λ_ _ _ _ e hq=>PySem.W.kdl_hint_values e.1.typeIs hq
 iter:=λA s hh e=>⟨_,λi h=>h.IsValIter s.heap.objs.size d i es.size ep/\h.get? d=some o,λ_ _ hq=>As e.1 e.2 hdat hq,
  { sub:=(λb hb=>by simp at hb;simp[hb]),frame:=(λi h h' st k=>⟨st.1.at λo e=>k _ (by simp) o e,k d (by simp) o st.2⟩),item:=(λi s' Q E hi st hQ=>Ak st.1 st.2 hdat hi λh' st' sb=>hQ _ h' s'.toks ⟨es[i],by simp[hi],rfl⟩ ⟨st',(sb.2 d (av (aN e.2))).trans st.2⟩ λb o hb e=>(sb.2 b (λz=>hb (by simp[z]))).trans e),done:=(λs' Q E st hQ=>ED hh st.1 st.2 hdat λh' eb=>hQ h' s'.toks λb o hb e=>eb b o (λz=>hb (by simp[z])) e),self:=(λ_ _ _ _ st hQ=>wpAny_pyIter_valiter st.1 hQ) },⟨⟨_,aO _ rfl,rfl,rfl⟩,aB _ e.2⟩⟩
end
section
variable {X:Cx}
theorem uP{α:Type}{P:Nat->Value->Prop}{acc:Array Value}{l:List α}{f:α->Value}(h:ItemsOf P acc l.length)(e:∀i v,P i v->∃x,l[i]? = some x/\v=f x):acc.toList=l.map f:=by
 apply ko;intro i;rw[aS];rcases gG i l.length with hi | hi
 ·have h1:acc[i]? = some (acc[i]'(by rw[h.1];exact hi)):=bw _;obtain⟨x,hx,ev⟩:=e i _ (h.2 i _ h1);rw[fR,h1,hx,ev];rfl
 ·rw[dW hi,dW (by rw[cS,h.1];exact hi)];rfl
def Cg:List V->Hp->VK->Prop:=λxs H Q=>∃(d:Addr) (kvs:List (List Key×V)),xs=[.ref d]/\H d=some (.dT kvs)/\∀l (as:List Addr),H l=none->Paired (λ(a:Addr) (kv:List Key×V)=>H a=some (.tup (kv.1.map kV))) as kvs->Q (.ref l) (upd H l (.lst (as.map V.ref)))
theorem se (hc:X.calm=true):iY X (.type "list") Cg:=by
 intro pins s σ H xs us Q I r h;obtain⟨d,kvs,rfl,hd,q⟩:=h;obtain⟨u,rfl,rx⟩:=vals1 r;cases rx;obtain⟨z,y,xs,rp,o,es,ep,ho,ex,ed,el,nd⟩:=(show cZ X.prog X.w H s.heap d (.dT kvs) from I.hok d _ hd)
 have h2:kvs.length=xs.length:=bB rp;have hes:es.size=xs.length:=by
  have h1:es.toList.length=xs.length:=by rw[el,aA]
  rw[<-cS];exact h1
 refine PySem.W.kdl_call (Fi y ex ed) (I.ok.hd hc) ho (by omega) λh' tk acc' c' kp e ia=>?_;rw[hes] at ia;have ea:acc'.toList=xs.map λx=>Value.ref x.2.1:=uP ia λi v ⟨en,h3,h4⟩=>by
  have e3:es.toList[i]? = some en:=by rw[fR];exact h3
  rw[el,aS] at e3;obtain⟨x,hx,rfl⟩:=cC.mp e3;exact⟨x,hx,h4⟩
 have vs:∀l:List (List Key×Addr×Value),cO ((l.map λx=>x.2.1).map V.ref) (l.map λx=>Value.ref x.2.1):=λl=>by
  induction l with
  | nil=>exact .nil
  | cons x l ih=>exact .cons rfl ih
 have pr:∀{kvs:List (List Key×V)} {xs:List (List Key×Addr×Value)},Paired (λ(p:List Key×V) (q:List Key×Addr×Value)=>p.1=q.1/\H q.2.1=some (.tup (p.1.map kV))/\RelV p.2 q.2.2) kvs xs->Paired (λ(a:Addr) (kv:List Key×V)=>H a=some (.tup (kv.1.map kV))) (xs.map λx=>x.2.1) kvs:=fun {kvs xs} h=>by
  induction h with
  | nil=>exact .nil
  | cons x _ ih=>exact .cons x.2.1 ih
 refine⟨.ref s.heap.objs.size,_,I.laid (t':=tk) kp (aH _) (show cZ X.prog X.w _ h' _ (.lst ((xs.map λx=>x.2.1).map V.ref)) from ⟨by rw[aA,aA];omega,acc'.toList,c',by rw[ea];exact vs xs,by rw[Array.toArray_toList];exact e⟩),rfl,q _ _ (I.hok.fresh (aH _)) (pr rp)⟩
def oK (d:Addr):HO:=.frz { cls:=.type "dict_values",data:=.fields #[.ref d] } (.own 0)
def ze:V->List V->Hp->VK->Prop:=λx vs H Q=>∃(d:Addr) (kvs:List (List Key×V)),x=.ref d/\vs=[]/\H d=some (.dT kvs)/\∀vw,H vw=none->Q (.ref vw) (upd H vw (oK d))
theorem yU {prog:Program} {w:World} (d:Addr) (hd:(d==sysModules)=false):MeetsIn prog w (Builtin.«dict.values» ⟨[.ref d],[]⟩) (λ_ R s=>s.TypeIs (.ref d) "dict"/\R (.ok (.ret (.ref s.heap.objs.size))) { s with heap:=s.heap.push { cls:=.type "dict_values",data:=.fields #[.ref d] } }):=
 .of_wp λA R s ⟨hT,h⟩=>by
  refine wpAny_bind (wpAny_bind (wpAny_notOrdered_dict hT (wpAny_pure (a:=d) ?_)));show wpAny _ _ (Builtin.Dict.showsAll d>>=_) _ _ s;unfold Builtin.Dict.showsAll;rw[if_neg (show ¬(d==sysModules)=true by rw[hd];exact a7)];exact wpAny_bind (wpAny_pure (wpAny_bind (wpAny_newObj_type (wpAny_pure ⟨_,rfl,h⟩))))
theorem uI:Jq X "dict.values" ze:=by
 intro pins s σ H x vs v us Q I rx rv h;obtain⟨d,kvs,rfl,rfl,hd,q⟩:=h;cases rx;cases rv;obtain⟨z,y,xs,rp,o,es,ep,ho,ex,ed,el,nd⟩:=(show cZ X.prog X.w H s.heap d (.dT kvs) from I.hok d _ hd)
 refine call_meetsIn F.slot_dict_values ⟨o,ho,ex.1⟩ F.entry_dict_values (F.args_dict_values_1 _) (yU d y) ⟨⟨o,ho,ex.1⟩,.ref s.heap.objs.size,_,I.laid (t':=s.toks) (λb o e=>aB _ e) (aH _) (show cZ X.prog X.w _ _ _ (oK d) from ⟨aO _ rfl,_,aO _ rfl⟩),rfl,q _ (I.hok.fresh (aH _))⟩
def Cf:List V->Hp->VK->Prop:=λxs H Q=>∃(vw d:Addr) (kvs:List (List Key×V)),xs=[.ref vw]/\H vw=some (oK d)/\H d=some (.dT kvs)/\∀l,H l=none->Q (.ref l) (upd H l (.lst (kvs.map (·.2))))
theorem nN (hc:X.calm=true):iY X (.type "list") Cf:=by
 intro pins s σ H xs us Q I r h;obtain⟨vw,d,kvs,rfl,hv,hd,q⟩:=h;obtain⟨u,rfl,rx⟩:=vals1 r;cases rx;obtain⟨z,y,xs,rp,o,es,ep,ho,ex,ed,el,nd⟩:=(show cZ X.prog X.w H s.heap d (.dT kvs) from I.hok d _ hd)
 have hV:s.heap.IsValuesView vw d:=⟨_,(show cZ X.prog X.w H s.heap vw (oK d) from I.hok vw _ hv).1,rfl,rfl⟩
 have h2:kvs.length=xs.length:=bB rp;have hes:es.size=xs.length:=by
  have h1:es.toList.length=xs.length:=by rw[el,aA]
  rw[<-cS];exact h1
 refine PySem.W.kdl_call (Fh (r:=vw) ed) (I.ok.hd hc) ⟨hV,ho⟩ (by omega) λh' tk acc' c' kp e ia=>?_;rw[hes] at ia;have ea:acc'.toList=xs.map λx=>x.2.2:=uP ia λi v ⟨en,h3,h4⟩=>by
  have e3:es.toList[i]? = some en:=by rw[fR];exact h3
  rw[el,aS] at e3;obtain⟨x,hx,rfl⟩:=cC.mp e3;exact⟨x,hx,h4⟩
 have vs:∀{kvs:List (List Key×V)} {xs:List (List Key×Addr×Value)},Paired (λ(p:List Key×V) (q:List Key×Addr×Value)=>p.1=q.1/\H q.2.1=some (.tup (p.1.map kV))/\RelV p.2 q.2.2) kvs xs->cO (kvs.map (·.2)) (xs.map λx=>x.2.2):=fun {kvs xs} h=>by
  induction h with
  | nil=>exact .nil
  | cons x _ ih=>exact .cons x.2.2 ih
 refine⟨.ref s.heap.objs.size,_,I.laid (t':=tk) kp (aH _) (show cZ X.prog X.w _ h' _ (.lst (kvs.map (·.2))) from ⟨by rw[aA];omega,acc'.toList,c',by rw[ea];exact vs rp,by rw[Array.toArray_toList];exact e⟩),rfl,q _ (I.hok.fresh (aH _))⟩
end
theorem EU{xs:List V}{H:Hp}{Q:VK}:Cg xs H Q=∃(d:Addr) (kvs:List (List Key×V)),xs=[.ref d]/\H d=some (.dT kvs)/\∀l (as:List Addr),H l=none->Paired (λ(a:Addr) (kv:List Key×V)=>H a=some (.tup (kv.1.map kV))) as kvs->Q (.ref l) (upd H l (.lst (as.map V.ref))):=rfl
end L2
namespace Rm
open PySem L2 PyProof.Rows
theorem wj{l m:List Nat}(h:∀x,x∈l<->x∈m):l.foldl max 0=m.foldl max 0:=
 Nat.le_antisymm (pJ 0 (λx hx=>(pK 0).2 x ((h x).mp hx)) (a6 _)) (pJ 0 (λx hx=>(pK 0).2 x ((h x).mpr hx)) (a6 _))
theorem yd{S T:List Bw}(h:∀q,q∈S<->q∈T):∀(k:Nat) (p:Bw),hN S k p=hN T k p
 | 0,_=>rfl
 | k+1,p=>by
  show 1+((S.filter λq=>jj q p).map (hN S k)).foldl max 0=1+((T.filter λq=>jj q p).map (hN T k)).foldl max 0;congr 1;refine wj λx=>?_;constructor
  ·intro hx;obtain⟨q,hq,rfl⟩:=aT.mp hx;obtain⟨h1,h2⟩:=aV.mp hq;exact aT.mpr ⟨q,aV.mpr ⟨(h q).mp h1,h2⟩,(yd h k q).symm⟩
  ·intro hx;obtain⟨q,hq,rfl⟩:=aT.mp hx;obtain⟨h1,h2⟩:=aV.mp hq;exact aT.mpr ⟨q,aV.mpr ⟨(h q).mpr h1,h2⟩,yd h k q⟩
theorem vG{S T:List Bw}(h:∀q,q∈S<->q∈T)(p:Bw):hF S p=hF T p:=yd h _ p
theorem pF{S T:List Bw}(h:∀q,q∈S<->q∈T):ic S=ic T:=by
 refine wj λx=>?_;constructor
 ·intro hx;obtain⟨q,hq,rfl⟩:=aT.mp hx;exact aT.mpr ⟨q,(h q).mp hq,(vG h q).symm⟩
 ·intro hx;obtain⟨q,hq,rfl⟩:=aT.mp hx;exact aT.mpr ⟨q,(h q).mpr hq,vG h q⟩
theorem zk{S T:List Bw}{c d:Bw->Nat}(h:∀q,q∈S<->q∈T)(hc:∀q,c q=d q)(i x:Nat):lH S c i x=lH T d i x:=by
 unfold lH;rw[d6,cw,cw];constructor
 ·rintro⟨q,hq,e⟩;exact⟨q,(h q).mp hq,by rw[<-hc];exact e⟩
 ·rintro⟨q,hq,e⟩;exact⟨q,(h q).mpr hq,by rw[hc];exact e⟩
def bE(b:Bool)(ns:List Int)(u:Bool):List Bw:=bJ b ns u (ns.length+1)
theorem om(b:Bool)(ns:List Int)(u:Bool):∃L,dh b ns u L:=by
 refine⟨(bE b ns u).mergeSort λp q=>decide (p.1<q.1\/p.1=q.1/\p.2<=q.2),List.mergeSort_perm _ _,?_⟩;have:=List.pairwise_mergeSort (le:=λp q:Bw=>decide (p.1<q.1\/p.1=q.1/\p.2<=q.2)) (λa b c h1 h2=>?_) (λa b=>?_) (bE b ns u)
 ·exact this.imp λh=>of_decide_eq_true h
 ·have h1:=of_decide_eq_true h1;have h2:=of_decide_eq_true h2;exact decide_eq_true (by omega)
 ·rw[cu,decide_eq_true_eq,decide_eq_true_eq];omega
theorem iD{b:Bool}{ns:List Int}(O:fE ns)(u:Bool):xG (bE b ns u):=by
 obtain⟨L,hL⟩:=om b ns u;have B:=hL.bws O;have m:∀q,q∈bE b ns u->q∈L:=λq hq=>hL.perm.mem_iff.mpr hq;exact⟨hL.perm.nodup_iff.mp B.nd,λp hp=>B.lt p (m p hp),by have:=hL.perm.length_eq;have:=B.len;show (bJ b ns u (ns.length+1)).length<=40;omega,λp hp q hq=>B.one p (m p hp) q (m q hq)⟩
theorem qq{b:Bool}{ns:List Int}(O:fE ns)(u:Bool){r:Nat}(h1:1<=r)(h2:r<=ns.length):∃p∈bE b ns u,p.1=(r:Int)\/p.2=(r:Int):=by
 obtain⟨L,hL⟩:=om b ns u;obtain⟨p,hp,e⟩:=hL.has O h1 h2;exact⟨p,hL.perm.mem_iff.mp hp,e⟩
theorem uk{b:Bool}{ns:List Int}(O:fE ns)(u:Bool):ic (bE b ns u)<=21:=by
 obtain⟨L,hL⟩:=om b ns u;have e:ic L=ic (bE b ns u):=pF λq=>hL.perm.mem_iff;rw[<-e];exact hL.mx O
theorem uE{b:Bool}{ns:List Int}{L R:List Bw}(O:fE ns)(hL:dh b ns false L)(hR:dh b ns true R):∀i x,df ns.length L R i x=df ns.length (bE b ns false) (bE b ns true) i x:=by
 have mL:∀q,q∈L<->q∈bE b ns false:=λq=>hL.perm.mem_iff;have mR:∀q,q∈R<->q∈bE b ns true:=λq=>hR.perm.mem_iff;have cl:∀p,oF L p=oF (bE b ns false) p:=λp=>by unfold oF;rw[pF mL,vG mL]
 have cr:∀p,nO L R p=nO (bE b ns false) (bE b ns true) p:=λp=>by unfold nO;rw[pF mL,vG mR]
 intro i x;unfold df;rw[zk mL cl,zk mR cr];congr 2;unfold xH;by_cases z:i % 2=1/\3<=i/\i<=2*ns.length+1
 ·rw[decide_eq_true z,fH,fH];obtain⟨p,hp,ep⟩:=hL.has O (r:=(i - 1) / 2) (by omega) (by omega);obtain⟨q,hq,eq⟩:=hR.has O (r:=(i - 1) / 2) (by omega) (by omega);unfold jU nI;rw[fB (hL.bws O) hp ep,fB (hR.bws O) hq eq,fB (iD O false) ((mL p).mp hp) ep,fB (iD O true) ((mR q).mp hq) eq,cl,cr]
 ·rw[decide_eq_false z];rfl
theorem vX{b:Bool}{ns:List Int}{L R:List Bw}(O:fE ns)(hL:dh b ns false L)(hR:dh b ns true R):gg ns.length L R=gg ns.length (bE b ns false) (bE b ns true):=by
 have mL:∀q,q∈L<->q∈bE b ns false:=λq=>hL.perm.mem_iff;have mR:∀q,q∈R<->q∈bE b ns true:=λq=>hR.perm.mem_iff;unfold gg;congr 1;refine cA λi _=>?_;unfold jB;rw[show dC L R=dC (bE b ns false) (bE b ns true) by unfold dC;rw[pF mL,pF mR]];refine cA λx _=>?_;unfold signG;rw[uE O hL hR]
def bK(p:Bw):List Key:=[.inl p.1,.inl p.2]
theorem yt{p q:Bw}(h:bK p=bK q):p=q:=by
 unfold bK at h;simp only[jr,Sum.inl.injEq,and_true] at h;exact fL h.1 h.2
def qP(f:Bw->Nat)(ps:List Bw):List (List Key×V):=ps.map λp=>(bK p,V.int (f p:Nat))
theorem xS{f:Bw->Nat}{p:Bw}:∀{ps:List Bw},p∈ps->dy (qP f ps) (bK p)=some (.int (f p:Nat))
 | q::ps,h=>by
  show dy ((bK q,V.int (f q:Nat))::qP f ps) (bK p)=_;by_cases e:q=p
  ·subst e;rw[fZ rfl]
  ·rw[eP λz=>e (yt z)];rcases aJ.mp h with z | z
   ·exact absurd z.symm e
   ·exact xS z
theorem rF{f:Bw->Nat}{p:Bw}:∀{ps:List Bw},p∉ps->dy (qP f ps) (bK p)=none
 | [],_=>rfl
 | q::ps,h=>by
  show dy ((bK q,V.int (f q:Nat))::qP f ps) (bK p)=_;rw[eP λz=>h (by rw[yt z];simp)];exact rF λz=>h (aM _ z)
theorem Cq{κ:Type} [DecidableEq κ] {kvs:List (κ×V)} {k:κ} {v y:V} (h:dy kvs k=none):putK (kvs++[(k,v)]) k y=kvs++[(k,y)]:=by
 unfold putK;rw[if_pos (by simp)];rw[aW];congr 1
 ·conv=>rhs;rw[<-nT kvs]
  refine cA λkv hkv=>?_;have:¬kv.1=k:=λe=>by
   have h2:=lI k kvs;rw[h] at h2;have h3:(kvs.any λkv=>decide (kv.1=k))=true:=cw.mpr ⟨kv,hkv,decide_eq_true e⟩;rw[h3] at h2;cases h2
  rw[if_neg this];rfl
 ·simp
theorem gh{S:List Bw}(hS:∀q∈S,q.1<q.2){p q:Bw}(hp:p.1<p.2)(hq:q∈S)(h:jj q p=true):hF S q+1<=hF S p:=by
 rw[qX hS hp];have:=(pK (l:=(S.filter λq=>jj q p).map (hF S)) 0).2 (hF S q) (aT.mpr ⟨q,aV.mpr ⟨hq,h⟩,rfl⟩);omega
theorem Bz{S:List Bw}(hS:∀q∈S,q.1<q.2){p:Bw}{v:Nat}(hp:p.1<p.2)(h1:1<=v)(h2:v<=hF S p)(h3:∀q∈S,jj q p=true->hF S q+1<=v):v=hF S p:=by
 refine Nat.le_antisymm h2 ?_;rw[qX hS hp];rcases AI (l:=(S.filter λq=>jj q p).map (hF S)) 0 with e | e
 ·rw[e];omega
 ·obtain⟨q,hq,e'⟩:=aT.mp e;rw[<-e'];have:=h3 q (aV.mp hq).1 (aV.mp hq).2;omega
theorem De{S ps:List Bw}(h:∀p,p∈ps<->p∈S){M:Int}(h1:M∈(0:Int)::ps.map λp=>((hF S p:Nat):Int))(h2:∀a∈(0:Int)::ps.map (λp=>((hF S p:Nat):Int)),a<=M):M=(ic S:Nat):=by
 have g1:∀p∈S,((hF S p:Nat):Int)<=M:=λp hp=>h2 _ (aM _ (aT.mpr ⟨p,(h p).mpr hp,rfl⟩));have g0:(0:Int)<=M:=h2 0 (by simp);have g2:((ic S:Nat):Int)<=M:=by
  rcases AI (l:=S.map (hF S)) 0 with e | e
  ·unfold ic;rw[e];exact g0
  ·obtain⟨q,hq,e'⟩:=aT.mp e;have:=g1 q hq;unfold ic;rw[<-e'];exact this
 rcases aJ.mp h1 with z | z
 ·omega
 ·obtain⟨p,hp,e⟩:=aT.mp z;have:=i9 ((h p).mp hp);omega
def CP:Sp:=λvs H Q _=>∃l S,vs=[.ref l]/\cY H l S/\xG S/\(∀p∈S,p.2-p.1<=21)/\∀d ps H',H d=none->ak H H'->(∀p,p∈ps<->p∈S)->ps.length<=40->H' d=some (.dT (qP (hF S) ps))->Q (.ref d) H'
def sK(i x:Nat):List Key:=[.inl (i:Int),.inl (x:Int)]
theorem rT{i x j y:Nat}(h:sK i x=sK j y):i=j/\x=y:=by
 unfold sK at h;simp only[jr,Sum.inl.injEq,and_true] at h;omega
def Sg(kvs:List (List Key×V))(F:Nat->Nat->Option V):Prop:=∀i x,dy kvs (sK i x)=F i x
theorem Sg.put{kvs:List (List Key×V)}{F G:Nat->Nat->Option V}(h:Sg kvs F)(i x:Nat)(v:V)(e:∀i' x',(if i'=i/\x'=x then some v else F i' x')=G i' x'):Sg (putK kvs (sK i x) v) G:=λi' x'=>by
 rw[j5,<-e i' x'];by_cases z:i'=i/\x'=x
 ·rw[if_pos z,if_pos (by rw[z.1,z.2])]
 ·rw[if_neg z,if_neg λw=>z (rT w)];exact h i' x'
def Jm(n i:Nat):Nat:=if i=1 then 118 else if i=2*n+3 then 64 else 46
def Fo(n:Nat)(P:Nat->Nat->Bool):Nat->Nat->Option V:=λi x=>if P i x then some (lJ (Jm n i)) else none
def Fl(n:Nat)(P:Nat->Nat->Bool)(p:Bw)(c t j:Nat):Nat->Nat->Option V:=λi x=>
 if x=c/\2*p.1+1<=(i:Int)/\(i:Int)<2*p.1+1+j then some (lJ (if 1<=t/\i=1 then 118 else if 2<=t/\i=2*n+3 then 64 else 46)) else Fo n P i x
theorem GQ{n:Nat}{P:Nat->Nat->Bool}{p:Bw}{c j:Nat}(hj:(j:Int)=2*p.2+1 - 2*p.1):Fl n P p c 2 j=Fo n λi x=>P i x || (sR p i&&decide (x=c)):=by
 funext i x;unfold Fl Fo sR Jm;by_cases z:x=c/\2*p.1+1<=(i:Int)/\(i:Int)<2*p.1+1+j
 ·rw[if_pos z];have hP:(P i x || (decide (2*p.1+1<=(i:Int))&&decide ((i:Int)<=2*p.2+1)&&decide (x=c)))=true:=by
   rw[cu];right;simp only[aX,decide_eq_true_eq];omega
  have e1:(if 1<=2/\i=1 then 118 else if 2<=2/\i=2*n+3 then 64 else 46)=(if i=1 then 118 else if i=2*n+3 then 64 else 46):=by simp
  rw[e1];exact(if_pos hP).symm
 ·rw[if_neg z];have:(P i x || (decide (2*p.1+1<=(i:Int))&&decide ((i:Int)<=2*p.2+1)&&decide (x=c)))=P i x:=by
   have:(decide (2*p.1+1<=(i:Int))&&decide ((i:Int)<=2*p.2+1)&&decide (x=c))=false:=by
    rw[Bool.eq_false_iff];intro w;simp only[aX,decide_eq_true_eq] at w;omega
   rw[this,dL]
  simp only[this]
theorem MN{n:Nat}{P:Nat->Nat->Bool}{p:Bw}{c:Nat}:Fl n P p c 0 0=Fo n P:=by
 funext i x;unfold Fl;rw[if_neg (by omega)]
theorem GP{n:Nat}{P:Nat->Nat->Bool}{p:Bw}{c j y:Nat}(hy:(y:Int)=2*p.1+1+j)(i x:Nat):(if i=y/\x=c then some (lJ 46) else Fl n P p c 0 j i x)=Fl n P p c 0 (j+1) i x:=by
 unfold Fl;by_cases z:i=y/\x=c
 ·rw[if_pos z,if_pos (by omega)];simp
 ·rw[if_neg z];by_cases w:x=c/\2*p.1+1<=(i:Int)/\(i:Int)<2*p.1+1+j
  ·rw[if_pos w,if_pos (show x=c/\2*p.1+1<=(i:Int)/\(i:Int)<2*p.1+1+((j+1:Nat):Int) by omega)]
  ·rw[if_neg w,if_neg (show ¬(x=c/\2*p.1+1<=(i:Int)/\(i:Int)<2*p.1+1+((j+1:Nat):Int)) by omega)]
theorem ML{n:Nat}{P:Nat->Nat->Bool}{p:Bw}{c j:Nat}(h:p.1=0)(hj:0<j)(i x:Nat):(if i=1/\x=c then some (lJ 118) else Fl n P p c 0 j i x)=Fl n P p c 1 j i x:=by
 unfold Fl;by_cases z:i=1/\x=c
 ·rw[if_pos z,if_pos (by omega),if_pos (by omega)]
 ·rw[if_neg z];by_cases w:x=c/\2*p.1+1<=(i:Int)/\(i:Int)<2*p.1+1+j
  ·rw[if_pos w,if_pos w,if_neg (by omega),if_neg (by omega),if_neg (by omega),if_neg (by omega)]
  ·rw[if_neg w,if_neg w]
theorem LU{n:Nat}{P:Nat->Nat->Bool}{p:Bw}{c j:Nat}(h:0<p.1):Fl n P p c 0 j=Fl n P p c 1 j:=by
 funext i x;unfold Fl;by_cases w:x=c/\2*p.1+1<=(i:Int)/\(i:Int)<2*p.1+1+j
 ·rw[if_pos w,if_pos w,if_neg (by omega),if_neg (by omega),if_neg (by omega),if_neg (by omega)]
 ·rw[if_neg w,if_neg w]
theorem MM{n:Nat}{P:Nat->Nat->Bool}{p:Bw}{c j:Nat}(h:p.2=(n:Int)+1)(h0:0<=p.1)(hp:p.1<p.2)(hj:(j:Int)=2*p.2+1 - 2*p.1)(i x:Nat):(if i=2*n+3/\x=c then some (lJ 64) else Fl n P p c 1 j i x)=Fl n P p c 2 j i x:=by
 unfold Fl;by_cases z:i=2*n+3/\x=c
 ·rw[if_pos z,if_pos (by omega),if_neg (by omega),if_pos (by omega)]
 ·rw[if_neg z];by_cases w:x=c/\2*p.1+1<=(i:Int)/\(i:Int)<2*p.1+1+j
  ·rw[if_pos w,if_pos w];by_cases y:i=1
   ·rw[if_pos (by omega),if_pos (by omega)]
   ·rw[if_neg (by omega),if_neg (by omega),if_neg (by omega),if_neg (by omega)]
  ·rw[if_neg w,if_neg w]
theorem LV{n:Nat}{P:Nat->Nat->Bool}{p:Bw}{c j:Nat}(h:p.2<(n:Int)+1)(hj:(j:Int)=2*p.2+1 - 2*p.1):Fl n P p c 1 j=Fl n P p c 2 j:=by
 funext i x;unfold Fl;by_cases w:x=c/\2*p.1+1<=(i:Int)/\(i:Int)<2*p.1+1+j
 ·rw[if_pos w,if_pos w];by_cases y:i=1
  ·rw[if_pos (by omega),if_pos (by omega)]
  ·rw[if_neg (by omega),if_neg (by omega),if_neg (by omega),if_neg (by omega)]
 ·rw[if_neg w,if_neg w]
theorem pQ{n:Nat}{P P':Nat->Nat->Bool}{kvs:List (List Key×V)}(h:Sg kvs (Fo n P))(e:∀i x,P i x=P' i x):Sg kvs (Fo n P'):=λi x=>by rw[h i x];unfold Fo;rw[e]
theorem li.add{S T:List Bw}{c:Bw->Nat}{kv:List (Key×V)}{p:Bw}(BS:xG S)(hT:∀q∈T,q∈S)(hp:p∈S)(ca:li kv T c):li (putK (putK kv (.inl p.1:Key) (.int (c p:Nat))) (.inl p.2:Key) (.int (c p:Nat))) (T++[p]) c:=by
 intro q hq;have qS:q∈S:=by
  rcases aU.mp hq with h | h
  ·exact hT q h
  ·rw[show q=p by simpa using h];exact hp
 have key:∀x,(q.1=x\/q.2=x)->dy (putK (putK kv (.inl p.1:Key) (.int (c p:Nat))) (.inl p.2:Key) (.int (c p:Nat))) (.inl x:Key)=some (.int (c q:Nat)):=λx hx=>by
  rw[j5];by_cases z:(.inl x:Key)=.inl p.2
  ·rw[if_pos z,BS.one q qS p hp x hx (.inr (kh z).symm)]
  ·rw[if_neg z,j5];by_cases y:(.inl x:Key)=.inl p.1
   ·rw[if_pos y,BS.one q qS p hp x hx (.inl (kh y).symm)]
   ·rw[if_neg y];rcases aU.mp hq with h | h
    ·rcases hx with e | e
     ·rw[<-e];exact(ca q h).1
     ·rw[<-e];exact(ca q h).2
    ·have e:q=p:=by simpa using h
     subst e;rcases hx with e | e
     ·exact absurd (by rw[e]) y
     ·exact absurd (by rw[e]) z
 exact⟨key _ (.inl rfl),key _ (.inr rfl)⟩
def mq(S:List Bw)(k i j:Nat):List Bw:=S.take (if k<i then 100 else if k=i then j else 0)
theorem By{S:List Bw}(h:S.length<=100)(k i:Nat):mq S k i S.length=mq S k (i+1) 0:=by
 unfold mq;by_cases h1:k<i
 ·rw[if_pos h1,if_pos (by omega)]
 ·rw[if_neg h1];by_cases h2:k=i
  ·rw[if_pos h2,if_pos (by omega),bW,cW h]
  ·rw[if_neg h2,if_neg (by omega)];by_cases h3:k=i+1
   ·rw[if_pos h3]
   ·rw[if_neg h3]
theorem E7{S:List Bw}{k i j:Nat}{p:Bw}(h:p∈mq S k i j):p∈S:=List.mem_of_mem_take h
theorem rG{S:List Bw}{i j:Nat}{p:Bw}(h:S[j]? = some p):mq S i i (j+1)=mq S i i j++[p]:=by
 unfold mq;rw[if_neg (dY i),if_pos rfl,if_neg (dY i),if_pos rfl,bF,h];rfl
theorem u7{S:List Bw}{k i j:Nat}(h:k≠i):mq S k i (j+1)=mq S k i j:=by
 unfold mq;rw[if_neg h,if_neg h]
theorem u9{S:List Bw}{k i:Nat}(h:S.length<=100)(hk:k<i):mq S k i 0=S:=by
 unfold mq;rw[if_pos hk,cW h]
theorem wN(T:List Bw)(p:Bw)(c:Bw->Nat)(i x:Nat):lH (T++[p]) c i x=(lH T c i x || (sR p i&&decide (x=c p))):=by
 unfold lH;rw[m5];simp
def Gj(rs:List Int)(kL kR:Nat->Nat)(i x:Nat):Bool:=rs.any λr=>decide ((i:Int)=2*r+1)&&(decide (kL r.toNat<=x)&&decide (x<=kR r.toNat))
theorem Cc(T:List Int)(r:Int)(kL kR:Nat->Nat)(i x:Nat):Gj (T++[r]) kL kR i x=(Gj T kL kR i x || (decide ((i:Int)=2*r+1)&&(decide (kL r.toNat<=x)&&decide (x<=kR r.toNat)))):=by
 unfold Gj;rw[m5];simp
theorem Jh{kvs:List (List Key×V)}{n i0 x0:Nat}{P P':Nat->Nat->Bool}(h:Sg kvs (Fo n P))(h0:Jm n i0=46)(e:∀i x,P' i x=(P i x || decide (i=i0/\x=x0))):Sg (putK kvs (sK i0 x0) (lJ 46)) (Fo n P'):=h.put i0 x0 _ λi x=>by
 unfold Fo;rw[e];by_cases z:i=i0/\x=x0
 ·rw[if_pos z,decide_eq_true z,Bool.or_true,if_pos rfl,z.1,h0]
 ·rw[if_neg z,decide_eq_false z,dL]
theorem Er{ns:List Int}(O:fE ns)(kL kR:Nat->Nat)(i x:Nat):Gj ns kL kR i x=xH ns.length kL kR i x:=by
 unfold Gj xH;rw[d6,cw];simp only[aX,decide_eq_true_eq];constructor
 ·rintro⟨r,hr,h1,h2,h3⟩;have:=O.mem.mp hr;have e:(i - 1) / 2=r.toNat:=by omega
  rw[e];exact⟨⟨by omega,by omega,by omega⟩,h2,h3⟩
 ·rintro⟨⟨h1,h2,h3⟩,h4,h5⟩;refine⟨(((i - 1) / 2:Nat):Int),O.mem.mpr ⟨by omega,by omega⟩,by omega,?_,?_⟩
  ·rw[cM];exact h4
  ·rw[cM];exact h5
def tW:Sp:=λvs H Q _=>∃m o b ns,vs=[.ref m]/\eV H m o b ns/\fE ns/\∀H',ak H H'->Q (.str (tx (gg ns.length (bE b ns false) (bE b ns true)))) H'
section
variable {S:List Bw}
theorem pD(B:xG S)(nc:∀p∈S,∀q∈S,eU p q=false){p q:Bw}(hp:p∈S)(hq:q∈S)(h1:p.1<q.1)(h2:q.1<p.2):jj q p=true:=by
 have h3:=nc p hp q hq;unfold eU at h3;have h4:¬p.2<q.2:=λz=>by rw[decide_eq_true h1,decide_eq_true h2,decide_eq_true z] at h3;cases h3
 have h5:p.2≠q.2:=λz=>by
  have:=B.one p hp q hq p.2 (.inr rfl) (.inr z.symm);rw[this] at h1;omega
 unfold jj;rw[decide_eq_true h1,decide_eq_true (show q.2<p.2 by omega)];rfl
theorem AF(B:xG S)(nc:∀p∈S,∀q∈S,eU p q=false){p q:Bw}(hp:p∈S)(hq:q∈S)(ne:p≠q){r:Int}(p1:p.1<=r)(p2:r<p.2)(q1:q.1<=r)(q2:r<q.2):hF S p≠hF S q:=by
 rcases Int.lt_trichotomy p.1 q.1 with h | h | h
 ·have:=gh B.lt (B.lt p hp) hq (pD B nc hp hq h (by omega));omega
 ·exact absurd (B.one p hp q hq p.1 (.inl rfl) (.inl h.symm)) ne
 ·have:=gh B.lt (B.lt q hq) hp (pD B nc hq hp h (by omega));omega
theorem nv(B:xG S)(nc:∀p∈S,∀q∈S,eU p q=false){p q:Bw}(hp:p∈S)(hq:q∈S){r:Int}(e:p.1=r\/p.2=r)(h1:q.1<r)(h2:r<q.2):jj p q=true:=by
 rcases e with e | e
 ·exact pD B nc hq hp (by omega) (by omega)
 ·have pl:=B.lt p hp;rcases Int.lt_trichotomy q.1 p.1 with h | h | h
  ·exact pD B nc hq hp h (by omega)
  ·have:=B.one q hq p hp q.1 (.inl rfl) (.inl h.symm);subst this;omega
  ·have:=pD B nc hp hq h (by omega);unfold jj at this;simp only[aX,decide_eq_true_eq] at this;omega
theorem wf(B:xG S){p:Bw}(hp:p∈S):1<=hF S p:=by rw[qX B.lt (B.lt p hp)];omega
end
theorem yj{S0 S1:List Bw}{c0 c1:Bw->Nat}{A:List Nat}{P0 P1:Bw->Bool}(n0:S0.Nodup)(n1:S1.Nodup)(hA:A.Nodup)(i0:∀p∈S0,∀q∈S0,P0 p=true->P0 q=true->p≠q->c0 p≠c0 q)(i1:∀p∈S1,∀q∈S1,P1 p=true->P1 q=true->p≠q->c1 p≠c1 q)
  (d0:∀x∈A,∀p∈S0,P0 p=true->x≠c0 p) (d1:∀x∈A,∀p∈S1,P1 p=true->x≠c1 p) (d2:∀p∈S0,∀q∈S1,P0 p=true->P1 q=true->c0 p≠c1 q) {w:Nat} {o:Nat->Bool}
  (ho:∀x,x<w->(o x=true<->x∈A\/(∃p∈S0,P0 p=true/\x=c0 p)\/∃p∈S1,P1 p=true/\x=c1 p)) (bA:∀x∈A,x<w) (b0:∀p∈S0,P0 p=true->c0 p<w) (b1:∀p∈S1,P1 p=true->c1 p<w) :
  ((List.range w).filter o).length=A.length+((S0.filter P0).length+(S1.filter P1).length):=by
 have nm:∀{S:List Bw} {P:Bw->Bool} {c:Bw->Nat},S.Nodup->(∀p∈S,∀q∈S,P p=true->P q=true->p≠q->c p≠c q)->((S.filter P).map c).Nodup:=fun {S P c} nS inj=>by
  unfold List.Nodup;rw[c9];refine fe (fun {p q} hp hq ne=>?_) (List.Pairwise.filter P nS);obtain⟨h1,h2⟩:=aV.mp hp;obtain⟨h3,h4⟩:=aV.mp hq;exact inj p h1 q h3 h2 h4 ne
 have T:((List.range w).filter o).Perm (A++((S0.filter P0).map c0++(S1.filter P1).map c1)):=by
  refine(List.perm_ext_iff_of_nodup (List.Pairwise.filter o l3) ?_).mpr λx=>?_
  ·rw[cJ];refine⟨hA,?_,λx hx y hy=>?_⟩
   ·rw[cJ];refine⟨nm n0 i0,nm n1 i1,λx hx y hy=>?_⟩;obtain⟨p,hp,rfl⟩:=aT.mp hx;obtain⟨q,hq,rfl⟩:=aT.mp hy;exact d2 p (aV.mp hp).1 q (aV.mp hq).1 (aV.mp hp).2 (aV.mp hq).2
   ·rcases aU.mp hy with hy | hy
    ·obtain⟨p,hp,rfl⟩:=aT.mp hy;exact d0 x hx p (aV.mp hp).1 (aV.mp hp).2
    ·obtain⟨p,hp,rfl⟩:=aT.mp hy;exact d1 x hx p (aV.mp hp).1 (aV.mp hp).2
  ·rw[aV,cX,aU,aU,aT,aT];constructor
   ·rintro⟨h1,h2⟩;rcases(ho x h1).mp h2 with h | ⟨p,hp,h,e⟩ | ⟨p,hp,h,e⟩
    ·exact .inl h
    ·exact .inr (.inl ⟨p,aV.mpr ⟨hp,h⟩,e.symm⟩)
    ·exact .inr (.inr ⟨p,aV.mpr ⟨hp,h⟩,e.symm⟩)
   ·rintro (h | ⟨p,hp,e⟩ | ⟨p,hp,e⟩)
    ·exact⟨bA x h,(ho x (bA x h)).mpr (.inl h)⟩
    ·obtain⟨h1,h2⟩:=aV.mp hp;have:=b0 p h1 h2;rw[e] at this;exact⟨this,(ho x this).mpr (.inr (.inl ⟨p,h1,h2,e.symm⟩))⟩
    ·obtain⟨h1,h2⟩:=aV.mp hp;have:=b1 p h1 h2;rw[e] at this;exact⟨this,(ho x this).mpr (.inr (.inr ⟨p,h1,h2,e.symm⟩))⟩
 rw[T.length_eq,af,af,aA,aA]
structure tO (n:Nat) (S0 S1:List Bw):Prop where
 b0:xG S0
 b1:xG S1
 c0:∀ p∈S0,∀ q∈S0,eU p q=false
 c1:∀ p∈S1,∀ q∈S1,eU p q=false
 h0:∀ r:Nat,1<=r->r<=n->∃ p∈S0,p.1=(r:Int)\/p.2=(r:Int)
 h1:∀ r:Nat,1<=r->r<=n->∃ p∈S1,p.1=(r:Int)\/p.2=(r:Int)
theorem tO.of{b:Bool}{ns:List Int}(O:fE ns)(nc:NC b ns):tO ns.length (bE b ns false) (bE b ns true):=
 ⟨iD O false,iD O true,nc false,nc true,λ_ h1 h2=>qq O false h1 h2,λ_ h1 h2=>qq O true h1 h2⟩
section
variable {n:Nat} {S0 S1:List Bw}
theorem tO.cL(X:tO n S0 S1){p:Bw}(hp:p∈S0):oF S0 p % 2=1/\oF S0 p+1<=2*ic S0:=by
 have h1:=wf X.b0 hp;have h2:=i9 hp;unfold oF;omega
theorem tO.cR(X:tO n S0 S1){p:Bw}(hp:p∈S1):nO S0 S1 p % 2=1/\2*ic S0+1<=nO S0 S1 p/\nO S0 S1 p+1<=2*(ic S0+ic S1):=by
 have h1:=wf X.b1 hp;have h2:=i9 hp;unfold nO;omega
theorem tO.injL(X:tO n S0 S1){r:Int}:∀p∈S0,∀q∈S0,(decide (p.1<=r)&&decide (r<p.2))=true->(decide (q.1<=r)&&decide (r<q.2))=true->p≠q->oF S0 p≠oF S0 q:=λp hp q hq h1 h2 ne=>by
 simp only[aX,decide_eq_true_eq] at h1 h2;have:=AF X.b0 X.c0 hp hq ne h1.1 h1.2 h2.1 h2.2;have:=i9 hp;have:=i9 hq;unfold oF;omega
theorem tO.injR(X:tO n S0 S1){r:Int}:∀p∈S1,∀q∈S1,(decide (p.1<=r)&&decide (r<p.2))=true->(decide (q.1<=r)&&decide (r<q.2))=true->p≠q->nO S0 S1 p≠nO S0 S1 q:=λp hp q hq h1 h2 ne=>by
 simp only[aX,decide_eq_true_eq] at h1 h2;have:=AF X.b1 X.c1 hp hq ne h1.1 h1.2 h2.1 h2.2;have:=wf X.b1 hp;have:=wf X.b1 hq;unfold nO;omega
def Gp(r:Int)(S:List Bw):Nat:=(S.filter λp=>decide (p.1<r)&&decide (r<p.2)).length
theorem tO.ring_open(X:tO n S0 S1){r:Nat}(h1:1<=r)(h2:r<=n)(x:Nat):df n S0 S1 (2*r+1) x=true<->x∈List.range' (jU S0 r) (nI S0 S1 r+1-jU S0 r)\/(∃p∈S0,(decide (p.1<(r:Int))&&decide ((r:Int)<p.2))=true/\x=oF S0 p)\/∃p∈S1,(decide (p.1<(r:Int))&&decide ((r:Int)<p.2))=true/\x=nO S0 S1 p:=by
 have e:∀p:Bw,sR p (2*r+1)=(decide (p.1<=(r:Int))&&decide ((r:Int)<=p.2)):=λp=>by
  unfold sR;rw[d6];simp only[aX,decide_eq_true_eq];omega
 obtain⟨p0,hp0,e0⟩:=X.h0 r h1 h2;obtain⟨p1,hp1,e1⟩:=X.h1 r h1 h2;have kl:jU S0 r=oF S0 p0:=by unfold jU;rw[fB X.b0 hp0 e0]
 have kr:nI S0 S1 r=nO S0 S1 p1:=by unfold nI;rw[fB X.b1 hp1 e1]
 have a0:=X.cL hp0;have a1:=X.cR hp1;have mr:x∈List.range' (jU S0 r) (nI S0 S1 r+1-jU S0 r)<->jU S0 r<=x/\x<=nI S0 S1 r:=by
  rw[jn];constructor
  ·rintro⟨i,hi,rfl⟩;omega
  ·rintro⟨h3,h4⟩;exact⟨x-jU S0 r,by omega,by omega⟩
 rw[mr];unfold df lH xH;rw[decide_eq_true (show (2*r+1) % 2=1/\3<=2*r+1/\2*r+1<=2*n+1 by omega),fH,cu,cu,cw,cw,show (2*r+1 - 1) / 2=r by omega];simp only[e,aX,decide_eq_true_eq];constructor
 ·rintro (⟨p,hp,⟨h3,h4⟩,h5⟩ | ⟨p,hp,⟨h3,h4⟩,h5⟩ | h)
  ·by_cases z:p.1=(r:Int)\/p.2=(r:Int)
   ·have:=X.b0.one p hp p0 hp0 r z e0;subst this;left;omega
   ·exact .inr (.inl ⟨p,hp,⟨by omega,by omega⟩,h5⟩)
  ·by_cases z:p.1=(r:Int)\/p.2=(r:Int)
   ·have:=X.b1.one p hp p1 hp1 r z e1;subst this;left;omega
   ·exact .inr (.inr ⟨p,hp,⟨by omega,by omega⟩,h5⟩)
  ·exact .inl h
 ·rintro (h | ⟨p,hp,⟨h3,h4⟩,h5⟩ | ⟨p,hp,⟨h3,h4⟩,h5⟩)
  ·exact .inr (.inr h)
  ·exact .inl ⟨p,hp,⟨by omega,by omega⟩,h5⟩
  ·exact .inr (.inl ⟨p,hp,⟨by omega,by omega⟩,h5⟩)
structure Run (n:Nat) (S0 S1:List Bw) (r:Nat) (a z:Nat):Prop where
 le:a+2<=z
 oa:a % 2=1
 oz:z % 2=1
 w:z<dC S0 S1
 op:∀ x,a<=x->x<=z->df n S0 S1 (2 * r+1) x=true
 ev:∀ x,x<a\/z<x->x % 2=0->df n S0 S1 (2 * r+1) x=false
 ct:((List.range (dC S0 S1)).filter (df n S0 S1 (2 * r+1))).length=(z+1 - a)+(Gp r S0+Gp r S1)
theorem tO.run(X:tO n S0 S1){r:Nat}(h1:1<=r)(h2:r<=n):Run n S0 S1 r (jU S0 r) (nI S0 S1 r):=by
 obtain⟨p0,hp0,e0⟩:=X.h0 r h1 h2;obtain⟨p1,hp1,e1⟩:=X.h1 r h1 h2;have kl:jU S0 r=oF S0 p0:=by unfold jU;rw[fB X.b0 hp0 e0]
 have kr:nI S0 S1 r=nO S0 S1 p1:=by unfold nI;rw[fB X.b1 hp1 e1]
 have a0:=X.cL hp0;have a1:=X.cR hp1;have mr:∀x,x∈List.range' (jU S0 r) (nI S0 S1 r+1-jU S0 r)<->jU S0 r<=x/\x<=nI S0 S1 r:=λx=>by
  rw[jn];constructor
  ·rintro⟨i,hi,rfl⟩;omega
  ·rintro⟨h3,h4⟩;exact⟨x-jU S0 r,by omega,by omega⟩
 have farL:∀p∈S0,(decide (p.1<(r:Int))&&decide ((r:Int)<p.2))=true->oF S0 p<jU S0 r:=λp hp h=>by
  simp only[aX,decide_eq_true_eq] at h;have h3:=gh X.b0.lt (X.b0.lt p hp) hp0 (nv X.b0 X.c0 hp0 hp e0 h.1 h.2);have:=i9 hp;rw[kl];unfold oF;omega
 have farR:∀p∈S1,(decide (p.1<(r:Int))&&decide ((r:Int)<p.2))=true->nI S0 S1 r<nO S0 S1 p:=λp hp h=>by
  simp only[aX,decide_eq_true_eq] at h;have h3:=gh X.b1.lt (X.b1.lt p hp) hp1 (nv X.b1 X.c1 hp1 hp e1 h.1 h.2);have:=wf X.b1 hp1;rw[kr];unfold nO;omega
 have wk:∀p:Bw,(decide (p.1<(r:Int))&&decide ((r:Int)<p.2))=true->(decide (p.1<=(r:Int))&&decide ((r:Int)<p.2))=true:=λp h=>by
  simp only[aX,decide_eq_true_eq] at h ⊢;omega
 refine⟨by omega,by omega,by omega,by unfold dC;omega,λx h3 h4=>(X.ring_open h1 h2 x).mpr (.inl ((mr x).mpr ⟨h3,h4⟩)),λx h3 h4=>?_,?_⟩
 ·cases e:df n S0 S1 (2*r+1) x with
  | false=>rfl
  | true=>
   exfalso;rcases(X.ring_open h1 h2 x).mp e with h | ⟨p,hp,_,rfl⟩ | ⟨p,hp,_,rfl⟩
   ·have:=(mr x).mp h;omega
   ·have:=X.cL hp;omega
   ·have:=X.cR hp;omega
 ·have:=yj (A:=List.range' (jU S0 r) (nI S0 S1 r+1-jU S0 r)) (w:=dC S0 S1) X.b0.nd X.b1.nd (km 1) (λp hp q hq g1 g2=>X.injL p hp q hq (wk p g1) (wk q g2)) (λp hp q hq g1 g2=>X.injR p hp q hq (wk p g1) (wk q g2))
   (λx hx p hp h=>by have:=(mr x).mp hx;have:=farL p hp h;omega) (λx hx p hp h=>by have:=(mr x).mp hx;have:=farR p hp h;omega) (λp hp q hq _ _=>by have:=X.cL hp;have:=X.cR hq;omega) (λx _=>X.ring_open h1 h2 x) (λx hx=>by have:=(mr x).mp hx;unfold dC;omega) (λp hp _=>by have:=X.cL hp;unfold dC;omega) (λp hp _=>by have:=X.cR hp;unfold dC;omega)
  rw[this,List.length_range'];rfl
end
end Rm
namespace Rm
open PySem L2
section
def MY(L:List Int)(p:Nat):Prop:=1<=p/\p<L.length/\L[p-1]?≠L[p]?
instance (L:List Int) (p:Nat):Decidable (MY L p):=by unfold MY;infer_instance
end
theorem four{k:Nat}(h:k<4):k=0\/k=1\/k=2\/k=3:=by omega
end Rm
namespace Rm
open PySem L2 PyProof.Rows
theorem EI(c:Nat):∀l:List Nat,0<=PyProof.Rows.cnt c l
 | []=>by rw[PyProof.Rows.cnt_nil];omega
 | n::r=>by
  rw[PyProof.Rows.cnt_cons];have:=EI c r
  split<;>omega
theorem GF{a b:List Nat}{x y:List Nat}(ha:10∉a)(hb:10∉b):a++10::x=b++10::y->a=b/\x=y:=by
 induction a generalizing b with
 | nil=>
  intro h;cases b with
  | nil=>exact⟨rfl,by simpa using h⟩
  | cons c b=>simp at h;exact absurd h.1 (λe=>hb (by rw[<-e];simp))
 | cons c a ih=>
  intro h;cases b with
  | nil=>simp at h;exact absurd h.1 (λe=>ha (by rw[e];simp))
  | cons d b=>
   simp only[gC,jr] at h;obtain⟨h1,h2⟩:=ih (λz=>ha (aM _ z)) (λz=>hb (aM _ z)) h.2;exact⟨by rw[h.1,h1],h2⟩
theorem sI{rs:List (List Nat)}{r:List Nat}(hr:10∉r)(hne:rs≠[])(h:ff rs=r):rs=[r]:=by
 match rs,hne,h with
 | [s],_,h=>rw[show ff [s]=s from rfl] at h;rw[h]
 | s::t::us,_,h=>
  exfalso;have h:s++10::ff (t::us)=r:=h;exact hr (by rw[<-h];simp)
theorem uO:∀{rs ss:List (List Nat)},rs≠[]->ss≠[]->(∀r∈rs,10∉r)->(∀s∈ss,10∉s)->ff rs=ff ss->rs=ss
 | [],_,h,_,_,_,_=>absurd rfl h
 | [r],ss,_,hs,fr,fs,e=>(sI (fr r (by simp)) hs (show ff ss=r from e.symm)).symm
 | r::r2::rs,[],_,hs,_,_,_=>absurd rfl hs
 | r::r2::rs,[s],h,_,fr,fs,e=>sI (fs s (by simp)) h e
 | r::r2::rs,s::s2::ss,_,_,fr,fs,e=>by
  have e:r++10::ff (r2::rs)=s++10::ff (s2::ss):=e;obtain⟨h1,h2⟩:=GF (fr r (by simp)) (fs s (by simp)) e;rw[h1,uO (by simp) (by simp) (λx hx=>fr x (aM _ hx)) (λx hx=>fs x (aM _ hx)) h2]
theorem vj:∀(rs:List (List Nat)),Str.join ⟨#[10]⟩ (rs.map tx)=tx (ff rs)
 | []=>rfl
 | [r]=>rfl
 | r::s::rs=>by
  show tx r++(⟨#[10]⟩:Str)++Str.join ⟨#[10]⟩ ((s::rs).map tx)=_;rw[vj (s::rs),show (⟨#[10]⟩:Str)=tx [10] from rfl,Bu,Bu];show tx (r++[10]++ff (s::rs))=tx (r++10::ff (s::rs));simp
theorem CM {rs:List (List Nat)} (hne:rs≠[]) (fr:∀r∈rs,10∉r):Txt.split (tx (ff rs)) (Str.ofString "\n")=rs.map tx:=by
 have e10:Str.ofString "\n"=⟨#[10]⟩:=by decide +kernel
 rw[e10];generalize hz:Txt.split (tx (ff rs)) ⟨#[10]⟩=zs;have ez:zs=(zs.map λz=>z.cps.toList).map tx:=by
  rw[bc]
  conv=>lhs;rw[<-nT zs]
  exact cA λz _=>by obtain⟨c⟩:=z;simp[tx]
 have hj:=StrLaws.join_split (tx (ff rs)) ⟨#[10]⟩;rw[hz,ez,vj] at hj;have hf:=StrLaws.split_free (tx (ff rs)) 10;rw[hz] at hf;have hzne:zs≠[]:=λe=>by
  have:=PyProof.Rows.split_len (tx (ff rs)) 10;rw[hz,e] at this;have nn:=EI 10 (tx (ff rs)).cps.toList;have:((([]:List Str).length:Nat):Int)=0:=rfl;omega
 rw[ez];congr 1;refine uO (by simpa using hzne) hne (λr hr=>?_) fr (Bt hj);obtain⟨z,hz',rfl⟩:=aT.mp hr;exact hf z hz'
theorem C9{n:Nat}{L R:List Bw}(i:Nat):10∉jB n L R i:=λh=>by
 unfold jB at h;obtain⟨x,_,e⟩:=aT.mp h;unfold signG at e
 split at e
 ·split at e
  ·omega
  ·split at e<;>omega
 ·omega
def qT(n:Nat)(L R:List Bw):List (List Nat):=(List.range (2*n+5)).map (jB n L R)
theorem C8(n:Nat)(L R:List Bw):qT n L R≠[]:=λe=>by
 have:=congrArg List.length e;simp[qT] at this
theorem xl{n:Nat}{L R:List Bw}:∀r∈qT n L R,10∉r:=λr hr=>by
 obtain⟨i,_,rfl⟩:=aT.mp hr;exact C9 i
theorem uN:∀(rs:List (List Nat)),(∀r∈rs,r.length<=100)->(ff rs).length<=rs.length*101
 | [],_=>by simp[ff]
 | [r],h=>by have:=h r (by simp);simp[ff];omega
 | r::s::rs,h=>by
  have h1:=h r (by simp);have h2:=uN (s::rs) λx hx=>h x (aM _ hx);show (r++10::ff (s::rs)).length<=_;simp only[af,cG] at h2 ⊢;omega
section
variable {n:Nat} {S0 S1:List Bw}
theorem C1{i x:Nat}:signG n S0 S1 i x=118<->df n S0 S1 i x=true/\i=1:=by
 unfold signG;cases df n S0 S1 i x with
 | false=>simp
 | true=>
  simp only[if_true,true_and];by_cases h1:i=1
  ·simp[h1]
  ·rw[if_neg h1];by_cases h2:i=2*n+3
   ·simp[h1,h2]
   ·simp[h1,h2]
theorem IA{i x:Nat}:signG n S0 S1 i x=64<->df n S0 S1 i x=true/\i=2*n+3:=by
 unfold signG;cases df n S0 S1 i x with
 | false=>simp
 | true=>
  simp only[if_true,true_and];by_cases h1:i=1
  ·rw[if_pos h1];constructor
   ·intro z;cases z
   ·intro z;omega
  ·rw[if_neg h1];by_cases h2:i=2*n+3
   ·simp[h2]
   ·simp[h2]
theorem xf{i x:Nat}:signG n S0 S1 i x=35<->df n S0 S1 i x=false:=by
 unfold signG;cases df n S0 S1 i x with
 | false=>simp
 | true=>
  simp only[if_true];by_cases h1:i=1
  ·simp[h1]
  ·rw[if_neg h1];by_cases h2:i=2*n+3<;>simp[h2]
theorem Ec(i x:Nat):signG n S0 S1 i x=118\/signG n S0 S1 i x=64\/signG n S0 S1 i x=46\/signG n S0 S1 i x=35:=by
 unfold signG
 split
 ·split
  ·exact .inl rfl
  ·split
   ·exact .inr (.inl rfl)
   ·exact .inr (.inr (.inl rfl))
 ·exact .inr (.inr (.inr rfl))
theorem zd(i:Nat):(jB n S0 S1 i).length=dC S0 S1:=by unfold jB;rw[aA,dR]
theorem Ek{i x:Nat}(h:x<dC S0 S1):(jB n S0 S1 i)[x]? = some (signG n S0 S1 i x):=by
 unfold jB;rw[aS,fi h];rfl
theorem tO.edge(X:tO n S0 S1)(bd:∀p,p∈S0\/p∈S1->0<=p.1/\p.2<=(n:Int)+1){i x:Nat}(h:i=0\/2*n+4<=i\/x=0\/dC S0 S1<=x+1):df n S0 S1 i x=false:=by
 cases e:df n S0 S1 i x with
 | false=>rfl
 | true=>
  exfalso;unfold df lH xH at e;rw[cu,cu,cw,cw] at e;simp only[aX,decide_eq_true_eq,sR] at e;rcases e with ⟨p,hp,⟨h1,h2⟩,rfl⟩ | ⟨p,hp,⟨h1,h2⟩,rfl⟩ | ⟨⟨h1,h2,h3⟩,h4,h5⟩
  ·have:=bd p (.inl hp);have:=X.cL hp;have:dC S0 S1=2*(ic S0+ic S1)+1:=rfl;omega
  ·have:=bd p (.inr hp);have:=X.cR hp;have:dC S0 S1=2*(ic S0+ic S1)+1:=rfl;omega
  ·have R:=X.run (r:=(i - 1) / 2) (by omega) (by omega);have:=R.oa;have:=R.oz;have:=R.w;have:dC S0 S1=2*(ic S0+ic S1)+1:=rfl;omega
end
abbrev sE (n:Nat) (S0 S1:List Bw):List V:=(((List.range (2*n+5)).map (jB n S0 S1)).map tx).map V.str
def rN(ns:List Int)(k:Nat):Nat:=(bQ ns k).toNat
def lN(ns:List Int)(k:Nat):Nat:=2*rN ns k+1
def cN(b:Bool)(ns:List Int)(k:Nat):Nat:=if b ^^ odd k then nO (bE b ns false) (bE b ns true) (cH ns k) else oF (bE b ns false) (cH ns k)
def vN(ns:List Int)(k i:Nat):Prop:=min (lN ns k) (lN ns (k+1))<=i/\i<=max (lN ns k) (lN ns (k+1))
section
variable {b:Bool} {ns:List Int}
theorem pf(O:fE ns){k:Nat}(h:k<=ns.length+1):((rN ns k:Nat):Int)=bQ ns k:=by
 have:=O.row_in (i:=k) (by omega);unfold rN;omega
theorem ku(O:fE ns){j k:Nat}(hj:j<=ns.length+1)(hk:k<=ns.length+1)(e:rN ns j=rN ns k):j=k:=by
 refine O.row_inj (by omega) (by omega) ?_;rw[<-pf O hj,<-pf O hk,e]
theorem Kj(O:fE ns){k:Nat}(h:k<=ns.length+1):rN ns k<=ns.length+1:=by
 have h1:=O.row_in (i:=k) (by omega);have h2:=pf O h;omega
theorem Ce(O:fE ns){k:Nat}(h1:1<=k)(h2:k<=ns.length):1<=rN ns k/\rN ns k<=ns.length:=by
 have a:=Kj O (k:=k) (by omega);have e0:rN ns 0=0:=rfl;have eL:rN ns (ns.length+1)=ns.length+1:=by unfold rN;rw[iT];omega
 have b0:rN ns k≠0:=λz=>by have:=ku O (j:=k) (k:=0) (by omega) (by omega) (z.trans e0.symm);omega
 have b1:rN ns k≠ns.length+1:=λz=>by have:=ku O (j:=k) (k:=ns.length+1) (by omega) (by omega) (z.trans eL.symm);omega
 omega
theorem Kl(O:fE ns){r:Nat}(h1:1<=r)(h2:r<=ns.length):∃k,1<=k/\k<=ns.length/\rN ns k=r:=by
 obtain⟨i,hi⟩:=cj (O.mem.mpr ⟨(by omega:(1:Int)<=r),by omega⟩);have il:=(aF.mp hi).1;refine⟨i+1,by omega,by omega,?_⟩;unfold rN;rw[lL hi];omega
theorem j6(k:Nat)(h:k<=ns.length):cH ns k∈bE b ns (b ^^ odd k):=kI (b:=b) (by omega) (nH b k)
theorem zT(O:fE ns){u:Bool}{p:Bw}(hp:p∈bE b ns u):∃k,k<=ns.length/\(b ^^ odd k)=u/\p=cH ns k:=by
 obtain⟨k,hk,ho,rfl⟩:=eX hp;refine⟨k,by omega,?_,rfl⟩;unfold cQ at ho;simpa using ho
theorem jJ(O:fE ns){k:Nat}(h:k<=ns.length):(cH ns k).1=((min (rN ns k) (rN ns (k+1)):Nat):Int)/\(cH ns k).2=((max (rN ns k) (rN ns (k+1)):Nat):Int):=by
 have h1:=pf O (k:=k) (by omega);have h2:=pf O (k:=k+1) (by omega);unfold cH;constructor
 ·show min _ _=_;omega
 ·show max _ _=_;omega
theorem vE(O:fE ns){k i:Nat}(h:k<=ns.length):sR (cH ns k) i=true<->vN ns k i:=by
 obtain⟨h1,h2⟩:=jJ O h;unfold sR vN lN;simp only[aX,decide_eq_true_eq];rw[h1,h2];omega
theorem Eb(O:fE ns){j k:Nat}(hj:j<=ns.length)(hk:k<=ns.length)(hs:(b ^^ odd j)=(b ^^ odd k))(e:cH ns j=cH ns k):j=k:=by
 obtain⟨a1,a2⟩:=jJ O hj;obtain⟨c1,c2⟩:=jJ O hk;rw[e,c1] at a1;rw[e,c2] at a2;have e1:min (rN ns j) (rN ns (j+1))=min (rN ns k) (rN ns (k+1)):=by omega
 have e2:max (rN ns j) (rN ns (j+1))=max (rN ns k) (rN ns (k+1)):=by omega
 have i1:=ku O (j:=j) (k:=k) (by omega) (by omega);have i2:=ku O (j:=j) (k:=k+1) (by omega) (by omega);have i3:=ku O (j:=j+1) (k:=k) (by omega) (by omega);have i4:=ku O (j:=j+1) (k:=k+1) (by omega) (by omega);have par:odd j=odd k:=by revert hs;cases b<;>cases odd j<;>cases odd k<;>decide
 have:rN ns j=rN ns k\/rN ns j=rN ns (k+1):=by omega
 rcases this with z | z
 ·exact i1 z
 ·have hjk:=i2 z;have z2:rN ns (j+1)=rN ns k:=by omega
  have:=i3 z2;omega
theorem GD(O:fE ns)(nc:NC b ns){j k i:Nat}(hj:j<=ns.length)(hk:k<=ns.length)(h1:vN ns j i)(h2:vN ns k i)(e:cN b ns j=cN b ns k):j=k:=by
 have X:=tO.of O nc;have mj:=j6 (b:=b) j hj;have mk:=j6 (b:=b) k hk;obtain⟨a1,a2⟩:=jJ O hj;obtain⟨c1,c2⟩:=jJ O hk;have hs:(b ^^ odd j)=(b ^^ odd k):=by
  unfold cN at e;cases hu:(b ^^ odd j)<;>cases hv:(b ^^ odd k)
  ·rfl
  ·rw[hu] at mj e;rw[hv] at mk e;have:=X.cL mj;have:=X.cR mk;simp only[bN,if_false,if_true] at e;omega
  ·rw[hu] at mj e;rw[hv] at mk e;have:=X.cR mj;have:=X.cL mk;simp only[bN,if_false,if_true] at e;omega
  ·rfl
 refine Eb O hj hk hs ?_;rcases Classical.em (cH ns j=cH ns k) with z | ne
 ·exact z
 ·exfalso;rw[hs] at mj;have B:xG (bE b ns (b ^^ odd k)):=iD O _;have ncs:∀p∈bE b ns (b ^^ odd k),∀q∈bE b ns (b ^^ odd k),eU p q=false:=nc (b ^^ odd k);have ht:hF (bE b ns (b ^^ odd k)) (cH ns j)≠hF (bE b ns (b ^^ odd k)) (cH ns k):=by
   unfold vN lN at h1 h2;obtain⟨r,hr⟩:∃r,i=2*r\/i=2*r+1:=⟨i / 2,by omega⟩
   rcases hr with hr | hr
   ·exact AF B ncs mj mk ne (r:=(r:Int) - 1) (by omega) (by omega) (by omega) (by omega)
   ·by_cases ej:(cH ns j).1=(r:Int)\/(cH ns j).2=(r:Int)
    ·by_cases ek:(cH ns k).1=(r:Int)\/(cH ns k).2=(r:Int)
     ·exact absurd (B.one _ mj _ mk r ej ek) ne
     ·have:=gh B.lt (B.lt _ mk) mj (nv B ncs mj mk ej (by omega) (by omega));omega
    ·by_cases ek:(cH ns k).1=(r:Int)\/(cH ns k).2=(r:Int)
     ·have:=gh B.lt (B.lt _ mj) mk (nv B ncs mk mj ek (by omega) (by omega));omega
     ·exact AF B ncs mj mk ne (r:=(r:Int)) (by omega) (by omega) (by omega) (by omega)
  have g1:=i9 mj;have g2:=i9 mk;have p1:=wf B mj;have p2:=wf B mk;unfold cN at e;rw[hs] at e;cases hv:(b ^^ odd k)
  ·rw[hv] at e ht g1 g2;simp only[bN,if_false] at e;unfold oF at e;omega
  ·rw[hv] at e ht p1 p2;simp only[if_true] at e;unfold nO at e;omega
theorem yp(O:fE ns)(nc:NC b ns){k:Nat}(h:k<=ns.length)(hs:(b ^^ odd k)=false):cN b ns k % 2=1/\cN b ns k+1<=2*ic (bE b ns false):=by
 have X:=tO.of O nc;have m:=j6 (b:=b) k h;rw[hs] at m;have:=X.cL m;unfold cN;rw[hs];exact this
theorem yo(O:fE ns)(nc:NC b ns){k:Nat}(h:k<=ns.length)(hs:(b ^^ odd k)=true):cN b ns k % 2=1/\2*ic (bE b ns false)+1<=cN b ns k/\cN b ns k+1<=2*(ic (bE b ns false)+ic (bE b ns true)):=by
 have X:=tO.of O nc;have m:=j6 (b:=b) k h;rw[hs] at m;have:=X.cR m;unfold cN;rw[hs];exact this
theorem yn(O:fE ns)(nc:NC b ns){k:Nat}(h:k<=ns.length):cN b ns k % 2=1:=by
 cases hs:(b ^^ odd k)
 ·exact(yp O nc h hs).1
 ·exact(yo O nc h hs).1
theorem tY(k:Nat):(b ^^ odd (k+1))=!(b ^^ odd k):=by
 have:odd (k+1)=!odd k:=by unfold odd;rcases fN k with h | h<;>simp[h,Nat.add_mod]
 rw[this];cases b<;>cases odd k<;>rfl
theorem va(O:fE ns){k:Nat}(h:k<=ns.length):((cH ns k).1=(rN ns k:Int)\/(cH ns k).2=(rN ns k:Int))/\((cH ns k).1=(rN ns (k+1):Int)\/(cH ns k).2=(rN ns (k+1):Int)):=by
 obtain⟨h1,h2⟩:=jJ O h;rw[h1,h2];omega
theorem rV(O:fE ns)(nc:NC b ns){k:Nat}(h:k+1<=ns.length):jU (bE b ns false) (rN ns (k+1))=min (cN b ns k) (cN b ns (k+1))/\nI (bE b ns false) (bE b ns true) (rN ns (k+1))=max (cN b ns k) (cN b ns (k+1)):=by
 have e1:=(va O (k:=k) (by omega)).2;have e2:=(va O (k:=k+1) (by omega)).1;have m1:=j6 (b:=b) (ns:=ns) k (by omega);have m2:=j6 (b:=b) (ns:=ns) (k+1) (by omega);have sn:=tY (b:=b) k;cases hs:(b ^^ odd k)
 ·have hs2:(b ^^ odd (k+1))=true:=by rw[sn,hs];rfl
  have a1:=yp O nc (k:=k) (by omega) hs;have a2:=yo O nc (k:=k+1) (by omega) hs2;rw[hs] at m1;rw[hs2] at m2;have k1:jU (bE b ns false) (rN ns (k+1))=cN b ns k:=by unfold jU cN;rw[fB (iD O false) m1 e1,hs];rfl
  have k2:nI (bE b ns false) (bE b ns true) (rN ns (k+1))=cN b ns (k+1):=by unfold nI cN;rw[fB (iD O true) m2 e2,hs2];rfl
  omega
 ·have hs2:(b ^^ odd (k+1))=false:=by rw[sn,hs];rfl
  have a1:=yo O nc (k:=k) (by omega) hs;have a2:=yp O nc (k:=k+1) (by omega) hs2;rw[hs] at m1;rw[hs2] at m2;have k1:jU (bE b ns false) (rN ns (k+1))=cN b ns (k+1):=by unfold jU cN;rw[fB (iD O false) m2 e2,hs2];rfl
  have k2:nI (bE b ns false) (bE b ns true) (rN ns (k+1))=cN b ns k:=by unfold nI cN;rw[fB (iD O true) m1 e1,hs];rfl
  omega
def vA(b:Bool)(ns:List Int)(i x:Nat):Bool:=df ns.length (bE b ns false) (bE b ns true) i x
def EL(b:Bool)(ns:List Int)(k i x:Nat):Prop:=i=lN ns (k+1)/\min (cN b ns k) (cN b ns (k+1))<=x/\x<=max (cN b ns k) (cN b ns (k+1))
theorem re(O:fE ns)(nc:NC b ns){i x:Nat}:vA b ns i x=true<->(∃k,k<=ns.length/\vN ns k i/\x=cN b ns k)\/∃k,k+1<=ns.length/\EL b ns k i x:=by
 unfold vA df lH xH;rw[cu,cu,cw,cw];constructor
 ·rintro (⟨p,hp,h⟩ | ⟨p,hp,h⟩ | h)
  ·obtain⟨k,hk,hs,rfl⟩:=zT O hp;rw[aX,decide_eq_true_eq] at h;exact .inl ⟨k,hk,(vE O hk).mp h.1,by rw[h.2];unfold cN;rw[hs];rfl⟩
  ·obtain⟨k,hk,hs,rfl⟩:=zT O hp;rw[aX,decide_eq_true_eq] at h;exact .inl ⟨k,hk,(vE O hk).mp h.1,by rw[h.2];unfold cN;rw[hs];rfl⟩
  ·simp only[aX,decide_eq_true_eq] at h;obtain⟨⟨h1,h2,h3⟩,h4,h5⟩:=h;obtain⟨k,k1,k2,e⟩:=Kl O (r:=(i - 1) / 2) (by omega) (by omega);obtain⟨k',rfl⟩:∃k',k=k'+1:=⟨k - 1,by omega⟩
   obtain⟨r1,r2⟩:=rV O nc (k:=k') (by omega);rw[e] at r1 r2;exact .inr ⟨k',by omega,by unfold lN;omega,by rw[<-r1];exact h4,by rw[<-r2];exact h5⟩
 ·rintro (⟨k,hk,hc,rfl⟩ | ⟨k,hk,e,h4,h5⟩)
  ·have m:=j6 (b:=b) k hk;have hi:=(vE O hk).mpr hc;cases hs:(b ^^ odd k)
   ·rw[hs] at m;exact .inl ⟨_,m,by rw[hi,fH,decide_eq_true_eq];unfold cN;rw[hs];rfl⟩
   ·rw[hs] at m;exact .inr (.inl ⟨_,m,by rw[hi,fH,decide_eq_true_eq];unfold cN;rw[hs];rfl⟩)
  ·obtain⟨r1,r2⟩:=rV O nc hk;have rm:=Ce O (k:=k+1) (by omega) hk;refine .inr (.inr ?_);simp only[aX,decide_eq_true_eq];unfold lN at e;have er:(i - 1) / 2=rN ns (k+1):=by omega
   rw[er,r1,r2];exact⟨⟨by omega,by omega,by omega⟩,h4,h5⟩
theorem DP(O:fE ns)(nc:NC b ns){j k:Nat}(hj:j<=ns.length)(hk:k+1<=ns.length)(hc:vN ns j (lN ns (k+1)))(n1:j≠k)(n2:j≠k+1):cN b ns j<min (cN b ns k) (cN b ns (k+1))\/max (cN b ns k) (cN b ns (k+1))<cN b ns j:=by
 have X:=tO.of O nc;obtain⟨r1,r2⟩:=rV O nc hk;obtain⟨a1,a2⟩:=jJ O hj;have i1:=ku O (j:=j) (k:=k+1) (by omega) (by omega);have i2:=ku O (j:=j+1) (k:=k+1) (by omega) (by omega);have m:=j6 (b:=b) j hj;unfold vN lN at hc;have s1:(cH ns j).1<(rN ns (k+1):Int):=by rw[a1];omega
 have s2:(rN ns (k+1):Int)<(cH ns j).2:=by rw[a2];omega
 have rm:=Ce O (k:=k+1) (by omega) hk;rw[<-r1,<-r2];cases hs:(b ^^ odd j)
 ·left;rw[hs] at m;obtain⟨p0,hp0,e0⟩:=X.h0 _ rm.1 rm.2;have h3:=gh X.b0.lt (X.b0.lt _ m) hp0 (nv X.b0 X.c0 hp0 m e0 s1 s2);have:=i9 m;unfold jU cN;rw[fB X.b0 hp0 e0,hs];show oF _ _<oF _ _;unfold oF;omega
 ·right;rw[hs] at m;obtain⟨p1,hp1,e1⟩:=X.h1 _ rm.1 rm.2;have h3:=gh X.b1.lt (X.b1.lt _ m) hp1 (nv X.b1 X.c1 hp1 m e1 s1 s2);have:=wf X.b1 hp1;unfold nI cN;rw[fB X.b1 hp1 e1,hs];show nO _ _ _<nO _ _ _;unfold nO;omega
end
abbrev lj:=Nat×Nat
def HC(c d:lj):Prop:=(c.1=d.1/\(c.2=d.2+1\/d.2=c.2+1))\/(c.2=d.2/\(c.1=d.1+1\/d.1=c.1+1))
section
variable {b:Bool} {ns:List Int}
theorem ww{k e:Nat}(h:vN ns k e)(he:e % 2=0):vN ns k (e - 1)/\vN ns k (e+1):=by
 unfold vN lN at *;omega
theorem xE(O:fE ns)(nc:NC b ns){k i e:Nat}(hk:k+1<=ns.length)(h:EL b ns k i e)(he:e % 2=0):EL b ns k i (e - 1)/\EL b ns k i (e+1):=by
 have o1:=yn O nc (k:=k) (by omega);have o2:=yn O nc (k:=k+1) hk;unfold EL at *;omega
theorem GI(O:fE ns)(nc:NC b ns){c d:lj}(hc:vA b ns c.1 c.2=true)(hd:vA b ns d.1 d.2=true)(h:HC c d):(∃k,k<=ns.length/\c.2=cN b ns k/\d.2=cN b ns k/\vN ns k c.1/\vN ns k d.1)\/∃k,k+1<=ns.length/\EL b ns k c.1 c.2/\EL b ns k d.1 d.2:=by
 have ev:∀{i x:Nat},vA b ns i x=true->i % 2=0->∃k,k<=ns.length/\vN ns k i/\x=cN b ns k:=fun {i x} ho he=>by
  rcases(re O nc).mp ho with z | ⟨k,_,e,_⟩
  ·exact z
  ·unfold lN at e;omega
 have ec:∀{i x:Nat},vA b ns i x=true->x % 2=0->∃k,k+1<=ns.length/\EL b ns k i x:=fun {i x} ho he=>by
  rcases(re O nc).mp ho with ⟨k,hk,_,e⟩ | z
  ·have:=yn O nc hk;omega
  ·exact z
 rcases h with ⟨e,h⟩ | ⟨e,h⟩
 ·right;by_cases z:c.2 % 2=0
  ·obtain⟨k,hk,ha⟩:=ec hc z;obtain⟨w1,w2⟩:=xE O nc hk ha z;refine⟨k,hk,ha,?_⟩;rw[<-e];rcases h with h | h
   ·rw[show d.2=c.2 - 1 by omega];exact w1
   ·rw[h];exact w2
  ·obtain⟨k,hk,ha⟩:=ec hd (by omega);obtain⟨w1,w2⟩:=xE O nc hk ha (by omega);refine⟨k,hk,?_,ha⟩;rw[e];rcases h with h | h
   ·rw[h];exact w2
   ·rw[show c.2=d.2 - 1 by omega];exact w1
 ·left;by_cases z:c.1 % 2=0
  ·obtain⟨k,hk,ha,ek⟩:=ev hc z;obtain⟨w1,w2⟩:=ww ha z;refine⟨k,hk,ek,e▸ek,ha,?_⟩;rcases h with h | h
   ·rw[show d.1=c.1 - 1 by omega];exact w1
   ·rw[h];exact w2
  ·obtain⟨k,hk,ha,ek⟩:=ev hd (by omega);obtain⟨w1,w2⟩:=ww ha (by omega);refine⟨k,hk,e.trans ek,ek,?_,ha⟩;rcases h with h | h
   ·rw[h];exact w2
   ·rw[show c.1=d.1 - 1 by omega];exact w1
end
def sg(a z:Nat):List Nat:=if a<=z then List.range' a (z-a+1) else (List.range' z (a-z+1)).reverse
theorem fx{a z i:Nat}:i∈sg a z<->min a z<=i/\i<=max a z:=by
 unfold sg
 split
 ·rw[jn];constructor
  ·rintro⟨j,hj,rfl⟩;omega
  ·rintro⟨h1,h2⟩;exact⟨i-a,by omega,by omega⟩
 ·rw[List.mem_reverse,jn];constructor
  ·rintro⟨j,hj,rfl⟩;omega
  ·rintro⟨h1,h2⟩;exact⟨i-z,by omega,by omega⟩
theorem rP(a z:Nat):(sg a z).Nodup:=by
 unfold sg
 split
 ·exact km 1
 ·exact(ii _).nodup_iff.mpr (km 1)
theorem uo(a:Nat):sg a a=[a]:=by unfold sg;rw[if_pos (aH _),mM];rfl
theorem vk{a z:Nat}(h:a<z):sg a z=a::sg (a+1) z:=by
 unfold sg;rw[if_pos (by omega),if_pos (by omega),List.range'_succ,show z-a=z-(a+1)+1 by omega]
theorem vo{a z:Nat}(h:z<a):sg a z=a::sg (a - 1) z:=by
 have e:List.range' z (a-z+1)=List.range' z (a-z)++[a]:=by
  rw[List.range'_concat];congr 2;omega
 unfold sg;rw[if_neg (by omega),e,jw];show a::(List.range' z (a-z)).reverse=_;congr 1;by_cases q:a - 1<=z
 ·rw[if_pos q,show a-z=1 by omega,show a - 1=z by omega,mM];rfl
 ·rw[if_neg q,show a - 1-z+1=a-z by omega]
def Cs{α:Type}(l:List α)(x y:α):Prop:=∃A B,l=A++x::y::B
theorem Cs.cons{α:Type}{l:List α}{x y z:α}(h:Cs l x y):Cs (z::l) x y:=by
 obtain⟨A,B,rfl⟩:=h;exact⟨z::A,B,rfl⟩
theorem Cs.left{α:Type}{l m:List α}{x y:α}(h:Cs l x y):Cs (l++m) x y:=by
 obtain⟨A,B,rfl⟩:=h;exact⟨A,B++m,by simp⟩
theorem Cs.right{α:Type}{l m:List α}{x y:α}(h:Cs m x y):Cs (l++m) x y:=by
 obtain⟨A,B,rfl⟩:=h;exact⟨l++A,B,by simp⟩
theorem Cs.map{α β:Type}(f:α->β){l:List α}{x y:α}(h:Cs l x y):Cs (l.map f) (f x) (f y):=by
 obtain⟨A,B,rfl⟩:=h;exact⟨A.map f,B.map f,by simp⟩
theorem lm(a z:Nat):∃l,sg a z=a::l:=by
 rcases Nat.lt_trichotomy a z with h | h | h
 ·exact⟨_,vk h⟩
 ·subst h;exact⟨_,uo a⟩
 ·exact⟨_,vo h⟩
theorem zc:∀(m a z i:Nat),z-a+(a-z)=m->i∈sg a z->i+1∈sg a z->Cs (sg a z) i (i+1)\/Cs (sg a z) (i+1) i:=by
 intro m
 induction m with
 | zero=>
  intro a z i hm h1 h2;have:=fx.mp h1;have:=fx.mp h2;omega
 | succ m ih=>
  intro a z i hm h1 h2;have g1:=fx.mp h1;have g2:=fx.mp h2;rcases gG a z with h | h
  ·rw[vk h];by_cases e:i=a
   ·subst e;obtain⟨l,hl⟩:=lm (i+1) z;rw[hl];exact .inl ⟨[],l,rfl⟩
   ·exact(ih (a+1) z i (by omega) (fx.mpr (by omega)) (fx.mpr (by omega))).imp Cs.cons Cs.cons
  ·have h:z<a:=by omega
   rw[vo h];by_cases e:i+1=a
   ·subst e;obtain⟨l,hl⟩:=lm i z;rw[show i+1 - 1=i by omega,hl];exact .inr ⟨[],l,rfl⟩
   ·exact(ih (a - 1) z i (by omega) (fx.mpr (by omega)) (fx.mpr (by omega))).imp Cs.cons Cs.cons
theorem zb:∀(m a z:Nat),z-a+(a-z)=m->∃l,sg a z=l++[z]:=by
 intro m
 induction m with
 | zero=>
  intro a z hm;have:a=z:=by omega
  subst this;exact⟨[],uo a⟩
 | succ m ih=>
  intro a z hm;rcases gG a z with h | h
  ·obtain⟨l,hl⟩:=ih (a+1) z (by omega);exact⟨a::l,by rw[vk h,hl];rfl⟩
  ·obtain⟨l,hl⟩:=ih (a - 1) z (by omega);exact⟨a::l,by rw[vo (by omega),hl];rfl⟩
theorem Ed{a z:Nat}(h:a≠z):∃l,sg a z=a::(l++[z])/\l=((sg a z).drop 1).dropLast:=by
 obtain⟨l,hl⟩:=lm a z;obtain⟨m,hm⟩:=zb _ a z rfl;rw[hl] at hm;cases m with
 | nil=>
  have:a=z:=by simpa using congrArg List.head? hm
  exact absurd this h
 | cons y m=>
  have e:l=m++[z]:=by simpa using congrArg List.tail hm
  refine⟨m,by rw[hl,e],?_⟩;rw[hl,e];simp
section
variable {b:Bool} {ns:List Int}
def vS(b:Bool)(ns:List Int)(k:Nat):List lj:=(sg (lN ns k) (lN ns (k+1))).map λi=>(i,cN b ns k)
def rS(b:Bool)(ns:List Int)(k:Nat):List lj:=(((sg (cN b ns k) (cN b ns (k+1))).drop 1).dropLast).map λx=>(lN ns (k+1),x)
def wS(b:Bool)(ns:List Int):Nat->List lj
 | 0=>vS b ns 0
 | k+1=>wS b ns k++(rS b ns k++vS b ns (k+1))
theorem oV{k:Nat}{c:lj}:c∈vS b ns k<->vN ns k c.1/\c.2=cN b ns k:=by
 unfold vS;rw[aT];constructor
 ·rintro⟨i,hi,rfl⟩;exact⟨fx.mp hi,rfl⟩
 ·rintro⟨h1,h2⟩;exact⟨c.1,fx.mpr h1,by rw[<-h2]⟩
theorem Gw(O:fE ns)(nc:NC b ns){k:Nat}(h:k+1<=ns.length):cN b ns k≠cN b ns (k+1):=λe=>by
 have:=tY (b:=b) k;cases hs:(b ^^ odd k)
 ·have h2:(b ^^ odd (k+1))=true:=by rw[this,hs];rfl
  have:=yp O nc (k:=k) (by omega) hs;have:=yo O nc (k:=k+1) h h2;omega
 ·have h2:(b ^^ odd (k+1))=false:=by rw[this,hs];rfl
  have:=yo O nc (k:=k) (by omega) hs;have:=yp O nc (k:=k+1) h h2;omega
theorem jS(O:fE ns)(nc:NC b ns){k:Nat}(h:k+1<=ns.length):(sg (cN b ns k) (cN b ns (k+1))).map (λx=>(lN ns (k+1),x))=(lN ns (k+1),cN b ns k)::(rS b ns k++[(lN ns (k+1),cN b ns (k+1))]):=by
 obtain⟨l,h1,h2⟩:=Ed (Gw O nc h);unfold rS;rw[<-h2,h1];simp
theorem sD(O:fE ns)(nc:NC b ns){k:Nat}(h:k+1<=ns.length){c:lj}:c∈rS b ns k<->EL b ns k c.1 c.2/\c.2≠cN b ns k/\c.2≠cN b ns (k+1):=by
 have nd:((sg (cN b ns k) (cN b ns (k+1))).map (λx=>(lN ns (k+1),x))).Nodup:=by
  unfold List.Nodup;rw[c9];exact(rP _ _).imp λhne e=>hne (congrArg Prod.snd e)
 have mm:c∈(sg (cN b ns k) (cN b ns (k+1))).map (λx=>(lN ns (k+1),x))<->EL b ns k c.1 c.2:=by
  rw[aT];unfold EL;constructor
  ·rintro⟨x,hx,rfl⟩;exact⟨rfl,fx.mp hx⟩
  ·rintro⟨h1,h2⟩;exact⟨c.2,fx.mpr h2,by rw[<-h1]⟩
 rw[<-mm];rw[jS O nc h] at nd ⊢;rw[ba] at nd;obtain⟨n1,n2⟩:=nd;rw[cJ] at n2;constructor
 ·intro hc;refine⟨by simp[hc],λe=>?_,λe=>?_⟩
  ·have:c=(lN ns (k+1),cN b ns k):=by
    have:=mm;rw[jS O nc h] at this;exact fL (this.mp (by simp[hc])).1 e
   exact n1 (by rw[<-this];simp[hc])
  ·have:c=(lN ns (k+1),cN b ns (k+1)):=by
    have:=mm;rw[jS O nc h] at this;exact fL (this.mp (by simp[hc])).1 e
   exact n2.2.2 c hc _ (by simp) this
 ·rintro⟨hc,e1,e2⟩;rcases aJ.mp hc with z | z
  ·exact absurd (congrArg Prod.snd z) e1
  ·rcases aU.mp z with z | z
   ·exact z
   ·exact absurd (congrArg Prod.snd (dG.mp z)) e2
theorem yT(O:fE ns)(nc:NC b ns){c:lj}:∀{m:Nat},m<=ns.length->(c∈wS b ns m<->(∃k,k<=m/\c∈vS b ns k)\/∃k,k<m/\c∈rS b ns k)
 | 0,_=>by
  constructor
  ·intro h;exact .inl ⟨0,aH _,h⟩
  ·rintro (⟨k,hk,h⟩ | ⟨k,hk,_⟩)
   ·rw[show k=0 by omega] at h;exact h
   ·omega
 | m+1,hm=>by
  show c∈wS b ns m++(rS b ns m++vS b ns (m+1))<->_;rw[aU,aU,yT O nc (by omega)];constructor
  ·rintro ((⟨k,hk,h⟩ | ⟨k,hk,h⟩) | h | h)
   ·exact .inl ⟨k,by omega,h⟩
   ·exact .inr ⟨k,by omega,h⟩
   ·exact .inr ⟨m,by omega,h⟩
   ·exact .inl ⟨m+1,aH _,h⟩
  ·rintro (⟨k,hk,h⟩ | ⟨k,hk,h⟩)
   ·by_cases e:k=m+1
    ·subst e;exact .inr (.inr h)
    ·exact .inl (.inl ⟨k,by omega,h⟩)
   ·by_cases e:k=m
    ·subst e;exact .inr (.inl h)
    ·exact .inl (.inr ⟨k,by omega,h⟩)
theorem rD(O:fE ns)(nc:NC b ns){j k:Nat}(hj:j<=ns.length)(hk:k+1<=ns.length){c:lj}(h1:c∈vS b ns j)(h2:c∈rS b ns k):False:=by
 obtain⟨v1,v2⟩:=oV.mp h1;obtain⟨⟨e,a1,a2⟩,n1,n2⟩:=(sD O nc hk).mp h2;rw[e] at v1;have:=DP O nc hj hk v1 (λz=>n1 (by rw[v2,z])) (λz=>n2 (by rw[v2,z]));omega
theorem rC(O:fE ns)(nc:NC b ns):∀{m:Nat},m<=ns.length->(wS b ns m).Nodup:=by
 have vn:∀k,(vS b ns k).Nodup:=λk=>by
  unfold vS List.Nodup;rw[c9];exact(rP _ _).imp λhne e=>hne (congrArg Prod.fst e)
 have rn:∀k,k+1<=ns.length->(rS b ns k).Nodup:=λk hk=>by
  have nd:((sg (cN b ns k) (cN b ns (k+1))).map (λx=>(lN ns (k+1),x))).Nodup:=by
   unfold List.Nodup;rw[c9];exact(rP _ _).imp λhne e=>hne (congrArg Prod.snd e)
  rw[jS O nc hk,ba] at nd;exact(cJ.mp nd.2).1
 intro m
 induction m with
 | zero=>intro _;exact vn 0
 | succ m ih=>
  intro hm;show (wS b ns m++(rS b ns m++vS b ns (m+1))).Nodup;rw[cJ];refine⟨ih (by omega),?_,λc hc d hd e=>?_⟩
  ·rw[cJ];exact⟨rn m hm,vn _,λc hc d hd e=>rD O nc (by omega) hm (e▸hd) hc⟩
  ·subst e;rcases(yT O nc (by omega)).mp hc with ⟨k,hk,h⟩ | ⟨k,hk,h⟩
   ·rcases aU.mp hd with z | z
    ·exact rD O nc (by omega) hm h z
    ·obtain⟨a1,a2⟩:=oV.mp h;obtain⟨b1,b2⟩:=oV.mp z;have:=GD O nc (by omega) (by omega) a1 b1 (a2.symm.trans b2);omega
   ·rcases aU.mp hd with z | z
    ·have e1:=((sD O nc (by omega)).mp h).1.1;have e2:=((sD O nc hm).mp z).1.1;have:=ku O (j:=k+1) (k:=m+1) (by omega) (by omega) (by unfold lN at e1 e2;omega);omega
    ·exact rD O nc (by omega) (by omega) z h
theorem iG(O:fE ns)(nc:NC b ns){c:lj}:c∈wS b ns ns.length<->vA b ns c.1 c.2=true:=by
 rw[yT O nc (aH _),re O nc];constructor
 ·rintro (⟨k,hk,h⟩ | ⟨k,hk,h⟩)
  ·obtain⟨h1,h2⟩:=oV.mp h;exact .inl ⟨k,hk,h1,h2⟩
  ·exact .inr ⟨k,by omega,((sD O nc (by omega)).mp h).1⟩
 ·rintro (⟨k,hk,h1,h2⟩ | ⟨k,hk,h⟩)
  ·exact .inl ⟨k,hk,oV.mpr ⟨h1,h2⟩⟩
  ·by_cases e1:c.2=cN b ns k
   ·exact .inl ⟨k,by omega,oV.mpr ⟨by rw[h.1];unfold vN;omega,e1⟩⟩
   ·by_cases e2:c.2=cN b ns (k+1)
    ·exact .inl ⟨k+1,hk,oV.mpr ⟨by rw[h.1];unfold vN;omega,e2⟩⟩
    ·exact .inr ⟨k,by omega,(sD O nc hk).mpr ⟨h,e1,e2⟩⟩
end
theorem Cs.app{α:Type}{x y:α}:∀{l m:List α},Cs (l++m) x y->Cs l x y\/Cs m x y\/(∃l',l=l'++[x])/\∃m',m=y::m'
 | [],m,h=>.inr (.inl h)
 | a::l,m,⟨A,B,e⟩=>by
  cases A with
  | nil=>
   have e0:a=x:=(cF e).1;have e1:l++m=y::B:=(cF e).2;subst e0;cases l with
   | nil=>exact .inr (.inr ⟨⟨[],rfl⟩,B,e1⟩)
   | cons c l=>
    have e2:c=y:=(cF e1).1;subst e2;exact .inl ⟨[],l,rfl⟩
  | cons a' A=>
   have e0:a=a':=(cF e).1;have e1:l++m=A++x::y::B:=(cF e).2;rcases Cs.app (l:=l) (m:=m) ⟨A,B,e1⟩ with h | h | ⟨⟨l',hl'⟩,h⟩
   ·exact .inl h.cons
   ·exact .inr (.inl h)
   ·exact .inr (.inr ⟨⟨a::l',by rw[hl'];rfl⟩,h⟩)
theorem Cs.sg{a z i j:Nat}:∀(m:Nat),z-a+(a-z)=m->Cs (sg a z) i j->j=i+1\/i=j+1:=by
 intro m
 induction m generalizing a z with
 | zero=>
  intro hm h;have:a=z:=by omega
  subst this;rw[uo] at h;obtain⟨A,B,e⟩:=h;have:=congrArg List.length e;simp at this;omega
 | succ m ih=>
  intro hm h;have step:∀a',(a'=a+1\/a'=a - 1/\0<a)->z-a'+(a' - z)=m->Cs (a::Rm.sg a' z) i j->j=i+1\/i=j+1:=λa' ha hm' hc=>by
   obtain⟨A,B,e⟩:=hc;cases A with
   | nil=>
    have e0:a=i:=(cF e).1;have e1:Rm.sg a' z=j::B:=(cF e).2;obtain⟨l,hl⟩:=lm a' z;rw[hl] at e1;have e2:a'=j:=(cF e1).1;omega
   | cons a'' A=>
    have e1:Rm.sg a' z=A++i::j::B:=(cF e).2;exact ih hm' ⟨A,B,e1⟩
  rcases gG a z with g | g
  ·rw[vk g] at h;exact step (a+1) (.inl rfl) (by omega) h
  ·rw[vo (by omega)] at h;exact step (a - 1) (.inr ⟨rfl,by omega⟩) (by omega) h
theorem Cs.unmap{α β:Type}{f:α->β}{l:List α}{x y:β}(h:Cs (l.map f) x y):∃a c,x=f a/\y=f c/\Cs l a c:=by
 obtain⟨A,B,e⟩:=h;obtain⟨A',l',rfl,e1,e2⟩:=List.map_eq_append_iff.mp e;cases l' with
 | nil=>cases e2
 | cons a l'=>
  cases l' with
  | nil=>simp at e2
  | cons c l'=>
   simp only[ao,jr] at e2;exact⟨a,c,e2.1.symm,e2.2.1.symm,A',l',rfl⟩
section
variable {b:Bool} {ns:List Int}
theorem qk(k:Nat):∃l,vS b ns k=(lN ns k,cN b ns k)::l:=by
 obtain⟨l,hl⟩:=lm (lN ns k) (lN ns (k+1));exact⟨_,by unfold vS;rw[hl];rfl⟩
theorem zO(k:Nat):∃l,vS b ns k=l++[(lN ns (k+1),cN b ns k)]:=by
 obtain⟨l,hl⟩:=zb _ (lN ns k) (lN ns (k+1)) rfl;exact⟨l.map λi=>(i,cN b ns k),by unfold vS;rw[hl,aW];rfl⟩
theorem qj:∀k,∃l,wS b ns k=l++[(lN ns (k+1),cN b ns k)]
 | 0=>zO 0
 | k+1=>by
  obtain⟨l,hl⟩:=zO (b:=b) (ns:=ns) (k+1);exact⟨wS b ns k++(rS b ns k++l),by show wS b ns k++(rS b ns k++vS b ns (k+1))=_;rw[hl];simp⟩
theorem K2:∀{k m:Nat},k<=m->∃A B,wS b ns m=A++(vS b ns k++B)
 | k,0,h=>by rw[show k=0 by omega];exact⟨[],[],by simp[wS]⟩
 | k,m+1,h=>by
  by_cases e:k=m+1
  ·subst e;exact⟨wS b ns m++rS b ns m,[],by simp[wS]⟩
  ·obtain⟨A,B,hAB⟩:=K2 (k:=k) (m:=m) (by omega);exact⟨A,B++(rS b ns m++vS b ns (m+1)),by show wS b ns m++_=_;rw[hAB];simp⟩
theorem K3(O:fE ns)(nc:NC b ns):∀{k m:Nat},k+1<=m->m<=ns.length->∃A B,wS b ns m=A++((sg (cN b ns k) (cN b ns (k+1))).map (λx=>(lN ns (k+1),x))++B)
 | k,0,h,_=>by omega
 | k,m+1,h,hm=>by
  by_cases e:k=m
  ·subst e;obtain⟨A,hA⟩:=qj (b:=b) (ns:=ns) k;obtain⟨V,hV⟩:=qk (b:=b) (ns:=ns) (k+1);refine⟨A,V,?_⟩;rw[jS O nc (by omega)];show wS b ns k++(rS b ns k++vS b ns (k+1))=_;rw[hA,hV];simp
  ·obtain⟨A,B,hAB⟩:=K3 O nc (k:=k) (m:=m) (by omega) (by omega);exact⟨A,B++(rS b ns m++vS b ns (m+1)),by show wS b ns m++_=_;rw[hAB];simp⟩
theorem J9(O:fE ns)(nc:NC b ns){c d:lj}(hc:vA b ns c.1 c.2=true)(hd:vA b ns d.1 d.2=true)(h:HC c d):Cs (wS b ns ns.length) c d\/Cs (wS b ns ns.length) d c:=by
 rcases GI O nc hc hd h with ⟨k,hk,e1,e2,h1,h2⟩ | ⟨k,hk,h1,h2⟩
 ·obtain⟨A,B,hW⟩:=K2 (b:=b) (ns:=ns) hk;have up:∀{x y:lj},Cs (vS b ns k) x y->Cs (wS b ns ns.length) x y:=λh=>by rw[hW];exact h.left.right
  have hx:d.1=c.1+1\/c.1=d.1+1:=by
   rcases h with ⟨z,y⟩ | ⟨_,y⟩
   ·omega
   ·omega
  have ec:c=(c.1,cN b ns k):=fL rfl e1;have ed:d=(d.1,cN b ns k):=fL rfl e2;rcases hx with hx | hx
  ·have:=zc _ (lN ns k) (lN ns (k+1)) c.1 rfl (fx.mpr h1) (fx.mpr (by rw[<-hx];exact h2));rw[<-hx] at this;rw[ec,ed];exact this.imp (λz=>up (z.map λi=>(i,cN b ns k))) (λz=>up (z.map λi=>(i,cN b ns k)))
  ·have:=zc _ (lN ns k) (lN ns (k+1)) d.1 rfl (fx.mpr h2) (fx.mpr (by rw[<-hx];exact h1));rw[<-hx] at this;rw[ec,ed];exact this.symm.imp (λz=>up (z.map λi=>(i,cN b ns k))) (λz=>up (z.map λi=>(i,cN b ns k)))
 ·obtain⟨A,B,hW⟩:=K3 O nc hk (aH _);have up:∀{x y:lj},Cs ((sg (cN b ns k) (cN b ns (k+1))).map (λx=>(lN ns (k+1),x))) x y->Cs (wS b ns ns.length) x y:=λh=>by rw[hW];exact h.left.right
  have hx:d.2=c.2+1\/c.2=d.2+1:=by
   have:=h1.1;have:=h2.1;rcases h with ⟨z,y⟩ | ⟨_,y⟩
   ·omega
   ·omega
  have ec:c=(lN ns (k+1),c.2):=fL h1.1 rfl;have ed:d=(lN ns (k+1),d.2):=fL h2.1 rfl;rcases hx with hx | hx
  ·have:=zc _ (cN b ns k) (cN b ns (k+1)) c.2 rfl (fx.mpr h1.2) (fx.mpr (by rw[<-hx];exact h2.2));rw[<-hx] at this;rw[ec,ed];exact this.imp (λz=>up (z.map λx=>(lN ns (k+1),x))) (λz=>up (z.map λx=>(lN ns (k+1),x)))
  ·have:=zc _ (cN b ns k) (cN b ns (k+1)) d.2 rfl (fx.mpr h2.2) (fx.mpr (by rw[<-hx];exact h1.2));rw[<-hx] at this;rw[ec,ed];exact this.symm.imp (λz=>up (z.map λx=>(lN ns (k+1),x))) (λz=>up (z.map λx=>(lN ns (k+1),x)))
theorem Hd(O:fE ns)(nc:NC b ns){c d:lj}:∀{m:Nat},m<=ns.length->Cs (wS b ns m) c d->HC c d:=by
 have Lz:∀k,Cs (vS b ns k) c d->HC c d:=λk h=>by
  obtain⟨i,j,e1,e2,h'⟩:=Cs.unmap h;rw[e1,e2];rcases Cs.sg _ rfl h' with z | z
  ·exact .inr ⟨rfl,.inr z⟩
  ·exact .inr ⟨rfl,.inl z⟩
 have inR:∀k,Cs ((sg (cN b ns k) (cN b ns (k+1))).map (λx=>(lN ns (k+1),x))) c d->HC c d:=λk h=>by
  obtain⟨i,j,e1,e2,h'⟩:=Cs.unmap h;rw[e1,e2];rcases Cs.sg _ rfl h' with z | z
  ·exact .inl ⟨rfl,.inr z⟩
  ·exact .inl ⟨rfl,.inl z⟩
 intro m
 induction m with
 | zero=>intro _ h;exact Lz 0 h
 | succ m ih=>
  intro hm h;have R:=jS O nc (k:=m) hm;obtain⟨V,hV⟩:=qk (b:=b) (ns:=ns) (m+1);rcases Cs.app (l:=wS b ns m) h with h | h | ⟨⟨l',hl'⟩,m',hm'⟩
  ·exact ih (by omega) h
  ·rcases Cs.app h with h | h | ⟨⟨l',hl'⟩,m',hm'⟩
   ·refine inR m ?_;rw[R];exact h.left.cons
   ·exact Lz _ h
   ·refine inR m ?_;rw[R,hl'];rw[hV] at hm';obtain⟨e,_⟩:=cF hm';rw[e];exact⟨(lN ns (m+1),cN b ns m)::l',[],by simp[cK]⟩
  ·obtain⟨A,hA⟩:=qj (b:=b) (ns:=ns) m;have ec:c=(lN ns (m+1),cN b ns m):=by
    rw[hA] at hl';have:=congrArg List.getLast? hl';simpa using this.symm
   refine inR m ?_;rw[R,<-ec];rw[hV] at hm';cases hr:rS b ns m with
   | nil=>
    rw[hr] at hm';obtain⟨e,_⟩:=cF hm';rw[e];exact⟨[],[],rfl⟩
   | cons y r=>
    rw[hr] at hm';obtain⟨e,_⟩:=cF hm';rw[e];exact⟨[],r++[_],rfl⟩
theorem qF{α:Type}{x:α}:∀{A B A' B':List α},(A++x::B).Nodup->A++x::B=A'++x::B'->A=A'/\B=B'
 | [],B,[],B',_,e=>⟨rfl,(cF e).2⟩
 | [],B,a::A',B',h,e=>by
  have e1:B=A'++x::B':=(cF e).2;have:=(ba.mp h).1;exact absurd (by rw[e1];simp) this
 | a::A,B,[],B',h,e=>by
  have e0:a=x:=(cF e).1;have:a∉A++x::B:=(ba.mp h).1;exact absurd (by rw[e0];simp) this
 | a::A,B,a'::A',B',h,e=>by
  have e0:a=a':=(cF e).1;have e1:A++x::B=A'++x::B':=(cF e).2;obtain⟨h1,h2⟩:=qF (ba.mp h).2 e1;exact⟨by rw[e0,h1],h2⟩
theorem vQ(O:fE ns)(nc:NC b ns){A B:List lj}{x:lj}(hW:wS b ns ns.length=A++x::B){y:lj}:(HC x y/\vA b ns y.1 y.2=true/\y∉A/\y≠x)<->∃B',B=y::B':=by
 have nd:=rC O nc (b:=b) (aH _);have hx:x∈wS b ns ns.length:=by rw[hW];simp
 constructor
 ·rintro⟨h,ho,n1,n2⟩;rcases J9 O nc ((iG O nc).mp hx) ho h with ⟨A',B',e⟩ | ⟨A',B',e⟩
  ·rw[hW] at nd e;exact⟨B',(qF nd e).2⟩
  ·exfalso;rw[hW] at nd e;have e':A++x::B=(A'++[y])++x::B':=by rw[e];simp
   have:=(qF nd e').1;exact n1 (by rw[this];simp)
 ·rintro⟨B',rfl⟩;have ad:=Hd O nc (aH _) (c:=x) (d:=y) ⟨A,B',hW⟩;have hy:y∈wS b ns ns.length:=by rw[hW];simp
  rw[hW,cJ] at nd;obtain⟨_,n2,n3⟩:=nd;exact⟨ad,(iG O nc).mp hy,λz=>n3 y z y (by simp) rfl,λz=>(ba.mp n2).1 (by rw[<-z];simp)⟩
end
section
variable {b:Bool} {ns:List Int}
abbrev cn (b:Bool) (ns:List Int):List lj:=wS b ns ns.length
theorem JO:lN ns (ns.length+1)=2*ns.length+3:=by
 unfold lN rN;rw[iT];omega
theorem o8:∀k,∃l,wS b ns k=(1,cN b ns 0)::l
 | 0=>qk 0
 | k+1=>by
  obtain⟨l,hl⟩:=o8 k;exact⟨l++(rS b ns k++vS b ns (k+1)),by show wS b ns k++_=_;rw[hl];rfl⟩
theorem BZ:∃l,cn b ns=l++[(2*ns.length+3,cN b ns ns.length)]:=by
 obtain⟨l,hl⟩:=qj (b:=b) (ns:=ns) ns.length;exact⟨l,by rw[<-JO];exact hl⟩
theorem EJ(O:fE ns):∀p,p∈bE b ns false\/p∈bE b ns true->0<=p.1/\p.2<=(ns.length:Int)+1:=λp hp=>by
 have:∃u,p∈bJ b ns u (ns.length+1):=by
  rcases hp with h | h
  ·exact⟨false,h⟩
  ·exact⟨true,h⟩
 obtain⟨u,hp⟩:=this;obtain⟨j,hj,_,rfl⟩:=eX hp;exact O.step_in (by omega)
theorem mn(O:fE ns)(nc:NC b ns){c:lj}(h:c∈cn b ns):1<=c.1/\c.1<=2*ns.length+3/\1<=c.2/\c.2+2<=dC (bE b ns false) (bE b ns true):=by
 have ho:=(iG O nc).mp h;have e:=fun {i x:Nat} z=>(tO.of O nc).edge (EJ O) (i:=i) (x:=x) z;unfold vA at ho;refine⟨?_,?_,?_,?_⟩
 ·rcases Nat.eq_zero_or_pos c.1 with z | z
  ·rw[e (.inl z)] at ho;cases ho
  ·exact z
 ·rcases gG (2*ns.length+3) c.1 with z | z
  ·rw[e (.inr (.inl (by omega)))] at ho;cases ho
  ·exact z
 ·rcases Nat.eq_zero_or_pos c.2 with z | z
  ·rw[e (.inr (.inr (.inl z)))] at ho;cases ho
  ·exact z
 ·rcases gG (c.2+1) (dC (bE b ns false) (bE b ns true)) with z | z
  ·omega
  ·rw[e (.inr (.inr (.inr z)))] at ho;cases ho
theorem BY(O:fE ns):dC (bE b ns false) (bE b ns true)<=85:=by
 have:=uk (b:=b) O false;have:=uk (b:=b) O true;unfold dC;omega
theorem qi(O:fE ns)(nc:NC b ns):(cn b ns).length<=3825:=by
 have nd:=rC O nc (b:=b) (aH _);have l20:=O.len;have w85:=BY (b:=b) O;have nm:((cn b ns).map λc=>c.1*85+c.2).Nodup:=by
  unfold List.Nodup;rw[c9];refine fe (fun {c d} hc hd ne e=>ne ?_) nd;have h1:=mn O nc hc;have h2:=mn O nc hd;have:c.1=d.1:=by omega
  exact fL this (by omega)
 have:=eI nm (l₂:=List.range 3825) λx hx=>by
  obtain⟨c,hc,rfl⟩:=aT.mp hx;have h1:=mn O nc hc;rw[cX];omega
 rw[aA,dR] at this;exact this
theorem vP(O:fE ns)(nc:NC b ns){c:lj}(h:c∈cn b ns):(signG ns.length (bE b ns false) (bE b ns true) c.1 c.2=118<->c=(1,cN b ns 0))/\(signG ns.length (bE b ns false) (bE b ns true) c.1 c.2=64<->c=(2*ns.length+3,cN b ns ns.length))/\signG ns.length (bE b ns false) (bE b ns true) c.1 c.2≠35:=by
 have ho:=(iG O nc).mp h;obtain⟨L,hL⟩:=om b ns false;obtain⟨R,hR⟩:=om b ns true;obtain⟨x0,_,op0⟩:=rf O hL hR;obtain⟨x1,_,op1⟩:=uF O hL hR;simp only[uE O hL hR] at op0 op1;obtain⟨l,hl⟩:=o8 (b:=b) (ns:=ns) ns.length;obtain⟨m,hm⟩:=BZ (b:=b) (ns:=ns);have e0:=(iG O nc (c:=(1,cN b ns 0))).mp (by rw[hl];simp);have e1:=(iG O nc (c:=(2*ns.length+3,cN b ns ns.length))).mp (by rw[show wS b ns ns.length=_ from hm];simp);unfold vA at ho e0 e1;dsimp only at e0 e1;rw[op0,decide_eq_true_eq] at e0;rw[op1,decide_eq_true_eq] at e1;refine⟨?_,?_,λz=>?_⟩
 ·rw[C1];constructor
  ·rintro⟨_,h1⟩;rw[h1,op0,decide_eq_true_eq] at ho;exact fL h1 (by rw[ho,e0])
  ·rintro rfl;exact⟨ho,rfl⟩
 ·rw[IA];constructor
  ·rintro⟨_,h1⟩;rw[h1,op1,decide_eq_true_eq] at ho;exact fL h1 (by rw[ho,e1])
  ·rintro rfl;exact⟨ho,rfl⟩
 ·rw[xf.mp z] at ho;cases ho
end
section
variable {b:Bool} {ns:List Int}
theorem uJ(O:fE ns)(nc:NC b ns){i x:Nat}:signG ns.length (bE b ns false) (bE b ns true) i x=118<->i=1/\x=cN b ns 0:=by
 obtain⟨l,hl⟩:=o8 (b:=b) (ns:=ns) ns.length;constructor
 ·intro h;have hm:(i,x)∈cn b ns:=(iG O nc).mpr (C1.mp h).1;have:=((vP O nc hm).1).mp h;exact⟨congrArg Prod.fst this,congrArg Prod.snd this⟩
 ·rintro⟨rfl,rfl⟩;have hm:(1,cN b ns 0)∈cn b ns:=by rw[show cn b ns=_ from hl];simp
  exact((vP O nc hm).1).mpr rfl
def BP(c:lj):List lj:=[(c.1 - 1,c.2),(c.1+1,c.2),(c.1,c.2 - 1),(c.1,c.2+1)]
theorem D6{c d:lj}(h1:1<=c.1)(h2:1<=c.2):d∈BP c<->HC c d:=by
 obtain⟨i,x⟩:=c;obtain⟨j,y⟩:=d;unfold BP HC;simp only[aJ,bn,or_false,Prod.mk.injEq];dsimp only at h1 h2;omega
theorem D5{c:lj}(h1:1<=c.1)(h2:1<=c.2):(BP c).Nodup:=by
 obtain⟨i,x⟩:=c;unfold BP;dsimp only at h1 h2;simp only[ba,aJ,bn,or_false,Prod.mk.injEq,nR,and_true,not_false_eq_true];omega
theorem oY{α:Type} [DecidableEq α] {y:α} {P:α->Bool}:∀{l:List α},l.Nodup->y∈l->(∀d∈l,P d=true<->d=y)->l.filter P=[y]
 | a::l,nd,hy,h=>by
  obtain⟨n1,n2⟩:=ba.mp nd;by_cases e:a=y
  ·subst e;rw[iW ((h a (by simp)).mpr rfl)];congr 1;exact ip.mpr λd hd z=>n1 (by rw[<-(h d (by simp[hd])).mp z];exact hd)
  ·rw[iX λz=>e ((h a (by simp)).mp z)];refine oY n2 ?_ λd hd=>h d (by simp[hd]);rcases aJ.mp hy with z | z
   ·exact absurd z.symm e
   ·exact z
end
def gc(c:lj):Bw:=((c.1:Int),(c.2:Int))
def Kb:Sp:=λvs H Q _=>∃a c,vs=[.ref a]/\bZ H a (gc c)/\1<=c.1/\1<=c.2/\∀l H',H l=none->ak H H'->cY H' l ((BP c).map gc)->Q (.ref l) H'
structure GR (b:Bool) (ns:List Int) (kvs:List (List Key×V)) (cs:List lj):Prop where
 is:kvs=cs.map fun c=>(sK c.1 c.2,lJ (signG ns.length (bE b ns false) (bE b ns true) c.1 c.2))
 nd:cs.Nodup
 op:∀ c,c∈cs<->vA b ns c.1 c.2=true
theorem yl{g:lj->V}{c:lj}:∀{cs:List lj},c∈cs->dy (cs.map λc=>(sK c.1 c.2,g c)) (sK c.1 c.2)=some (g c)
 | e::cs,h=>by
  show dy ((sK e.1 e.2,g e)::cs.map λc=>(sK c.1 c.2,g c)) (sK c.1 c.2)=_;by_cases z:e=c
  ·subst z;rw[fZ rfl]
  ·rw[eP λy=>z (fL (rT y).1 (rT y).2)];rcases aJ.mp h with y | y
   ·exact absurd y.symm z
   ·exact yl y
theorem vJ{g:lj->V}{c:lj}:∀{cs:List lj},c∉cs->dy (cs.map λc=>(sK c.1 c.2,g c)) (sK c.1 c.2)=none
 | [],_=>rfl
 | e::cs,h=>by
  show dy ((sK e.1 e.2,g e)::cs.map λc=>(sK c.1 c.2,g c)) (sK c.1 c.2)=_;rw[eP λy=>h (by rw[show c=e from(fL (rT y).1 (rT y).2).symm];simp)];exact vJ λy=>h (aM _ y)
theorem xA{g:lj->V}{c:lj}{cs:List lj}:(dy (cs.map λc=>(sK c.1 c.2,g c)) (sK c.1 c.2)).isSome=decide (c∈cs):=by
 by_cases h:c∈cs
 ·rw[yl h,decide_eq_true h];rfl
 ·rw[vJ h,decide_eq_false h];rfl
theorem GR.len{b:Bool}{ns:List Int}{kvs:List (List Key×V)}{cs:List lj}(C:GR b ns kvs cs)(O:fE ns)(nc:NC b ns):cs.length<=3825:=by
 refine bU (eI C.nd (l₂:=cn b ns) λc hc=>(iG O nc).mpr ((C.op c).mp hc)) (qi O nc)
def z8:Sp:=λvs H Q _=>∃b ns,vs=[.str (tx (gg ns.length (bE b ns false) (bE b ns true)))]/\fE ns/\NC b ns/\∀d kvs cs H',H d=none->ak H H'->H' d=some (.dT kvs)->GR b ns kvs cs->Q (.ref d) H'
def zU:Sp:=λvs H Q _=>∃d b ns kvs cs,vs=[.ref d]/\H d=some (.dT kvs)/\GR b ns kvs cs/\fE ns/\NC b ns/\∀l H',H l=none->ak H H'->cY H' l ((cn b ns).map gc)->Q (.ref l) H'
theorem El{n:Nat}{L R:List Bw}{i:Nat}:(tx (jB n L R i)).cps.all (·<128)=true:=by
 rw[Array.all_eq_true'];intro x hx;have hm:x∈jB n L R i:=by simpa [tx] using hx
 obtain⟨y,_,rfl⟩:=aT.mp hm;have:=Ec (n:=n) (S0:=L) (S1:=R) i y;exact decide_eq_true (by omega)
structure jI (b:Bool) (ns:List Int) (k j:Nat) (kvs:List (List Key×V)) (cs:List lj):Prop where
 is:kvs=cs.map fun c=>(sK c.1 c.2,lJ (signG ns.length (bE b ns false) (bE b ns true) c.1 c.2))
 nd:cs.Nodup
 op:∀ c,c∈cs<->vA b ns c.1 c.2=true/\(c.1<k\/(c.1=k/\c.2<j))
section
variable {b:Bool} {ns:List Int} {k j:Nat} {kvs:List (List Key×V)} {cs:List lj}
theorem jI.nil:jI b ns 0 0 [] []:=⟨rfl,.nil,λc=>by simp⟩
theorem jI.len(C:jI b ns k j kvs cs)(O:fE ns)(nc:NC b ns):kvs.length<=3825:=by
 rw[C.is,aA];exact bU (eI C.nd (l₂:=cn b ns) λc hc=>(iG O nc).mpr ((C.op c).mp hc).1) (qi O nc)
theorem jI.skip(C:jI b ns k j kvs cs)(h:vA b ns k j=false):jI b ns k (j+1) kvs cs:=⟨C.is,C.nd,λc=>by
 rw[C.op];refine and_congr_right λho=>?_;have:¬(c.1=k/\c.2=j):=λe=>by rw[e.1,e.2,h] at ho;cases ho
 omega⟩
theorem jI.put(C:jI b ns k j kvs cs)(h:vA b ns k j=true):jI b ns k (j+1) (putK kvs (sK k j) (lJ (signG ns.length (bE b ns false) (bE b ns true) k j))) (cs++[(k,j)]):=by
 have hn:(k,j)∉cs:=λhm=>by
  have:=((C.op _).mp hm).2;dsimp only at this;omega
 have hv:dy kvs (sK k j)=none:=by
  rw[C.is];exact vJ (g:=λc=>lJ (signG ns.length (bE b ns false) (bE b ns true) c.1 c.2)) (c:=(k,j)) hn
 refine⟨?_,?_,λc=>?_⟩
 ·rw[pB _ hv,aW,<-C.is];rfl
 ·rw[cJ];refine⟨C.nd,by simp,λa ha c hc e=>?_⟩;rw[dG] at hc;rw[e,hc] at ha;exact hn ha
 ·rw[aU,C.op,dG];constructor
  ·rintro (⟨h1,h2⟩ | rfl)
   ·exact⟨h1,by omega⟩
   ·exact⟨h,.inr ⟨rfl,Nat.lt_succ_self _⟩⟩
  ·rintro⟨h1,h2⟩;by_cases e:c.1=k/\c.2=j
   ·exact .inr (fL e.1 e.2)
   ·exact .inl ⟨h1,by omega⟩
theorem jI.line(C:jI b ns k (dC (bE b ns false) (bE b ns true)) kvs cs)(O:fE ns)(nc:NC b ns):jI b ns (k+1) 0 kvs cs:=⟨C.is,C.nd,λc=>by
 rw[C.op];refine and_congr_right λho=>?_;have:=mn O nc ((iG O nc).mpr ho);omega⟩
theorem jI.all(C:jI b ns (2*ns.length+5) 0 kvs cs)(O:fE ns)(nc:NC b ns):GR b ns kvs cs:=⟨C.is,C.nd,λc=>by
 rw[C.op];refine⟨λh=>h.1,λho=>⟨ho,?_⟩⟩;have:=mn O nc ((iG O nc).mpr ho);omega⟩
end
def gb{α β:Type}(f:β->α->α->β):β->List α->β
 | s,x::y::l=>gb f (f s x y) (y::l)
 | s,_=>s
section
variable {α β:Type} {f:β->α->α->β}
theorem oC:∀(A:List α) (x:α) (B:List α) (s:β),gb f s (A++x::B)=gb f (gb f s (A++[x])) (x::B)
 | [],x,B,s=>rfl
 | [a],x,B,s=>rfl
 | a::c::A,x,B,s=>by
  show gb f (f s a c) ((c::A)++x::B)=gb f (gb f (f s a c) ((c::A)++[x])) (x::B);exact oC (c::A) x B _
theorem BB(A:List α)(x y:α)(s:β):gb f s (A++[x,y])=f (gb f s (A++[x])) x y:=by
 rw[oC A x [y]];rfl
theorem oX:∀{l:List α} {s:β},(∀x y,Cs l x y->f s x y=s)->gb f s l=s
 | [],s,h=>rfl
 | [x],s,h=>rfl
 | x::y::l,s,h=>by
  show gb f (f s x y) (y::l)=s;rw[h x y ⟨[],l,rfl⟩];exact oX λa c hc=>h a c hc.cons
end
def jd(s:Bool×List Nat)(x y:lj):Bool×List Nat:=
 if x.1=y.1/\(x.1 - 1) / 2∉s.2 then (if s.2=[]/\y.2<x.2 then true else s.1,s.2++[(x.1 - 1) / 2]) else s
section
variable {b:Bool} {ns:List Int}
def Ep(ns:List Int)(k:Nat):List Nat:=(List.range k).map λj=>rN ns (j+1)
theorem rX(k:Nat):Ep ns (k+1)=Ep ns k++[rN ns (k+1)]:=by unfold Ep;rw[dv,aW];rfl
theorem En(O:fE ns){k:Nat}(h:k+1<=ns.length):rN ns (k+1)∉Ep ns k:=λhm=>by
 obtain⟨j,hj,e⟩:=aT.mp hm;rw[cX] at hj;have:=ku O (by omega) (by omega) e;omega
def tH(b:Bool)(ns:List Int)(k:Nat):Bool×List Nat:=(b&&decide (0<k),Ep ns k)
theorem Gq(s:Bool×List Nat)(k:Nat):gb jd s (vS b ns k)=s:=by
 refine oX λx y hc=>?_;obtain⟨i,j,rfl,rfl,hij⟩:=hc.unmap;have:=hij.sg _ rfl;unfold jd;rw[if_neg];dsimp only;omega
theorem LK(O:fE ns)(nc:NC b ns)(h:1<=ns.length):cN b ns 1<cN b ns 0<->b=true:=by
 cases b with
 | false=>
  have h1:=yp O nc (k:=0) (a6 _) rfl;have h2:=yo O nc (k:=1) h rfl;exact⟨λh=>by omega,λh=>by cases h⟩
 | true=>
  have h1:=yo O nc (k:=0) (a6 _) rfl;have h2:=yp O nc (k:=1) h rfl;exact⟨λ_=>rfl,λ_=>by omega⟩
theorem zq(k:Nat):(lN ns k - 1) / 2=rN ns k:=by unfold lN;omega
theorem LC(O:fE ns)(nc:NC b ns){k:Nat}(h:k+1<=ns.length):gb jd (tH b ns k) ((sg (cN b ns k) (cN b ns (k+1))).map λx=>(lN ns (k+1),x))=tH b ns (k+1):=by
 have hne:=Gw O nc h;obtain⟨x1,l,hl,hx⟩:∃x1 l,sg (cN b ns k) (cN b ns (k+1))=cN b ns k::x1::l/\(x1<cN b ns k<->cN b ns (k+1)<cN b ns k):=by
  rcases Nat.lt_or_gt_of_ne hne with z | z
  ·obtain⟨l,hl⟩:=lm (cN b ns k+1) (cN b ns (k+1));exact⟨_,l,by rw[vk z,hl],by omega⟩
  ·obtain⟨l,hl⟩:=lm (cN b ns k - 1) (cN b ns (k+1));exact⟨_,l,by rw[vo z,hl],by omega⟩
 rw[hl];show gb jd (jd (tH b ns k) (lN ns (k+1),cN b ns k) (lN ns (k+1),x1)) (((x1::l)).map λx=>(lN ns (k+1),x))=_;have e:jd (tH b ns k) (lN ns (k+1),cN b ns k) (lN ns (k+1),x1)=tH b ns (k+1):=by
  unfold jd;dsimp only;rw[zq,if_pos ⟨rfl,En O h⟩];unfold tH;dsimp only;rw[<-rX];congr 1;cases k with
  | zero=>
   have:=LK O nc (b:=b) h;by_cases z:b=true
   ·rw[if_pos ⟨rfl,hx.mpr (this.mpr z)⟩,z];rfl
   ·have z':b=false:=by cases b;rfl;exact absurd rfl z
    rw[if_neg λy=>z (this.mp (hx.mp y.2)),z'];rfl
  | succ k=>
   rw[if_neg (λz=>by rw[rX] at z;simp at z)];simp
 rw[e];refine oX λx y hc=>?_;obtain⟨i,j,rfl,rfl,hij⟩:=hc.unmap;unfold jd;dsimp only;rw[zq,if_neg];rintro⟨_,z⟩;refine z ?_;show _∈Ep ns (k+1);rw[rX];simp
theorem zm(O:fE ns)(nc:NC b ns):∀{k:Nat},k<=ns.length->gb jd (false,[]) (wS b ns k)=tH b ns k
 | 0,_=>by
  show gb jd (false,[]) (vS b ns 0)=_;rw[Gq];unfold tH Ep;simp
 | k+1,h=>by
  obtain⟨l,hl⟩:=qj (b:=b) (ns:=ns) k;obtain⟨v,hv⟩:=qk (b:=b) (ns:=ns) (k+1);have ih:=zm O nc (k:=k) (by omega);have e1:wS b ns (k+1)=(l++(lN ns (k+1),cN b ns k)::rS b ns k)++(lN ns (k+1),cN b ns (k+1))::v:=by
   show wS b ns k++(rS b ns k++vS b ns (k+1))=_;rw[hl,hv];simp
  rw[e1,oC,show (l++(lN ns (k+1),cN b ns k)::rS b ns k)++[(lN ns (k+1),cN b ns (k+1))]=l++(lN ns (k+1),cN b ns k)::(rS b ns k++[(lN ns (k+1),cN b ns (k+1))]) by simp,oC,<-hl,ih,<-jS O nc h,LC O nc h,<-hv,Gq]
theorem Eo(O:fE ns):(Ep ns ns.length).map (λr=>V.int (r:Nat))=ns.map V.int:=by
 refine ko λi=>?_;unfold Ep;rw[bc,aS,aS];rcases gG i ns.length with h | h
 ·rw[fi h,aK h];have:=pf O (k:=i+1) (by omega);show some (V.int ((rN ns (i+1):Nat):Int))=some (V.int ns[i]);rw[this];congr 2;exact lL (aK h)
 ·rw[dW (by simpa using h),dW (by simpa using h)];rfl
end
theorem zn:∀(l:List lj) (s:Bool×List Nat),(gb jd s l).2.length<=s.2.length+l.length
 | [],s=>eG _ _
 | [x],s=>eG _ _
 | x::y::l,s=>by
  have h:=zn (y::l) (jd s x y);have h1:(jd s x y).2.length<=s.2.length+1:=by
   unfold jd
   split
   ·simp
   ·omega
  show (gb jd (jd s x y) (y::l)).2.length<=_;simp only[cG] at h ⊢;omega
def tG(l:List Nat):List Int:=l.map λ(r:Nat)=>(r:Int)
theorem w5{l:List Nat}{r:Nat}:(r:Int)∈tG l<->r∈l:=by
 unfold tG;rw[aT];exact⟨λ⟨a,h,e⟩=>by rw[<-Int.ofNat.inj e];exact h,λh=>⟨r,h,rfl⟩⟩
theorem Dy{K:PySem.W.Frag}{σ:L2.St}{H:Hp}{D:Ends}{a b:Addr}{xs ys:List V}{g:TG}{tb:TS}(hle:ys.length<=xs.length)(Pv:Nat->L2.St->Hp->Prop)(h0:Pv 0 σ H)(hl:∀i σ H,Pv i σ H->bv K H a xs/\bv K H b ys)
  (hs:∀i x y σ H p,xs[i]? = some x->ys[i]? = some y->Pv i σ H->H p=none->g (.ref p) σ (upd H p (.tup [x,y])) λσ2 H2=>tb { D with nx:=Pv (i+1),ct:=Pv (i+1),bk:=D.nx } σ2 H2) (hd:∀σ H,Pv ys.length σ H->D.nx σ H):oI (Jr K a b) g tb D σ H:=by
 refine⟨λi m σ H=>m+i=ys.length/\Pv i σ H,⟨ys.length,rfl,h0⟩,?_⟩;rintro i m σ H ⟨hm,hp⟩;obtain⟨q1,q2⟩:=hl i σ H hp;by_cases hi:i<ys.length
 ·refine .inr ⟨⟨xs,ys,xs[i],ys[i],q1,q2,by simp[aq hi hle],by simp[hi]⟩,Pv (i+1),λσ' H' h=>⟨m - 1,by omega,by omega,h⟩,?_⟩;rintro v H' ⟨p,x,y,hn,hx,hy,rfl,rfl⟩;exact hs i x y σ H p (hx xs q1) (hy ys q2) hp hn
 ·have e:i=ys.length:=by omega
  subst e;exact .inl ⟨⟨xs,ys,q1,q2,.inr (aH _)⟩,hd σ H hp⟩
def CV:Sp:=λvs H Q _=>∃l b ns,vs=[.ref l]/\cY H l ((cn b ns).map gc)/\fE ns/\NC b ns/\∀m o H',H m=none->ak H H'->eV H' m o (b&&decide (0<ns.length)) ns->Q (.ref m) H'
section
variable {b:Bool} {ns:List Int}
theorem JI(b:Bool):NC b []:=by unfold NC;cases b<;>decide
theorem zl(nc:NC b ns):NC (b&&decide (0<ns.length)) ns:=by
 cases ns with
 | nil=>exact JI _
 | cons x l=>rw[show decide (0<(x::l).length)=true from decide_eq_true (Nat.zero_lt_succ _),lG];exact nc
theorem E6(b c:Bool):gg 0 (bE b [] false) (bE b [] true)=gg 0 (bE c [] false) (bE c [] true):=by cases b<;>cases c<;>decide +kernel
theorem vY(O:fE ns){L R:List Bw}(hL:dh (b&&decide (0<ns.length)) ns false L)(hR:dh (b&&decide (0<ns.length)) ns true R):gg ns.length L R=gg ns.length (bE b ns false) (bE b ns true):=by
 rw[vX O hL hR];cases ns with
 | nil=>exact E6 _ _
 | cons x l=>rw[show decide (0<(x::l).length)=true from decide_eq_true (Nat.zero_lt_succ _),lG]
end
def CY:Sp:=λvs H Q _=>∃m o b ns,vs=[.str (tx (gg ns.length (bE b ns false) (bE b ns true))),.ref m]/\eV H m o (b&&decide (0<ns.length)) ns/\fE ns/\NC b ns/\∀H',ak H H'->Q (.bl true) H'
def CN:Sp:=λvs H Q _=>∃b ns,vs=[.str (tx (gg ns.length (bE b ns false) (bE b ns true)))]/\fE ns/\NC b ns/\∀l H',H l=none->ak H H'->cY H' l ((cn b ns).map gc)->Q (.ref l) H'
def zV:Sp:=λvs H Q _=>∃b ns,vs=[.str (tx (gg ns.length (bE b ns false) (bE b ns true)))]/\fE ns/\NC b ns/\∀m o H',H m=none->ak H H'->eV H' m o (b&&decide (0<ns.length)) ns->Q (.ref m) H'
theorem JH{K:PySem.W.Frag}{H:Hp}{a b o1 o2:Addr}{s:Bool}{ns:List Int}{Q:VK}(ha:eV H a o1 s ns)(hb:eV H b o2 s ns)(q:Q (.bl false) H):A3 K true (.ref a) (.ref b) H Q:=by
 obtain⟨d,e,h1,h2,h3,h4,h5,h6⟩:=Mc (K:=K) (Q:=λv H'=>v=.bl true/\H'=H) ha hb ⟨by simp,rfl⟩;refine⟨d,e,h1,h2,h3,h4,h5,?_⟩;have:PyData.eqv d e=true:=by have:=h6.1;simpa using this
 rw[this];exact q
end Rm
namespace L2
open PySem PySem.Spec PyProof.Rows
theorem sC{h:Heap}{a it:Addr}{items:Array Value}{i:Nat}(x:h.IsList a items)(y:h.IsListIter it a i):a≠it:=by
 rintro rfl;obtain⟨o,ho,hc,_⟩:=x;obtain⟨o2,ho2,hc2,_⟩:=y;rw[ho] at ho2;cases ho2;rw[hc] at hc2;exact absurd hc2 (by decide)
def GO(K:PySem.W.Frag)(a:Addr):It:=
 ⟨λi H=>∃xs x,bv K H a xs/\xs[i]? = some x,λi H v H'=>∃p x,H p=none/\(∀xs,bv K H a xs->xs[i]? = some x)/\v=.ref p/\H'=upd H p (.tup [.int i,x]),λi H=>∃xs,bv K H a xs/\xs.length=i⟩
theorem xR {P : Program} {w : World} {K : PySem.W.Frag} {elts : List Expr} {x1 : Nat} {pos : Pos} (e it a : Addr) (hne : e ≠ it) (hea : e ≠ a) :
    Turn P w K (.Tuple elts x1 pos) (GO K a) [e, it] e (fun i h => (∃ old, IsEnum h e it i old) ∧ h.IsListIter it a i) where
  mem := by simp
  obj := fun i h st b hb => by
    obtain ⟨⟨old, he⟩, o, ei, c, d⟩ := st
    rcases aJ.mp hb with z | z
    · subst z; exact ⟨_, he, fun v z => by cases z⟩
    · have z' : b = it := by simpa using z
      subst z'
      exact ⟨o, ei, fun v z => by rw [d] at z; cases z⟩
  keep := fun i h h' st k => by
    obtain ⟨⟨old, he⟩, o, ei, r⟩ := st
    exact ⟨⟨old, k e (by simp) _ he⟩, o, k it (by simp) o ei, r⟩
  item := by
    intro X hP hw hK hc i pins s σ H E I hf st hg
    subst hP hw hK
    obtain ⟨⟨old, he⟩, hst⟩ := st
    obtain ⟨xs, x, hq, hx⟩ := hg
    obtain ⟨its, rv, p, hz⟩ := I.list hq
    obtain ⟨u, hu, ru⟩ := rv.get hx
    have hT : s.heap.IsList a its.toArray := p.isList
    have hat : a ≠ it := sC hT hst
    have D : Draws X.prog X.w X.A.in1 it [it, a] its.toArray.size _ _ := Draws.list (show X.A.in1.handled = none from I.ok.hd hc) it a hat its.toArray
    have hlt : i < its.length := by
      obtain ⟨hh, _⟩ := aF.mp hu
      exact hh
    refine wpAny_pyNext_enum_itemD D he ⟨hst, hT⟩ (by simpa using hlt) hne (by simp [hne, hea]) fun v h' tk hv ho st' ht hsz kp => ?_
    have ev : v = u := by
      have : its[i]? = some v := by simpa using hv
      rw [hu] at this; cases this; rfl
    subst ev
    refine ⟨_, rfl, wpAny_letOwnedTupleGo_enum ho fun h2 he2 hs2 => ?_⟩
    have het : s.heap.objs.size ≠ e := fb (aN he)
    have ht2 : h2.get? s.heap.objs.size = some { cls := .type "tuple", data := .seq #[.int i tk, v] } := (hs2.2 _ het).trans ht
    have hn : H s.heap.objs.size = none := I.hok.fresh (aH _)
    refine ⟨.ref s.heap.objs.size, upd H s.heap.objs.size (.tup [.int i, x]), I.turnNew (fp := [e, it]) hf (fun b o hb q => ?_) (aH _) (show cZ X.prog X.w _ h2 _ (.tup _) from ⟨(by show 2 ≤ sizeLine; decide), [.int i tk, v], .cons ⟨_, rfl⟩ (.cons ru .nil), _, ht2, rfl, _, rfl⟩), rfl, ⟨_, x, hn, fun ys hy => by rw [I.list_inj hy hq]; exact hx, rfl, rfl⟩, ⟨⟨_, by exact_mod_cast he2⟩, ?_⟩, fun b hb => ?_⟩
    · have n1 : b ≠ e := fun z => hb (by simp [z])
      have n2 : b ≠ it := fun z => hb (by simp [z])
      exact (hs2.2 b n1).trans (kp b o n1 n2 q)
    · obtain ⟨⟨o, ei, r⟩, _⟩ := st'
      exact ⟨o, (hs2.2 it hne.symm).trans ei, r⟩
    · have hb' := (hf b hb).1
      rw [aP (fun z => ?_)]
      · exact hb'
      · obtain ⟨o, q, _⟩ := hst
        rcases aJ.mp hb with y | y
        · exact het (z.symm.trans y)
        · have y' : b = it := by simpa using y
          exact absurd (y'.symm.trans z) (av (aN q))
  done := by
    intro X hP hw hK hc i pins s σ H E I hf st hg
    subst hP hw hK
    obtain ⟨⟨old, he⟩, hst⟩ := st
    obtain ⟨xs, hq, hx⟩ := hg
    obtain ⟨its, rv, p, hz⟩ := I.list hq
    have hT : s.heap.IsList a its.toArray := p.isList
    have hat : a ≠ it := sC hT hst
    have hl := rv.length
    obtain ⟨f0, f1, f2, f3, f4, f5⟩ := hf it (by simp)
    have D : Draws X.prog X.w X.A.in1 it [it, a] its.toArray.size _ _ := Draws.list (show X.A.in1.handled = none from I.ok.hd hc) it a hat its.toArray
    have ei : its.toArray.size = i := by simp; omega
    rw [← ei] at hst
    exact wpAny_pyNext_enum_endD D he ⟨hst, hT⟩ fun h' eb => ⟨rfl, I.turned (t' := s.toks) (fun b o hb q => eb b o hb q) f0 f1 f3 f4 f5⟩
  self := fun _ _ _ _ _ st h => by
    obtain ⟨⟨old, he⟩, _⟩ := st
    exact wpAny_pyIter_enum he h
def yb(K:PySem.W.Frag)(ta:TA):TI:=λσ H R=>ta σ H λvs H1=>∃a,vs=[.ref a]/\(∃xs,bv K H1 a xs)/\R (GO K a) H1
theorem DC {X:Cx} {a:Expr} {ta:TA} {elts:List Expr} {x1:Nat} {p pos tpos:Pos} (hg:Gl X "enumerate") (hm:X.mg "enumerate"=none) (ha:PA X [a] ta) (hs:starEach [a] X.env=[(false,eval a X.env)]:=by rfl) :
  PI X (.Tuple elts x1 tpos) (.Call (.Name "enumerate" p) [a] [] pos) (yb X.K ta):=by
 intro pins s σ H R I h;refine Call_ (jT I hg hm boot_enumerate (bj (eR (ha pos pins s σ H _ I h) λus s1 ⟨vs,H1,I1,r1,z,e,⟨xs,hz⟩,q⟩=>?_) hs rfl));subst e;obtain⟨u,rfl,r2⟩:=vals1 r1;cases r2;obtain⟨its,rv,pp,hz2⟩:=I1.list hz;have hT:s1.heap.IsList z its.toArray:=pp.isList;obtain⟨oz,hoz,_⟩:=id hT;have hlt:z<s1.heap.objs.size:=aN hoz;refine call_enumerate_list hT λh' he hit hsz kp=>?_;refine wpAny_pyIter_enum he ?_;have I2:bi X pins σ H1 { s1 with heap:=h' }:=I1.kept (t':=s1.toks) kp;exact⟨s1.heap.objs.size+1,[s1.heap.objs.size+1,s1.heap.objs.size],_,_,H1,rfl,I2,xR _ _ z (lX _) (fb (fc hlt)),⟨⟨_,he⟩,hit⟩,
  λb hb=>by
   have hle:s1.heap.objs.size<=b:=by
    rcases aJ.mp hb with y | y
    ·rw[y];exact dc _
    ·have y':b=s1.heap.objs.size:=by simpa using y
     exact gq y'.symm
   exact I1.fpOk hle (I1.hok.fresh hle),q⟩
section
variable {X:Cx}
theorem A5 {a:Expr} {ta:TA} {elts:List Expr} {x1:Nat} {p pos tpos:Pos} (hg:Gl X "enumerate") (hm:X.mg "enumerate"=none) (ha:QA X [a] ta) (hs:starEach [a] X.env=[(false,eval a X.env)]:=by rfl) :
  QI X (.Tuple elts x1 tpos) (.Call (.Name "enumerate" p) [a] [] pos) (yb X.K ta):=⟨DC hg hm ha.h hs⟩
end
section
variable {σ:St} {H:Hp} {D:Ends} {K:PySem.W.Frag}
theorem EZ{ta:TA}{g:TG}{tb:TS}:qY (yb K ta) g tb D σ H=ta σ H λvs H1=>∃a,vs=[.ref a]/\(∃xs,bv K H1 a xs)/\oI (GO K a) g tb D σ H1:=rfl
theorem BA{a:Addr}{xs:List V}{g:TG}{tb:TS}(Pv:Nat->St->Hp->Prop)(h0:Pv 0 σ H)(hl:∀i σ H,Pv i σ H->H a=some (.lst xs))
  (hs:∀i x σ H p,xs[i]? = some x->Pv i σ H->H p=none->g (.ref p) σ (upd H p (.tup [.int i,x])) λσ2 H2=>tb { D with nx:=Pv (i+1),ct:=Pv (i+1),bk:=D.nx } σ2 H2) (hd:∀σ H,Pv xs.length σ H->D.nx σ H):oI (GO K a) g tb D σ H:=by
 refine⟨λi m σ H=>m+i=xs.length/\Pv i σ H,⟨xs.length,rfl,h0⟩,?_⟩;rintro i m σ H ⟨hm,hp⟩;have q:=bv.of (K:=K) (hl i σ H hp);by_cases hi:i<xs.length
 ·refine .inr ⟨⟨xs,xs[i],q,by simp[hi]⟩,Pv (i+1),λσ' H' h=>⟨m - 1,by omega,by omega,h⟩,?_⟩;rintro v H' ⟨p,x,hn,hx,rfl,rfl⟩;exact hs i x σ H p (hx xs q) hp hn
 ·have e:i=xs.length:=by omega
  subst e;exact .inl ⟨⟨xs,q,rfl⟩,hd σ H hp⟩
end
abbrev TH:=Ends->St->Addr->Option Addr->Hp->Prop
def MA:TH:=λ_ _ _ _ _=>False
def LH(K:PySem.W.Frag)(c:Value)(ts:Addr->TS)(th:TH):TH:=λD σ C dO H2=>(PySem.W.exmOne K (.ref C) c=some true/\∀a,H2 a=none->ts a D σ (upd H2 a (tJ dO C a)))\/(PySem.W.exmOne K (.ref C) c=some false/\th D σ C dO H2)
def Ma(K:PySem.W.Frag)(c:Value)(i:Nat)(ts:Addr->TS)(th:TH):TH:=λD σ C dO H2=>(PySem.W.exmOne K (.ref C) c=some true/\∀a,H2 a=none->ts a { nx:=λσ' H'=>D.nx (σ'.set i none) H',rt:=D.rt,bk:=λσ' H'=>D.bk (σ'.set i none) H',ct:=λσ' H'=>D.ct (σ'.set i none) H' } (σ.set i (some (.ref a))) (upd H2 a (tJ dO C a)))\/(PySem.W.exmOne K (.ref C) c=some false/\th D σ C dO H2)
section
def K4(tb:XK->TS)(th:TH):TS:=λD σ H=>tb (λcls dO H2=>∃C,cls=Value.ref C/\th D σ C dO H2) D σ H
section
variable {sp:Sp} {t:TA}
def LL(sp:Sp)(t:TA):XK->TS:=λE D σ H=>t σ H λvs H1=>sp vs H1 (λ_ H2=>D.nx σ H2) E
def MG(sp:Sp)(j:Nat)(t:TA):XK->TS:=λE D σ H=>t σ H λvs H1=>sp vs H1 (λv H2=>D.nx (σ.set j (some v)) H2) E
def ME(sp:Sp)(z:Str)(t:TA):XK->TS:=λE D σ H=>t σ H λvs H1=>sp vs H1 (λv H2=>∀q,H2 q=none->D.rt (.ref q) (upd H2 q (.tup [.str z,v]))) E
def MF(sp:Sp)(z:Str)(t:TA):XK->TS:=λE D σ H=>t σ H λvs H1=>sp vs H1 (λv H2=>∀q,H2 q=none->D.rt (.ref q) (upd H2 q (.lst [.str z,v]))) E
end
end
section
variable {σ:St} {H H2:Hp} {D:Ends} {E:XK} {C:Addr} {dO:Option Addr} {K:PySem.W.Frag} {c:Value} {sp:Sp} {t:TA} {ts:Addr->TS} {th:TH} {tb:XK->TS} {z:Str} {i j:Nat}
theorem HF:K4 tb th D σ H=tb (λcls dO H2=>∃C,cls=Value.ref C/\th D σ C dO H2) D σ H:=rfl
theorem HJ:MA D σ C dO H2=False:=rfl
theorem EW:LH K c ts th D σ C dO H2=((PySem.W.exmOne K (.ref C) c=some true/\∀a,H2 a=none->ts a D σ (upd H2 a (tJ dO C a)))\/(PySem.W.exmOne K (.ref C) c=some false/\th D σ C dO H2)):=rfl
theorem KM:Ma K c i ts th D σ C dO H2=((PySem.W.exmOne K (.ref C) c=some true/\∀a,H2 a=none->ts a { nx:=λσ' H'=>D.nx (σ'.set i none) H',rt:=D.rt,bk:=λσ' H'=>D.bk (σ'.set i none) H',ct:=λσ' H'=>D.ct (σ'.set i none) H' } (σ.set i (some (.ref a))) (upd H2 a (tJ dO C a)))\/(PySem.W.exmOne K (.ref C) c=some false/\th D σ C dO H2)):=rfl
theorem E4:LL sp t E D σ H=t σ H λvs H1=>sp vs H1 (λ_ H2=>D.nx σ H2) E:=rfl
theorem HZ:MG sp j t E D σ H=t σ H λvs H1=>sp vs H1 (λv H2=>D.nx (σ.set j (some v)) H2) E:=rfl
theorem HX:ME sp z t E D σ H=t σ H λvs H1=>sp vs H1 (λv H2=>∀q,H2 q=none->D.rt (.ref q) (upd H2 q (.tup [.str z,v]))) E:=rfl
theorem HY:MF sp z t E D σ H=t σ H λvs H1=>sp vs H1 (λv H2=>∀q,H2 q=none->D.rt (.ref q) (upd H2 q (.lst [.str z,v]))) E:=rfl
end
end L2
namespace Rm
open PySem L2 PyProof.Rows
def top(i:Nat):Stmt:=PySem.Challenge.pw_ringmaze_k14_whole_read_back.main.body.getD i (.Pass ⟨0,0,0,0⟩)
abbrev jP:Stmt:=top 1
theorem j9:be ["bows","a","b","c","d"] ["bows"] (bC jP):=⟨rfl,rfl,rfl,by decide +kernel,rfl,by decide +kernel,by decide +kernel⟩
abbrev pY:Stmt:=top 2
theorem Ee:be ["bow"] ["bow"] (bC pY):=⟨rfl,rfl,rfl,by decide +kernel,rfl,by decide +kernel,by decide +kernel⟩
abbrev gM:Stmt:=top 3
theorem rQ:be ["inner","outer"] ["inner","outer"] (bC gM):=⟨rfl,rfl,rfl,by decide +kernel,rfl,by decide +kernel,by decide +kernel⟩
abbrev iR:Stmt:=top 4
theorem lq:be ["bows","known","bow","inner"] ["bows"] (bC iR):=⟨rfl,rfl,rfl,by decide +kernel,rfl,by decide +kernel,by decide +kernel⟩
abbrev jL:Stmt:=top 13
theorem vp:be ["thing"] ["thing"] (bC jL):=⟨rfl,rfl,rfl,by decide +kernel,rfl,by decide +kernel,by decide +kernel⟩
abbrev kD:Stmt:=top 14
theorem xh:be ["thing"] ["thing"] (bC kD):=⟨rfl,rfl,rfl,by decide +kernel,rfl,by decide +kernel,by decide +kernel⟩
abbrev jM:Stmt:=top 15
theorem vq:be ["thing"] ["thing"] (bC jM):=⟨rfl,rfl,rfl,by decide +kernel,rfl,by decide +kernel,by decide +kernel⟩
abbrev jN:Stmt:=top 16
theorem xi:be ["thing"] ["thing"] (bC jN):=⟨rfl,rfl,rfl,by decide +kernel,rfl,by decide +kernel,by decide +kernel⟩
abbrev gj:Stmt:=top 18
theorem su:be ["side"] ["side"] (bC gj):=⟨rfl,rfl,rfl,by decide +kernel,rfl,by decide +kernel,by decide +kernel⟩
abbrev fm:Stmt:=top 19
theorem mW:be ["maze","step","side"] ["maze","step"] (bC fm):=⟨rfl,rfl,rfl,by decide +kernel,rfl,by decide +kernel,by decide +kernel⟩
abbrev gL:Stmt:=top 20
theorem my:be ["maze","order"] ["maze"] (bC gL):=⟨rfl,rfl,rfl,by decide +kernel,rfl,by decide +kernel,by decide +kernel⟩
abbrev jR:Stmt:=top 21
theorem kN:be ["maze","rows","told","step","bow"] ["maze"] (bC jR):=⟨rfl,rfl,rfl,by decide +kernel,rfl,by decide +kernel,by decide +kernel⟩
abbrev jQ:Stmt:=top 22
theorem ly:be ["maze","side","bows","found"] ["maze"] (bC jQ):=⟨rfl,rfl,rfl,by decide +kernel,rfl,by decide +kernel,by decide +kernel⟩
abbrev t7:Stmt:=top 23
theorem C5:be ["maze","found"] ["maze"] (bC t7):=⟨rfl,rfl,rfl,by decide +kernel,rfl,by decide +kernel,by decide +kernel⟩
abbrev iQ:Stmt:=top 29
theorem xg:be ["row"] ["row"] (bC iQ):=⟨rfl,rfl,rfl,by decide +kernel,rfl,by decide +kernel,by decide +kernel⟩
abbrev eS:Stmt:=top 30
theorem oQ:be ["bows"] ["bows"] (bC eS):=⟨rfl,rfl,rfl,by decide +kernel,rfl,by decide +kernel,by decide +kernel⟩
abbrev kO:Stmt:=top 31
theorem nh:be ["bows","columns","told","bow","column"] ["bows","columns"] (bC kO):=⟨rfl,rfl,rfl,by decide +kernel,rfl,by decide +kernel,by decide +kernel⟩
abbrev fq:Stmt:=top 32
theorem qZ:be ["bows","most_left"] ["bows","most_left"] (bC fq):=⟨rfl,rfl,rfl,by decide +kernel,rfl,by decide +kernel,by decide +kernel⟩
abbrev fT:Stmt:=top 33
theorem pV:be ["bows","most_left"] ["bows","most_left"] (bC fT):=⟨rfl,rfl,rfl,by decide +kernel,rfl,by decide +kernel,by decide +kernel⟩
abbrev gm:Stmt:=top 34
theorem j3:be ["grid","bows","columns","a","b","line"] ["grid","bows","columns"] (bC gm):=⟨rfl,rfl,rfl,by decide +kernel,rfl,by decide +kernel,by decide +kernel⟩
abbrev gN:Stmt:=top 35
theorem kM:be ["grid","rings","lefts","rights","ring","column"] ["grid","rings","lefts","rights"] (bC gN):=⟨rfl,rfl,rfl,by decide +kernel,rfl,by decide +kernel,by decide +kernel⟩
abbrev p8:Stmt:=top 36
theorem Eh:be ["line","sign"] ["line","sign"] (bC p8):=⟨rfl,rfl,rfl,by decide +kernel,rfl,by decide +kernel,by decide +kernel⟩
abbrev mB:Stmt:=top 37
theorem j8:be ["maze","rings","bows","most_left","most_right","lefts","rights","grid"] ["maze"] (bC mB):=⟨rfl,rfl,rfl,by decide +kernel,rfl,by decide +kernel,by decide +kernel⟩
abbrev kG:Stmt:=top 47
theorem xj:be ["_law_script","_law_k"] ["_law_script","_law_k"] (bC kG):=⟨rfl,rfl,rfl,by decide +kernel,rfl,by decide +kernel,by decide +kernel⟩
abbrev t8:Stmt:=top 48
theorem C6:be ["_law_seed","_law_k","_law_number"] ["_law_seed","_law_k"] (bC t8):=⟨rfl,rfl,rfl,by decide +kernel,rfl,by decide +kernel,by decide +kernel⟩
abbrev lK:Stmt:=top 50
theorem iP:be ["_law_cell","_law_base","_law_many","_law_rest","_law_found","_law_k","_law_digit"] ["_law_cell","_law_base"] (bC lK):=⟨rfl,rfl,rfl,by decide +kernel,rfl,by decide +kernel,by decide +kernel⟩
abbrev t9:Stmt:=top 51
theorem xk:be ["_law_open_ends","_law_letter","_law_near","_law_far"] ["_law_open_ends","_law_letter"] (bC t9):=⟨rfl,rfl,rfl,by decide +kernel,rfl,by decide +kernel,by decide +kernel⟩
abbrev rR:Stmt:=top 52
theorem mz:be ["_law_open_ends","_law_found","_law_letter","_law_row","_law_near","_law_far","_law_ends","_law_piece","_law_side","_law_k"] ["_law_open_ends","_law_found","_law_letter","_law_row"] (bC rR):=⟨rfl,rfl,rfl,by decide +kernel,rfl,by decide +kernel,by decide +kernel⟩
abbrev nu:Stmt:=top 53
theorem h7:be ["_law_open_ends","_law_found","_law_row","_law_near","_law_far","_law_ends","_law_target","_law_letter"] ["_law_open_ends","_law_found","_law_row"] (bC nu):=⟨rfl,rfl,rfl,by decide +kernel,rfl,by decide +kernel,by decide +kernel⟩
abbrev p7:Stmt:=top 54
theorem Eg:be ["_law_many"] ["_law_many"] (bC p7):=⟨rfl,rfl,rfl,by decide +kernel,rfl,by decide +kernel,by decide +kernel⟩
abbrev kE:Stmt:=top 55
theorem kK:be ["_law_open_ends","_law_row","_law_digit","_law_many","_law_found","_law_letter","_law_after"] ["_law_open_ends","_law_row","_law_digit"] (bC kE):=⟨rfl,rfl,rfl,by decide +kernel,rfl,by decide +kernel,by decide +kernel⟩
abbrev nq:Stmt:=top 56
theorem kJ:be ["_law_side","_law_digits_here","_law_open_ends","_law_found","_law_row","_law_digit","_law_letters"] ["_law_side","_law_digits_here"] (bC nq):=⟨rfl,rfl,rfl,by decide +kernel,rfl,by decide +kernel,by decide +kernel⟩
abbrev jK:Stmt:=top 57
theorem f6:be ["_law_side","_law_found","_law_order","_law_row","_law_k","_law_last","_law_bow","_law_after"] ["_law_side","_law_found"] (bC jK):=⟨rfl,rfl,rfl,by decide +kernel,rfl,by decide +kernel,by decide +kernel⟩
abbrev jO:Stmt:=top 58
theorem vt:be ["_law_side","_law_digits_here"] ["_law_side","_law_digits_here"] (bC jO):=⟨rfl,rfl,rfl,by decide +kernel,rfl,by decide +kernel,by decide +kernel⟩
abbrev pc:Stmt:=top 59
theorem ni:be ["_law_maze","_law_rows","_law_found","_law_k","_law_j"] ["_law_maze"] (bC pc):=⟨rfl,rfl,rfl,by decide +kernel,rfl,by decide +kernel,by decide +kernel⟩
abbrev pX:Stmt:=top 61
theorem ot:be ["_law_bows_here","_law_tall_here","_law_width","_law_bow","_law_one"] ["_law_bows_here"] (bC pX):=⟨rfl,rfl,rfl,by decide +kernel,rfl,by decide +kernel,by decide +kernel⟩
abbrev kF:Stmt:=top 62
theorem dF:be ["_law_maze","_law_bows_here","_law_tall_here","_law_over","_law_columns","_law_last","_law_signs","_law_at","_law_k","_law_bow","_law_column","_law_line","_law_row","_law_ring","_law_lines"] ["_law_maze"] (bC kF):=⟨rfl,rfl,rfl,by decide +kernel,rfl,by decide +kernel,by decide +kernel⟩
abbrev gk:Stmt:=top 39
theorem gK:be ["text","cells","line","signs","column","sign"] ["text"] (bC gk):=⟨rfl,rfl,rfl,by decide +kernel,rfl,by decide +kernel,by decide +kernel⟩
abbrev gl:Stmt:=top 40
theorem kt:be ["cell","line","column"] ["cell"] (bC gl):=⟨rfl,rfl,rfl,by decide +kernel,rfl,by decide +kernel,by decide +kernel⟩
abbrev eC:Stmt:=top 41
theorem dn:be ["cells","ahead","trail","met","here"] ["cells"] (bC eC):=⟨rfl,rfl,rfl,by decide +kernel,rfl,by decide +kernel,by decide +kernel⟩
abbrev eT:Stmt:=top 42
theorem dz:be ["trail","side","order","here","ahead","ring"] ["trail"] (bC eT):=⟨rfl,rfl,rfl,by decide +kernel,rfl,by decide +kernel,by decide +kernel⟩
abbrev fU:Stmt:=top 43
theorem pW:be ["text","maze"] ["text","maze"] (bC fU):=⟨rfl,rfl,rfl,by decide +kernel,rfl,by decide +kernel,by decide +kernel⟩
abbrev t6:Stmt:=top 44
theorem C4:be ["text","trail"] ["text"] (bC t6):=⟨rfl,rfl,rfl,by decide +kernel,rfl,by decide +kernel,by decide +kernel⟩
abbrev pZ:Stmt:=top 45
theorem Ef:be ["text"] ["text"] (bC pZ):=⟨rfl,rfl,rfl,by decide +kernel,rfl,by decide +kernel,by decide +kernel⟩
abbrev nj:Stmt:=top 49
theorem C3:be ["_law_found"] ["_law_found"] (bC nj):=⟨rfl,rfl,rfl,by decide +kernel,rfl,by decide +kernel,by decide +kernel⟩
abbrev ou:Stmt:=top 63
theorem nC:be ["_law_script","_law_maze","_law_due","_law_text","_law_one","_law_found","_law_ring"] ["_law_script"] (bC ou):=⟨rfl,rfl,rfl,by decide +kernel,rfl,by decide +kernel,by decide +kernel⟩
structure oJ (mg:Str->Option Value):Prop where
 len:mg "len"=none
 range:mg "range"=none
 enumerate:mg "enumerate"=none
 int:mg "int"=none
 list:mg "list"=none
 tuple:mg "tuple"=none
 isinstance:mg "isinstance"=none
 str:mg "str"=none
 bool:mg "bool"=none
 sorted:mg "sorted"=none
 all:mg "all"=none
 any:mg "any"=none
 zip:mg "zip"=none
 max:mg "max"=none
 min:mg "min"=none
 reversed:mg "reversed"=none
 ValueError:mg "ValueError"=none
 MOST_RINGS:∃ t,mg "MOST_RINGS"=some (.int 20 t)
 WALL:∃ t,mg "WALL"=some (.str (Str.ofString "#") t)
 OPEN_CELL:∃ t,mg "OPEN_CELL"=some (.str (Str.ofString ".") t)
 MOUTH:∃ t,mg "MOUTH"=some (.str (Str.ofString "v") t)
 MIDDLE:∃ t,mg "MIDDLE"=some (.str (Str.ofString "@") t)
local macro_rules | `(tactic| walk_at "wp") => `(tactic| (try dsimp (maxSteps := 3000000) only [L2.B0, L2.MQ, L2.KC, L2.Ju, L2.Gf, L2.MR, L2.B2, L2.Jv, L2.w_and, L2.w_or, L2.w_not, L2.Bp, L2.GX, L2.B8, L2.KL, L2.GV, L2.w_next, L2.Gd, L2.Bn, L2.Bk, L2.GW, L2.B5, L2.Ga, L2.Gg, L2.zD, L2.B4, L2.B3, L2.GY, L2.Bo, L2.KY, L2.GT, L2.GZ, L2.w_call, L2.KZ, L2.Ge, L2.zM, L2.vU, L2.Bj, L2.Bi, L2.Bg, L2.Be, L2.Bc, L2.Bh, L2.Gc, L2.vT, L2.GU, L2.B1, L2.zJ, L2.zI, L2.zL, L2.zK, L2.zH, L2.zF, L2.zE, L2.Bf, L2.B9, L2.zC, L2.zA, L2.zB, L2.Bb, L2.w_getS, L2.Bd, L2.Bm, L2.Bl, L2.zG, L2.yz, L2.Jx, L2.B7, L2.vR]); (try simp (maxSteps := 3000000) only [L2.HE, L2.B0, L2.MQ, L2.KC, L2.Ju, L2.Lf, L2.M3, L2.M1, L2.KU, L2.KF, L2.Gb, L2.KD, L2.KW, L2.KG, L2.KS, L2.KR, L2.HP, L2.Hc, L2.Gf, L2.Le, if_true, if_false, bN, L2.MR, L2.KQ, L2.HN, L2.HV, L2.HS, L2.HU, L2.HQ, L2.HR, L2.HI, L2.KI, L2.KJ, L2.KH, L2.K0, L2.KA, L2.B2, L2.Jv, L2.w_and, L2.w_or, L2.w_not, L2.Bp, L2.GX, L2.B8, L2.KL, L2.GV, L2.w_next, L2.Gd, L2.Bn, L2.Bk, L2.GW, L2.B5, L2.Ga, L2.Gg, L2.zD, L2.B4, L2.B3, L2.GY, L2.Bo, L2.KY, L2.GT, L2.GZ, L2.w_call, L2.KZ, L2.Ge, L2.zM, L2.vU, L2.Bj, L2.Bi, L2.Bg, L2.Be, L2.Bc, L2.HK, L2.EY, cV, decide_eq_true_eq, Bool.not_eq_true', decide_eq_false_iff_not, L2.EZ, L2.Bh, L2.Gc, L2.vT, L2.GU, L2.B1, L2.EV, L2.HG, L2.KO, L2.B6, L2.HM, L2.zJ, L2.zI, L2.zL, L2.zK, L2.zH, L2.zF, L2.zE, L2.HL, L2.Ba, L2.Bf, L2.B9, L2.KP, L2.zC, L2.zA, L2.zB, L2.Bb, L2.w_getS, L2.EX, L2.Bd, L2.Bm, L2.Bl, L2.zG, L2.HW, L2.Jz, L2.Jy, L2.yz, L2.Jx, L2.B7, L2.vR, L2.Jw, L2.w_rev, L2.ET, L2.E3, L2.E1, L2.HH, L2.HF, L2.HJ, L2.EW, L2.KM, L2.E4, L2.HZ, L2.HX, L2.HY, L2.EU, L2.E2]))
section
variable {P:Program} {w:World} {K:PySem.W.Frag} {mg:Str->Option Value} {base:Heap}
theorem wW (E:Fn K mg "crossing" jP ["bows"]):eO P w K mg base 1 "crossing" jP ["bows"] rM:=E.mk' λf fd F=>by
 refine F.okS j9 (λvs H Q E h=>?_) (λcdv A outer s H vs Q E hr h=>?_)
 ·obtain⟨l,ps,rfl,_⟩:=h;rfl
 ·obtain⟨l,ps,rfl,bo,qn,qs⟩:=h;obtain⟨as,b1,bl,bg⟩:=bo.get;refine⟨[some (.ref l),none,none,none,none],_,rfl,(L2.jE.h (aI (c8 aZ rfl (eZ (a8 0)) (ke (n:=2) rfl (dq (bM (i:=1) j9.nd rfl (Or.inl rfl)) (dq (bM (i:=2) j9.nd rfl (Or.inl rfl)) ja)))
   (aL (c8 aZ rfl (eZ (a8 0)) (ke (n:=2) rfl (dq (bM (i:=3) j9.nd rfl (Or.inl rfl)) (dq (bM (i:=4) j9.nd rfl (Or.inl rfl)) ja)))
    (aL (ce (xp nG nG nG (a8 1) (a8 3) (a8 2) (a8 4))
     (aL (bT (dE (eE (dE (aG (a8 1) (aG (a8 2) aC))) (eE (dE (aG (a8 3) (aG (a8 4) aC))) aC)))))
     bh)))))
   (aL (bT pA)))),?_⟩
  walk_at "wp";refine⟨⟨_,bv.of b1⟩,g6 (xs:=as.map V.ref) (λi σ H2=>∃x1 x2 x3 x4:Option V,σ=[some (.ref l),x1,x2,x3,x4]/\H2=H/\∀p∈ps.take i,∀q∈ps,eU p q=false) ⟨none,none,none,none,rfl,rfl,λp hp=>by simp at hp⟩ (λi σ H2 _ ⟨_,_,_,_,_,e,_⟩=>by rw[e];exact bv.of b1) ?_ ?_⟩
  ·rintro i x σ H2 hx ⟨x1,x2,x3,x4,rfl,rfl,hn⟩;obtain⟨a,p,rfl,hp,ta⟩:=bg i x hx;walk_at "wp";refine⟨_,dA.of ta,rfl,?_⟩;walk_at "wp";refine⟨⟨_,bv.of b1⟩,g6 (xs:=as.map V.ref) (λj σ H3=>∃x3 x4:Option V,σ=[some (.ref l),some (.int p.1),some (.int p.2),x3,x4]/\H3=H2/\∀q∈ps.take j,eU p q=false) ⟨x3,x4,rfl,rfl,λp hp=>by simp at hp⟩ (λi σ H2 _ ⟨_,_,_,e,_⟩=>by rw[e];exact bv.of b1) ?_ ?_⟩
   ·rintro j y σ H3 hy ⟨y3,y4,rfl,rfl,hm⟩;obtain⟨c,q,rfl,hq,tc⟩:=bg j y hy;walk_at "wp";refine⟨_,dA.of tc,rfl,?_⟩;walk_at "wp";have nx:eU p q=false->∃x3 x4:Option V,[some (V.ref l),some (V.int p.1),some (V.int p.2),some (V.int q.1),some (V.int q.2)]=[some (V.ref l),some (V.int p.1),some (V.int p.2),x3,x4]/\True/\∀q∈ps.take (j+1),eU p q=false:=λe=>by
     refine⟨_,_,rfl,trivial,λq' hq'=>?_⟩;rw[bF,hq] at hq';rcases aU.mp hq' with z | z
     ·exact hm q' z
     ·have e':q'=q:=by simpa using z
      rw[e'];exact e
    refine hZ (λh1=>hZ (λh2=>hZ (λh3=>?_) (λh3=>nx (by simp[eU,h3]))) (λh2=>nx (by simp[eU,h2]))) (λh1=>nx (by simp[eU,h1]));refine⟨(by show 2<=sizeLine;decide),λt1 n1=>⟨(by show 2<=sizeLine;decide),λt2 n2=>⟨(by show 2<=sizeLine;decide),λt3 n3=>?_⟩⟩⟩;have s1:ak H3 (upd H3 t1 (.tup [.int p.1,.int p.2])):=(ak.refl _).new n1;have s2:=s1.new (o:=.tup [.int q.1,.int q.2]) (s1.free n2);have s3:=s2.new (o:=.tup [.ref t1,.ref t2]) (s2.free n3);have e12:t1≠t2:=λe=>by subst e;rw[aD] at n2;cases n2
    have e23:t2≠t3:=λe=>by subst e;rw[aD] at n3;cases n3
    have e13:t1≠t3:=λe=>by subst e;rw[aP e12,aD] at n3;cases n3
    refine qs p (aR hp) q (aR hq) (by simp[eU,h1,h2,h3]) t3 t1 t2 _ (s2.free n3) s3 aD ?_ ?_
    ·show upd _ _ _ t1=_;rw[aP e13,aP e12,aD]
    ·show upd _ _ _ t2=_;rw[aP e23,aD]
   ·rintro σ H3 ⟨y3,y4,rfl,rfl,hm⟩;refine⟨_,_,y3,y4,rfl,rfl,λp' hp'=>?_⟩;rw[bF,hp] at hp';rcases aU.mp hp' with z | z
    ·exact hn p' z
    ·have e:p'=p:=by simpa using z
     subst e;intro q hq;refine hm q ?_;rw[aA,bl,bW];exact hq
  ·rintro σ H2 ⟨x1,x2,x3,x4,rfl,rfl,hn⟩;walk_at "wp";refine qn λp hp=>hn p ?_;rw[aA,bl,bW];exact hp
theorem wR (B:oJ mg) (E:Fn K mg "is_whole" jL ["thing"]):eO P w K mg base 1 "is_whole" jL ["thing"] (oh K):=E.mk' λf fd F=>by
 refine F.okS vp (λvs H Q E h=>?_) (λcdv A outer s H vs Q E hr h=>?_)
 ·obtain⟨x,t,b,c,rfl,_⟩:=h;rfl
 ·obtain⟨x,t,b,c,rfl,ty,e1,e2,q⟩:=h;refine⟨[some x],_,rfl,(L2.jE.h (aL (bT (kf (bG iC (by rfl) B.isinstance b9 (aG (a8 0) (aG (iB (v:=.ty "int") (by rfl) B.int dS rfl) aC))) (mD (zh (bG iC (by rfl) B.isinstance b9 (aG (a8 0) (aG (iB (v:=.ty "bool") (by rfl) B.bool mK rfl) aC))))))))),?_⟩;walk_at "wp";refine⟨_,_,_,b,rfl,ty,e1,?_⟩;walk_at "wp";cases b with
  | false=>exact JU q
  | true=>exact JT ⟨_,_,_,c,rfl,ty,e2,_,rfl,q⟩
theorem xy (G_SIDES:∃a,mg "SIDES"=some (.ref a)/\∀H,dA K H a (([("l":Str),"r"]:List Str).map V.str)) (E:Fn K mg "is_side" kD ["thing"]):eO P w K mg base 1 "is_side" kD ["thing"] vf:=E.mk' λf fd F=>by
 refine F.okS xh (λvs H Q E h=>?_) (λcdv A outer s H vs Q E hr h=>?_)
 ·obtain⟨x,d,rfl,_⟩:=h;rfl
 ·obtain⟨x,d,rfl,hd,pl,q⟩:=h;refine⟨[some x],_,rfl,(L2.jE.h (aL (bT (eQ (DV (qW hr)) (a8 0) (uD (by rfl) G_SIDES) (by with_unfolding_all rfl))))),?_⟩;walk_at "wp";intro a ha;refine⟨d,[.str (Str.ofString "l"),.str (Str.ofString "r")],a,_,hd.rep,rfl,.inr (ha H),.cons (.str _) (.cons (.str _) .nil),pl.lay,by decide +kernel,pl.deep,?_⟩;rw[C2];exact q
theorem wU (B:oJ mg) (E:Fn K mg "is_order" jM ["thing"]) (D_is_whole:eO P w K mg base 1 "is_whole" jL ["thing"] (oh K)):eO P w K mg base 2 "is_order" jM ["thing"] tU:=E.mk' λf fd F=>by
 refine F.okS vq (λvs H Q E h=>?_) (λcdv A outer s H vs Q E hr h=>?_)
 ·obtain⟨x,d,rfl,_⟩:=h;rfl
 ·obtain⟨x,d,rfl,hd,q⟩:=h;refine⟨[some x],_,rfl,(L2.jE.h (aI (ce (QW.pt (ph (i7 (iH (bG iC (by rfl) B.isinstance b9 (aG (a8 0) (aG (iB (v:=.ty "tuple") (by rfl) B.tuple dD rfl) aC))))) (ox (bX qU (bG bS (by rfl) B.len bH (aG (a8 0) aC)) (A7 (by rfl) B.MOST_RINGS) (bq _)))))
   (aL (bT kx))
   bh)
   (aI (ce (i7 (iH (bG (xC rfl) (by rfl) B.all PyProof.Rows.boot_all (i8 (lO (own:=["ring"]) (ns:=[]) (caps:=[]) rfl ⟨rfl,by decide +kernel,by decide +kernel,by decide +kernel⟩ .nil (qu (a8 0)) (λC s H fp pn=>(bM (i:=0) (show List.Nodup ((["ring"]:List Str)++([]:List Str)) by decide +kernel) rfl (Or.inl rfl))) (λC s H fp pn=>mC) (λC s H fp pn=>(ac D_is_whole (hr.mono (by decide)) (by rfl) (aG (a8 0) aC)))) aC))))
   (aL (bT kx))
   bh)
   (aL (bT (eQ (xv (qW hr)) (bG pL (by rfl) B.sorted eM (aG (a8 0) aC)) (d8 (tM rfl) (by rfl) B.list di (Cp (d8 BJ (by rfl) B.range PyProof.Rows.boot_range (cB aE (ck (ae c7 (bG bS (by rfl) B.len bH (aG (a8 0) aC)) aE) aC))) aC)) (bq _))))))),?_⟩
  cases id hd with
  | tup h1 h2=>
   rename_i a xs ds;walk_at "wp";refine kH hd ?_;walk_at "wp";refine pH (by simp[L6]) ⟨_,.inr (dA.of h1),?_⟩;have hl:=h2.len;refine hZ (λhn=>?_) (λhn=>?_)
   ·have e:qB (.tuple ds)=false:=by
     show (decide (ds.length<=20)&&_)=false;rw[decide_eq_false (by omega)];rfl
    rw[e] at q;exact q H (ak.refl _)
   ·have hn':xs.length<=20:=by omega
    have hz:xs.length<=sizeLine:=bf (bO (by omega));have hds:ds.length=xs.length:=hl.symm;have e0:qB (.tuple ds)=(ds.all i5&&(ds.map intOf).isPerm (gV 1 ds.length)):=by
     show (decide (ds.length<=20)&&_)=_;rw[decide_eq_true (by omega)];rfl
    rw[e0] at q;refine⟨⟨_,dA.of h1⟩,BH (dA.of h1) hz ((ds.map i5).map V.bl) (by simp[hds]) (λi x y Q' hx hy hq=>?_) λp1 n1=>?_⟩
    ·obtain⟨d,hd1,hd2⟩:=h2.get hx;walk_at "wp";refine vO hd2 ?_;have ey:y=V.bl (i5 d):=by simp[hd1] at hy;exact hy.symm
     rw[ey] at hq;exact hq
    ·have s1:ak H (upd H p1 (.lst ((ds.map i5).map V.bl))):=(ak.refl _).new n1;refine⟨p1,_,rfl,bv.of aD,_,rfl,?_⟩;have ea:(ds.map i5).all id=ds.all i5:=by rw[List.all_map];rfl
     cases hb:ds.all i5 with
     | false=>
      rw[hb] at q;exact sS (show (ds.map i5).all id=false by rw[ea,hb]) (q _ s1)
     | true=>
      rw[hb,fH] at q;rw[jY] at hb;have hq1:=s1 _ _ h1;have ex:xs=(ds.map intOf).map V.int:=by
       apply ko;intro i;cases e:xs[i]? with
       | none=>
        have:xs.length<=i:=by rw[<-List.getElem?_eq_none_iff];exact e
        rw[dW (by simp;omega)]
       | some x=>
        obtain⟨d,hd1,hd2⟩:=h2.get e;have hw:=xL (hb d (aR hd1));rw[hw] at hd2;cases hd2;simp[hd1]
      refine pH (show ¬(ds.map i5).all id=false by rw[ea,jY.mpr hb];decide) ⟨a,ds.map intOf,rfl,.inr (by rw[<-ex];exact dA.of hq1),by rw[aA];omega,λl5 ms n5 hp hs=>?_⟩;have s5:=s1.new (o:=.lst (ms.map V.int)) (s1.free n5);walk_at "wp";refine⟨_,.inr (dA.of (s5 _ _ h1)),λp6 n6=>⟨1,_,aD,⟨by decide,by decide,by omega,by omega,by omega⟩,λl7 n7=>?_⟩⟩;have s6:=s5.new (o:=.rng 1 ((xs.length:Int)+1)) (s5.free n6);have n56:l5≠p6:=λe=>by subst e;rw[aD] at n6;cases n6
      have n57:l5≠l7:=λe=>by subst e;rw[aP n56,aD] at n7;cases n7
      have eN:((xs.length:Int)+1 - 1).toNat=(ds.map intOf).length:=by rw[aA];omega
      refine EC (bv.of (by rw[aP n57,aP n56,aD])) (bv.of aD) ?_;rw[eN,ui hp hs];rw[aA];exact q _ (s6.new (s6.free n7))
  | _=>
   walk_at "wp";refine kH hd ?_;walk_at "wp";exact sS (by rfl) (q H (ak.refl _))
theorem yB (B:oJ mg) (E:Fn K mg "is_maze" jN ["thing"]) (D_is_side:eO P w K mg base 1 "is_side" kD ["thing"] vf) (D_is_order:eO P w K mg base 2 "is_order" jM ["thing"] tU):eO P w K mg base 3 "is_maze" jN ["thing"] rJ:=E.mk' λf fd F=>by
 refine F.okS xi (λvs H Q E h=>?_) (λcdv A outer s H vs Q E hr h=>?_)
 ·obtain⟨x,d,rfl,_⟩:=h;rfl
 ·obtain⟨x,d,rfl,hd,pl,q⟩:=h;refine⟨[some x],_,rfl,(L2.jE.h (aI (ce (QW.pt (ph (i7 (iH (bG iC (by rfl) B.isinstance b9 (aG (a8 0) (aG (iB (v:=.ty "tuple") (by rfl) B.tuple dD rfl) aC))))) (ox (bX uG (bG bS (by rfl) B.len bH (aG (a8 0) aC)) aE (bq _)))))
   (aL (bT kx))
   bh)
   (aL (bT (kf (ac D_is_side (hr.mono (by decide)) (by rfl) (aY (a9 bx (a8 0) aE (λ_ _=>rfl)) aC)) (mD (ac D_is_order (hr.mono (by decide)) (by rfl) (aY (a9 bx (a8 0) aE (λ_ _=>rfl)) aC)))))))),?_⟩
  cases id hd with
  | tup h1 h2=>
   rename_i a xs ds;walk_at "wp";refine kH hd ?_;walk_at "wp";refine pH (by simp[L6]) ⟨_,.inr (dA.of h1),?_⟩;have hl:=h2.len;refine hZ (λhn=>?_) (λhn=>?_)
   ·have e:wb (.tuple ds)=false:=by
     match ds,hl with
     | [],_=>rfl
     | [u],_=>rfl
     | [u,v],hl=>exact absurd (by rw[hl];rfl) hn
     | u::v::w::r,_=>rfl
    rw[e] at q;exact q H (ak.refl _)
   ·have hn':xs.length=2:=by
     have:(xs.length:Int)=2:=iw.mp hn;omega
    obtain⟨d,e,rfl⟩:∃d e,ds=[d,e]:=match ds,hl.symm.trans hn' with
     | [u,v],_=>⟨u,v,rfl⟩
    obtain⟨x,y,rfl,hx,hy⟩:=Fy h2;have hlay:d.canLay0=true:=by
     have:(PyData.canLay0 d&&(PyData.canLay0 e&&true))=true:=pl.lay;rw[aX] at this;exact this.1
    have hdp:d.depth<=60:=by
     have:max d.depth (max e.depth 0)+1<=60:=pl.deep;omega
    refine⟨_,x,dA.of h1,rfl,x,d,rfl,hx,⟨hlay,hdp⟩,?_⟩;walk_at "wp";cases es:qR d with
    | false=>
     refine JU ?_;have e:wb (.tuple [d,e])=false:=by show (qR d&&_)=false;rw[es];rfl
     rw[e] at q;exact q H (ak.refl _)
    | true=>
     have e:wb (.tuple [d,e])=qB e:=by show (qR d&&_)=_;rw[es];rfl
     rw[e] at q;exact JT ⟨_,y,dA.of h1,rfl,y,_,rfl,hy,q⟩
  | _=>
   walk_at "wp";refine kH hd ?_;walk_at "wp";exact sS (by rfl) (q H (ak.refl _))
theorem sy (E:Fn K mg "other_side" gj ["side"]):eO P w K mg base 1 "other_side" gj ["side"] zW:=E.mk' λf fd F=>by
 refine F.okS su (λvs H Q E h=>?_) (λcdv A outer s H vs Q E hr h=>?_)
 ·obtain⟨b,rfl,_⟩:=h;rfl
 ·obtain⟨b,rfl,q⟩:=h;refine⟨[some (.str (sd b))],_,rfl,(L2.jE.h (aL (bT (uC (bX gx (a8 0) cI (bq _)) cI cI)))),?_⟩;walk_at "wp";simp only[Lp];refine hZ (λh=>?_) (λh=>?_)
  ·subst h;exact q
  ·have e:b=true:=by cases b;exact absurd rfl h;rfl
   subst e;exact q
theorem qb (E:Fn K mg "side_of_step" fm ["maze","step"]) (D_other_side:eO P w K mg base 1 "other_side" gj ["side"] zW):eO P w K mg base 2 "side_of_step" fm ["maze","step"] vc:=E.mk' λf fd F=>by
 refine F.okS mW (λvs H Q E h=>?_) (λcdv A outer s H vs Q E hr h=>?_)
 ·obtain⟨m,o,b,ns,k,rfl,_⟩:=h;rfl
 ·obtain⟨m,o,b,ns,k,rfl,hm,q⟩:=h;refine⟨[some (.ref m),some (.int k),none],_,rfl,(L2.jE.h (aI (aj (i:=2) mW.nd rfl (Or.inl rfl) (a9 bx (a8 0) aE (λ_ _=>rfl)))
   (aL (bT (uC (bX gx (ae kP (a8 1) aE) aE (bq _)) (a8 2) (ac D_other_side (hr.mono (by decide)) (by rfl) (aG (a8 2) aC))))))),?_⟩
  walk_at "wp";refine⟨_,_,dA.of hm.1,rfl,?_⟩;refine⟨by decide,hZ (λh=>?_) (λh=>?_)⟩
  ·have e:odd k=false:=by simp[odd];omega
   rw[e,kY] at q;exact q
  ·have e:odd k=true:=by simp[odd];omega
   rw[e,Bool.xor_true] at q;exact⟨b,rfl,q⟩
theorem rh (B:oJ mg) (E:Fn K mg "rows_of_way" gL ["maze"]):eO P w K mg base 1 "rows_of_way" gL ["maze"] CS:=E.mk' λf fd F=>by
 refine F.okS my (λvs H Q E h=>?_) (λcdv A outer s H vs Q E hr h=>?_)
 ·obtain⟨m,o,b,ns,rfl,_⟩:=h;rfl
 ·obtain⟨m,o,b,ns,rfl,hm,hl,q⟩:=h;refine⟨[some (.ref m),none],_,rfl,(L2.jE.h (aI (aj (i:=1) my.nd rfl (Or.inl rfl) (a9 bx (a8 0) aE (λ_ _=>rfl)))
   (aL (bT (ae oR (ae oR (cv (cB aE aC)) (d8 pM (by rfl) B.list di (aG (a8 1) aC))) (cv (ck (ae c7 (bG bS (by rfl) B.len bH (aG (a8 1) aC)) aE) aC))))))),?_⟩
  walk_at "wp";refine⟨_,_,dA.of hm.1,rfl,(by show 1<=sizeLine;decide),λp1 n1=>?_⟩;have s1:=(ak.refl H).new (o:=.lst [.int 0]) n1;refine⟨o,_,rfl,.inr (dA.of (s1 _ _ hm.2)),λp2 n2=>?_⟩;have s2:=s1.new (o:=.lst (ns.map V.int)) (s1.free n2);have e12:p1≠p2:=λe=>by subst e;rw[aD] at n2;cases n2
  refine⟨p1,p2,_,_,rfl,rfl,by rw[aP e12,aD],aD,bf (bO (by simp;omega)),λp3 n3=>?_⟩;have s3:=s2.new (o:=.lst ([.int 0]++ns.map V.int)) (s2.free n3);refine⟨o,_,rfl,.inr (dA.of (s3 _ _ hm.2)),(by show 1<=sizeLine;decide),λp4 n4=>?_⟩;have s4:=s3.new (o:=.lst [.int (((ns.map V.int).length:Int)+1)]) (s3.free n4);have e34:p3≠p4:=λe=>by subst e;rw[aD] at n4;cases n4
  refine⟨p3,p4,_,_,rfl,rfl,by rw[aP e34,aD],aD,bf (bO (by simp;omega)),λp5 n5=>?_⟩;have s5:=s4.new (o:=.lst ([.int 0]++ns.map V.int++[.int (((ns.map V.int).length:Int)+1)])) (s4.free n5);refine q p5 _ (s4.free n5) s5 ?_;rw[aD];simp[eJ]
theorem yN (B:oJ mg) (E:Fn K mg "bows_of" jR ["maze"]) (D_side_of_step:eO P w K mg base 2 "side_of_step" fm ["maze","step"] vc) (D_rows_of_way:eO P w K mg base 1 "rows_of_way" gL ["maze"] CS):eO P w K mg base 3 "bows_of" jR ["maze"] rO:=E.mk' λf fd F=>by
 refine F.okS kN (λvs H Q E h=>?_) (λcdv A outer s H vs Q E hr h=>?_)
 ·obtain⟨m,o,b,ns,rfl,_⟩:=h;rfl
 ·obtain⟨m,o,b,ns,rfl,hm,O,q⟩:=h;have hlen:=O.len;refine⟨[some (.ref m),none,none,none,none],_,rfl,(L2.jE.h (aI (aj (i:=1) kN.nd rfl (Or.inl rfl) (ac D_rows_of_way (hr.mono (by decide)) (by rfl) (aG (a8 0) aC)))
   (aI (aj (i:=2) kN.nd rfl (Or.inl rfl) (Co (uB cI (cv aC) (uB cI (cv aC) Ci)) rfl rfl (λz=>nomatch z) (by decide)))
   (aI (c8 aZ rfl (iK (by rfl) B.range (ck (ae fw (bG bS (by rfl) B.len bH (aG (a8 1) aC)) aE) aC)) (bM (i:=3) kN.nd rfl (Or.inl rfl))
   (aI (aj (i:=4) kN.nd rfl (Or.inl rfl) (d8 lB (by rfl) B.tuple dD (ci (bG qK (by rfl) B.sorted eM (aY (pq za (a8 1) (nE (a8 3)) (nE (ae c7 (a8 3) aE))) aC)) aC)))
    (aL (cf (fJ am ay ax d9 (f7 (iZ hr) (a8 2) (ac D_side_of_step (hr.mono (by decide)) (by rfl) (aG (a8 0) (aG (a8 3) aC))) (λ_ _=>rfl)) (aG (a8 4) aC))))))
   (aL (bT (dE (ci (bG lU (by rfl) B.sorted eM (aY (f7 (iZ hr) (a8 2) cI (λ_ _=>rfl)) aC)) (ci (bG lU (by rfl) B.sorted eM (aY (f7 (iZ hr) (a8 2) cI (λ_ _=>rfl)) aC)) aC))))))))),?_⟩
  walk_at "wp";refine⟨m,o,b,ns,rfl,hm,by omega,λrl H1 nrl s1 hrl=>?_⟩;walk_at "wp";intro d nd;have sd1:=s1.new (o:=.dK []) (s1.free nd);refine⟨a6 _,λl1 nl1=>?_⟩;have edl:d≠l1:=λe=>by subst e;rw[aD] at nl1;cases nl1
  have sl1:=sd1.new (o:=.lst []) (sd1.free nl1);refine⟨a6 _,λr1 nr1=>?_⟩;have edr:d≠r1:=λe=>by subst e;rw[aP edl,aD] at nr1;cases nr1
  have elr:l1≠r1:=λe=>by subst e;rw[aD] at nr1;cases nr1
  have sr1:=sl1.new (o:=.lst []) (sl1.free nr1);refine⟨by rw[aP edr,aP edl,aD],[(.inr (Str.ofString "l"),.ref l1),(.inr (Str.ofString "r"),.ref r1)],rfl,(by show 2<=15;decide),?_⟩;have fd0:H d=none:=s1.free nd;have fl0:H l1=none:=sd1.free nl1;have fr0:H r1=none:=sl1.free nr1;have erl:rl≠d:=au hrl nd;have erl1:rl≠l1:=au (((ak.refl H1).new (o:=.dK []) nd) _ _ hrl) nl1;have erl2:rl≠r1:=au ((((ak.refl H1).new (o:=.dK []) nd).new (o:=.lst []) (((ak.refl H1).new (o:=.dK []) nd).free nl1)) _ _ hrl) nr1;generalize hkv:oU [] [((.inr (Str.ofString "l"):Key),V.ref l1),(.inr (Str.ofString "r"),.ref r1)]=kvs;have kl:dy kvs (.inr (Str.ofString "l"))=some (.ref l1):=by subst hkv;rfl
  have kr:dy kvs (.inr (Str.ofString "r"))=some (.ref r1):=by subst hkv;rfl
  have ks:∀s:Bool,dy kvs (.inr (sd s))=some (.ref (if s then r1 else l1)):=λs=>by cases s;exact kl;exact kr
  refine⟨_,.inl (bv.of (by rw[aP erl,aP erl2,aP erl1,aP erl];exact hrl)),by rw[aA,iS];omega,by rw[aA,iS];omega,?_⟩;have eN:(((eJ ns).map V.int).length - 1:Int).toNat=ns.length+1:=by rw[aA,iS];omega
  rw[eN];refine fV (n:=ns.length+1) (λi σ H2=>∃(x3 x4:Option V),σ=[some (.ref m),some (.ref rl),some (.ref d),x3,x4]/\ak H H2/\H2 rl=some (.lst ((eJ ns).map V.int))/\H2 d=some (.dK kvs)/\cY H2 l1 (bJ b ns false i)/\cY H2 r1 (bJ b ns true i))
   ⟨none,none,rfl,sr1.new fd0,by rw[aP erl,aP erl2,aP erl1,aP erl];exact hrl,aD,⟨[],by rw[aP edl.symm,aP elr,aD];rfl,.nil⟩,⟨[],by rw[aP edr.symm,aD];rfl,.nil⟩⟩ ?_ ?_
  ·rintro i σ H2 hi ⟨x3,x4,rfl,sm,hrl2,hd2,bl,br⟩;walk_at "wp";refine⟨rl,_,rfl,bv.of hrl2,λp1 n1=>?_⟩;rw[GC (by omega)];have t1:=(ak.refl H2).new (o:=.lst ([bQ ns i,bQ ns (i+1)].map V.int)) n1;refine⟨p1,_,rfl,bv.of aD,(by show 2<64;decide),λp2 ms n2 hp hs=>?_⟩;rw[xO hp hs];have t2:=t1.new (o:=.lst ([min (bQ ns i) (bQ ns (i+1)),max (bQ ns i) (bQ ns (i+1))].map V.int)) (t1.free n2);refine⟨p2,_,rfl,.inl ⟨bv.of aD,λt n3=>?_⟩⟩;have t3:=t2.new (o:=.tup ([min (bQ ns i) (bQ ns (i+1)),max (bQ ns i) (bQ ns (i+1))].map V.int)) (t2.free n3);have sm3:=sm.trans t3;refine⟨m,o,b,ns,i,by simp,hm.same sm3,?_⟩;have bl3:=bl.same t3;have br3:=br.same t3;refine⟨_,.inl ⟨kvs,.inr (sd (b ^^ odd i)),.inl (t3 _ _ hd2),rfl,(ks _).symm⟩,?_⟩;have tt:bZ (upd (upd (upd H2 p1 (.lst ([bQ ns i,bQ ns (i+1)].map V.int))) p2 (.lst ([min (bQ ns i) (bQ ns (i+1)),max (bQ ns i) (bQ ns (i+1))].map V.int))) t (.tup ([min (bQ ns i) (bQ ns (i+1)),max (bQ ns i) (bQ ns (i+1))].map V.int))) t (cH ns i):=aD;generalize upd (upd (upd H2 p1 (.lst ([bQ ns i,bQ ns (i+1)].map V.int))) p2 (.lst ([min (bQ ns i) (bQ ns (i+1)),max (bQ ns i) (bQ ns (i+1))].map V.int))) t (.tup ([min (bQ ns i) (bQ ns (i+1)),max (bQ ns i) (bQ ns (i+1))].map V.int))=H3 at *;cases hs:(b ^^ odd i) with
   | false=>
    have h1:cQ b false i=true:=by simp[cQ,hs]
    have h2:cQ b true i=false:=by simp[cQ,hs]
    rw[i6 h1,j7 h2];obtain⟨as,b1,b2⟩:=bl3;have ha:as.length=(bJ b ns false i).length:=bB b2;have:=gi b ns false i;refine⟨gw b1,l1,as.map V.ref,_,rfl,rfl,b1,by rw[aA];exact bO (by omega),_,_,rfl,sm3.new fl0,by rw[aP erl1];exact t3 _ _ hrl2,by rw[aP edl];exact t3 _ _ hd2,oG b1 b2 tt,ie br3 b1 elr.symm⟩
   | true=>
    have h1:cQ b true i=true:=by simp[cQ,hs]
    have h2:cQ b false i=false:=by simp[cQ,hs]
    rw[i6 h1,j7 h2];obtain⟨as,b1,b2⟩:=br3;have ha:as.length=(bJ b ns true i).length:=bB b2;have:=gi b ns true i;refine⟨gw b1,r1,as.map V.ref,_,rfl,rfl,b1,by rw[aA];exact bO (by omega),_,_,rfl,sm3.new fr0,by rw[aP erl2];exact t3 _ _ hrl2,by rw[aP edr];exact t3 _ _ hd2,ie bl3 b1 elr,oG b1 b2 tt⟩
  ·rintro σ H2 ⟨x3,x4,rfl,sm,hrl2,hd2,bl,br⟩;walk_at "wp";have bnd:∀s,∀p∈bJ b ns s (ns.length+1),0<=p.2/\p.2<1000:=λs p hp=>by
    obtain⟨i,hi,_,rfl⟩:=eX hp;have:=O.step_in (i:=i) (by omega);have:=O.step_lt (i:=i) (by omega);omega
   obtain⟨as,b1,b2⟩:=bl;have:=gi b ns false (ns.length+1);refine⟨_,.inl ⟨kvs,.inr (Str.ofString "l"),.inl hd2,rfl,kl.symm⟩,l1,as,_,rfl,bv.of b1,b2,by omega,bnd false,λl as' L nl hP hp hs=>?_⟩;have t1:=(ak.refl H2).new (o:=.lst (as'.map V.ref)) nl;obtain⟨bs,c1,c2⟩:=br.same t1;have:=gi b ns true (ns.length+1);refine⟨_,.inl ⟨kvs,.inr (Str.ofString "r"),.inl (t1 _ _ hd2),rfl,kr.symm⟩,r1,bs,_,rfl,bv.of c1,c2,by omega,bnd true,λr bs' R nr hP2 hp2 hs2=>?_⟩;have t2:=(ak.refl (upd H2 l (.lst (as'.map V.ref)))).new (o:=.lst (bs'.map V.ref)) nr;refine⟨(by show 2<=sizeLine;decide),λt nt=>?_⟩;have t3:=(ak.refl (upd (upd H2 l (.lst (as'.map V.ref))) r (.lst (bs'.map V.ref)))).new (o:=.tup [.ref l,.ref r]) nt;have elr2:l≠r:=λe=>by subst e;rw[aD] at nr;cases nr
   refine q t l r L R _ (sm.free (t1.free (t2.free nt))) (sm.free nl) (sm.free (t1.free nr)) (((sm.trans t1).trans t2).trans t3) ⟨aD,?_,?_,⟨hp,hs⟩,⟨hp2,hs2⟩,elr2⟩
   ·exact((uW (l:=l) hP nl).same t2).same t3
   ·exact(uW (l:=r) hP2 nr).same t3
theorem yL (B:oJ mg) (G_SIDES:∃a,mg "SIDES"=some (.ref a)/\∀H,dA K H a (([("l":Str),"r"]:List Str).map V.str)) (E:Fn K mg "crossed" jQ ["maze"]) (D_bows_of:eO P w K mg base 3 "bows_of" jR ["maze"] rO) (D_crossing:eO P w K mg base 1 "crossing" jP ["bows"] rM):eO P w K mg base 4 "crossed" jQ ["maze"] pU:=E.mk' λf fd F=>by
 refine F.okS ly (λvs H Q E h=>?_) (λcdv A outer s H vs Q E hr h=>?_)
 ·obtain⟨m,o,b,ns,rfl,_⟩:=h;rfl
 ·obtain⟨m,o,b,ns,rfl,hm,O,qn,qc⟩:=h;refine⟨[some (.ref m),none,none,none],_,rfl,(L2.jE.h (aI (c8 aZ rfl (Ck (by rfl) B.zip (aG (uD (by rfl) G_SIDES) (ci (ac D_bows_of (hr.mono (by decide)) (by rfl) (aG (a8 0) aC)) aC))) (ke (n:=2) rfl (dq (bM (i:=1) ly.nd rfl (Or.inl rfl)) (dq (bM (i:=2) ly.nd rfl (Or.inl rfl)) ja)))
   (aI (aj (i:=3) ly.nd rfl (Or.inl rfl) (ac D_crossing (hr.mono (by decide)) (by rfl) (aG (a8 2) aC)))
    (aL (ce (bX zj (a8 3) pA (bq _))
    (aL (bT (dE (aG (a8 1) (aY (a9 bx (a8 3) aE (λ_ _=>rfl)) (aY (a9 bx (a8 3) aE (λ_ _=>rfl)) aC))))))
    bh))))
   (aL (bT pA)))),?_⟩
  walk_at "wp";intro a ha;refine⟨m,o,b,ns,rfl,hm,O,λt l r L R H1 nt nl nr s1 BO=>⟨a,t,rfl,⟨_,ha _⟩,⟨_,dA.of BO.tup⟩,?_⟩⟩;refine Dx (xs:=[V.str (sd false),.str (sd true)]) (ys:=[.ref l,.ref r]) (aH _) (λi σ H'=>∃x1 x2 x3:Option V,σ=[some (.ref m),x1,x2,x3]/\ak H1 H'/\∀u:Bool,(if u then 2 else 1)<=i->∀p∈bJ b ns u (ns.length+1),∀q∈bJ b ns u (ns.length+1),eU p q=false)
   ⟨_,_,_,rfl,ak.refl _,λu hu=>by cases u<;>simp at hu⟩ (λi σ H' ⟨_,_,_,_,s2,_⟩=>⟨ha _,dA.of (s2 _ _ BO.tup)⟩) ?_ ?_
  ·rintro i x y σ H2 p hx hy ⟨x1,x2,x3,rfl,s2,hn⟩ np;obtain⟨u,lu,S,rfl,rfl,hBS,hS,hi⟩:∃(u:Bool) (lu:Addr) (S:List Bw),x=.str (sd u)/\y=.ref lu/\cY H2 lu S/\dh b ns u S/\i+1=(if u then 2 else 1):=by
    match i,hx,hy with
    | 0,hx,hy=>cases hx;cases hy;exact⟨false,l,L,rfl,rfl,BO.left.same s2,BO.isL,rfl⟩
    | 1,hx,hy=>cases hx;cases hy;exact⟨true,r,R,rfl,rfl,BO.right.same s2,BO.isR,rfl⟩
    | j+2,hx,hy=>simp at hx
   walk_at "wp";refine⟨_,dA.of aD,rfl,?_⟩;have s3:=(ak.refl H2).new (o:=.tup [.str (sd u),.ref lu]) np;walk_at "wp";refine⟨lu,S,rfl,hBS.same s3,λhc=>⟨trivial,?_⟩,λe1 h1 e2 h2 z t2 a2 b2 H3 nt2 s4 ht2 ta tb=>⟨trivial,?_⟩⟩
   ·walk_at "wp";refine pH (λz=>z trivial) ⟨_,_,_,rfl,s2.trans s3,λv hv=>?_⟩;by_cases e:v=u
    ·subst e;exact λp hp q hq=>hc p (hS.perm.mem_iff.mpr hp) q (hS.perm.mem_iff.mpr hq)
    ·refine hn v ?_;cases u<;>cases v<;>simp_all
   ·walk_at "wp";refine sS (λz=>nomatch z) ⟨_,_,dA.of ht2,rfl,_,_,dA.of ht2,rfl,(by show 3<=sizeLine;decide),λt3 nt3=>?_⟩;have s5:=(ak.refl H3).new (o:=.tup [.str (sd u),.ref a2,.ref b2]) nt3;exact qc u e1 (hS.perm.mem_iff.mp h1) e2 (hS.perm.mem_iff.mp h2) z t3 _ ((((s1.trans s2).trans s3).trans s4).trans s5) ⟨a2,b2,aD,s5 _ _ ta,s5 _ _ tb⟩
  ·rintro σ H2 ⟨x1,x2,x3,rfl,s2,hn⟩;walk_at "wp";exact qn (λu=>hn u (by cases u<;>decide)) _ (s1.trans s2)
theorem JC (E:Fn K mg "vet" t7 ["maze"]) (D_is_maze:eO P w K mg base 3 "is_maze" jN ["thing"] rJ) (D_crossed:eO P w K mg base 4 "crossed" jQ ["maze"] pU):eO P w K mg base 5 "vet" t7 ["maze"] CO:=E.mk' λf fd F=>by
 refine F.okS C5 (λvs H Q E h=>?_) (λcdv A outer s H vs Q E hr h=>?_)
 ·obtain⟨m,o,b,ns,rfl,_⟩:=h;rfl
 ·obtain⟨m,o,b,ns,rfl,hm,O,nc,q⟩:=h;refine⟨[some (.ref m),none],_,rfl,(L2.jE.h (aI (ce (i7 (iH (ac D_is_maze (hr.mono (by decide)) (by rfl) (aG (a8 0) aC))))
   (aL ny)
   bh)
   (aI (aj (i:=1) C5.nd rfl (Or.inl rfl) (ac D_crossed (hr.mono (by decide)) (by rfl) (aG (a8 0) aC)))
   (aI (ce (bX zj (a8 1) pA (bq _))
   (aL ny)
   bh)
   (aL (bT kx)))))),?_⟩
  walk_at "wp";refine⟨_,_,rfl,hm.dat,D7,λH1 s1=>?_⟩;rw[D8 O];walk_at "wp";refine⟨m,o,b,ns,rfl,hm.same s1,O,λnc H2 s2=>⟨trivial,?_⟩,λu p hp q' hq z=>by rw[nc u p hp q' hq] at z;cases z⟩;walk_at "wp";exact pH (λz=>z trivial) (q _ (s1.trans s2))
theorem F6 (E:Fn K mg "span" pY ["bow"]):eO P w K mg base 1 "span" pY ["bow"] CQ:=E.mk' λf fd F=>by
 refine F.okS Ee (λvs H Q E h=>?_) (λcdv A outer s H vs Q E hr h=>?_)
 ·obtain⟨a,p,rfl,_⟩:=h;rfl
 ·obtain⟨a,p,rfl,ta,q⟩:=h;refine⟨[some (.ref a)],_,rfl,(L2.jE.h (aL (bT (ae fw (a9 bx (a8 0) aE (λ_ _=>rfl)) (a9 bx (a8 0) aE (λ_ _=>rfl)))))),?_⟩;walk_at "wp";refine⟨_,_,dA.of ta,rfl,_,_,dA.of ta,rfl,?_⟩;walk_at "wp";exact q
theorem rj (E:Fn K mg "lies_within" gM ["inner","outer"]):eO P w K mg base 1 "lies_within" gM ["inner","outer"] vb:=E.mk' λf fd F=>by
 refine F.okS rQ (λvs H Q E h=>?_) (λcdv A outer s H vs Q E hr h=>?_)
 ·obtain⟨a,b,p,q,rfl,_⟩:=h;rfl
 ·obtain⟨a,b,p,q',rfl,ta,tb,q⟩:=h;refine⟨[some (.ref a),some (.ref b)],_,rfl,(L2.jE.h (aL (bT (kf (eQ nG (a9 bx (a8 1) aE (λ_ _=>rfl)) (a9 bx (a8 0) aE (λ_ _=>rfl)) (bq _)) (mD (eQ nG (a9 bx (a8 0) aE (λ_ _=>rfl)) (a9 bx (a8 1) aE (λ_ _=>rfl)) (bq _))))))),?_⟩;walk_at "wp";refine⟨_,_,dA.of tb,rfl,_,_,dA.of ta,rfl,?_⟩;walk_at "wp";refine hZ (λh1=>⟨_,_,dA.of ta,rfl,_,_,dA.of tb,rfl,?_⟩) (λh1=>?_)
  ·walk_at "wp";have e:jj p q'=decide (p.2<q'.2):=by show (decide (q'.1<p.1)&&_)=_;rw[decide_eq_true h1];rfl
   rw[e] at q;exact q
  ·have e:jj p q'=false:=by show (decide (q'.1<p.1)&&_)=_;rw[decide_eq_false h1];rfl
   rw[e] at q;exact q
theorem yD (B:oJ mg) (E:Fn K mg "heights" iR ["bows"]) (D_span:eO P w K mg base 1 "span" pY ["bow"] CQ) (D_lies_within:eO P w K mg base 1 "lies_within" gM ["inner","outer"] vb):eO P w K mg base 4 "heights" iR ["bows"] nZ:=E.mk' λf fd F=>by
 refine F.okS lq (λvs H Q E h=>?_) (λcdv A outer s H vs Q E hr h=>?_)
 ·obtain⟨l,ps,rfl,_⟩:=h;rfl
 ·obtain⟨l,ps,rfl,bo,nd,hl,q⟩:=h;refine⟨[some (.ref l),none,none,none],_,rfl,(L2.jE.h (aI (aj (i:=1) lq.nd rfl (Or.inr rfl) lM)
   (aI (c8 aZ rfl (eZ (A6 D_span (hr.mono (by decide)) (by rfl) B.sorted (by rfl) (a8 0))) (bM (i:=2) lq.nd rfl (Or.inr rfl))
   (aI (uA (i:=3) lq.nd rfl (Or.inl rfl) (own:=["other"]) (ns:=["known","bow"]) (caps:=[1,2]) rfl ⟨rfl,by decide +kernel,by decide +kernel,by decide +kernel⟩ (.cons rfl rfl (.inl rfl) (.cons rfl rfl (.inl rfl) .nil)) (a8 1) (λC s H fp pn=>(bM (i:=0) (show List.Nodup ((["other"]:List Str)++(["known","bow"]:List Str)) by decide +kernel) rfl (Or.inl rfl))) (λC s H fp pn=>(uv (iH (ac D_lies_within (hr.mono (by decide)) (by rfl) (aG (a8 0) (aG (a8 2) aC)))))) (λC s H fp pn=>(f7 (iZ hr) (a8 1) (a8 0) (λ_ _=>rfl))))
    (aL (ft (iZ hr) (a8 1) (a8 2) (ae c7 aE (wD rfl (by rfl) B.max (a8 3) aE)) rfl))))
   (aL (bT (lO (own:=["bow"]) (ns:=["known"]) (caps:=[1]) rfl ⟨rfl,by decide +kernel,by decide +kernel,by decide +kernel⟩ (.cons rfl rfl (.inl rfl) .nil) (eZ (a8 0)) (λC s H fp pn=>(bM (i:=0) (show List.Nodup ((["bow"]:List Str)++(["known"]:List Str)) by decide +kernel) rfl (Or.inl rfl))) (λC s H fp pn=>mC) (λC s H fp pn=>(f7 (iZ hr) (a8 1) (a8 0) (λ_ _=>rfl))))))))),?_⟩
  walk_at "wp";intro kn nkn;obtain⟨as,b1,b2⟩:=id bo;have hal:as.length=ps.length:=bB b2;have sk:=(ak.refl H).new (o:=.dT []) nkn;obtain⟨zz,eas,eps,hz⟩:=rY b2;refine⟨l,as.map V.ref,ps.map fG,rfl,bv.of (sk _ _ b1),by rw[aA];omega,by rw[aA,aA,hal],λi x k Q' hx hk hq=>?_,λl' zs nl' hp hs=>?_⟩
  ·rw[aS] at hx hk;cases ea:as[i]? with
   | none=>rw[ea] at hx;cases hx
   | some a=>
    rw[ea] at hx;cases hx;obtain⟨p,hp,ta⟩:=gX b2 ea;rw[hp] at hk;cases hk;exact⟨a,p,rfl,ta.same sk,hq⟩
  have ezip:(ps.map fG).zip (as.map V.ref)=zz.map λz=>(fG z.2,V.ref z.1):=by
   rw[eas,eps];clear eas eps hz b1 b2 hal hp hs bo nd hl q
   induction zz with
   | nil=>rfl
   | cons z zz ih=>
    simp only[bc] at ih;simp[ih]
  rw[ezip] at hp;obtain⟨ws,hw,rfl⟩:=wJ hp rfl;have hq1:(ws.map (·.2)).Perm ps:=by rw[eps];exact hw.map _
  have hsp:(ws.map (·.2)).Pairwise (λa b=>fG a<=fG b):=by
   rw[c9] at hs ⊢;exact hs
  have hwl:ws.length=ps.length:=by rw[hw.length_eq,eps,aA]
  have ndq:(ws.map (·.2)).Nodup:=hq1.nodup_iff.mpr nd;have tw:∀z∈ws,bZ H z.1 z.2:=λz m=>hz z (hw.mem_iff.mp m);have ew:(ws.map λz=>(fG z.2,V.ref z.1)).map (·.2)=ws.map λz=>V.ref z.1:=by rw[bc];rfl
  rw[ew];have nl0:H l'=none:=sk.free nl';have nkl:kn≠l':=λe=>by subst e;rw[aD] at nl';cases nl'
  refine⟨⟨_,bv.of aD⟩,g6 (xs:=ws.map λz=>V.ref z.1) (λi σ H2=>∃(x2 x3:Option V) (acc:Acc),σ=[some (.ref l),some (.ref kn),x2,x3]/\ak H H2/\H2 l'=some (.lst (ws.map λz=>V.ref z.1))/\H2 kn=some (.dT (dB acc))/\Kn (ws.map (·.2)) i acc)
   ⟨none,none,[],rfl,sk.new nl0,aD,by rw[aP nkl,aD];rfl,Kn.start _⟩ (λi σ H2 _ ⟨_,_,_,_,_,e,_⟩=>bv.of e) ?_ ?_⟩
  ·rintro i x σ H2 hx ⟨x2,x3,acc,rfl,sm,hl2,hk2,KN⟩;rw[aS] at hx;cases ez:ws[i]? with
   | none=>rw[ez] at hx;cases hx
   | some z=>
    rw[ez] at hx;cases hx;obtain⟨a,p⟩:=z;have hi:=(aF.mp ez).1;have ta:bZ H a p:=tw _ (aR ez);have ta2:=ta.same sm;have nak:a≠kn:=au ta nkn;have hqi:(ws.map (·.2))[i]? = some p:=by rw[aS,ez];rfl
    have hacc:acc.length=i:=KN.len (by rw[aA];omega);have ndk:(acc.map (·.1)).Nodup:=by rw[KN.keys];exact ndq.sublist (List.take_sublist _ _)
    have hnp:p∉acc.map (·.1):=λhm=>by
     rw[KN.keys] at hm;obtain⟨j,hj,ej⟩:=jx hm;rw[bp] at hj;rw[List.getElem_take] at ej;obtain⟨hi2,e2⟩:=aF.mp hqi;have:=(gB ndq (h₀:=by omega) (h₁:=hi2)).mp (ej.trans e2.symm);omega
    walk_at "wp";refine⟨_,hk2,λo=>?_⟩;refine uS (a:=kn) (o:=o) (kvs:=dB acc) (by rw[dB,aA];exact bf (bO (by omega)))
     (λj ys σ H'=>H'=upd H2 kn (.frz o (.dT (dB acc)))/\ys=(((acc.take j).filter λe=>jj e.1 p).map λe=>V.int e.2)/\∃x0,σ=[x0,some (.ref kn),some (.ref a)]) ⟨rfl,by simp,_,rfl⟩ ?_ ?_ ?_
    ·rintro j ys σ H' ⟨rfl,rfl,_⟩;refine⟨aD,?_⟩;rw[aA];exact bU (gR _ _) (by rw[bp];omega)
    ·rintro j k v b ys σ H' N hkv hb ⟨rfl,rfl,x0,rfl⟩ hN;unfold dB at hkv;rw[aS] at hkv;cases ee:acc[j]? with
     | none=>rw[ee] at hkv;cases hkv
     | some e=>
      rw[ee] at hkv;cases hkv;have tb:bZ (upd H2 kn (.frz o (.dT (dB acc)))) b e.1:=hb;have tav:bZ (upd H2 kn (.frz o (.dT (dB acc)))) a p:=by show upd _ _ _ a=_;rw[aP nak];exact ta2
      walk_at "wp";refine⟨b,a,e.1,p,rfl,tb,tav,?_⟩;walk_at "wp";have tk:acc.take (j+1)=acc.take j++[e]:=by rw[bF,ee];rfl
      cases hin:jj e.1 p with
      | true=>
       refine sS rfl ⟨_,.inr ⟨dB acc,qf e.1,b,.inr ⟨o,aD⟩,rfl,hb,(EH ndk (aR ee)).symm⟩,hN _ _ _ ⟨rfl,?_,_,rfl⟩⟩;rw[tk,dI,aW];simp[hin]
      | false=>
       refine pH (by decide) (hN _ _ _ ⟨rfl,?_,_,rfl⟩);rw[tk,dI,aW];simp[hin]
    ·rintro ys σ H' pn ⟨rfl,rfl,x0,rfl⟩ npn;have edl:(dB acc).length=acc.length:=by rw[dB,aA]
     rw[edl,bW];have nkp:kn≠pn:=λe=>by subst e;rw[aD] at npn;cases npn
     have nH2p:H2 pn=none:=by rw[aP nkp.symm] at npn;exact npn
     have nHp:H pn=none:=sm.free nH2p;refine⟨by rw[aP nkp,aD],?_⟩;have sm3:=((sm.new (o:=.frz o (.dT (dB acc))) nkn).new (o:=.lst ((acc.filter λe=>jj e.1 p).map λe=>V.int e.2)) nHp).new (o:=.dT (dB acc)) nkn;have hlp:l'≠pn:=au hl2 nH2p;walk_at "wp";refine⟨gZ acc p,bv.of (by rw[aP nkp.symm,aD];unfold gZ;rw[bc];rfl),_,lh.t (k:=qf p) aD (sm3 _ _ ta) (by rw[edl];exact bO (by omega)),?_⟩;rw[J6 hnp];exact⟨_,_,acc++[(p,1+m6 (gZ acc p) 0)],rfl,sm3.new nkn,by rw[aP nkl.symm,aP nkl.symm,aP hlp,aP nkl.symm];exact hl2,aD,KN.next hqi hsp⟩
  ·rintro σ H2 ⟨x2,x3,acc,rfl,sm,hl2,hk2,KN⟩;have ewl:(ws.map λz=>V.ref z.1).length=(ws.map (·.2)).length:=by simp
   rw[ewl] at KN;have HT:=KN.hts hq1 nd;have ndk:(acc.map (·.1)).Nodup:=by rw[KN.keys,bW];exact ndq
   walk_at "wp";have bo2:=bo.same sm;obtain⟨as2,c1,cl,cg⟩:=bo2.get;refine⟨⟨_,bv.of c1⟩,BI (bv.of c1) (by rw[aA];exact bf (bO (by omega))) ((ps.map (tI acc)).map V.int) (by simp[cl]) (λi x y Q' hx hy hq=>?_) λp3 n3=>?_⟩
   ·obtain⟨t,p,rfl,hp,ht⟩:=cg i x hx;walk_at "wp";have ey:y=V.int (tI acc p):=by simp[hp] at hy;exact hy.symm
    rw[ey] at hq;obtain⟨e,he,rfl⟩:∃e∈acc,e.1=p:=by
     have:p∈acc.map (·.1):=by rw[KN.keys,bW];exact hq1.mem_iff.mpr (aR hp)
     obtain⟨e,h1,h2⟩:=aT.mp this;exact⟨e,h1,h2⟩
    refine⟨.int e.2,?_,?_⟩
    ·rw[<-EH ndk he];exact iN.t (k:=qf e.1) hk2 ht
    ·rw[lT ndk he] at hq;exact hq
   ·exact q p3 _ _ (sm.free n3) (sm.new (sm.free n3)) aD HT
theorem xx (E:Fn K mg "line_of" iQ ["row"]):eO P w K mg base 1 "line_of" iQ ["row"] oj:=E.mk' λf fd F=>by
 refine F.okS xg (λvs H Q E h=>?_) (λcdv A outer s H vs Q E hr h=>?_)
 ·obtain⟨r,rfl,_⟩:=h;rfl
 ·obtain⟨r,rfl,q⟩:=h;refine⟨[some (.int r)],_,rfl,(L2.jE.h (aL (bT (ae c7 (ae ef aE (a8 0)) aE)))),?_⟩;walk_at "wp";exact⟨.inl ⟨by decide,by decide⟩,q⟩
theorem oS (B:oJ mg) (E:Fn K mg "greatest_height" eS ["bows"]) (D_heights:eO P w K mg base 4 "heights" iR ["bows"] nZ):eO P w K mg base 5 "greatest_height" eS ["bows"] zZ:=E.mk' λf fd F=>by
 refine F.okS oQ (λvs H Q E h=>?_) (λcdv A outer s H vs Q E hr h=>?_)
 ·obtain⟨l,S,rfl,_⟩:=h;rfl
 ·obtain⟨l,S,rfl,bl,BS,q⟩:=h;refine⟨[some (.ref l)],_,rfl,(L2.jE.h (aL (bT (wD rfl (by rfl) B.max (ac D_heights (hr.mono (by decide)) (by rfl) (aG (a8 0) aC)) aE)))),?_⟩;walk_at "wp";refine⟨l,S,rfl,bl,BS.nd,BS.len,λl' hs H1 nl s1 hl ht=>?_⟩;walk_at "wp";refine⟨hs,bv.of hl,?_⟩;rw[yc BS ht,Dg];exact q _ s1
theorem Ai (B:oJ mg) (E:Fn K mg "by_row" kO ["bows","columns"]):eO P w K mg base 1 "by_row" kO ["bows","columns"] ug:=E.mk' λf fd F=>by
 refine F.okS nh (λvs H Q E h=>?_) (λcdv A outer s H vs Q E hr h=>?_)
 ·obtain⟨l,k,S,c,rfl,_⟩:=h;rfl
 ·obtain⟨l,k,S,c,rfl,⟨as,h1,pa⟩,BS,hk,q⟩:=h;have al:=bB pa;refine⟨[some (.ref l),some (.ref k),none,none,none],_,rfl,(L2.jE.h (aI (aj (i:=2) nh.nd rfl (Or.inl rfl) pw)
   (aI (c8 aZ rfl (zg (by rfl) B.zip (aG (a8 0) (aG (a8 1) aC))) (ke (n:=2) rfl (dq (bM (i:=3) nh.nd rfl (Or.inl rfl)) (dq (bM (i:=4) nh.nd rfl (Or.inl rfl)) ja)))
   (aI (ft (iZ hr) (a8 2) (a9 bx (a8 3) aE (λ_ _=>rfl)) (a8 4) rfl)
    (aL (ft (iZ hr) (a8 2) (a9 bx (a8 3) aE (λ_ _=>rfl)) (a8 4) rfl))))
   (aL (bT (a8 2)))))),?_⟩
  walk_at "wp";intro d nd;have sd0:=(ak.refl H).new (o:=.dK []) nd;walk_at "wp";refine⟨l,k,rfl,⟨_,bv.of (sd0 _ _ h1)⟩,⟨_,bv.of (sd0 _ _ hk)⟩,?_⟩;have bl40:=BS.len;refine Dz (xs:=as.map V.ref) (ys:=S.map λp=>V.int (c p:Nat)) (by rw[aA,aA];omega) (λi σ H'=>∃x3 x4 kvs,σ=[some (.ref l),some (.ref k),some (.ref d),x3,x4]/\ak H H'/\H' d=some (.dK kvs)/\kvs.length<=2*i/\li kvs (S.take i) c) ⟨_,_,[],rfl,sd0,aD,aH _,λp hp=>by simp at hp⟩ (λi σ H' ⟨_,_,_,_,s1,_⟩=>⟨bv.of (s1 _ _ h1),bv.of (s1 _ _ hk)⟩) ?_ ?_
  ·rintro i x y σ H' t hx hy ⟨x3,x4,kvs,rfl,s1,hd,hl,ca⟩ nt;obtain⟨a,ha,rfl⟩:=iI hx;obtain⟨p,hp,tp⟩:=lR pa ha;have ey:y=V.int (c p:Nat):=by
    rw[aS,hp] at hy;exact(bD hy).symm
   subst ey;have hi:i<S.length:=(aF.mp hp).1;have s2:=(ak.refl H').new (o:=.tup [.ref a,.int (c p:Nat)]) nt;have ndt:d≠t:=au hd nt;walk_at "wp";refine⟨_,dA.of aD,rfl,?_⟩;walk_at "wp";have tp2:=s2 _ _ (s1 _ _ tp);have hd2:=s2 _ _ hd;have nda:a≠d:=λe=>by
    subst e;rw[show _=_ from s1 _ _ tp] at hd;cases hd
   have tpy:∀o,upd (upd H' t (.tup [.ref a,.int (c p:Nat)])) d o a=some (.tup [.int p.1,.int p.2]):=λo=>by rw[aP nda];exact tp2
   refine⟨_,_,dA.of tp2,rfl,_,lh.k (k:=.inl p.1) hd2 (bO (by omega)),_,_,dA.of (tpy _),rfl,_,lh.k (k:=.inl p.2) aD ?_,_,_,_,rfl,((s1.trans s2).new nd).new nd,aD,?_,?_⟩
   ·have:=dt kvs (.inl p.1:Key) (.int (c p:Nat));exact bO (by omega)
   ·have h3:=dt kvs (.inl p.1:Key) (.int (c p:Nat));have h4:=dt (putK kvs (.inl p.1:Key) (.int (c p:Nat))) (.inl p.2:Key) (.int (c p:Nat));omega
   ·have etk:S.take (i+1)=S.take i++[p]:=by rw[bF,hp];rfl
    rw[etk];intro q' hq;have pS:=aR hp;rcases aU.mp hq with h | h
    ·have qS:q'∈S:=List.mem_of_mem_take h;have ne:q'≠p:=λe=>by
      subst e;obtain⟨j,hj⟩:=cj h;have jl:=(aF.mp hj).1;rw[bp] at jl;rw[iE (by omega)] at hj;have h1:=aF.mp hj;have h2:=aF.mp hp;have:=(gB BS.nd (h₀:=h1.1) (h₁:=h2.1)).mp (h1.2.trans h2.2.symm);omega
     have dj:∀x,(q'.1=x\/q'.2=x)->x≠p.1/\x≠p.2:=λx hx=>⟨λe=>ne (BS.one q' qS p pS x hx (.inl e.symm)),λe=>ne (BS.one q' qS p pS x hx (.inr e.symm))⟩
     have key:∀x,(q'.1=x\/q'.2=x)->dy (putK (putK kvs (.inl p.1:Key) (.int (c p:Nat))) (.inl p.2:Key) (.int (c p:Nat))) (.inl x:Key)=dy kvs (.inl x:Key):=λx hx=>by
      obtain⟨d1,d2⟩:=dj x hx;rw[j5,if_neg λz=>d2 (kh z),j5,if_neg λz=>d1 (kh z)]
     rw[key _ (.inl rfl),key _ (.inr rfl)];exact ca q' h
    ·have e:q'=p:=by simpa using h
     subst e;refine⟨?_,?_⟩
     ·rw[j5];by_cases z:(.inl q'.1:Key)=.inl q'.2
      ·rw[if_pos z]
      ·rw[if_neg z,j5,if_pos rfl]
     ·rw[j5,if_pos rfl]
  ·rintro σ H' ⟨x3,x4,kvs,rfl,s1,hd,hl,ca⟩;rw[aA,al,bW] at ca;walk_at "wp";exact q d kvs H' nd s1 hd ca
theorem qe (B:oJ mg) (E:Fn K mg "left_columns" fq ["bows","most_left"]) (D_heights:eO P w K mg base 4 "heights" iR ["bows"] nZ) (D_by_row:eO P w K mg base 1 "by_row" kO ["bows","columns"] ug):eO P w K mg base 5 "left_columns" fq ["bows","most_left"] zX:=E.mk' λf fd F=>by
 refine F.okS qZ (λvs H Q E h=>?_) (λcdv A outer s H vs Q E hr h=>?_)
 ·obtain⟨l,S,m,rfl,_⟩:=h;rfl
 ·obtain⟨l,S,m,rfl,bl,BS,hm,q⟩:=h;refine⟨[some (.ref l),some (.int (m:Nat))],_,rfl,(L2.jE.h (aL (bT (ac D_by_row (hr.mono (by decide)) (by rfl) (aG (a8 0) (i8 (lO (own:=["height"]) (ns:=["most_left"]) (caps:=[1]) rfl ⟨rfl,by decide +kernel,by decide +kernel,by decide +kernel⟩ (.cons rfl rfl (.inl rfl) .nil) (eZ (ac D_heights (hr.mono (by decide)) (by rfl) (aG (a8 0) aC))) (λC s H fp pn=>(bM (i:=0) (show List.Nodup ((["height"]:List Str)++(["most_left"]:List Str)) by decide +kernel) rfl (Or.inl rfl))) (λC s H fp pn=>mC) (λC s H fp pn=>(ae c7 (ae ef aE (ae fw (a8 1) (a8 0))) aE))) aC)))))),?_⟩;walk_at "wp";refine⟨l,S,rfl,bl,BS.nd,BS.len,λl' hs H1 nl s1 hl ht=>?_⟩;rw[yc BS ht] at hl;refine⟨l',rfl,⟨_,bv.of hl⟩,oE (xs:=(S.map λp=>((hF S p:Nat):Int)).map V.int) (λi ys σ H'=>ak H1 H'/\ys=(S.take i).map (λp=>V.int ((2*(m-hF S p)+1:Nat):Int))/\∃x0,σ=[x0,some (.int (m:Nat))]) ⟨ak.refl _,by simp,_,rfl⟩ ?_ (by rw[aA,aA];have:=BS.len;exact bf (bO (by omega))) ?_ ?_⟩
  ·rintro i ys σ H' ⟨s2,rfl,_⟩;exact⟨bv.of (s2 _ _ hl),by simp;omega⟩
  ·rintro i x ys σ H' N hx ⟨s2,rfl,x0,rfl⟩ hN;obtain⟨v,hv,rfl⟩:=iI hx;obtain⟨p,hp,rfl⟩:∃p,S[i]? = some p/\((hF S p:Nat):Int)=v:=by
    rw[aS] at hv;exact cC.mp hv
   have hle:=bU (i9 (aR hp)) hm;walk_at "wp";refine⟨.inl ⟨by decide,by decide⟩,hN _ _ _ ⟨s2,?_,_,rfl⟩⟩;rw[bF,hp];simp only[kU,aW,ao,fF];congr 2;congr 1;omega
  ·rintro ys σ H' p ⟨s2,rfl,_⟩ np;rw[aA,aA,bW];have s3:=(ak.refl H').new (o:=.lst (S.map λp=>V.int ((2*(m-hF S p)+1:Nat):Int))) np;exact⟨l,p,S,λp=>2*(m-hF S p)+1,rfl,bl.same (s1.trans (s2.trans s3)),BS,aD,λd kvs H4 nd s4 hd ca=>q d kvs H4 ((s1.trans (s2.trans s3)).free nd) ((s1.trans (s2.trans s3)).trans s4) hd ca⟩
theorem qC (B:oJ mg) (E:Fn K mg "right_columns" fT ["bows","most_left"]) (D_heights:eO P w K mg base 4 "heights" iR ["bows"] nZ) (D_by_row:eO P w K mg base 1 "by_row" kO ["bows","columns"] ug):eO P w K mg base 5 "right_columns" fT ["bows","most_left"] vd:=E.mk' λf fd F=>by
 refine F.okS pV (λvs H Q E h=>?_) (λcdv A outer s H vs Q E hr h=>?_)
 ·obtain⟨l,S,m,rfl,_⟩:=h;rfl
 ·obtain⟨l,S,m,rfl,bl,BS,q⟩:=h;refine⟨[some (.ref l),some (.int (m:Nat))],_,rfl,(L2.jE.h (aL (bT (ac D_by_row (hr.mono (by decide)) (by rfl) (aG (a8 0) (i8 (lO (own:=["height"]) (ns:=["most_left"]) (caps:=[1]) rfl ⟨rfl,by decide +kernel,by decide +kernel,by decide +kernel⟩ (.cons rfl rfl (.inl rfl) .nil) (eZ (ac D_heights (hr.mono (by decide)) (by rfl) (aG (a8 0) aC))) (λC s H fp pn=>(bM (i:=0) (show List.Nodup ((["height"]:List Str)++(["most_left"]:List Str)) by decide +kernel) rfl (Or.inl rfl))) (λC s H fp pn=>mC) (λC s H fp pn=>(ae fw (ae c7 (ae ef aE (a8 1)) (ae ef aE (a8 0))) aE))) aC)))))),?_⟩;walk_at "wp";refine⟨l,S,rfl,bl,BS.nd,BS.len,λl' hs H1 nl s1 hl ht=>?_⟩;rw[yc BS ht] at hl;refine⟨l',rfl,⟨_,bv.of hl⟩,oE (xs:=(S.map λp=>((hF S p:Nat):Int)).map V.int) (λi ys σ H'=>ak H1 H'/\ys=(S.take i).map (λp=>V.int ((2*m+2*hF S p - 1:Nat):Int))/\∃x0,σ=[x0,some (.int (m:Nat))]) ⟨ak.refl _,by simp,_,rfl⟩ ?_ (by rw[aA,aA];have:=BS.len;exact bf (bO (by omega))) ?_ ?_⟩
  ·rintro i ys σ H' ⟨s2,rfl,_⟩;exact⟨bv.of (s2 _ _ hl),by simp;omega⟩
  ·rintro i x ys σ H' N hx ⟨s2,rfl,x0,rfl⟩ hN;obtain⟨v,hv,rfl⟩:=iI hx;obtain⟨p,hp,rfl⟩:∃p,S[i]? = some p/\((hF S p:Nat):Int)=v:=by
    rw[aS] at hv;exact cC.mp hv
   have hle:=ye BS.lt (aR hp);walk_at "wp";refine⟨.inl ⟨by decide,by decide⟩,.inl ⟨by decide,by decide⟩,hN _ _ _ ⟨s2,?_,_,rfl⟩⟩;rw[bF,hp];simp only[kU,aW,ao,fF];congr 2;congr 1;omega
  ·rintro ys σ H' p ⟨s2,rfl,_⟩ np;rw[aA,aA,bW];have s3:=(ak.refl H').new (o:=.lst (S.map λp=>V.int ((2*m+2*hF S p - 1:Nat):Int))) np;exact⟨l,p,S,λp=>2*m+2*hF S p - 1,rfl,bl.same (s1.trans (s2.trans s3)),BS,aD,λd kvs H4 nd s4 hd ca=>q d kvs H4 ((s1.trans (s2.trans s3)).free nd) ((s1.trans (s2.trans s3)).trans s4) hd ca⟩
theorem tF (B:oJ mg) (E:Fn K mg "carve_bows" gm ["grid","bows","columns"]) (D_line_of:eO P w K mg base 1 "line_of" iQ ["row"] oj):eO P w K mg base 2 "carve_bows" gm ["grid","bows","columns"] vi:=E.mk' λf fd F=>by
 refine F.okS j3 (λvs H Q E h=>?_) (λcdv A outer s H vs Q E hr h=>?_)
 ·obtain⟨g,l,d,as,w,G,S,c,kvs,rfl,_⟩:=h;rfl
 ·obtain⟨g,l,d,as,w,G,S,c,kvs,rfl,gr,nl,⟨bs,h1,pa⟩,hd,ca,bd,hA,hw,q⟩:=h;have al:=bB pa;refine⟨[some (.ref g),some (.ref l),some (.ref d),none,none,none],_,rfl,(L2.jE.h (aL (c8 aZ rfl (eZ (a8 1)) (ke (n:=2) rfl (dq (bM (i:=3) j3.nd rfl (Or.inl rfl)) (dq (bM (i:=4) j3.nd rfl (Or.inl rfl)) ja)))
   (aL (c8 aZ rfl (iJ (by rfl) B.range (ci (ac D_line_of (hr.mono (by decide)) (by rfl) (aG (a8 3) aC)) (ck (ae c7 (ac D_line_of (hr.mono (by decide)) (by rfl) (aG (a8 4) aC)) aE) aC))) (bM (i:=5) j3.nd rfl (Or.inl rfl))
    (aL (qr (iU (by rfl) B.OPEN_CELL) (qv (a9 b6 (a8 0) (a8 5) (λ_ _=>rfl)) (f7 (iZ hr) (a8 2) (a8 3) (λ_ _=>rfl)) set_list)))))))),?_⟩
  walk_at "wp";refine⟨⟨_,bv.of h1⟩,?_⟩;have ndA:d∉as:=gr.off hd λxs e=>nomatch e;refine g6 (xs:=bs.map V.ref) (λi σ H'=>∃x3 x4 x5:Option V,σ=[some (.ref g),some (.ref l),some (.ref d),x3,x4,x5]/\Keeps as H H'/\gH H' g as w (xu G (lH (S.take i) c))) ⟨_,_,_,rfl,Keeps.refl _ _,gr.congr λi x _ _=>by simp[xu,lH]⟩ ?_ ?_ ?_
  ·rintro i σ H' _ ⟨_,_,_,rfl,kp,_⟩;exact bv.of (kp _ _ nl h1)
  ·rintro i x σ H' hx ⟨x3,x4,x5,rfl,kp,gr'⟩;obtain⟨a,ha,rfl⟩:=iI hx;obtain⟨p,hp,tp⟩:=lR pa ha;have pS:=aR hp;obtain⟨b0,b1,b2,b3⟩:=bd p pS;have naA:a∉as:=gr.off tp λxs e=>nomatch e;have tp':=kp _ _ naA tp;walk_at "wp";refine⟨_,dA.of tp',rfl,?_⟩;walk_at "wp";refine⟨_,rfl,_,rfl,?_⟩;walk_at "wp";refine⟨⟨by omega,by omega,by omega,by omega⟩,?_⟩;obtain⟨lo,hlo⟩:=l9 (show 0<=2*p.1+1 by omega);generalize hn:(2*p.2+1+1-(2*p.1+1)).toNat=n;refine fV (n:=n) (λj σ H'=>∃x5:Option V,σ=[some (.ref g),some (.ref l),some (.ref d),some (.int p.1),some (.int p.2),x5]/\Keeps as H H'/\gH H' g as w (xu G λi' x=>lH (S.take i) c i' x || (decide (lo<=i'/\i'<lo+j)&&decide (x=c p)))) ⟨_,rfl,kp,gr'.congr λi' x _ _=>?_⟩ ?_ ?_
   ·refine uz ?_;rw[decide_eq_false (show ¬(lo<=i'/\i'<lo+0) by omega),jA,dL]
   ·rintro j σ H2 hj ⟨x5',rfl,kp2,gr2⟩;have hk:lo+j<as.length:=by omega
    have ga:as[lo+j]? = some as[lo+j]:=aK hk;have at1:pO (as.map V.ref) (2*p.1+1+(j:Int))=some (.ref as[lo+j]):=by
     rw[show 2*p.1+1+(j:Int)=((lo+j:Nat):Int) by omega];exact fg (by rw[aS,ga];rfl)
    have dg:=iN.k (k:=.inl p.1) (kp2 _ _ ndA hd);rw[(ca p pS).1] at dg;walk_at "wp";refine⟨_,_,bv.of gr2.top,at1,_,dg,_,_,_,c p,rfl,rfl,gr2.row _ _ ga,?_,?_⟩
    ·rw[uq];unfold xJ;rw[if_pos (by omega),if_pos (by omega),cM]
    have dot:V.str (Str.ofString ".")=lJ 46:=by unfold lJ;rw[show Str.ofString "."=(⟨#[46]⟩:Str) by decide +kernel]
    rw[dot];refine⟨_,rfl,kp2.trans (Keeps.upd (aR ga)),(gr2.set ga).congr λi' x _ _=>?_⟩;refine zi ?_;rw[iF];congr 1;rw[<-eW,<-eW,<-kZ];exact decide_eq_decide.mpr (by omega)
   ·rintro σ H2 ⟨x5',rfl,kp2,gr2⟩;refine⟨_,_,_,rfl,kp2,gr2.congr λi' x _ _=>?_⟩;have etk:S.take (i+1)=S.take i++[p]:=by rw[bF,hp];rfl
    refine uz ?_;unfold lH;rw[etk,m5];congr 1;simp only[gO,List.any_nil,dL];unfold sR;rw[<-eW,<-eW,<-eW];exact decide_eq_decide.mpr (by omega)
  ·rintro σ H' ⟨_,_,_,rfl,kp,gr'⟩;rw[aA,al,bW] at gr';exact q H' kp gr'
theorem rq (B:oJ mg) (E:Fn K mg "carve_rings" gN ["grid","rings","lefts","rights"]) (D_line_of:eO P w K mg base 1 "line_of" iQ ["row"] oj):eO P w K mg base 2 "carve_rings" gN ["grid","rings","lefts","rights"] vh:=E.mk' λf fd F=>by
 refine F.okS kM (λvs H Q E h=>?_) (λcdv A outer s H vs Q E hr h=>?_)
 ·obtain⟨g,dl,dr,as,w,G,kl,kr,n,kL,kR,rfl,_⟩:=h;rfl
 ·obtain⟨g,dl,dr,as,w,G,kl,kr,n,kL,kR,rfl,gr,hdl,hdr,hc,hn,hA,hw,q⟩:=h;refine⟨[some (.ref g),some (.int (n:Nat)),some (.ref dl),some (.ref dr),none,none],_,rfl,(L2.jE.h (aL (c8 aZ rfl (iJ (by rfl) B.range (cB aE (ck (ae c7 (a8 1) aE) aC))) (bM (i:=4) kM.nd rfl (Or.inl rfl))
   (aL (c8 aZ rfl (iJ (by rfl) B.range (aY (f7 (iZ hr) (a8 2) (a8 4) (λ_ _=>rfl)) (ck (ae c7 (f7 (iZ hr) (a8 3) (a8 4) (λ_ _=>rfl)) aE) aC))) (bM (i:=5) kM.nd rfl (Or.inl rfl))
    (aL (qr (iU (by rfl) B.OPEN_CELL) (qv (a9 b6 (a8 0) (ac D_line_of (hr.mono (by decide)) (by rfl) (aG (a8 4) aC)) (λ_ _=>rfl)) (a8 5) set_list)))))))),?_⟩
  walk_at "wp";have nlA:dl∉as:=gr.off hdl λxs e=>nomatch e;have nrA:dr∉as:=gr.off hdr λxs e=>nomatch e;refine⟨⟨by omega,by omega,by omega,by omega⟩,?_⟩;rw[show (((n:Nat):Int)+1 - 1).toNat=n by omega];refine fV (n:=n) (λi σ H'=>∃x4 x5:Option V,σ=[some (.ref g),some (.int (n:Nat)),some (.ref dl),some (.ref dr),x4,x5]/\Keeps as H H'/\gH H' g as w (xu G (xH i kL kR))) ⟨_,_,rfl,Keeps.refl _ _,gr.congr λi x _ _=>?_⟩ ?_ ?_
  ·have:¬(i % 2=1/\3<=i/\i<=2*0+1):=by omega
   simp only[xu,xH,decide_eq_false this,jA,bN,if_false]
  ·rintro i σ H' hi ⟨x4,x5,rfl,kp,gr'⟩;obtain⟨c1,c2,c4,c3⟩:=hc (i+1) (by omega) (by omega);have dg1:=iN.k (k:=.inl ((i+1:Nat):Int)) (kp _ _ nlA hdl);have dg2:=iN.k (k:=.inl ((i+1:Nat):Int)) (kp _ _ nrA hdr);rw[c1] at dg1;rw[c2] at dg2;have ei:(1:Int)+(i:Nat)=((i+1:Nat):Int):=by omega
   walk_at "wp";rw[ei];refine⟨_,dg1,_,dg2,?_⟩;walk_at "wp";refine⟨⟨by omega,by omega,by omega,by omega⟩,?_⟩;generalize hm:(((kR (i+1):Nat):Int)+1-((kL (i+1):Nat):Int)).toNat=m;refine fV (n:=m) (λj σ H'=>∃x5:Option V,σ=[some (.ref g),some (.int (n:Nat)),some (.ref dl),some (.ref dr),some (.int ((i+1:Nat):Int)),x5]/\Keeps as H H'/\gH H' g as w (xu G λi' x=>xH i kL kR i' x || decide (i'=2*(i+1)+1/\kL (i+1)<=x/\x<kL (i+1)+j))) ⟨_,rfl,kp,gr'.congr λi' x _ _=>uz ?_⟩ ?_ ?_
   ·rw[decide_eq_false (show ¬(i'=2*(i+1)+1/\kL (i+1)<=x/\x<kL (i+1)+0) by omega),dL]
   ·rintro j σ H2 hj ⟨x5',rfl,kp2,gr2⟩;have hk:2*(i+1)+1<as.length:=by omega
    have ga:as[2*(i+1)+1]? = some as[2*(i+1)+1]:=aK hk;have at1:pO (as.map V.ref) (2*((i+1:Nat):Int)+1)=some (.ref as[2*(i+1)+1]):=by
     rw[show 2*((i+1:Nat):Int)+1=((2*(i+1)+1:Nat):Int) by omega];exact fg (by rw[aS,ga];rfl)
    walk_at "wp";refine⟨_,rfl,_,_,_,_,rfl,rfl,bv.of gr2.top,at1,_,_,_,kL (i+1)+j,rfl,rfl,gr2.row _ _ ga,?_,?_⟩
    ·rw[uq];unfold xJ;rw[if_pos (by omega),if_pos (by omega)];congr 1
    have dot:V.str (Str.ofString ".")=lJ 46:=by unfold lJ;rw[show Str.ofString "."=(⟨#[46]⟩:Str) by decide +kernel]
    rw[dot];refine⟨_,rfl,kp2.trans (Keeps.upd (aR ga)),(gr2.set ga).congr λi' x _ _=>zi ?_⟩;rw[iF];congr 1;rw[<-kZ];exact decide_eq_decide.mpr (by omega)
   ·rintro σ H2 ⟨x5',rfl,kp2,gr2⟩;refine⟨_,_,rfl,kp2,gr2.congr λi' x _ _=>uz ?_⟩;unfold xH;rw[<-eW,<-eW,<-eW,<-kZ];refine decide_eq_decide.mpr ⟨λh=>?_,λh=>?_⟩
    ·rcases h with ⟨h1,h2,h3⟩ | ⟨h1,h2,h3⟩
     ·exact⟨by omega,h2,h3⟩
     ·subst h1;rw[show (2*(i+1)+1 - 1) / 2=i+1 by omega];exact⟨by omega,h2,by omega⟩
    ·obtain⟨h1,h2,h3⟩:=h;by_cases z:i'<=2*i+1
     ·exact .inl ⟨by omega,h2,h3⟩
     ·have e:i'=2*(i+1)+1:=by omega
      subst e;rw[show (2*(i+1)+1 - 1) / 2=i+1 by omega] at h2 h3;exact .inr ⟨rfl,h2,by omega⟩
  ·rintro σ H' ⟨_,_,rfl,kp,gr'⟩;exact q H' kp gr'
theorem Fb (B:oJ mg) (E:Fn K mg "mark" p8 ["line","sign"]):eO P w K mg base 1 "mark" p8 ["line","sign"] CW:=E.mk' λf fd F=>by
 refine F.okS Eh (λvs H Q E h=>?_) (λcdv A outer s H vs Q E hr h=>?_)
 ·obtain⟨a,w,r,x0,c,rfl,_⟩:=h;rfl
 ·obtain⟨a,w,r,x0,c,rfl,ha,hx,h46,hno,hw,q⟩:=h;refine⟨[some (.ref a),some (.str ⟨#[c]⟩)],_,rfl,(L2.jE.h (aL (qr (a8 1) (qv (a8 0) (fJ am PySem.F.slot_list_index PySem.F.type_list_index An (a8 0) (aG (iU (by rfl) B.OPEN_CELL) aC)) set_list)))),?_⟩;walk_at "wp";have ek:q9 w r=((List.range w).map λx=>(⟨#[r x]⟩:Str)).map V.str:=by unfold q9;rw[bc];rfl
  have dot:Str.ofString "."=⟨#[46]⟩:=by decide +kernel
  refine⟨gw ha,(List.range w).map λx=>(⟨#[r x]⟩:Str),x0,by rw[ha,ek],by simp;exact hw,?_,λm hm=>?_,a,_,_,x0,rfl,rfl,ha,?_,q⟩
  ·rw[aS,fi hx,dot];show some (⟨#[r x0]⟩:Str)=_;rw[h46]
  ·rw[aS,fi (by omega),dot];intro e;have:=hno m hm;have e2:(⟨#[r m]⟩:Str)=⟨#[46]⟩:=bD e;have e3:(⟨#[r m]⟩:Str)=tx [46]:=e2;rw[J4] at e3;exact this e3
  ·rw[uq];unfold xJ;rw[if_pos (by omega),if_pos (by omega),cM]
theorem DZ (B:oJ mg) (E:Fn K mg "drawn" mB ["maze"]) (D_vet:eO P w K mg base 5 "vet" t7 ["maze"] CO) (D_bows_of:eO P w K mg base 3 "bows_of" jR ["maze"] rO) (D_line_of:eO P w K mg base 1 "line_of" iQ ["row"] oj) (D_greatest_height:eO P w K mg base 5 "greatest_height" eS ["bows"] zZ) (D_left_columns:eO P w K mg base 5 "left_columns" fq ["bows","most_left"] zX) (D_right_columns:eO P w K mg base 5 "right_columns" fT ["bows","most_left"] vd) (D_carve_bows:eO P w K mg base 2 "carve_bows" gm ["grid","bows","columns"] vi) (D_carve_rings:eO P w K mg base 2 "carve_rings" gN ["grid","rings","lefts","rights"] vh) (D_mark:eO P w K mg base 1 "mark" p8 ["line","sign"] CW):eO P w K mg base 6 "drawn" mB ["maze"] rK:=E.mk' λf fd F=>by
 refine F.okS j8 (λvs H Q E h=>?_) (λcdv A outer s H vs Q E hr h=>?_)
 ·obtain⟨m,o,b,ns,rfl,_⟩:=h;rfl
 ·obtain⟨m,o,b,ns,rfl,hm,O,nc,q⟩:=h;refine⟨[some (.ref m),none,none,none,none,none,none,none],_,rfl,(L2.jE.h (aI (cf (ac D_vet (hr.mono (by decide)) (by rfl) (aG (a8 0) aC)))
   (aI (aj (i:=1) j8.nd rfl (Or.inl rfl) (bG bS (by rfl) B.len bH (aY (a9 bx (a8 0) aE (λ_ _=>rfl)) aC)))
   (aI (aj (i:=2) j8.nd rfl (Or.inl rfl) (ac D_bows_of (hr.mono (by decide)) (by rfl) (aG (a8 0) aC)))
   (aI (aj (i:=3) j8.nd rfl (Or.inr rfl) (ac D_greatest_height (hr.mono (by decide)) (by rfl) (aY (a9 bx (a8 2) aE (λ_ _=>rfl)) aC)))
   (aI (aj (i:=4) j8.nd rfl (Or.inr rfl) (ac D_greatest_height (hr.mono (by decide)) (by rfl) (aY (a9 bx (a8 2) aE (λ_ _=>rfl)) aC)))
   (aI (aj (i:=5) j8.nd rfl (Or.inl rfl) (ac D_left_columns (hr.mono (by decide)) (by rfl) (aY (a9 bx (a8 2) aE (λ_ _=>rfl)) (aG (a8 3) aC))))
   (aI (aj (i:=6) j8.nd rfl (Or.inl rfl) (ac D_right_columns (hr.mono (by decide)) (by rfl) (aY (a9 bx (a8 2) aE (λ_ _=>rfl)) (aG (a8 3) aC))))
   (aI (wC (i:=7) j8.nd rfl (Or.inl rfl) (own:=["line"]) (ns:=["most_left","most_right"]) (caps:=[3,4]) rfl ⟨rfl,by decide +kernel,by decide +kernel,by decide +kernel⟩ (.cons rfl rfl (.inl rfl) (.cons rfl rfl (.inl rfl) .nil)) (iK (by rfl) B.range (ck (ae c7 (ae ef aE (a8 1)) aE) aC)) (λC s H fp pn=>(bM (i:=0) (show List.Nodup ((["line"]:List Str)++(["most_left","most_right"]:List Str)) by decide +kernel) rfl (Or.inl rfl))) (λC s H fp pn=>mC) (λC s H fp pn=>(ae Iw (cv (aG (iU (by rfl) B.WALL) aC)) (ae c7 (ae ef aE (ae c7 (a8 1) (a8 2))) aE))))
   (aI (cf (ac D_carve_bows (hr.mono (by decide)) (by rfl) (aG (a8 7) (aY (a9 bx (a8 2) aE (λ_ _=>rfl)) (aG (a8 5) aC)))))
   (aI (cf (ac D_carve_bows (hr.mono (by decide)) (by rfl) (aG (a8 7) (aY (a9 bx (a8 2) aE (λ_ _=>rfl)) (aG (a8 6) aC)))))
   (aI (cf (ac D_carve_rings (hr.mono (by decide)) (by rfl) (aG (a8 7) (aG (a8 1) (aG (a8 5) (aG (a8 6) aC))))))
   (aI (cf (ac D_mark (hr.mono (by decide)) (by rfl) (aY (a9 b6 (a8 7) (ac D_line_of (hr.mono (by decide)) (by rfl) (cB aE aC)) (λ_ _=>rfl)) (aG (iU (by rfl) B.MOUTH) aC))))
   (aI (cf (ac D_mark (hr.mono (by decide)) (by rfl) (aY (a9 b6 (a8 7) (ac D_line_of (hr.mono (by decide)) (by rfl) (ck (ae c7 (a8 1) aE) aC)) (λ_ _=>rfl)) (aG (iU (by rfl) B.MIDDLE) aC))))
   (aL (bT (fJ fD gQ gP qx cI (i8 (lO (own:=["line"]) (ns:=[]) (caps:=[]) rfl ⟨rfl,by decide +kernel,by decide +kernel,by decide +kernel⟩ .nil (eZ (a8 7)) (λC s H fp pn=>(bM (i:=0) (show List.Nodup ((["line"]:List Str)++([]:List Str)) by decide +kernel) rfl (Or.inl rfl))) (λC s H fp pn=>mC) (λC s H fp pn=>(Ls (K:=K) rfl (fJ fD gQ gP (Dc (K:=K) rfl) cI (aG (a8 0) aC))))) aC)))))))))))))))))),?_⟩
  walk_at "wp";refine⟨m,o,b,ns,rfl,hm,O,nc,λH1 s1=>?_⟩;have hm1:=hm.same s1;walk_at "wp";refine⟨_,_,dA.of hm1.1,rfl,o,_,rfl,.inr (dA.of hm1.2),m,o,b,ns,rfl,hm1,O,λt l r L R H2 nt nl nr s2 BO=>?_⟩;rw[aA];have nlen:=O.len;have BL:=BO.isL.bws O;have BR:=BO.isR.bws O;have mL21:=BO.isL.mx O;have mR21:=BO.isR.mx O;refine⟨t,_,0,_,rfl,rfl,dA.of BO.tup,rfl,l,L,rfl,BO.left,BL,λH3 s3=>?_⟩;refine⟨t,_,1,_,rfl,rfl,dA.of (s3 _ _ BO.tup),rfl,r,R,rfl,BO.right.same s3,BR,λH4 s4=>?_⟩;have s34:=s3.trans s4;refine⟨t,_,0,_,rfl,rfl,dA.of (s34 _ _ BO.tup),rfl,l,L,ic L,rfl,BO.left.same s34,BL,aH _,λdl kl H5 ndl s5 hdl cal=>?_⟩;have s35:=s34.trans s5;refine⟨t,_,1,_,rfl,rfl,dA.of (s35 _ _ BO.tup),rfl,r,R,ic L,rfl,BO.right.same s35,BR,λdr kr H6 ndr s6 hdr car=>?_⟩;have s36:=s35.trans s6;have hdl6:=s6 _ _ hdl;refine⟨.inl ⟨by decide,by decide⟩,by omega,by omega,?_⟩;rw[show (2*((ns.length:Nat):Int)+5).toNat=2*ns.length+5 by omega];have wall:V.str (Str.ofString "#")=lJ 35:=by unfold lJ;rw[show Str.ofString "#"=(⟨#[35]⟩:Str) by decide +kernel]
  rw[wall];have w100:dC L R<=100:=by unfold dC;omega
  refine sW (n:=2*ns.length+5) (λi ys σ H'=>ak H6 H'/\(∃as:List Addr,ys=as.map V.ref/\as.length=i/\as.Nodup/\(∀a∈as,H6 a=none)/\∀a∈as,H' a=some (.lst (q9 (dC L R) λ_=>35)))/\∃x0,σ=[x0,some (.int (ic L:Nat)),some (.int (ic R:Nat))]) ⟨ak.refl _,⟨[],rfl,rfl,nR,(λa h=>nomatch h),λa h=>nomatch h⟩,_,rfl⟩ ?_ (bf (bO (by omega))) ?_ ?_
  ·rintro i ys σ H' ⟨_,⟨as,rfl,e,_⟩,_⟩;rw[aA,e];exact aH _
  ·rintro i ys σ H' N hi ⟨s7,⟨as,rfl,ea,nd,fr,rows⟩,x0,rfl⟩ hN;walk_at "wp";refine⟨by decide,λp np=>⟨.inl ⟨by decide,by decide⟩,p,_,_,rfl,rfl,aD,by omega,by omega,by show 1*_<=sizeLine;rw[sizeLine_eq];omega,λp2 n2=>?_⟩⟩;have t1:=(ak.refl H').new (o:=.lst [lJ 35]) np;have n2':=t1.free n2;have t2:=(ak.refl _).new (o:=.lst (q9 (dC L R) λ_=>35)) n2;have ew:(2*(((ic L:Nat):Int)+(ic R:Nat))+1).toNat=dC L R:=by unfold dC;omega
   rw[ew,ID];refine hN _ _ _ ⟨s7.trans (t1.trans t2),⟨as++[p2],by simp,by simp[ea],?_,λa ha=>?_,λa ha=>?_⟩,_,rfl⟩
   ·rw[cJ];refine⟨nd,by simp,λa ha b hb e=>?_⟩;have:b=p2:=by simpa using hb
    subst this e;rw[rows a ha] at n2';cases n2'
   ·rcases aU.mp ha with h | h
    ·exact fr a h
    ·have:a=p2:=by simpa using h
     subst this;exact s7.free n2'
   ·rcases aU.mp ha with h | h
    ·exact(t1.trans t2) _ _ (rows a h)
    ·have:a=p2:=by simpa using h
     subst this;exact aD
  ·rintro ys σ H' g ⟨s7,⟨as,rfl,ea,nd,fr,rows⟩,_⟩ ng;have s8:=(ak.refl H').new (o:=.lst (as.map V.ref)) ng;have gr:gH (upd H' g (.lst (as.map V.ref))) g as (dC L R) λ_ _=>35:=⟨aD,nd,(λh=>by rw[rows g h] at ng;cases ng),λi a hi=>s8 _ _ (rows a (aR hi))⟩
   have s68:=s7.trans s8;generalize upd H' g (.lst (as.map V.ref))=H7 at gr s8 s68 ⊢;have s38:=s36.trans s68;have lA:l∉as:=λh=>by have:=s36.free (fr l h);obtain⟨_,hh,_⟩:=BO.left;rw[hh] at this;cases this
   have rA:r∉as:=λh=>by have:=s36.free (fr r h);obtain⟨_,hh,_⟩:=BO.right;rw[hh] at this;cases this
   have tA:t∉as:=λh=>by have:=s36.free (fr t h);rw[BO.tup] at this;cases this
   have tupA:∀{S:List Bw} {z:Addr},cY H2 z S->∀{H8:Hp},Keeps as H7 H8->z∉as->cY H8 z S:=fun {S z} hz {H8} kp hn=>by
    obtain⟨zs,hh,pz⟩:=hz;refine⟨zs,kp _ _ hn (s38 _ _ hh),Paired.mapP pz λa p ta=>kp _ _ (gr.off (s38 _ _ ta) λxs e=>nomatch e) (s38 _ _ ta)⟩
   have bdS:∀{u:Bool} {S:List Bw},dh b ns u S->∀p∈S,0<=p.1/\p.1<p.2/\2*p.2+1<as.length:=fun {u S} hS p hp=>by
    obtain⟨j,hj,_,e⟩:=eX (hS.perm.mem_iff.mp hp);have h1:=O.step_in (i:=j) (by omega);have h2:=O.step_lt (i:=j) (by omega);subst e;exact⟨h1.1,h2,by rw[ea];omega⟩
   refine⟨t,_,0,_,rfl,rfl,dA.of (s38 _ _ BO.tup),rfl,g,l,dl,as,dC L R,_,L,oF L,kl,rfl,gr,lA,tupA BO.left (Keeps.refl _ _) lA,s68 _ _ hdl6,cal,λp hp=>⟨(bdS BO.isL p hp).1,(bdS BO.isL p hp).2.1,(bdS BO.isL p hp).2.2,yq BL.lt hp⟩,by omega,by omega,λH8 k8 g8=>?_⟩;refine⟨t,_,1,_,rfl,rfl,dA.of (k8 _ _ tA (s38 _ _ BO.tup)),rfl,g,r,dr,as,dC L R,_,R,nO L R,kr,rfl,g8,rA,tupA BO.right k8 rA,k8 _ _ (gr.off (s68 _ _ hdr) λxs e=>nomatch e) (s68 _ _ hdr),car,λp hp=>⟨(bdS BO.isR p hp).1,(bdS BO.isR p hp).2.1,(bdS BO.isR p hp).2.2,ym BR.lt hp⟩,by omega,by omega,λH9 k9 g9=>?_⟩;have k79:=k8.trans k9;have ringc:∀rr:Nat,1<=rr->rr<=ns.length->dy kl (.inl (rr:Int):Key)=some (.int (jU L rr:Nat))/\dy kr (.inl (rr:Int):Key)=some (.int (nI L R rr:Nat))/\jU L rr<dC L R/\nI L R rr<dC L R:=λrr h1 h2=>by
    obtain⟨p,hp,ep⟩:=BO.isL.has O h1 h2;obtain⟨q',hq,eq⟩:=BO.isR.has O h1 h2;unfold jU nI;rw[fB BL hp ep,fB BR hq eq];refine⟨?_,?_,yq BL.lt hp,ym BR.lt hq⟩
    ·rcases ep with e | e
     ·rw[<-e];exact(cal p hp).1
     ·rw[<-e];exact(cal p hp).2
    ·rcases eq with e | e
     ·rw[<-e];exact(car q' hq).1
     ·rw[<-e];exact(car q' hq).2
   refine⟨g,dl,dr,as,dC L R,_,kl,kr,ns.length,jU L,nI L R,rfl,g9,k79 _ _ (gr.off (s68 _ _ hdl6) λxs e=>nomatch e) (s68 _ _ hdl6),k79 _ _ (gr.off (s68 _ _ hdr) λxs e=>nomatch e) (s68 _ _ hdr),ringc,by omega,by omega,by omega,λH10 k10 g10=>?_⟩;have g10':gH H10 g as (dC L R) (λi x=>if df ns.length L R i x then 46 else 35):=g10.congr λi x _ _=>by
    unfold xu df;cases lH L (oF L) i x<;>cases lH R (nO L R) i x<;>cases xH ns.length (jU L) (nI L R) i x<;>rfl
   have k710:=k79.trans k10;obtain⟨x0,hx0,op0⟩:=rf O BO.isL BO.isR;obtain⟨x1,hx1,op1⟩:=uF O BO.isL BO.isR;have l1:1<as.length:=by omega
   have l2:2*ns.length+3<as.length:=by omega
   have a1:as[1]? = some as[1]:=aK l1;have a2:as[2*ns.length+3]? = some as[2*ns.length+3]:=aK l2;have vv:Str.ofString "v"=(⟨#[118]⟩:Str):=by decide +kernel
   have vm:Str.ofString "@"=(⟨#[64]⟩:Str):=by decide +kernel
   refine⟨0,rfl,g,_,1,.ref as[1],rfl,rfl,bv.of g10'.top,by exact fg (j:=1) (by rw[aS,a1];rfl),as[1],dC L R,_,x0,118,by rw[vv],g10'.row 1 _ a1,hx0,by rw[op0,decide_eq_true rfl];rfl,λx hx=>by rw[op0,decide_eq_false (by omega)];decide,by omega,?_⟩;have g11:=g10'.set (x:=x0) (c:=118) a1;have k711:=k710.trans (Keeps.upd (o:=.lst ((q9 (dC L R) λx=>if df ns.length L R 1 x then 46 else 35).set x0 (lJ 118))) (aR a1));generalize upd H10 as[1] (.lst ((q9 (dC L R) λx=>if df ns.length L R 1 x then 46 else 35).set x0 (lJ 118)))=H11 at g11 k711 ⊢;refine⟨((ns.length:Nat):Int)+1,rfl,g,_,_,.ref as[2*ns.length+3],rfl,rfl,bv.of g11.top,by rw[show 2*(((ns.length:Nat):Int)+1)+1=((2*ns.length+3:Nat):Int) by omega];exact fg (by rw[aS,a2];rfl),as[2*ns.length+3],dC L R,_,x1,64,by rw[vm],g11.row _ _ a2,hx1,?_,λx hx=>?_,by omega,?_⟩
   ·have:¬(2*ns.length+3=1/\x1=x0):=by omega
    rw[if_neg this,op1,decide_eq_true rfl];rfl
   ·have:¬(2*ns.length+3=1/\x=x0):=by omega
    rw[if_neg this,op1,decide_eq_false (by omega)];decide
   have g12:=g11.set (x:=x1) (c:=64) a2;have k712:=k711.trans (Keeps.upd (o:=.lst ((q9 (dC L R) λx=>if 2*ns.length+3=1/\x=x0 then 118 else if df ns.length L R (2*ns.length+3) x then 46 else 35).set x1 (lJ 64))) (aR a2));generalize upd H11 as[2*ns.length+3] (.lst ((q9 (dC L R) λx=>if 2*ns.length+3=1/\x=x0 then 118 else if df ns.length L R (2*ns.length+3) x then 46 else 35).set x1 (lJ 64)))=H12 at g12 k712 ⊢;have g13:gH H12 g as (dC L R) (signG ns.length L R):=g12.congr λi x _ _=>sign_of op0 op1 i x;refine⟨rfl,g,rfl,⟨_,bv.of g13.top⟩,?_⟩;have fin12:ak H H12:=λz o hz=>by
    have hz7:=((s1.trans s2).trans s38) _ _ hz;refine k712 z o (λhm=>?_) hz7;have:=((s1.trans s2).trans s36).free (fr z hm);rw[hz] at this;cases this
   refine oE (xs:=as.map V.ref) (λi ys σ H'=>H'=H12/\ys=((List.range i).map λj=>V.str (tx (jB ns.length L R j)))/\∃x,σ=[x]) ⟨rfl,rfl,_,rfl⟩ ?_ (by rw[aA];exact bf (bO (by omega))) ?_ ?_
   ·rintro i ys σ H' ⟨rfl,rfl,_⟩;exact⟨bv.of g13.top,by simp⟩
   ·rintro i x ys σ H' N hx ⟨rfl,rfl,x',rfl⟩ hN;obtain⟨a,ha,rfl⟩:=iI hx;have hrow:=g13.row i a ha;rw[vx] at hrow;walk_at "wp";refine⟨rfl,_,a,_,rfl,rfl,bv.of hrow,tR (by simp;omega),?_⟩;rw[zQ];refine hN _ _ _ ⟨rfl,?_,_,rfl⟩;rw[dv,aW];rfl
   ·rintro ys σ H' p ⟨rfl,rfl,_⟩ np;have s13:=(ak.refl H').new (o:=.lst ((List.range (as.map V.ref).length).map λj=>V.str (tx (jB ns.length L R j)))) np;have el:(as.map V.ref).length=2*ns.length+5:=by rw[aA];exact ea
    rw[el];refine⟨_,p,((List.range (2*ns.length+5)).map (jB ns.length L R)).map tx,rfl,rfl,bv.of ?_,uM (by simp;omega) (λr hr=>?_),?_⟩
    ·rw[aD,bc,bc];rfl
    ·obtain⟨j,_,rfl⟩:=aT.mp hr;unfold jB;rw[aA,dR];omega
    ·rw[zr];rw[el] at s13;exact q L R _ BO.isL BO.isR (fin12.trans s13)
theorem JE (E:Fn K mg "_law_mix" t8 ["_law_seed","_law_k"]):eO P w K mg base 1 "_law_mix" t8 ["_law_seed","_law_k"] Gh:=E.mk' λf fd F=>by
 refine F.okS C6 (λvs H Q E h=>?_) (λcdv A outer s H vs Q E hr h=>?_)
 ·obtain⟨a,k,rfl,_⟩:=h;rfl
 ·obtain⟨a,k,rfl,h0,h1,q⟩:=h;refine⟨[some (.int a),some (.int k),none],_,rfl,(L2.jE.h (aI (aj (i:=2) C6.nd rfl (Or.inl rfl) (ae kP (ae ef (ae c7 (ae c7 (ae c7 (ae kP (a8 0) (ae Iy aE aE)) (ae ef aE (a8 1))) (ae ef (ae ef (a8 1) (a8 1)) (a8 1))) aE) aE) aE))
   (aL (bT (ae kP (ae ef (a8 2) aE) aE))))),?_⟩
  walk_at "wp";have hkk:0<=k*k/\k*k<=1000000:=⟨Int.mul_nonneg h0 h0,by have:=Int.mul_le_mul h1 h1 h0 (by decide);omega⟩
  refine⟨⟨by decide,by decide,by decide⟩,by decide,.inl ⟨by decide,by decide⟩,.inl ⟨by omega,by omega⟩,.inl ⟨by omega,by omega⟩,.inr ⟨by decide,by decide⟩,by decide,.inr ⟨by decide,by decide⟩,by decide,q⟩
theorem yM (B:oJ mg) (E:Fn K mg "_law_cell_at" kG ["_law_script","_law_k"]):eO P w K mg base 1 "_law_cell_at" kG ["_law_script","_law_k"] (CZ K):=E.mk' λf fd F=>by
 refine F.okS xj (λvs H Q E h=>?_) (λcdv A outer s H vs Q E hr h=>?_)
 ·obtain⟨a,ns,k,rfl,_⟩:=h;rfl
 ·obtain⟨a,ns,k,rfl,hS,q⟩:=h;refine⟨[some (.ref a),some (.int k)],_,rfl,(L2.jE.h (aI (ce (bX nG (a8 1) (bG bS (by rfl) B.len bH (aG (a8 0) aC)) (bq _))
   (aL (bT (a9 b6 (a8 0) (a8 1) (λ_ _=>rfl))))
   bh)
   (aL (bT aE)))),?_⟩
  walk_at "wp";refine⟨_,.inl hS,?_⟩;rw[aA];refine hZ (λh=>?_) (λh=>?_)
  ·have hk:k<ns.length:=by omega
   refine⟨_,.int (ns.getD k 0),hS,fg ?_,q⟩;simp[aS,hk]
  ·have hk:ns.length<=k:=by omega
   have e:ns.getD k 0=0:=by simp[List.getD,dW hk]
   rw[e] at q;exact q
theorem Ah (B:oJ mg) (E:Fn K mg "_law_digits" lK ["_law_cell","_law_base"]) (D_mix:eO P w K mg base 1 "_law_mix" t8 ["_law_seed","_law_k"] Gh):eO P w K mg base 2 "_law_digits" lK ["_law_cell","_law_base"] vg:=E.mk' λf fd F=>by
 refine F.okS iP (λvs H Q E h=>?_) (λcdv A outer s H vs Q E hr h=>?_)
 ·obtain⟨c,b,rfl,_⟩:=h;rfl
 ·obtain⟨c,b,rfl,b0,b1,q⟩:=h;refine⟨[some (.int c),some (.int b),none,none,none,none,none],_,rfl,(L2.jE.h (aI (aj (i:=2) iP.nd rfl (Or.inl rfl) (ae kP (ae pE (a8 0) aE) aE))
   (aI (aj (i:=3) iP.nd rfl (Or.inl rfl) (ae pE (a8 0) aE))
   (aI (aj (i:=4) iP.nd rfl (Or.inl rfl) (cv aC))
   (aI (c8 aZ rfl (iK (by rfl) B.range (aG (a8 2) aC)) (bM (i:=5) iP.nd rfl (Or.inl rfl))
   (aI (aj (i:=6) iP.nd rfl (Or.inl rfl) (ae kP (a8 3) (a8 1)))
    (aI (ce (QW.pt (ph (bX gx (ae kP (a8 0) aE) aE (bq _)) (ox (bX gx (a8 3) aE (bq _)))))
    (aL (aj (i:=6) iP.nd rfl (Or.inl rfl) (ae kP (ac D_mix (hr.mono (by decide)) (by rfl) (aG (a8 0) (aG (a8 5) aC))) (a8 1))))
    bh)
    (aI (cf (fJ am ay ax d9 (a8 4) (aG (a8 6) aC)))
    (aL (aj (i:=3) iP.nd rfl (Or.inl rfl) (ae pE (a8 3) (a8 1))))))))
   (aL (bT (a8 4)))))))),?_⟩
  walk_at "wp";have m0:0<=c / 2 % 21:=Int.emod_nonneg _ (by decide);have m1:c / 2 % 21<21:=Int.emod_lt_of_pos _ (by decide);generalize c / 2 % 21=many at m0 m1 ⊢;refine⟨⟨by decide,by decide⟩,by decide,⟨by decide,by decide⟩,a6 _,λl nl=>⟨by omega,by omega,?_⟩⟩;refine fV (n:=many.toNat) (λi σ H2=>∃(rest:Int) (ds:List Int) (x5 x6:Option V),σ=[some (.int c),some (.int b),some (.int many),some (.int rest),some (.ref l),x5,x6]/\ak H H2/\H2 l=some (.lst (ds.map V.int))/\ds.length=i)
   ⟨_,[],none,none,rfl,(ak.refl H).new nl,aD,rfl⟩ ?_ ?_
  ·rintro i σ H2 hi ⟨rest,ds,x5,x6,rfl,sm,hl,hlen⟩;walk_at "wp";refine⟨by omega,by decide,?_⟩;have fin:∀y:Int,gw (K:=K) hl=gw hl:=λ_=>rfl;refine hZ (λ_=>⟨c,_,rfl,by omega,by omega,?_⟩) (λ_=>hZ (λ_=>⟨c,_,rfl,by omega,by omega,?_⟩) (λ_=>?_))
   case' refine_1=>(walk_at "wp";refine⟨by omega,?_⟩)
   case' refine_2=>(walk_at "wp";refine⟨by omega,?_⟩)
   all_goals
    refine⟨gw hl,_,hl,by rw[aA];exact bO (by omega),⟨by omega,by omega⟩,_,ds++[_],_,_,rfl,sm.new nl,by rw[aD,aW];rfl,by simp[hlen]⟩
  ·rintro σ H2 ⟨rest,ds,x5,x6,rfl,sm,hl,hlen⟩;walk_at "wp";exact q l ds H2 nl sm hl (by omega)
theorem Fa (E:Fn K mg "_law_need" p7 ["_law_many"]):eO P w K mg base 1 "_law_need" p7 ["_law_many"] CU:=E.mk' λf fd F=>by
 refine F.okS Eg (λvs H Q E h=>?_) (λcdv A outer s H vs Q E hr h=>?_)
 ·obtain⟨m,rfl,_⟩:=h;rfl
 ·obtain⟨m,rfl,h0,h1,q⟩:=h;refine⟨[some (.int m)],_,rfl,(L2.jE.h (aI (ce (bX nG (a8 0) aE (bq _))
   (aL (bT aE))
   bh)
   (aL (bT (ae fw (ae pE (ae ef aE (ae fw (a8 0) aE)) aE) aE))))),?_⟩
  walk_at "wp";unfold mX at q;refine hZ (λh=>?_) (λh=>?_)
  ·rw[if_pos h] at q;exact q
  ·rw[if_neg h] at q;exact⟨.inl ⟨by decide,by decide⟩,⟨by decide,by decide⟩,q⟩
theorem JG (B:oJ mg) (E:Fn K mg "_law_can" t9 ["_law_open_ends","_law_letter"]):eO P w K mg base 1 "_law_can" t9 ["_law_open_ends","_law_letter"] Gi:=E.mk' λf fd F=>by
 refine F.okS xk (λvs H Q E h=>?_) (λcdv A outer s H vs Q E hr h=>?_)
 ·obtain⟨oe,fd,A',B',st,f,k,rfl,_⟩:=h;rfl
 ·obtain⟨oe,fd,A',B',st,f,k,rfl,hk,G,q⟩:=h;refine⟨[some (.ref oe),some (.str (ky k)),none,none],_,rfl,(L2.jE.h (aI (aj (i:=2) xk.nd rfl (Or.inl rfl) (a9 b6 (a8 0) aE (λ_ _=>rfl)))
   (aI (aj (i:=3) xk.nd rfl (Or.inl rfl) (a9 b6 (a8 0) aE (λ_ _=>rfl)))
   (aI (ce (bX gx (a8 1) cI (bq _))
   (aL (bT (kf (eQ qU (bG bS (by rfl) B.len bH (aG (a8 2) aC)) aE (bq _)) (kf (eQ qU (bG bS (by rfl) B.len bH (aG (a8 3) aC)) aE (bq _)) (mD (eQ (DU (qW hr)) (a9 ji (a9 b6 (a8 2) (uw u6 aE) (λ_ _=>rfl)) aE (λ_ _=>rfl)) (a9 ji (a9 b6 (a8 3) (uw u6 aE) (λ_ _=>rfl)) aE (λ_ _=>rfl)) (bq _)))))))
   bh)
   (aI (ce (bX gx (a8 1) cI (bq _))
   (aL (bT (eQ qU (bG bS (by rfl) B.len bH (aG (a8 3) aC)) aE (bq _))))
   bh)
   (aL (bT (IP (eQ gx (a8 1) cI (bq _)) (mD (eQ qU (bG bS (by rfl) B.len bH (aG (a8 2) aC)) aE (bq _))))))))))),?_⟩
  obtain⟨as,a1,a2⟩:=id (G.s false);obtain⟨bs,b1,b2⟩:=id (G.s true);have la:(as.map V.ref).length=(st false).length:=by rw[aA];exact bB a2
  have lb:(bs.map V.ref).length=(st true).length:=by rw[aA];exact bB b2
  have pos:∀S:List Oe,decide (0<(S.length:Int))=decide (S≠[]):=λS=>decide_eq_decide.mpr (by cases S with
   | nil=>simp
   | cons a b=>simp only[cG,ne_eq,reduceCtorEq,not_false_eq_true,iff_true];omega)
  walk_at "wp";refine⟨_,_,bv.of G.oe_,rfl,_,_,bv.of G.oe_,rfl,?_⟩;have hd:=wc k hk;have hb:=LD k hk;have ha:=Gs k hk;rw[decide_eq_decide] at hd hb ha;simp only[hd,hb,ha];unfold xB at q;by_cases k3:k=3
  ·rw[if_pos k3] at q ⊢;refine⟨_,_,rfl,.inl (bv.of a1),?_⟩;rw[la];rcases n8 (st false) with e | ⟨S,o,l,e⟩
   ·rw[e] at q ⊢;exact pH (by simp) q
   ·refine sS (by rw[e];simp only[af,cP];omega) ⟨_,_,rfl,.inl (bv.of b1),?_⟩;rw[lb];rcases n8 (st true) with e' | ⟨S',o',l',e'⟩
    ·rw[e,e'] at q;rw[e'];exact pH (by simp) (by simpa using q)
    ·refine sS (by rw[e'];simp only[af,cP];omega) ?_;have s1:=G.s false;have s2:=G.s true;rw[e] at s1;rw[e'] at s2;obtain⟨cs,c,c1,c2,c3,_⟩:=nP s1;obtain⟨ds,d,d1,d2,d3,_⟩:=nP s2;refine⟨_,_,_,_,rfl,rfl,bv.of c1,pN _ _,.inr (.inl ⟨c,_,_,_,rfl,rfl,dA.of c3,rfl,?_⟩)⟩;refine⟨_,_,_,_,rfl,rfl,bv.of d1,pN _ _,.inr (.inl ⟨d,_,_,_,rfl,rfl,dA.of d3,rfl,qz ?_⟩)⟩;rw[e,e',uK,uK] at q;have e3:(decide (S++[(o,l)]≠[])&&(decide (S'++[(o',l')]≠[])&&decide (some l≠some l')))=!decide (l=l'):=by simp
     rw[e3] at q;exact q
  ·rw[if_neg k3] at q ⊢;by_cases k1:k=1
   ·rw[if_pos k1] at q ⊢;refine⟨_,_,rfl,.inl (bv.of b1),?_⟩;rw[lb,pos];exact q
   ·rw[if_neg k1] at q ⊢;by_cases k0:k=0
    ·rw[if_pos k0];rw[decide_eq_true k0] at q;exact q
    ·rw[if_neg k0];rw[decide_eq_false k0,lF] at q;refine⟨_,_,rfl,.inl (bv.of a1),?_⟩;rw[la,pos];exact q
theorem JD (B:oJ mg) (E:Fn K mg "_law_put" rR ["_law_open_ends","_law_found","_law_letter","_law_row"]):eO P w K mg base 1 "_law_put" rR ["_law_open_ends","_law_found","_law_letter","_law_row"] CT:=E.mk' λf fd F=>by
 refine F.okS mz (λvs H Q E h=>?_) (λcdv A outer s H vs Q E hr h=>?_)
 ·obtain⟨oe,fd,A',B',st,f,st',f',k,r,rfl,_⟩:=h;rfl
 ·obtain⟨oe,fd,A',B',st,f,st',f',k,r,rfl,G,hl,P',q⟩:=h;refine⟨[some (.ref oe),some (.ref fd),some (.str (ky k)),some (.int r),none,none,none,none,none,none],_,rfl,(L2.jE.h (aI (aj (i:=4) mz.nd rfl (Or.inl rfl) (a9 b6 (a8 0) aE (λ_ _=>rfl)))
   (aI (aj (i:=5) mz.nd rfl (Or.inl rfl) (a9 b6 (a8 0) aE (λ_ _=>rfl)))
   (aI (aj (i:=6) mz.nd rfl (Or.inl rfl) (cv aC))
   (c6 (ce (bX oB (a8 2) cI (by with_unfolding_all rfl))
   (aI (cf (fJ am ay ax d9 (a8 6) (ci (qw am m9 m8 Da (a8 4)) aC)))
    (aL (cf (fJ am ay ax d9 (a9 b6 (a8 1) aE (λ_ _=>rfl)) (eE (dE (aY (a9 ji (a9 b6 (a8 6) (uw u6 aE) (λ_ _=>rfl)) aE (λ_ _=>rfl)) (aG (a8 3) aC))) aC)))))
   bh)
   (c6 (ce (bX oB (a8 2) cI (by with_unfolding_all rfl))
   (aI (cf (fJ am ay ax d9 (a8 6) (ci (qw am m9 m8 Da (a8 5)) aC)))
    (aL (cf (fJ am ay ax d9 (a9 b6 (a8 1) aE (λ_ _=>rfl)) (eE (dE (aY (a9 ji (a9 b6 (a8 6) (uw u6 aE) (λ_ _=>rfl)) aE (λ_ _=>rfl)) (aG (a8 3) aC))) aC)))))
   bh)
   (aI (aj (i:=7) mz.nd rfl (Or.inl rfl) (a8 3))
   (c6 (ce (bX qU (bG bS (by rfl) B.len bH (aG (a8 6) aC)) aE (bq _))
   (aL (aj (i:=7) mz.nd rfl (Or.inl rfl) (a9 ji (a9 b6 (a8 6) aE (λ_ _=>rfl)) aE (λ_ _=>rfl))))
   bh)
   (c6 (ce (bX oB (a8 2) cI (by with_unfolding_all rfl))
   (aL (cf (fJ am ay ax d9 (a8 4) (eE (dE (aG (a8 3) (aG (a8 7) aC))) aC))))
   bh)
   (c6 (ce (bX oB (a8 2) cI (by with_unfolding_all rfl))
   (aL (cf (fJ am ay ax d9 (a8 5) (eE (dE (aG (a8 3) (aG (a8 7) aC))) aC))))
   bh)
   (aL (ce (bX gx (a8 2) cI (bq _))
   (aL (c8 aZ rfl (eZ (cv (aG (a8 4) (aG (a8 5) aC)))) (bM (i:=8) mz.nd rfl (Or.inl rfl))
    (aL (c8 aZ rfl (iK (by rfl) B.range (ci (bG bS (by rfl) B.len bH (aG (a8 8) aC)) aC)) (bM (i:=9) mz.nd rfl (Or.inl rfl))
     (aL (ce (bX (xv (qW hr)) (a9 ji (a9 b6 (a8 8) (a8 9) (λ_ _=>rfl)) aE (λ_ _=>rfl)) (a9 ji (a9 b6 (a8 6) aE (λ_ _=>rfl)) aE (λ_ _=>rfl)) (bq _))
      (aL (qr (dE (aY (a9 ji (a9 b6 (a8 8) (a8 9) (λ_ _=>rfl)) aE (λ_ _=>rfl)) (aG (a8 7) aC))) (qv (a8 8) (a8 9) set_list)))
      bh))))))
   bh)))))))))))),?_⟩
  walk_at "wp";refine⟨_,_,bv.of G.oe_,rfl,_,_,bv.of G.oe_,rfl,a6 _,λp np=>?_⟩;have G0:=G.new (o:=.lst []) np;have F0:Fr A' B' H (upd H p (.lst [])):=(Fr.refl _ _ _).new np;have p0:upd H p (.lst []) p=some (.lst []):=aD;have pn:∀u,p≠A' u/\p≠B' u:=λu=>by
   obtain⟨_,x,_⟩:=G.s u;obtain⟨_,y,_⟩:=G.f_ u;exact⟨(au x np).symm,(au y np).symm⟩
  generalize upd H p (.lst [])=H0 at G0 F0 p0 ⊢;have fin:∀H',Fr A' B' H H'->GS H' oe fd A' B' st' f'->Q .non H':=q;have po:p≠oe/\p≠fd:=⟨(au G.oe_ np).symm,(au G.fd_ np).symm⟩
  cases P' with
  | a=>
   refine bP (λσ H'=>σ=[some (.ref oe),some (.ref fd),some (.str (ky 0)),some (.int r),some (.ref (A' false)),some (.ref (A' true)),some (.ref p),none,none,none]/\H0=H') ?_ ?_
   ·walk_at "wp";rw[xI,zx.1];exact pH (λz=>nomatch z) ⟨trivial,trivial⟩
   rintro σ' H' ⟨rfl,rfl⟩;refine bP (λσ H'=>σ=[some (.ref oe),some (.ref fd),some (.str (ky 0)),some (.int r),some (.ref (A' false)),some (.ref (A' true)),some (.ref p),none,none,none]/\H0=H') ?_ ?_
   ·walk_at "wp";rw[xI,zy.1];exact pH (λz=>nomatch z) ⟨trivial,trivial⟩
   rintro σ' H' ⟨rfl,rfl⟩;walk_at "wp";refine bP (λσ H'=>σ=[some (.ref oe),some (.ref fd),some (.str (ky 0)),some (.int r),some (.ref (A' false)),some (.ref (A' true)),some (.ref p),some (.int r),none,none]/\H0=H') ?_ ?_
   ·walk_at "wp";exact⟨_,.inl (bv.of p0),pH (by simp) ⟨trivial,trivial⟩⟩
   rintro σ' H' ⟨rfl,rfl⟩;refine bP (λσ H'=>σ=[some (.ref oe),some (.ref fd),some (.str (ky 0)),some (.int r),some (.ref (A' false)),some (.ref (A' true)),some (.ref p),some (.int r),none,none]/\Fr A' B' H H'/\GS H' oe fd A' B' (λv=>if v=false then st false++[((r:Int),(r:Int))] else st v) f) ?_ ?_
   ·walk_at "wp";rw[xI,AB.1];obtain⟨_,eA,_⟩:=G0.s false;refine sS rfl ⟨gw eA,(by show 2<=sizeLine;decide),λt nt=>?_⟩;obtain⟨xs,e,lx,G9⟩:=(G0.new (o:=.tup [.int r,.int (r:Int)]) nt).push false (t:=t) (p:=((r:Int),(r:Int))) aD;exact⟨xs,e,bO (by have:=(hl false).1;first | omega | (simp at lx;omega)),trivial,(F0.new nt).updA false,G9⟩
   rintro σ' H10 ⟨rfl,F10,G10⟩;refine bP (λσ H'=>σ=[some (.ref oe),some (.ref fd),some (.str (ky 0)),some (.int r),some (.ref (A' false)),some (.ref (A' true)),some (.ref p),some (.int r),none,none]/\Fr A' B' H H'/\GS H' oe fd A' B' (λv=>if v=true then (λv=>if v=false then st false++[((r:Int),(r:Int))] else st v) true++[((r:Int),(r:Int))] else (λv=>if v=false then st false++[((r:Int),(r:Int))] else st v) v) f) ?_ ?_
   ·walk_at "wp";rw[xI,AA.1];obtain⟨_,eA,_⟩:=G10.s true;refine sS rfl ⟨gw eA,(by show 2<=sizeLine;decide),λt nt=>?_⟩;obtain⟨xs,e,lx,G9⟩:=(G10.new (o:=.tup [.int r,.int (r:Int)]) nt).push true (t:=t) (p:=((r:Int),(r:Int))) aD;exact⟨xs,e,bO (by have:=(hl true).1;first | omega | (simp at lx;omega)),trivial,(F10.new nt).updA true,G9⟩
   rintro σ' H20 ⟨rfl,F20,G20⟩;walk_at "wp";refine pH (λz=>by have w:=wc 0 (by decide);rw[decide_eq_decide] at w;exact absurd (w.mp z) (by decide)) (fin _ F20 ?_);refine GS.cg G20 (λu=>?_) (λu=>?_)
   ·cases u<;>simp
   ·cases u<;>simp
  | @b S o l h=>
   refine bP (λσ H'=>σ=[some (.ref oe),some (.ref fd),some (.str (ky 1)),some (.int r),some (.ref (A' false)),some (.ref (A' true)),some (.ref p),none,none,none]/\H0=H') ?_ ?_
   ·walk_at "wp";rw[xI,zx.2.1];exact pH (λz=>nomatch z) ⟨trivial,trivial⟩
   rintro σ' H' ⟨rfl,rfl⟩;refine bP (λσ H'=>∃a1,σ=[some (.ref oe),some (.ref fd),some (.str (ky 1)),some (.int r),some (.ref (A' false)),some (.ref (A' true)),some (.ref p),none,none,none]/\Fr A' B' H H'/\GS H' oe fd A' B' (λv=>if v=true then S else st v) (λv=>if v=true then f true++[(o,(r:Int))] else f v)/\H' p=some (.lst [.ref a1])/\bZ H' a1 (o,l)) ?_ ?_
   ·walk_at "wp";rw[xI,zy.2.1];exact sS rfl (pC (u:=true) (S:=S) (o:=o) (l:=l) (r:=r) F0 np G0 h p0 (by show 0<=10;decide) (hl true).2 pn po rfl λH4 a F4 G4 p4 t4 old=>⟨a,by first | rfl | trivial,F4,G4,p4,t4⟩)
   rintro σ' H1 ⟨a1,rfl,F1,G1,p1,t1⟩;walk_at "wp";refine bP (λσ H'=>σ=[some (.ref oe),some (.ref fd),some (.str (ky 1)),some (.int r),some (.ref (A' false)),some (.ref (A' true)),some (.ref p),some (.int l),none,none]/\H1=H') ?_ ?_
   ·walk_at "wp";exact⟨_,.inl (bv.of p1),sS (by simp) ⟨_,_,bv.of p1,rfl,.inr (.inl ⟨a1,_,_,_,rfl,rfl,dA.of t1,rfl,by first | rfl | trivial,by first | rfl | trivial⟩)⟩⟩
   rintro σ' H' ⟨rfl,rfl⟩;refine bP (λσ H'=>σ=[some (.ref oe),some (.ref fd),some (.str (ky 1)),some (.int r),some (.ref (A' false)),some (.ref (A' true)),some (.ref p),some (.int l),none,none]/\Fr A' B' H H'/\GS H' oe fd A' B' (λv=>if v=false then (λv=>if v=true then S else st v) false++[((r:Int),l)] else (λv=>if v=true then S else st v) v) (λv=>if v=true then f true++[(o,(r:Int))] else f v)) ?_ ?_
   ·walk_at "wp";rw[xI,AB.2.1];obtain⟨_,eA,_⟩:=G1.s false;refine sS rfl ⟨gw eA,(by show 2<=sizeLine;decide),λt nt=>?_⟩;obtain⟨xs,e,lx,G9⟩:=(G1.new (o:=.tup [.int r,.int l]) nt).push false (t:=t) (p:=((r:Int),l)) aD;exact⟨xs,e,bO (by have:=(hl false).1;first | omega | (simp at lx;omega)),trivial,(F1.new nt).updA false,G9⟩
   rintro σ' H11 ⟨rfl,F11,G11⟩;refine bP (λσ H'=>σ=[some (.ref oe),some (.ref fd),some (.str (ky 1)),some (.int r),some (.ref (A' false)),some (.ref (A' true)),some (.ref p),some (.int l),none,none]/\H11=H') ?_ ?_
   ·walk_at "wp";rw[xI,AA.2.1];exact pH (λz=>nomatch z) ⟨trivial,trivial⟩
   rintro σ' H' ⟨rfl,rfl⟩;walk_at "wp";refine pH (λz=>by have w:=wc 1 (by decide);rw[decide_eq_decide] at w;exact absurd (w.mp z) (by decide)) (fin _ F11 ?_);refine GS.cg G11 (λu=>?_) (λu=>?_)
   ·cases u<;>simp
   ·cases u<;>simp
  | @c S o l h=>
   refine bP (λσ H'=>∃a1,σ=[some (.ref oe),some (.ref fd),some (.str (ky 2)),some (.int r),some (.ref (A' false)),some (.ref (A' true)),some (.ref p),none,none,none]/\Fr A' B' H H'/\GS H' oe fd A' B' (λv=>if v=false then S else st v) (λv=>if v=false then f false++[(o,(r:Int))] else f v)/\H' p=some (.lst [.ref a1])/\bZ H' a1 (o,l)) ?_ ?_
   ·walk_at "wp";rw[xI,zx.2.2.1];exact sS rfl (pC (u:=false) (S:=S) (o:=o) (l:=l) (r:=r) F0 np G0 h p0 (by show 0<=10;decide) (hl false).2 pn po rfl λH4 a F4 G4 p4 t4 old=>⟨a,by first | rfl | trivial,F4,G4,p4,t4⟩)
   rintro σ' H1 ⟨a1,rfl,F1,G1,p1,t1⟩;refine bP (λσ H'=>σ=[some (.ref oe),some (.ref fd),some (.str (ky 2)),some (.int r),some (.ref (A' false)),some (.ref (A' true)),some (.ref p),none,none,none]/\H1=H') ?_ ?_
   ·walk_at "wp";rw[xI,zy.2.2.1];exact pH (λz=>nomatch z) ⟨trivial,trivial⟩
   rintro σ' H' ⟨rfl,rfl⟩;walk_at "wp";refine bP (λσ H'=>σ=[some (.ref oe),some (.ref fd),some (.str (ky 2)),some (.int r),some (.ref (A' false)),some (.ref (A' true)),some (.ref p),some (.int l),none,none]/\H1=H') ?_ ?_
   ·walk_at "wp";exact⟨_,.inl (bv.of p1),sS (by simp) ⟨_,_,bv.of p1,rfl,.inr (.inl ⟨a1,_,_,_,rfl,rfl,dA.of t1,rfl,by first | rfl | trivial,by first | rfl | trivial⟩)⟩⟩
   rintro σ' H' ⟨rfl,rfl⟩;refine bP (λσ H'=>σ=[some (.ref oe),some (.ref fd),some (.str (ky 2)),some (.int r),some (.ref (A' false)),some (.ref (A' true)),some (.ref p),some (.int l),none,none]/\H1=H') ?_ ?_
   ·walk_at "wp";rw[xI,AB.2.2.1];exact pH (λz=>nomatch z) ⟨trivial,trivial⟩
   rintro σ' H' ⟨rfl,rfl⟩;refine bP (λσ H'=>σ=[some (.ref oe),some (.ref fd),some (.str (ky 2)),some (.int r),some (.ref (A' false)),some (.ref (A' true)),some (.ref p),some (.int l),none,none]/\Fr A' B' H H'/\GS H' oe fd A' B' (λv=>if v=true then (λv=>if v=false then S else st v) true++[((r:Int),l)] else (λv=>if v=false then S else st v) v) (λv=>if v=false then f false++[(o,(r:Int))] else f v)) ?_ ?_
   ·walk_at "wp";rw[xI,AA.2.2.1];obtain⟨_,eA,_⟩:=G1.s true;refine sS rfl ⟨gw eA,(by show 2<=sizeLine;decide),λt nt=>?_⟩;obtain⟨xs,e,lx,G9⟩:=(G1.new (o:=.tup [.int r,.int l]) nt).push true (t:=t) (p:=((r:Int),l)) aD;exact⟨xs,e,bO (by have:=(hl true).1;first | omega | (simp at lx;omega)),trivial,(F1.new nt).updA true,G9⟩
   rintro σ' H11 ⟨rfl,F11,G11⟩;walk_at "wp";refine pH (λz=>by have w:=wc 2 (by decide);rw[decide_eq_decide] at w;exact absurd (w.mp z) (by decide)) (fin _ F11 ?_);refine GS.cg G11 (λu=>?_) (λu=>?_)
   ·cases u<;>simp
   ·cases u<;>simp
  | @d n' f2 o1 l1 o2 l2 h h' ne=>
   refine bP (λσ H'=>∃a1,σ=[some (.ref oe),some (.ref fd),some (.str (ky 3)),some (.int r),some (.ref (A' false)),some (.ref (A' true)),some (.ref p),none,none,none]/\Fr A' B' H H'/\GS H' oe fd A' B' (λv=>if v=false then n' else st v) (λv=>if v=false then f false++[(o1,(r:Int))] else f v)/\H' p=some (.lst [.ref a1])/\bZ H' a1 (o1,l1)) ?_ ?_
   ·walk_at "wp";rw[xI,zx.2.2.2];exact sS rfl (pC (u:=false) (S:=n') (o:=o1) (l:=l1) (r:=r) F0 np G0 h p0 (by show 0<=10;decide) (hl false).2 pn po rfl λH4 a F4 G4 p4 t4 old=>⟨a,by first | rfl | trivial,F4,G4,p4,t4⟩)
   rintro σ' H1 ⟨a1,rfl,F1,G1,p1,t1⟩;refine bP (λσ H'=>∃a2,σ=[some (.ref oe),some (.ref fd),some (.str (ky 3)),some (.int r),some (.ref (A' false)),some (.ref (A' true)),some (.ref p),none,none,none]/\Fr A' B' H H'/\GS H' oe fd A' B' (λv=>if v=true then f2 else (λv=>if v=false then n' else st v) v) (λv=>if v=true then (λv=>if v=false then f false++[(o1,(r:Int))] else f v) true++[(o2,(r:Int))] else (λv=>if v=false then f false++[(o1,(r:Int))] else f v) v)/\H' p=some (.lst [.ref a1,.ref a2])/\bZ H' a2 (o2,l2)/\bZ H' a1 (o1,l1)) ?_ ?_
   ·walk_at "wp";rw[xI,zy.2.2.2];exact sS rfl (pC (u:=true) (S:=f2) (o:=o2) (l:=l2) (r:=r) F1 np G1 (by simp only[iO,if_false];exact h') p1 (by show 1<=10;decide) (by simp only[iO,if_false];exact(hl true).2) pn po rfl λH4 a F4 G4 p4 t4 old=>⟨a,by first | rfl | trivial,F4,G4,p4,t4,old _ _ t1⟩)
   rintro σ' H2 ⟨a2,rfl,F2,G2,p2,t2 ,t1'⟩;walk_at "wp";refine bP (λσ H'=>σ=[some (.ref oe),some (.ref fd),some (.str (ky 3)),some (.int r),some (.ref (A' false)),some (.ref (A' true)),some (.ref p),some (.int l1),none,none]/\H2=H') ?_ ?_
   ·walk_at "wp";exact⟨_,.inl (bv.of p2),sS (by simp) ⟨_,_,bv.of p2,rfl,.inr (.inl ⟨a1,_,_,_,rfl,rfl,dA.of t1',rfl,by first | rfl | trivial,by first | rfl | trivial⟩)⟩⟩
   rintro σ' H' ⟨rfl,rfl⟩;refine bP (λσ H'=>σ=[some (.ref oe),some (.ref fd),some (.str (ky 3)),some (.int r),some (.ref (A' false)),some (.ref (A' true)),some (.ref p),some (.int l1),none,none]/\H2=H') ?_ ?_
   ·walk_at "wp";rw[xI,AB.2.2.2];exact pH (λz=>nomatch z) ⟨trivial,trivial⟩
   rintro σ' H' ⟨rfl,rfl⟩;refine bP (λσ H'=>σ=[some (.ref oe),some (.ref fd),some (.str (ky 3)),some (.int r),some (.ref (A' false)),some (.ref (A' true)),some (.ref p),some (.int l1),none,none]/\H2=H') ?_ ?_
   ·walk_at "wp";rw[xI,AA.2.2.2];exact pH (λz=>nomatch z) ⟨trivial,trivial⟩
   rintro σ' H' ⟨rfl,rfl⟩;walk_at "wp";have w3:ky 3=Str.ofString "d":=rfl;refine sS w3 ⟨(by show 2<=sizeLine;decide),λp9 n9=>?_⟩;have G3:=G2.new (o:=.lst [.ref (A' false),.ref (A' true)]) n9;have F3:=F2.new (o:=.lst [.ref (A' false),.ref (A' true)]) n9;have s3:=(ak.refl H2).new (o:=.lst [.ref (A' false),.ref (A' true)]) n9;have q3:=s3 _ _ p2;have b3:=t2.same s3;have h9:upd H2 p9 (.lst [.ref (A' false),.ref (A' true)]) p9=some (.lst [.ref (A' false),.ref (A' true)]):=aD;have pn9:∀u,p9≠A' u/\p9≠B' u:=λu=>by
    obtain⟨_,x,_⟩:=G2.s u;obtain⟨_,y,_⟩:=G2.f_ u;exact⟨(au x n9).symm,(au y n9).symm⟩
   generalize upd H2 p9 (.lst [.ref (A' false),.ref (A' true)])=H3 at G3 F3 q3 b3 h9 ⊢;clear s3;generalize hX:(λu:Bool=>if u=true then f2 else n')=X;have G3:GS H3 oe fd A' B' X (λu=>f u++[(if u then o2 else o1,(r:Int))]):=G3.cg (λu=>by subst hX;cases u<;>simp) (λu=>by cases u<;>simp);have hXl:∀u,(X u).length<=100:=λu=>by
    have a1:=(hl false).1;have a2:=(hl true).1;rw[h] at a1;rw[h'] at a2;simp at a1 a2;subst hX;cases u<;>simp<;>omega
   have others:∀u (ys:List V) H',(∀v:V,v∈ys->True)->H' p9=some (.lst [.ref (A' false),.ref (A' true)])->upd H' (A' u) (.lst ys) p9=some (.lst [.ref (A' false),.ref (A' true)]):=λu ys H' _ e=>by rw[aP (pn9 u).1];exact e
   refine⟨⟨_,bv.of h9⟩,g6 (xs:=[.ref (A' false),.ref (A' true)]) (λi σ H'=>∃x8 x9:Option V,σ=[some (.ref oe),some (.ref fd),some (.str (ky 3)),some (.int r),some (.ref (A' false)),some (.ref (A' true)),some (.ref p),some (.int l1),x8,x9]/\Fr A' B' H H'/\H' p9=some (.lst [.ref (A' false),.ref (A' true)])/\H' p=some (.lst [.ref a1,.ref a2])/\bZ H' a2 (o2,l2)/\GS H' oe fd A' B' (λu=>if (if u then 2 else 1)<=i then (X u).map (gS l2 l1) else X u) (λu=>f u++[(if u then o2 else o1,(r:Int))]))
    ⟨none,none,rfl,F3,h9,q3,b3,G3.cg (λu=>by cases u<;>simp) λ_=>rfl⟩ (λi σ H' _ ⟨_,_,_,_,e,_⟩=>bv.of e) ?_ ?_⟩
   ·rintro i x σ H4 hx ⟨x8,x9,rfl,F4,h94,q4,b4,G4⟩;obtain⟨u,rfl,hu⟩:∃u:Bool,x=.ref (A' u)/\i+1=(if u then 2 else 1):=by
     match i,hx with
     | 0,hx=>exact⟨false,by simpa using hx.symm,rfl⟩
     | 1,hx=>exact⟨true,by simpa using hx.symm,rfl⟩
     | i+2,hx=>simp at hx
    have eu:(λu=>if (if u then 2 else 1)<=i then (X u).map (gS l2 l1) else X u) u=X u:=by simp only;rw[if_neg (by omega)]
    walk_at "wp";obtain⟨as,a1',a2'⟩:=id (G4.s u);have lu:(as.map V.ref).length=(X u).length:=by rw[aA,<-eu];exact bB a2'
    refine⟨_,.inl (bv.of a1'),by have:=hXl u;omega,by have:=hXl u;omega,?_⟩;have en:(((as.map V.ref).length:Int)).toNat=(X u).length:=by omega
    rw[en];refine fV (n:=(X u).length) (λk σ H'=>∃x9:Option V,σ=[some (.ref oe),some (.ref fd),some (.str (ky 3)),some (.int r),some (.ref (A' false)),some (.ref (A' true)),some (.ref p),some (.int l1),some (.ref (A' u)),x9]/\Fr A' B' H H'/\H' p9=some (.lst [.ref (A' false),.ref (A' true)])/\H' p=some (.lst [.ref a1,.ref a2])/\bZ H' a2 (o2,l2)/\GS H' oe fd A' B' (λv=>if v=u then ((X u).take k).map (gS l2 l1)++(X u).drop k else if (if v then 2 else 1)<=i then (X v).map (gS l2 l1) else X v) (λu=>f u++[(if u then o2 else o1,(r:Int))]))
     ⟨x9,rfl,F4,h94,q4,b4,G4.cg (λv=>by
      by_cases z:v=u
      ·subst z;refine Eq.trans eu ?_;rw[if_pos rfl];simp
      ·rw[if_neg z]) λ_=>rfl⟩ ?_ ?_
    ·rintro k σ H5 hk ⟨y9,rfl,F5,h95,q5,b5,G5⟩;obtain⟨e,he⟩:∃e,(X u)[k]? = some e:=⟨_,aK hk⟩
     obtain⟨r1,r2⟩:=Cd (X u) (gS l2 l1) he;obtain⟨bs,b,c1,c2,c3,c4⟩:=G5.get u (i:=k) (e:=e) (by rw[if_pos rfl];exact r1);walk_at "wp";refine⟨_,_,bv.of c1,by rw[iq];exact fg c2,.inr (.inl ⟨b,_,_,_,rfl,rfl,dA.of c3,rfl,?_⟩)⟩;refine⟨_,_,bv.of q5,rfl,.inr (.inl ⟨a2,_,_,_,rfl,rfl,dA.of b5,rfl,qz ?_⟩)⟩;simp only[bN,if_false];refine⟨_,rfl,?_⟩;simp only[decide_eq_true_eq];refine hZ (λz=>?_) (λz=>?_)
     ·refine⟨_,_,bv.of c1,by rw[iq];exact fg c2,.inr (.inl ⟨b,_,_,_,rfl,rfl,dA.of c3,rfl,?_⟩)⟩;refine⟨(by show 2<=sizeLine;decide),λt nt=>?_⟩;have s6:=(ak.refl H5).new (o:=.tup [.int e.1,.int l1]) nt;have G6:=G5.same s6;have c16:=s6 _ _ c1;refine⟨A' u,_,_,k,rfl,rfl,c16,by rw[iq];exact Fj (aF.mp c2).1,?_⟩;have G7:=G6.set u k (Paired.mapP c4 λa q z=>z.same s6) (t:=t) (q:=(e.1,l1)) aD;refine⟨_,rfl,(F5.new nt).updA u,by rw[aP (pn9 u).1];exact s6 _ _ h95,by rw[aP (pn u).1];exact s6 _ _ q5,kd c16 (b5.same s6),G7.cg (λv=>?_) λ_=>rfl⟩;by_cases zv:v=u
      ·subst zv;simp only[if_true];have er:gS l2 l1 e=(e.1,l1):=by unfold gS;rw[if_pos z]
       rw[er] at r2;exact r2
      ·simp only[zv,if_false]
     ·refine⟨_,rfl,F5,h95,q5,b5,G5.cg (λv=>?_) λ_=>rfl⟩;by_cases zv:v=u
      ·subst zv;simp only[if_true];have er:gS l2 l1 e=e:=by unfold gS;rw[if_neg z]
       rw[er] at r2;rw[<-r2];obtain⟨w1,w2⟩:=aF.mp r1
       conv=>lhs;rw[<-List.set_getElem_self (as:=((X v).take k).map (gS l2 l1)++(X v).drop k) (i:=k) w1,w2]
      ·simp only[zv,if_false]
    ·rintro σ H5 ⟨y9,rfl,F5,h95,q5,b5,G5⟩;refine⟨_,_,rfl,F5,h95,q5,b5,G5.cg (λv=>?_) λ_=>rfl⟩;by_cases zv:v=u
     ·subst zv;rw[if_pos rfl,if_pos (by omega)];simp
     ·rw[if_neg zv];have:((if v then 2 else 1)<=i)=((if v then 2 else 1)<=i+1):=by
       revert hu zv
       cases u<;>cases v<;>simp<;>omega
      simp only[this]
   ·rintro σ H4 ⟨x8,x9,rfl,F4,_,_,_,G4⟩;exact fin _ F4 (G4.cg (λu=>by subst hX;cases u<;>simp) λ_=>rfl)
theorem yG (B:oJ mg) (E:Fn K mg "_law_fitting" kE ["_law_open_ends","_law_row","_law_digit"]) (D_can:eO P w K mg base 1 "_law_can" t9 ["_law_open_ends","_law_letter"] Gi) (D_need:eO P w K mg base 1 "_law_need" p7 ["_law_many"] CU):eO P w K mg base 2 "_law_fitting" kE ["_law_open_ends","_law_row","_law_digit"] tV:=E.mk' λf fd F=>by
 refine F.okS kK (λvs H Q E h=>?_) (λcdv A outer s H vs Q E hr h=>?_)
 ·obtain⟨oe,fd,A',B',st,f,r,d,rfl,_⟩:=h;rfl
 ·obtain⟨oe,fd,A',B',st,f,r,d,rfl,G,hl,hr0,q⟩:=h;refine⟨[some (.ref oe),some (.int r),some (.int d),none,none,none,none],_,rfl,(L2.jE.h (aI (aj (i:=3) kK.nd rfl (Or.inl rfl) (ae c7 (bG bS (by rfl) B.len bH (aY (a9 b6 (a8 0) aE (λ_ _=>rfl)) aC)) (bG bS (by rfl) B.len bH (aY (a9 b6 (a8 0) aE (λ_ _=>rfl)) aC))))
   (aI (aj (i:=4) kK.nd rfl (Or.inl rfl) (cv aC))
   (aI (c8 aZ rfl (Ew (pq Hz cI (nE (ae kP (a8 2) aE)) (nE (ae c7 (ae kP (a8 2) aE) aE)))) (bM (i:=5) kK.nd rfl (Or.inl rfl))
   (aI (aj (i:=6) kK.nd rfl (Or.inl rfl) (ae fw (ae c7 (a8 3) (ae ef aE (d8 lV (by rfl) B.int dS (jb (eQ gx (a8 5) cI (bq _)) aC)))) (ae ef aE (d8 lV (by rfl) B.int dS (jb (eQ gx (a8 5) cI (bq _)) aC)))))
    (aL (ce (QW.pt (oy (iH (ac D_can (hr.mono (by decide)) (by rfl) (aG (a8 0) (aG (a8 5) aC)))) (nD (bX LA (ae c7 (a8 1) (ac D_need (hr.mono (by decide)) (by rfl) (aG (a8 6) aC))) aE (bq _)))))
    (aL (cf (fJ am ay ax d9 (a8 4) (aG (a8 5) aC))))
    bh))))
   (aL (bT (a8 4))))))),?_⟩
  obtain⟨as,a1,a2⟩:=id (G.s false);obtain⟨bs,b1,b2⟩:=id (G.s true);have la:(as.map V.ref).length=(st false).length:=by rw[aA];exact bB a2
  have lb:(bs.map V.ref).length=(st true).length:=by rw[aA];exact bB b2
  walk_at "wp";refine⟨_,_,bv.of G.oe_,rfl,_,_,rfl,.inl (bv.of a1),_,_,bv.of G.oe_,rfl,_,_,rfl,.inl (bv.of b1),a6 _,λl nl=>⟨by decide,by decide,by decide,?_⟩⟩;rw[la,lb];obtain⟨j,hj,ej⟩:∃j:Nat,j<4/\d % 4=j:=⟨(d % 4).toNat,by omega,by omega⟩
  rw[ej];obtain⟨z1,z2,z3⟩:=GJ j hj;generalize Txt.slice (Str.ofString "abcdabcd") (some (j:Int)) (some ((j:Int)+4))=z at z1 z2 z3 ⊢;have hm:((st false).length:Int)+(st true).length<=200:=by have:=hl false;have:=hl true;omega
  generalize hM:((st false).length:Int)+(st true).length=M at hm ⊢;have hM0:0<=M:=by omega
  have q':∀(ks:List Nat) (H':Hp),ak H H'->H' l=some (.lst (ks.map λk=>V.str (ky k)))->(∀k∈ks,k<4/\xB st k=true/\(r:Int)+mX (o0 M k)<=20)->Q (.ref l) H':=λks H' s' h1 h2=>q l ks H' nl s' h1 (by rw[hM];exact h2);refine⟨z1,Fv (x:=z) (λi σ H2=>∃(ks:List Nat) (x5 x6:Option V),σ=[some (.ref oe),some (.int r),some (.int d),some (.int M),some (.ref l),x5,x6]/\ak H H2/\H2 l=some (.lst (ks.map λk=>V.str (ky k)))/\ks.length<=i/\i<=4/\∀k∈ks,k<4/\xB st k=true/\(r:Int)+mX (o0 M k)<=20)
   ⟨[],none,none,rfl,(ak.refl H).new nl,aD,aH _,a6 _,λk hk=>(nomatch hk)⟩ ?_ ?_⟩
  ·rintro i c σ H2 hc ⟨ks,x5,x6,rfl,sm,hl2,hlen,hi4,hks⟩;have hc':z.cps.toList[i]? = some c:=by simpa using hc
   have hi:i<4:=by
    have h1:=(gf.mp hc).1;have h2:z.cps.size=4:=z3;omega
   obtain⟨k,hk,ek⟩:=JK (of_decide_eq_true (jY.mp z2 c (aR hc')));rw[ek];walk_at "wp";simp only[JM hk,JL hk];refine⟨.inl ⟨by decide,by decide⟩,.inl ⟨by decide,by decide⟩,oe,fd,A',B',st,f,k,rfl,hk,G.same sm,?_⟩;have ea:M+2*(if k=0 then 1 else 0) - 2*(if k=3 then 1 else 0)=o0 M k:=rfl;rw[ea];have hb:-1000<=o0 M k/\o0 M k<=1000:=by
    unfold o0;constructor<;>(split<;>split<;>omega)
   walk_at "wp";have no:∃(ks':List Nat) (x5 x6:Option V),[some (V.ref oe),some (V.int r),some (V.int d),some (V.int M),some (V.ref l),some (V.str (ky k)),some (V.int (o0 M k))]=[some (.ref oe),some (.int r),some (.int d),some (.int M),some (.ref l),x5,x6]/\ak H H2/\H2 l=some (.lst (ks'.map λk=>V.str (ky k)))/\ks'.length<=i+1/\i+1<=4/\∀k∈ks',k<4/\xB st k=true/\(r:Int)+mX (o0 M k)<=20:=
    ⟨ks,_,_,rfl,sm,hl2,Nat.le_succ_of_le hlen,hi,hks⟩
   cases hcan:xB st k with
   | false=>exact pH (λz=>nomatch z) no
   | true=>
    refine sS rfl ⟨_,rfl,hb.1,hb.2,?_⟩;walk_at "wp";refine hZ (λh20=>?_) (λ_=>no);refine⟨gw hl2,_,hl2,by rw[aA];exact bO (by omega),ks++[k],_,_,rfl,sm.new nl,by rw[aD,aW];rfl,by rw[af];exact Nat.succ_le_succ hlen,hi,λk' hk'=>?_⟩;rcases aU.mp hk' with y | y
    ·exact hks k' y
    ·have e:k'=k:=by simpa using y
     subst e;exact⟨hk,hcan,h20⟩
  ·rintro σ H2 ⟨ks,x5,x6,rfl,sm,hl2,hlen,hi4,hks⟩;walk_at "wp";exact q' ks H2 sm hl2 hks
theorem DY (B:oJ mg) (E:Fn K mg "_law_ended" nu ["_law_open_ends","_law_found","_law_row"]) (D_put:eO P w K mg base 1 "_law_put" rR ["_law_open_ends","_law_found","_law_letter","_law_row"] CT):eO P w K mg base 3 "_law_ended" nu ["_law_open_ends","_law_found","_law_row"] z5:=E.mk' λf fd F=>by
 refine F.okS h7 (λvs H Q E h=>?_) (λcdv A outer s H vs Q E hr h=>?_)
 ·obtain⟨oe,fd,A',B',b,st,f,is,r,rfl,_⟩:=h;rfl
 ·obtain⟨oe,fd,A',B',b,st,f,is,r,rfl,G,GG,hb,q⟩:=h;refine⟨[some (.ref oe),some (.ref fd),some (.int r),none,none,none,none,none],_,rfl,(L2.jE.h (aI (aj (i:=3) h7.nd rfl (Or.inl rfl) (a9 b6 (a8 0) aE (λ_ _=>rfl)))
   (aI (aj (i:=4) h7.nd rfl (Or.inl rfl) (a9 b6 (a8 0) aE (λ_ _=>rfl)))
   (c6 (nw aZ (bX qU (ae c7 (bG bS (by rfl) B.len bH (aG (a8 3) aC)) (bG bS (by rfl) B.len bH (aG (a8 4) aC))) aE (bq _))
   (aI (aj (i:=5) h7.nd rfl (Or.inl rfl) (ae oR (a8 3) (wF rfl (by rfl) B.list (by rfl) B.reversed (a8 4))))
    (aI (aj (i:=6) h7.nd rfl (Or.inl rfl) aE)
    (c6 (nw aZ (bX (xv (qW hr)) (a9 ji (a9 b6 (a8 5) (ae fw (a8 6) aE) (λ_ _=>rfl)) aE (λ_ _=>rfl)) (a9 ji (a9 b6 (a8 5) (a8 6) (λ_ _=>rfl)) aE (λ_ _=>rfl)) (bq _))
    (aL (aj (i:=6) h7.nd rfl (Or.inl rfl) (ae c7 (a8 6) aE))))
    (aI (aj (i:=7) h7.nd rfl (Or.inl rfl) cI)
    (c6 (ce (bX nG (bG bS (by rfl) B.len bH (aG (a8 3) aC)) (a8 6) (bq _))
    (aL (aj (i:=7) h7.nd rfl (Or.inl rfl) cI))
    bh)
    (c6 (ce (bX qU (bG bS (by rfl) B.len bH (aG (a8 3) aC)) (a8 6) (bq _))
    (aL (aj (i:=7) h7.nd rfl (Or.inl rfl) cI))
    bh)
    (c6 (cf (ac D_put (hr.mono (by decide)) (by rfl) (aG (a8 0) (aG (a8 1) (aG (a8 7) (aG (a8 2) aC))))))
    (aL (aj (i:=2) h7.nd rfl (Or.inl rfl) (ae c7 (a8 2) aE)))))))))))
   (c6 (ce (bX gx (bG bS (by rfl) B.len bH (aG (a8 3) aC)) aE (bq _))
   (aL (cf (fJ am ay ax d9 (a9 b6 (a8 1) aE (λ_ _=>rfl)) (eE (dE (aY (a9 ji (a9 b6 (a8 3) aE (λ_ _=>rfl)) aE (λ_ _=>rfl)) (aG (a8 2) aC))) aC))))
   (aL (cf (fJ am ay ax d9 (a9 b6 (a8 1) aE (λ_ _=>rfl)) (eE (dE (aY (a9 ji (a9 b6 (a8 4) aE (λ_ _=>rfl)) aE (λ_ _=>rfl)) (aG (a8 2) aC))) aC)))))
   (aL (bT (ae fw (a8 2) aE)))))))),?_⟩
  walk_at "wp";refine⟨_,_,bv.of G.oe_,rfl,_,_,bv.of G.oe_,rfl,?_⟩;refine bP (λσ H'=>∃(r:Nat) (st:Bool->List Oe) (f:Bool->List Bw) (is:List Pc) (x5 x6 x7:Option V),σ=[some (.ref oe),some (.ref fd),some (.int r),some (.ref (A' false)),some (.ref (A' true)),x5,x6,x7]/\Fr A' B' H H'/\GS H' oe fd A' B' st f/\Gr b st f r is/\r<=21/\(st false).length+(st true).length<=1) ?_ ?_
  ·refine⟨λm σ H'=>∃(r:Nat) (st:Bool->List Oe) (f:Bool->List Bw) (is:List Pc) (x5 x6 x7:Option V),σ=[some (.ref oe),some (.ref fd),some (.int r),some (.ref (A' false)),some (.ref (A' true)),x5,x6,x7]/\Fr A' B' H H'/\GS H' oe fd A' B' st f/\Gr b st f r is/\r+xK st<=21/\m=xK st,⟨_,r,st,f,is,none,none,none,rfl,Fr.refl _ _ _,G,GG,hb,rfl⟩,?_⟩;clear G GG hb;rintro m σ H1 ⟨r,st,f,is,x5,x6,x7,rfl,F1,G,GG,hb,rfl⟩;obtain⟨as,a1,a2⟩:=id (G.s false);obtain⟨bs,b1,b2⟩:=id (G.s true);have la:(as.map V.ref).length=(st false).length:=by rw[aA];exact bB a2
   have lb:(bs.map V.ref).length=(st true).length:=by rw[aA];exact bB b2
   have hsm:=GG.small;walk_at "wp";refine⟨_,.inl (bv.of a1),_,.inl (bv.of b1),?_⟩;rw[la,lb];refine hZ (λh1=>?_) (λh1=>⟨r,st,f,is,_,_,_,rfl,F1,G,GG,by omega,by omega⟩);have h1':1<(st false).length+(st true).length:=by omega
   obtain⟨st',f',PT,hphi⟩:=GG.end_put h1';obtain⟨js,GG'⟩:=PT.gr GG;refine⟨λσ' H'=>∃(x5 x6 x7:Option V),σ'=[some (.ref oe),some (.ref fd),some (.int ((r+1:Nat):Int)),some (.ref (A' false)),some (.ref (A' true)),x5,x6,x7]/\Fr A' B' H H'/\GS H' oe fd A' B' st' f',λσ' H' ⟨x5,x6,x7,e,F,G'⟩=>⟨_,Nat.lt_of_succ_le hphi,r+1,st',f',js,x5,x6,x7,e,F,G',GG',by omega,rfl⟩,?_⟩;have ub:=(hsm true).1;refine⟨_,b1,by rw[lb];omega,λl nl=>?_⟩;have s2:=(ak.refl H1).new (o:=.lst (bs.map V.ref).reverse) nl;refine⟨A' false,l,_,_,rfl,rfl,s2 _ _ a1,aD,by rw[e8,la,lb];have:=(hsm false).1;exact bf (bO (by omega)),λe ne=>?_⟩;have s3:=s2.new (o:=.lst (as.map V.ref++(bs.map V.ref).reverse)) (s2.free ne);have he:upd (upd H1 l (.lst (bs.map V.ref).reverse)) e (.lst (as.map V.ref++(bs.map V.ref).reverse)) e=some (.lst ((as++bs.reverse).map V.ref)):=by rw[aD];simp
   generalize upd (upd H1 l (.lst (bs.map V.ref).reverse)) e (.lst (as.map V.ref++(bs.map V.ref).reverse))=H3 at s3 he ⊢;have G3:=G.same s3;have F3:Fr A' B' H H3:=F1.trans (Fr.same s3);have pr:Paired (bZ H3) (as++bs.reverse) (st false++(st true).reverse):=Paired.mapP (DR a2 (DQ b2)) λa q z=>z.same s3;have lab:∀(i:Nat) (x:Int),(bY st)[i]? = some x->∃a o,((as++bs.reverse).map V.ref)[i]? = some (.ref a)/\bZ H3 a (o,x):=λi x hx=>by
    unfold bY at hx;rw[aS] at hx;cases h2:(st false++(st true).reverse)[i]? with
    | none=>rw[h2] at hx;cases hx
    | some y=>
     rw[h2] at hx;cases hx;obtain⟨a,h3,h4⟩:=FU pr h2;exact⟨a,y.1,by rw[aS,h3];rfl,h4⟩
   have hl1:1<(bY st).length:=by rw[kT];exact h1'
   obtain⟨tx,ty,ex,ey,tne⟩:=GG.tgt_ne hl1;refine bP (λσ H'=>σ=[some (.ref oe),some (.ref fd),some (.int r),some (.ref (A' false)),some (.ref (A' true)),some (.ref e),some (.int (o7 (bY st):Nat)),x7]/\H3=H') ?_ ?_
   ·refine⟨λm σ H'=>∃t:Nat,σ=[some (.ref oe),some (.ref fd),some (.int r),some (.ref (A' false)),some (.ref (A' true)),some (.ref e),some (.int (t:Nat)),x7]/\H3=H'/\1<=t/\t<=o7 (bY st)/\m=2-t,⟨_,1,rfl,rfl,by decide,by have:=nY (bY st);omega,rfl⟩,?_⟩;rintro m σ H' ⟨t,rfl,rfl,t1,t2,rfl⟩;by_cases ht:t=o7 (bY st)
    ·subst ht;obtain⟨a,o,c1,c2⟩:=lab _ _ ex;obtain⟨a',o',d1,d2⟩:=lab _ _ ey;walk_at "wp";refine⟨_,_,bv.of he,by rw[show ((o7 (bY st):Nat):Int) - 1=((o7 (bY st) - 1:Nat):Int) by omega];exact fg c1,.inr (.inl ⟨a,_,_,_,rfl,rfl,dA.of c2,rfl,?_⟩)⟩;refine⟨_,_,bv.of he,fg d1,.inr (.inl ⟨a',_,_,_,rfl,rfl,dA.of d2,rfl,qz ?_⟩)⟩;simp only[bN,if_false];refine⟨_,rfl,pH (by simp only[decide_eq_true_eq];exact tne) ⟨by first | rfl | trivial,by first | rfl | trivial⟩⟩
    ·have tt:=nY (bY st);have t11:t=1:=by omega
     have tg2:o7 (bY st)=2:=by omega
     subst t11;have e01:(bY st)[0]? = (bY st)[1]?:=by
      unfold o7 at tg2;by_cases z:(bY st)[0]? = (bY st)[1]?
      ·exact z
      ·rw[if_neg z] at tg2;cases tg2
     obtain⟨x1,hx1⟩:∃x,(bY st)[1]? = some x:=⟨_,aK hl1⟩
     obtain⟨a,o,c1,c2⟩:=lab 0 x1 (e01.trans hx1);obtain⟨a',o',d1,d2⟩:=lab 1 x1 hx1;walk_at "wp";refine⟨_,_,bv.of he,fg (j:=0) c1,.inr (.inl ⟨a,_,_,_,rfl,rfl,dA.of c2,rfl,?_⟩)⟩;refine⟨_,_,bv.of he,fg (j:=1) d1,.inr (.inl ⟨a',_,_,_,rfl,rfl,dA.of d2,rfl,qz ?_⟩)⟩;simp only[bN,if_false];refine⟨_,rfl,sS (by simp) ⟨λσ' H'=>σ'=[some (.ref oe),some (.ref fd),some (.int r),some (.ref (A' false)),some (.ref (A' true)),some (.ref e),some (.int 2),x7]/\H3=H',λσ' H' ⟨z1,z2⟩=>⟨0,by decide,2,z1,z2,by decide,by omega,rfl⟩,by first | exact⟨rfl,rfl⟩ | exact⟨trivial,trivial⟩⟩⟩
   rintro σ' H' ⟨rfl,rfl⟩;have lA:=s3 _ _ a1;walk_at "wp";refine bP (λσ H'=>σ=[some (.ref oe),some (.ref fd),some (.int r),some (.ref (A' false)),some (.ref (A' true)),some (.ref e),some (.int (o7 (bY st):Nat)),some (.str (if (st false).length<o7 (bY st) then Str.ofString "b" else Str.ofString "d"))]/\H3=H') ?_ ?_
   ·walk_at "wp";refine⟨_,.inl (bv.of lA),?_⟩;rw[la];refine hZ (λz=>?_) (λz=>?_)
    ·rw[if_pos (mQ.mp z)];exact⟨by first | rfl | trivial,by first | rfl | trivial⟩
    ·rw[if_neg (λw=>z (mQ.mpr w))];exact⟨by first | rfl | trivial,by first | rfl | trivial⟩
   rintro σ' H' ⟨rfl,rfl⟩;refine bP (λσ H'=>σ=[some (.ref oe),some (.ref fd),some (.int r),some (.ref (A' false)),some (.ref (A' true)),some (.ref e),some (.int (o7 (bY st):Nat)),some (.str (ky (BD st)))]/\H3=H') ?_ ?_
   ·walk_at "wp";refine⟨_,.inl (bv.of lA),?_⟩;rw[la];unfold BD;refine hZ (λz=>?_) (λz=>?_)
    ·have z':=mQ.mp z;rw[if_neg (by omega),if_pos z'];exact⟨by first | rfl | trivial,by first | rfl | trivial⟩
    ·have z':¬o7 (bY st)<(st false).length:=λw=>z (mQ.mpr w);by_cases y:(st false).length<o7 (bY st)
     ·rw[if_pos y,if_pos y];exact⟨by first | rfl | trivial,by first | rfl | trivial⟩
     ·rw[if_neg y,if_neg y,if_neg z'];exact⟨by first | rfl | trivial,by first | rfl | trivial⟩
   rintro σ' H' ⟨rfl,rfl⟩;refine bP (λσ H'=>σ=[some (.ref oe),some (.ref fd),some (.int r),some (.ref (A' false)),some (.ref (A' true)),some (.ref e),some (.int (o7 (bY st):Nat)),some (.str (ky (BD st)))]/\Fr A' B' H H'/\GS H' oe fd A' B' st' f') ?_ ?_
   ·walk_at "wp";exact⟨oe,fd,A',B',st,f,st',f',BD st,r,rfl,G3,λu=>⟨by have:=(hsm u).1;omega,by have:=(hsm u).2;omega⟩,PT,λH4 F4 G4=>⟨by first | rfl | trivial,F3.trans F4,G4⟩⟩
   rintro σ' H4 ⟨rfl,F4,G4⟩;walk_at "wp";exact⟨_,_,_,by first | rfl | trivial,F4,G4⟩
  clear G GG hb;rintro σ' H1 ⟨r,st,f,is,x5,x6,x7,rfl,F1,G,GG,hr,hle⟩;have hm:=GG.many;have hone:(st false).length+(st true).length=1:=by omega
  obtain⟨t,o,l,e1,e2⟩:∃(t:Bool) (o l:Int),st t=[(o,l)]/\st (!t)=[]:=by
   by_cases z:(st false).length=1
   ·obtain⟨⟨o,l⟩,e⟩:=mO.mp z;exact⟨false,o,l,e,gE (show (st true).length=0 by omega)⟩
   ·obtain⟨⟨o,l⟩,e⟩:=mO.mp (show (st true).length=1 by omega);exact⟨true,o,l,e,gE (show (st false).length=0 by omega)⟩
  obtain⟨ns,n1,n2,n3⟩:=GG.last e1 e2;have O:fE ns:=⟨by omega,n2⟩
  have fin:∀H',Fr A' B' H H'->GS H' oe fd A' B' st (λv=>if v=t then f t++[(o,(r:Int))] else f v)->Q (.int ((r:Int) - 1)) H':=λH' F' G'=>q _ ns _ H' F' ⟨G'.fd_,G'.f_,λu=>by
   have:=(n3 u).1;by_cases z:u=t
   ·subst z;rw[if_pos rfl] at this ⊢;exact this
   ·rw[if_neg z] at this ⊢;exact this,O⟩ λu=>(n3 u).2
  refine bP (λσ H'=>∃x5 x6 x7:Option V,σ=[some (.ref oe),some (.ref fd),some (.int r),some (.ref (A' false)),some (.ref (A' true)),x5,x6,x7]/\Fr A' B' H H'/\GS H' oe fd A' B' st (λv=>if v=t then f t++[(o,(r:Int))] else f v)) ?_ ?_
  ·walk_at "wp";obtain⟨as,a1,a2⟩:=id (G.s false);have la:(as.map V.ref).length=(st false).length:=by rw[aA];exact bB a2
   refine⟨_,.inl (bv.of a1),?_⟩;rw[la];cases t with
   | false=>
    refine sS (by rw[e1];rfl) ?_;obtain⟨cs,c,c1,c2,c3,_⟩:=G.get false (i:=0) (e:=(o,l)) (by rw[e1];rfl);obtain⟨_,eB,_⟩:=G.f_ false;refine⟨_,_,bv.of G.fd_,rfl,gw eB,_,_,bv.of c1,fg (j:=0) c2,.inr (.inl ⟨c,_,_,_,rfl,rfl,dA.of c3,rfl,(by show 2<=sizeLine;decide),λt nt=>?_⟩)⟩;obtain⟨ys,eY,lY,G4⟩:=(G.new (o:=.tup [.int o,.int r]) nt).add false (t:=t) (p:=(o,(r:Int))) aD;exact⟨B' false,ys,_,rfl,rfl,eY,bO (by have:=(GG.small false).2;omega),_,_,_,rfl,(F1.new nt).updB false,G4⟩
   | true=>
    refine pH (by rw[show st false=[] from e2];simp) ?_;obtain⟨cs,c,c1,c2,c3,_⟩:=G.get true (i:=0) (e:=(o,l)) (by rw[e1];rfl);obtain⟨_,eB,_⟩:=G.f_ true;refine⟨_,_,bv.of G.fd_,rfl,gw eB,_,_,bv.of c1,fg (j:=0) c2,.inr (.inl ⟨c,_,_,_,rfl,rfl,dA.of c3,rfl,(by show 2<=sizeLine;decide),λt nt=>?_⟩)⟩;obtain⟨ys,eY,lY,G4⟩:=(G.new (o:=.tup [.int o,.int r]) nt).add true (t:=t) (p:=(o,(r:Int))) aD;exact⟨B' true,ys,_,rfl,rfl,eY,bO (by have:=(GG.small true).2;omega),_,_,_,rfl,(F1.new nt).updB true,G4⟩
  rintro σ' H2 ⟨y5,y6,y7,rfl,F2,G2⟩;walk_at "wp";exact fin _ F2 G2
theorem DX (B:oJ mg) (E:Fn K mg "_law_grown" nq ["_law_side","_law_digits_here"]) (D_fitting:eO P w K mg base 2 "_law_fitting" kE ["_law_open_ends","_law_row","_law_digit"] tV) (D_put:eO P w K mg base 1 "_law_put" rR ["_law_open_ends","_law_found","_law_letter","_law_row"] CT) (D_ended:eO P w K mg base 3 "_law_ended" nu ["_law_open_ends","_law_found","_law_row"] z5):eO P w K mg base 4 "_law_grown" nq ["_law_side","_law_digits_here"] zY:=E.mk' λf fd F=>by
 refine F.okS kJ (λvs H Q E h=>?_) (λcdv A outer s H vs Q E hr h=>?_)
 ·obtain⟨b,dl,ds,rfl,_⟩:=h;rfl
 ·obtain⟨b,dl,ds,rfl,hd,hl,q⟩:=h;refine⟨[some (.str (sd b)),some (.ref dl),none,none,none,none,none],_,rfl,(L2.jE.h (aI (aj (i:=2) kJ.nd rfl (Or.inl rfl) (cv (lP (cv aC) (lP (cv aC) aC))))
   (aI (cf (fJ am ay ax d9 (a9 b6 (a8 2) (d8 lV (by rfl) B.int dS (jb (eQ gx (a8 0) cI (bq _)) aC)) (λ_ _=>rfl)) (eE (dE (cB aE (cB aE aC))) aC)))
   (c6 (aj (i:=3) kJ.nd rfl (Or.inl rfl) (cv (lP (cv aC) (lP (cv aC) aC))))
   (aI (aj (i:=4) kJ.nd rfl (Or.inl rfl) aE)
   (c6 (c8 aZ rfl (eZ (a8 1)) (bM (i:=5) kJ.nd rfl (Or.inl rfl))
   (aI (aj (i:=6) kJ.nd rfl (Or.inl rfl) (ac D_fitting (hr.mono (by decide)) (by rfl) (aG (a8 2) (aG (a8 4) (aG (a8 5) aC)))))
    (aI (ce (bX gx (bG bS (by rfl) B.len bH (aG (a8 6) aC)) aE (bq _))
    (aL A4)
    bh)
    (aI (cf (ac D_put (hr.mono (by decide)) (by rfl) (aG (a8 2) (aG (a8 3) (aY (a9 b6 (a8 6) aE (λ_ _=>rfl)) (aG (a8 4) aC))))))
    (aL (aj (i:=4) kJ.nd rfl (Or.inl rfl) (ae c7 (a8 4) aE)))))))
   (aI (cf (ac D_ended (hr.mono (by decide)) (by rfl) (aG (a8 2) (aG (a8 3) (aG (a8 4) aC)))))
   (aL (bT (a8 3)))))))))),?_⟩
  walk_at "wp";refine⟨a6 _,λp np=>⟨a6 _,λp1 np1=>⟨(by show 2<=sizeLine;decide),λoe noe=>?_⟩⟩⟩;have u1:=(ak.refl H).new (o:=.lst []) np;have u2:=u1.new (o:=.lst []) (u1.free np1);have u3:=u2.new (o:=.lst [.ref p,.ref p1]) (u2.free noe);have e1:p≠p1:=λe=>by subst e;rw[aD] at np1;cases np1
  have e2:p≠oe:=λe=>by subst e;rw[aP e1,aD] at noe;cases noe
  have e3:p1≠oe:=λe=>by subst e;rw[aD] at noe;cases noe
  have g1:upd (upd (upd H p (.lst [])) p1 (.lst [])) oe (.lst [.ref p,.ref p1]) p=some (.lst []):=by rw[aP e2,aP e1,aD]
  have g2:upd (upd (upd H p (.lst [])) p1 (.lst [])) oe (.lst [.ref p,.ref p1]) p1=some (.lst []):=by rw[aP e3,aD]
  have g3:upd (upd (upd H p (.lst [])) p1 (.lst [])) oe (.lst [.ref p,.ref p1]) oe=some (.lst [.ref p,.ref p1]):=aD;have np1':=u1.free np1;have noe':=u2.free noe;generalize upd (upd (upd H p (.lst [])) p1 (.lst [])) oe (.lst [.ref p,.ref p1])=H3 at u3 g1 g2 g3 ⊢;clear np1 noe u1 u2;generalize hA:(λu:Bool=>if u then p1 else p)=A';have A0:A' false=p:=by rw[<-hA];rfl
  have A1:A' true=p1:=by rw[<-hA];rfl
  have gA:∀u,H3 (A' u)=some (.lst []):=λu=>by cases u;rw[A0];exact g1;rw[A1];exact g2
  have nA:∀u,H (A' u)=none:=λu=>by cases u;rw[A0];exact np;rw[A1];exact np1'
  have oA:∀u,oe≠A' u:=λu=>by cases u;rw[A0];exact e2.symm;rw[A1];exact e3.symm
  rw[<-A0,<-A1] at g3 e1;refine⟨_,.ref (A' b),bv.of g3,by cases b<;>rfl,gw (gA b),(by show 2<=sizeLine;decide),λt nt=>?_⟩;have v4:=(ak.refl H3).new (o:=.tup [.int 0,.int 0]) nt;refine⟨A' b,[],_,rfl,rfl,v4 _ _ (gA b),by decide,?_⟩;rw[fW];have sb:∀u,(if u=b then [((0:Int),(0:Int))] else []).length<=1:=λu=>by split<;>simp
  refine bP (λσ H'=>∃fd B',σ=[some (.str (sd b)),some (.ref dl),some (.ref oe),some (.ref fd),none,none,none]/\ak H H'/\H fd=none/\(∀u,H (B' u)=none)/\GS H' oe fd A' B' (λu=>if u=b then [((0:Int),(0:Int))] else []) (λ_=>[])) ?_ ?_
  ·have t5:bZ (upd H3 t (.tup [.int 0,.int 0])) t (0,0):=aD;have nAt:∀u,A' u≠t:=λu=>au (gA u) nt;have eA:=v4 _ _ (gA b);have s5:ak H (upd (upd H3 t (.tup [.int 0,.int 0])) (A' b) (.lst [.ref t])):=(u3.trans v4).new (nA b);have k1:∀u,cY (upd (upd H3 t (.tup [.int 0,.int 0])) (A' b) (.lst [.ref t])) (A' u) (if u=b then [((0:Int),(0:Int))] else []):=λu=>by
    by_cases z:u=b
    ·subst z;rw[if_pos rfl];exact⟨[t],aD,.cons (kd eA t5) .nil⟩
    ·rw[if_neg z];have ne:A' u≠A' b:=by
      cases u<;>cases b<;>first | exact absurd rfl z | exact e1 | exact e1.symm
     exact⟨[],by rw[aP ne];exact v4 _ _ (gA u),.nil⟩
   have k2:upd (upd H3 t (.tup [.int 0,.int 0])) (A' b) (.lst [.ref t]) oe=some (.lst [.ref (A' false),.ref (A' true)]):=by rw[aP (oA b)];exact v4 _ _ g3
   have kA:∀u,∃o,upd (upd H3 t (.tup [.int 0,.int 0])) (A' b) (.lst [.ref t]) (A' u)=some o:=λu=>let ⟨_,x,_⟩:=k1 u;⟨_,x⟩;generalize upd (upd H3 t (.tup [.int 0,.int 0])) (A' b) (.lst [.ref t])=H5 at s5 k1 k2 kA ⊢;walk_at "wp";refine⟨a6 _,λq0 n0=>⟨a6 _,λq1 n1=>⟨(by show 2<=sizeLine;decide),λfd nf=>?_⟩⟩⟩;have w1:=(ak.refl H5).new (o:=.lst []) n0;have w2:=w1.new (o:=.lst []) (w1.free n1);have w3:=w2.new (o:=.lst [.ref q0,.ref q1]) (w2.free nf);have d1:q0≠q1:=λe=>by subst e;rw[aD] at n1;cases n1
   have d2:q0≠fd:=λe=>by subst e;rw[aP d1,aD] at nf;cases nf
   have d3:q1≠fd:=λe=>by subst e;rw[aD] at nf;cases nf
   have h0:upd (upd (upd H5 q0 (.lst [])) q1 (.lst [])) fd (.lst [.ref q0,.ref q1]) q0=some (.lst []):=by rw[aP d2,aP d1,aD]
   have h1:upd (upd (upd H5 q0 (.lst [])) q1 (.lst [])) fd (.lst [.ref q0,.ref q1]) q1=some (.lst []):=by rw[aP d3,aD]
   have h2:upd (upd (upd H5 q0 (.lst [])) q1 (.lst [])) fd (.lst [.ref q0,.ref q1]) fd=some (.lst [.ref q0,.ref q1]):=aD;have n1':=w1.free n1;have nf':=w2.free nf;refine⟨fd,λu=>if u then q1 else q0,rfl,s5.trans w3,s5.free nf',λu=>by cases u;exact s5.free n0;exact s5.free n1',⟨w3 _ _ k2,h2,λu=>(k1 u).same w3,λu=>⟨[],by cases u;exact h0;exact h1,.nil⟩,e1,d1,λu v=>?_,λu=>⟨oA u,?_,?_,?_⟩⟩⟩
   ·obtain⟨o,ho⟩:=kA u;cases v
    ·exact au ho n0
    ·exact au ho n1'
   ·cases u
    ·exact au k2 n0
    ·exact au k2 n1'
   ·obtain⟨o,ho⟩:=kA u;exact(au ho nf').symm
   ·cases u
    ·exact d2.symm
    ·exact d3.symm
  rintro σ' H6 ⟨fd,B',rfl,s6,nf,nB,G6⟩;walk_at "wp";refine bP (λσ H'=>∃(r:Nat) (st:Bool->List Oe) (f:Bool->List Bw) (is:List Pc) (x5 x6:Option V),σ=[some (.str (sd b)),some (.ref dl),some (.ref oe),some (.ref fd),some (.int r),x5,x6]/\ak H H'/\GS H' oe fd A' B' st f/\Gr b st f r is/\(r:Int)+mX ((st false).length+(st true).length)<=21/\r<=21) ?_ ?_
  ·walk_at "wp";refine⟨⟨_,bv.of (s6 _ _ hd)⟩,g6 (xs:=ds.map V.int) (λi σ H'=>∃(r:Nat) (st:Bool->List Oe) (f:Bool->List Bw) (is:List Pc) (x5 x6:Option V),σ=[some (.str (sd b)),some (.ref dl),some (.ref oe),some (.ref fd),some (.int r),x5,x6]/\ak H H'/\GS H' oe fd A' B' st f/\Gr b st f r is/\(r:Int)+mX ((st false).length+(st true).length)<=21/\r<=21)
    ⟨1,_,_,_,none,none,rfl,s6,G6,Gr.start b,by cases b<;>decide,by decide⟩ (λi σ H' _ ⟨_,_,_,_,_,_,_,sm,_⟩=>bv.of (sm _ _ hd)) ?_ λσ H' z=>z⟩
   rintro i x σ H7 hx ⟨r,st,f,is,x5,x6,rfl,sm,G,GG,hb,hr⟩;obtain⟨y,hy,rfl⟩:=iI hx;have hsm:=GG.small;walk_at "wp";refine⟨oe,fd,A',B',st,f,r,y,rfl,G,λu=>by have:=(hsm u).1;omega,by omega,λl ks H8 nl s8 hl hks=>?_⟩;walk_at "wp";have G8:=G.same s8;have sm8:=sm.trans s8;cases ks with
   | nil=>exact⟨_,.inl (bv.of hl),sS rfl ⟨r,st,f,is,_,_,rfl,sm8,G8,GG,hb,hr⟩⟩
   | cons k kr=>
    obtain⟨k4,kc,kn⟩:=hks k ar;obtain⟨st',f',PT⟩:=IS f r k4 kc;obtain⟨js,GG'⟩:=PT.gr GG;have hmany:=PT.many;have nn:0<=mX (o0 ((st false).length+(st true).length) k):=by unfold mX;split<;>omega
    refine⟨_,.inl (bv.of hl),pH (by rw[aA,cG];omega) ⟨_,_,bv.of hl,fg (j:=0) (v:=V.str (ky k)) (by simp),oe,fd,A',B',st,f,st',f',k,r,rfl,G8,λu=>⟨by have:=(hsm u).1;omega,by have:=(hsm u).2;omega⟩,PT,λH9 F9 G9=>?_⟩⟩;exact⟨r+1,st',f',js,_,_,rfl,Fr.toSame (λu=>⟨nA u,nB u⟩) sm8 F9,G9,GG',by rw[hmany];push_cast;omega,by omega⟩
  rintro σ' H7 ⟨r,st,f,is,x5,x6,rfl,sm,G,GG,hb,hr⟩;walk_at "wp";have hphi:=GG.phi_need;refine⟨oe,fd,A',B',b,st,f,is,r,rfl,G,GG,by omega,λn ns Fs H8 F8 FO nc=>?_⟩;exact q fd B' ns Fs H8 nf (Fr.toSame (λu=>⟨nA u,nB u⟩) sm F8) FO nc
theorem wQ (B:oJ mg) (E:Fn K mg "_law_order_of" jK ["_law_side","_law_found"]):eO P w K mg base 1 "_law_order_of" jK ["_law_side","_law_found"] tT:=E.mk' λf fd F=>by
 refine F.okS f6 (λvs H Q E h=>?_) (λcdv A outer s H vs Q E hr h=>?_)
 ·obtain⟨b,fd,g,ns,Fs,rfl,_⟩:=h;rfl
 ·obtain⟨b,fd,g,ns,Fs,rfl,FO,q⟩:=h;have O:=FO.ord;have hn:=O.len;have hsum:=FO.sum;refine⟨[some (.str (sd b)),some (.ref fd),none,none,none,none,none,none],_,rfl,(L2.jE.h (aI (aj (i:=2) f6.nd rfl (Or.inl rfl) (cv aC))
   (aI (aj (i:=3) f6.nd rfl (Or.inl rfl) aE)
   (aI (aj (i:=4) f6.nd rfl (Or.inl rfl) (d8 lV (by rfl) B.int dS (jb (eQ gx (a8 0) cI (bq _)) aC)))
   (aI (aj (i:=5) f6.nd rfl (Or.inl rfl) (ae c7 (bG bS (by rfl) B.len bH (aY (a9 b6 (a8 1) aE (λ_ _=>rfl)) aC)) (bG bS (by rfl) B.len bH (aY (a9 b6 (a8 1) aE (λ_ _=>rfl)) aC))))
   (aI (nw aZ (bX uG (a8 3) (a8 5) (bq _))
   (c6 (c8 aZ rfl (eZ (a9 b6 (a8 1) (a8 4) (λ_ _=>rfl))) (bM (i:=6) f6.nd rfl (Or.inl rfl))
    (aL (ce (bX (DV (qW hr)) (a8 3) (a8 6) (by with_unfolding_all rfl))
     (aL (aj (i:=7) f6.nd rfl (Or.inl rfl) (ae fw (ae c7 (a9 bx (a8 6) aE (λ_ _=>rfl)) (a9 bx (a8 6) aE (λ_ _=>rfl))) (a8 3))))
     bh)))
    (aI (aj (i:=3) f6.nd rfl (Or.inl rfl) (a8 7))
    (aI (aj (i:=4) f6.nd rfl (Or.inl rfl) (ae fw aE (a8 4)))
    (aL (ce (bX uG (a8 3) (a8 5) (bq _))
    (aL (cf (fJ am ay ax d9 (a8 2) (aG (a8 3) aC))))
    bh))))))
   (aL (bT (d8 lB (by rfl) B.tuple dD (aG (a8 2) aC)))))))))),?_⟩
  obtain⟨as,a1,a2⟩:=id (FO.bows false);obtain⟨bs,b1,b2⟩:=id (FO.bows true);have la:(as.map V.ref).length=(Fs false).length:=by rw[aA];exact bB a2
  have lb:(bs.map V.ref).length=(Fs true).length:=by rw[aA];exact bB b2
  walk_at "wp";refine⟨a6 _,λl nl=>?_⟩;have s0:=(ak.refl H).new (o:=.lst []) nl;have F0:=FO.same s0;refine⟨_,_,bv.of F0.at_,rfl,_,_,rfl,.inl (bv.of (s0 _ _ a1)),_,_,bv.of F0.at_,rfl,_,_,rfl,.inl (bv.of (s0 _ _ b1)),?_⟩;rw[la,lb];have eL:((Fs false).length:Int)+(Fs true).length=(ns.length:Int)+1:=by omega
  rw[eL];simp only[Kd];refine⟨λm σ H2=>∃(i:Nat) (x6 x7:Option V),σ=[some (.str (sd b)),some (.ref fd),some (.ref l),some (.int (bQ ns i)),some (.int (if (b ^^ odd i) then 1 else 0)),some (.int ((ns.length:Int)+1)),x6,x7]/\ak H H2/\H2 l=some (.lst ((ns.take i).map V.int))/\i<=ns.length+1/\m=ns.length+1-i,⟨_,0,none,none,by rw[xm,show odd 0=false from rfl,kY],s0,aD,a6 _,rfl⟩,?_⟩;rintro m σ H2 ⟨i,x6,x7,rfl,sm,hl,hi,rfl⟩;walk_at "wp";refine hZ (λhne=>?_) (λhe=>?_)
  ·have hin:i<=ns.length:=by
    apply ka;intro z;have:i=ns.length+1:=by omega
    subst this;exact hne (iT ns)
   have F2:=FO.same sm;have on:=F2.only hin;obtain⟨cs,c1,cl,cg⟩:=(F2.bows (b ^^ odd i)).get;have lasti:bQ ns (i+1)≠(ns.length:Int)+1->i<ns.length:=λz=>by
    apply ka;intro w;have:i=ns.length:=by omega
    subst this;exact z (iT ns)
   have tk:bQ ns (i+1)≠(ns.length:Int)+1->(ns.take (i+1)).map V.int=(ns.take i).map V.int++[.int (bQ ns (i+1))]:=λz=>by
    have hi2:=lasti z;rw[bF,aK hi2,aW,lL (aK hi2)];rfl
   have tk2:bQ ns (i+1)=(ns.length:Int)+1->(ns.take (i+1)).map V.int=(ns.take i).map V.int:=λz=>by
    have:i+1=ns.length+1:=O.row_inj (by omega) (by omega) (z.trans (iT ns).symm);rw[cW (by omega),cW (by omega)]
   refine⟨λσ' H'=>∃(x6 x7:Option V),σ'=[some (.str (sd b)),some (.ref fd),some (.ref l),some (.int (bQ ns (i+1))),some (.int (if (b ^^ odd (i+1)) then 1 else 0)),some (.int ((ns.length:Int)+1)),x6,x7]/\ak H H'/\H' l=some (.lst ((ns.take (i+1)).map V.int)),λσ' H' ⟨x6,x7,e,a,c⟩=>⟨ns.length+1-(i+1),by omega,i+1,x6,x7,e,a,c,by omega,rfl⟩,?_⟩;refine bP (λσ H'=>∃x6:Option V,σ=[some (.str (sd b)),some (.ref fd),some (.ref l),some (.int (bQ ns i)),some (.int (if (b ^^ odd i) then 1 else 0)),some (.int ((ns.length:Int)+1)),x6,some (.int (bQ ns (i+1)))]/\H2=H') ?_ ?_
   ·walk_at "wp";refine⟨_,.ref (g (b ^^ odd i)),bv.of F2.at_,by cases (b ^^ odd i)<;>rfl,_,rfl,⟨_,bv.of c1⟩,?_⟩;refine g6 (xs:=cs.map V.ref) (λj σ H'=>∃x6 x7:Option V,σ=[some (.str (sd b)),some (.ref fd),some (.ref l),some (.int (bQ ns i)),some (.int (if (b ^^ odd i) then 1 else 0)),some (.int ((ns.length:Int)+1)),x6,x7]/\H2=H'/\((∃p∈(Fs (b ^^ odd i)).take j,pI (bQ ns i) p=true)->x7=some (.int (bQ ns (i+1)))))
     ⟨_,_,rfl,rfl,λ⟨p,hp,_⟩=>by rw[List.take_zero] at hp;cases hp⟩ (λj σ H' _ ⟨_,_,_,e,_⟩=>by rw[<-e];exact bv.of c1) ?_ ?_
    ·rintro j x σ H' hx ⟨y6,y7,rfl,rfl,hj⟩;obtain⟨a,p,rfl,hp,ta⟩:=cg j x hx;have tk3:(Fs (b ^^ odd i)).take (j+1)=(Fs (b ^^ odd i)).take j++[p]:=by rw[bF,hp];rfl
     walk_at "wp";refine zw (ns:=[p.1,p.2]) (.inr (dA.of ta)) ?_;have eh:decide (bQ ns i∈[p.1,p.2])=pI (bQ ns i) p:=by simp[pI]
     simp only[bN,if_false,eh];refine⟨_,rfl,?_⟩;refine hZ (λz=>?_) (λz=>?_)
     ·refine⟨_,_,dA.of ta,rfl,_,_,dA.of ta,rfl,?_⟩;have ep:p=cH ns i:=by
       have:p∈(Fs (b ^^ odd i)).filter (pI (bQ ns i)):=aV.mpr ⟨aR hp,z⟩;rw[on] at this;simpa using this
      have es:p.1+p.2-bQ ns i=bQ ns (i+1):=by rw[ep,CL];omega
      walk_at "wp";rw[es];exact⟨_,_,rfl,by first | rfl | trivial,λ_=>rfl⟩
     ·refine⟨_,_,rfl,by first | rfl | trivial,λ⟨p',hp',hh⟩=>hj ?_⟩;rw[tk3] at hp';rcases aU.mp hp' with w | w
      ·exact⟨p',w,hh⟩
      ·have e:p'=p:=by simpa using w
       subst e;exact absurd hh z
    ·rintro σ H' ⟨y6,y7,rfl,rfl,hj⟩;have:y7=some (.int (bQ ns (i+1))):=hj ⟨cH ns i,by
      have hm:cH ns i∈(Fs (b ^^ odd i)).filter (pI (bQ ns i)):=by rw[on];simp
      obtain⟨m1,m2⟩:=aV.mp hm;rw[aA,cl,bW];exact⟨m1,m2⟩⟩
     subst this;exact⟨_,rfl,rfl⟩
   rintro σ' H' ⟨y6,rfl,rfl⟩;have ek:(1:Int)-(if (b ^^ odd i) then 1 else 0)=if (b ^^ odd (i+1)) then 1 else 0:=by
    rw[jc];cases b<;>cases odd i<;>rfl
   walk_at "wp";rw[ek];refine hZ (λz=>?_) (λz=>?_)
   ·refine⟨gw hl,_,hl,by rw[aA,bp];exact bO (by omega),_,_,rfl,sm.new nl,?_⟩;rw[aD,tk z]
   ·refine⟨_,_,rfl,sm,?_⟩;rw[tk2 (iw.mp z)];exact hl
  ·have:i=ns.length+1:=O.row_inj (by omega) (by omega) ((iw.mp he).trans (iT ns).symm);subst this;rw[cW (by omega)] at hl;exact⟨_,.inl ⟨bv.of hl,λt nt=>q t _ (sm.free nt) (sm.new (sm.free nt)) aD⟩⟩
theorem wV (E:Fn K mg "_law_drawable" jO ["_law_side","_law_digits_here"]) (D_grown:eO P w K mg base 4 "_law_grown" nq ["_law_side","_law_digits_here"] zY) (D_order_of:eO P w K mg base 1 "_law_order_of" jK ["_law_side","_law_found"] tT):eO P w K mg base 5 "_law_drawable" jO ["_law_side","_law_digits_here"] rL:=E.mk' λf fd F=>by
 refine F.okS vt (λvs H Q E h=>?_) (λcdv A outer s H vs Q E hr h=>?_)
 ·obtain⟨b,dl,ds,rfl,_⟩:=h;rfl
 ·obtain⟨b,dl,ds,rfl,hd,hl,q⟩:=h;refine⟨[some (.str (sd b)),some (.ref dl)],_,rfl,(L2.jE.h (aL (bT (dE (aG (a8 0) (ci (ac D_order_of (hr.mono (by decide)) (by rfl) (aG (a8 0) (ci (ac D_grown (hr.mono (by decide)) (by rfl) (aG (a8 0) (aG (a8 1) aC))) aC))) aC)))))),?_⟩;walk_at "wp";refine⟨b,dl,ds,rfl,hd,hl,λfd g ns Fs H1 nf s1 FO nc=>?_⟩;refine⟨b,fd,g,ns,Fs,rfl,FO,λt H2 nt s2 ht=>⟨(by show 2<=sizeLine;decide),λm nm=>?_⟩⟩;have s3:=(ak.refl H2).new (o:=.tup [.str (sd b),.ref t]) nm;exact q m t ns _ (s1.free (s2.free nm)) (s1.free nt) ((s1.trans s2).trans s3) ⟨aD,s3 _ _ ht⟩ FO.ord nc
theorem Fc (B:oJ mg) (E:Fn K mg "_law_bows" pc ["_law_maze"]):eO P w K mg base 1 "_law_bows" pc ["_law_maze"] z9:=E.mk' λf fd F=>by
 refine F.okS ni (λvs H Q E h=>?_) (λcdv A outer s H vs Q E hr h=>?_)
 ·obtain⟨m,o,b,ns,rfl,_⟩:=h;rfl
 ·obtain⟨m,o,b,ns,rfl,hm,hl,q⟩:=h;refine⟨[some (.ref m),none,none,none,none],_,rfl,(L2.jE.h (c6 (aj (i:=1) ni.nd rfl (Or.inl rfl) (ae oR (ae oR (cv (cB aE aC)) (d8 pM (by rfl) B.list di (aY (a9 bx (a8 0) aE (λ_ _=>rfl)) aC))) (cv (ck (ae c7 (bG bS (by rfl) B.len bH (aY (a9 bx (a8 0) aE (λ_ _=>rfl)) aC)) aE) aC))))
   (aI (aj (i:=2) ni.nd rfl (Or.inl rfl) (cv (lP (cv aC) (lP (cv aC) aC))))
   (c6 (aj (i:=3) ni.nd rfl (Or.inl rfl) (d8 lV (by rfl) B.int dS (jb (eQ gx (a9 bx (a8 0) aE (λ_ _=>rfl)) cI (bq _)) aC)))
   (aI (c8 aZ rfl (iJ (by rfl) B.range (cB aE (ci (bG bS (by rfl) B.len bH (aG (a8 1) aC)) aC))) (bM (i:=4) ni.nd rfl (Or.inl rfl))
   (aI (cf (fJ am ay ax d9 (a9 b6 (a8 2) (a8 3) (λ_ _=>rfl)) (eE (dE (ci (bG (BK rfl) (by rfl) B.min PyProof.Rows.boot_min (aY (a9 b6 (a8 1) (ae fw (a8 4) aE) (λ_ _=>rfl)) (aY (a9 b6 (a8 1) (a8 4) (λ_ _=>rfl)) aC))) (ci (bG (uV rfl) (by rfl) B.max fQ (aY (a9 b6 (a8 1) (ae fw (a8 4) aE) (λ_ _=>rfl)) (aY (a9 b6 (a8 1) (a8 4) (λ_ _=>rfl)) aC))) aC))) aC)))
    (aL (aj (i:=3) ni.nd rfl (Or.inl rfl) (ae fw aE (a8 3))))))
   (aL (bT (a8 2)))))))),?_⟩
  refine bP (λσ H'=>∃rl,σ=[some (.ref m),some (.ref rl),none,none,none]/\ak H H'/\H rl=none/\H' rl=some (.lst ((eJ ns).map V.int))) ?_ ?_
  ·walk_at "wp";refine⟨(by show 1<=sizeLine;decide),λp1 n1=>?_⟩;have s1:=(ak.refl H).new (o:=.lst [.int 0]) n1;refine⟨_,_,dA.of (s1 _ _ hm.1),rfl,o,_,rfl,.inr (dA.of (s1 _ _ hm.2)),λp2 n2=>?_⟩;have s2:=s1.new (o:=.lst (ns.map V.int)) (s1.free n2);have e12:p1≠p2:=λe=>by subst e;rw[aD] at n2;cases n2
   refine⟨p1,p2,_,_,rfl,rfl,by rw[aP e12,aD],aD,bf (bO (by simp;omega)),λp3 n3=>?_⟩;have s3:=s2.new (o:=.lst ([.int 0]++ns.map V.int)) (s2.free n3);refine⟨_,_,dA.of (s3 _ _ hm.1),rfl,o,_,rfl,.inr (dA.of (s3 _ _ hm.2)),(by show 1<=sizeLine;decide),λp4 n4=>?_⟩;have s4:=s3.new (o:=.lst [.int (((ns.map V.int).length:Int)+1)]) (s3.free n4);have e34:p3≠p4:=λe=>by subst e;rw[aD] at n4;cases n4
   refine⟨p3,p4,_,_,rfl,rfl,by rw[aP e34,aD],aD,bf (bO (by simp;omega)),λp5 n5=>?_⟩;have s5:=s4.new (o:=.lst ([.int 0]++ns.map V.int++[.int (((ns.map V.int).length:Int)+1)])) (s4.free n5);exact⟨p5,rfl,s5,s4.free n5,by rw[aD];simp[eJ]⟩
  rintro σ' H1 ⟨rl,rfl,s1,nrl,hrl⟩;walk_at "wp";refine⟨a6 _,λp np=>⟨a6 _,λp1 np1=>⟨(by show 2<=sizeLine;decide),λoe noe=>?_⟩⟩⟩;have u1:=(ak.refl H1).new (o:=.lst []) np;have u2:=u1.new (o:=.lst []) (u1.free np1);have u3:=u2.new (o:=.lst [.ref p,.ref p1]) (u2.free noe);have e1:p≠p1:=λe=>by subst e;rw[aD] at np1;cases np1
  have e2:p≠oe:=λe=>by subst e;rw[aP e1,aD] at noe;cases noe
  have e3:p1≠oe:=λe=>by subst e;rw[aD] at noe;cases noe
  have g1:upd (upd (upd H1 p (.lst [])) p1 (.lst [])) oe (.lst [.ref p,.ref p1]) p=some (.lst []):=by rw[aP e2,aP e1,aD]
  have g2:upd (upd (upd H1 p (.lst [])) p1 (.lst [])) oe (.lst [.ref p,.ref p1]) p1=some (.lst []):=by rw[aP e3,aD]
  have g3:upd (upd (upd H1 p (.lst [])) p1 (.lst [])) oe (.lst [.ref p,.ref p1]) oe=some (.lst [.ref p,.ref p1]):=aD;have np1':=u1.free np1;have noe':=u2.free noe;generalize upd (upd (upd H1 p (.lst [])) p1 (.lst [])) oe (.lst [.ref p,.ref p1])=H3 at u3 g1 g2 g3 ⊢;clear np1 noe u1 u2;generalize hA:(λu:Bool=>if u then p1 else p)=g;have A0:g false=p:=by rw[<-hA];rfl
  have A1:g true=p1:=by rw[<-hA];rfl
  have gA:∀u,H3 (g u)=some (.lst []):=λu=>by cases u;rw[A0];exact g1;rw[A1];exact g2
  have nA:∀u,H1 (g u)=none:=λu=>by cases u;rw[A0];exact np;rw[A1];exact np1'
  have oA:∀u,oe≠g u:=λu=>by cases u;rw[A0];exact e2.symm;rw[A1];exact e3.symm
  have rA:∀u,rl≠g u:=λu=>au hrl (nA u);rw[<-A0,<-A1] at g3 e1;have hrl3:=u3 _ _ hrl;have hm3:eV H3 m o b ns:=(hm.same s1).same u3;have nfd:=s1.free noe';have nfA:∀u,H (g u)=none:=λu=>s1.free (nA u);have s13:=s1.trans u3;refine bP (λσ H'=>σ=[some (.ref m),some (.ref rl),some (.ref oe),some (.int (if b then 1 else 0)),none]/\H3=H') ?_ ?_
  ·walk_at "wp";refine⟨_,_,dA.of hm3.1,rfl,?_⟩;walk_at "wp";simp only[Kd];exact⟨by first | rfl | trivial,by first | rfl | trivial⟩
  rintro σ' H' ⟨rfl,rfl⟩;walk_at "wp";have hlr:((eJ ns).map V.int).length=ns.length+2:=by rw[aA,iS]
  refine⟨_,.inl (bv.of hrl3),⟨by omega,by omega,by omega,by omega⟩,?_⟩;have en:((((eJ ns).map V.int).length:Int) - 1).toNat=ns.length+1:=by omega
  rw[en];refine fV (n:=ns.length+1) (λi σ H'=>∃x4:Option V,σ=[some (.ref m),some (.ref rl),some (.ref oe),some (.int (if (b ^^ odd i) then 1 else 0)),x4]/\ak H H'/\H' rl=some (.lst ((eJ ns).map V.int))/\H' oe=some (.lst [.ref (g false),.ref (g true)])/\∀u,cY H' (g u) (bJ b ns u i))
   ⟨none,by rw[show odd 0=false from rfl,kY],s13,hrl3,g3,λu=>⟨[],gA u,.nil⟩⟩ ?_ ?_
  ·rintro i σ H4 hi ⟨x4,rfl,sm,hr4,ho4,hb4⟩;have ek:(1:Int)-(if (b ^^ odd i) then 1 else 0)=if (b ^^ odd (i+1)) then 1 else 0:=by
    rw[jc];cases b<;>cases odd i<;>rfl
   have at1:pO ((eJ ns).map V.int) (1+(i:Int) - 1)=some (.int (bQ ns i)):=by
    rw[show (1:Int)+i - 1=(i:Int) by omega];exact fg (by rw[aS,iA (by omega)];rfl)
   have at2:pO ((eJ ns).map V.int) (1+(i:Int))=some (.int (bQ ns (i+1))):=by
    rw[show (1:Int)+i=((i+1:Nat):Int) by omega];exact fg (by rw[aS,iA (by omega)];rfl)
   walk_at "wp";obtain⟨as,a1,a2⟩:=id (hb4 (b ^^ odd i));have la:as.length=(bJ b ns (b ^^ odd i) i).length:=bB a2;have hlb:=gi b ns (b ^^ odd i) i;refine⟨_,.ref (g (b ^^ odd i)),bv.of ho4,by cases (b ^^ odd i)<;>rfl,gw a1,_,_,bv.of hr4,at1,_,_,bv.of hr4,at2,_,_,rfl,_,_,bv.of hr4,at1,_,_,bv.of hr4,at2,_,_,rfl,(by show 2<=sizeLine;decide),λt nt=>?_⟩;have emin:(if bQ ns (i+1)<bQ ns i then bQ ns (i+1) else bQ ns i)=(cH ns i).1:=by
    show _=min (bQ ns i) (bQ ns (i+1));rw[Int.min_def];split<;>split<;>omega
   have emax:(if bQ ns (i+1) > bQ ns i then bQ ns (i+1) else bQ ns i)=(cH ns i).2:=by
    show _=max (bQ ns i) (bQ ns (i+1));rw[Int.max_def];split<;>split<;>omega
   rw[emin,emax];have s5:=(ak.refl H4).new (o:=.tup [.int (cH ns i).1,.int (cH ns i).2]) nt;have t5:bZ (upd H4 t (.tup [.int (cH ns i).1,.int (cH ns i).2])) t (cH ns i):=aD;have a15:=s5 _ _ a1;refine⟨g (b ^^ odd i),_,_,rfl,rfl,a15,by rw[aA];exact bO (by omega),_,by rw[ek],(sm.trans s5).new (nfA _),by rw[aP (rA _)];exact s5 _ _ hr4,by rw[aP (oA _)];exact s5 _ _ ho4,λu=>?_⟩;by_cases z:u=(b ^^ odd i)
   ·subst z;rw[i6 (nH b i)];exact oG a15 (Paired.mapP a2 λa q w=>w.same s5) t5
   ·have z':u=!(b ^^ odd i):=by revert z;cases u<;>cases (b ^^ odd i)<;>decide
    have gne:g u≠g (b ^^ odd i):=by
     cases u<;>cases hq:(b ^^ odd i)<;>first | exact absurd hq.symm z | exact e1 | exact e1.symm
    rw[z',j7 (vB b i),<-z'];exact ie ((hb4 u).same s5) a15 gne
  ·rintro σ H4 ⟨x4,rfl,sm,hr4,ho4,hb4⟩;walk_at "wp";exact q oe g H4 nfd nfA sm ho4 hb4 e1
theorem FZ (B:oJ mg) (E:Fn K mg "_law_tall" pX ["_law_bows_here"]):eO P w K mg base 1 "_law_tall" pX ["_law_bows_here"] CP:=E.mk' λf fd F=>by
 refine F.okS ot (λvs H Q E h=>?_) (λcdv A outer s H vs Q E hr h=>?_)
 ·obtain⟨l,S,rfl,_⟩:=h;rfl
 ·obtain⟨l,S,rfl,hb,BS,h21,q⟩:=h;refine⟨[some (.ref l),none,none,none,none],_,rfl,(L2.jE.h (aI (aj (i:=1) ot.nd rfl (Or.inl rfl) lM)
   (aI (c8 aZ rfl (iJ (by rfl) B.range (cB aE (cB aE aC))) (bM (i:=2) ot.nd rfl (Or.inl rfl))
   (aL (c8 aZ rfl (eZ (a8 0)) (bM (i:=3) ot.nd rfl (Or.inl rfl))
    (aL (ce (bX gx (ae fw (a9 bx (a8 3) aE (λ_ _=>rfl)) (a9 bx (a8 3) aE (λ_ _=>rfl))) (a8 2) (bq _))
     (aI (ft (iZ hr) (a8 1) (a8 3) aE rfl)
      (aL (c8 aZ rfl (eZ (d8 (se rfl) (by rfl) B.list di (aG (a8 1) aC))) (bM (i:=4) ot.nd rfl (Or.inl rfl))
      (aL (ce (QW.pt (oy (bX nG (a9 bx (a8 3) aE (λ_ _=>rfl)) (a9 bx (a8 4) aE (λ_ _=>rfl)) (bq _)) (nD (bX nG (a9 bx (a8 4) aE (λ_ _=>rfl)) (a9 bx (a8 3) aE (λ_ _=>rfl)) (bq _)))))
       (aL (ft (iZ hr) (a8 1) (a8 3) (bG (uV rfl) (by rfl) B.max fQ (aY (f7 (iZ hr) (a8 1) (a8 3) (λ_ _=>rfl)) (ck (ae c7 (f7 (iZ hr) (a8 1) (a8 4) (λ_ _=>rfl)) aE) aC))) rfl))
       bh)))))
     bh)))))
   (aL (bT (a8 1)))))),?_⟩
  obtain⟨as,b1,bl,bg⟩:=hb.get;have S40:=BS.len;walk_at "wp";intro d nd;have s0:=(ak.refl H).new (o:=.dT []) nd;walk_at "wp";refine⟨⟨by decide,by decide,by decide,by decide⟩,?_⟩;rw[show ((22:Int) - 1).toNat=21 from rfl];refine fV (n:=21) (λi σ H'=>∃(x2 x3 x4:Option V) (ps:List Bw),σ=[some (.ref l),some (.ref d),x2,x3,x4]/\ak H H'/\ps.length<=S.length/\(∀p,p∈ps<->p∈S/\p.2-p.1<1+(i:Int))/\H' d=some (.dT (qP (hF S) ps))/\ps.Nodup) ⟨_,_,_,[],rfl,s0,a6 _,λp=>⟨λz=>(nomatch z),λz=>by have:=BS.lt p z.1;omega⟩,aD,.nil⟩ ?_ ?_
  ·rintro i σ H1 hi ⟨x2,x3,x4,ps,rfl,s1,lps,mps,hd1,nps⟩;walk_at "wp";refine⟨⟨_,bv.of (s1 _ _ b1)⟩,g6 (xs:=as.map V.ref) (λj σ H'=>∃(x3 x4:Option V) (ps:List Bw),σ=[some (.ref l),some (.ref d),some (.int (1+(i:Int))),x3,x4]/\ak H H'/\ps.length<=S.length/\(∀p,p∈ps<->p∈S/\(p.2-p.1<1+(i:Int)\/p.2-p.1=1+(i:Int)/\p∈S.take j))/\H' d=some (.dT (qP (hF S) ps))/\ps.Nodup) ⟨x3,x4,ps,rfl,s1,lps,λp=>by rw[mps];simp,hd1,nps⟩ (λj σ H' _ ⟨_,_,_,_,h,_⟩=>bv.of (h _ _ b1)) ?_ ?_⟩
   ·rintro j x σ H2 hx ⟨y3,y4,ps,rfl,s2,lps,mps,hd2,nps⟩;obtain⟨a,p,rfl,hp,ta⟩:=bg j x hx;have ta2:=ta.same s2;have pS:=aR hp;have plt:=BS.lt p pS;have etk:S.take (j+1)=S.take j++[p]:=by rw[bF,hp];rfl
    have pj:p∉S.take j:=λh=>by
     obtain⟨k,hk⟩:=cj h;have kl:=(aF.mp hk).1;rw[bp] at kl;rw[iE (by omega)] at hk;have h1:=aF.mp hk;have h2:=aF.mp hp;have:=(gB BS.nd (h₀:=h1.1) (h₁:=h2.1)).mp (h1.2.trans h2.2.symm);omega
    walk_at "wp";refine⟨_,_,dA.of ta2,rfl,_,_,dA.of ta2,rfl,?_⟩;walk_at "wp";refine hZ (λe=>?_) (λe=>?_)
    ·have pn:p∉ps:=λz=>by
      rcases((mps p).mp z).2 with z | z
      ·omega
      ·exact pj z.2
     have tk0:∀v,dy (qP (hF S) ps++[(bK p,v)]) (bK p)=some v:=λv=>by rw[nX _ _ _ _ (rF pn),if_pos rfl]
     have tkl:(qP (hF S) ps).length=ps.length:=aA ..;have da:d≠a:=λe=>by rw[e] at hd2;rw[show H2 a=_ from ta2] at hd2;cases hd2
     refine⟨_,lh.t (k:=bK p) hd2 ta2 (bO (by omega)),?_⟩;rw[pB _ (rF pn)];have ta3:bZ (upd H2 d (.dT (qP (hF S) ps++[(bK p,.int 1)]))) a p:=by
      show upd H2 d _ a=_;rw[aP da.symm];exact ta2
     have s3:ak H (upd H2 d (.dT (qP (hF S) ps++[(bK p,.int 1)]))):=s2.new nd;have hd3:upd H2 d (.dT (qP (hF S) ps++[(bK p,.int 1)])) d=some (.dT (qP (hF S) ps++[(bK p,.int 1)])):=aD;generalize upd H2 d (.dT (qP (hF S) ps++[(bK p,.int 1)]))=H3 at ta3 s3 hd3 ⊢;refine⟨_,hd3,λL as2 nL pr=>?_⟩;have s4:=(ak.refl H3).new (o:=.lst (as2.map V.ref)) nL;have hL:upd H3 L (.lst (as2.map V.ref)) L=some (.lst (as2.map V.ref)):=aD;have Ld:L≠d:=(au hd3 nL).symm;have ta4:=ta3.same s4;have hd4:=s4 _ _ hd3;have pr4:Paired (λ(a:Addr) (kv:List Key×V)=>upd H3 L (.lst (as2.map V.ref)) a=some (.tup (kv.1.map kV))) as2 (qP (hF S) ps++[(bK p,.int 1)]):=Paired.mapP pr λa kv z=>s4 _ _ z;have s34:=s3.trans s4;generalize upd H3 L (.lst (as2.map V.ref))=H4 at hL ta4 hd4 pr4 s34 ⊢;have keys:∀(k:Nat) x,(as2.map V.ref)[k]? = some x->∃a2 q,x=.ref a2/\(ps++[p])[k]? = some q/\bZ H4 a2 q:=λk x hx=>by
      obtain⟨a2,h2,rfl⟩:=iI hx;obtain⟨kv,hkv,e2⟩:=lR pr4 h2;have e3:((qP (hF S) ps++[(bK p,V.int 1)]).map (·.1))[k]? = some kv.1:=by rw[aS,hkv];rfl
      have e4:(qP (hF S) ps++[(bK p,V.int 1)]).map (·.1)=(ps++[p]).map bK:=by unfold qP;rw[aW,aW,bc];rfl
      rw[e4,aS] at e3;obtain⟨q,hq,eq⟩:=cC.mp e3;rw[<-eq] at e2;exact⟨a2,q,rfl,hq,e2⟩
     refine⟨⟨_,bv.of hL⟩,g6 (xs:=as2.map V.ref) (λk σ H'=>∃(x4:Option V) (v:Nat),σ=[some (.ref l),some (.ref d),some (.int (1+(i:Int))),some (.ref a),x4]/\Keeps [d] H4 H'/\H' d=some (.dT (qP (hF S) ps++[(bK p,.int (v:Nat))]))/\1<=v/\v<=hF S p/\∀q∈(ps++[p]).take k,jj q p=true->hF S q+1<=v) ⟨_,1,rfl,Keeps.refl _ _,hd4,aH _,?_,λq hq=>by simp at hq⟩ (λk σ H' _ ⟨_,_,_,kp,_⟩=>bv.of (kp _ _ (by simpa using Ld) hL)) ?_ ?_⟩
     ·rw[qX BS.lt plt];omega
     ·rintro k x σ H5 hx ⟨z4,v,rfl,kp,hd5,v1,v2,v3⟩;obtain⟨a2,q,rfl,hq,tq⟩:=keys k x hx;have da2:a2≠d:=λe=>by rw[e] at tq;rw[show H4 d=_ from tq] at hd4;cases hd4
      have da:a≠d:=da.symm;have tq5:bZ H5 a2 q:=kp _ _ (by simpa using da2) tq;have ta5:bZ H5 a p:=kp _ _ (by simpa using da) ta4;have tk:(ps++[p]).take (k+1)=(ps++[p]).take k++[q]:=by rw[bF,hq];rfl
      have nx:(jj q p=true->hF S q+1<=v)->∃(x4:Option V) (v':Nat),[some (V.ref l),some (V.ref d),some (V.int (1+(i:Int))),some (V.ref a),some (V.ref a2)]=[some (V.ref l),some (V.ref d),some (V.int (1+(i:Int))),some (V.ref a),x4]/\Keeps [d] H4 H5/\H5 d=some (.dT (qP (hF S) ps++[(bK p,.int (v':Nat))]))/\1<=v'/\v'<=hF S p/\∀q∈(ps++[p]).take (k+1),jj q p=true->hF S q+1<=v':=λhv=>by
       refine⟨_,v,rfl,kp,hd5,v1,v2,λq' hq' hz=>?_⟩;rw[tk] at hq';rcases aU.mp hq' with h | h
       ·exact v3 q' h hz
       ·have e:q'=q:=by simpa using h
        subst e;exact hv hz
      walk_at "wp";refine⟨_,_,dA.of ta5,rfl,_,_,dA.of tq5,rfl,?_⟩;walk_at "wp";refine hZ (λc1=>?_) (λc1=>by simpa using nx λz=>by unfold jj at z;simp only[aX,decide_eq_true_eq] at z;omega);refine⟨_,_,dA.of tq5,rfl,_,_,dA.of ta5,rfl,?_⟩;walk_at "wp";refine hZ (λc2=>?_) (λc2=>by simpa using nx λz=>by unfold jj at z;simp only[aX,decide_eq_true_eq] at z;omega);have hz:jj q p=true:=by unfold jj;rw[decide_eq_true c1,decide_eq_true c2];rfl
      have qp:q≠p:=λe=>by rw[e] at c1;omega
      have qps:q∈ps:=by
       rcases aU.mp (aR hq) with h | h
       ·exact h
       ·exact absurd (by simpa using h) qp
      have qS:q∈S:=((mps q).mp qps).1;have g1:dy (qP (hF S) ps++[(bK p,V.int (v:Nat))]) (bK q)=some (.int (hF S q:Nat)):=by rw[nX _ _ _ _ (rF pn),if_neg λe=>qp (yt e)];exact xS qps
      have dg0:=iN.t (k:=bK p) hd5 ta5;rw[tk0] at dg0;have dg1:=iN.t (k:=bK q) hd5 tq5;rw[g1] at dg1;refine⟨_,dg0,_,dg1,?_⟩;walk_at "wp";have em:(if ((hF S q:Nat):Int)+1 > (v:Nat) then ((hF S q:Nat):Int)+1 else (v:Nat))=((max v (hF S q+1):Nat):Int):=by split<;>omega
      refine⟨_,lh.t (k:=bK p) hd5 ta5 (bO (by rw[af,tkl,cP];omega)),_,max v (hF S q+1),rfl,kp.trans (Keeps.upd (by simp)),?_,by omega,?_,λq' hq' hz'=>?_⟩
      ·rw[aD,Cq (rF pn),em]
      ·have:=gh BS.lt plt qS hz;omega
      ·rw[tk] at hq';rcases aU.mp hq' with h | h
       ·have:=v3 q' h hz';omega
       ·rw[show q'=q by simpa using h];omega
     ·rintro σ H5 ⟨z4,v,rfl,kp,hd5,v1,v2,v3⟩;have ev:v=hF S p:=Bz BS.lt plt v1 v2 λq hq hz=>by
       have lk:(as2.map V.ref).length=(ps++[p]).length:=by
        rw[aA,bB pr4,af,tkl,af];rfl
       rw[lk,bW] at v3;refine v3 q (bu _ ((mps q).mpr ⟨hq,.inl ?_⟩)) hz;unfold jj at hz;simp only[aX,decide_eq_true_eq] at hz;omega
      subst ev;refine⟨_,_,ps++[p],rfl,?_,?_,λp'=>?_,?_,?_⟩
      ·intro b o hbo;have:b≠d:=λe=>by rw[e] at hbo;rw[nd] at hbo;cases hbo
       exact kp _ _ (by simpa using this) (s34 _ _ hbo)
      ·have sub:(ps++[p]).Nodup:=by
        rw[cJ];exact⟨nps,by simp,λa ha b hb=>by rw[show b=p by simpa using hb];exact λe=>pn (e▸ha)⟩
       refine eI sub λx hx=>?_;rcases aU.mp hx with h | h
       ·exact((mps x).mp h).1
       ·rw[show x=p by simpa using h];exact pS
      ·rw[etk];constructor
       ·intro h;rcases aU.mp h with h | h
        ·obtain⟨h1,h2⟩:=(mps p').mp h;exact⟨h1,h2.imp id λz=>⟨z.1,bu _ z.2⟩⟩
        ·rw[show p'=p by simpa using h];exact⟨pS,.inr ⟨e,by simp⟩⟩
       ·rintro⟨h1,h2 | ⟨h2,h3⟩⟩
        ·exact bu _ ((mps p').mpr ⟨h1,.inl h2⟩)
        ·rcases aU.mp h3 with h | h
         ·exact bu _ ((mps p').mpr ⟨h1,.inr ⟨h2,h⟩⟩)
         ·exact bI _ h
      ·rw[hd5];unfold qP;rw[aW];rfl
      ·rw[cJ];exact⟨nps,by simp,λa ha b hb=>by rw[show b=p by simpa using hb];exact λe=>pn (e▸ha)⟩
    ·refine⟨_,y4,ps,rfl,s2,lps,λp'=>?_,hd2,nps⟩;rw[mps,etk];constructor
     ·rintro⟨h1,h2⟩;exact⟨h1,h2.imp id λz=>⟨z.1,bu _ z.2⟩⟩
     ·rintro⟨h1,h2 | ⟨h2,h3⟩⟩
      ·exact⟨h1,.inl h2⟩
      ·rcases aU.mp h3 with h | h
       ·exact⟨h1,.inr ⟨h2,h⟩⟩
       ·rw[show p'=p by simpa using h] at h2;exact absurd h2 e
   ·rintro σ H2 ⟨y3,y4,ps,rfl,s2,lps,mps,hd2,nps⟩;refine⟨_,y3,y4,ps,rfl,s2,lps,λp=>?_,hd2,nps⟩;rw[mps,aA,bl,bW];constructor
    ·rintro⟨h1,h2 | h2⟩
     ·exact⟨h1,by omega⟩
     ·exact⟨h1,by omega⟩
    ·rintro⟨h1,h2⟩;exact⟨h1,by by_cases z:p.2-p.1<1+(i:Int);exact .inl z;exact .inr ⟨by omega,h1⟩⟩
  ·rintro σ H1 ⟨x2,x3,x4,ps,rfl,s1,lps,mps,hd1,nps⟩;walk_at "wp";exact q d ps H1 nd s1 (λp=>by rw[mps];exact⟨λz=>z.1,λz=>⟨z,by have:=h21 p z;omega⟩⟩) (by omega) hd1
theorem yJ (B:oJ mg) (E:Fn K mg "_law_drawing" kF ["_law_maze"]) (D_bows:eO P w K mg base 1 "_law_bows" pc ["_law_maze"] z9) (D_tall:eO P w K mg base 1 "_law_tall" pX ["_law_bows_here"] CP):eO P w K mg base 2 "_law_drawing" kF ["_law_maze"] tW:=E.mk' λf fd F=>by
 refine F.okS dF (λvs H Q E h=>?_) (λcdv A outer s H vs Q E hr h=>?_)
 ·obtain⟨m,o,b,ns,rfl,_⟩:=h;rfl
 ·obtain⟨m,o,b,ns,rfl,hm,O,q⟩:=h;refine⟨[some (.ref m),none,none,none,none,none,none,none,none,none,none,none,none,none,none],_,rfl,(L2.jE.h (aI (aj (i:=1) dF.nd rfl (Or.inl rfl) (ac D_bows (hr.mono (by decide)) (by rfl) (aG (a8 0) aC)))
   (c6 (aj (i:=2) dF.nd rfl (Or.inl rfl) (cv (ci (ac D_tall (hr.mono (by decide)) (by rfl) (aY (a9 b6 (a8 1) aE (λ_ _=>rfl)) aC)) (ci (ac D_tall (hr.mono (by decide)) (by rfl) (aY (a9 b6 (a8 1) aE (λ_ _=>rfl)) aC)) aC))))
   (c6 (aj (i:=3) dF.nd rfl (Or.inl rfl) (ae ef aE (bG (sZ rfl) (by rfl) B.max fQ (ck (ae oR (cv (cB aE aC)) (d8 (nN rfl) (by rfl) B.list di (ci (qw iV lD lC uI (a9 b6 (a8 2) aE (λ_ _=>rfl))) aC))) aC))))
   (c6 (aj (i:=4) dF.nd rfl (Or.inl rfl) (ae c7 (ae c7 (a8 3) (ae ef aE (bG (sZ rfl) (by rfl) B.max fQ (ck (ae oR (cv (cB aE aC)) (d8 (nN rfl) (by rfl) B.list di (ci (qw iV lD lC uI (a9 b6 (a8 2) aE (λ_ _=>rfl))) aC))) aC)))) aE))
   (aI (aj (i:=5) dF.nd rfl (Or.inl rfl) (ae c7 (bG bS (by rfl) B.len bH (aY (a9 bx (a8 0) aE (λ_ _=>rfl)) aC)) aE))
   (aI (aj (i:=6) dF.nd rfl (Or.inr rfl) lM)
   (c6 (aj (i:=7) dF.nd rfl (Or.inl rfl) (cv (wG pw (wG pw aC))))
   (c6 (c8 aZ rfl (iK (by rfl) B.range (cB aE aC)) (bM (i:=8) dF.nd rfl (Or.inl rfl))
   (aL (c8 aZ rfl (eZ (a9 b6 (a8 1) (a8 8) (λ_ _=>rfl))) (bM (i:=9) dF.nd rfl (Or.inl rfl))
    (aI (aj (i:=10) dF.nd rfl (Or.inl rfl) (ae c7 (a8 3) (ae ef (ae fw (ae ef aE (f7 (iZ hr) (a9 b6 (a8 2) (a8 8) (λ_ _=>rfl)) (a8 9) (λ_ _=>rfl))) aE) (ae fw (ae ef aE (a8 8)) aE))))
     (aI (ft (iZ hr) (a9 b6 (a8 7) (a8 8) (λ_ _=>rfl)) (a9 bx (a8 9) aE (λ_ _=>rfl)) (a8 10) rfl)
     (aI (ft (iZ hr) (a9 b6 (a8 7) (a8 8) (λ_ _=>rfl)) (a9 bx (a8 9) aE (λ_ _=>rfl)) (a8 10) rfl)
     (c6 (c8 aZ rfl (iJ (by rfl) B.range (ck (ae c7 (ae ef aE (a9 bx (a8 9) aE (λ_ _=>rfl))) aE) (ck (ae c7 (ae ef aE (a9 bx (a8 9) aE (λ_ _=>rfl))) aE) aC))) (bM (i:=11) dF.nd rfl (Or.inr rfl))
     (aL (ft (iZ hr) (a8 6) (dE (aG (a8 11) (aG (a8 10) aC))) cI rfl)))
     (aL (c8 aZ rfl (qu (a8 9)) (bM (i:=12) dF.nd rfl (Or.inl rfl))
     (aI (ce (bX gx (a8 12) aE (bq _))
      (aL (ft (iZ hr) (a8 6) (dE (cB aE (aG (a8 10) aC))) cI rfl))
      bh)
      (aL (ce (bX gx (a8 12) (a8 5) (bq _))
      (aL (ft (iZ hr) (a8 6) (dE (ck (ae c7 (ae ef aE (a8 5)) aE) (aG (a8 10) aC))) cI rfl))
      bh))))))))))))
   (c6 (c8 aZ rfl (qu (a9 bx (a8 0) aE (λ_ _=>rfl))) (bM (i:=13) dF.nd rfl (Or.inl rfl))
   (aL (c8 aZ rfl (iJ (by rfl) B.range (aY (f7 (iZ hr) (a9 b6 (a8 7) aE (λ_ _=>rfl)) (a8 13) (λ_ _=>rfl)) (ck (ae c7 (f7 (iZ hr) (a9 b6 (a8 7) aE (λ_ _=>rfl)) (a8 13) (λ_ _=>rfl)) aE) aC))) (bM (i:=10) dF.nd rfl (Or.inl rfl))
    (aL (ft (iZ hr) (a8 6) (dE (ck (ae c7 (ae ef aE (a8 13)) aE) (aG (a8 10) aC))) cI rfl)))))
   (aI (aj (i:=14) dF.nd rfl (Or.inl rfl) (cv aC))
   (c6 (c8 aZ rfl (iK (by rfl) B.range (ck (ae c7 (ae ef aE (a8 5)) aE) aC)) (bM (i:=11) dF.nd rfl (Or.inr rfl))
   (aL (cf (fJ am ay ax d9 (a8 14) (ci (fJ fD gQ gP qx cI (i8 (lO (own:=["_law_column"]) (ns:=["_law_signs","_law_line"]) (caps:=[6,11]) rfl ⟨rfl,by decide +kernel,by decide +kernel,by decide +kernel⟩ (.cons rfl rfl (.inl rfl) (.cons rfl rfl (.inl rfl) .nil)) (iK (by rfl) B.range (aG (a8 4) aC)) (λC s H fp pn=>(bM (i:=0) (show List.Nodup ((["_law_column"]:List Str)++(["_law_signs","_law_line"]:List Str)) by decide +kernel) rfl (Or.inl rfl))) (λC s H fp pn=>mC) (λC s H fp pn=>(A8 (iZ hr) (a8 1) (dE (aG (a8 2) (aG (a8 0) aC))) cI ⟨by rfl,by rfl,by rfl,by rfl⟩))) aC)) aC)))))
   (aL (bT (fJ fD gQ gP qx cI (aG (a8 14) aC)))))))))))))))),?_⟩
  have l20:=O.len;have two:(2:Nat)<=sizeLine:=by decide
  have dotV:V.str (Str.ofString ".")=lJ 46:=by unfold lJ;rw[show Str.ofString "."=(⟨#[46]⟩:Str) by decide +kernel]
  have vV:V.str (Str.ofString "v")=lJ 118:=by unfold lJ;rw[show Str.ofString "v"=(⟨#[118]⟩:Str) by decide +kernel]
  have mV:V.str (Str.ofString "@")=lJ 64:=by unfold lJ;rw[show Str.ofString "@"=(⟨#[64]⟩:Str) by decide +kernel]
  have BS:=λu=>iD (b:=b) O u;have mx0:=λu=>uk (b:=b) O u;have bd:∀u,∀p∈bE b ns u,0<=p.1/\p.2<=(ns.length:Int)+1/\p.1<p.2:=λu p hp=>by
   obtain⟨j,hj,_,rfl⟩:=eX hp;have h1:=O.step_in (i:=j) (by omega);have h2:=O.step_lt (i:=j) (by omega);exact⟨h1.1,h1.2,h2⟩
  walk_at "wp";refine⟨m,o,b,ns,rfl,hm,by omega,λbl g H1 nf ng s1 hf hb ne=>?_⟩;have hm1:=hm.same s1;have hb:∀u,cY H1 (g u) (bE b ns u):=hb;refine bP (λσ H'=>∃(tl:Addr) (t:Bool->Addr) (ps:Bool->List Bw),σ=[some (.ref m),some (.ref bl),some (.ref tl),none,none,none,none,none,none,none,none,none,none,none,none]/\ak H1 H'/\H' tl=some (.lst [.ref (t false),.ref (t true)])/\(∀u p,p∈ps u<->p∈bE b ns u)/\(∀u,(ps u).length<=40)/\∀u,H' (t u)=some (.dT (qP (hF (bE b ns u)) (ps u)))) ?_ ?_
  ·walk_at "wp";have sp:∀u,∀p∈bE b ns u,p.2-p.1<=21:=λu p hp=>by have:=bd u p hp;omega
   refine⟨_,_,bv.of hf,rfl,g false,bE b ns false,rfl,hb false,BS false,sp false,λt0 ps0 Ha nt0 sa m0 l0 ht0=>⟨_,_,bv.of (sa _ _ hf),rfl,g true,bE b ns true,rfl,(hb true).same sa,BS true,sp true,λt1 ps1 Hb nt1 sb m1 l1 ht1=>⟨two,λp np=>?_⟩⟩⟩;have sc:=(ak.refl Hb).new (o:=.lst [.ref t0,.ref t1]) np;exact⟨p,λu=>if u then t1 else t0,λu=>if u then ps1 else ps0,rfl,sa.trans (sb.trans sc),aD,λu=>by cases u;exact m0;exact m1,λu=>by cases u;exact l0;exact l1,λu=>by cases u;exact(sb.trans sc) _ _ ht0;exact sc _ _ ht1⟩
  rintro σ H2 ⟨tl,t,ps,rfl,s2,htl,mps,lps,ht⟩;have hvals:∀u,(qP (hF (bE b ns u)) (ps u)).map (·.2)=((ps u).map λp=>((hF (bE b ns u) p:Nat):Int)).map V.int:=λu=>by unfold qP;rw[bc,bc];rfl
  have mxv:∀(u:Bool) (H0 H1:Hp) (p:Addr) (Q':VK),H0 tl=some (.lst [.ref (t false),.ref (t true)])->(∀u,H0 (t u)=some (.dT (qP (hF (bE b ns u)) (ps u))))->H0 p=none->H1=upd H0 p (.lst [.int 0])->(∀H',ak H0 H'->Q' (.int (ic (bE b ns u):Nat)) H')->Bs K "dict" (.ref (t u)) H1/\ze (.ref (t u)) [] H1 λx H1=>Cf [x] H1 λy H2=>Km (.ref p) y H2 λx H1=>Gm K [x] H1 Q':=by
   rintro u H0 _ p Q' h1 h2 np rfl hq;have v1:=(ak.refl H0).new (o:=.lst [.int 0]) np;refine⟨.inr (.inr (.inl ⟨rfl,.inr ⟨_,v1 _ _ (h2 u)⟩⟩)),t u,_,rfl,rfl,v1 _ _ (h2 u),λvw nvw=>?_⟩;have v2:=v1.trans ((ak.refl _).new (o:=oK (t u)) nvw);have hp2:upd (upd H0 p (.lst [.int 0])) vw (oK (t u)) p=some (.lst [.int 0]):=(ak.refl _).new (o:=oK (t u)) nvw _ _ aD;have hv2:upd (upd H0 p (.lst [.int 0])) vw (oK (t u)) vw=some (oK (t u)):=aD;generalize upd (upd H0 p (.lst [.int 0])) vw (oK (t u))=H2' at v2 hp2 hv2 ⊢;refine⟨vw,t u,_,rfl,hv2,v2 _ _ (h2 u),λl nl=>?_⟩;rw[hvals];have v3:=(ak.refl H2').new (o:=.lst (((ps u).map λp=>((hF (bE b ns u) p:Nat):Int)).map V.int)) nl;refine⟨p,l,_,_,rfl,rfl,v3 _ _ hp2,aD,bf (bO (by have:=lps u;simp;omega)),λp3 n3=>?_⟩;have v4:=(v2.trans v3).trans ((ak.refl _).new (o:=.lst ([.int 0]++((ps u).map λp=>((hF (bE b ns u) p:Nat):Int)).map V.int)) n3);refine⟨p3,0::(ps u).map (λp=>((hF (bE b ns u) p:Nat):Int)),rfl,bv.of aD,Nat.succ_pos _,λM m1 m2=>?_⟩;rw[De (mps u) m1 m2];exact hq _ v4
  refine bP (λσ H'=>σ=[some (.ref m),some (.ref bl),some (.ref tl),some (.int (2*ic (bE b ns false):Nat)),none,none,none,none,none,none,none,none,none,none,none]/\ak H2 H') ?_ ?_
  ·walk_at "wp";refine⟨(show 1<=sizeLine by decide),λp np=>?_⟩;have v1:=(ak.refl H2).new (o:=.lst [.int 0]) np;refine⟨_,_,bv.of (v1 _ _ htl),rfl,mxv false H2 _ p _ htl ht np rfl λH' sm=>?_⟩;walk_at "wp";exact⟨.inl ⟨by decide,by decide⟩,by rw[show ((2*ic (bE b ns false):Nat):Int)=2*((ic (bE b ns false):Nat):Int) by omega],sm⟩
  rintro σ H3 ⟨rfl,s3⟩;refine bP (λσ H'=>σ=[some (.ref m),some (.ref bl),some (.ref tl),some (.int (2*ic (bE b ns false):Nat)),some (.int (dC (bE b ns false) (bE b ns true):Nat)),none,none,none,none,none,none,none,none,none,none]/\ak H3 H') ?_ ?_
  ·have htl3:=s3 _ _ htl;have ht3:=λu=>s3 _ _ (ht u);walk_at "wp";refine⟨(show 1<=sizeLine by decide),λp np=>?_⟩;have v1:=(ak.refl H3).new (o:=.lst [.int 0]) np;refine⟨_,_,bv.of (v1 _ _ htl3),rfl,mxv true H3 _ p _ htl3 ht3 np rfl λH' sm=>?_⟩;walk_at "wp";exact⟨.inl ⟨by decide,by decide⟩,by rw[show ((2*ic (bE b ns false):Nat):Int)+2*((ic (bE b ns true):Nat):Int)+1=((dC (bE b ns false) (bE b ns true):Nat):Int) by unfold dC;omega],sm⟩
  rintro σ H4 ⟨rfl,s4⟩;walk_at "wp";have s14:=s2.trans (s3.trans s4);have hm4:=hm1.same s14;have htl4:=(s3.trans s4) _ _ htl;have ht4:=λu=>(s3.trans s4) _ _ (ht u);have hf4:=s14 _ _ hf;have hb4:=λu=>(hb u).same s14;refine⟨_,_,dA.of hm4.1,rfl,o,_,rfl,.inr (dA.of hm4.2),?_⟩;rw[aA];have s04:=s1.trans s14;clear hm1 htl ht hf hb hm s1 s2 s3 s4 s14 ne mxv;intro sg nsg;refine bP (λσ H'=>∃(at':Addr) (ad:Bool->Addr),σ=[some (.ref m),some (.ref bl),some (.ref tl),some (.int (2*ic (bE b ns false):Nat)),some (.int (dC (bE b ns false) (bE b ns true):Nat)),some (.int ((ns.length:Int)+1)),some (.ref sg),some (.ref at'),none,none,none,none,none,none,none]/\ak H4 H'/\H' sg=some (.dT [])/\H' at'=some (.lst [.ref (ad false),.ref (ad true)])/\(∀u,H' (ad u)=some (.dK []))/\(∀u,H4 (ad u)=none)/\ad false≠ad true) ?_ ?_
  ·walk_at "wp";intro a0 na0 a1 na1;refine⟨two,λp np=>?_⟩;have w1:=(ak.refl H4).new (o:=.dT []) nsg;have w2:=(ak.refl (upd H4 sg (.dT []))).new (o:=.dK []) na0;have w3:=(ak.refl (upd (upd H4 sg (.dT [])) a0 (.dK []))).new (o:=.dK []) na1;have w4:=(ak.refl (upd (upd (upd H4 sg (.dT [])) a0 (.dK [])) a1 (.dK []))).new (o:=.lst [.ref a0,.ref a1]) np;exact⟨p,λu=>if u then a1 else a0,rfl,w1.trans (w2.trans (w3.trans w4)),(w2.trans (w3.trans w4)) _ _ aD,aD,λu=>by cases u;exact(w3.trans w4) _ _ aD;exact w4 _ _ aD,λu=>by cases u;exact w1.free na0;exact(w1.trans w2).free na1,au aD na1⟩
  rintro σ H5 ⟨at',ad,rfl,s5,hsg,hat,had,nad,ade⟩;have hm5:=hm4.same s5;have htl5:=s5 _ _ htl4;have ht5:=λu=>s5 _ _ (ht4 u);have hf5:=s5 _ _ hf4;have hb5:=λu=>(hb4 u).same s5;have off:∀x o,H4 x=some o->x∉[sg,ad false,ad true]:=λx o hx hm=>by
   simp only[aJ,bn,or_false] at hm;rcases hm with rfl | rfl | rfl
   ·rw[nsg] at hx;cases hx
   ·rw[nad] at hx;cases hx
   ·rw[nad] at hx;cases hx
  have ato:at'∉[sg,ad false,ad true]:=λhm=>by
   simp only[aJ,bn,or_false] at hm;rcases hm with h | h | h<;>rw[h] at hat
   ·rw[hsg] at hat;cases hat
   ·rw[had] at hat;cases hat
   ·rw[had] at hat;cases hat
  have sga:∀u,sg≠ad u:=λu e=>by rw[e,had] at hsg;cases hsg
  have adm:∀u,ad u∈[sg,ad false,ad true]:=λu=>by cases u<;>simp
  have cc:∃cc:Bool->Bw->Nat,cc false=oF (bE b ns false)/\cc true=nO (bE b ns false) (bE b ns true):=⟨λu=>if u then nO (bE b ns false) (bE b ns true) else oF (bE b ns false),rfl,rfl⟩
  obtain⟨cc,cc0,cc1⟩:=cc;refine bP (λσ H'=>∃(x8 x9 x10 x11 x12:Option V) (kvs:List (List Key×V)) (kv:Bool->List (Key×V)),σ=[some (.ref m),some (.ref bl),some (.ref tl),some (.int (2*ic (bE b ns false):Nat)),some (.int (dC (bE b ns false) (bE b ns true):Nat)),some (.int ((ns.length:Int)+1)),some (.ref sg),some (.ref at'),x8,x9,x10,x11,x12,none,none]/\Keeps [sg,ad false,ad true] H5 H'/\H' sg=some (.dT kvs)/\kvs.length<=4000/\Sg kvs (Fo ns.length λi x=>lH (bE b ns false) (cc false) i x || lH (bE b ns true) (cc true) i x)/\∀u,H' (ad u)=some (.dK (kv u))/\li (kv u) (bE b ns u) (cc u)) ?_ ?_
  ·walk_at "wp";refine⟨by decide,by decide,?_⟩;rw[show ((2:Int)).toNat=2 from rfl]
   let ix:Bool->Nat:=λu=>if u then 1 else 0
   refine fV (n:=2) (λi σ H'=>∃(x8 x9 x10 x11 x12:Option V) (kvs:List (List Key×V)) (kv:Bool->List (Key×V)),σ=[some (.ref m),some (.ref bl),some (.ref tl),some (.int (2*ic (bE b ns false):Nat)),some (.int (dC (bE b ns false) (bE b ns true):Nat)),some (.int ((ns.length:Int)+1)),some (.ref sg),some (.ref at'),x8,x9,x10,x11,x12,none,none]/\Keeps [sg,ad false,ad true] H5 H'/\H' sg=some (.dT kvs)/\kvs.length<=2000*i/\Sg kvs (Fo ns.length λy x=>lH (mq (bE b ns false) 0 i 0) (cc false) y x || lH (mq (bE b ns true) 1 i 0) (cc true) y x)/\∀u,H' (ad u)=some (.dK (kv u))/\(kv u).length<=100*i/\li (kv u) (mq (bE b ns u) (if u then 1 else 0) i 0) (cc u)) ⟨_,_,_,_,_,[],λ_=>[],rfl,Keeps.refl _ _,hsg,a6 _,λi x=>rfl,λu=>⟨had u,a6 _,λp hp=>by cases u<;>simp[mq] at hp⟩⟩ ?_ ?_
   ·rintro i σ H6 hi ⟨x8,x9,x10,x11,x12,kvs,kv,rfl,kp,hsg6,kl,hS,had6⟩;obtain⟨u,rfl⟩:∃u:Bool,i=if u then 1 else 0:=by
     match i,hi with
     | 0,_=>exact⟨false,rfl⟩
     | 1,_=>exact⟨true,rfl⟩
    have hb6:=hb5 u;obtain⟨as,b1,bl',bg⟩:=hb6.get;have S40:=(BS u).len;have blo:=off _ _ hf4;have tlo:=off _ _ htl4;have guo:g u∉[sg,ad false,ad true]:=by
     obtain⟨_,h,_⟩:=hb4 u;exact off _ _ h
    have tuo:=off _ _ (ht4 u);have ai:∀f:Bool->Addr,pO [V.ref (f false),V.ref (f true)] (0+((if u then 1 else 0:Nat):Int))=some (.ref (f u)):=λf=>by cases u<;>rfl
    walk_at "wp";refine⟨_,_,bv.of (kp _ _ blo hf5),ai g,g u,rfl,⟨_,bv.of (kp _ _ guo b1)⟩,?_⟩;refine g6 (xs:=as.map V.ref) (λj σ H'=>∃(x9 x10 x11 x12:Option V) (kvs:List (List Key×V)) (kv:Bool->List (Key×V)),σ=[some (.ref m),some (.ref bl),some (.ref tl),some (.int (2*ic (bE b ns false):Nat)),some (.int (dC (bE b ns false) (bE b ns true):Nat)),some (.int ((ns.length:Int)+1)),some (.ref sg),some (.ref at'),some (.int (0+((if u then 1 else 0:Nat):Int))),x9,x10,x11,x12,none,none]/\Keeps [sg,ad false,ad true] H5 H'/\H' sg=some (.dT kvs)/\kvs.length<=2000*(if u then 1 else 0)+50*j/\Sg kvs (Fo ns.length λy x=>lH (mq (bE b ns false) 0 (if u then 1 else 0) j) (cc false) y x || lH (mq (bE b ns true) 1 (if u then 1 else 0) j) (cc true) y x)/\∀v,H' (ad v)=some (.dK (kv v))/\(kv v).length<=100*(if u then 1 else 0)+2*j/\li (kv v) (mq (bE b ns v) (if v then 1 else 0) (if u then 1 else 0) j) (cc v)) ⟨x9,x10,x11,x12,kvs,kv,rfl,kp,hsg6,kl,hS,had6⟩ (λj σ H' _ ⟨_,_,_,_,_,_,_,kp,_⟩=>bv.of (kp _ _ guo b1)) ?_ ?_
    ·rintro j x σ H7 hx ⟨y9,y10,y11,y12,kvs,kv,rfl,kp,hsg7,kl,hS,had7⟩;obtain⟨a,p,rfl,hp,ta⟩:=bg j x hx;have pS:=aR hp;obtain⟨p0,p1,plt⟩:=bd u p pS;have tao:a∉[sg,ad false,ad true]:=λhm=>by
      simp only[aJ,bn,or_false] at hm;have ta':H5 a=some (.tup [.int p.1,.int p.2]):=ta;rcases hm with h | h | h<;>rw[h] at ta'
      ·rw[hsg] at ta';cases ta'
      ·rw[had] at ta';cases ta'
      ·rw[had] at ta';cases ta'
     have ta7:bZ H7 a p:=kp _ _ tao ta;have dg:=iN.t (k:=bK p) (kp _ _ tuo (ht5 u)) ta7;rw[xS ((mps u p).mpr pS)] at dg;have ec:((2*ic (bE b ns false):Nat):Int)+(2*((hF (bE b ns u) p:Nat):Int) - 1)*(2*(0+((if u then 1 else 0:Nat):Int)) - 1)=((cc u p:Nat):Int):=by
      have h1:1<=hF (bE b ns u) p:=by rw[qX (BS u).lt plt];omega
      have h2:=i9 pS;cases u
      ·rw[cc0];unfold oF;have e:(2*(0+((if false then 1 else 0:Nat):Int)) - 1)=-1:=rfl;rw[e];omega
      ·rw[cc1];unfold nO;have e:(2*(0+((if true then 1 else 0:Nat):Int)) - 1)=1:=rfl;rw[e];omega
     walk_at "wp";refine⟨_,_,bv.of (kp _ _ tlo htl5),ai t,_,_,rfl,dg,?_⟩;walk_at "wp";refine⟨.inl ⟨by decide,by decide⟩,.inl ⟨by decide,by decide⟩,.inr (by cases u<;>decide),?_⟩;rw[ec];have k8:Keeps [sg,ad false,ad true] H7 (upd H7 (ad u) (.dK (putK (kv u) (.inl p.1) (.int (cc u p:Nat))))):=Keeps.upd (adm u);have k9:Keeps [sg,ad false,ad true] H7 (upd (upd H7 (ad u) (.dK (putK (kv u) (.inl p.1) (.int (cc u p:Nat))))) (ad u) (.dK (putK (putK (kv u) (.inl p.1) (.int (cc u p:Nat))) (.inl p.2) (.int (cc u p:Nat))))):=k8.trans (Keeps.upd (adm u));obtain⟨had7u,kvl,cau⟩:=had7 u;have jl:j<(bE b ns u).length:=(aF.mp hp).1;have u1:(if u then 1 else 0:Nat)<=1:=by cases u<;>decide
     have lp1:=dt (kv u) (.inl p.1:Key) (.int (cc u p:Nat));have lp2:=dt (putK (kv u) (.inl p.1:Key) (.int (cc u p:Nat))) (.inl p.2:Key) (.int (cc u p:Nat));refine⟨_,_,bv.of (kp _ _ ato hat),ai ad,_,_,dA.of ta7,rfl,_,_,rfl,lh.k (k:=.inl p.1) had7u (bO (by omega)),_,_,bv.of (k8 _ _ ato (kp _ _ ato hat)),ai ad,_,_,dA.of (k8 _ _ tao ta7),rfl,_,_,rfl,lh.k (k:=.inl p.2) aD (bO (by omega)),?_⟩;have had9:∃kv':Bool->List (Key×V),∀v,upd (upd H7 (ad u) (.dK (putK (kv u) (.inl p.1) (.int (cc u p:Nat))))) (ad u) (.dK (putK (putK (kv u) (.inl p.1) (.int (cc u p:Nat))) (.inl p.2) (.int (cc u p:Nat)))) (ad v)=some (.dK (kv' v))/\(kv' v).length<=100*(if u then 1 else 0)+2*(j+1)/\li (kv' v) (mq (bE b ns v) (if v then 1 else 0) (if u then 1 else 0) (j+1)) (cc v):=by
      refine⟨λv=>if v=u then putK (putK (kv u) (.inl p.1) (.int (cc u p:Nat))) (.inl p.2) (.int (cc u p:Nat)) else kv v,λv=>?_⟩;by_cases e:v=u
      ·subst e;dsimp only;rw[if_pos rfl,aD];refine⟨rfl,by omega,?_⟩;rw[rG hp];exact li.add (BS v) (λq hq=>E7 hq) pS cau
      ·dsimp only;rw[if_neg e,zP,aP (λz:ad v=ad u=>by
        cases v<;>cases u
        ·exact e rfl
        ·exact ade z
        ·exact ade z.symm
        ·exact e rfl)]
       obtain⟨h1,h2,h3⟩:=had7 v;refine⟨h1,by omega,?_⟩;rw[u7 (by revert e;cases v<;>cases u<;>decide)];exact h3
     have hsg9:upd (upd H7 (ad u) (.dK (putK (kv u) (.inl p.1) (.int (cc u p:Nat))))) (ad u) (.dK (putK (putK (kv u) (.inl p.1) (.int (cc u p:Nat))) (.inl p.2) (.int (cc u p:Nat)))) sg=some (.dT kvs):=by rw[zP,aP (sga u)];exact hsg7
     generalize upd (upd H7 (ad u) (.dK (putK (kv u) (.inl p.1) (.int (cc u p:Nat))))) (ad u) (.dK (putK (putK (kv u) (.inl p.1) (.int (cc u p:Nat))) (.inl p.2) (.int (cc u p:Nat))))=H9 at k9 had9 hsg9 ⊢;obtain⟨kv',had9⟩:=had9;have ta9:bZ H9 a p:=k9 _ _ tao ta7;have kp9:=kp.trans k9;clear k8 k9 had7 had7u cau lp1 lp2 ta7 dg hsg7 kp ec;have hPn:∀y x,((lH (mq (bE b ns false) 0 (if u then 1 else 0) j) (cc false) y x || lH (mq (bE b ns true) 1 (if u then 1 else 0) j) (cc true) y x) || (sR p y&&decide (x=cc u p)))=(lH (mq (bE b ns false) 0 (if u then 1 else 0) (j+1)) (cc false) y x || lH (mq (bE b ns true) 1 (if u then 1 else 0) (j+1)) (cc true) y x):=λy x=>by
      cases u
      ·rw[show (if false=true then 1 else 0:Nat)=0 from rfl,rG (i:=0) hp,u7 (show (1:Nat)≠0 by decide),wN];cases lH (mq (bE b ns false) 0 0 j) (cc false) y x<;>cases lH (mq (bE b ns true) 1 0 j) (cc true) y x<;>cases (sR p y&&decide (x=cc false p))<;>rfl
      ·rw[show (if true=true then 1 else 0:Nat)=1 from rfl,rG (i:=1) hp,u7 (show (0:Nat)≠1 by decide),wN,iF]
     generalize hP0:(λy x=>lH (mq (bE b ns false) 0 (if u then 1 else 0) j) (cc false) y x || lH (mq (bE b ns true) 1 (if u then 1 else 0) j) (cc true) y x)=P0 at hS;have hPn':∀y x,(P0 y x || (sR p y&&decide (x=cc u p)))=(lH (mq (bE b ns false) 0 (if u then 1 else 0) (j+1)) (cc false) y x || lH (mq (bE b ns true) 1 (if u then 1 else 0) (j+1)) (cc true) y x):=λy x=>by rw[<-hP0];exact hPn y x
     obtain⟨J,hJ⟩:∃J:Nat,(J:Int)=2*p.2+1 - 2*p.1:=⟨(2*p.2+1 - 2*p.1).toNat,by omega⟩
     refine bP (λσ H'=>∃(x11:Option V) (kvs':List (List Key×V)),σ=[some (.ref m),some (.ref bl),some (.ref tl),some (.int (2*ic (bE b ns false):Nat)),some (.int (dC (bE b ns false) (bE b ns true):Nat)),some (.int ((ns.length:Int)+1)),some (.ref sg),some (.ref at'),some (.int (0+((if u then 1 else 0:Nat):Int))),some (.ref a),some (.int (cc u p:Nat)),x11,y12,none,none]/\Keeps [sg] H9 H'/\H' sg=some (.dT kvs')/\kvs'.length<=kvs.length+J/\Sg kvs' (Fl ns.length P0 p (cc u p) 0 J)) ?_ ?_
     ·walk_at "wp";refine⟨_,_,dA.of ta9,rfl,?_⟩;walk_at "wp";refine⟨.inl ⟨by decide,by decide⟩,_,_,dA.of ta9,rfl,?_⟩;walk_at "wp";refine⟨.inl ⟨by decide,by decide⟩,⟨by omega,by omega,by omega,by omega⟩,?_⟩;rw[show (2*p.2+2-(2*p.1+1)).toNat=J by omega];refine fV (n:=J) (λk σ H'=>∃(x11:Option V) (kvs':List (List Key×V)),σ=[some (.ref m),some (.ref bl),some (.ref tl),some (.int (2*ic (bE b ns false):Nat)),some (.int (dC (bE b ns false) (bE b ns true):Nat)),some (.int ((ns.length:Int)+1)),some (.ref sg),some (.ref at'),some (.int (0+((if u then 1 else 0:Nat):Int))),some (.ref a),some (.int (cc u p:Nat)),x11,y12,none,none]/\Keeps [sg] H9 H'/\H' sg=some (.dT kvs')/\kvs'.length<=kvs.length+k/\Sg kvs' (Fl ns.length P0 p (cc u p) 0 k)) ⟨_,kvs,rfl,Keeps.refl _ _,hsg9,aH _,by rw[MN];exact hS⟩ ?_ ?_
      ·rintro k σ H' hk ⟨z11,kvs',rfl,kk,hk1,hk2,hk3⟩;obtain⟨y,hy⟩:∃y:Nat,(y:Int)=2*p.1+1+(k:Int):=⟨(2*p.1+1+(k:Int)).toNat,by omega⟩
       walk_at "wp";refine⟨two,λtt ntt=>?_⟩;rw[<-hy];have hk1':=hk1;have e1:=(ak.refl H').new (o:=.tup [.int (y:Nat),.int (cc u p:Nat)]) ntt;refine⟨_,lh.t (k:=sK y (cc u p)) (e1 _ _ hk1) aD (by rw[sizeLine_eq];omega),_,_,rfl,(kk.trans (ak.keeps e1)).trans (Keeps.upd (by simp)),aD,?_,?_⟩
       ·have:=dt kvs' (sK y (cc u p)) (.str (Str.ofString "."));omega
       ·exact hk3.put y (cc u p) _ λi' x'=>by rw[dotV];exact GP hy i' x'
      ·rintro σ H' ⟨z11,kvs',rfl,kk,hk1,hk2,hk3⟩;exact⟨z11,kvs',rfl,kk,hk1,hk2,hk3⟩
     rintro σ H10 ⟨z11,kvs',rfl,k10,hsg10,kl10,hS10⟩;walk_at "wp";have as1:a∉[sg]:=λz=>tao (by simp at z;simp[z]);have ads:∀v,ad v∉[sg]:=λv z=>sga v (by simp at z;exact z.symm);refine⟨⟨_,dA.of (k10 _ _ as1 ta9)⟩,?_⟩;refine vH (xs:=[V.int p.1,V.int p.2]) (λt σ H'=>∃(x12:Option V) (kvs':List (List Key×V)),σ=[some (.ref m),some (.ref bl),some (.ref tl),some (.int (2*ic (bE b ns false):Nat)),some (.int (dC (bE b ns false) (bE b ns true):Nat)),some (.int ((ns.length:Int)+1)),some (.ref sg),some (.ref at'),some (.int (0+((if u then 1 else 0:Nat):Int))),some (.ref a),some (.int (cc u p:Nat)),z11,x12,none,none]/\Keeps [sg] H9 H'/\H' sg=some (.dT kvs')/\kvs'.length<=kvs.length+J+t/\Sg kvs' (Fl ns.length P0 p (cc u p) t J)) ⟨_,kvs',rfl,k10,hsg10,kl10,hS10⟩ (λt σ H' _ ⟨_,_,_,kk,_⟩=>dA.of (kk _ _ as1 ta9)) ?_ ?_
     ·rintro t x σ H' hx ⟨z12,kvs'',rfl,kk,hk1,hk2,hk3⟩
      match t,hx with
      | 0,hx=>
       cases hx;walk_at "wp";refine hZ (λz0=>?_) (λz0=>pH (by omega) ⟨_,kvs'',rfl,kk,hk1,by omega,by rw[<-LU (by omega)];exact hk3⟩);refine⟨two,λtt ntt=>?_⟩;have e1:=(ak.refl H').new (o:=.tup [.int 1,.int (cc u p:Nat)]) ntt;refine⟨_,lh.t (k:=sK 1 (cc u p)) (e1 _ _ hk1) aD (by rw[sizeLine_eq];omega),pH (by omega) ⟨_,_,rfl,(kk.trans (ak.keeps e1)).trans (Keeps.upd (by simp)),aD,?_,?_⟩⟩
       ·have:=dt kvs'' (sK 1 (cc u p)) (.str (Str.ofString "v"));omega
       ·exact hk3.put 1 (cc u p) _ λi' x'=>by rw[vV];exact ML z0 (by omega) i' x'
      | 1,hx=>
       cases hx;walk_at "wp";refine pH (by omega) (hZ (λz0=>?_) (λz0=>⟨_,kvs'',rfl,kk,hk1,by omega,by rw[<-LV (by omega) hJ];exact hk3⟩));refine⟨.inl ⟨by decide,by decide⟩,two,λtt ntt=>?_⟩;rw[show 2*((ns.length:Int)+1)+1=((2*ns.length+3:Nat):Int) by omega];have e1:=(ak.refl H').new (o:=.tup [.int ((2*ns.length+3:Nat):Int),.int (cc u p:Nat)]) ntt;refine⟨_,lh.t (k:=sK (2*ns.length+3) (cc u p)) (e1 _ _ hk1) aD (by rw[sizeLine_eq];omega),_,_,rfl,(kk.trans (ak.keeps e1)).trans (Keeps.upd (by simp)),aD,?_,?_⟩
       ·have:=dt kvs'' (sK (2*ns.length+3) (cc u p)) (.str (Str.ofString "@"));omega
       ·exact hk3.put (2*ns.length+3) (cc u p) _ λi' x'=>by rw[mV];exact MM z0 p0 plt hJ i' x'
      | t+2,hx=>simp at hx
     ·rintro σ H' ⟨z12,kvs'',rfl,kk,hk1,hk2,hk3⟩;refine⟨_,_,_,_,kvs'',kv',rfl,?_,hk1,?_,?_,λv=>⟨kk _ _ (ads v) (had9 v).1,(had9 v).2⟩⟩
      ·intro x o hx hxo;exact kk _ _ (λz=>hx (by simp at z;simp[z])) (kp9 _ _ hx hxo)
      ·have:([V.int p.1,V.int p.2]:List V).length=2:=rfl;omega
      ·intro y x;rw[hk3 y x,show ([V.int p.1,V.int p.2]:List V).length=2 from rfl,GQ hJ];unfold Fo;simp only[hPn']
    ·rintro σ H7 ⟨y9,y10,y11,y12,kvs,kv,rfl,kp,hsg7,kl,hS,had7⟩;rw[aA,bl'] at kl hS had7;have nxt:∀v k,mq (bE b ns v) k (if u then 1 else 0) (bE b ns u).length=mq (bE b ns v) k ((if u then 1 else 0)+1) 0\/k=if u then 1 else 0:=λv k=>by
      by_cases e:k=if u then 1 else 0
      ·exact .inr e
      ·refine .inl ?_;unfold mq;rw[if_neg e];by_cases h1:k<if u then 1 else 0
       ·rw[if_pos h1,if_pos (by omega)]
       ·rw[if_neg h1,if_neg (by omega)];by_cases h2:k=(if u then 1 else 0)+1
        ·rw[if_pos h2]
        ·rw[if_neg h2]
     have nx2:∀v:Bool,mq (bE b ns v) (if v then 1 else 0) (if u then 1 else 0) (bE b ns u).length=mq (bE b ns v) (if v then 1 else 0) ((if u then 1 else 0)+1) 0:=λv=>by
      rcases nxt v (if v then 1 else 0) with h | h
      ·exact h
      ·have e:v=u:=by revert h;cases v<;>cases u<;>decide
       subst e;exact By (by omega) _ _
     refine⟨_,y9,y10,y11,y12,kvs,kv,rfl,kp,hsg7,by omega,?_,λv=>⟨(had7 v).1,by have:=(had7 v).2.1;omega,by rw[<-nx2];exact(had7 v).2.2⟩⟩;have h0:=nx2 false;have h1:=nx2 true;rw[show (if false=true then 1 else 0:Nat)=0 from rfl] at h0;rw[show (if true=true then 1 else 0:Nat)=1 from rfl] at h1;rw[<-h0,<-h1];exact hS
   ·rintro σ H6 ⟨x8,x9,x10,x11,x12,kvs,kv,rfl,kp,hsg6,kl,hS,had6⟩;rw[u9 (by have:=(BS false).len;omega) (by decide),u9 (by have:=(BS true).len;omega) (by decide)] at hS;refine⟨_,_,_,_,_,kvs,kv,rfl,kp,hsg6,by omega,hS,λv=>⟨(had6 v).1,?_⟩⟩;have:=(had6 v).2.2;rw[u9 (by have:=(BS v).len;omega) (by cases v<;>decide)] at this;exact this
  rintro σ H6 ⟨x8,x9,x10,x11,x12,kvs,kv,rfl,kp,hsg6,kl,hS,had6⟩;refine bP (λσ H'=>∃(x10' x13:Option V) (kvs':List (List Key×V)),σ=[some (.ref m),some (.ref bl),some (.ref tl),some (.int (2*ic (bE b ns false):Nat)),some (.int (dC (bE b ns false) (bE b ns true):Nat)),some (.int ((ns.length:Int)+1)),some (.ref sg),some (.ref at'),x8,x9,x10',x11,x12,x13,none]/\Keeps [sg,ad false,ad true] H5 H'/\H' sg=some (.dT kvs')/\Sg kvs' (Fo ns.length (df ns.length (bE b ns false) (bE b ns true)))) ?_ ?_
  ·have colv:∀u,∀r:Nat,1<=r->r<=ns.length->dy (kv u) (.inl (r:Int):Key)=some (.int ((if u then nI (bE b ns false) (bE b ns true) r else jU (bE b ns false) r:Nat):Int)):=λu r h1 h2=>by
    obtain⟨p,hp,e⟩:=qq (b:=b) O u h1 h2;have h3:=(had6 u).2 p hp;have h4:(if u then nI (bE b ns false) (bE b ns true) r else jU (bE b ns false) r:Nat)=cc u p:=by
     cases u
     ·rw[cc0];show jU _ r=_;unfold jU;rw[fB (BS false) hp e]
     ·rw[cc1];show nI _ _ r=_;unfold nI;rw[fB (BS true) hp e]
    rw[h4];rcases e with e | e
    ·rw[<-e];exact h3.1
    ·rw[<-e];exact h3.2
   have mo:=off _ _ hm4.1;have oo:=off _ _ hm4.2;have hm6:eV H6 m o b ns:=⟨kp _ _ mo hm5.1,kp _ _ oo hm5.2⟩
   have ats:at'∉[sg]:=λz=>ato (by simp at z;simp[z]);have ads:∀v,ad v∉[sg]:=λv z=>sga v (by simp at z;exact z.symm);have os:o∉[sg]:=λz=>oo (by simp at z;simp[z]);have hat6:=kp _ _ ato hat;have mxa:=mx0 false;have mxb:=mx0 true;walk_at "wp";refine⟨_,_,dA.of hm6.1,rfl,o,rfl,⟨_,dA.of hm6.2⟩,?_⟩;refine vH (xs:=ns.map V.int) (λt σ H'=>∃(x10' x13:Option V) (kvs':List (List Key×V)),σ=[some (.ref m),some (.ref bl),some (.ref tl),some (.int (2*ic (bE b ns false):Nat)),some (.int (dC (bE b ns false) (bE b ns true):Nat)),some (.int ((ns.length:Int)+1)),some (.ref sg),some (.ref at'),x8,x9,x10',x11,x12,x13,none]/\Keeps [sg] H6 H'/\H' sg=some (.dT kvs')/\kvs'.length<=4000+1000*t/\Sg kvs' (Fo ns.length λi x=>(lH (bE b ns false) (cc false) i x || lH (bE b ns true) (cc true) i x) || Gj (ns.take t) (jU (bE b ns false)) (nI (bE b ns false) (bE b ns true)) i x)) ⟨_,_,kvs,rfl,Keeps.refl _ _,hsg6,kl,pQ hS λi x=>by simp[Gj]⟩ (λt σ H' _ ⟨_,_,_,_,kk,_⟩=>dA.of (kk _ _ os hm6.2)) ?_ ?_
   ·rintro t x σ H' hx ⟨y10,y13,kvs',rfl,kk,hk1,hk2,hk3⟩;obtain⟨r',hr,rfl⟩:=iI hx;have tl1:=(aF.mp hr).1;have rin:=O.mem.mp (aR hr);obtain⟨r,rfl⟩:=l9 (show 0<=r' by omega);have etk:ns.take (t+1)=ns.take t++[(r:Int)]:=by rw[bF,hr];rfl
    have dg0:=iN.k (k:=.inl (r:Int)) (kk _ _ (ads false) (had6 false).1);have dg1:=iN.k (k:=.inl (r:Int)) (kk _ _ (ads true) (had6 true).1);rw[colv false r (by omega) (by omega)] at dg0;rw[colv true r (by omega) (by omega)] at dg1;have bL:jU (bE b ns false) r<=100:=by unfold jU oF;omega
    have bR:nI (bE b ns false) (bE b ns true) r<=200:=by
     obtain⟨p,hp,e⟩:=qq (b:=b) O true (r:=r) (by omega) (by omega);unfold nI nO;rw[fB (BS true) hp e];have:=i9 hp;omega
    have s46:Jm ns.length (2*r+1)=46:=by unfold Jm;rw[if_neg (by omega),if_neg (by omega)]
    walk_at "wp";refine⟨_,_,bv.of (kk _ _ ats hat6),rfl,_,_,rfl,dg0,_,_,bv.of (kk _ _ ats hat6),rfl,_,_,rfl,dg1,?_⟩;walk_at "wp";refine⟨⟨by omega,by omega,by omega,by omega⟩,?_⟩;generalize hM:(((nI (bE b ns false) (bE b ns true) r:Nat):Int)+1-((jU (bE b ns false) r:Nat):Int)).toNat=M;have rt:((r:Int)).toNat=r:=cM r;refine fV (n:=M) (λk σ H'=>∃(x10':Option V) (kvs':List (List Key×V)),σ=[some (.ref m),some (.ref bl),some (.ref tl),some (.int (2*ic (bE b ns false):Nat)),some (.int (dC (bE b ns false) (bE b ns true):Nat)),some (.int ((ns.length:Int)+1)),some (.ref sg),some (.ref at'),x8,x9,x10',x11,x12,some (.int (r:Int)),none]/\Keeps [sg] H6 H'/\H' sg=some (.dT kvs')/\kvs'.length<=4000+1000*t+k/\Sg kvs' (Fo ns.length λi x=>((lH (bE b ns false) (cc false) i x || lH (bE b ns true) (cc true) i x) || Gj (ns.take t) (jU (bE b ns false)) (nI (bE b ns false) (bE b ns true)) i x) || decide (i=2*r+1/\jU (bE b ns false) r<=x/\x<jU (bE b ns false) r+k))) ⟨_,kvs',rfl,kk,hk1,hk2,pQ hk3 λi x=>?_⟩ ?_ ?_
    ·rw[decide_eq_false (show ¬(i=2*r+1/\jU (bE b ns false) r<=x/\x<jU (bE b ns false) r+0) by omega),dL]
    ·rintro k σ H'' hk ⟨z10,kvs'',rfl,kk',hk1',hk2',hk3'⟩;walk_at "wp";refine⟨.inl ⟨by decide,by decide⟩,two,λtt ntt=>?_⟩;rw[show 2*(r:Int)+1=((2*r+1:Nat):Int) by omega,show ((jU (bE b ns false) r:Nat):Int)+(k:Int)=((jU (bE b ns false) r+k:Nat):Int) by omega];have e1:=(ak.refl H'').new (o:=.tup [.int ((2*r+1:Nat):Int),.int ((jU (bE b ns false) r+k:Nat):Int)]) ntt;refine⟨_,lh.t (k:=sK (2*r+1) (jU (bE b ns false) r+k)) (e1 _ _ hk1') aD (by rw[sizeLine_eq];omega),_,_,rfl,(kk'.trans (ak.keeps e1)).trans (Keeps.upd (by simp)),aD,?_,?_⟩
     ·have:=dt kvs'' (sK (2*r+1) (jU (bE b ns false) r+k)) (.str (Str.ofString "."));omega
     ·rw[dotV];refine Jh hk3' s46 λi x=>?_;have e:decide (i=2*r+1/\jU (bE b ns false) r<=x/\x<jU (bE b ns false) r+(k+1))=(decide (i=2*r+1/\jU (bE b ns false) r<=x/\x<jU (bE b ns false) r+k) || decide (i=2*r+1/\x=jU (bE b ns false) r+k)):=by
       rw[d6];simp only[cu,decide_eq_true_eq];omega
      rw[e,<-iF]
    ·rintro σ H'' ⟨z10,kvs'',rfl,kk',hk1',hk2',hk3'⟩;refine⟨_,_,kvs'',rfl,kk',hk1',by omega,pQ hk3' λi x=>?_⟩;rw[etk,Cc,<-iF,rt];congr 1;rw[d6];simp only[aX,decide_eq_true_eq];omega
   ·rintro σ H' ⟨y10,y13,kvs',rfl,kk,hk1,hk2,hk3⟩;refine⟨_,_,kvs',rfl,λz o' hz ho=>kk _ _ (λy=>hz (by simp at y;simp[y])) (kp _ _ hz ho),hk1,pQ hk3 λi x=>?_⟩;rw[aA,bW,Er O,cc0,cc1];unfold df;rw[iF]
  rintro σ H7 ⟨x10',x13,kvs',rfl,k7,hsg7,hS7⟩;walk_at "wp";refine⟨a6 _,λp np=>?_⟩;have e1:=(ak.refl H7).new (o:=.lst []) np;have hp8:upd H7 p (.lst []) p=some (.lst []):=aD;have hsg8:=e1 _ _ hsg7;have k8:=k7.trans (ak.keeps e1);have fin:ak H (upd H7 p (.lst [])):=λz o' hz=>by
   have hz4:=s04 _ _ hz;exact k8 _ _ (off _ _ hz4) (s5 _ _ hz4)
  have npH:H p=none:=by
   cases e:H p with
   | none=>rfl
   | some o'=>
    have hz4:=s04 _ _ e;rw[k7 _ _ (off _ _ hz4) (s5 _ _ hz4)] at np;cases np
  have Lo:sg≠p:=λe=>by rw[e] at hsg8;rw[hp8] at hsg8;cases hsg8
  generalize upd H7 p (.lst [])=H8 at hp8 hsg8 fin ⊢;clear k8 e1 k7 hsg7 had6 kp hS;refine bP (λσ H'=>∃x11':Option V,σ=[some (.ref m),some (.ref bl),some (.ref tl),some (.int (2*ic (bE b ns false):Nat)),some (.int (dC (bE b ns false) (bE b ns true):Nat)),some (.int ((ns.length:Int)+1)),some (.ref sg),some (.ref at'),x8,x9,x10',x11',x12,x13,some (.ref p)]/\ak H H'/\H' p=some (.lst ((((List.range (2*ns.length+5)).map (jB ns.length (bE b ns false) (bE b ns true))).map tx).map V.str))) ?_ ?_
  ·have mxa:=mx0 false;have mxb:=mx0 true;have wl:dC (bE b ns false) (bE b ns true)<=100:=by unfold dC;omega
   have hashV:V.str (Str.ofString "#")=lJ 35:=by unfold lJ;rw[show Str.ofString "#"=(⟨#[35]⟩:Str) by decide +kernel]
   walk_at "wp";refine⟨.inl ⟨by decide,by decide⟩,by omega,by omega,?_⟩;rw[show (2*((ns.length:Int)+1)+3).toNat=2*ns.length+5 by omega];refine fV (n:=2*ns.length+5) (λi σ H'=>∃x11':Option V,σ=[some (.ref m),some (.ref bl),some (.ref tl),some (.int (2*ic (bE b ns false):Nat)),some (.int (dC (bE b ns false) (bE b ns true):Nat)),some (.int ((ns.length:Int)+1)),some (.ref sg),some (.ref at'),x8,x9,x10',x11',x12,x13,some (.ref p)]/\ak H H'/\H' sg=some (.dT kvs')/\H' p=some (.lst ((((List.range i).map (jB ns.length (bE b ns false) (bE b ns true))).map tx).map V.str))) ⟨_,rfl,fin,hsg8,hp8⟩ ?_ ?_
   ·rintro i σ H' hi ⟨y11,rfl,s',hsg',hp'⟩;walk_at "wp";refine⟨gw hp',rfl,by omega,by omega,?_⟩;rw[cM];refine sW (n:=dC (bE b ns false) (bE b ns true)) (λk ys σ H''=>ak H' H''/\ys=(List.range k).map (λx=>lJ (signG ns.length (bE b ns false) (bE b ns true) i x))/\∃x0:Option V,σ=[x0,some (.ref sg),some (.int (0+(i:Int)))]) ⟨ak.refl _,rfl,_,rfl⟩ (λk ys σ H'' h=>by rw[h.2.1];simp) (bf (bO (by omega))) ?_ ?_
    ·rintro k ys σ H'' N hk ⟨sm,rfl,x0,rfl⟩ hN;walk_at "wp";have hsg'':=sm _ _ hsg';refine⟨.inr ⟨_,.inl hsg''⟩,two,λtt ntt=>?_⟩;rw[iq,iq];have e1:=(ak.refl H'').new (o:=.tup [.int (i:Int),.int (k:Int)]) ntt;refine⟨_,iN.t (k:=sK i k) (e1 _ _ hsg'') aD,?_⟩;rw[hS7 i k];have ev:(Fo ns.length (df ns.length (bE b ns false) (bE b ns true)) i k).getD (V.str (Str.ofString "#"))=lJ (signG ns.length (bE b ns false) (bE b ns true) i k):=by
      rw[hashV];unfold Fo signG Jm;cases df ns.length (bE b ns false) (bE b ns true) i k<;>rfl
     rw[ev];refine hN _ _ _ ⟨sm.trans e1,?_,_,by rw[iq]⟩;rw[dv,aW];rfl
    ·rintro ys σ H'' l ⟨sm,rfl,x0,rfl⟩ nl;have e1:=(ak.refl H'').new (o:=.lst ((List.range (dC (bE b ns false) (bE b ns true))).map λx=>lJ (signG ns.length (bE b ns false) (bE b ns true) i x))) nl;have hl:upd H'' l (.lst ((List.range (dC (bE b ns false) (bE b ns true))).map λx=>lJ (signG ns.length (bE b ns false) (bE b ns true) i x))) l=some (.lst ((((List.range (dC (bE b ns false) (bE b ns true))).map (signG ns.length (bE b ns false) (bE b ns true) i)).map λc=>(⟨#[c]⟩:Str)).map V.str)):=by rw[aD];exact congrArg (λz=>some (HO.lst z)) (vx _ _)
     have s2:=sm.trans e1;generalize upd H'' l (.lst ((List.range (dC (bE b ns false) (bE b ns true))).map λx=>lJ (signG ns.length (bE b ns false) (bE b ns true) i x)))=H3 at e1 hl s2 ⊢;refine⟨_,l,_,rfl,rfl,bv.of hl,tR (by simp;omega),?_⟩;rw[zQ];have hp3:=s2 _ _ hp';refine⟨_,hp3,by rw[aA,aA,aA,dR];exact bO (by omega),_,rfl,(s'.trans s2).new npH,by rw[aP Lo];exact s2 _ _ hsg',?_⟩;rw[aD,dv];simp only[aW,ao,fF];rfl
   ·rintro σ H' ⟨y11,rfl,s',hsg',hp'⟩;exact⟨_,rfl,s',hp'⟩
  rintro σ H9 ⟨x11',rfl,s9,hp9⟩;walk_at "wp";refine⟨rfl,_,p,_,rfl,rfl,bv.of hp9,uM (by simp;omega) (λr hr=>?_),?_⟩
  ·obtain⟨j,_,rfl⟩:=aT.mp hr;have mxa:=mx0 false;have mxb:=mx0 true;unfold jB;rw[aA,dR];unfold dC;omega
  ·rw[zr];exact q _ s9
theorem tD (B:oJ mg) (E:Fn K mg "open_cells" gk ["text"]):eO P w K mg base 1 "open_cells" gk ["text"] z8:=E.mk' λf fd F=>by
 refine F.okS gK (λvs H Q E h=>?_) (λcdv A outer s H vs Q E hr h=>?_)
 ·obtain⟨b,ns,rfl,_⟩:=h;rfl
 ·obtain⟨b,ns,rfl,O,nc,q⟩:=h;refine⟨[some (.str (tx (gg ns.length (bE b ns false) (bE b ns true)))),none,none,none,none,none],_,rfl,(L2.jE.h (aI (aj (i:=1) gK.nd rfl (Or.inl rfl) lM)
   (aI (c8 aZ rfl (A5 (by rfl) B.enumerate (ci (fJ fD PySem.F.slot_str_split PySem.F.type_str_split D9 (a8 0) (cB cI aC)) aC)) (ke (n:=2) rfl (dq (bM (i:=2) gK.nd rfl (Or.inl rfl)) (dq (bM (i:=3) gK.nd rfl (Or.inl rfl)) ja)))
   (aL (c8 aZ rfl (Cm (by rfl) B.enumerate (aG (a8 3) aC)) (ke (n:=2) rfl (dq (bM (i:=4) gK.nd rfl (Or.inl rfl)) (dq (bM (i:=5) gK.nd rfl (Or.inl rfl)) ja)))
    (aL (ce (bX uG (a8 5) (iU (by rfl) B.WALL) (bq _))
     (aL (ft (iZ hr) (a8 1) (dE (aG (a8 2) (aG (a8 4) aC))) (a8 5) rfl))
     bh)))))
   (aL (bT (a8 1)))))),?_⟩
  have two:(2:Nat)<=sizeLine:=by decide
  have l20:=O.len;have w85:=BY (b:=b) O;have lln:(sE ns.length (bE b ns false) (bE b ns true)).length=2*ns.length+5:=by rw[aA,aA,aA,dR]
  have lnat:∀i,i<2*ns.length+5->(sE ns.length (bE b ns false) (bE b ns true))[i]? = some (.str (tx (jB ns.length (bE b ns false) (bE b ns true) i))):=λi hi=>by
   rw[aS,aS,aS,fi hi];rfl
  have szl:∀i,(tx (jB ns.length (bE b ns false) (bE b ns true) i)).cps.size=dC (bE b ns false) (bE b ns true):=λi=>by rw[<-zd (n:=ns.length) i];simp[tx]
  have sh:Str.ofString "#"=(⟨#[35]⟩:Str):=by decide +kernel
  have ch1:∀(c d:Nat),((⟨#[c]⟩:Str)=⟨#[d]⟩)<->c=d:=λc d=>⟨λe=>by injection e with e;simpa using e,λe=>by rw[e]⟩
  walk_at "wp";intro d nd;refine⟨rfl,_,_,rfl,rfl,by decide +kernel,?_,λll nll=>?_⟩
  ·have h1:=uN (qT ns.length (bE b ns false) (bE b ns true)) λr hr=>by
    obtain⟨i,_,rfl⟩:=aT.mp hr;rw[zd];omega
   have h2:(qT ns.length (bE b ns false) (bE b ns true)).length<=45:=by unfold qT;rw[aA,dR];omega
   rw[xN];show (ff (qT ns.length (bE b ns false) (bE b ns true))).length<=100000;omega
  have e':(Txt.split (tx (gg ns.length (bE b ns false) (bE b ns true))) (Str.ofString "\n")).map V.str=sE ns.length (bE b ns false) (bE b ns true):=congrArg (List.map V.str) (CM (rs:=qT ns.length (bE b ns false) (bE b ns true)) (C8 _ _ _) xl);rw[e'];have ld:ll≠d:=(au (show upd H d (.dT []) d=some (.dT []) from aD) nll).symm;have s1:=((ak.refl H).new (o:=.dT []) nd).trans ((ak.refl (upd H d (.dT []))).new (o:=.lst (sE ns.length (bE b ns false) (bE b ns true))) nll);have hll:upd (upd H d (.dT [])) ll (.lst (sE ns.length (bE b ns false) (bE b ns true))) ll=some (.lst (sE ns.length (bE b ns false) (bE b ns true))):=aD;have hd:upd (upd H d (.dT [])) ll (.lst (sE ns.length (bE b ns false) (bE b ns true))) d=some (.dT []):=by rw[aP ld.symm,aD]
  generalize upd (upd H d (.dT [])) ll (.lst (sE ns.length (bE b ns false) (bE b ns true)))=H1 at s1 hll hd ⊢;refine⟨ll,rfl,⟨_,bv.of hll⟩,?_⟩;refine BA (xs:=sE ns.length (bE b ns false) (bE b ns true)) (λk σ H'=>∃kvs cs,∃x2 x3 x4 x5:Option V,σ=[some (.str (tx (gg ns.length (bE b ns false) (bE b ns true)))),some (.ref d),x2,x3,x4,x5]/\ak H H'/\H' ll=some (.lst (sE ns.length (bE b ns false) (bE b ns true)))/\H' d=some (.dT kvs)/\jI b ns k 0 kvs cs) ⟨_,_,_,_,_,_,rfl,s1,hll,hd,jI.nil⟩ (λi σ H' ⟨_,_,_,_,_,_,_,_,h,_⟩=>h) ?_ ?_
  ·rintro k v σ H2 p hv ⟨kvs,cs,x2,x3,x4,x5,rfl,s2,hll2,hd2,C⟩ np;have hk:=(aF.mp hv).1;rw[lln] at hk;rw[lnat k hk] at hv;cases hv;have v3:=(ak.refl H2).new (o:=.tup [.int k,.str (tx (jB ns.length (bE b ns false) (bE b ns true) k))]) np;have hp3:upd H2 p (.tup [.int k,.str (tx (jB ns.length (bE b ns false) (bE b ns true) k))]) p=some (.tup [.int k,.str (tx (jB ns.length (bE b ns false) (bE b ns true) k))]):=aD;have s3:=s2.trans v3;have hll3:=v3 _ _ hll2;have hd3:=v3 _ _ hd2;generalize upd H2 p (.tup [.int k,.str (tx (jB ns.length (bE b ns false) (bE b ns true) k))])=H3 at hp3 s3 hll3 hd3 ⊢;walk_at "wp";refine⟨_,dA.of hp3,rfl,?_⟩;walk_at "wp";refine⟨El,?_⟩;refine EA (x:=tx (jB ns.length (bE b ns false) (bE b ns true) k)) (λj σ H'=>∃kvs cs,∃x4 x5:Option V,σ=[some (.str (tx (gg ns.length (bE b ns false) (bE b ns true)))),some (.ref d),some (.int k),some (.str (tx (jB ns.length (bE b ns false) (bE b ns true) k))),x4,x5]/\ak H H'/\H' ll=some (.lst (sE ns.length (bE b ns false) (bE b ns true)))/\H' d=some (.dT kvs)/\jI b ns k j kvs cs) ⟨_,_,_,_,rfl,s3,hll3,hd3,C⟩ ?_ ?_
   ·rintro j c σ H4 p4 hc ⟨kvs,cs,x4,x5,rfl,s4,hll4,hd4,C⟩ np4;have hj:=(gf.mp hc).1;rw[szl] at hj;have ec:c=signG ns.length (bE b ns false) (bE b ns true) k j:=by
     have h1:(tx (jB ns.length (bE b ns false) (bE b ns true) k)).cps.toList[j]? = some c:=by rw[fR];exact hc
     rw[He,Ek hj] at h1;exact(bD h1).symm
    subst ec;have v5:=(ak.refl H4).new (o:=.tup [.int j,.str ⟨#[signG ns.length (bE b ns false) (bE b ns true) k j]⟩]) np4;have hp5:upd H4 p4 (.tup [.int j,.str ⟨#[signG ns.length (bE b ns false) (bE b ns true) k j]⟩]) p4=some (.tup [.int j,.str ⟨#[signG ns.length (bE b ns false) (bE b ns true) k j]⟩]):=aD;have s5:=s4.trans v5;have hll5:=v5 _ _ hll4;have hd5:=v5 _ _ hd4;generalize upd H4 p4 (.tup [.int j,.str ⟨#[signG ns.length (bE b ns false) (bE b ns true) k j]⟩])=H5 at hp5 s5 hll5 hd5 ⊢;walk_at "wp";refine⟨_,dA.of hp5,rfl,?_⟩;walk_at "wp";rw[sh];refine hZ (λz=>⟨two,λpk nk=>?_⟩) (λz=>?_)
    ·have op:vA b ns k j=true:=by
      cases e:vA b ns k j with
      | true=>rfl
      | false=>exact absurd ((ch1 _ _).mpr (xf.mpr e)) z
     have v6:=(ak.refl H5).new (o:=.tup [.int k,.int j]) nk;have hk6:upd H5 pk (.tup [.int k,.int j]) pk=some (.tup ((sK k j).map kV)):=aD;have s6:=s5.trans v6;have hll6:=v6 _ _ hll5;have hd6:=v6 _ _ hd5;generalize upd H5 pk (.tup [.int k,.int j])=H6 at hk6 s6 hll6 hd6 ⊢;have cl:=C.len O nc;exact⟨_,lh.t hd6 hk6 (by rw[sizeLine_eq];omega),_,_,_,_,rfl,s6.new nd,by rw[aP ld];exact hll6,aD,C.put op⟩
    ·have op:vA b ns k j=false:=xf.mp ((ch1 _ _).mp (iw.mp z));exact⟨_,_,_,_,rfl,s5,hll5,hd5,C.skip op⟩
   ·rintro σ H4 ⟨kvs,cs,x4,x5,rfl,s4,hll4,hd4,C⟩;rw[szl] at C;exact⟨_,_,_,_,_,_,rfl,s4,hll4,hd4,C.line O nc⟩
  ·rintro σ H2 ⟨kvs,cs,x2,x3,x4,x5,rfl,s2,hll2,hd2,C⟩;rw[lln] at C;walk_at "wp";exact q d kvs cs H2 nd s2 hd2 (C.all O nc)
theorem tE (E:Fn K mg "neighbours" gl ["cell"]):eO P w K mg base 1 "neighbours" gl ["cell"] Kb:=E.mk' λf fd F=>by
 refine F.okS kt (λvs H Q E h=>?_) (λcdv A outer s H vs Q E hr h=>?_)
 ·obtain⟨a,c,rfl,_⟩:=h;rfl
 ·obtain⟨a,x,rfl,ta,h1,h2,q⟩:=h;refine⟨[some (.ref a),none,none],_,rfl,(L2.jE.h (aI (aj (i:=1) kt.nd rfl (Or.inl rfl) (a9 bx (a8 0) aE (λ_ _=>rfl)))
   (aI (aj (i:=2) kt.nd rfl (Or.inl rfl) (a9 bx (a8 0) aE (λ_ _=>rfl)))
   (aL (bT (cv (eE (dE (ck (ae fw (a8 1) aE) (aG (a8 2) aC))) (eE (dE (ck (ae c7 (a8 1) aE) (aG (a8 2) aC))) (eE (dE (aG (a8 1) (ck (ae fw (a8 2) aE) aC))) (eE (dE (aG (a8 1) (ck (ae c7 (a8 2) aE) aC))) aC)))))))))),?_⟩
  have two:(2:Nat)<=sizeLine:=by decide
  have c1:((x.1:Nat):Int) - 1=((x.1 - 1:Nat):Int):=by omega
  have c2:((x.2:Nat):Int) - 1=((x.2 - 1:Nat):Int):=by omega
  have x1:pO [V.int (gc x).1,V.int (gc x).2] 0=some (.int (x.1:Nat)):=rfl;have x2:pO [V.int (gc x).1,V.int (gc x).2] 1=some (.int (x.2:Nat)):=rfl;walk_at "wp";refine⟨_,_,dA.of ta,x1,_,_,dA.of ta,x2,?_⟩;walk_at "wp";rw[c1,c2];refine⟨two,λq1 n1=>?_⟩;have v1:=(ak.refl H).new (o:=.tup [.int ((x.1 - 1:Nat):Int),.int (x.2:Nat)]) n1;have k1:bZ (upd H q1 (.tup [.int ((x.1 - 1:Nat):Int),.int (x.2:Nat)])) q1 (gc (x.1 - 1,x.2)):=aD;generalize upd H q1 (.tup [.int ((x.1 - 1:Nat):Int),.int (x.2:Nat)])=H1 at v1 k1 ⊢;refine⟨two,λq2 n2=>?_⟩;have v2:=(ak.refl H1).new (o:=.tup [.int ((x.1:Nat)+1),.int (x.2:Nat)]) n2;have k2:bZ (upd H1 q2 (.tup [.int ((x.1:Nat)+1),.int (x.2:Nat)])) q2 (gc (x.1+1,x.2)):=aD;generalize upd H1 q2 (.tup [.int ((x.1:Nat)+1),.int (x.2:Nat)])=H2 at v2 k2 ⊢;refine⟨two,λq3 n3=>?_⟩;have v3:=(ak.refl H2).new (o:=.tup [.int (x.1:Nat),.int ((x.2 - 1:Nat):Int)]) n3;have k3:bZ (upd H2 q3 (.tup [.int (x.1:Nat),.int ((x.2 - 1:Nat):Int)])) q3 (gc (x.1,x.2 - 1)):=aD;generalize upd H2 q3 (.tup [.int (x.1:Nat),.int ((x.2 - 1:Nat):Int)])=H3 at v3 k3 ⊢;refine⟨two,λq4 n4=>?_⟩;have v4:=(ak.refl H3).new (o:=.tup [.int (x.1:Nat),.int ((x.2:Nat)+1)]) n4;have k4:bZ (upd H3 q4 (.tup [.int (x.1:Nat),.int ((x.2:Nat)+1)])) q4 (gc (x.1,x.2+1)):=aD;generalize upd H3 q4 (.tup [.int (x.1:Nat),.int ((x.2:Nat)+1)])=H4 at v4 k4 ⊢;refine⟨(show 4<=sizeLine by decide),λl nl=>?_⟩;have v5:=(ak.refl H4).new (o:=.lst [.ref q1,.ref q2,.ref q3,.ref q4]) nl;have v14:=v1.trans (v2.trans (v3.trans v4));exact q l _ (v14.free nl) (v14.trans v5) ⟨[q1,q2,q3,q4],aD,.cons (k1.same (v2.trans (v3.trans (v4.trans v5)))) (.cons (k2.same (v3.trans (v4.trans v5))) (.cons (k3.same (v4.trans v5)) (.cons (k4.same v5) .nil)))⟩
theorem oH (B:oJ mg) (E:Fn K mg "trail_from_mouth" eC ["cells"]) (D_neighbours:eO P w K mg base 1 "neighbours" gl ["cell"] Kb):eO P w K mg base 2 "trail_from_mouth" eC ["cells"] zU:=E.mk' λf fd F=>by
 refine F.okS dn (λvs H Q E h=>?_) (λcdv A outer s H vs Q E hr h=>?_)
 ·obtain⟨d,b,ns,kvs,cs,rfl,_⟩:=h;rfl
 ·obtain⟨d,b,ns,kvs,cs,rfl,hd,C,O,nc,q⟩:=h;refine⟨[some (.ref d),none,none,none,none],_,rfl,(L2.jE.h (c6 (uA (i:=1) dn.nd rfl (Or.inl rfl) (own:=["cell"]) (ns:=["cells"]) (caps:=[0]) rfl ⟨rfl,by decide +kernel,by decide +kernel,by decide +kernel⟩ (.cons rfl rfl (.inl rfl) .nil) (a8 0) (λC s H fp pn=>(bM (i:=0) (show List.Nodup ((["cell"]:List Str)++(["cells"]:List Str)) by decide +kernel) rfl (Or.inl rfl))) (λC s H fp pn=>(uv (bX gx (f7 (iZ hr) (a8 1) (a8 0) (λ_ _=>rfl)) (iU (by rfl) B.MOUTH) (bq _)))) (λC s H fp pn=>(a8 0)))
   (aI (aj (i:=2) dn.nd rfl (Or.inl rfl) (cv aC))
   (aI (aj (i:=3) dn.nd rfl (Or.inr rfl) lM)
   (aI (nw aZ (tu (a8 1) (λ_=>rfl))
   (aI (aj (i:=4) dn.nd rfl (Or.inl rfl) (a9 b6 (a8 1) aE (λ_ _=>rfl)))
    (aI (cf (fJ am ay ax d9 (a8 2) (aG (a8 4) aC)))
    (aI (ft (iZ hr) (a8 3) (a8 4) kx rfl)
    (aL (wC (i:=1) dn.nd rfl (Or.inl rfl) (own:=["cell"]) (ns:=["cells","met"]) (caps:=[0,3]) rfl ⟨rfl,by decide +kernel,by decide +kernel,by decide +kernel⟩ (.cons rfl rfl (.inl rfl) (.cons rfl rfl (.inl rfl) .nil)) (eZ (ac D_neighbours (hr.mono (by decide)) (by rfl) (aG (a8 4) aC))) (λC s H fp pn=>(bM (i:=0) (show List.Nodup ((["cell"]:List Str)++(["cells","met"]:List Str)) by decide +kernel) rfl (Or.inl rfl))) (λC s H fp pn=>(uv (QW.pt (oy (Eu (iZ hr) (a8 0) (a8 1)) (nD (xo (iZ hr) (a8 0) (a8 2))))))) (λC s H fp pn=>(a8 0))))))))
   (aL (bT (a8 2)))))))),?_⟩
  have W1:=qi O nc (b:=b);have c38:=C.len O nc;obtain⟨w0,hw0⟩:=o8 (b:=b) (ns:=ns) ns.length;have ndW:=rC O nc (b:=b) (aH _);have Wl:0<(cn b ns).length:=by rw[show cn b ns=_ from hw0];simp
  have sv:Str.ofString "v"=(⟨#[118]⟩:Str):=by decide +kernel
  have ch1:∀(c d:Nat),((⟨#[c]⟩:Str)=⟨#[d]⟩)<->c=d:=λc d=>⟨λe=>by injection e with e;simpa using e,λe=>by rw[e]⟩
  have W0m:(1,cN b ns 0)∈cn b ns:=by rw[show cn b ns=_ from hw0];simp
  refine bP (λσ H1=>∃ah,σ=[some (.ref d),some (.ref ah),none,none,none]/\ak H H1/\cY H1 ah [gc (1,cN b ns 0)]) ?_ ?_
  ·walk_at "wp";refine⟨_,hd,λo=>?_⟩;have kl:kvs.length=cs.length:=by rw[C.is,aA]
   have fl:cs.filter (λc=>decide (c=(1,cN b ns 0)))=[(1,cN b ns 0)]:=oY C.nd ((C.op _).mpr ((iG O nc).mp W0m)) λe _=>by rw[decide_eq_true_eq]
   refine uS (a:=d) (o:=o) (kvs:=kvs) (by rw[kl,sizeLine_eq];omega) (λj ys σ H'=>H'=upd H d (.frz o (.dT kvs))/\(∃as:List Addr,ys=as.map V.ref/\Paired (bZ (upd H d (.frz o (.dT kvs)))) as (((cs.take j).filter (λc=>decide (c=(1,cN b ns 0)))).map gc))/\∃x0:Option V,σ=[x0,some (.ref d)]) ⟨rfl,⟨[],rfl,.nil⟩,_,rfl⟩ ?_ ?_ ?_
   ·rintro j ys σ H' ⟨rfl,⟨as,rfl,pr⟩,_⟩;refine⟨aD,?_⟩;rw[aA,bB pr,aA];exact bU (gR _ _) (by rw[bp];omega)
   ·rintro j k v bb ys σ H' N hkv hb ⟨rfl,⟨as,rfl,pr⟩,x0,rfl⟩ hN;have hkv':=hkv;rw[C.is,aS] at hkv;obtain⟨c,hc,e⟩:=cC.mp hkv;obtain⟨rfl,rfl⟩:=Prod.mk.inj e;have cm:=aR hc;have tk:cs.take (j+1)=cs.take j++[c]:=by rw[bF,hc];rfl
    have gv:dy kvs (sK c.1 c.2)=some (lJ (signG ns.length (bE b ns false) (bE b ns true) c.1 c.2)):=by rw[C.is];exact yl cm
    walk_at "wp";refine⟨_,.inr ⟨kvs,sK c.1 c.2,bb,.inr ⟨o,aD⟩,rfl,hb,gv.symm⟩,?_⟩;have tb:bZ (upd H d (.frz o (.dT kvs))) bb (gc c):=hb;unfold lJ;walk_at "wp";rw[sv];refine hZ (λz=>?_) (λz=>?_)
    ·obtain⟨e1,e2⟩:=(uJ O nc).mp ((ch1 _ _).mp z);refine hN _ _ _ ⟨rfl,⟨as++[bb],by simp,?_⟩,_,rfl⟩;rw[tk,dI,iW (by rw[decide_eq_true_eq];exact fL e1 e2),jq,aW];exact nF pr tb
    ·refine hN _ _ _ ⟨rfl,⟨as,rfl,?_⟩,_,rfl⟩;rw[tk,dI,iX (λy=>z ((ch1 _ _).mpr ((uJ O nc).mpr (by rw[of_decide_eq_true y];exact⟨rfl,rfl⟩)))),jq,cV];exact pr
   ·rintro ys σ H' p ⟨rfl,⟨as,rfl,pr⟩,x0,rfl⟩ np;rw[kl,bW,fl] at pr;have dp:d≠p:=λe=>by subst e;rw[aD] at np;cases np
    have np':H p=none:=by rw[aP dp.symm] at np;exact np
    have s1:ak H (upd (upd (upd H d (.frz o (.dT kvs))) p (.lst (as.map V.ref))) d (.dT kvs)):=λu o' hu=>by
     by_cases e:u=d
     ·subst e;rw[aD];rw[hd] at hu;exact hu
     ·rw[aP e,aP (au hu np'),aP e];exact hu
    refine⟨by rw[aP dp,aD],p,rfl,s1,as,by rw[aP dp.symm,aD],Paired.mapP pr λu w hu=>?_⟩;have ud:u≠d:=λe=>by
     subst e;have hu2:upd H u (.frz o (.dT kvs)) u=some (.tup [.int w.1,.int w.2]):=hu;rw[aD] at hu2;cases hu2
    have hu':upd H d (.frz o (.dT kvs)) u=some (.tup [.int w.1,.int w.2]):=hu;show upd _ d _ u=_;rw[aP ud,aP (au hu' np)];exact hu
  rintro σ H1 ⟨ah,rfl,s1,bo1⟩;have hd1:=s1 _ _ hd;walk_at "wp";refine⟨a6 _,λtr ntr mt nmt=>?_⟩;have v2:=((ak.refl H1).new (o:=.lst []) ntr).trans ((ak.refl (upd H1 tr (.lst []))).new (o:=.dT []) nmt);have tm:tr≠mt:=(au (show upd H1 tr (.lst []) tr=some (.lst []) from aD) nmt)
  have nmt1:H1 mt=none:=by rw[aP tm.symm] at nmt;exact nmt
  have nHt:=s1.free ntr;have nHm:=s1.free nmt1;have at_:ah≠tr:=au bo1.choose_spec.1 ntr;have hT:upd (upd H1 tr (.lst [])) mt (.dT []) tr=some (.lst []):=by rw[aP tm,aD]
  have hM:upd (upd H1 tr (.lst [])) mt (.dT []) mt=some (.dT []):=aD;have bo2:=bo1.same v2;have s2:=s1.trans v2;generalize upd (upd H1 tr (.lst [])) mt (.dT [])=H2 at hT hM bo2 s2 ⊢;clear v2 nmt ntr;have W00:(cn b ns)[0]? = some (1,cN b ns 0):=by rw[show cn b ns=_ from hw0];rfl
  refine⟨λm σ H3=>∃(t:Nat) (ah:Addr) (x4:Option V),σ=[some (.ref d),some (.ref ah),some (.ref tr),some (.ref mt),x4]/\ah≠tr/\ak H H3/\cY H3 tr (((cn b ns).take t).map gc)/\H3 mt=some (.dT (((cn b ns).take t).map λc=>(sK c.1 c.2,V.bl true)))/\cY H3 ah ((cn b ns)[t]?.toList.map gc)/\t<=(cn b ns).length/\m=(cn b ns).length-t,⟨_,0,ah,none,rfl,at_,s2,⟨[],hT,.nil⟩,hM,by rw[W00];exact bo2,a6 _,rfl⟩,?_⟩;clear bo2 s2 hT hM at_ bo1 s1 hd1;rintro m σ H3 ⟨t,ah,x4,rfl,at_,s3,bo3,hm3,MD,ht,rfl⟩;obtain⟨as,a1,a2⟩:=id bo3;have la:=bB a2;rw[aA,bp,Nat.min_eq_left ht] at la;obtain⟨fs,f1,f2⟩:=id MD;walk_at "wp";rcases gG t (cn b ns).length with t1 | t1
  ·obtain⟨x,hx⟩:∃x,(cn b ns)[t]? = some x:=⟨_,aK t1⟩
   rw[hx] at f2
   match fs,f2 with
   | [qa],.cons tq .nil=>
    refine⟨true,.inl ⟨_,bv.of f1,by simp⟩,?_⟩;rw[if_pos rfl];have xw:=aR hx;have xin:=mn O nc xw;have tk1:(cn b ns).take (t+1)=(cn b ns).take t++[x]:=by rw[bF,hx];rfl
    have W0:cn b ns=(cn b ns).take t++x::(cn b ns).drop (t+1):=by
     conv=>lhs;rw[<-List.take_append_drop t (cn b ns)]
     rw[cT t1];congr 2;exact(aF.mp hx).2
    have hy:(cn b ns)[t+1]? = ((cn b ns).drop (t+1)).head?:=by
     rw[List.head?_drop]
    have fl:(BP x).filter (λd=>decide (d∈cs)&&!decide (d∈(cn b ns).take (t+1)))=(cn b ns)[t+1]?.toList:=by
     have key:∀y∈BP x,(decide (y∈cs)&&!decide (y∈(cn b ns).take (t+1)))=true<->∃B',(cn b ns).drop (t+1)=y::B':=λy hy'=>by
      rw[<-vQ O nc W0,aX,decide_eq_true_eq,C.op,tk1];simp only[Bool.not_eq_true',decide_eq_false_iff_not,aU,dG,not_or];exact⟨λh=>⟨(D6 xin.1 xin.2.2.1).mp hy',h.1,h.2⟩,λh=>h.2⟩
     rw[hy];cases e:(cn b ns).drop (t+1) with
     | nil=>
      refine ip.mpr λy hy' h=>?_;obtain⟨B',hB⟩:=(key y hy').mp h;rw[e] at hB;cases hB
     | cons y B=>
      refine oY (D5 xin.1 xin.2.2.1) ?_ λy' hy'=>?_
      ·exact(D6 xin.1 xin.2.2.1).mpr ((vQ O nc W0).mpr ⟨B,e⟩).1
      ·rw[key y' hy',e];exact⟨λ⟨B',h⟩=>(cF h).1.symm,λh=>⟨B,by rw[h]⟩⟩
    refine⟨λσ' H'=>∃ah',σ'=[some (.ref d),some (.ref ah'),some (.ref tr),some (.ref mt),some (.ref qa)]/\ah'≠tr/\ak H H'/\cY H' tr (((cn b ns).take (t+1)).map gc)/\H' mt=some (.dT (((cn b ns).take (t+1)).map λc=>(sK c.1 c.2,V.bl true)))/\cY H' ah' ((cn b ns)[t+1]?.toList.map gc),λσ' H' ⟨ah',e,h1,h2,h3,h4,h5⟩=>⟨_,by omega,t+1,ah',_,e,h1,h2,h3,h4,h5,t1,rfl⟩,?_⟩;have qt:qa≠tr:=λe=>by rw[e] at tq;rw[show H3 tr=_ from tq] at a1;cases a1
    have qm:qa≠mt:=λe=>by rw[e] at tq;rw[show H3 mt=_ from tq] at hm3;cases hm3
    have tm4:upd H3 tr (.lst (as.map V.ref++[.ref qa])) mt=some (.dT (((cn b ns).take t).map λc=>(sK c.1 c.2,V.bl true))):=by rw[aP tm.symm];exact hm3
    have tq4:upd H3 tr (.lst (as.map V.ref++[.ref qa])) qa=some (.tup ((sK x.1 x.2).map kV)):=by rw[aP qt];exact tq
    have bo4:=oG a1 a2 tq;have s4:ak H (upd H3 tr (.lst (as.map V.ref++[.ref qa]))):=s3.new nHt;refine⟨_,_,bv.of f1,rfl,gw a1,_,a1,by rw[aA,la,sizeLine_eq];omega,_,lh.t (k:=sK x.1 x.2) tm4 tq4 (by rw[aA,bp,sizeLine_eq];omega),?_⟩;generalize upd H3 tr (.lst (as.map V.ref++[.ref qa]))=H4 at tm4 tq4 bo4 s4 ⊢;have xnm:x∉(cn b ns).take t:=λhm=>by
     have nd:=ndW;rw[show wS b ns ns.length=_ from W0,cJ] at nd;exact nd.2.2 x hm x (by simp) rfl
    rw[pB _ (vJ xnm)];have kv5:((cn b ns).take t).map (λc=>(sK c.1 c.2,V.bl true))++[(sK x.1 x.2,V.bl true)]=((cn b ns).take (t+1)).map λc=>(sK c.1 c.2,V.bl true):=by rw[tk1,aW];rfl
    rw[kv5];have s5:ak H (upd H4 mt (.dT (((cn b ns).take (t+1)).map λc=>(sK c.1 c.2,V.bl true)))):=s4.new nHm;have bo5:cY (upd H4 mt (.dT (((cn b ns).take (t+1)).map λc=>(sK c.1 c.2,V.bl true)))) tr (((cn b ns).take (t+1)).map gc):=by
     obtain⟨as',b1,b2⟩:=bo4;have em:((cn b ns).take (t+1)).map gc=((cn b ns).take t).map gc++[gc x]:=by rw[tk1,aW];rfl
     rw[em];refine⟨as',by rw[aP tm];exact b1,Paired.mapP b2 λu w hu=>?_⟩;have um:u≠mt:=λe=>by rw[e] at hu;rw[show H4 mt=_ from hu] at tm4;cases tm4
     show upd _ mt _ u=_;rw[aP um];exact hu
    have tq5:bZ (upd H4 mt (.dT (((cn b ns).take (t+1)).map λc=>(sK c.1 c.2,V.bl true)))) qa (gc x):=by
     show upd _ mt _ qa=_;rw[aP qm];exact tq4
    have hm5:upd H4 mt (.dT (((cn b ns).take (t+1)).map λc=>(sK c.1 c.2,V.bl true))) mt=some (.dT (((cn b ns).take (t+1)).map λc=>(sK c.1 c.2,V.bl true))):=aD;generalize upd H4 mt (.dT (((cn b ns).take (t+1)).map λc=>(sK c.1 c.2,V.bl true)))=H5 at s5 bo5 tq5 hm5 ⊢;refine⟨qa,x,rfl,tq5,xin.1,xin.2.2.1,λnl H6 nnl s56 bo6=>?_⟩;have s6:=s5.trans s56;have bo6t:=bo5.same s56;have hm6:=s56 _ _ hm5;have hd6:=s6 _ _ hd;obtain⟨ws,w1,w2⟩:=id bo6;have lw:ws.length=4:=by rw[bB w2,aA];rfl
    refine⟨_,rfl,⟨_,bv.of w1⟩,?_⟩;refine oE (xs:=ws.map V.ref) (λj ys σ H'=>H'=H6/\(∃as:List Addr,ys=as.map V.ref/\Paired (bZ H6) as ((((BP x).take j).filter (λd=>decide (d∈cs)&&!decide (d∈(cn b ns).take (t+1)))).map gc))/\∃x0:Option V,σ=[x0,some (.ref d),some (.ref mt)]) ⟨rfl,⟨[],rfl,.nil⟩,_,rfl⟩ ?_ (by rw[aA,lw];decide) ?_ ?_
    ·rintro j ys σ H' ⟨rfl,⟨gs,rfl,pr⟩,_⟩;refine⟨bv.of w1,?_⟩;rw[aA,bB pr,aA];exact bU (gR _ _) (by rw[bp];omega)
    ·rintro j v ys σ H' N hv ⟨rfl,⟨gs,rfl,pr⟩,x0,rfl⟩ hN;obtain⟨qd,hqd,rfl⟩:=iI hv;obtain⟨cz,hcz,tqd⟩:=lR w2 hqd;rw[aS] at hcz;obtain⟨e,he,rfl⟩:=cC.mp hcz;have tk3:(BP x).take (j+1)=(BP x).take j++[e]:=by rw[bF,he];rfl
     have g1:iN H' d (.ref qd) _:=iN.t (k:=sK e.1 e.2) hd6 tqd;have g2:iN H' mt (.ref qd) _:=iN.t (k:=sK e.1 e.2) hm6 tqd;have e1:(dy kvs (sK e.1 e.2)).isSome=decide (e∈cs):=by rw[C.is];exact xA
     have e2:(dy (((cn b ns).take (t+1)).map λc=>(sK c.1 c.2,V.bl true)) (sK e.1 e.2)).isSome=decide (e∈(cn b ns).take (t+1)):=xA (g:=λ_=>V.bl true);have skip:¬((decide (e∈cs)&&!decide (e∈(cn b ns).take (t+1)))=true)->Paired (bZ H') gs ((((BP x).take (j+1)).filter (λd=>decide (d∈cs)&&!decide (d∈(cn b ns).take (t+1)))).map gc):=λh=>by
      rw[tk3,dI,iX (p:=λd=>decide (d∈cs)&&!decide (d∈(cn b ns).take (t+1))) h,jq,cV];exact pr
     walk_at "wp";refine⟨_,g1,?_⟩;rw[e1];refine hZ (λz1=>⟨_,g2,?_⟩) (λz1=>hN _ _ _ ⟨rfl,⟨gs,rfl,skip ?_⟩,_,rfl⟩)
     ·rw[e2];refine hZ (λz2=>hN _ _ _ ⟨rfl,⟨gs++[qd],by simp,?_⟩,_,rfl⟩) (λz2=>hN _ _ _ ⟨rfl,⟨gs,rfl,skip ?_⟩,_,rfl⟩)
      ·rw[tk3,dI,iW (by rw[z1,z2];rfl),jq,aW];exact nF pr tqd
      ·rw[aX];exact λy=>z2 (by simpa using y.2)
     ·rw[aX];exact λy=>z1 y.1
    ·rintro ys σ H' p ⟨rfl,⟨gs,rfl,pr⟩,x0,rfl⟩ np;rw[aA,lw,show 4=(BP x).length from rfl,bW,fl] at pr;have v7:=(ak.refl H').new (o:=.lst (gs.map V.ref)) np;exact⟨p,rfl,(au bo6t.choose_spec.1 np).symm,s6.trans v7,bo6t.same v7,v7 _ _ hm6,gs,aD,Paired.mapP pr λu w hu=>v7 _ _ hu⟩
  ·rw[dW t1] at f2;cases f2;refine⟨false,.inl ⟨_,bv.of f1,by simp⟩,?_⟩;rw[if_neg (by decide)];rw[cW t1] at bo3;exact q tr H3 nHt s3 bo3
theorem qD (B:oJ mg) (E:Fn K mg "maze_of_trail" eT ["trail"]):eO P w K mg base 1 "maze_of_trail" eT ["trail"] CV:=E.mk' λf fd F=>by
 refine F.okS dz (λvs H Q E h=>?_) (λcdv A outer s H vs Q E hr h=>?_)
 ·obtain⟨l,b,ns,rfl,_⟩:=h;rfl
 ·obtain⟨l,b,ns,rfl,bo,O,nc,q⟩:=h;refine⟨[some (.ref l),none,none,none,none,none],_,rfl,(L2.jE.h (aI (aj (i:=1) dz.nd rfl (Or.inl rfl) cI)
   (aI (aj (i:=2) dz.nd rfl (Or.inl rfl) (cv aC))
   (aI (c8 aZ rfl (zg (by rfl) B.zip (aG (a8 0) (aY (pq za (a8 0) (nE aE) Cj) aC))) (ke (n:=2) rfl (dq (bM (i:=3) dz.nd rfl (Or.inl rfl)) (dq (bM (i:=4) dz.nd rfl (Or.inl rfl)) ja)))
   (aI (aj (i:=5) dz.nd rfl (Or.inl rfl) (ae pE (ae fw (a9 bx (a8 3) aE (λ_ _=>rfl)) aE) aE))
    (aL (ce (QW.pt (oy (bX gx (a9 bx (a8 3) aE (λ_ _=>rfl)) (a9 bx (a8 4) aE (λ_ _=>rfl)) (bq _)) (nD (bX (Ag (qW hr)) (a8 5) (a8 2) (by with_unfolding_all rfl)))))
    (aI (ce (QW.pt (oy (i7 (tu (a8 2) (λ_=>rfl))) (nD (bX nG (a9 bx (a8 4) aE (λ_ _=>rfl)) (a9 bx (a8 3) aE (λ_ _=>rfl)) (bq _)))))
     (aL (aj (i:=1) dz.nd rfl (Or.inl rfl) cI))
     bh)
     (aL (cf (fJ am ay ax d9 (a8 2) (aG (a8 5) aC)))))
    bh))))
   (aL (bT (dE (aG (a8 1) (ci (d8 lB (by rfl) B.tuple dD (aG (a8 2) aC)) aC))))))))),?_⟩
  have two:(2:Nat)<=sizeLine:=by decide
  have l20:=O.len;have W1:=qi O nc (b:=b);obtain⟨w0,hw0⟩:=o8 (b:=b) (ns:=ns) ns.length;have Wl:0<(cn b ns).length:=by rw[show cn b ns=_ from hw0];simp
  obtain⟨as,a1,a2⟩:=bo;have la:=bB a2;rw[aA] at la;have sdl:∀k,V.str (sd k)=if k then V.str (Str.ofString "r") else V.str (Str.ofString "l"):=λk=>by cases k<;>rfl
  walk_at "wp";refine⟨a6 _,λp np=>?_⟩;have v1:=(ak.refl H).new (o:=.lst []) np;have hp1:upd H p (.lst []) p=some (.lst []):=aD;have a11:=v1 _ _ a1;have lp:l≠p:=au a1 np;generalize upd H p (.lst [])=H1 at v1 hp1 a11 ⊢;refine C0 (k:=1) a11 (by rw[aA];omega) λz H2 nz s12 hz=>?_;have a12:=s12 _ _ a11;have hp2:=s12 _ _ hp1;have s2:=v1.trans s12;have zp:z≠p:=(au hp1 nz).symm;refine⟨_,_,rfl,⟨_,bv.of a12⟩,⟨_,bv.of hz⟩,?_⟩;have t0:(cn b ns).take 1=[(1,cN b ns 0)]:=by rw[show cn b ns=_ from hw0];rfl
  refine Dy (xs:=as.map V.ref) (ys:=(as.map V.ref).drop 1) (by rw[jX];omega) (λt σ H'=>∃x3 x4 x5:Option V,σ=[some (.ref l),some (.str (sd (gb jd (false,[]) ((cn b ns).take (t+1))).1)),some (.ref p),x3,x4,x5]/\ak H H'/\H' z=some (.lst ((as.map V.ref).drop 1))/\H' p=some (.lst ((tG (gb jd (false,[]) ((cn b ns).take (t+1))).2).map V.int)))
   ⟨_,_,_,by rw[t0];rfl,s2,hz,by rw[t0];exact hp2⟩ (λt σ H' ⟨_,_,_,_,s3,h1,_⟩=>⟨bv.of (s3 _ _ a1),bv.of h1⟩) ?_ ?_
  ·rintro t v1 v2 σ H3 g h1 h2 ⟨x3,x4,x5,rfl,s3,hz3,hp3⟩ ng;rw[List.getElem?_drop] at h2;obtain⟨q1,hq1,rfl⟩:=iI h1;obtain⟨q2,hq2,rfl⟩:=iI h2;obtain⟨c1,hc1,t1⟩:=lR a2 hq1;obtain⟨c2,hc2,t2⟩:=lR a2 hq2;rw[aS] at hc1 hc2;obtain⟨x,hx,rfl⟩:=cC.mp hc1;obtain⟨y,hy,rfl⟩:=cC.mp hc2;rw[Nat.add_comm 1 t] at hy;have tk1:(cn b ns).take (t+1)=(cn b ns).take t++[x]:=by rw[bF,hx];rfl
   have tk2:(cn b ns).take (t+1+1)=(cn b ns).take t++[x,y]:=by rw[bF,hy,tk1];simp
   have st:gb jd (false,[]) ((cn b ns).take (t+1+1))=jd (gb jd (false,[]) ((cn b ns).take (t+1))) x y:=by rw[tk2,BB,<-tk1]
   have ml:=zn ((cn b ns).take (t+1)) (false,[]);rw[bp] at ml;have xin:=mn O nc (aR hx);have yin:=mn O nc (aR hy);rw[st];generalize gb jd (false,[]) ((cn b ns).take (t+1))=S at ml hp3 ⊢;have v4:=(ak.refl H3).new (o:=.tup [.ref q1,.ref q2]) ng;have hg4:upd H3 g (.tup [.ref q1,.ref q2]) g=some (.tup [.ref q1,.ref q2]):=aD;have s4:=s3.trans v4;have hz4:=v4 _ _ hz3;have hp4:=v4 _ _ hp3;generalize upd H3 g (.tup [.ref q1,.ref q2])=H4 at hg4 s4 hz4 hp4 ⊢;have t14:=t1.same s4;have t24:=t2.same s4;have x1:pO [V.int (gc x).1,V.int (gc x).2] 0=some (.int (x.1:Nat)):=rfl;have x2:pO [V.int (gc x).1,V.int (gc x).2] 1=some (.int (x.2:Nat)):=rfl;have y1:pO [V.int (gc y).1,V.int (gc y).2] 0=some (.int (y.1:Nat)):=rfl;have y2:pO [V.int (gc y).1,V.int (gc y).2] 1=some (.int (y.2:Nat)):=rfl;have rg:(((x.1:Nat):Int) - 1) / 2=(((x.1 - 1) / 2:Nat):Int):=by omega
   walk_at "wp";refine⟨_,dA.of hg4,rfl,?_⟩;walk_at "wp";refine⟨_,_,dA.of t14,x1,?_⟩;walk_at "wp";rw[rg];refine⟨by constructor<;>omega,_,_,dA.of t14,x1,_,_,dA.of t24,y1,?_⟩;walk_at "wp";have stay:¬(x.1=y.1/\(x.1 - 1) / 2∉S.2)->∃x3 x4 x5:Option V,[some (V.ref l),some (V.str (sd S.1)),some (V.ref p),some (V.ref q1),some (V.ref q2),some (V.int (((x.1 - 1) / 2:Nat):Int))]=[some (V.ref l),some (V.str (sd (jd S x y).1)),some (V.ref p),x3,x4,x5]/\ak H H4/\H4 z=some (.lst ((as.map V.ref).drop 1))/\H4 p=some (.lst ((tG (jd S x y).2).map V.int)):=λh=>by
    have e:jd S x y=S:=if_neg h;rw[e];exact⟨_,_,_,rfl,s4,hz4,hp4⟩
   refine hZ (λh1=>?_) (λh1=>stay λh=>h1 (by rw[h.1]));have h1':x.1=y.1:=by omega
   refine zw (.inl (bv.of hp4)) ?_;rw[if_pos rfl];walk_at "wp";refine hZ (λh2=>?_) (λh2=>stay λh=>h2 λhm=>h.2 (w5.mp hm));have h2':(x.1 - 1) / 2∉S.2:=λhm=>h2 (w5.mpr hm);have e:jd S x y=(if S.2=[]/\y.2<x.2 then true else S.1,S.2++[(x.1 - 1) / 2]):=if_pos ⟨h1',h2'⟩;rw[e];have put:∀k:Bool,k=(if S.2=[]/\y.2<x.2 then true else S.1)->Bs K "list" (V.ref p) H4/\∃xs,H4 p=some (.lst xs)/\xs.length<sizeLine/\∃x3 x4 x5:Option V,[some (V.ref l),some (V.str (sd k)),some (V.ref p),some (V.ref q1),some (V.ref q2),some (V.int (((x.1 - 1) / 2:Nat):Int))]=[some (V.ref l),some (V.str (sd (if S.2=[]/\y.2<x.2 then true else S.1))),some (V.ref p),x3,x4,x5]/\ak H (upd H4 p (.lst (xs++[V.int (((x.1 - 1) / 2:Nat):Int)])))/\upd H4 p (.lst (xs++[V.int (((x.1 - 1) / 2:Nat):Int)])) z=some (.lst ((as.map V.ref).drop 1))/\upd H4 p (.lst (xs++[V.int (((x.1 - 1) / 2:Nat):Int)])) p=some (.lst ((tG (S.2++[(x.1 - 1) / 2])).map V.int)):=λk hk=>by
    rw[<-hk];refine⟨gw hp4,_,hp4,?_,_,_,_,rfl,s4.new np,by rw[aP zp];exact hz4,by rw[aD];unfold tG;simp⟩;unfold tG;rw[aA,aA,sizeLine_eq];simp at ml;omega
   refine⟨S.2.isEmpty |> not,.inl ⟨_,bv.of hp4,by unfold tG;cases S.2<;>rfl⟩,?_⟩;by_cases h3:S.2=[]
   ·rw[if_pos (by rw[h3];rfl)];refine⟨_,_,dA.of t24,y2,_,_,dA.of t14,x2,?_⟩;walk_at "wp";refine hZ (λh4=>?_) (λh4=>?_)
    ·have h4':y.2<x.2:=by omega
     have:=put true (by rw[if_pos ⟨h3,h4'⟩]);exact this
    ·exact put _ (by rw[if_neg λh=>h4 (by omega)])
   ·rw[if_neg (by simpa using h3)];exact put _ (by rw[if_neg λh=>h3 h.1])
  ·rintro σ H3 ⟨x3,x4,x5,rfl,s3,hz3,hp3⟩;have tl:(cn b ns).take (((as.map V.ref).drop 1).length+1)=cn b ns:=cW (by rw[jX,aA];omega);rw[tl,zm O nc (aH _)] at hp3 ⊢;walk_at "wp";have e1:(tG (tH b ns ns.length).2).map V.int=ns.map V.int:=by
    rw[<-Eo O];unfold tG;rw[bc];rfl
   rw[e1] at hp3;refine⟨_,.inl ⟨bv.of hp3,λo no=>⟨two,λm nm=>?_⟩⟩⟩;have v5:=(ak.refl H3).new (o:=.tup (ns.map V.int)) no;have v6:=(ak.refl (upd H3 o (.tup (ns.map V.int)))).new (o:=.tup [.str (sd (tH b ns ns.length).1),.ref o]) nm;exact q m o _ ((s3.trans v5).free nm) (s3.trans (v5.trans v6)) ⟨aD,v6 _ _ aD⟩
theorem qE (E:Fn K mg "is_drawing_of" fU ["text","maze"]) (D_is_maze:eO P w K mg base 3 "is_maze" jN ["thing"] rJ) (D_crossed:eO P w K mg base 4 "crossed" jQ ["maze"] pU) (D_drawn:eO P w K mg base 6 "drawn" mB ["maze"] rK):eO P w K mg base 7 "is_drawing_of" fU ["text","maze"] CY:=E.mk' λf fd F=>by
 refine F.okS pW (λvs H Q E h=>?_) (λcdv A outer s H vs Q E hr h=>?_)
 ·obtain⟨m,o,b,ns,rfl,_⟩:=h;rfl
 ·obtain⟨m,o,b,ns,rfl,hm,O,nc,q⟩:=h;refine⟨[some (.str (tx (gg ns.length (bE b ns false) (bE b ns true)))),some (.ref m)],_,rfl,(L2.jE.h (aL (bT (kf (ac D_is_maze (hr.mono (by decide)) (by rfl) (aG (a8 1) aC)) (kf (eQ Iz (ac D_crossed (hr.mono (by decide)) (by rfl) (aG (a8 1) aC)) pA (bq _)) (mD (eQ gx (ac D_drawn (hr.mono (by decide)) (by rfl) (aG (a8 1) aC)) (a8 0) (bq _)))))))),?_⟩;have nc':=zl nc;walk_at "wp";refine⟨_,_,rfl,hm.dat,D7,λH1 s1=>⟨true,by rw[D8 O],?_⟩⟩;rw[if_pos rfl];refine⟨m,o,_,ns,rfl,hm.same s1,O,λ_ H2 s2=>⟨trivial,?_⟩,λu p hp q' hq z=>by rw[nc' u p hp q' hq] at z;cases z⟩;rw[if_pos rfl];refine⟨m,o,_,ns,rfl,(hm.same s1).same s2,O,nc',λL R H3 hL hR s3=>?_⟩;rw[vY O hL hR];refine(L2.Gb (Q:=Q)).mpr ?_;rw[decide_eq_true rfl];exact q _ (s1.trans (s2.trans s3))
theorem JB (B:oJ mg) (E:Fn K mg "way" t6 ["text"]) (D_open_cells:eO P w K mg base 1 "open_cells" gk ["text"] z8) (D_trail_from_mouth:eO P w K mg base 2 "trail_from_mouth" eC ["cells"] zU) (D_maze_of_trail:eO P w K mg base 1 "maze_of_trail" eT ["trail"] CV) (D_is_drawing_of:eO P w K mg base 7 "is_drawing_of" fU ["text","maze"] CY):eO P w K mg base 8 "way" t6 ["text"] CN:=E.mk' λf fd F=>by
 refine F.okS C4 (λvs H Q E h=>?_) (λcdv A outer s H vs Q E hr h=>?_)
 ·obtain⟨b,ns,rfl,_⟩:=h;rfl
 ·obtain⟨b,ns,rfl,O,nc,q⟩:=h;refine⟨[some (.str (tx (gg ns.length (bE b ns false) (bE b ns true)))),none],_,rfl,(L2.jE.h (aI (ce (i7 (iH (bG iC (by rfl) B.isinstance b9 (aG (a8 0) (aG (iB (v:=.ty "str") (by rfl) B.str md rfl) aC)))))
   (aL ny)
   bh)
   (aI (aj (i:=1) C4.nd rfl (Or.inl rfl) (ac D_trail_from_mouth (hr.mono (by decide)) (by rfl) (ci (ac D_open_cells (hr.mono (by decide)) (by rfl) (aG (a8 0) aC)) aC)))
   (aI (ce (i7 (iH (ac D_is_drawing_of (hr.mono (by decide)) (by rfl) (aG (a8 0) (ci (ac D_maze_of_trail (hr.mono (by decide)) (by rfl) (aG (a8 1) aC)) aC)))))
   (aL ny)
   bh)
   (aL (bT (a8 1))))))),?_⟩
  walk_at "wp";refine zu (.str _) ⟨true,rfl,?_⟩;rw[if_neg (by decide)];refine⟨b,ns,rfl,O,nc,λd kvs cs H1 nd s1 hd C=>?_⟩;refine⟨d,b,ns,kvs,cs,rfl,hd,C,O,nc,λl H2 nl s2 bo=>?_⟩;refine⟨l,b,ns,rfl,bo,O,nc,λm o H3 nm s3 hm=>?_⟩;refine⟨m,o,b,ns,rfl,hm,O,nc,λH4 s4=>⟨true,rfl,?_⟩⟩;rw[if_neg (by decide)];exact q l H4 (s1.free nl) (s1.trans (s2.trans (s3.trans s4))) (bo.same (s3.trans s4))
theorem F7 (E:Fn K mg "read" pZ ["text"]) (D_maze_of_trail:eO P w K mg base 1 "maze_of_trail" eT ["trail"] CV) (D_way:eO P w K mg base 8 "way" t6 ["text"] CN):eO P w K mg base 9 "read" pZ ["text"] zV:=E.mk' λf fd F=>by
 refine F.okS Ef (λvs H Q E h=>?_) (λcdv A outer s H vs Q E hr h=>?_)
 ·obtain⟨b,ns,rfl,_⟩:=h;rfl
 ·obtain⟨b,ns,rfl,O,nc,q⟩:=h;refine⟨[some (.str (tx (gg ns.length (bE b ns false) (bE b ns true))))],_,rfl,(L2.jE.h (aL (bT (ac D_maze_of_trail (hr.mono (by decide)) (by rfl) (ci (ac D_way (hr.mono (by decide)) (by rfl) (aG (a8 0) aC)) aC))))),?_⟩;walk_at "wp";refine⟨b,ns,rfl,O,nc,λl H1 nl s1 bo=>?_⟩;exact⟨l,b,ns,rfl,bo,O,nc,λm o H2 nm s2 hm=>q m o H2 (s1.free nm) (s1.trans s2) hm⟩
theorem DW (B:oJ mg) (E:Fn K mg "_law_whole" nj ["_law_found"]):eO P w K mg base 1 "_law_whole" nj ["_law_found"] (oh K):=E.mk' λf fd F=>by
 refine F.okS C3 (λvs H Q E h=>?_) (λcdv A outer s H vs Q E hr h=>?_)
 ·obtain⟨x,t,b,c,rfl,_⟩:=h;rfl
 ·obtain⟨x,t,b,c,rfl,ty,e1,e2,q⟩:=h;refine⟨[some x],_,rfl,(L2.jE.h (aL (bT (kf (bG iC (by rfl) B.isinstance b9 (aG (a8 0) (aG (iB (v:=.ty "int") (by rfl) B.int dS rfl) aC))) (mD (zh (bG iC (by rfl) B.isinstance b9 (aG (a8 0) (aG (iB (v:=.ty "bool") (by rfl) B.bool mK rfl) aC))))))))),?_⟩;walk_at "wp";refine⟨_,_,_,b,rfl,ty,e1,?_⟩;walk_at "wp";cases b with
  | false=>exact JU q
  | true=>exact JT ⟨_,_,_,c,rfl,ty,e2,_,rfl,q⟩
theorem JF (B:oJ mg) (E:Fn K mg "law" ou ["_law_script"]) (D_cell_at:eO P w K mg base 1 "_law_cell_at" kG ["_law_script","_law_k"] (CZ K)) (D_digits:eO P w K mg base 2 "_law_digits" lK ["_law_cell","_law_base"] vg) (D_drawable:eO P w K mg base 5 "_law_drawable" jO ["_law_side","_law_digits_here"] rL) (D_drawn:eO P w K mg base 6 "drawn" mB ["maze"] rK) (D_drawing:eO P w K mg base 2 "_law_drawing" kF ["_law_maze"] tW) (D_read:eO P w K mg base 9 "read" pZ ["text"] zV) (D_whole:eO P w K mg base 1 "_law_whole" nj ["_law_found"] (oh K)):eO P w K mg base 10 "law" ou ["_law_script"] (ve K):=E.mk' λf fd F=>by
 refine F.okS nC (λvs H Q E h=>?_) (λcdv A outer s H vs Q E hr h=>?_)
 ·obtain⟨a,ns,rfl,_⟩:=h;rfl
 ·obtain⟨a,cs,rfl,hS,hlen,kQ⟩:=h;refine⟨[some (.ref a),none,none,none,none,none,none],_,rfl,(L2.jE.h (c6 (aj (i:=1) nC.nd rfl (Or.inl rfl) (ac D_drawable (hr.mono (by decide)) (by rfl) (aY (a9 Dp cI (ae kP (ac D_cell_at (hr.mono (by decide)) (by rfl) (aG (a8 0) (cB aE aC))) aE) (λ_ _=>rfl)) (ci (ac D_digits (hr.mono (by decide)) (by rfl) (ci (ac D_cell_at (hr.mono (by decide)) (by rfl) (aG (a8 0) (cB aE aC))) (cB aE aC))) aC))))
   (aI (aj (i:=2) nC.nd rfl (Or.inl rfl) (a8 1))
   (c6 (ce (bX gx (bG bS (by rfl) B.len bH (aY (a9 bx (a8 1) aE (λ_ _=>rfl)) aC)) aE (bq _))
   (aL (aj (i:=2) nC.nd rfl (Or.inl rfl) (dE (cB cI (eE (dE aC) aC)))))
   bh)
   (aI (aj (i:=3) nC.nd rfl (Or.inl rfl) (ac D_drawing (hr.mono (by decide)) (by rfl) (aG (a8 1) aC)))
   (aI (c8 aZ rfl (eZ (cv (aG (a8 3) (ci (ac D_drawn (hr.mono (by decide)) (by rfl) (aG (a8 1) aC)) aC)))) (bM (i:=4) nC.nd rfl (Or.inl rfl))
   (aI (aj (i:=5) nC.nd rfl (Or.inl rfl) (ac D_read (hr.mono (by decide)) (by rfl) (aG (a8 4) aC)))
    (aI (ce (QW.pt (ph (i7 (iH (bG iC (by rfl) B.isinstance b9 (aG (a8 5) (aG (iB (v:=.ty "tuple") (by rfl) B.tuple dD rfl) aC))))) (ph (bX uG (bG bS (by rfl) B.len bH (aG (a8 5) aC)) aE (bq _)) (ox (i7 (iH (bG iC (by rfl) B.isinstance b9 (aY (a9 bx (a8 5) aE (λ_ _=>rfl)) (aG (iB (v:=.ty "str") (by rfl) B.str md rfl) aC)))))))))
    (aL (bT kx))
    bh)
    (aI (ce (QW.pt (ph (i7 (iH (bG iC (by rfl) B.isinstance b9 (aY (a9 bx (a8 5) aE (λ_ _=>rfl)) (aG (iB (v:=.ty "tuple") (by rfl) B.tuple dD rfl) aC))))) (ox (bX (DU (qW hr)) (a8 5) (a8 2) (bq _)))))
    (aL (bT kx))
    bh)
    (aI (c8 aZ rfl (qu (a9 bx (a8 5) aE (λ_ _=>rfl))) (bM (i:=6) nC.nd rfl (Or.inl rfl))
    (aL (ce (i7 (iH (ac D_whole (hr.mono (by decide)) (by rfl) (aG (a8 6) aC))))
     (aL (bT kx))
     bh)))
    (aL (ce (bX uG (ac D_drawn (hr.mono (by decide)) (by rfl) (aG (a8 5) aC)) (a8 3) (bq _))
    (aL (bT kx))
    bh)))))))
   (aL (bT kx)))))))),?_⟩
  refine bP (λσ H'=>∃m o b ns,σ=[some (.ref a),some (.ref m),none,none,none,none,none]/\eV H' m o b ns/\fE ns/\NC b ns) ?_ ?_
  ·walk_at "wp";refine⟨a,cs,1,rfl,hS,?_⟩;walk_at "wp";refine⟨by decide,by decide,_,LG (Int.emod_nonneg _ (by decide)) (Int.emod_lt_of_pos _ (by decide)),?_⟩;rw[LF];generalize decide (cs.getD 1 0 % 2=1)=b;refine⟨a,cs,0,rfl,hS,?_⟩;walk_at "wp";refine⟨_,4,rfl,by decide,by decide,λdl ds H3 nd s3 hd hdl=>?_⟩;exact⟨b,dl,ds,rfl,hd,by omega,λm o ns H4 nm no s4 hm O nc=>⟨m,o,b,ns,rfl,hm,O,nc⟩⟩
  rintro σ H4 ⟨m,o,b,ns,rfl,hm,O,nc⟩;have two:(2:Nat)<=sizeLine:=by decide
  walk_at "wp";refine bP (λσ H'=>∃du od,σ=[some (.ref a),some (.ref m),some (.ref du),none,none,none,none]/\ak H4 H'/\eV H' du od (b&&decide (0<ns.length)) ns) ?_ ?_
  ·walk_at "wp";refine⟨_,_,dA.of hm.1,rfl,o,_,rfl,.inr (dA.of hm.2),?_⟩;rw[aA];refine hZ (λz=>?_) (λz=>?_)
   ·have z':ns=[]:=gE (by omega);refine⟨a6 _,λp np=>⟨two,λp1 np1=>⟨p1,p,rfl,((ak.refl _).new np).trans ((ak.refl _).new np1),?_⟩⟩⟩;have v2:=(ak.refl (upd H4 p (.tup []))).new (o:=.tup [.str (Str.ofString "l"),.ref p]) np1;rw[z'];exact⟨by rw[aD];simp[sd],v2 _ _ aD⟩
   ·have z':decide (0<ns.length)=true:=decide_eq_true (by omega);rw[z',lG];exact⟨m,o,rfl,ak.refl _,hm⟩
  rintro σ H5 ⟨du,od,rfl,s5,hdu⟩;have hm5:=hm.same s5;walk_at "wp";refine⟨m,o,b,ns,rfl,hm5,O,λH6 s6=>?_⟩;refine⟨m,o,b,ns,rfl,hm5.same s6,O,nc,λL R H7 hL hR s7=>?_⟩;rw[vX O hL hR];refine⟨two,λp np=>?_⟩;have s8:=s6.trans (s7.trans ((ak.refl H7).new (o:=.lst [.str (tx (gg ns.length (bE b ns false) (bE b ns true))),.str (tx (gg ns.length (bE b ns false) (bE b ns true)))]) np));have hp8:upd H7 p (.lst [.str (tx (gg ns.length (bE b ns false) (bE b ns true))),.str (tx (gg ns.length (bE b ns false) (bE b ns true)))]) p=some (.lst [.str (tx (gg ns.length (bE b ns false) (bE b ns true))),.str (tx (gg ns.length (bE b ns false) (bE b ns true)))]):=aD;generalize upd H7 p (.lst [.str (tx (gg ns.length (bE b ns false) (bE b ns true))),.str (tx (gg ns.length (bE b ns false) (bE b ns true)))])=H8 at s8 hp8 ⊢;have hdu8:=hdu.same s8;clear s6 s7 hm5 hdu np;refine⟨⟨_,bv.of hp8⟩,?_⟩;refine g6 (xs:=[.str (tx (gg ns.length (bE b ns false) (bE b ns true))),.str (tx (gg ns.length (bE b ns false) (bE b ns true)))]) (λi σ H'=>∃x4 x5 x6:Option V,σ=[some (.ref a),some (.ref m),some (.ref du),some (.str (tx (gg ns.length (bE b ns false) (bE b ns true)))),x4,x5,x6]/\ak H8 H') ⟨_,_,_,rfl,ak.refl _⟩ (λi σ H' _ ⟨_,_,_,_,h⟩=>bv.of (h _ _ hp8)) ?_ ?_
  ·rintro i v σ H9 hv ⟨x4,x5,x6,rfl,s9⟩;have ev:v=.str (tx (gg ns.length (bE b ns false) (bE b ns true))):=by
    match i,hv with
    | 0,hv=>cases hv;rfl
    | 1,hv=>cases hv;rfl
   subst ev;walk_at "wp";refine⟨b,ns,rfl,O,nc,λfo of HA nfo sA hf=>?_⟩;have hduA:=(hdu8.same s9).same sA;refine kH hf.dat ⟨true,rfl,?_⟩;walk_at "wp";rw[if_neg (by decide)];refine⟨_,.inr (dA.of hf.1),?_⟩;rw[if_neg (by simp)];refine⟨_,_,dA.of hf.1,rfl,zu (.str _) ⟨true,rfl,?_⟩⟩;rw[if_neg (by decide)];refine⟨_,_,dA.of hf.1,rfl,kH (.tup hf.2 (sQ ns)) ⟨true,rfl,?_⟩⟩;rw[if_neg (by decide)];refine JH hf hduA ⟨false,rfl,?_⟩;rw[if_neg (by decide)];refine⟨_,_,dA.of hf.1,rfl,of,rfl,⟨_,dA.of hf.2⟩,?_⟩;refine vH (xs:=ns.map V.int) (λi σ H'=>∃x6:Option V,σ=[some (.ref a),some (.ref m),some (.ref du),some (.str (tx (gg ns.length (bE b ns false) (bE b ns true)))),some (.str (tx (gg ns.length (bE b ns false) (bE b ns true)))),some (.ref fo),x6]/\H'=HA) ⟨_,rfl,rfl⟩ (λi σ H' _ ⟨_,_,e⟩=>by rw[e];exact dA.of hf.2) ?_ ?_
   ·rintro i v σ H' hv ⟨x6,rfl,rfl⟩;obtain⟨r,hr',rfl⟩:=iI hv;walk_at "wp";refine vO (.int _) ?_;walk_at "wp";exact pH (λz=>nomatch z) ⟨_,by first | rfl | trivial,by first | rfl | trivial⟩
   ·rintro σ H' ⟨x6,rfl,rfl⟩;walk_at "wp";refine⟨fo,of,_,ns,rfl,hf,O,zl nc,λL R HB hL hR sB=>?_⟩;rw[vY O hL hR];walk_at "wp";exact pH (λz=>z (by first | rfl | trivial)) ⟨_,_,_,by first | rfl | trivial,s9.trans (sA.trans sB)⟩
  ·rintro σ H9 ⟨x4,x5,x6,rfl,s9⟩;walk_at "wp";exact kQ _
end
def fI(K:PySem.W.Frag)(x:Str)(st:Stmt):Prop:=∃(f:Addr) (oc:Value) (od an:Option Addr) (osl:Array (Option Value)) (kV doc pm cdv ct:Value),PySem.W.nsIn K mainGlobals x=some (some (.ref f))/\K.lookup f=some ⟨oc,od,.func (PySem.W.fnOf x x (kg st) (j4 st) (bC st) .none kV doc pm an cdv ct),osl⟩/\PySem.W.codeIn K cdv x=true/\PySem.W.keepIn K (.ref f)=true
theorem fnIn{K:PySem.W.Frag}{x:Str}{st:Stmt}{f:Addr}{oc:Value}{od an:Option Addr}{osl:Array (Option Value)}{kV doc pm cdv ct:Value}(a:PySem.W.nsIn K mainGlobals x=some (some (.ref f)))(l:K.lookup f=some ⟨oc,od,.func (PySem.W.fnOf x x (kg st) (j4 st) (bC st) .none kV doc pm an cdv ct),osl⟩)(c:PySem.W.codeIn K cdv x=true)(k:PySem.W.keepIn K (.ref f)=true):fI K x st:=⟨_,_,_,_,_,_,_,_,_,_,a,l,c,k⟩
theorem dM{K:PySem.W.Frag}{h:Heap}{mg:Str->Option Value}(X:K.In h)(G:h.Ns mainGlobals mg){x:Str}{st:Stmt}{ps:List Str}(a:fI K x st)
  (hb:∀(kV doc pm:Value) (an:Option Addr) (cdv ct:Value) (us:List Value),us.length=ps.length->bindArgs (PySem.W.fnOf x x (kg st) (j4 st) (bC st) .none kV doc pm an cdv ct) ⟨us,[]⟩=pure (ps.zip us)):Fn K mg x st ps:=
 let ⟨f,_,_,_,_,_,_,_,_,_,a,l,c,k⟩:=a
 have F:=J2 (st:=st) l c k
 ⟨f,_,F,eK X G a,F.binds hb⟩
theorem all_mk {l:PySem.W.OpenLaw} {w:World} {K:PySem.W.Frag} {h:Heap} {mg:Str->Option Value} {fa:Addr} (X:K.In h) (G:h.Ns mainGlobals mg) (hfa:mg "law"=some (.ref fa))
  (a_crossing:fI K "crossing" jP)
  (a_span:fI K "span" pY)
  (a_lies_within:fI K "lies_within" gM)
  (a_heights:fI K "heights" iR)
  (a_is_whole:fI K "is_whole" jL)
  (a_is_side:fI K "is_side" kD)
  (a_is_order:fI K "is_order" jM)
  (a_is_maze:fI K "is_maze" jN)
  (a_other_side:fI K "other_side" gj)
  (a_side_of_step:fI K "side_of_step" fm)
  (a_rows_of_way:fI K "rows_of_way" gL)
  (a_bows_of:fI K "bows_of" jR)
  (a_crossed:fI K "crossed" jQ)
  (a_vet:fI K "vet" t7)
  (a_line_of:fI K "line_of" iQ)
  (a_greatest_height:fI K "greatest_height" eS)
  (a_by_row:fI K "by_row" kO)
  (a_left_columns:fI K "left_columns" fq)
  (a_right_columns:fI K "right_columns" fT)
  (a_carve_bows:fI K "carve_bows" gm)
  (a_carve_rings:fI K "carve_rings" gN)
  (a_mark:fI K "mark" p8)
  (a_drawn:fI K "drawn" mB)
  (a_cell_at:fI K "_law_cell_at" kG)
  (a_mix:fI K "_law_mix" t8)
  (a_digits:fI K "_law_digits" lK)
  (a_can:fI K "_law_can" t9)
  (a_put:fI K "_law_put" rR)
  (a_ended:fI K "_law_ended" nu)
  (a_need:fI K "_law_need" p7)
  (a_fitting:fI K "_law_fitting" kE)
  (a_grown:fI K "_law_grown" nq)
  (a_order_of:fI K "_law_order_of" jK)
  (a_drawable:fI K "_law_drawable" jO)
  (a_bows:fI K "_law_bows" pc)
  (a_tall:fI K "_law_tall" pX)
  (a_drawing:fI K "_law_drawing" kF)
  (a_open_cells:fI K "open_cells" gk)
  (a_neighbours:fI K "neighbours" gl)
  (a_trail_from_mouth:fI K "trail_from_mouth" eC)
  (a_maze_of_trail:fI K "maze_of_trail" eT)
  (a_is_drawing_of:fI K "is_drawing_of" fU)
  (a_way:fI K "way" t6)
  (a_read:fI K "read" pZ)
  (a_whole:fI K "_law_whole" nj)
  (a_law:fI K "law" ou)
  {t_MOST_RINGS:Tok} (y_MOST_RINGS:PySem.W.nsIn K mainGlobals "MOST_RINGS"=some (some (.int 20 t_MOST_RINGS)))
  {t_WALL:Tok} (y_WALL:PySem.W.nsIn K mainGlobals "WALL"=some (some (.str (Str.ofString "#") t_WALL)))
  {t_OPEN_CELL:Tok} (y_OPEN_CELL:PySem.W.nsIn K mainGlobals "OPEN_CELL"=some (some (.str (Str.ofString ".") t_OPEN_CELL)))
  {t_MOUTH:Tok} (y_MOUTH:PySem.W.nsIn K mainGlobals "MOUTH"=some (some (.str (Str.ofString "v") t_MOUTH)))
  {t_MIDDLE:Tok} (y_MIDDLE:PySem.W.nsIn K mainGlobals "MIDDLE"=some (some (.str (Str.ofString "@") t_MIDDLE)))
  {q_SIDES:Addr} {o_SIDES:Obj} (y_SIDES:PySem.W.nsIn K mainGlobals "SIDES"=some (some (.ref q_SIDES))) (l_SIDES:K.lookup q_SIDES=some o_SIDES) (t_SIDES:L2.yu o_SIDES ["l","r"])
  (z_len:PySem.W.nsIn K mainGlobals "len"=some none) (z_range:PySem.W.nsIn K mainGlobals "range"=some none) (z_enumerate:PySem.W.nsIn K mainGlobals "enumerate"=some none) (z_int:PySem.W.nsIn K mainGlobals "int"=some none) (z_list:PySem.W.nsIn K mainGlobals "list"=some none) (z_tuple:PySem.W.nsIn K mainGlobals "tuple"=some none) (z_isinstance:PySem.W.nsIn K mainGlobals "isinstance"=some none) (z_str:PySem.W.nsIn K mainGlobals "str"=some none) (z_bool:PySem.W.nsIn K mainGlobals "bool"=some none) (z_sorted:PySem.W.nsIn K mainGlobals "sorted"=some none) (z_all:PySem.W.nsIn K mainGlobals "all"=some none) (z_any:PySem.W.nsIn K mainGlobals "any"=some none) (z_zip:PySem.W.nsIn K mainGlobals "zip"=some none) (z_max:PySem.W.nsIn K mainGlobals "max"=some none) (z_min:PySem.W.nsIn K mainGlobals "min"=some none) (z_reversed:PySem.W.nsIn K mainGlobals "reversed"=some none) (z_ValueError:PySem.W.nsIn K mainGlobals "ValueError"=some none) :
  ∃fd:FuncData,(∀(s:Shared) (v:Value),BindsTo s fd ⟨[v],[]⟩ [("_law_script",v)])/\∀base:Heap,K.In base->base.Ns mainGlobals mg->qO l.prog w K mg base BV 10 fa fd ["_law_script"] (ve K):=by
 have B:oJ mg:=⟨bV X G z_len,bV X G z_range,bV X G z_enumerate,bV X G z_int,bV X G z_list,bV X G z_tuple,bV X G z_isinstance,bV X G z_str,bV X G z_bool,bV X G z_sorted,bV X G z_all,bV X G z_any,bV X G z_zip,bV X G z_max,bV X G z_min,bV X G z_reversed,bV X G z_ValueError,⟨_,eK X G y_MOST_RINGS⟩,⟨_,eK X G y_WALL⟩,⟨_,eK X G y_OPEN_CELL⟩,⟨_,eK X G y_MOUTH⟩,⟨_,eK X G y_MIDDLE⟩⟩
 have G_SIDES:=L2.Dv X G y_SIDES l_SIDES t_SIDES;have E_crossing:Fn K mg "crossing" jP ["bows"]:=dM X G a_crossing λ_ _ _ _ _ _=>L2.pR λ_=>rfl;have E_span:Fn K mg "span" pY ["bow"]:=dM X G a_span λ_ _ _ _ _ _=>L2.pR λ_=>rfl;have E_lies_within:Fn K mg "lies_within" gM ["inner","outer"]:=dM X G a_lies_within λ_ _ _ _ _ _=>L2.xM λ_ _=>rfl;have E_heights:Fn K mg "heights" iR ["bows"]:=dM X G a_heights λ_ _ _ _ _ _=>L2.pR λ_=>rfl;have E_is_whole:Fn K mg "is_whole" jL ["thing"]:=dM X G a_is_whole λ_ _ _ _ _ _=>L2.pR λ_=>rfl;have E_is_side:Fn K mg "is_side" kD ["thing"]:=dM X G a_is_side λ_ _ _ _ _ _=>L2.pR λ_=>rfl;have E_is_order:Fn K mg "is_order" jM ["thing"]:=dM X G a_is_order λ_ _ _ _ _ _=>L2.pR λ_=>rfl;have E_is_maze:Fn K mg "is_maze" jN ["thing"]:=dM X G a_is_maze λ_ _ _ _ _ _=>L2.pR λ_=>rfl;have E_other_side:Fn K mg "other_side" gj ["side"]:=dM X G a_other_side λ_ _ _ _ _ _=>L2.pR λ_=>rfl;have E_side_of_step:Fn K mg "side_of_step" fm ["maze","step"]:=dM X G a_side_of_step λ_ _ _ _ _ _=>L2.xM λ_ _=>rfl;have E_rows_of_way:Fn K mg "rows_of_way" gL ["maze"]:=dM X G a_rows_of_way λ_ _ _ _ _ _=>L2.pR λ_=>rfl;have E_bows_of:Fn K mg "bows_of" jR ["maze"]:=dM X G a_bows_of λ_ _ _ _ _ _=>L2.pR λ_=>rfl;have E_crossed:Fn K mg "crossed" jQ ["maze"]:=dM X G a_crossed λ_ _ _ _ _ _=>L2.pR λ_=>rfl;have E_vet:Fn K mg "vet" t7 ["maze"]:=dM X G a_vet λ_ _ _ _ _ _=>L2.pR λ_=>rfl;have E_line_of:Fn K mg "line_of" iQ ["row"]:=dM X G a_line_of λ_ _ _ _ _ _=>L2.pR λ_=>rfl;have E_greatest_height:Fn K mg "greatest_height" eS ["bows"]:=dM X G a_greatest_height λ_ _ _ _ _ _=>L2.pR λ_=>rfl;have E_by_row:Fn K mg "by_row" kO ["bows","columns"]:=dM X G a_by_row λ_ _ _ _ _ _=>L2.xM λ_ _=>rfl;have E_left_columns:Fn K mg "left_columns" fq ["bows","most_left"]:=dM X G a_left_columns λ_ _ _ _ _ _=>L2.xM λ_ _=>rfl;have E_right_columns:Fn K mg "right_columns" fT ["bows","most_left"]:=dM X G a_right_columns λ_ _ _ _ _ _=>L2.xM λ_ _=>rfl;have E_carve_bows:Fn K mg "carve_bows" gm ["grid","bows","columns"]:=dM X G a_carve_bows λ_ _ _ _ _ _=>L2.LZ λ_ _ _=>rfl;have E_carve_rings:Fn K mg "carve_rings" gN ["grid","rings","lefts","rights"]:=dM X G a_carve_rings λ_ _ _ _ _ _=>L2.MS λ_ _ _ _=>rfl;have E_mark:Fn K mg "mark" p8 ["line","sign"]:=dM X G a_mark λ_ _ _ _ _ _=>L2.xM λ_ _=>rfl;have E_drawn:Fn K mg "drawn" mB ["maze"]:=dM X G a_drawn λ_ _ _ _ _ _=>L2.pR λ_=>rfl;have E_cell_at:Fn K mg "_law_cell_at" kG ["_law_script","_law_k"]:=dM X G a_cell_at λ_ _ _ _ _ _=>L2.xM λ_ _=>rfl;have E_mix:Fn K mg "_law_mix" t8 ["_law_seed","_law_k"]:=dM X G a_mix λ_ _ _ _ _ _=>L2.xM λ_ _=>rfl;have E_digits:Fn K mg "_law_digits" lK ["_law_cell","_law_base"]:=dM X G a_digits λ_ _ _ _ _ _=>L2.xM λ_ _=>rfl;have E_can:Fn K mg "_law_can" t9 ["_law_open_ends","_law_letter"]:=dM X G a_can λ_ _ _ _ _ _=>L2.xM λ_ _=>rfl;have E_put:Fn K mg "_law_put" rR ["_law_open_ends","_law_found","_law_letter","_law_row"]:=dM X G a_put λ_ _ _ _ _ _=>L2.MS λ_ _ _ _=>rfl;have E_ended:Fn K mg "_law_ended" nu ["_law_open_ends","_law_found","_law_row"]:=dM X G a_ended λ_ _ _ _ _ _=>L2.LZ λ_ _ _=>rfl;have E_need:Fn K mg "_law_need" p7 ["_law_many"]:=dM X G a_need λ_ _ _ _ _ _=>L2.pR λ_=>rfl;have E_fitting:Fn K mg "_law_fitting" kE ["_law_open_ends","_law_row","_law_digit"]:=dM X G a_fitting λ_ _ _ _ _ _=>L2.LZ λ_ _ _=>rfl;have E_grown:Fn K mg "_law_grown" nq ["_law_side","_law_digits_here"]:=dM X G a_grown λ_ _ _ _ _ _=>L2.xM λ_ _=>rfl;have E_order_of:Fn K mg "_law_order_of" jK ["_law_side","_law_found"]:=dM X G a_order_of λ_ _ _ _ _ _=>L2.xM λ_ _=>rfl;have E_drawable:Fn K mg "_law_drawable" jO ["_law_side","_law_digits_here"]:=dM X G a_drawable λ_ _ _ _ _ _=>L2.xM λ_ _=>rfl;have E_bows:Fn K mg "_law_bows" pc ["_law_maze"]:=dM X G a_bows λ_ _ _ _ _ _=>L2.pR λ_=>rfl;have E_tall:Fn K mg "_law_tall" pX ["_law_bows_here"]:=dM X G a_tall λ_ _ _ _ _ _=>L2.pR λ_=>rfl;have E_drawing:Fn K mg "_law_drawing" kF ["_law_maze"]:=dM X G a_drawing λ_ _ _ _ _ _=>L2.pR λ_=>rfl;have E_open_cells:Fn K mg "open_cells" gk ["text"]:=dM X G a_open_cells λ_ _ _ _ _ _=>L2.pR λ_=>rfl;have E_neighbours:Fn K mg "neighbours" gl ["cell"]:=dM X G a_neighbours λ_ _ _ _ _ _=>L2.pR λ_=>rfl;have E_trail_from_mouth:Fn K mg "trail_from_mouth" eC ["cells"]:=dM X G a_trail_from_mouth λ_ _ _ _ _ _=>L2.pR λ_=>rfl;have E_maze_of_trail:Fn K mg "maze_of_trail" eT ["trail"]:=dM X G a_maze_of_trail λ_ _ _ _ _ _=>L2.pR λ_=>rfl;have E_is_drawing_of:Fn K mg "is_drawing_of" fU ["text","maze"]:=dM X G a_is_drawing_of λ_ _ _ _ _ _=>L2.xM λ_ _=>rfl;have E_way:Fn K mg "way" t6 ["text"]:=dM X G a_way λ_ _ _ _ _ _=>L2.pR λ_=>rfl;have E_read:Fn K mg "read" pZ ["text"]:=dM X G a_read λ_ _ _ _ _ _=>L2.pR λ_=>rfl;have E_whole:Fn K mg "_law_whole" nj ["_law_found"]:=dM X G a_whole λ_ _ _ _ _ _=>L2.pR λ_=>rfl;have E_law:Fn K mg "law" ou ["_law_script"]:=dM X G a_law λ_ _ _ _ _ _=>L2.pR λ_=>rfl;have key:∀base:Heap,K.In base->base.Ns mainGlobals mg->eO l.prog w K mg base 10 "law" ou ["_law_script"] (ve K):=λbase KB GB=>by
  have D_crossing:=wW (P:=l.prog) (w:=w) (base:=base) E_crossing;have D_is_whole:=wR (P:=l.prog) (w:=w) (base:=base) B E_is_whole;have D_is_side:=xy (P:=l.prog) (w:=w) (base:=base) G_SIDES E_is_side;have D_is_order:=wU B E_is_order D_is_whole;have D_is_maze:=yB B E_is_maze D_is_side D_is_order;have D_other_side:=sy (P:=l.prog) (w:=w) (base:=base) E_other_side;have D_side_of_step:=qb E_side_of_step D_other_side;have D_rows_of_way:=rh (P:=l.prog) (w:=w) (base:=base) B E_rows_of_way;have D_bows_of:=yN B E_bows_of D_side_of_step D_rows_of_way;have D_crossed:=yL B G_SIDES E_crossed D_bows_of D_crossing;have D_vet:=JC E_vet D_is_maze D_crossed;have D_span:=F6 (P:=l.prog) (w:=w) (base:=base) E_span;have D_lies_within:=rj (P:=l.prog) (w:=w) (base:=base) E_lies_within;have D_heights:=yD B E_heights D_span D_lies_within;have D_line_of:=xx (P:=l.prog) (w:=w) (base:=base) E_line_of;have D_greatest_height:=oS B E_greatest_height D_heights;have D_by_row:=Ai (P:=l.prog) (w:=w) (base:=base) B E_by_row;have D_left_columns:=qe B E_left_columns D_heights D_by_row;have D_right_columns:=qC B E_right_columns D_heights D_by_row;have D_carve_bows:=tF B E_carve_bows D_line_of;have D_carve_rings:=rq B E_carve_rings D_line_of;have D_mark:=Fb (P:=l.prog) (w:=w) (base:=base) B E_mark;have D_drawn:=DZ B E_drawn D_vet D_bows_of D_line_of D_greatest_height D_left_columns D_right_columns D_carve_bows D_carve_rings D_mark;have D_cell_at:=yM (P:=l.prog) (w:=w) (base:=base) B E_cell_at;have D_mix:=JE (P:=l.prog) (w:=w) (base:=base) E_mix;have D_digits:=Ah B E_digits D_mix;have D_need:=Fa (P:=l.prog) (w:=w) (base:=base) E_need;have D_can:=JG (P:=l.prog) (w:=w) (base:=base) B E_can;have D_put:=JD (P:=l.prog) (w:=w) (base:=base) B E_put;have D_fitting:=yG B E_fitting D_can D_need;have D_ended:=DY B E_ended D_put;have D_grown:=DX B E_grown D_fitting D_put D_ended;have D_order_of:=wQ (P:=l.prog) (w:=w) (base:=base) B E_order_of;have D_drawable:=wV E_drawable D_grown D_order_of;have D_bows:=Fc (P:=l.prog) (w:=w) (base:=base) B E_bows;have D_tall:=FZ (P:=l.prog) (w:=w) (base:=base) B E_tall;have D_drawing:=yJ B E_drawing D_bows D_tall;have D_open_cells:=tD (P:=l.prog) (w:=w) (base:=base) B E_open_cells;have D_neighbours:=tE (P:=l.prog) (w:=w) (base:=base) E_neighbours;have D_trail_from_mouth:=oH B E_trail_from_mouth D_neighbours;have D_maze_of_trail:=qD (P:=l.prog) (w:=w) (base:=base) B E_maze_of_trail;have D_is_drawing_of:=qE E_is_drawing_of D_is_maze D_crossed D_drawn;have D_way:=JB B E_way D_open_cells D_trail_from_mouth D_maze_of_trail D_is_drawing_of;have D_whole:=DW (P:=l.prog) (w:=w) (base:=base) B E_whole;have D_read:=F7 E_read D_maze_of_trail D_way;exact JF B E_law D_cell_at D_digits D_drawable D_drawn D_drawing D_read D_whole
 obtain⟨f0,oc0,od0,an_law,sl0,kV_law,dc_law,pm_law,cd_law,ct_law,a_law,l_law,_,_⟩:=a_law;have e:=hfa.symm.trans (eK X G a_law);cases e;refine⟨PySem.W.fnOf "law" "law" (kg ou) (j4 ou) (bC ou) .none kV_law dc_law pm_law an_law cd_law ct_law,λs v=>.of_eq rfl,λbase KB GB=>?_⟩;obtain⟨f,fd,F,m,b,ok⟩:=(key base KB GB).ex;rw[eK X G a_law] at m;cases m;obtain⟨_,_,_,_,_,_,_,_,_,rfl,lk,_⟩:=F.ex;rw[l_law] at lk;cases lk;exact ok
theorem walk{l:PySem.W.OpenLaw}{q:Program}{loose:List Str}{XP:(Str->Option Value)->Heap->Prop}{YP:World->Heap->Prop}{d:DefRec}{K:Params->PySem.W.Frag}(hn:l.most=some 63)(hdf:d.params.defaults=[])
  (hY:∀(w:World) (h:Heap),YP w h->(K w.params).In h)
  (F:∀(w:World) (mg:Str->Option Value) (fa:Addr) (h:Heap),(K w.params).In h->h.Ns mainGlobals mg->mg d.name=some (.ref fa) →
   ∃fd:FuncData,(∀(s:Shared) (u:Value),BindsTo s fd ⟨[u],[]⟩ [("_law_script",u)])/\∀base:Heap,(K w.params).In base->base.Ns mainGlobals mg->qO l.prog w (K w.params) mg base BV 10 fa fd ["_law_script"] (ve (K w.params))) :
  PySem.W.WalkO q loose XP YP l.row.toRowW d [] (λf vs=>PySem.call f vs):=
 L2.yy (n:=63) (k:=10) (x:="_law_script") (CX:=λ_=>BV) (sp:=λw=>ve (K w.params)) hn (by decide) hdf ⟨rfl,by decide,by decide,rfl⟩ hY F (λ_ _ a ns hl _ hS=>⟨a,ns,rfl,hS,hl,λ_=>rfl⟩) λ_ _ _ _ _ z=>z
end Rm
open PySem PySem.W PyProof.Rows
local macro_rules | `(tactic| walk_at "kf") => `(tactic| exact Rm.fnIn (by k_is) (by k_is) (by k_is) (by k_is))
set_option maxRecDepth 100000 in
set_option maxHeartbeats 0 in
theorem PySem.Challenge.cw_ringmaze_k14_whole_read_back_holds : PySem.Challenge.rw_ringmaze_k14_whole_read_back.Holds := by
 w_on; o_law; k_head; (case hw => w_witness2)
 k_fill
 refine Rm.walk (l := PySem.Challenge.rw_ringmaze_k14_whole_read_back) rfl rfl (λw h Y => PySem.W.kIn_of Y) ?F
 case F =>
  intro w mg fa h KX G hmg;refine' Rm.all_mk KX G hmg ?a_crossing ?a_span ?a_lies_within ?a_heights ?a_is_whole ?a_is_side ?a_is_order ?a_is_maze ?a_other_side ?a_side_of_step ?a_rows_of_way ?a_bows_of ?a_crossed ?a_vet ?a_line_of ?a_greatest_height ?a_by_row ?a_left_columns ?a_right_columns ?a_carve_bows ?a_carve_rings ?a_mark ?a_drawn ?a_cell_at ?a_mix ?a_digits ?a_can ?a_put ?a_ended ?a_need ?a_fitting ?a_grown ?a_order_of ?a_drawable ?a_bows ?a_tall ?a_drawing ?a_open_cells ?a_neighbours ?a_trail_from_mouth ?a_maze_of_trail ?a_is_drawing_of ?a_way ?a_read ?a_whole ?a_law ?y_MOST_RINGS ?y_WALL ?y_OPEN_CELL ?y_MOUTH ?y_MIDDLE ?y_SIDES ?l_SIDES ?t_SIDES ?z_len ?z_range ?z_enumerate ?z_int ?z_list ?z_tuple ?z_isinstance ?z_str ?z_bool ?z_sorted ?z_all ?z_any ?z_zip ?z_max ?z_min ?z_reversed ?z_ValueError
  (case a_crossing => walk_at "kf")
  (case a_span => walk_at "kf")
  (case a_lies_within => walk_at "kf")
  (case a_heights => walk_at "kf")
  (case a_is_whole => walk_at "kf")
  (case a_is_side => walk_at "kf")
  (case a_is_order => walk_at "kf")
  (case a_is_maze => walk_at "kf")
  (case a_other_side => walk_at "kf")
  (case a_side_of_step => walk_at "kf")
  (case a_rows_of_way => walk_at "kf")
  (case a_bows_of => walk_at "kf")
  (case a_crossed => walk_at "kf")
  (case a_vet => walk_at "kf")
  (case a_line_of => walk_at "kf")
  (case a_greatest_height => walk_at "kf")
  (case a_by_row => walk_at "kf")
  (case a_left_columns => walk_at "kf")
  (case a_right_columns => walk_at "kf")
  (case a_carve_bows => walk_at "kf")
  (case a_carve_rings => walk_at "kf")
  (case a_mark => walk_at "kf")
  (case a_drawn => walk_at "kf")
  (case a_cell_at => walk_at "kf")
  (case a_mix => walk_at "kf")
  (case a_digits => walk_at "kf")
  (case a_can => walk_at "kf")
  (case a_put => walk_at "kf")
  (case a_ended => walk_at "kf")
  (case a_need => walk_at "kf")
  (case a_fitting => walk_at "kf")
  (case a_grown => walk_at "kf")
  (case a_order_of => walk_at "kf")
  (case a_drawable => walk_at "kf")
  (case a_bows => walk_at "kf")
  (case a_tall => walk_at "kf")
  (case a_drawing => walk_at "kf")
  (case a_open_cells => walk_at "kf")
  (case a_neighbours => walk_at "kf")
  (case a_trail_from_mouth => walk_at "kf")
  (case a_maze_of_trail => walk_at "kf")
  (case a_is_drawing_of => walk_at "kf")
  (case a_way => walk_at "kf")
  (case a_read => walk_at "kf")
  (case a_whole => walk_at "kf")
  (case a_law => walk_at "kf")
  (case y_MOST_RINGS => k_is)
  (case y_WALL => k_is)
  (case y_OPEN_CELL => k_is)
  (case y_MOUTH => k_is)
  (case y_MIDDLE => k_is)
  (case y_SIDES => k_is)
  (case l_SIDES => k_is)
  (case t_SIDES => exact L2.AW rfl rfl (by decide) (.cons ⟨_, rfl⟩ (.cons ⟨_, rfl⟩ .nil)))
  (case z_len => k_is)
  (case z_range => k_is)
  (case z_enumerate => k_is)
  (case z_int => k_is)
  (case z_list => k_is)
  (case z_tuple => k_is)
  (case z_isinstance => k_is)
  (case z_str => k_is)
  (case z_bool => k_is)
  (case z_sorted => k_is)
  (case z_all => k_is)
  (case z_any => k_is)
  (case z_zip => k_is)
  (case z_max => k_is)
  (case z_min => k_is)
  (case z_reversed => k_is)
  (case z_ValueError => k_is)
#print axioms PySem.Challenge.cw_ringmaze_k14_whole_read_back_holds
