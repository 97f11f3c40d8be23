import PyProof.Rows.All
import Wide.All
import OpenK.AllK
import Wide.FinOn
import Lean
import PyProof.EqAt
import PyProof.EqKinds
import PyProof.TupleCall
import PySem.Challenge.RW_hourhouse_k65_whole_in_whatever_order
set_option Elab.async false
set_option linter.all false
set_option maxRecDepth 100000
/-! These names are taken so that the head makes no twins of its heaps, trees and objects: the compiled file would be too big. Nothing refers to them, and they prove nothing. -/
namespace PySem.W.Fast
def tw3468385708269500610 := ()
def tw13060613682633562834 := ()
def tw788210454168960126 := ()
def tw3146757810133870324 := ()
def tw9815909582769791039 := ()
def tw13876501623111604287 := ()
def tw2415393680813807553 := ()
def tw13624268642338474915 := ()
def tw7999622284217035693 := ()
def tw18247479108139666880 := ()
def tw12348862953834125586 := ()
def tw5099920781429871818 := ()
def tw2026656745715163906 := ()
def tw17457509510879167540 := ()
def tw16577874080603645877 := ()
def tw991556795641282670 := ()
def tw804815862233752900 := ()
def tw6864257542664507360 := ()
def tw4287372731551280973 := ()
def tw745998951142626902 := ()
def tw2936242627277062129 := ()
def tw843850455728082618 := ()
def tw5597748925964028885 := ()
def tw7211314085781673535 := ()
def tw1062303933021186741 := ()
def tw16545388233623054067 := ()
def tw14211930857887060699 := ()
def tw10992027042414604065 := ()
def tw11899514549402169037 := ()
def tw17883189050242297131 := ()
def tw2089452419498588008 := ()
def tw2048589038303610720 := ()
def tw11035011718802519566 := ()
def tw2383538273598947537 := ()
def tw11120983107948357586 := ()
def tw9167407615533680299 := ()
def tw6209934815270397074 := ()
def tw15302994228178467546 := ()
def tw9150845899583636839 := ()
def tw4303014075904489184 := ()
def tw13344708525984271206 := ()
def tw11249195413586330046 := ()
def tw7155775378883495729 := ()
def tw4611871716782750965 := ()
def tw3605875664417096122 := ()
def tw12359782968561490409 := ()
def tw14996472695736678821 := ()
def tw4247989652122605477 := ()
def tw9417524225195867496 := ()
def tw5978524636927322209 := ()
def tw13641508721494853036 := ()
def tw2432336889840690029 := ()
def tw18102173172889814600 := ()
def tw17636629786697591010 := ()
def tw2541057428830983381 := ()
def tw13445062895934749212 := ()
def tw3693836774178430429 := ()
def tw3027655885202869971 := ()
def tw6622535515331310968 := ()
def tw796232789476497724 := ()
def tw12806097621974342117 := ()
def tw13982200935797214451 := ()
def tw4264542834855988938 := ()
def tw13107489355328072998 := ()
def tw3596118428371336354 := ()
def tw14756460331825417868 := ()
def tw48216687456802950 := ()
def tw10885035232806618477 := ()
def tw14847454545119459051 := ()
def tw1966800877259494326 := ()
def tw14306033935577416612 := ()
def tw11152933271375131833 := ()
def tw6802362235128764661 := ()
def tw5164129962504292136 := ()
def tw7082676457405563950 := ()
def tw10165967631313279338 := ()
def tw6107047019706644396 := ()
def tw15127487121110057858 := ()
def tw724886873008032857 := ()
def tw13722701119774470649 := ()
def tw9239943804844040600 := ()
def tw16073767908084074321 := ()
def tw6259357732253908139 := ()
def tw12788209182645076987 := ()
def tw594340860005802640 := ()
def tw10074332738416807428 := ()
def tw12173299746351711779 := ()
def tw18181162885258598117 := ()
def tw1022267422208078653 := ()
def tw14420514774331779535 := ()
def tw16745609013587490130 := ()
def tw1455646397564904051 := ()
def tw15866417923243919479 := ()
def tw13353165493172581011 := ()
def tw15447382637746741754 := ()
def tw4436665079273728330 := ()
def tw8088652844659603384 := ()
def tw4963301678693402495 := ()
def tw17160296478469300478 := ()
def tw8655030915917592144 := ()
def tw14861073344235194106 := ()
def tw14327975761714893040 := ()
def tw3309228586345168235 := ()
def tw9830166906770361353 := ()
def tw3183162320854997632 := ()
def tw5544078878495082754 := ()
def tw11830491660229682865 := ()
def tw10379209280968230245 := ()
def tw16104496649255422866 := ()
def tw9440262949246595889 := ()
def tw11847913811324535678 := ()
def tw2250905848681962412 := ()
def tw4675311910387050452 := ()
def tw10112120120257069652 := ()
def tw11152237536183568862 := ()
def tw13773701521483603022 := ()
def tw12570471146090894885 := ()
def tw11192915815648852087 := ()
def tw12079703248530857427 := ()
def tw5315197165754611886 := ()
def tw15273252627437547352 := ()
def tw13545624786248432917 := ()
def tw14437936563937764197 := ()
def tw590049862077117128 := ()
def tw7349456292745081151 := ()
def tw3170349888914154867 := ()
def tw1127576506522109299 := ()
def tw16562702411375551326 := ()
def tw9527293647008407632 := ()
def tw1689933187899018547 := ()
def tw15524018817150768198 := ()
def tw2450106448970671711 := ()
def tw18338031934960401392 := ()
def tw3020652359106999865 := ()
def tw2327542737843059203 := ()
def tw15184601115468229632 := ()
def tw3373667314784534223 := ()
def tw16349950863335655363 := ()
def tw14953578109560645750 := ()
def tw15320672694518877023 := ()
def tw10565729831541861094 := ()
def tw5780412090784158085 := ()
def tw15895997296492872995 := ()
def tw5461681772351943224 := ()
def tw7686410375289277723 := ()
def tw15250658872502929237 := ()
def tw18385130334399300147 := ()
def tw15788934862261816993 := ()
def tw16201627593406786659 := ()
def tw648551292235888058 := ()
def tw17383412693600857898 := ()
def tw334437175995944110 := ()
def tw15377167063189570591 := ()
def tw2073234435009335479 := ()
def tw18298278899692872704 := ()
def tw13317711594255808124 := ()
def tw6296090874534287073 := ()
def tw5374602575407864531 := ()
def tw12884723075843628490 := ()
def tw13319399044321098187 := ()
def tw1228645058045500770 := ()
def tw1871565991931272442 := ()
def tw16908289976658192435 := ()
def tw17895261743484188681 := ()
def tw15508503858827762643 := ()
def tw1251489653608713300 := ()
def tw10212088422640709932 := ()
def tw6980976905907453140 := ()
def tw15931154228744966381 := ()
def tw13851462055648404023 := ()
def tw1770025068170903130 := ()
def tw8657075050949905585 := ()
def tw12368816508043335669 := ()
def tw12961541116189605459 := ()
def tw1005696028252646060 := ()
def tw17233444876997783001 := ()
def tw6896711485897756363 := ()
def tw6436392673999419777 := ()
def tw11806395288547023936 := ()
def tw4403000704235359205 := ()
def tw2302781124853731367 := ()
def tw2089651501061874812 := ()
def tw14661719247810185985 := ()
def tw4408970068243408933 := ()
def tw8709572269528129961 := ()
def tw10990347056934143611 := ()
def tw9481527214406404072 := ()
def tw13644004618168596733 := ()
def tw10120403576093225646 := ()
def tw6575296238474314240 := ()
def tw1762728150247855161 := ()
def tw5677561667439058666 := ()
def tw14727905027364558922 := ()
def tw7880087522788688904 := ()
def tw4562552745507874413 := ()
def tw2235717170882884414 := ()
def tw16717977295585481895 := ()
def tw576080823915218253 := ()
def tw6118695449342688179 := ()
def tw11430346920704919382 := ()
def tw1560916159625821450 := ()
def tw14671157011215745211 := ()
def tw15124475712713175952 := ()
def tw18108294593889586341 := ()
def tw3209435710279865183 := ()
def tw9058843511219350107 := ()
def tw1384276095070457362 := ()
def tw15783166388987529864 := ()
def tw8981027655034731710 := ()
def tw12018059403303504397 := ()
def tw16680505906555902286 := ()
def tw6696441111527189082 := ()
def tw17318903971558273186 := ()
def tw11089750233809685572 := ()
def tw6781682967004988918 := ()
def tw7120894235620978257 := ()
def tw6405447675135355475 := ()
def tw14049026154658195180 := ()
def tw3888702412349740917 := ()
def tw7939442901681140357 := ()
def tw15721860231134250292 := ()
def tw17081065028766353564 := ()
def tw14317596512829982815 := ()
def tw2889860823886900265 := ()
def tw14553108625025760288 := ()
def tw1670453806495108726 := ()
def tw17015489261712696203 := ()
def tw4205909243289165199 := ()
def tw15924100885539560996 := ()
def tw16320820927979658731 := ()
def tw11520789945928256267 := ()
def tw3046129254718304490 := ()
def tw16354847584696368690 := ()
def tw13007027445822489539 := ()
def tw4467073131830488616 := ()
def tw13837452921923465477 := ()
def tw11667648178020586853 := ()
def tw10499181627083713178 := ()
def tw17037112186709727057 := ()
def tw14990418982347102043 := ()
def tw15342654641769316560 := ()
def tw2399712147439412542 := ()
def tw12583844633279869793 := ()
def tw13188142601358283620 := ()
def tw1854049508436775705 := ()
def tw17499340019595145067 := ()
def tw9435110675810548330 := ()
def tw1352605722470918892 := ()
def tw6589192234195496955 := ()
def tw6071637150255263499 := ()
def tw15648499846640126668 := ()
def tw16828584545775384798 := ()
def tw15884344796554112605 := ()
def tw512170038288269570 := ()
def tw6989827844219451903 := ()
def tw17866588632598263206 := ()
def tw8810265542296548463 := ()
def tw16596368445595390053 := ()
def tw5396745329093017471 := ()
def tw5428212331482266637 := ()
def tw8361048049658576921 := ()
def tw7610218857359004858 := ()
def tw6827942702172534184 := ()
def tw15797153888790701080 := ()
def tw14125962365911607042 := ()
def tw1193887562292003612 := ()
def tw1938704443587498243 := ()
def tw11875976583828891941 := ()
def tw17154792713948677762 := ()
def tw11255930974874785826 := ()
def tw11862093452373589958 := ()
def tw14388391212127475648 := ()
def tw1574808883201164300 := ()
def tw13492575275835062133 := ()
def tw12916000853242610098 := ()
def tw3005721101418372353 := ()
def tw16394232058036699696 := ()
def tw2934948012308374730 := ()
def tw13788656238273100914 := ()
def tw9069383199837555207 := ()
def tw3103096368260484798 := ()
def tw10903245222192864722 := ()
def tw14914824378659988543 := ()
def tw5682062553517576970 := ()
def tw18094427847871541253 := ()
def tw10995324305895833224 := ()
def tw7149664576552321152 := ()
def tw2376426479518073907 := ()
def tw3574015432988283841 := ()
def tw601634986912109432 := ()
def tw9680683623264756866 := ()
def tw2830923411514914106 := ()
def tw3400996693415807086 := ()
def tw15148016395356749170 := ()
def tw8669032955117733691 := ()
end PySem.W.Fast
abbrev Ac0:=@List.length_map
abbrev Ac1:=@PySem.wpAny_bind
abbrev Ac2:=@List.mem_map
abbrev Ac3:=@decide_eq_true
abbrev Ac4:=@PySem.wpAny_pure
abbrev Ac5:=@PySem.Heap.get?_push_of_some
abbrev Ac6:=@Array.length_toList
abbrev Ac7:=@decide_eq_false
abbrev Ac8:=@List.mem_cons_self
abbrev Ac9:=@List.mem_singleton
abbrev Ada:=@List.mem_map_of_mem
abbrev Adb:=@Nat.le_refl
abbrev Adc:=@List.map_map
abbrev Ade:=@List.length_append
abbrev Adf:=@Bool.false_ne_true
abbrev Adg:=@List.mem_append_right
abbrev Adh:=@List.getElem?_eq_getElem
abbrev Adi:=@List.mem_cons_of_mem
abbrev Adj:=@PyProof.Rows.wpS_bind
abbrev Adk:=@of_decide_eq_true
abbrev Adl:=@List.getElem?_map
abbrev Adm:=@PySem.Heap.lt_size
abbrev Adn:=@List.size_toArray
abbrev Ado:=@List.mem_cons
abbrev Adp:=@Bool.false_and
abbrev Adq:=@List.mem_append
abbrev Ads:=@PyProof.Rows.wpS_pure
abbrev Adt:=@Option.some.inj
abbrev Adu:=@Bool.and_eq_true
abbrev Adv:=@PySem.Heap.get?_push_size
abbrev Adw:=@Nat.zero_le
abbrev Adx:=@List.map_append
abbrev Ady:=@Nat.le_trans
abbrev Adz:=@Bool.false_eq_true
abbrev Ad0:=@PyProof.Rows.KeyOrd.kle_trans
abbrev Ad1:=@decide_eq_true_eq
abbrev Ad2:=@List.length_cons
abbrev Ad3:=@List.map_cons
abbrev Ad4:=@Array.toList_append
abbrev Ad5:=@PyProof.Rows.KeyOrd.kle_of_klt
abbrev Ad6:=@List.mem_of_getElem?
abbrev Ad7:=@List.length_range
abbrev Ad8:=@Bool.eq_false_iff
abbrev Ad9:=@Nat.ne_of_lt
abbrev Aea:=@congrArg
abbrev Aeb:=@List.mem_filter
abbrev Aec:=@List.filter_eq_self
abbrev Aed:=@List.getElem?_eq_some_iff
abbrev Aee:=@Sum.inl.inj
abbrev Aef:=@Array.getElem?_toList
abbrev Aeg:=@PyProof.Rows.KeyOrd.kle_refl
abbrev Aeh:=@PySem.sizeLine_eq
abbrev Aei:=@Nat.lt_of_lt_of_le
abbrev Aej:=@decide_eq_decide
abbrev Aek:=@List.length_take
abbrev Ael:=@List.length_filter_le
abbrev Aem:=@Array.getElem?_eq_getElem
abbrev Aen:=@Option.map_eq_some_iff
abbrev Aeo:=@List.mem_range
abbrev Aep:=@PySem.F.plainAttrs_list
abbrev Aeq:=@PySem.W.mg_of
abbrev Aer:=@List.pairwise_append
abbrev Aes:=@Int.emod_lt_of_pos
abbrev Aet:=@List.append_nil
abbrev Aeu:=@Bool.and_false
abbrev Aev:=@List.pairwise_singleton
abbrev Aew:=@PySem.wpAny_call_entry
abbrev Aex:=@Bool.true_and
abbrev Aey:=@PySem.F.type_list_append
abbrev Aez:=@PySem.F.slot_list_append
abbrev Ae0:=@Option.isSome_iff_exists
abbrev Ae1:=@List.pairwise_map
abbrev Ae2:=@PySem.wpAny_truthy_bool
abbrev Ae3:=@Int.emod_nonneg
abbrev Ae4:=@List.mem_append_left
abbrev Ae5:=@if_false
abbrev Ae6:=@PySem.wpAny_holding
abbrev Ae7:=@Nat.lt_irrefl
abbrev Ae8:=@List.mem_of_find?_eq_some
abbrev Ae9:=@PySem.wpAny_newObj_type
abbrev Afa:=@PySem.wpAny_mono
abbrev Afb:=@PySem.Value.isStrOf_shape
abbrev Afc:=@PySem.Heap.get?_update_ne
abbrev Afd:=@List.take_length
abbrev Afe:=@List.lookup_cons
abbrev Afg:=@List.length_drop
abbrev Afh:=@List.getElem_mem
abbrev Afi:=@beq_eq_false_iff_ne
abbrev Afj:=@Sum.inr.inj
abbrev Afk:=@PySem.W.mg_none_of
abbrev Afl:=@PySem.Value.isInt_shape
abbrev Afm:=@PySem.F.slot_dict_get
abbrev Afn:=@Nat.lt_of_le_of_lt
abbrev Afo:=@List.zip_cons_cons
abbrev Afp:=@List.getElem?_eq_none
abbrev Afq:=@List.filter_append
abbrev Afr:=@Bool.not_true
abbrev Afs:=@PySem.F.plain_max_loop
abbrev Aft:=@PySem.wpAny_tupleItemsOf
abbrev Afu:=@PySem.tupleKind_room_in1
abbrev Afv:=@PyProof.Rows.slot_tuple_getitem
abbrev Afw:=@Bool.eq_iff_iff
abbrev Afx:=@Array.size_push
abbrev Afy:=@decide_eq_false_iff_not
abbrev Afz:=@Nat.le_succ
abbrev Af0:=@List.toList_toArray
abbrev Af1:=@List.reverse_append
abbrev Af2:=@PySem.wpAny_rule
abbrev Af3:=@Array.toList_inj
abbrev Af4:=@PyProof.Rows.wpS_forRange
abbrev Af5:=@List.take_of_length_le
abbrev Af6:=@List.map_inj_right
abbrev Af7:=@PySem.wpAny_typeNameOfWhole_keyiter
abbrev Af8:=@List.find?_cons
abbrev Af9:=@List.filter_map
abbrev Aga:=@Array.getD_eq_getD_getElem?
abbrev Agb:=@List.take_add_one
abbrev Agc:=@List.nodup_append
abbrev Agd:=@List.ext_getElem?
abbrev Age:=@List.append_assoc
abbrev Agf:=@Int.toNat_natCast
abbrev Agg:=@PySem.F.slot_dict_keyiterator_next
abbrev Agh:=@List.getD_eq_getElem?_getD
abbrev Agi:=@Array.perm_iff_toList_perm
abbrev Agj:=@Array.toList_reverse
abbrev Agk:=@PySem.isSubtype_tuple_tuple
abbrev Agl:=@PySem.PassesOwn.never
abbrev Agm:=@List.nodup_nil
abbrev Agn:=@List.not_mem_nil
abbrev Ago:=@PySem.mem_of_lookup
abbrev Agp:=@List.map_congr_left
abbrev Agq:=@List.getElem_of_mem
abbrev Agr:=@PySem.Heap.size_push
abbrev Ags:=@Nat.add_assoc
abbrev Agt:=@List.nodup_cons
abbrev Agu:=@List.length_eq_zero_iff
abbrev Agv:=@List.find?_some
abbrev Agw:=@List.cons.injEq
abbrev Agx:=@Bool.false_or
abbrev Agy:=@PySem.wpAny_isInstance
abbrev Agz:=@PySem.wpAny_forIn_list
abbrev Ag0:=@PySem.Heap.SameBut.update
abbrev Ag1:=@PySem.wpAny_typeNameOf_keyiter
abbrev Ag2:=@PySem.F.entry_dict_get
abbrev Ag3:=@List.getElem_take
abbrev Ag4:=@List.getElem_drop
abbrev Ag5:=@List.find?_isSome
abbrev Ag6:=@Array.toList_push
abbrev Ag7:=@Array.size_append
abbrev Ag8:=@PySem.wpAny_newList
abbrev Ag9:=@PySem.wpAny_Call_Name_kw
abbrev Aha:=@PySem.W.kia_one
abbrev Ahb:=@PySem.Paired.length
abbrev Ahc:=@List.take_append_drop
abbrev Ahd:=@List.filter_cons
abbrev Ahe:=@List.eq_nil_of_length_eq_zero
abbrev Ahf:=@List.any_eq_true
abbrev Ahg:=@List.reverse_reverse
abbrev Ahh:=@List.mem_of_mem_take
abbrev Ahi:=@List.map_id''
abbrev Ahj:=@List.any_cons
abbrev Ahk:=@PySem.wpAny_tryCatch
abbrev Ahl:=@PySem.Heap.get?_update_self
abbrev Ahm:=@PyProof.Rows.callWith_type1
abbrev Ahn:=@List.getElem?_range
abbrev Aho:=@List.nodup_iff_pairwise_ne
abbrev Ahp:=@PySem.Around.under_plainId
abbrev Ahq:=@Nat.ne_of_gt
abbrev Ahr:=@List.map_singleton
abbrev Ahs:=@List.take_zero
abbrev Aht:=@bne_self_eq_false
abbrev Ahu:=@PySem.wpAny_specialOf
abbrev Ahv:=@PySem.wpAny_richCompare_same_room
abbrev Ahw:=@PySem.wpAny_passesOwn
abbrev Ahx:=@PySem.codeAny_builtin
abbrev Ahy:=@if_true
abbrev Ahz:=@PySem.F.slot_list_index
abbrev Ah0:=@PySem.F.plainAttrs_dict
abbrev Ah1:=@Prod.mk.injEq
abbrev Ah2:=@Prod.ext
abbrev Ah3:=@Ne.symm
abbrev Ah4:=@forall_eq_or_imp
abbrev Ah5:=@PySem.Calls.spliced_cons
abbrev Ah6:=@Nat.lt_succ_self
abbrev Ah7:=@List.all_eq_true
abbrev Ah8:=@PySem.wpAny_seqItems
abbrev Ah9:=@Array.getElem?_eq_none
abbrev Aia:=@PyProof.Rows.listUpdate_at
abbrev Aib:=@PySem.wpAny_dictEntries
abbrev Aic:=@Option.map_some
abbrev Aid:=@Nat.not_lt_zero
abbrev Aie:=@Nat.min_eq_left
abbrev Aif:=@Nat.le_of_lt
abbrev Aig:=@List.pairwise_reverse
abbrev Aih:=@List.map_nil
abbrev Aii:=@List.all_map
abbrev Aij:=@Bool.true_or
abbrev Aik:=@Bool.or_eq_true
abbrev Ail:=@PyProof.Rows.KeyOrd.kle_antisymm
abbrev Aim:=@PySem.plainId_quiet
abbrev Ain:=@Bool.not_false
abbrev Aio:=@PySem.Calls.callWith_builtin
abbrev Aip:=@PyProof.Rows.wpS_mono
abbrev Aiq:=@Nat.add_le_add_left
abbrev Air:=@List.filterMap_cons
abbrev Ais:=@PySem.codeAny_mono
abbrev Ait:=@List.pairwise_cons
abbrev Aiu:=@Array.forIn_toList
abbrev Aiv:=@PyProof.Rows.wpS_modify
abbrev Aiw:=@dif_pos
abbrev Aix:=@PySem.Calls.evalArgs_plain
abbrev Aiy:=@Option.some.injEq
namespace L2
open PySem PySem.Spec PyProof.Rows
abbrev Key:=Sum Int Str
def Qb:Key->Value->Bool
 | .inl k,v=>Value.isInt k v
 | .inr x,v=>Value.isStrOf x v
def Abz (w:World):Key->Int
 | .inl k=>hashInt k
 | .inr x=>hashStr w x
theorem B5: ∀{k:Key}{v:Value},Qb k v=true->(∃i t,k=Sum.inl i/\v=Value.int i t)∨(∃x t,k=Sum.inr x/\v=Value.str x t)
 |
  .inl i,v,h=>by
  obtain⟨t,e⟩:=Afl (k:=i) (v:=v) h
  exact .inl ⟨i,t,rfl,e⟩
 |
  .inr x,v,h=>by
  obtain⟨t,e⟩:=Afb (x:=x) (v:=v) h
  exact .inr ⟨x,t,rfl,e⟩
theorem Ke (i:Int)(t:Tok):Qb (.inl i) (.int i t)=true:=by simp[Qb,Value.isInt]
theorem il (x:Str)(t:Tok):Qb (.inr x) (.str x t)=true:=by simp[Qb,Value.isStrOf]
theorem xb (a b:Int):decide ((Sum.inl a:Key)=Sum.inl b)=(a==b):=by
 by_cases e:a=b
 · subst e;simp
 ·
  have h: ¬(Sum.inl a:Key)=Sum.inl b:=λq=>e (Aee q)
  rw[Ac7 h]
  exact(Afi.mpr e).symm
theorem wu (a b:Str):decide ((Sum.inr a:Key)=Sum.inr b)=decide (a=b):=by
 by_cases e:a=b
 · subst e;simp
 ·
  have h: ¬(Sum.inr a:Key)=Sum.inr b:=λq=>e (Afj q)
  rw[Ac7 h,Ac7 e]
theorem wj (a:Int)(b:Str):decide ((Sum.inl a:Key)=Sum.inr b)=false:=Ac7 (λq=>nomatch q)
theorem vw (a:Str)(b:Int):decide ((Sum.inr a:Key)=Sum.inl b)=false:=Ac7 (λq=>nomatch q)
def Bi (prog:Program)(w:World):PySem.KeyKind prog w Key where
 is:=Qb
 hash:=Abz w
 inj:=λv a b ha hb=>by
  rcases B5 ha with⟨i,t,rfl,rfl⟩|⟨x,t,rfl,rfl⟩
  ·
   rcases B5 hb with⟨j,u,rfl,e⟩|⟨y,u,rfl,e⟩
   · injection e with e1 _;rw[e1]
   · exact nomatch e
  ·
   rcases B5 hb with⟨j,u,rfl,e⟩|⟨y,u,rfl,e⟩
   · exact nomatch e
   · injection e with e1 _;rw[e1]
 byValue:=λk v h=>by
  rcases B5 h with⟨i,t,rfl,rfl⟩|⟨x,t,rfl,rfl⟩<;>rfl
 pyHash:=λhv h=>by
  rcases B5 hv with⟨i,t,rfl,rfl⟩|⟨x,t,rfl,rfl⟩
  · exact wpAny_pyHash_int h
  · exact wpAny_pyHash_str h
 eqBool:=λhu hv h=>by
  rcases B5 hu with⟨i,t,rfl,rfl⟩|⟨x,t,rfl,rfl⟩
  ·
   rcases B5 hv with⟨j,u,rfl,rfl⟩|⟨y,u,rfl,rfl⟩
   · rw[xb] at h;exact wpAny_eqBool_int h
   · rw[wj] at h;exact SeqAt.EqAt.int_str i t y u _ _ _ _ h
  ·
   rcases B5 hv with⟨j,u,rfl,rfl⟩|⟨y,u,rfl,rfl⟩
   · rw[vw] at h;exact SeqAt.EqAt.str_int x t j u _ _ _ _ h
   · rw[wu] at h;exact wpAny_eqBool_str h
 «strs»:=λk x t v h=>by
  rcases B5 h with⟨i,u,rfl,e⟩|⟨y,u,rfl,e⟩
  · exact nomatch e
  ·
   injection e with e1 _
   subst e1
   cases v<;>rfl
theorem W9 (prog:Program)(w:World)(i:Int)(t:Tok):(Bi prog w).is (.inl i) (.int i t)=true:=Ke i t
theorem Wh (prog:Program)(w:World)(x:Str)(t:Tok):(Bi prog w).is (.inr x) (.str x t)=true:=il x t
inductive V where
 | non|bl (b:Bool)|int (i:Int)|str (x:Str)|byt (b:Array UInt8)|flt (b:UInt64)|ref (a:Addr)|ty (n:String)
 deriving DecidableEq
def RelV:V->Value->Prop
 | .non,u=>u=Value.none
 | .bl b,u=>u=Value.bool b
 | .int i,u=>∃t,u=Value.int i t
 | .str x,u=>∃t,u=Value.str x t
 | .byt b,u=>∃t,u=Value.bytes b t
 | .flt b,u=>∃t,u=Value.float b t
 | .ref a,u=>u=Value.ref a
 | .ty n,u=>u=Value.type n
abbrev Vals:List V->List Value->Prop:=Paired RelV
theorem Vals.length {xs:List V}{us:List Value}(r:Vals xs us):xs.length=us.length:=Ahb r
theorem Vals.get: ∀{xs:List V}{us:List Value}{i:Nat}{x:V},Vals xs us->xs[i]?=some x-> ∃u,us[i]?=some u/\RelV x u
 | _,_,_,_,.nil,e=>by simp at e
 | _,_,0,_,.cons r _,e=>by simp at e;subst e;exact⟨_,rfl,r⟩
 |
  _,_,i+1,x,.cons _ t,e=>by
  obtain⟨u,h1,h2⟩:=Vals.get (i:=i) (x:=x) t (by simpa using e)
  exact⟨u,by simpa using h1,h2⟩
theorem Vals.append: ∀{xs ys:List V}{us ws:List Value},Vals xs us->Vals ys ws->Vals (xs++ys) (us++ws)
 | _,_,_,_,.nil,s=>s
 | _,_,_,_,.cons r t,s=>.cons r (Vals.append t s)
theorem Vals.take: ∀{xs:List V}{us:List Value}(n:Nat),Vals xs us->Vals (xs.take n) (us.take n)
 | _,_,0,_=>.nil
 | _,_,_+1,.nil=>.nil
 | _,_,n+1,.cons r t=>.cons r (Vals.take n t)
theorem Vals.drop: ∀{xs:List V}{us:List Value}(n:Nat),Vals xs us->Vals (xs.drop n) (us.drop n)
 | _,_,0,r=>r
 | _,_,_+1,.nil=>.nil
 | _,_,n+1,.cons _ t=>Vals.drop n t
def RelO:Option V->Option Value->Prop
 | some v,some u=>RelV v u
 | none,none=>True
 | _,_=>False
def KV {κ:Type}:List (κ×V)->List (κ×Value)->Prop:=Paired λ(p:κ×V)(q:κ×Value)=>p.1=q.1/\RelV p.2 q.2
def kV:Key->V
 | .inl i=>.int i
 | .inr x=>.str x
inductive HO where
 | lst (xs:List V)
 | tup (xs:List V)
 | dK (kvs:List (Key×V))|dT (kvs:List (List Key×V))
 | set (S:Int->Bool) (n:Nat)
 | ins (C dx:Addr) (fs:List (Str×V))
 | own (x:Addr)
 | xd (fs:List (Str×V))
 | met (f x:Addr)
 | rng (lo hi:Int)
 | frz (o:Obj) (u:HO)
 | tbl (ps:Array Value)
 | ext (φ:Heap->Prop)
abbrev Hp:=Addr->Option HO
def upd (H:Hp)(a:Addr)(o:HO):Hp:=λb=>if b=a then some o else H b
theorem Ad {H:Hp}{a:Addr}{o:HO}:upd H a o a=some o:=by unfold upd;rw[if_pos rfl]
theorem Aq {H:Hp}{a b:Addr}{o:HO}(h:b≠a):upd H a o b=H b:=by unfold upd;rw[if_neg h]
theorem Ff {H:Hp}{a b:Addr}{o u:HO}(h:H a=some o)(h':H b=some u)(d:o≠u):a≠b:=by
 intro e;subst e;rw[h] at h';exact d (Adt h')
theorem As {H:Hp}{a b:Addr}{o:HO}(h:H a=some o)(h':H b=none):a≠b:=by
 intro e;subst e;rw[h] at h';cases h'
section
variable (P:Program)(w:World)
def ObjOk (H:Hp)(h:Heap)(a:Addr):HO->Prop
 | .lst xs=>xs.length<=sizeLine/\ ∃(its:List Value)(n:Nat),Vals xs its/\h.get? a=some {cls:=.type "list",data:=.seq its.toArray n}
 | .tup xs=>xs.length<=sizeLine/\ ∃its:List Value,Vals xs its/\IsTup h a its.toArray
 | .dK kvs=>kvs.length<=sizeLine/\(a==sysModules)=false/\ ∃vs,KV kvs vs/\h.DictOf (Bi P w) a vs
 | .dT kvs=>kvs.length<=sizeLine/\(a==sysModules)=false/\ ∃xs:List (List Key×Addr×Value),
  Paired (λ(p:List Key×V)(q:List Key×Addr×Value)=>p.1=q.1/\H q.2.1=some (.tup (p.1.map kV))/\RelV p.2 q.2.2) kvs xs/\
  ∃o es ep,h.get? a=some o/\o.ExactDict/\o.data=.dict es ep/\es.toList=xs.map (entryOfKey (tupleKind (Bi P w)))/\(xs.map (·.1)).Nodup
 | .set S n=>h.SetOf (intKind P w) a S n
 | .ins C dx fs=>H dx=some (.own a)/\fs.length<=1000/\dx≠a/\h.get? a=some (W.instObj C dx)/\
  ∃mA,h.Ns1 dx mA/\(∀f,RelO (fs.lookup f) (mA f))/\PySem.Within mA (fs.map (·.1))
 | .own _=>∃o,h.get? a=some o
 | .xd fs=>∃mA,h.Ns1 a mA/\ ∀f,RelO (fs.lookup f) (mA f)
 | .rng lo hi=>∃t u v,h.get? a=some {cls:=.type "range",data:=.fields #[.int lo t,.int hi u,.int 1 v]}
 | .frz o u=>h.get? a=some o/\ObjOk H h a u
 | .tbl ps=>h.get? a=some {cls:=.none,data:=.fields ps}
 | .met f x=>h.get? a=some (W.methodObj (.ref f) (.ref x))
 | .ext φ=>φ h/\(∃o,h.get? a=some o)/\ ∀h1 h2:Heap,φ h1->(∀o,h1.get? a=some o->h2.get? a=some o)->φ h2
def HOk (H:Hp)(h:Heap):Prop:=∀a o,H a=some o->ObjOk P w H h a o
end
section
variable {P:Program}{w:World}{H H':Hp}{h h':Heap}{a:Addr}{o:HO}
theorem ObjOk.lt (x:ObjOk P w H h a o):a<h.objs.size:=by
 cases o with
 | lst xs=>obtain⟨_,_,_,_,e⟩:=x;exact Adm e
 | tup xs=>obtain⟨_,_,_,p⟩:=x;exact p.lt
 | dK kvs=>obtain⟨_,_,_,_,o,_,_,e,_⟩:=x;exact Adm e
 | dT kvs=>obtain⟨_,_,_,_,o,_,_,e,_⟩:=x;exact Adm e
 | set S n=>obtain⟨o,_,_,_,e,_⟩:=x;exact Adm e
 | ins C dx fs=>obtain⟨_,_,_,e,_⟩:=x;exact Adm e
 | own y=>obtain⟨_,e⟩:=x;exact Adm e
 | xd fs=>obtain⟨_,⟨_,_,_,e,_⟩,_⟩:=x;exact Adm e
 | rng lo hi=>obtain⟨_,_,_,e⟩:=x;exact Adm e
 | frz ob u=>obtain⟨e,_⟩:=x;exact Adm e
 | tbl ps=>exact Adm (show h.get? a=some _ from x)
 | met f y=>exact Adm (show h.get? a=some _ from x)
 | ext φ=>obtain⟨_,⟨_,e⟩,_⟩:=x;exact Adm e
theorem Paired.mapP {α β:Type}{F G:α->β->Prop}: ∀{l₁:List α}{l₂:List β},Paired F l₁ l₂->(∀a b,F a b->G a b)->Paired G l₁ l₂
 | _,_,.nil,_=>.nil
 | _,_,.cons r t,f=>.cons (f _ _ r) (Paired.mapP t f)
theorem ObjOk.stay (x:ObjOk P w H h a o)(k: ∀b u,(b=a∨H b=some (.own a))->h.get? b=some u->h'.get? b=some u)
  (ho: ∀b,H b=some (.own a)->H' b=some (.own a)) (ht: ∀b xs,H b=some (.tup xs)->H' b=some (.tup xs)):ObjOk P w H' h' a o:=by
 induction o with
 | lst xs=>obtain⟨z,its,n,r,e⟩:=x;exact⟨z,its,n,r,k _ _ (.inl rfl) e⟩
 | tup xs=>obtain⟨z,its,r,ob,e,c⟩:=x;exact⟨z,its,r,ob,k _ _ (.inl rfl) e,c⟩
 | dK kvs=>obtain⟨z,y,vs,r,ob,es,ep,e,c⟩:=x;exact⟨z,y,vs,r,ob,es,ep,k _ _ (.inl rfl) e,c⟩
 |
  dT kvs=>
  obtain⟨z,y,xs,r,ob,es,ep,e,c⟩:=x
  exact⟨z,y,xs,Paired.mapP r λp q z=>⟨z.1,ht _ _ z.2.1,z.2.2⟩,ob,es,ep,k _ _ (.inl rfl) e,c⟩
 | set S n=>obtain⟨ob,es,ep,t,e,c⟩:=x;exact⟨ob,es,ep,t,k _ _ (.inl rfl) e,c⟩
 |
  ins C dx fs=>
  obtain⟨d,z,ne,e,mA,⟨od,es,ep,e2,c⟩,r⟩:=x
  exact⟨ho _ d,z,ne,k _ _ (.inl rfl) e,mA,⟨od,es,ep,k _ _ (.inr d) e2,c⟩,r⟩
 | own y=>obtain⟨ob,e⟩:=x;exact⟨ob,k _ _ (.inl rfl) e⟩
 | xd fs=>obtain⟨mA,⟨od,es,ep,e,c⟩,r⟩:=x;exact⟨mA,⟨od,es,ep,k _ _ (.inl rfl) e,c⟩,r⟩
 | rng lo hi=>obtain⟨t,u,v,e⟩:=x;exact⟨t,u,v,k _ _ (.inl rfl) e⟩
 | frz ob u ih=>obtain⟨e,q⟩:=x;exact⟨k _ _ (.inl rfl) e,ih q⟩
 |
  tbl ps=>
  have e:h.get? a=some {cls:=.none,data:=.fields ps}:=x
  show h'.get? a=some {cls:=.none,data:=.fields ps}
  exact k a _ (.inl rfl) e
 |
  met f y=>
  have e:h.get? a=some (W.methodObj (.ref f) (.ref y)):=x
  show h'.get? a=some (W.methodObj (.ref f) (.ref y))
  exact k a _ (.inl rfl) e
 | ext φ=>obtain⟨p,⟨o,e⟩,st⟩:=x;exact⟨st _ _ p λo q=>k _ _ (.inl rfl) q,⟨o,k _ _ (.inl rfl) e⟩,st⟩
theorem HOk.lt (x:HOk P w H h)(e:H a=some o):a<h.objs.size:=(x a o e).lt
theorem HOk.fresh (x:HOk P w H h)(e:h.objs.size<=a):H a=none:=by
 cases q:H a with
 | none=>rfl
 | some u=>exact absurd (Aei (x.lt q) e) (Ae7 _)
theorem HOk.kept (x:HOk P w H h)(k: ∀b u,h.get? b=some u->h'.get? b=some u):HOk P w H h':=λa o e=>
 (x a o e).stay (λb u _ q=>k b u q) (λ_ q=>q) λ_ _ q=>q
theorem HOk.laid (x:HOk P w H h)(k: ∀b u,h.get? b=some u->h'.get? b=some u)(hp:h.objs.size<=a)(new:ObjOk P w (upd H a o) h' a o):HOk P w (upd H a o) h':=λb u e=>by
 have hn:=x.fresh hp
 by_cases hb:b=a
 · subst hb;rw[Ad] at e;cases e;exact new
 ·
  rw[Aq hb] at e
  exact(x b u e).stay (λc v _ q=>k c v q) (λc q=>by rw[Aq (As q hn)];exact q) λc xs q=>by rw[Aq (As q hn)];exact q
end
def Rd (H:Hp)(a:Addr)(u:HO):Prop:=H a=some u∨ ∃o,H a=some (.frz o u)
theorem Rd.ok {P:Program}{w:World}{H:Hp}{h:Heap}{a:Addr}{u:HO}(r:Rd H a u)(x:HOk P w H h):ObjOk P w H h a u:=by
 rcases r with r|⟨o,r⟩
 · exact x a u r
 ·
  obtain⟨_,q⟩:=x a _ r
  exact q
def Mut:Option HO->Prop
 | some (.lst _)=>True
 | some (.dK _)=>True
 | some (.dT _)=>True
 | some (.set _ _)=>True
 | some (.ins _ _ _)=>True
 | some (.ext _)=>True
 | _=>False
section
variable {P:Program}{w:World}{H:Hp}{h h':Heap}{x e:Addr}{o':HO}
theorem HOk.write (ok:HOk P w H h)(mu:Mut (H x))(he:e=x∨H e=some (.own x))(k: ∀b u,b≠e->h.get? b=some u->h'.get? b=some u)(heo: ∃u,h'.get? e=some u)
  (new:ObjOk P w (upd H x o') h' x o'):HOk P w (upd H x o') h':=λb u q=>by
 have nown: ∀c y,H c=some (.own y)->c≠x:=λc y r z=>by subst z;rw[r] at mu;exact mu
 have ntup: ∀c xs,H c=some (.tup xs)->c≠x:=λc xs r z=>by subst z;rw[r] at mu;exact mu
 by_cases hb:b=x
 · subst hb;rw[Ad] at q;cases q;exact new
 ·
  rw[Aq hb] at q
  by_cases hbe:b=e
  ·
   have q':H b=some (.own x):=by
    rcases he with z|z
    · exact absurd (hbe.trans z) hb
    · rw[hbe];exact z
   rw[q] at q';cases q'
   obtain⟨v,hv⟩:=heo
   exact⟨v,by rw[hbe];exact hv⟩
  ·
   refine(ok b u q).stay (λc v hc r=>k c v ?_ r) (λc r=>by rw[Aq (nown c b r)];exact r) λc xs r=>by rw[Aq (ntup c xs r)];exact r
   rcases hc with rfl|hc
   · exact hbe
   ·
    rintro rfl
    rcases he with z|z
    · exact nown c b hc z
    · rw[hc] at z;cases z;exact hb rfl
end
structure Un (fs ex:List Addr)(H H':Hp)(h h':Heap):Prop where
 keep: ∀b o,h.get? b=some o->H b=none->b∉fs->b∉ex->h'.get? b=some o
 slot: ∀b o,h.get? b=some o->H b=none->b∈fs->b∉ex-> ∃sl,h'.get? b=some {o with slots:=sl}
 free: ∀b o,h.get? b=some o->H b=none->b∉ex->H' b=none
 there: ∀b o,h.get? b=some o->b∉ex-> ∃o',h'.get? b=some o'
 tups: ∀b xs,H b=some (.tup xs)->H' b=some (.tup xs)
 frzs: ∀b o u,H b=some (.frz o u)->H' b=some (.frz o u)
 tbls: ∀b ps,H b=some (.tbl ps)-> ∃more,H' b=some (.tbl (ps++more))
section
variable {fs fs' ex ex':List Addr}{H H1 H2:Hp}{h h1 h2 h':Heap}{a x e:Addr}{o:HO}
theorem Un.any (u:Un fs ex H H1 h h1){b:Addr}{ob:Obj}(q:h.get? b=some ob)(n:H b=none)(hx:b∉ex): ∃sl,h1.get? b=some {ob with slots:=sl}:=by
 by_cases hb:b∈fs
 · exact u.slot b ob q n hb hx
 · exact⟨ob.slots,u.keep b ob q n hb hx⟩
theorem Un.kept (k: ∀b u,h.get? b=some u->h'.get? b=some u):Un fs ex H H h h':=
 ⟨λb ob q _ _ _=>k b ob q,λb ob q _ _ _=>⟨ob.slots,k b ob q⟩,λ_ _ _ n _=>n,λb ob q _=>⟨ob,k b ob q⟩,λ_ _ q=>q,λ_ _ _ q=>q,λ_ ps q=>⟨#[],by rw[q];simp⟩⟩
theorem Un.refl:Un fs ex H H h h:=Un.kept λ_ _ q=>q
theorem Un.laid (k: ∀b u,h.get? b=some u->h'.get? b=some u)(hp:h.objs.size<=a)(hn:H a=none):Un fs ex H (upd H a o) h h' where
 keep:=λb u q _ _ _=>k b u q
 slot:=λb u q _ _ _=>⟨u.slots,k b u q⟩
 free:=λb u q n _=>by rw[Aq (Ad9 (Aei (Adm q) hp))];exact n
 there:=λb u q _=>⟨u,k b u q⟩
 tups:=λb xs q=>by rw[Aq (As q hn)];exact q
 frzs:=λb u xs q=>by rw[Aq (As q hn)];exact q
 tbls:=λb ps q=>⟨#[],by rw[Aq (As q hn),q];simp⟩
theorem Un.write (mu:Mut (H x))(he:e=x∨H e=some (.own x))(k: ∀b u,b≠e->h.get? b=some u->h'.get? b=some u)(heo: ∃u,h'.get? e=some u):Un fs ex H (upd H x o) h h':=by
 have hx: ∀b,H b=none->b≠x:=λb n z=>by subst z;rw[n] at mu;exact mu
 have hb: ∀b,H b=none->b≠e:=λb n z=>by
  subst z
  rcases he with r|r
  · exact hx b n r
  · rw[n] at r;cases r
 have hm: ∀b u,H b=some u-> ¬Mut (some u)->b≠x:=λb u q nm z=>by subst z;rw[q] at mu;exact nm mu
 refine⟨λb u q n _ _=>k b u (hb b n) q,λb u q n _ _=>⟨u.slots,k b u (hb b n) q⟩,λb u q n _=>by rw[Aq (hx b n)];exact n,λb u q _=>?_,
  λb xs q=>by rw[Aq (hm b _ q λz=>z)];exact q,λb u xs q=>by rw[Aq (hm b _ q λz=>z)];exact q,λb ps q=>⟨#[],by rw[Aq (hm b _ q λz=>z),q];simp⟩⟩
 by_cases hbe:b=e
 · subst hbe;exact heo
 · exact⟨u,k b u hbe q⟩
end
def trk (h:Heap)(H:Hp):List Addr:=(List.range h.objs.size).filter λa=>(H a).isSome
def j9 (h:Heap)(H:Hp):Heap:=W.hideAll h (trk h H)
theorem ba (h:Heap)(H:Hp):(j9 h H).objs.size=h.objs.size:=W.hideAll_size _ _
theorem i7 {h:Heap}{H:Hp}{b:Addr}{o:Obj}(e:h.get? b=some o)(n:H b=none):(j9 h H).get? b=some o:=
 W.hideAll_get _ e λhm=>by
  have q:(H b).isSome=true:=(Aeb.mp hm).2
  rw[n] at q;simp at q
theorem qk {h:Heap}{H:Hp}{b:Addr}{o:Obj}(e:(j9 h H).get? b=some o):h.get? b=some o/\H b=none:=by
 have e':h.get? b=some o:=W.of_hideAll (trk h H) e
 refine⟨e',?_⟩
 cases q:H b with
 | none=>rfl
 |
  some x=>
  have hm:b∈trk h H:=Aeb.mpr ⟨Aeo.mpr (Adm e'),by simp[q]⟩
  have z:(j9 h H).get? b=none:=W.hideAll_none (trk h H) hm
  rw[z] at e;cases e
structure Mod (K:W.Frag)(mg:Str->Option Value)(base:Heap):Prop where
 kin:K.In base
 glob:base.Ns mainGlobals mg
 blt: ∃mb,base.Ns builtinsNs mb/\ ∀x:Str,x≠"__name__"->mb x=bootBuiltins x
 nolimit:base.NoLimit
structure Cx where
 prog:Program
 w:World
 K:W.Frag
 mg:Str->Option Value
 base:Heap
 A:Around
 N:List Str
 s₀:Shared
 H₀:Hp
 env:Env
 outer:List Env
 stack:List Env
 ex:List Addr
 fn:Str->Bool
 calm:Bool
 pn:List (Addr×Obj)
 xe:Value->Shared->Prop
def frs (l:List Env):List Addr:=l.filterMap (·.frame)
abbrev Cx.fs (X:Cx):List Addr:=frs X.outer
def Vis (sc:Scope)(x:Str):Prop:=sc.names.lookup x=some .local∨sc.names.lookup x=some .cell∨sc.names.lookup x=some .free
def Loc (sc:Scope)(x:Str):Prop:=sc.names.lookup x=some .local∨sc.names.lookup x=some .cell
def Look (env:Env)(h:Heap)(m:Str->Option Value)(x:Str)(u:Value):Prop:=
 (env.kindOf x=some .local/\m x=some u)∨((env.kindOf x=some .cell∨env.kindOf x=some .free)/\ ∃c,env.cells.lookup x=some c/\h.IsCell c (some u))
structure Cx.Ok (X:Cx):Prop where
 mod:Mod X.K X.mg X.base
 kind:X.env.scope.kind=.function
 glob:X.env.globals=mainGlobals
 blt:X.env.builtins=builtinsNs
 above:X.s₀.heap.objs.size<=X.env.locals
 inj: ∀x y c,X.env.cells.lookup x=some c->X.env.cells.lookup y=some c->x=y
 has: ∀x,(X.env.kindOf x=some .cell∨X.env.kindOf x=some .free)-> ∃c,X.env.cells.lookup x=some c
 cab: ∀x c,X.fn x=true->X.env.cells.lookup x=some c->X.s₀.heap.objs.size<=c
 hd:X.calm=true->X.A.handled=none
 frames:X.A.frames=some X.stack
 stk:X.stack=X.outer∨(X.stack=X.env::X.outer/\X.env.frame=some X.env.locals)
 exf: ∀b∈X.ex,b≠X.env.locals/\ ∀x c,X.env.cells.lookup x=some c->c≠b
 bs: ∀b o,X.base.get? b=some o->X.s₀.heap.get? b=some o/\X.H₀ b=none
 bsz:X.base.objs.size<=X.s₀.heap.objs.size
 noex: ∀b o,X.base.get? b=some o->b∉X.ex
 exfs: ∀b∈X.ex,b∉X.fs
 funs:X.s₀.heap.FunFrames X.base X.outer
 frf: ∀b∈X.fs,X.H₀ b=none
structure Inv (X:Cx)(pins:List (Addr×Obj))(σ:List (Option V))(H:Hp)(s:Shared):Prop where
 ok:X.Ok
 os:s.os=X.s₀.os
 bare:AllBare s.gens
 base:Un X.fs X.ex X.H₀ H X.s₀.heap s.heap
 loc: ∃m,s.heap.Ns X.env.locals m/\ ∀(i:Nat)(x:Str)(v:V),X.N[i]?=some x->σ[i]?=some (some v)->Vis X.env.scope x-> ∃u,RelV v u/\Look X.env s.heap m x u
 cell: ∀x c,X.env.cells.lookup x=some c-> ∃v,s.heap.IsCell c v
 free:H X.env.locals=none
 freeC: ∀x c,X.env.cells.lookup x=some c->H c=none
 pin: ∀p∈X.pn++pins,s.heap.get? p.1=some p.2/\H p.1=none/\p.1≠X.env.locals/\p.1∉X.fs/\ ∀v,p.2.data≠ .cell v
 hok:HOk X.prog X.w H s.heap
 len:σ.length=X.N.length
section
variable {X:Cx}{pins:List (Addr×Obj)}{σ:List (Option V)}{H H':Hp}{s:Shared}{h':Heap}
theorem Cx.Ok.nofr (ok:X.Ok){b:Addr}{o:Obj}(e:X.base.get? b=some o):b∉X.fs:=λhb=>by
 have:=(ok.funs.mem hb).1
 rw[e] at this;cases this
theorem Inv.bs (I:Inv X pins σ H s): ∀b o,X.base.get? b=some o->s.heap.get? b=some o/\H b=none:=λb o e=>
 ⟨I.base.keep b o (I.ok.bs b o e).1 (I.ok.bs b o e).2 (I.ok.nofr e) (I.ok.noex b o e),I.base.free b o (I.ok.bs b o e).1 (I.ok.bs b o e).2 (I.ok.noex b o e)⟩
theorem Inv.bk (I:Inv X pins σ H s): ∀b o,X.base.get? b=some o->s.heap.get? b=some o:=λb o e=>(I.bs b o e).1
theorem Inv.mod (I:Inv X pins σ H s):Mod X.K X.mg X.base:=I.ok.mod
theorem Inv.kIn (I:Inv X pins σ H s):X.K.In s.heap:=I.ok.mod.kin.keeps I.bk
theorem Inv.lt (I:Inv X pins σ H s):X.env.locals<s.heap.objs.size:=let ⟨_,hn,_⟩:=I.loc;hn.lt
theorem Inv.sz (I:Inv X pins σ H s):X.s₀.heap.objs.size<=s.heap.objs.size:=Ady I.ok.above (Aif I.lt)
theorem Inv.nofs (I:Inv X pins σ H s){a:Addr}(h:s.heap.objs.size<=a):a∉X.fs:=λhb=>by
 obtain⟨_,o,ho,_⟩:=I.ok.funs.mem hb
 exact absurd (Aei (Adm ho) (Ady I.sz h)) (Ae7 _)
theorem Inv.cne (I:Inv X pins σ H s): ∀x c,X.env.cells.lookup x=some c->c≠X.env.locals:=λx c e z=>by
 obtain⟨v,o,ho,hd⟩:=I.cell x c e
 obtain⟨m,⟨o',es,ep,ho',hd',_⟩,_⟩:=I.loc
 rw[z,ho'] at ho;cases ho;rw[hd'] at hd;cases hd
theorem Inv.funs (I:Inv X pins σ H s):s.heap.FunFrames X.base X.outer:=by
 have all: ∀(l:List Env),(∀b∈frs l,b∈X.fs)->X.s₀.heap.FunFrames X.base l->s.heap.FunFrames X.base l:=by
  intro l
  induction l with
  | nil=>intro _ _;trivial
  |
   cons env r ih=>
   intro hs hl
   obtain⟨hk,⟨L,o,hf,hn,ho,hd⟩,hr⟩:=hl
   have hL:L∈X.fs:=hs L (by unfold frs;rw[Air,hf];exact Ac8)
   obtain⟨sl,e⟩:=I.base.slot L o ho (I.ok.frf L hL) hL λz=>I.ok.exfs L z hL
   exact⟨hk,⟨L,_,hf,hn,e,hd⟩,ih (λb hb=>hs b (by unfold frs;rw[Air,hf];exact Adi _ hb)) hr⟩
 exact all X.outer (λ_ hb=>hb) I.ok.funs
theorem Inv.stack (I:Inv X pins σ H s):s.heap.FunFrames X.base X.stack:=by
 rcases I.ok.stk with e|⟨e,hf⟩
 · rw[e];exact I.funs
 ·
  rw[e]
  obtain⟨m,hn,_⟩:=I.loc
  refine .cons (by rw[I.ok.kind];decide) hf hn ?_ I.funs
  exact Heap.get?_none_of_le (Ady I.ok.bsz I.ok.above)
theorem Inv.stkSub (I:Inv X pins σ H s): ∀b∈frs X.stack,b∈X.env.locals::X.fs:=λb hb=>by
 rcases I.ok.stk with e|⟨e,hf⟩
 · rw[e] at hb;exact Adi _ hb
 ·
  rw[e] at hb
  unfold frs at hb
  rw[Air,hf] at hb
  exact hb
theorem Inv.stkFree (I:Inv X pins σ H s): ∀b∈frs X.stack,H b=none:=λb hb=>by
 rcases Ado.mp (I.stkSub b hb) with e|hb
 · rw[e];exact I.free
 ·
  obtain⟨_,o,ho,_⟩:=I.ok.funs.mem hb
  exact I.base.free b o ho (I.ok.frf b hb) λz=>I.ok.exfs b z hb
theorem Inv.step {g':Array GenState}{t':Nat}{d':Drawn}{ch:List Addr}(I:Inv X pins σ H s)
  (hch: ∀b∈ch,(b∈X.ex∨X.s₀.heap.objs.size<=b)/\b≠X.env.locals/\(∀x c,X.env.cells.lookup x=some c->c≠b)/\ ∀p∈X.pn++pins,p.1≠b)
  (keep: ∀b o,b≠X.env.locals->b∉X.fs->b∉ch->s.heap.get? b=some o->H b=none->h'.get? b=some o)
  (slot: ∀b o,b≠X.env.locals->b∈X.fs->b∉ch->s.heap.get? b=some o->H b=none-> ∃sl,h'.get? b=some {o with slots:=sl}) (free: ∀b o,b∉ch->s.heap.get? b=some o->H b=none->H' b=none)
  (there: ∀b o,b∉ch->s.heap.get? b=some o-> ∃o',h'.get? b=some o')
  (tups: ∀b xs,H b=some (.tup xs)->H' b=some (.tup xs)) (frzs: ∀b o u,H b=some (.frz o u)->H' b=some (.frz o u)) (tbls: ∀b ps,H b=some (.tbl ps)-> ∃more,H' b=some (.tbl (ps++more)))
  (ns: ∀m,s.heap.Ns X.env.locals m->h'.Ns X.env.locals m) (hok:HOk X.prog X.w H' h') (hg:AllBare g'):
  Inv X pins σ H' {s with heap:=h',gens:=g',drawn:=d',toks:=t'}:=by
 have neL: ∀b o,X.s₀.heap.get? b=some o->b≠X.env.locals:=λb o e=>Ad9 (Aei (Adm e) I.ok.above)
 have neC: ∀b o,X.s₀.heap.get? b=some o->b∉X.ex->b∉ch:=λb o e hx hb=>by
  rcases(hch b hb).1 with z|z
  · exact hx z
  · exact absurd (Aei (Adm e) z) (Ae7 _)
 have cellK: ∀x c,X.env.cells.lookup x=some c-> ∀v,s.heap.IsCell c v->h'.IsCell c v:=λx c e v ⟨o,ho,hd⟩=>by
  have nch:c∉ch:=λz=>(hch c z).2.2.1 x c e rfl
  by_cases hc:c∈X.fs
  ·
   obtain⟨sl,q⟩:=slot c o (I.cne x c e) hc nch ho (I.freeC x c e)
   exact⟨_,q,hd⟩
  · exact⟨o,keep c o (I.cne x c e) hc nch ho (I.freeC x c e),hd⟩
 refine⟨I.ok,I.os,hg,⟨λb o e n hb hx=>?_,λb o e n hb hx=>?_,λb o e n hx=>?_,λb o e hx=>?_,λb xs e=>tups b xs (I.base.tups b xs e),λb o xs e=>frzs b o xs (I.base.frzs b o xs e),λb ps e=>?_⟩,?_,λx c e=>?_,?_,λx c e=>?_,λp hp=>?_,hok,I.len⟩
 · exact keep b o (neL b o e) hb (neC b o e hx) (I.base.keep b o e n hb hx) (I.base.free b o e n hx)
 ·
  obtain⟨sl,e1⟩:=I.base.slot b o e n hb hx
  obtain⟨sl',e2⟩:=slot b _ (neL b o e) hb (neC b o e hx) e1 (I.base.free b o e n hx)
  exact⟨sl',e2⟩
 ·
  obtain⟨o',e1⟩:=I.base.there b o e hx
  exact free b o' (neC b o e hx) e1 (I.base.free b o e n hx)
 ·
  obtain⟨o',e1⟩:=I.base.there b o e hx
  exact there b o' (neC b o e hx) e1
 ·
  obtain⟨m1,e1⟩:=I.base.tbls b ps e
  obtain⟨m2,e2⟩:=tbls b _ e1
  exact⟨m1++m2,by rw[e2,Array.append_assoc]⟩
 ·
  obtain⟨m,hn,hl⟩:=I.loc
  refine⟨m,ns m hn,λi x v e1 e2 e3=>?_⟩
  obtain⟨u,r,l⟩:=hl i x v e1 e2 e3
  refine⟨u,r,?_⟩
  rcases l with l|⟨k,c,e,z⟩
  · exact .inl l
  · exact .inr ⟨k,c,e,cellK x c e _ z⟩
 ·
  obtain⟨v,z⟩:=I.cell x c e
  exact⟨v,cellK x c e v z⟩
 ·
  obtain⟨m,⟨o,_,_,ho,_⟩,_⟩:=I.loc
  exact free _ o (λz=>(hch _ z).2.1 rfl) ho I.free
 ·
  obtain⟨v,o,ho,hd⟩:=I.cell x c e
  exact free c o (λz=>(hch c z).2.2.1 x c e rfl) ho (I.freeC x c e)
 ·
  obtain⟨e,n,ne,nf,d⟩:=I.pin p hp
  have nch:p.1∉ch:=λz=>(hch p.1 z).2.2.2 p hp rfl
  exact⟨keep p.1 p.2 ne nf nch e n,free p.1 p.2 nch e n,ne,nf,d⟩
theorem Inv.un {t':Nat}(I:Inv X pins σ H s)(u:Un X.fs [] H H' s.heap h')(hok:HOk X.prog X.w H' h'):Inv X pins σ H' {s with heap:=h',toks:=t'}:=by
 obtain⟨m,⟨o,es,ep,ho,r⟩,_⟩:=id I.loc
 obtain⟨sl,hL⟩:=u.any ho I.free (by simp)
 exact I.step (g':=s.gens) (d':=s.drawn) (ch:=[]) (λ_ z=>nomatch z) (λb o _ hb _ e n=>u.keep b o e n hb (by simp)) (λb o _ hb _ e n=>u.slot b o e n hb (by simp)) (λb o _ e n=>u.free b o e n (by simp)) (λb o _ e=>u.there b o e (by simp)) u.tups u.frzs u.tbls (λm' hm=>by
  obtain⟨o',es',ep',ho',r'⟩:=hm
  rw[ho] at ho';cases ho'
  exact⟨_,es',ep',hL,r'⟩) hok I.bare
theorem Inv.call {g':Array GenState}{t':Nat}{d':Drawn}{ch:List Addr}(I:Inv X pins σ H s)(u:Un (frs X.stack) ch H H' s.heap h')(hok:HOk X.prog X.w H' h')(hg:AllBare g')
  (hch: ∀b∈ch,(b∈X.ex∨X.s₀.heap.objs.size<=b)/\b≠X.env.locals/\(∀x c,X.env.cells.lookup x=some c->c≠b)/\ ∀p∈X.pn++pins,p.1≠b):
  Inv X pins σ H' {s with heap:=h',gens:=g',drawn:=d',toks:=t'}:=by
 obtain⟨m,⟨o,es,ep,ho,r⟩,_⟩:=id I.loc
 obtain⟨sl,hL⟩:=u.any ho I.free λz=>(hch _ z).2.1 rfl
 exact I.step (ch:=ch) hch (λb o hL hb hc e n=>u.keep b o e n (λz=>(Ado.mp (I.stkSub b z)).elim hL hb) hc) (λb o _ _ hc e n=>u.any e n hc) (λb o hc e n=>u.free b o e n hc) (λb o hc e=>u.there b o e hc) u.tups u.frzs u.tbls (λm' hm=>by
  obtain⟨o',es',ep',ho',r'⟩:=hm
  rw[ho] at ho';cases ho'
  exact⟨_,es',ep',hL,r'⟩) hok hg
theorem Inv.turned {t':Nat}{it:Addr}(I:Inv X pins σ H s)(k: ∀b o,b≠it->s.heap.get? b=some o->h'.get? b=some o)(hn:H it=none)(hL:it≠X.env.locals)
  (h1:it∈X.ex∨X.s₀.heap.objs.size<=it) (h2: ∀x c,X.env.cells.lookup x=some c->c≠it) (h3: ∀p∈X.pn++pins,p.1≠it):Inv X pins σ H {s with heap:=h',toks:=t'}:=by
 have nit: ∀b u,H b=some u->b≠it:=λb u e z=>by rw[z,hn] at e;cases e
 refine I.step (g':=s.gens) (d':=s.drawn) (ch:=[it]) (λb hb=>?_) (λb o _ _ hc e _=>k b o (λz=>hc (by simp[z])) e) (λb o _ _ hc e _=>⟨o.slots,k b o (λz=>hc (by simp[z])) e⟩) (λ_ _ _ _ n=>n)
  (λb o hc e=>⟨o,k b o (λz=>hc (by simp[z])) e⟩) (λ_ _ e=>e) (λ_ _ _ e=>e) (λb ps e=>⟨#[],by rw[e];simp⟩) (λm hm=>?_) (λb u e=>?_) I.bare
 ·
  have e:b=it:=by simpa using hb
  subst e
  exact⟨h1,hL,h2,h3⟩
 ·
  obtain⟨o,es,ep,ho,r⟩:=hm
  exact⟨o,es,ep,k _ o (Ah3 hL) ho,r⟩
 ·
  refine(I.hok b u e).stay (λc v hc q=>k c v ?_ q) (λ_ q=>q) λ_ _ q=>q
  rcases hc with z|z
  · rw[z];exact nit b u e
  · exact nit c _ z
theorem Inv.tok (I:Inv X pins σ H s)(t:Nat):Inv X pins σ H {s with toks:=t}:=I.un (h':=s.heap) (t':=t) Un.refl I.hok
theorem Inv.kept {t':Nat}(I:Inv X pins σ H s)(k: ∀b u,s.heap.get? b=some u->h'.get? b=some u):Inv X pins σ H {s with heap:=h',toks:=t'}:=I.un (Un.kept k) (I.hok.kept k)
theorem Inv.laid {a:Addr}{o:HO}{t':Nat}(I:Inv X pins σ H s)(k: ∀b u,s.heap.get? b=some u->h'.get? b=some u)(hp:s.heap.objs.size<=a)(new:ObjOk X.prog X.w (upd H a o) h' a o):
 Inv X pins σ (upd H a o) {s with heap:=h',toks:=t'}:=I.un (Un.laid k hp (I.hok.fresh hp)) (I.hok.laid k hp new)
theorem Inv.write {x e:Addr}{o:HO}{t':Nat}(I:Inv X pins σ H s)(mu:Mut (H x))(he:e=x∨H e=some (.own x))(k: ∀b u,b≠e->s.heap.get? b=some u->h'.get? b=some u)(heo: ∃u,h'.get? e=some u)
 (new:ObjOk X.prog X.w (upd H x o) h' x o):Inv X pins σ (upd H x o) {s with heap:=h',toks:=t'}:=I.un (Un.write mu he k heo) (I.hok.write mu he k heo new)
theorem Inv.pins_of {pins':List (Addr×Obj)}(I:Inv X pins σ H s)(h: ∀p∈pins',s.heap.get? p.1=some p.2/\H p.1=none/\p.1≠X.env.locals/\p.1∉X.fs/\ ∀v,p.2.data≠ .cell v):Inv X pins' σ H s:=
 ⟨I.ok,I.os,I.bare,I.base,I.loc,I.cell,I.free,I.freeC,λp hp=>(Adq.mp hp).elim (λz=>I.pin p (Ae4 _ z)) (h p),I.hok,I.len⟩
theorem Yi {N:List Str}(hN:N.Nodup){i j:Nat}{x:Str}(a:N[i]?=some x)(b:N[j]?=some x):i=j:=by
 obtain⟨h1,e1⟩:=Aed.mp a
 obtain⟨h2,e2⟩:=Aed.mp b
 exact(List.getElem_inj hN).mp (e1.trans e2.symm)
theorem Uy {M:Model}{A:Around}{E:Value->Shared->Prop}{i:Nat}{x:Str}{v:V}{u:Value}{Q:Unit->Shared->Prop}(I:Inv X pins σ H s)(hN:X.N.Nodup)(hi:X.N[i]?=some x)(hx:Loc X.env.scope x)(r:RelV v u)
  (h: ∀s',Inv X pins (σ.set i (some v)) H s'->(∃a,Heap.SameBut a s.heap s'.heap/\(a=X.env.locals∨X.env.cells.lookup x=some a))->Q () s') (hf:X.fn x=true∨X.env.scope.names.lookup x=some .local:=by first|exact .inl rfl|exact .inr rfl|assumption):wpAny M A (storeName X.env x u) Q E s:=by
 obtain⟨m,hn,hl⟩:=id I.loc
 have hcls:(X.env.scope.kind== .class||(X.env.scope.kind== .module&&X.env.locals != X.env.globals))=false:=by rw[I.ok.kind];rfl
 have hiσ:i<σ.length:=by rw[I.len];exact(Aed.mp hi).1
 have cne:=I.cne
 have tracked: ∀{a:Addr}{h':Heap},(∃o,s.heap.get? a=some o/\H a=none)->Heap.SameBut a s.heap h'->HOk X.prog X.w H h':=λ{a h'}ha hs b ob e=>by
  obtain⟨_,_,hfree⟩:=ha
  refine(I.hok b ob e).stay (λc w' hc q=>(hs.2 c ?_).trans q) (λ_ q=>q) λ_ _ q=>q
  rintro rfl
  rcases hc with rfl|hc
  · rw[hfree] at e;cases e
  · rw[hfree] at hc;cases hc
 rcases hx with hk|hk
 ·
  refine wpAny_storeName_local hk hn (λh' hn' hs=>?_) hcls
  obtain⟨oL,_,_,hoL,_⟩:=id hn
  refine h _ ⟨I.ok,I.os,I.bare,⟨λb o e n hb hx=>?_,λb o e n hb hx=>?_,I.base.free,λb o e hx=>?_,I.base.tups,I.base.frzs,I.base.tbls⟩,⟨_,hn',λj y v' e1 e2 e3=>?_⟩,λy c e=>?_,I.free,I.freeC,λp hp=>?_,tracked ⟨oL,hoL,I.free⟩ hs,by simpa using I.len⟩ ⟨_,hs,.inl rfl⟩
  · exact(hs.2 b (Ad9 (Aei (Adm e) I.ok.above))).trans (I.base.keep b o e n hb hx)
  ·
   obtain⟨sl,e1⟩:=I.base.slot b o e n hb hx
   exact⟨sl,(hs.2 b (Ad9 (Aei (Adm e) I.ok.above))).trans e1⟩
  ·
   obtain⟨o',e1⟩:=I.base.there b o e hx
   exact⟨o',(hs.2 b (Ad9 (Aei (Adm e) I.ok.above))).trans e1⟩
  ·
   by_cases hj:j=i
   ·
    subst hj
    rw[hi] at e1;cases e1
    rw[List.getElem?_set_self hiσ] at e2
    cases e2
    exact⟨u,r,.inl ⟨hk,by simp⟩⟩
   ·
    rw[List.getElem?_set_ne (Ah3 hj)] at e2
    obtain⟨u',r',q⟩:=hl j y v' e1 e2 e3
    refine⟨u',r',?_⟩
    rcases q with⟨k,e⟩|⟨k,c,e,z⟩
    ·
     refine .inl ⟨k,?_⟩
     have:y≠x:=λe=>hj (Yi hN e1 (e▸hi))
     simp[this,e]
    · exact .inr ⟨k,c,e,z.sameBut hs (cne y c e)⟩
  ·
   obtain⟨w',z⟩:=I.cell y c e
   exact⟨w',z.sameBut hs (cne y c e)⟩
  ·
   obtain⟨e,n,ne,nf,d⟩:=I.pin p hp
   exact⟨(hs.2 p.1 ne).trans e,n,ne,nf,d⟩
 ·
  have hfn:X.fn x=true:=by
   rcases hf with z|z
   · exact z
   · rw[z] at hk;cases hk
  obtain⟨c,hc⟩:=I.ok.has x (.inl hk)
  obtain⟨w',z⟩:=I.cell x c hc
  refine wpAny_storeName_cell I.ok.kind hk hc z (λh' hc' hs=>?_)
  obtain⟨oc,hoc,hocd⟩:=id z
  refine h {s with heap:=h'} ⟨I.ok,I.os,I.bare,⟨λb o e n hb hx=>?_,λb o e n hb hx=>?_,I.base.free,λb o e hx=>?_,I.base.tups,I.base.frzs,I.base.tbls⟩,⟨m,hn.sameBut hs (Ah3 (cne x c hc)),λj y v' e1 e2 e3=>?_⟩,λy c' e=>?_,I.free,I.freeC,λp hp=>?_,tracked ⟨oc,hoc,I.freeC x c hc⟩ hs,by simpa using I.len⟩ ⟨c,hs,.inr hc⟩
  · exact(hs.2 b (Ad9 (Aei (Adm e) (I.ok.cab x c hfn hc)))).trans (I.base.keep b o e n hb hx)
  ·
   obtain⟨sl,e1⟩:=I.base.slot b o e n hb hx
   exact⟨sl,(hs.2 b (Ad9 (Aei (Adm e) (I.ok.cab x c hfn hc)))).trans e1⟩
  ·
   obtain⟨o',e1⟩:=I.base.there b o e hx
   exact⟨o',(hs.2 b (Ad9 (Aei (Adm e) (I.ok.cab x c hfn hc)))).trans e1⟩
  ·
   by_cases hj:j=i
   ·
    subst hj
    rw[hi] at e1;cases e1
    rw[List.getElem?_set_self hiσ] at e2
    cases e2
    exact⟨u,r,.inr ⟨.inl hk,c,hc,hc'⟩⟩
   ·
    rw[List.getElem?_set_ne (Ah3 hj)] at e2
    obtain⟨u',r',q⟩:=hl j y v' e1 e2 e3
    refine⟨u',r',?_⟩
    rcases q with q|⟨k,c',e,z'⟩
    · exact .inl q
    ·
     refine .inr ⟨k,c',e,z'.sameBut hs ?_⟩
     rintro rfl
     exact hj (Yi hN e1 (I.ok.inj _ _ _ e hc▸hi))
  ·
   by_cases hcc:c'=c
   · subst hcc;exact⟨_,hc'⟩
   ·
    obtain⟨w2,z2⟩:=I.cell y c' e
    exact⟨w2,z2.sameBut hs hcc⟩
  ·
   obtain⟨e,n,ne,nf,d⟩:=I.pin p hp
   refine⟨(hs.2 p.1 ?_).trans e,n,ne,nf,d⟩
   intro q
   rw[q,hoc] at e
   have q':oc=p.2:=Adt e
   exact d w' (by rw[←q'];exact hocd)
theorem X5 {M:Model}{A:Around}{E:Value->Shared->Prop}{i:Nat}{x:Str}{v:V}{u:Value}{Q:Unit->Shared->Prop}(I:Inv X pins σ H s)(hN:X.N.Nodup)(hi:X.N[i]?=some x)(hx:Loc X.env.scope x)(r:RelV v u)
  (h: ∀s',Inv X pins (σ.set i (some v)) H s'->Q () s') (hf:X.fn x=true∨X.env.scope.names.lookup x=some .local:=by first|exact .inl rfl|exact .inr rfl|assumption):wpAny M A (storeName X.env x u) Q E s:=
 Uy I hN hi hx r (λs' I' _=>h s' I') hf
theorem Inv.call' {s':Shared}{ch:List Addr}(I:Inv X pins σ H s)(ho:s'.os=s.os)(u:Un (frs X.stack) ch H H' s.heap s'.heap)(hok:HOk X.prog X.w H' s'.heap)(hg:AllBare s'.gens)
  (hch: ∀b∈ch,(b∈X.ex∨X.s₀.heap.objs.size<=b)/\b≠X.env.locals/\(∀x c,X.env.cells.lookup x=some c->c≠b)/\ ∀p∈X.pn++pins,p.1≠b):Inv X pins σ H' s':=by
 obtain⟨h',g',d',t',o'⟩:=s'
 have e:o'=s.os:=ho
 subst e
 exact I.call (g':=g') (t':=t') (d':=d') u hok hg hch
end
abbrev XK:=Value->Option Addr->Hp->Prop
abbrev St:=List (Option V)
abbrev VK:=V->Hp->Prop
abbrev TE:=St->Hp->VK->Prop
abbrev TT:=St->Hp->(Bool->Hp->Prop)->Prop
abbrev TA:=St->Hp->(List V->Hp->Prop)->Prop
structure Ends where
 nx:St->Hp->Prop
 rt:St->VK
 bk:St->Hp->Prop:=λ_ _=>False
 ct:St->Hp->Prop:=λ_ _=>False
abbrev TS:=Ends->St->Hp->Prop
def EP (X:Cx)(pins:List (Addr×Obj))(σ:St)(Q:VK)(u:Value)(s':Shared):Prop:=∃v H',Inv X pins σ H' s'/\RelV v u/\Q v H'
def TP (X:Cx)(pins:List (Addr×Obj))(σ:St)(Q:Bool->Hp->Prop)(b:Bool)(s':Shared):Prop:=∃H',Inv X pins σ H' s'/\Q b H'
def AP (X:Cx)(pins:List (Addr×Obj))(σ:St)(Q:List V->Hp->Prop)(us:List Value)(s':Shared):Prop:=∃vs H',Inv X pins σ H' s'/\Vals vs us/\Q vs H'
def SP (X:Cx)(pins:List (Addr×Obj))(D:Ends)(f:Flow)(s':Shared):Prop:=
 match f with
 | .next=>∃σ' H',Inv X pins σ' H' s'/\D.nx σ' H'
 | .brk=>∃σ' H',Inv X pins σ' H' s'/\D.bk σ' H'
 | .cont=>∃σ' H',Inv X pins σ' H' s'/\D.ct σ' H'
 | .ret u=>∃v σ' H',Inv X pins σ' H' s'/\RelV v u/\D.rt σ' v H'
def PE (X:Cx)(e:Expr)(t:TE):Prop:=
 ∀(pins:List (Addr×Obj))(s:Shared)(σ:St)(H:Hp)(Q:VK),Inv X pins σ H s->t σ H Q->wpAny (model X.prog X.w) X.A (eval e X.env) (EP X pins σ Q) X.xe s
def PT (X:Cx)(e:Expr)(t:TT):Prop:=
 ∀(pins:List (Addr×Obj))(s:Shared)(σ:St)(H:Hp)(Q:Bool->Hp->Prop),Inv X pins σ H s->t σ H Q->wpAny (model X.prog X.w) X.A (isTrue e X.env (eval e X.env)) (TP X pins σ Q) X.xe s
def PW (X:Cx)(e:Expr)(t:TT):Prop:=
 ∀(whole:Sem Value)(pins:List (Addr×Obj))(s:Shared)(σ:St)(H:Hp)(Q:Bool->Hp->Prop),Inv X pins σ H s->t σ H Q->wpAny (model X.prog X.w) X.A (isTrue e X.env whole) (TP X pins σ Q) X.xe s
theorem PW.pt {X:Cx}{e:Expr}{t:TT}(h:PW X e t):PT X e t:=h _
def PA (X:Cx)(es:List Expr)(t:TA):Prop:=
 ∀(pos:Pos)(pins:List (Addr×Obj))(s:Shared)(σ:St)(H:Hp)(Q:List V->Hp->Prop),Inv X pins σ H s->t σ H Q->wpAny (model X.prog X.w) X.A (spliced (backTo pos (starEach es X.env))) (AP X pins σ Q) X.xe s
def PS (X:Cx)(st:Stmt)(t:TS):Prop:=
 ∀(pins:List (Addr×Obj))(s:Shared)(σ:St)(H:Hp)(D:Ends),Inv X pins σ H s->t D σ H->wpAny (model X.prog X.w) X.A (exec st X.env) (SP X pins D) X.xe s
def PSs (X:Cx)(st:List Stmt)(t:TS):Prop:=
 ∀(pins:List (Addr×Obj))(s:Shared)(σ:St)(H:Hp)(D:Ends),Inv X pins σ H s->t D σ H->wpAny (model X.prog X.w) X.A (execs st X.env) (SP X pins D) X.xe s
theorem thn {α:Type}{t:Sem α}{Q Q':α->Shared->Prop}{M:Model}{A:Around}{E:Value->Shared->Prop}{s:Shared}(h:wpAny M A t Q E s)(hQ: ∀a s,Q a s->Q' a s):wpAny M A t Q' E s:=Afa h hQ λ_ _ x=>x
section
variable {X:Cx}
def Aai (i:Nat):TE:=λσ H Q=>∃v,σ[i]?=some (some v)/\Q v H
def tC (v:V):TE:=λ_ H Q=>Q v H
theorem m5 {i:Nat}{x:Str}{pos:Pos}(hN:X.N[i]?=some x)(hv:Vis X.env.scope x)(hd:(x==("__debug__":Str))=false:=by decide)(hcd:(x==("__classdict__":Str))=false:=by decide):PE X (.Name x pos) (Aai i):=by
 intro pins s σ H Q I h
 obtain⟨v,e,h⟩:=h
 obtain⟨m,hn,hl⟩:=I.loc
 obtain⟨u,r,l⟩:=hl i x v hN e hv
 have fin:EP X pins σ Q u s:=⟨v,H,I,r,h⟩
 rcases l with⟨hk,hm⟩|⟨hk,c,hc,hcell⟩
 · exact wpAny_Name (wpAny_loadName_local I.ok.kind hk hn hm fin) hd
 ·
  rcases hk with hk|hk
  · exact wpAny_Name (wpAny_loadName_cell I.ok.kind hk hc hcell fin) hd
  · exact wpAny_Name (wpAny_loadName_free I.ok.kind hk hc hcell fin hcd) hd
theorem Ab {i j pos}:PE X (.Constant (.int i) j pos) (tC (.int i)):=λ_ _ _ H _ I h=>wpAny_Constant_int ⟨.int i,H,I.tok _,⟨_,rfl⟩,h⟩
theorem Gm {b j pos}:PE X (.Constant (.bool b) j pos) (tC (.bl b)):=λ_ _ _ H _ I h=>Constant_bool ⟨.bl b,H,I,rfl,h⟩
theorem Gu {j pos}:PE X (.Constant .none j pos) (tC .non):=λ_ _ _ H _ I h=>Constant_none ⟨.non,H,I,rfl,h⟩
theorem Bo {x j pos}:PE X (.Constant (.str x) j pos) (tC (.str x)):=λ_ _ _ H _ I h=>Calls.Constant_str ⟨.str x,H,I.tok _,⟨_,rfl⟩,h⟩
def Gl (X:Cx)(x:Str):Prop:=X.env.kindOf x=some .globalImplicit
theorem Tf {E:Value->Shared->Prop}{pins:List (Addr×Obj)}{s:Shared}{σ:St}{H:Hp}{x:Str}{u:Value}{pos:Pos}{Q:Value->Shared->Prop}(I:Inv X pins σ H s)(hg:Gl X x)(hm:X.mg x=some u)(h:Q u s)
  (hd:(x==("__debug__":Str))=false:=by decide):wpAny (model X.prog X.w) X.A (eval (.Name x pos) X.env) Q E s:=
 Calls.Name_function_global I.ok.kind hg (Calls.loadGlobal_global (by rw[I.ok.glob];exact I.mod.glob.keeps I.bk) hm h) hd
theorem Qo {E:Value->Shared->Prop}{pins:List (Addr×Obj)}{s:Shared}{σ:St}{H:Hp}{x:Str}{u:Value}{pos:Pos}{Q:Value->Shared->Prop}(I:Inv X pins σ H s)(hg:Gl X x)(hm:X.mg x=none)(hv:bootBuiltins x=some u)(h:Q u s)
  (hn:x≠"__name__":=by decide) (hd:(x==("__debug__":Str))=false:=by decide):wpAny (model X.prog X.w) X.A (eval (.Name x pos) X.env) Q E s:=by
 obtain⟨mb,h1,h2⟩:=I.mod.blt
 exact Calls.Name_function_global I.ok.kind hg (Calls.loadGlobal_builtin (by rw[I.ok.glob];exact I.mod.glob.keeps I.bk) hm (by rw[I.ok.blt];exact h1.keeps I.bk) ((h2 x hn).trans hv) h) hd
theorem fu {x:Str}{v:V}{u:Value}{pos:Pos}(hg:Gl X x)(hm:X.mg x=some u)(r:RelV v u)(hd:(x==("__debug__":Str))=false:=by decide):PE X (.Name x pos) (tC v):=
 λ_ _ _ H _ I h=>Tf I hg hm ⟨v,H,I,r,h⟩ hd
theorem Cr {x:Str}{v:V}{u:Value}{pos:Pos}(hg:Gl X x)(hm:X.mg x=none)(hv:bootBuiltins x=some u)(r:RelV v u)(hn:x≠"__name__":=by decide)(hd:(x==("__debug__":Str))=false:=by decide):PE X (.Name x pos) (tC v):=
 λ_ _ _ H _ I h=>Qo I hg hm hv ⟨v,H,I,r,h⟩ hn hd
variable {a b:Expr}{ta tb:TE}{pos:Pos}
def PC (X:Cx)(op:CmpOp)(a b:Expr)(t:TE):Prop:=
 ∀(pins:List (Addr×Obj))(s:Shared)(σ:St)(H:Hp)(Q:VK),Inv X pins σ H s->t σ H Q->
  wpAny (model X.prog X.w) X.A (eval a X.env) (λv s₁=>wpAny (model X.prog X.w) X.A (eval b X.env) (λu s₂=>wpAny (model X.prog X.w) X.A (compareOp op v u) (EP X pins σ Q) X.xe s₂) X.xe s₁) X.xe s
def tB (t:TE):TT:=λσ H Q=>t σ H λx H1=>∃c,x=.bl c/\Q c H1
theorem af {op:CmpOp}{t:TE}(h:PC X op a b t)(h1:behindInMarks op b=false:=by first|exact nobehind _ (by decide) (by decide)|rfl):PT X (.Compare a [op] [b] pos) (tB t):=by
 intro pins s σ H Q I hw
 refine wpAny_isTrue_Compare1 (thn (h pins s σ H _ I hw) λv s1 h1=>thn h1 λu s2 h2=>thn h2 λc s3 ⟨x,H1,I1,r1,q1⟩=>?_) h1
 obtain⟨d,rfl,q⟩:=q1
 cases r1
 exact Ae2 ⟨H1,I1,q⟩
theorem X9 {e:Expr}{t:TE}(h:PE X e t)(he: ∀whole,isTrue e X.env whole=(do let v ←whole;standAt e.pos;holding [v] (truthy v)):=by intro _;rfl):PT X e (tB t):=by
 intro pins s σ H Q I hw
 refine isTrue_plain (thn (h pins s σ H _ I hw) λv s1 ⟨x,H1,I1,r1,q1⟩=>?_) (he _)
 obtain⟨d,rfl,q⟩:=q1
 cases r1
 exact Ae2 ⟨H1,I1,q⟩
variable {tA tB':TT}{rest:List Expr}
def Acy (t u:TT):TT:=λσ H Q=>t σ H λc H1=>if c=true then u σ H1 Q else Q false H1
def tOr (t u:TT):TT:=λσ H Q=>t σ H λc H1=>if c=true then Q true H1 else u σ H1 Q
def Abu (t:TT):TT:=λσ H Q=>t σ H λc H1=>Q (!c) H1
theorem F8 (ha:PT X a tA):PW X (.BoolOp .And [a] pos) tA:=by
 intro wh pins s σ H Q I h
 refine isTrue_and (thn (ha pins s σ H Q I h) λc s1 e=>?_)
 cases c with
 | true=>exact isTrue_and_nil e
 | false=>exact e
theorem Ka (ha:PT X a tA):PW X (.BoolOp .Or [a] pos) tA:=by
 intro wh pins s σ H Q I h
 refine isTrue_or (thn (ha pins s σ H Q I h) λc s1 e=>?_)
 cases c with
 | false=>exact isTrue_or_nil e
 | true=>exact e
theorem Tp (ha:PT X a tA)(hb:PW X (.BoolOp .And (b::rest) pos) tB'):PW X (.BoolOp .And (a::b::rest) pos) (Acy tA tB'):=by
 intro wh pins s σ H Q I h
 refine isTrue_and (thn (ha pins s σ H _ I h) λc s1 ⟨H1,I1,q1⟩=>?_)
 cases c with
 | true=>exact hb wh pins s1 σ H1 Q I1 q1
 | false=>exact⟨H1,I1,q1⟩
theorem su (ha:PT X a tA)(hb:PW X (.BoolOp .Or (b::rest) pos) tB'):PW X (.BoolOp .Or (a::b::rest) pos) (tOr tA tB'):=by
 intro wh pins s σ H Q I h
 refine isTrue_or (thn (ha pins s σ H _ I h) λc s1 ⟨H1,I1,q1⟩=>?_)
 cases c with
 | true=>exact⟨H1,I1,q1⟩
 | false=>exact hb wh pins s1 σ H1 Q I1 q1
theorem Ef (ha:PT X a tA):PT X (.UnaryOp .Not a pos) (Abu tA):=by
 intro pins s σ H Q I h
 exact isTrue_not (ha pins s σ H (λc H1=>Q (!c) H1) I h)
def zl (ta tb:TE):TE:=λσ H Q=>ta σ H λx H1=>∃c,x=.bl c/\if c=true then tb σ H1 Q else Q (.bl false) H1
def Acs (ta tb:TE):TE:=λσ H Q=>ta σ H λx H1=>∃c,x=.bl c/\if c=true then Q (.bl true) H1 else tb σ H1 Q
def Aa5 (ta:TE):TE:=λσ H Q=>ta σ H λx H1=>∃c,x=.bl c/\Q (.bl (!c)) H1
theorem Dv {op}{t:TE}(h:PE X a t):PE X (.BoolOp op [a] pos) t:=λpins s σ H Q I hw=>BoolOp_one (h pins s σ H Q I hw)
theorem Xr (ha:PE X a ta)(hb:PE X (.BoolOp .And (b::rest) pos) tb):PE X (.BoolOp .And (a::b::rest) pos) (zl ta tb):=by
 intro pins s σ H Q I h
 refine BoolOp_and (thn (ha pins s σ H _ I h) λv s1 ⟨x,H1,I1,r1,q1⟩=>?_)
 obtain⟨c,rfl,q1⟩:=q1
 cases r1
 refine Ae2 ?_
 cases c with
 | true=>exact hb pins s1 σ H1 Q I1 q1
 | false=>exact⟨.bl false,H1,I1,rfl,q1⟩
theorem zr (ha:PE X a ta)(hb:PE X (.BoolOp .Or (b::rest) pos) tb):PE X (.BoolOp .Or (a::b::rest) pos) (Acs ta tb):=by
 intro pins s σ H Q I h
 refine BoolOp_or (thn (ha pins s σ H _ I h) λv s1 ⟨x,H1,I1,r1,q1⟩=>?_)
 obtain⟨c,rfl,q1⟩:=q1
 cases r1
 refine Ae2 ?_
 cases c with
 | false=>exact hb pins s1 σ H1 Q I1 q1
 | true=>exact⟨.bl true,H1,I1,rfl,q1⟩
theorem nu (ha:PE X a ta):PE X (.UnaryOp .Not a pos) (Aa5 ta):=by
 intro pins s σ H Q I h
 refine UnaryOp_ (thn (ha pins s σ H _ I h) λv s1 ⟨x,H1,I1,r1,q1⟩=>?_)
 obtain⟨c,rfl,q1⟩:=q1
 cases r1
 exact not_of (Ae2 ⟨.bl (!c),H1,I1,rfl,q1⟩)
def tIf (t:TT)(ta tb:TE):TE:=λσ H Q=>t σ H λc H1=>if c=true then ta σ H1 Q else tb σ H1 Q
theorem jx {c:Expr}(hc:PT X c tA)(ha:PE X a ta)(hb:PE X b tb):PE X (.IfExp c a b pos) (tIf tA ta tb):=by
 intro pins s σ H Q I h
 refine wpAny_IfExp (thn (hc pins s σ H _ I h) λd s1 ⟨H1,I1,q1⟩=>?_)
 cases d with
 | true=>exact ha pins s1 σ H1 Q I1 q1
 | false=>exact hb pins s1 σ H1 Q I1 q1
end
def SqL (K:W.Frag)(H:Hp)(a:Addr)(xs:List V):Prop:=
 Rd H a (.lst xs)∨
  ∃(o:Obj)(its:Array Value)(n:Nat),K.lookup a=some o/\o.cls=.type "list"/\o.dict=none/\o.data=.seq its n/\its.size<=sizeLine/\Vals xs its.toList
def SqT (K:W.Frag)(H:Hp)(a:Addr)(xs:List V):Prop:=
 Rd H a (.tup xs)∨
  ∃(o:Obj)(its:Array Value)(n:Nat),K.lookup a=some o/\o.cls=.type "tuple"/\o.data=.seq its n/\its.size<=sizeLine/\Vals xs its.toList
def Aca:Value->Option V
 | .none=>some .non
 | .bool b=>some (.bl b)
 | .int i _=>some (.int i)
 | .str x _=>some (.str x)
 | .bytes b _=>some (.byt b)
 | .float b _=>some (.flt b)
 | .ref a=>some (.ref a)
 | .type n=>some (.ty n)
 | _=>none
theorem RelV.abs {x:V}{u:Value}(r:RelV x u):Aca u=some x:=by
 cases x with
 | non=>cases r;rfl
 | bl _=>cases r;rfl
 | int _=>obtain⟨t,rfl⟩:=r;rfl
 | str _=>obtain⟨t,rfl⟩:=r;rfl
 | byt _=>obtain⟨t,rfl⟩:=r;rfl
 | flt _=>obtain⟨t,rfl⟩:=r;rfl
 | ref _=>cases r;rfl
 | ty _=>cases r;rfl
theorem RelV.inj {x y:V}{u:Value}(r:RelV x u)(q:RelV y u):x=y:=Adt (r.abs.symm.trans q.abs)
theorem Vals.inj: ∀{xs ys:List V}{us:List Value},Vals xs us->Vals ys us->xs=ys
 | _,_,_,.nil,.nil=>rfl
 | _,_,_,.cons r t,.cons r' t'=>by rw[r.inj r',Vals.inj t t']
section
variable {X:Cx}{pins:List (Addr×Obj)}{σ:St}{H:Hp}{s:Shared}{a:Addr}{xs ys:List V}
theorem SqL.of {K:W.Frag}(h:H a=some (.lst xs)):SqL K H a xs:=.inl (.inl h)
theorem SqT.of {K:W.Frag}(h:H a=some (.tup xs)):SqT K H a xs:=.inl (.inl h)
theorem Inv.list (I:Inv X pins σ H s)(h:SqL X.K H a xs): ∃its:List Value,Vals xs its/\PlainL s.heap a its.toArray/\xs.length<=sizeLine:=by
 rcases h with h|⟨o,its,n,hk,hc,hd,hs,hz,r⟩
 ·
  obtain⟨z,its,n,r,e⟩:=h.ok I.hok
  exact⟨its,r,⟨_,n,e,rfl,rfl,rfl⟩,z⟩
 ·
  refine⟨its.toList,r,⟨o,n,I.kIn a o hk,hc,hd,by simpa using hs⟩,?_⟩
  have e:=r.length
  simp only[Ac6] at e
  lia
theorem Inv.tuple (I:Inv X pins σ H s)(h:SqT X.K H a xs): ∃its:List Value,Vals xs its/\IsTup s.heap a its.toArray/\xs.length<=sizeLine:=by
 rcases h with h|⟨o,its,n,hk,hc,hs,hz,r⟩
 ·
  obtain⟨z,its,r,p⟩:=h.ok I.hok
  exact⟨its,r,p,z⟩
 ·
  refine⟨its.toList,r,⟨o,I.kIn a o hk,hc,n,by simpa using hs⟩,?_⟩
  have e:=r.length
  simp only[Ac6] at e
  lia
theorem Inv.list_inj (I:Inv X pins σ H s)(h:SqL X.K H a xs)(h':SqL X.K H a ys):xs=ys:=by
 obtain⟨its,r,⟨o,n,e,_,_,d⟩,_⟩:=I.list h
 obtain⟨its',r',⟨o',n',e',_,_,d'⟩,_⟩:=I.list h'
 rw[e] at e';cases e'
 rw[d] at d'
 injection d' with d1 _
 have:its=its':=by simpa using Aea Array.toList d1
 subst this
 exact r.inj r'
theorem Inv.tuple_inj (I:Inv X pins σ H s)(h:SqT X.K H a xs)(h':SqT X.K H a ys):xs=ys:=by
 obtain⟨its,r,⟨o,e,_,n,d⟩,_⟩:=I.tuple h
 obtain⟨its',r',⟨o',e',_,n',d'⟩,_⟩:=I.tuple h'
 rw[e] at e';cases e'
 rw[d] at d'
 injection d' with d1 _
 have:its=its':=by simpa using Aea Array.toList d1
 subst this
 exact r.inj r'
end
abbrev Cx.wish (X:Cx)(E:Value->Shared->Prop):Cx:={X with xe:=E}
abbrev Cx.nox (X:Cx):Cx:=X.wish λ_ _=>False
theorem Cx.Ok.wish {X:Cx}(ok:X.Ok)(E:Value->Shared->Prop):(X.wish E).Ok:=
 ⟨ok.mod,ok.kind,ok.glob,ok.blt,ok.above,ok.inj,ok.has,ok.cab,ok.hd,ok.frames,ok.stk,ok.exf,ok.bs,ok.bsz,ok.noex,ok.exfs,ok.funs,ok.frf⟩
theorem Cx.Ok.unwish {X:Cx}{E:Value->Shared->Prop}(ok:(X.wish E).Ok):X.Ok:=
 ⟨ok.mod,ok.kind,ok.glob,ok.blt,ok.above,ok.inj,ok.has,ok.cab,ok.hd,ok.frames,ok.stk,ok.exf,ok.bs,ok.bsz,ok.noex,ok.exfs,ok.funs,ok.frf⟩
section
variable {X:Cx}{pins:List (Addr×Obj)}{σ:St}{H:Hp}{s:Shared}{E:Value->Shared->Prop}
theorem Inv.wish (I:Inv X pins σ H s)(E:Value->Shared->Prop):Inv (X.wish E) pins σ H s:=⟨I.ok.wish E,I.os,I.bare,I.base,I.loc,I.cell,I.free,I.freeC,I.pin,I.hok,I.len⟩
theorem Inv.unwish (I:Inv (X.wish E) pins σ H s):Inv X pins σ H s:=⟨I.ok.unwish,I.os,I.bare,I.base,I.loc,I.cell,I.free,I.freeC,I.pin,I.hok,I.len⟩
theorem SP.unwish {D:Ends}{f:Flow}{s':Shared}(h:SP (X.wish E) pins D f s'):SP X pins D f s':=by
 cases f with
 | next=>obtain⟨σ',H',I,q⟩:=h;exact⟨σ',H',I.unwish,q⟩
 | brk=>obtain⟨σ',H',I,q⟩:=h;exact⟨σ',H',I.unwish,q⟩
 | cont=>obtain⟨σ',H',I,q⟩:=h;exact⟨σ',H',I.unwish,q⟩
 | ret u=>obtain⟨v,σ',H',I,r,q⟩:=h;exact⟨v,σ',H',I.unwish,r,q⟩
theorem PSs.nox {st:List Stmt}{t:TS}(h:PSs X.nox st t):PSs X st t:=λpins s σ H D I hw=>
 Afa (h pins s σ H D (I.wish _) hw) (λ_ _ q=>q.unwish) λ_ _ z=>False.elim z
end
section
variable {X:Cx}{st:Stmt}{rest:List Stmt}{t u:TS}{e:Expr}{te:TE}{pos:Pos}
def zy:TS:=λD σ H=>D.nx σ H
def Aby (t u:TS):TS:=λD σ H=>t {D with nx:=u D} σ H
theorem Av:PSs X [] zy:=λ_ _ σ H _ I h=>wpAny_execs_nil ⟨σ,H,I,h⟩
theorem Ae (h1:PS X st t)(h2:PSs X rest u):PSs X (st::rest) (Aby t u):=by
 intro pins s σ H D I h
 refine wpAny_execs_cons (thn (h1 pins s σ H {D with nx:=u D} I h) λf s1 q=>?_)
 cases f with
 |
  next=>
  obtain⟨σ',H',I',q⟩:=q
  exact h2 pins s1 σ' H' D I' q
 | ret v=>exact q
 | brk=>exact q
 | cont=>exact q
theorem Ah (h1:PS X st t):PSs X [st] t:=by
 intro pins s σ H D I h
 refine wpAny_execs_cons (thn (h1 pins s σ H D I h) λf s1 q=>?_)
 cases f with
 | next=>exact wpAny_execs_nil q
 | ret v=>exact q
 | brk=>exact q
 | cont=>exact q
theorem Inv.quiet {pins:List (Addr×Obj)}{σ:St}{H:Hp}{s:Shared}(I:Inv X pins σ H s):interactive X.env=false:=by simp[interactive,I.ok.kind]
def z6 (te:TE):TS:=λD σ H=>te σ H λ_ H1=>D.nx σ H1
theorem J0 (he:PE X e te)(hs:swapsWith e none pos.line X.env=pure false:=by rfl):PS X (.Expr e pos) (z6 te):=by
 intro pins s σ H D I h
 exact wpAny_Expr_any (thn (he pins s σ H _ I h) λv s1 ⟨x,H1,I1,r1,q1⟩=>⟨σ,H1,I1,q1⟩) I.quiet hs
def Acw (te:TE):TS:=λD σ H=>te σ H (D.rt σ)
theorem Ao (he:PE X e te):PS X (.Return (some e) pos) (Acw te):=by
 intro pins s σ H D I h
 exact wpAny_Return_some (thn (he pins s σ H _ I h) λv s1 ⟨x,H1,I1,r1,q1⟩=>⟨x,σ,H1,I1,r1,q1⟩)
def Abw (c:TT)(t u:TS):TS:=λD σ H=>c σ H λb H1=>if b=true then t D σ H1 else u D σ H1
theorem P0 {c:Expr}{a b:List Stmt}{tc:TT}(hc:PT X c tc)(ha:PSs X a t)(hb:PSs X b u):PS X (.If c a b pos) (Abw tc t u):=by
 intro pins s σ H D I h
 refine wpAny_If (thn (hc pins s σ H _ I h) λd s1 ⟨H1,I1,q1⟩=>?_)
 cases d with
 | true=>exact ha pins s1 σ H1 D I1 q1
 | false=>exact hb pins s1 σ H1 D I1 q1
def xu:TS:=λ_ _ _=>False
theorem ju:PS X st xu:=λ_ _ _ _ _ _ h=>h.elim
end
abbrev TG:=V->St->Hp->(St->Hp->Prop)->Prop
abbrev TGs:=List V->St->Hp->(St->Hp->Prop)->Prop
def PG (X:Cx)(target:Expr)(t:TG):Prop:=
 ∀(pins:List (Addr×Obj))(s:Shared)(σ:St)(H:Hp)(v:V)(u:Value)(Q:St->Hp->Prop),Inv X pins σ H s->RelV v u->t v σ H Q->
  wpAny (model X.prog X.w) X.A (assign target X.env u) (λ_ s'=>∃σ' H',Inv X pins σ' H' s'/\Q σ' H') X.xe s
def PGs (X:Cx)(ts:List Expr)(t:TGs):Prop:=
 ∀(pins:List (Addr×Obj))(s:Shared)(σ:St)(H:Hp)(vs:List V)(us:List Value)(Q:St->Hp->Prop),Inv X pins σ H s->Vals vs us->t vs σ H Q->
  wpAny (model X.prog X.w) X.A (assignInOrder ((assignEach ts X.env).map (·.2)) us) (λ_ s'=>∃σ' H',Inv X pins σ' H' s'/\Q σ' H') X.xe s
section
variable {X:Cx}{pos:Pos}
def Tv (i:Nat):TG:=λv σ H Q=>Q (σ.set i (some v)) H
theorem Bc {i:Nat}{x:Str}(hN:X.N.Nodup)(hi:X.N[i]?=some x)(hx:Loc X.env.scope x)(hf:X.fn x=true∨X.env.scope.names.lookup x=some .local:=by first|exact .inl rfl|exact .inr rfl|assumption):PG X (.Name x pos) (Tv i):=by
 intro pins s σ H v u Q I r h
 exact wpAny_assign_Name (X5 I hN hi hx r (λs' I'=>⟨_,H,I',h⟩) hf)
def Abd:TGs:=λvs σ H Q=>vs=[]/\Q σ H
def oy (t:TG)(u:TGs):TGs:=λvs σ H Q=>∃v r,vs=v::r/\t v σ H λσ' H'=>u r σ' H' Q
theorem p7:PGs X [] Abd:=by
 intro pins s σ H vs us Q I r h
 obtain⟨e,h⟩:=h
 subst e
 cases r
 exact assignInOrder_nil ⟨σ,H,I,h⟩
theorem Xm {e:Expr}{es:List Expr}{t:TG}{u:TGs}(h1:PG X e t)(h2:PGs X es u)
  (hs:(assignEach (e::es) X.env).map (·.2)=assign e X.env::(assignEach es X.env).map (·.2):=by rfl):PGs X (e::es) (oy t u):=by
 intro pins s σ H vs us Q I r h
 obtain⟨v,vr,e1,h⟩:=h
 subst e1
 cases r with
 |
  cons r rr=>
  rw[hs]
  refine assignInOrder_cons (thn (h1 pins s σ H _ _ _ I r h) λ_ s1 ⟨σ1,H1,I1,q1⟩=>?_)
  exact h2 pins s1 σ1 H1 _ _ Q I1 rr q1
def zq (K:W.Frag)(n:Nat)(t:TGs):TG:=λv σ H Q=>∃a xs,v=.ref a/\SqT K H a xs/\xs.length=n/\t xs σ H Q
theorem yg {es:List Expr}{k:Nat}{t:TGs}{n:Nat}(hc:X.calm=true)(h:PGs X es t)
  (hn:(assignEach es X.env).length=n:=by rfl) (hst:(assignEach es X.env).findIdx? (·.1)=none:=by rfl):PG X (.Tuple es k pos) (zq X.K n t):=by
 intro pins s σ H v u Q I r hw
 obtain⟨a,xs,e1,hq,hl,hw⟩:=hw
 subst e1
 cases r
 obtain⟨its,rv,ht,hz⟩:=I.tuple hq
 refine assign_Tuple_tuple (I.ok.hd hc) ht (by simp[hn,←hl,rv.length]) hst λh' hx=>?_
 have I1:Inv X pins σ H {s with heap:=h'}:=I.kept (t':=s.toks) λb o e=>hx b o (Ad9 (Adm e)) e
 exact h pins _ σ H xs _ Q I1 (by simpa using rv) hw
def Abr (te:TE)(g:TG):TS:=λD σ H=>te σ H λx H1=>g x σ H1 D.nx
theorem Ax {i:Nat}{x:Str}{e:Expr}{te:TE}{pos':Pos}(hN:X.N.Nodup)(hi:X.N[i]?=some x)(hx:Loc X.env.scope x)(he:PE X e te)(hs:swapsWith e (some (.Name x pos')) pos.line X.env=pure false:=by rfl)(hf:X.fn x=true∨X.env.scope.names.lookup x=some .local:=by first|exact .inl rfl|exact .inr rfl|assumption):
  PS X (.Assign [.Name x pos'] e pos) (Abr te (Tv i)):=by
 intro pins s σ H D I h
 refine wpAny_Assign_Name (thn (he pins s σ H _ I h) λv s1 ⟨y,H1,I1,r1,q1⟩=>?_) hs
 exact X5 I1 hN hi hx r1 (λs2 I2=>⟨_,H1,I2,q1⟩) hf
end
section
variable {X:Cx}{pos:Pos}
end
structure It where
 go:Nat->Hp->Prop
 yld:Nat->Hp->V->Hp->Prop
 stop:Nat->Hp->Prop
def FpOk (X:Cx)(pins:List (Addr×Obj))(H:Hp)(b:Addr):Prop:=
 H b=none/\b≠X.env.locals/\b∉X.fs/\(b∈X.ex∨X.s₀.heap.objs.size<=b)/\(∀x c,X.env.cells.lookup x=some c->c≠b)/\ ∀p∈X.pn++pins,p.1≠b
theorem Inv.fpOk {X:Cx}{pins:List (Addr×Obj)}{σ:St}{H H':Hp}{s:Shared}{b:Addr}(I:Inv X pins σ H s)(hb:s.heap.objs.size<=b)(hn:H' b=none):FpOk X pins H' b:=by
 refine⟨hn,Ahq (Aei I.lt hb),I.nofs hb,.inr (Ady I.sz hb),λx c e z=>?_,λp hp z=>?_⟩
 ·
  obtain⟨v,q⟩:=I.cell x c e
  exact absurd (Aei q.lt (by rw[z];exact hb)) (Ae7 _)
 · exact absurd (Aei (Adm (I.pin p hp).1) (by rw[z];exact hb)) (Ae7 _)
structure Turn (P:Program)(w:World)(K:W.Frag)(tg:Expr)(J:It)(fp:List Addr)(it:Addr)(tn:Nat->Heap->Prop):Prop where
 mem:it∈fp
 obj: ∀i h,tn i h-> ∀b∈fp,∃o,h.get? b=some o/\ ∀v,o.data≠ .cell v
 keep: ∀i h h',tn i h->(∀b∈fp,∀o,h.get? b=some o->h'.get? b=some o)->tn i h'
 item: ∀(X:Cx),X.prog=P->X.w=w->X.K=K->X.calm=true-> ∀(i:Nat)(pins:List (Addr×Obj))(s:Shared)(σ:St)(H:Hp)(E:Value->Shared->Prop),Inv X pins σ H s->(∀b∈fp,FpOk X pins H b)->tn i s.heap->J.go i H->
  wpAny (model P w) X.A (pyNext (.ref it)) (λr s1=>∃u,r=some u/\
   wpAny (model P w) X.A (letOwnedTupleGo tg (.ref it) u) (λ_ s2=>∃x H',Inv X pins σ H' s2/\RelV x u/\J.yld i H x H'/\tn (i+1) s2.heap/\ ∀b∈fp,H' b=none) E s1) E s
 done: ∀(X:Cx),X.prog=P->X.w=w->X.K=K->X.calm=true-> ∀(i:Nat)(pins:List (Addr×Obj))(s:Shared)(σ:St)(H:Hp)(E:Value->Shared->Prop),Inv X pins σ H s->(∀b∈fp,FpOk X pins H b)->tn i s.heap->J.stop i H->
  wpAny (model P w) X.A (pyNext (.ref it)) (λr s1=>r=none/\Inv X pins σ H s1) E s
 self: ∀(A:Around)(i:Nat)(s:Shared)(Q:Value->Shared->Prop)(E:Value->Shared->Prop),tn i s.heap->Q (.ref it) s->wpAny (model P w) A (pyIter (.ref it)) Q E s
abbrev TI:=St->Hp->(It->Hp->Prop)->Prop
def PIE (X:Cx)(pins:List (Addr×Obj))(σ:St)(tg:Expr)(R:It->Hp->Prop)(itv:Value)(s2:Shared):Prop:=
 ∃(it:Addr)(fp:List Addr)(tn:Nat->Heap->Prop)(J:It)(H':Hp),itv=.ref it/\Inv X pins σ H' s2/\Turn X.prog X.w X.K tg J fp it tn/\tn 0 s2.heap/\(∀b∈fp,FpOk X pins H' b)/\R J H'
def PI (X:Cx)(tg iter:Expr)(wi:TI):Prop:=
 ∀(pins:List (Addr×Obj))(s:Shared)(σ:St)(H:Hp)(R:It->Hp->Prop),Inv X pins σ H s->wi σ H R->
  wpAny (model X.prog X.w) X.A (eval iter X.env) (λv s1=>wpAny (model X.prog X.w) X.A (pyIter v) (PIE X pins σ tg R) X.xe s1) X.xe s
theorem ja {M:Model}{A:Around}{E:Value->Shared->Prop}{s:Shared}{tg:Expr}{it:Addr}{u:Value}{o:Obj}{n:String}{vs:Array Value}{Q:Unit->Shared->Prop}(ho:s.heap.get? it=some o)(hc:o.cls=.type n)(hd:o.data=.fields vs)
  (hn:["enumerate","zip","dict_itemiterator","dict_reverseitemiterator","odict_iterator","itertools.zip_longest","itertools.pairwise"].contains n=false) (hQ:Q () s):wpAny M A (letOwnedTupleGo tg (.ref it) u) Q E s:=by
 unfold letOwnedTupleGo
 cases tg<;>first
  | exact Ac4 hQ
  | (cases u<;>first
   | exact Ac4 hQ
   | (
    refine Ac1 (wpAny_load ho ?_)
    rw[hc,hd]
    show wpAny M A (if(["enumerate","zip","dict_itemiterator","dict_reverseitemiterator","odict_iterator","itertools.zip_longest","itertools.pairwise"].contains n&&vs[0]?==some (rawInt _))=true then _ else _) Q E s
    rw[if_neg (by intro h;rw[hn,Adp] at h;cases h)]
    exact Ac4 hQ))
def Itl (K:W.Frag)(a:Addr):It:=
 ⟨λi H=>∃xs x,SqL K H a xs/\xs[i]?=some x,λi H x H'=>H'=H/\ ∀xs,SqL K H a xs->xs[i]?=some x,λi H=>∃xs,SqL K H a xs/\xs.length<=i⟩
def Itt (K:W.Frag)(a:Addr):It:=
 ⟨λi H=>∃xs x,SqT K H a xs/\xs[i]?=some x,λi H x H'=>H'=H/\ ∀xs,SqT K H a xs->xs[i]?=some x,λi H=>∃xs,SqT K H a xs/\xs.length<=i⟩
def Itr (lo:Int)(n:Nat):It:=⟨λi _=>i<n,λi H x H'=>H'=H/\x=.int (lo+i),λi _=>n<=i⟩
theorem fq {P:Program}{w:World}{K:W.Frag}{tg:Expr}(a it:Addr):Turn P w K tg (Itl K a) [it] it (λi h=>h.IsListIter it a i) where
 mem:=by simp
 obj:=λi h st b hb=>by
  have e:b=it:=by simpa using hb
  subst e
  obtain⟨o,e,c,d⟩:=st
  exact⟨o,e,λv z=>by rw[d] at z;cases z⟩
 keep:=λi h h' st k=>st.at λo e=>k it (by simp) o e
 item:=by
  intro X hP hw hK hc i pins s σ H E I hf st hg
  subst hP hw hK
  obtain⟨xs,x,hq,hx⟩:=hg
  obtain⟨its,rv,p,hz⟩:=I.list hq
  obtain⟨u,hu,ru⟩:=rv.get hx
  obtain⟨f0,f1,f2,f3,f4,f5⟩:=hf it (by simp)
  refine wpAny_pyNext_list_item st p.isList (x:=u) (by simpa using hu) λh' st' sb=>?_
  have I1:Inv X pins σ H {s with heap:=h'}:=I.turned (t':=s.toks) (λb o hb e=>(sb.2 b hb).trans e) f0 f1 f3 f4 f5
  obtain⟨o,e,c,d⟩:=id st'
  exact⟨u,rfl,ja (s:={s with heap:=h'}) e c d (by decide) ⟨x,H,I1,ru,⟨rfl,λys hy=>by rw[I.list_inj hy hq];exact hx⟩,st',λb hb=>(hf b hb).1⟩⟩
 done:=by
  intro X hP hw hK hc i pins s σ H E I hf st hg
  subst hP hw hK
  obtain⟨xs,hq,hx⟩:=hg
  obtain⟨its,rv,p,hz⟩:=I.list hq
  obtain⟨f0,f1,f2,f3,f4,f5⟩:=hf it (by simp)
  have hl:=rv.length
  exact wpAny_pyNext_list_end (I.ok.hd hc) st p.isList (by simp;lia) λh' eb=>⟨rfl,I.turned (t':=s.toks) (λb o hb e=>eb b o hb e) f0 f1 f3 f4 f5⟩
 self:=λ_ _ _ _ _ st h=>wpAny_pyIter_listiter st h
theorem Z0 {P:Program}{w:World}{K:W.Frag}{tg:Expr}(a it:Addr):Turn P w K tg (Itt K a) [it] it (λi h=>h.IsTupleIter it a i) where
 mem:=by simp
 obj:=λi h st b hb=>by
  have e:b=it:=by simpa using hb
  subst e
  obtain⟨o,e,c,d⟩:=st
  exact⟨o,e,λv z=>by rw[d] at z;cases z⟩
 keep:=λi h h' st k=>st.at λo e=>k it (by simp) o e
 item:=by
  intro X hP hw hK hc i pins s σ H E I hf st hg
  subst hP hw hK
  obtain⟨xs,x,hq,hx⟩:=hg
  obtain⟨its,rv,p,hz⟩:=I.tuple hq
  obtain⟨u,hu,ru⟩:=rv.get hx
  obtain⟨f0,f1,f2,f3,f4,f5⟩:=hf it (by simp)
  refine wpAny_pyNext_tuple_item st (show s.heap.IsTuple a its.toArray from p) (x:=u) (by simpa using hu) λh' st' sb=>?_
  have I1:Inv X pins σ H {s with heap:=h'}:=I.turned (t':=s.toks) (λb o hb e=>(sb.2 b hb).trans e) f0 f1 f3 f4 f5
  obtain⟨o,e,c,d⟩:=id st'
  exact⟨u,rfl,ja (s:={s with heap:=h'}) e c d (by decide) ⟨x,H,I1,ru,⟨rfl,λys hy=>by rw[I.tuple_inj hy hq];exact hx⟩,st',λb hb=>(hf b hb).1⟩⟩
 done:=by
  intro X hP hw hK hc i pins s σ H E I hf st hg
  subst hP hw hK
  obtain⟨xs,hq,hx⟩:=hg
  obtain⟨its,rv,p,hz⟩:=I.tuple hq
  obtain⟨f0,f1,f2,f3,f4,f5⟩:=hf it (by simp)
  have hl:=rv.length
  exact wpAny_pyNext_tuple_end (I.ok.hd hc) st (show s.heap.IsTuple a its.toArray from p) (by simp;lia) λh' eb=>⟨rfl,I.turned (t':=s.toks) (λb o hb e=>eb b o hb e) f0 f1 f3 f4 f5⟩
 self:=λ_ _ _ _ _ st h=>wpAny_pyIter_tupleiter st h
theorem Zy {P:Program}{w:World}{K:W.Frag}{tg:Expr}(it:Addr)(lo:Int)(n:Nat):Turn P w K tg (Itr lo n) [it] it (λi h=>IsRangeIter h it (lo+(i:Nat)*1) ((n:Int)-(i:Nat)) 1) where
 mem:=by simp
 obj:=λi h st b hb=>by
  have e:b=it:=by simpa using hb
  subst e
  exact⟨_,st,λv z=>by
   have z':Data.fields _=Data.cell v:=z
   cases z'⟩
 keep:=λi h h' st k=>k it (by simp) _ st
 item:=by
  intro X hP hw hK hc i pins s σ H E I hf st hg
  subst hP hw hK
  obtain⟨f0,f1,f2,f3,f4,f5⟩:=hf it (by simp)
  have W:=Walks.range (prog:=X.prog) (w:=X.w) (I.ok.hd hc) it lo 1 n
  refine W.item i s _ _ hg st λv h' tk hv st' kk=>?_
  obtain⟨t,rfl⟩:=hv
  have I1:Inv X pins σ H {s with heap:=h',toks:=tk}:=I.turned (λb o hb e=>kk b o (by simpa using hb) e) f0 f1 f3 f4 f5
  refine⟨_,rfl,ja (s:={s with heap:=h',toks:=tk}) (n:="range_iterator") st' rfl rfl (by decide) ⟨.int (lo+i),H,I1,⟨t,?_⟩,⟨rfl,rfl⟩,st',λb hb=>(hf b hb).1⟩⟩
  rw[Int.mul_one]
 done:=by
  intro X hP hw hK hc i pins s σ H E I hf st hg
  subst hP hw hK
  obtain⟨f0,f1,f2,f3,f4,f5⟩:=hf it (by simp)
  exact wpAny_pyNext_range_end (I.ok.hd hc) st (by have:n<=i:=hg;lia) λh' eb=>⟨rfl,I.turned (t':=s.toks) (λb o hb e=>eb b o hb e) f0 f1 f3 f4 f5⟩
 self:=λ_ _ _ _ _ st h=>wpAny_pyIter_rangeiter st h
section
variable {X:Cx}{tg:Expr}
def x5 (K:W.Frag)(tl:TE):TI:=λσ H R=>tl σ H λx H1=>∃a,x=.ref a/\(∃xs,SqL K H1 a xs)/\R (Itl K a) H1
def Abk (K:W.Frag)(tl:TE):TI:=λσ H R=>tl σ H λx H1=>∃a,x=.ref a/\(∃xs,SqT K H1 a xs)/\R (Itt K a) H1
theorem qz {l:Expr}{tl:TE}(hl:PE X l tl):PI X tg l (x5 X.K tl):=by
 intro pins s σ H R I h
 refine thn (hl pins s σ H _ I h) λv s1 ⟨x,H1,I1,r1,q1⟩=>?_
 obtain⟨a,e,⟨xs,hq⟩,q⟩:=q1
 subst e
 cases r1
 obtain⟨its,rv,p,hz⟩:=I1.list hq
 refine wpAny_pyIter_list p.isList ?_
 refine⟨s1.heap.objs.size,[s1.heap.objs.size],_,_,H1,rfl,I1.kept (t':=s1.toks) λb o e=>Ac5 _ e,fq a _,⟨_,Adv _ rfl,rfl,rfl⟩,λb hb=>?_,q⟩
 have e:b=s1.heap.objs.size:=by simpa using hb
 subst e
 exact I1.fpOk (Adb _) (I1.hok.fresh (Adb _))
theorem x9 {l:Expr}{tl:TE}(hl:PE X l tl):PI X tg l (Abk X.K tl):=by
 intro pins s σ H R I h
 refine thn (hl pins s σ H _ I h) λv s1 ⟨x,H1,I1,r1,q1⟩=>?_
 obtain⟨a,e,⟨xs,hq⟩,q⟩:=q1
 subst e
 cases r1
 obtain⟨its,rv,p,hz⟩:=I1.tuple hq
 refine wpAny_pyIter_tuple (show s1.heap.IsTuple a its.toArray from p) ?_
 refine⟨s1.heap.objs.size,[s1.heap.objs.size],_,_,H1,rfl,I1.kept (t':=s1.toks) λb o e=>Ac5 _ e,Z0 a _,⟨_,Adv _ rfl,rfl,rfl⟩,λb hb=>?_,q⟩
 have e:b=s1.heap.objs.size:=by simpa using hb
 subst e
 exact I1.fpOk (Adb _) (I1.hok.fresh (Adb _))
theorem X4 {pins:List (Addr×Obj)}{σ:St}{H:Hp}{s:Shared}{R:It->Hp->Prop}{E:Value->Shared->Prop}{lo hi:Int}{t u v:Tok}{tk:Nat}(I:Inv X pins σ H s)(h1: -(2 ^ 62)<=lo)(h2:lo<2 ^ 62)(h3: -(2 ^ 62)<=hi)(h4:hi<2 ^ 62)
  (q:R (Itr lo (hi-lo).toNat) H):wpAny (model X.prog X.w) X.A (pyIter (.ref s.heap.objs.size)) (PIE X pins σ tg R) E {s with heap:=s.heap.push {cls:=.type "range",data:=.fields #[.int lo t,.int hi u,.int 1 v]},toks:=tk}:=by
 refine wpAny_pyIter_range (IsRange.new ..) (small_one h1 h2 h3 h4) ?_
 have I1:Inv X pins σ H {s with heap:=s.heap.push {cls:=.type "range",data:=.fields #[.int lo t,.int hi u,.int 1 v]},toks:=tk}:=I.kept λb o e=>Ac5 _ e
 refine⟨(s.heap.push {cls:=.type "range",data:=.fields #[.int lo t,.int hi u,.int 1 v]}).objs.size,[(s.heap.push {cls:=.type "range",data:=.fields #[.int lo t,.int hi u,.int 1 v]}).objs.size],_,_,H,rfl,
  I1.kept (t':=tk) λb o e=>Ac5 _ e,Zy _ lo (hi-lo).toNat,?_,λb hb=>?_,q⟩
 ·
  have e1:lo+((0:Nat):Int)*1=lo:=by simp
  have e2:(((hi-lo).toNat:Nat):Int)-((0:Nat):Int)=Builtin.Range.rangeSize lo hi 1:=by rw[rangeSize_one];split<;>lia
  show IsRangeIter _ _ (lo+((0:Nat):Int)*1) ((((hi-lo).toNat:Nat):Int)-((0:Nat):Int)) 1
  rw[e1,e2]
  exact Adv _ rfl
 ·
  have e:b=(s.heap.push {cls:=.type "range",data:=.fields #[.int lo t,.int hi u,.int 1 v]}).objs.size:=by simpa using hb
  subst e
  exact I1.fpOk (Adb _) (I1.hok.fresh (Adb _))
def z7 (ta:TA):TI:=λσ H R=>ta σ H λvs H1=>∃j:Int,vs=[.int j]/\ -(2 ^ 62)<=j/\j<2 ^ 62/\R (Itr 0 j.toNat) H1
def Aa6 (ta:TA):TI:=λσ H R=>ta σ H λvs H1=>∃i j:Int,vs=[.int i,.int j]/\(-(2 ^ 62)<=i/\i<2 ^ 62/\ -(2 ^ 62)<=j/\j<2 ^ 62)/\R (Itr i (j-i).toNat) H1
theorem Gj {a:Expr}{ta:TA}{p pos:Pos}(hg:Gl X "range")(hm:X.mg "range"=none)(ha:PA X [a] ta)(hs:starEach [a] X.env=[(false,eval a X.env)]:=by rfl):PI X tg (.Call (.Name "range" p) [a] [] pos) (z7 ta):=by
 intro pins s σ H R I h
 refine Call_ (Qo I hg hm boot_range (Ahm (thn (ha pos pins s σ H _ I h) λus s1 ⟨vs,H1,I1,r1,q1⟩=>?_) hs rfl))
 obtain⟨j,e,q1,q2,q⟩:=q1
 subst e
 cases r1 with
 |
  cons r rr=>
  cases rr
  obtain⟨t,rfl⟩:=r
  exact call_range_1 (X4 I1 (by lia) (by lia) q1 q2 (by simpa using q))
theorem ak {a b:Expr}{ta:TA}{p pos:Pos}(hg:Gl X "range")(hm:X.mg "range"=none)(ha:PA X [a,b] ta)(hs:starEach [a,b] X.env=[(false,eval a X.env),(false,eval b X.env)]:=by rfl)(hs2:starEach [b] X.env=[(false,eval b X.env)]:=by rfl):
  PI X tg (.Call (.Name "range" p) [a,b] [] pos) (Aa6 ta):=by
 intro pins s σ H R I h
 refine Call_ (Qo I hg hm boot_range (Ahm (thn (ha pos pins s σ H _ I h) λus s1 ⟨vs,H1,I1,r1,q1⟩=>?_) (by rw[hs,hs2]) (by rw[hs2];rfl)))
 obtain⟨i,j,e,⟨q1,q2,q3,q4⟩,q⟩:=q1
 subst e
 cases r1 with
 |
  cons r rr=>
  cases rr with
  |
   cons r' rr=>
   cases rr
   obtain⟨t,rfl⟩:=r
   obtain⟨t',rfl⟩:=r'
   exact call_range_2 (X4 I1 q1 q2 q3 q4 q)
def Abx (wi:TI)(g:TG)(tb:TS):TS:=λD σ H=>wi σ H λJ H1=>∃W:Nat->Nat->St->Hp->Prop,(∃m,W 0 m σ H1)/\ ∀i m σ H,W i m σ H->
 (J.stop i H/\D.nx σ H)∨(J.go i H/\ ∃N:St->Hp->Prop,(∀σ' H',N σ' H'-> ∃m',m'<m/\W (i+1) m' σ' H')/\ ∀x H',J.yld i H x H'->g x σ H' λσ2 H2=>tb {D with nx:=N,ct:=N,bk:=D.nx} σ2 H2)
def Qz (fp:List Addr)(h:Heap):List (Addr×Obj):=fp.filterMap λb=>(h.get? b).map λo=>(b,o)
theorem Ct {fp:List Addr}{h:Heap}{b:Addr}{o:Obj}(hb:b∈fp)(e:h.get? b=some o):(b,o)∈Qz fp h:=List.mem_filterMap.mpr ⟨b,hb,by rw[e];rfl⟩
theorem gm {fp:List Addr}{h:Heap}{p:Addr×Obj}(hp:p∈Qz fp h):p.1∈fp/\h.get? p.1=some p.2:=by
 obtain⟨b,hb,e⟩:=List.mem_filterMap.mp hp
 cases q:h.get? b with
 | none=>rw[q] at e;cases e
 |
  some o=>
  rw[q] at e
  have e':(b,o)=p:=Adt e
  subst e'
  exact⟨hb,q⟩
theorem Inv.pinned {pins:List (Addr×Obj)}{σ:St}{H:Hp}{s:Shared}{fp:List Addr}(I:Inv X pins σ H s)(hf: ∀b∈fp,FpOk X pins H b)(ho: ∀b∈fp,∃o,s.heap.get? b=some o/\ ∀v,o.data≠ .cell v):Inv X (pins++Qz fp s.heap) σ H s:=
 I.pins_of λp hp=>(Adq.mp hp).elim (λz=>I.pin p (Adg _ z)) λz=>by
  obtain⟨hb,e⟩:=gm z
  obtain⟨f0,f1,f2,_⟩:=hf p.1 hb
  obtain⟨o,e',d⟩:=ho p.1 hb
  rw[e] at e';cases e'
  exact⟨e,f0,f1,f2,d⟩
theorem Inv.unpinned {pins pl:List (Addr×Obj)}{σ:St}{H:Hp}{s:Shared}(I:Inv X (pins++pl) σ H s):Inv X pins σ H s:=I.pins_of λp hp=>I.pin p (Adg _ (Ae4 _ hp))
theorem Pn {iter:Expr}{body:List Stmt}{wi:TI}{g:TG}{tb:TS}{pos:Pos}(hp:PassesOwn (model X.prog X.w) X.A X.env X.xe)(hc:X.calm=true)(hi:PI X tg iter wi)(hg:PG X tg g)(hb:PSs X body tb)
  (hs: ∀x,foldedSetIterable iter X.env x=pure x:=by intro _;rfl):PS X (.For tg iter body [] pos) (Abx wi g tb):=by
 intro pins s σ H D I h
 refine wpAny_For (thn (hi pins s σ H _ I h) λv s1 h1=>thn h1 λitv s2 h2=>?_) hs
 obtain⟨it,fp,tn,J,H2,e,I2,T,st2,f2,W,⟨m0,w0⟩,turn⟩:=h2
 subst e
 --what stays true of the iterator's objects through the loop
 have stat: ∀{H':Hp},(∀b∈fp,H' b=none)-> ∀b∈fp,FpOk X pins H' b:=λhn b hb=>⟨hn b hb,(f2 b hb).2⟩
 refine codeAny_forLoop_any (λn s'=>∃i σ' H',Inv X pins σ' H' s'/\tn i s'.heap/\(∀b∈fp,H' b=none)/\W i n σ' H') ?_ m0 ⟨0,σ,H2,I2,st2,λb hb=>(f2 b hb).1,w0⟩
 rintro n s3 ⟨i,σ3,H3,I3,st3,fr3,w3⟩
 rcases turn i n σ3 H3 w3 with⟨stop,qn⟩|⟨go,N,hN,step⟩
 ·
  refine Ahw hp (thn (T.done X rfl rfl rfl hc i pins s3 σ3 H3 X.xe I3 (stat fr3) st3 stop) λr s4 ⟨hr,I4⟩=>?_)
  subst hr
  exact wpAny_execs_nil ⟨σ3,H3,I4,qn⟩
 ·
  refine Ahw hp (thn (T.item X rfl rfl rfl hc i pins s3 σ3 H3 X.xe I3 (stat fr3) st3 go) λr s4 ⟨u,hr,h4⟩=>?_)
  subst hr
  refine Ahw hp (thn h4 λ_ s5 ⟨x,H5,I5,r5,y5,st5,fr5⟩=>?_)
  have I5':=I5.pinned (stat fr5) (T.obj _ _ st5)
  refine Ahw hp (thn (hg _ s5 σ3 H5 x u _ I5' r5 (step x H5 y5)) λ_ s6 ⟨σ6,H6,I6,q6⟩=>?_)
  refine Ahw hp (thn (hb _ s6 σ6 H6 _ I6 q6) λf s7 q7=>?_)
  have again: ∀{σ7:St}{H7:Hp},Inv X (pins++Qz fp s5.heap) σ7 H7 s7->N σ7 H7-> ∃m,m<n/\ ∃i σ' H',Inv X pins σ' H' s7/\tn i s7.heap/\(∀b∈fp,H' b=none)/\W i m σ' H':=λ{σ7 H7}I7 n7=>by
   obtain⟨m',hm,w7⟩:=hN σ7 H7 n7
   refine⟨m',hm,i+1,σ7,H7,I7.unpinned,T.keep _ _ _ st5 λb hb o e=>(I7.pin (b,o) (Adg _ (Adg _ (Ct hb e)))).1,λb hb=>?_,w7⟩
   obtain⟨o,e,d⟩:=T.obj _ _ st5 b hb
   exact(I7.pin (b,o) (Adg _ (Adg _ (Ct hb e)))).2.1
  cases f with
  | next=>obtain⟨σ7,H7,I7,n7⟩:=q7;exact again I7 n7
  | cont=>obtain⟨σ7,H7,I7,n7⟩:=q7;exact again I7 n7
  | brk=>obtain⟨σ7,H7,I7,q7⟩:=q7;exact⟨σ7,H7,I7.unpinned,q7⟩
  | ret v=>obtain⟨x7,σ7,H7,I7,r7,q7⟩:=q7;exact⟨x7,σ7,H7,I7.unpinned,r7,q7⟩
end
abbrev R2:=V->V->Hp->VK->Prop
def OpR (X:Cx)(f:Value->Value->Sem Value)(r:R2):Prop:=
 ∀(pins:List (Addr×Obj))(s:Shared)(σ:St)(H:Hp)(x y:V)(v u:Value)(Q:VK),Inv X pins σ H s->RelV x v->RelV y u->r x y H Q->
  wpAny (model X.prog X.w) X.A (f v u) (EP X pins σ Q) X.xe s
def UnR (X:Cx)(f:Value->Sem Value)(r:V->Hp->VK->Prop):Prop:=
 ∀(pins:List (Addr×Obj))(s:Shared)(σ:St)(H:Hp)(x:V)(v:Value)(Q:VK),Inv X pins σ H s->RelV x v->r x H Q->
  wpAny (model X.prog X.w) X.A (f v) (EP X pins σ Q) X.xe s
def Gn (X:Cx)(f:Value)(r:List V->Hp->VK->Prop):Prop:=
 ∀(pins:List (Addr×Obj))(s:Shared)(σ:St)(H:Hp)(xs:List V)(us:List Value)(Q:VK),Inv X pins σ H s->Vals xs us->r xs H Q->
  wpAny (model X.prog X.w) X.A (call f us) (EP X pins σ Q) X.xe s
def Acq (X:Cx)(r:V->Hp->(Bool->Hp->Prop)->Prop):Prop:=
 ∀(pins:List (Addr×Obj))(s:Shared)(σ:St)(H:Hp)(x:V)(v:Value)(Q:Bool->Hp->Prop),Inv X pins σ H s->RelV x v->r x H Q->
  wpAny (model X.prog X.w) X.A (truthy v) (TP X pins σ Q) X.xe s
def tOp (r:R2)(ta tb:TE):TE:=λσ H Q=>ta σ H λx H1=>tb σ H1 λy H2=>r x y H2 Q
def tUn (r:V->Hp->VK->Prop)(ta:TE):TE:=λσ H Q=>ta σ H λx H1=>r x H1 Q
def rI (C:Int->Int->Prop)(g:Int->Int->V):R2:=λx y H Q=>∃i j,x=.int i/\y=.int j/\C i j/\Q (g i j) H
def rI0 (g:Int->Int->V):R2:=λx y H Q=>∃i j,x=.int i/\y=.int j/\Q (g i j) H
def rU (g:Int->V):V->Hp->VK->Prop:=λx H Q=>∃i,x=.int i/\Q (g i) H
section
variable {X:Cx}{a b c:Expr}{ta tb tc:TE}{pos:Pos}
theorem zx (ha:PE X a ta)(hb:PE X b tb){pins:List (Addr×Obj)}{s:Shared}{σ:St}{H:Hp}{R:V->V->Hp->Prop}(I:Inv X pins σ H s)
  (h:ta σ H λx H1=>tb σ H1 λy H2=>R x y H2) {Q:Value->Shared->Prop} {f:Value->Value->Sem Value}
  (hf: ∀v u s2 x y H2,Inv X pins σ H2 s2->RelV x v->RelV y u->R x y H2->wpAny (model X.prog X.w) X.A (f v u) Q X.xe s2):
  wpAny (model X.prog X.w) X.A (eval a X.env) (λv s₁=>wpAny (model X.prog X.w) X.A (eval b X.env) (λu s₂=>wpAny (model X.prog X.w) X.A (f v u) Q X.xe s₂) X.xe s₁) X.xe s:=by
 refine thn (ha pins s σ H _ I h) λv s1 ⟨x,H1,I1,r1,q1⟩=>?_
 refine thn (hb pins s1 σ H1 _ I1 q1) λu s2 ⟨y,H2,I2,r2,q2⟩=>?_
 exact hf v u s2 x y H2 I2 r1 r2 q2
theorem Bb {op:Operator}{r:R2}(ho:OpR X (binaryOp op) r)(ha:PE X a ta)(hb:PE X b tb):PE X (.BinOp a op b pos) (tOp r ta tb):=by
 intro pins s σ H Q I h
 exact wpAny_BinOp (zx ha hb I h λv u s2 x y H2 I2 rx ry q=>ho pins s2 σ H2 x y v u Q I2 rx ry q)
theorem yc {op:UnaryOp}{r:V->Hp->VK->Prop}(ho:UnR X (unaryOp op) r)(ha:PE X a ta):PE X (.UnaryOp op a pos) (tUn r ta):=by
 intro pins s σ H Q I h
 exact UnaryOp_ (thn (ha pins s σ H _ I h) λv s1 ⟨x,H1,I1,r1,q1⟩=>ho pins s1 σ H1 x v Q I1 r1 q1)
theorem opI {f:Value->Value->Sem Value}{C:Int->Int->Prop}{g:Int->Int->Int}
  (rule: ∀(i j:Int)(t u:Tok)(s:Shared)(Q:Value->Shared->Prop)(E:Value->Shared->Prop),C i j->Q (.int (g i j) s.toks) {s with toks:=s.toks+1}->wpAny (model X.prog X.w) X.A (f (.int i t) (.int j u)) Q E s):
  OpR X f (rI C λi j=>.int (g i j)):=by
 intro pins s σ H x y v u Q I rx ry h
 obtain⟨i,j,rfl,rfl,hc,q⟩:=h
 obtain⟨t,rfl⟩:=rx
 obtain⟨t',rfl⟩:=ry
 exact rule i j t t' s _ _ hc ⟨.int (g i j),H,I.tok _,⟨_,rfl⟩,q⟩
theorem Abs {f:Value->Value->Sem Value}{g:Int->Int->Int}
  (rule: ∀(i j:Int)(t u:Tok)(s:Shared)(Q:Value->Shared->Prop)(E:Value->Shared->Prop),Q (.int (g i j) s.toks) {s with toks:=s.toks+1}->wpAny (model X.prog X.w) X.A (f (.int i t) (.int j u)) Q E s):
  OpR X f (rI0 λi j=>.int (g i j)):=by
 intro pins s σ H x y v u Q I rx ry h
 obtain⟨i,j,rfl,rfl,q⟩:=h
 obtain⟨t,rfl⟩:=rx
 obtain⟨t',rfl⟩:=ry
 exact rule i j t t' s _ _ ⟨.int (g i j),H,I.tok _,⟨_,rfl⟩,q⟩
theorem Aad {f:Value->Value->Sem Value}{g:Int->Int->Bool}
  (rule: ∀(i j:Int)(t u:Tok)(s:Shared)(Q:Value->Shared->Prop)(E:Value->Shared->Prop),Q (.bool (g i j)) s->wpAny (model X.prog X.w) X.A (f (.int i t) (.int j u)) Q E s):
  OpR X f (rI0 λi j=>.bl (g i j)):=by
 intro pins s σ H x y v u Q I rx ry h
 obtain⟨i,j,rfl,rfl,q⟩:=h
 obtain⟨t,rfl⟩:=rx
 obtain⟨t',rfl⟩:=ry
 exact rule i j t t' s _ _ ⟨.bl (g i j),H,I,rfl,q⟩
def Acr (i j:Int):Prop:=0<j/\j<1073741824
def Acg (i j:Int):Prop:=0<=j/\j<=1000000/\i.natAbs<2 ^ 64
def CMul (i j:Int):Prop:=(-(2 ^ 64)<i/\i<2 ^ 64)∨(-(2 ^ 64)<j/\j<2 ^ 64)
theorem CMul.ok {i j:Int}(h:CMul i j):IntMulOk i j:=by
 rcases h with⟨h1,h2⟩|⟨h1,h2⟩
 · exact .of_left (intBits_le_64 h1 h2)
 · exact .of_right (intBits_le_64 h1 h2)
theorem ib:OpR X (binaryOp .Add) (rI0 λi j=>.int (i+j)):=Abs λ_ _ _ _ _ _ _ q=>add_int q
theorem iz:OpR X (binaryOp .Sub) (rI0 λi j=>.int (i-j)):=Abs λ_ _ _ _ _ _ _ q=>sub_int q
theorem Ee:OpR X (binaryOp .Mult) (rI CMul λi j=>.int (i*j)):=opI λ_ _ _ _ _ _ _ hc q=>mul_int q hc.ok
theorem cc:OpR X (binaryOp .FloorDiv) (rI Acr λi j=>.int (i/j)):=opI λi j _ _ _ _ _ hc q=>by
 have h1:(0:Int)<j:=hc.1
 have h2:j<1073741824:=hc.2
 exact floordiv_int (by lia) (by rw[Int.fdiv_eq_ediv_of_nonneg i (by lia)];exact q) (.inl (PyProof.noPylong_small (by lia)))
theorem V1:OpR X (binaryOp .Mod) (rI (λ_ j=>0<j) λi j=>.int (i%j)):=opI λi j _ _ _ _ _ hc q=>by
 have h1:(0:Int)<j:=hc
 exact mod_int' (by lia) (by rw[Int.fmod_eq_emod_of_nonneg i (by lia)];exact q)
theorem Yd:OpR X (binaryOp .Pow) (rI Acg λi j=>.int (i ^ j.toNat)):=opI λ_ _ _ _ _ _ _ hc q=>pow_int_small hc.1 hc.2.1 hc.2.2 q
theorem unI {f:Value->Sem Value}{g:Int->Int}
  (rule: ∀(i:Int)(t:Tok)(s:Shared)(Q:Value->Shared->Prop)(E:Value->Shared->Prop),Q (.int (g i) s.toks) {s with toks:=s.toks+1}->wpAny (model X.prog X.w) X.A (f (.int i t)) Q E s):
  UnR X f (rU λi=>.int (g i)):=by
 intro pins s σ H x v Q I rx h
 obtain⟨i,rfl,q⟩:=h
 obtain⟨t,rfl⟩:=rx
 exact rule i t s _ _ ⟨.int (g i),H,I.tok _,⟨_,rfl⟩,q⟩
theorem nc:UnR X (unaryOp .USub) (rU λi=>.int (-i)):=unI λ_ _ _ _ _ q=>neg_int q
end
def zd:V->V->Bool
 | .non,.non=>true| .non,.int _=>true| .int _,.non=>true| .non,.bl _=>true| .bl _,.non=>true| .non,.str _=>true| .str _,.non=>true
 | .int _,.int _=>true| .bl _,.bl _=>true| .str _,.str _=>true| .byt _,.byt _=>true
 | .int _,.str _=>true| .str _,.int _=>true| .bl _,.str _=>true| .str _,.bl _=>true
 | _,_=>false
def rEq:R2:=λx y H Q=>zd x y=true/\Q (.bl (decide (x=y))) H
def rNe:R2:=λx y H Q=>zd x y=true/\Q (.bl (!decide (x=y))) H
theorem fh {i j:Int}:decide (V.int i=V.int j)=(i==j):=by
 rw[Afw]
 simp
theorem mq {i j:Bool}:decide (V.bl i=V.bl j)=(i==j):=by
 rw[Afw]
 simp
theorem ae {i j:Str}:decide (V.str i=V.str j)=(i==j):=by
 rw[Afw]
 simp
theorem bh {i j:Array UInt8}:decide (V.byt i=V.byt j)=(i.toList==j.toList):=by
 rw[Afw]
 cases i
 cases j
 simp
section
variable {X:Cx}{a b c:Expr}{ta tb tc:TE}{pos:Pos}
theorem Bw {pins:List (Addr×Obj)}{σ:St}{H:Hp}{s:Shared}{Q:VK}{k k':Bool}(I:Inv X pins σ H s)(q:Q (.bl k) H)(e:k=k'):EP X pins σ Q (.bool k') s:=by
 subst e
 exact⟨.bl k,H,I,rfl,q⟩
theorem Qj:OpR X (compareOp .Eq) rEq:=by
 intro pins s σ H x y v u Q I rx ry h
 obtain⟨hs,q⟩:=h
 cases x with
 |
  non=>
  cases rx
  cases y with
  | non=>cases ry;exact PySem.EqNone.eq_none_none (Bw I q (by simp))
  | bl j=>cases ry;exact PySem.EqNone.eq_none_bool (Bw I q (by simp))
  | int j=>obtain⟨t',rfl⟩:=ry;exact PySem.EqNone.eq_none_int (Bw I q (by simp))
  | str j=>obtain⟨t',rfl⟩:=ry;exact PySem.EqNone.eq_none_str (Bw I q (by simp))
  | _=>exact absurd (show false=true from hs) Adf
 |
  bl i=>
  cases rx
  cases y with
  | non=>cases ry;exact PySem.EqNone.eq_bool_none (Bw I q (by simp))
  | bl j=>cases ry;exact eq_bool (Bw I q mq)
  | str j=>obtain⟨t',rfl⟩:=ry;exact PySem.EqMixed.eq_bool_str (Bw I q (by simp))
  | _=>exact absurd (show false=true from hs) Adf
 |
  int i=>
  obtain⟨t,rfl⟩:=rx
  cases y with
  | non=>cases ry;exact PySem.EqNone.eq_int_none (Bw I q (by simp))
  | int j=>obtain⟨t',rfl⟩:=ry;exact eq_int (Bw I q fh)
  | str j=>obtain⟨t',rfl⟩:=ry;exact PySem.EqMixed.eq_int_str (Bw I q (by simp))
  | _=>exact absurd (show false=true from hs) Adf
 |
  str i=>
  obtain⟨t,rfl⟩:=rx
  cases y with
  | non=>cases ry;exact PySem.EqNone.eq_str_none (Bw I q (by simp))
  | bl j=>cases ry;exact PySem.EqMixed.eq_str_bool (Bw I q (by simp))
  | int j=>obtain⟨t',rfl⟩:=ry;exact PySem.EqMixed.eq_str_int (Bw I q (by simp))
  | str j=>obtain⟨t',rfl⟩:=ry;exact eq_str (Bw I q ae)
  | _=>exact absurd (show false=true from hs) Adf
 |
  byt i=>
  obtain⟨t,rfl⟩:=rx
  cases y with
  | byt j=>obtain⟨t',rfl⟩:=ry;exact W.eq_bytes (Bw I q bh)
  | _=>exact absurd (show false=true from hs) Adf
 | _=>cases y<;>exact absurd (show false=true from hs) Adf
theorem jf:OpR X (compareOp .NotEq) rNe:=by
 intro pins s σ H x y v u Q I rx ry h
 obtain⟨hs,q⟩:=h
 cases x with
 |
  non=>
  cases rx
  cases y with
  | non=>cases ry;exact PySem.EqNone.ne_none_none (Bw I q (by simp))
  | bl j=>cases ry;exact PySem.EqNone.ne_none_bool (Bw I q (by simp))
  | int j=>obtain⟨t',rfl⟩:=ry;exact PySem.EqNone.ne_none_int (Bw I q (by simp))
  | str j=>obtain⟨t',rfl⟩:=ry;exact PySem.EqNone.ne_none_str (Bw I q (by simp))
  | _=>exact absurd (show false=true from hs) Adf
 |
  bl i=>
  cases rx
  cases y with
  | non=>cases ry;exact PySem.EqNone.ne_bool_none (Bw I q (by simp))
  | bl j=>cases ry;exact ne_bool (Bw I q (Aea not mq))
  | str j=>obtain⟨t',rfl⟩:=ry;exact PySem.EqMixed.ne_bool_str (Bw I q (by simp))
  | _=>exact absurd (show false=true from hs) Adf
 |
  int i=>
  obtain⟨t,rfl⟩:=rx
  cases y with
  | non=>cases ry;exact PySem.EqNone.ne_int_none (Bw I q (by simp))
  | int j=>obtain⟨t',rfl⟩:=ry;exact ne_int (Bw I q (Aea not fh))
  | str j=>obtain⟨t',rfl⟩:=ry;exact PySem.EqMixed.ne_int_str (Bw I q (by simp))
  | _=>exact absurd (show false=true from hs) Adf
 |
  str i=>
  obtain⟨t,rfl⟩:=rx
  cases y with
  | non=>cases ry;exact PySem.EqNone.ne_str_none (Bw I q (by simp))
  | bl j=>cases ry;exact PySem.EqMixed.ne_str_bool (Bw I q (by simp))
  | int j=>obtain⟨t',rfl⟩:=ry;exact PySem.EqMixed.ne_str_int (Bw I q (by simp))
  | str j=>obtain⟨t',rfl⟩:=ry;exact ne_str (Bw I q (Aea not ae))
  | _=>exact absurd (show false=true from hs) Adf
 |
  byt i=>
  obtain⟨t,rfl⟩:=rx
  cases y with
  | byt j=>obtain⟨t',rfl⟩:=ry;exact W.ne_bytes (Bw I q (Aea not bh))
  | _=>exact absurd (show false=true from hs) Adf
 | _=>cases y<;>exact absurd (show false=true from hs) Adf
theorem Aah:OpR X (compareOp .Lt) (rI0 λi j=>.bl (decide (i<j))):=Aad λ_ _ _ _ _ _ _ q=>lt_int q
theorem wx:OpR X (compareOp .Gt) (rI0 λi j=>.bl (decide (j<i))):=Aad λ_ _ _ _ _ _ _ q=>gt_int q
theorem Aaf:OpR X (compareOp .GtE) (rI0 λi j=>.bl (decide (j<=i))):=Aad λ_ _ _ _ _ _ _ q=>ge_int q
theorem Z8:OpR X (compareOp .Lt) (λx y H Q=>∃i j,x=.str i/\y=.str j/\Q (.bl (decide (i.cps.toList<j.cps.toList))) H):=by
 intro pins s σ H x y v u Q I rx ry h
 obtain⟨i,j,rfl,rfl,q⟩:=h
 obtain⟨t,rfl⟩:=rx
 obtain⟨t',rfl⟩:=ry
 exact lt_str (Bw I q rfl)
theorem du:OpR X (compareOp .In) (λx y H Q=>∃i j,x=.str i/\y=.str j/\Q (.bl (!(Builtin.Str.occurrences j i 0 j.length 1).isEmpty)) H):=by
 intro pins s σ H x y v u Q I rx ry h
 obtain⟨i,j,rfl,rfl,q⟩:=h
 obtain⟨t,rfl⟩:=rx
 obtain⟨t',rfl⟩:=ry
 exact in_str (Bw I q rfl)
theorem Yj:OpR X (compareOp .Is) (λx y H Q=>y=.non/\Q (.bl (decide (x=.non))) H):=by
 intro pins s σ H x y v u Q I rx ry h
 obtain⟨rfl,q⟩:=h
 cases ry
 refine is_none_gen (Bw I q ?_)
 cases x<;>first
  | (cases rx;rfl)
  | (obtain⟨t,rfl⟩:=rx;rfl)
theorem ox:OpR X (compareOp .IsNot) (λx y H Q=>y=.non/\Q (.bl (!decide (x=.non))) H):=by
 intro pins s σ H x y v u Q I rx ry h
 obtain⟨rfl,q⟩:=h
 cases ry
 refine isnot_none_gen (Bw I q ?_)
 cases x<;>first
  | (cases rx;rfl)
  | (obtain⟨t,rfl⟩:=rx;rfl)
theorem Ap (b:Expr){op:CmpOp}(h:op≠ .In:=by decide)(h2:op≠ .NotIn:=by decide):behindInMarks op b=false:=by
 have e1:(op==CmpOp.In)=false:=by cases op<;>first|rfl|exact absurd rfl h
 have e2:(op==CmpOp.NotIn)=false:=by cases op<;>first|rfl|exact absurd rfl h2
 cases b<;>simp[behindInMarks,e1,e2]
theorem Bv {op:CmpOp}{r:R2}(ho:OpR X (compareOp op) r)(ha:PE X a ta)(hb:PE X b tb)(hm:behindInMarks op b=false):PE X (.Compare a [op] [b] pos) (tOp r ta tb):=by
 intro pins s σ H Q I h
 exact wpAny_Compare1 (zx ha hb I h λv u s2 x y H2 I2 rx ry q=>ho pins s2 σ H2 x y v u Q I2 rx ry q) hm
def Aaz (t:TE):TT:=λσ H Q=>t σ H λx H'=>∃k,x=.bl k/\Q k H'
theorem Cz {op:CmpOp}{r:R2}(ho:OpR X (compareOp op) r)(ha:PE X a ta)(hb:PE X b tb)(hm:behindInMarks op b=false):PT X (.Compare a [op] [b] pos) (Aaz (tOp r ta tb)):=by
 intro pins s σ H Q I h
 refine wpAny_isTrue_Compare1 (thn (ha pins s σ H _ I h) λv s1 ⟨x,H1,I1,r1,q1⟩=>thn (hb pins s1 σ H1 _ I1 q1) λu s2 ⟨y,H2,I2,r2,q2⟩=>
  thn (ho pins s2 σ H2 x y v u _ I2 r1 r2 q2) λc s3 ⟨z,H3,I3,r3,k,e,q3⟩=>?_) hm
 subst e
 cases r3
 exact Ae2 ⟨H3,I3,q3⟩
def Abo (K:W.Frag)(x:V)(H:Hp)(k:Bool):Prop:=
 match x with
 | .non=>k=false
 | .bl b=>k=b
 | .int i=>k=(i != 0)
 | .str y=>y.length<=sizeLine/\k=((y.length:Int) != 0)
 | .byt y=>y.size<=sizeLine/\k=((y.size:Int) != 0)
 | .ref p=>(∃xs,SqL K H p xs/\k= !xs.isEmpty)∨(∃xs,SqT K H p xs/\k= !xs.isEmpty)∨ ∃kvs,H p=some (.dK kvs)/\k= !kvs.isEmpty
 | _=>False
theorem Zl {κ:Type}{kvs:List (κ×V)}{vs:List (κ×Value)}(r:KV kvs vs):(!vs.isEmpty)= !kvs.isEmpty:=by
 cases r<;>rfl
theorem Q8 {xs:List V}{its:List Value}(r:Vals xs its):(!its.toArray.isEmpty)= !xs.isEmpty:=by
 cases r<;>simp
theorem Q0:(sizeLine:Nat)<2 ^ 63:=by rw[Aeh];decide
theorem v8:Acq X (λx H Q=>∃k,Abo X.K x H k/\Q k H):=by
 intro pins s σ H x v Q I rx h
 obtain⟨k,e,q⟩:=h
 have hl:=Q0
 have hs:sizeLine=16777216:=Aeh
 cases x with
 |
  non=>
  cases rx
  have e':k=false:=e
  subst e'
  exact truthy_none ⟨H,I,q⟩
 |
  bl b=>
  cases rx
  have e':k=b:=e
  subst e'
  exact Ae2 ⟨H,I,q⟩
 |
  int i=>
  obtain⟨t,rfl⟩:=rx
  have e':k=(i != 0):=e
  subst e'
  exact PySem.P.truthy_int ⟨H,I,q⟩
 |
  str y=>
  obtain⟨t,rfl⟩:=rx
  obtain⟨hy,e'⟩:y.length<=sizeLine/\k=((y.length:Int) != 0):=e
  subst e'
  exact PySem.P.truthy_str (by lia) ⟨H,I.tok _,q⟩
 |
  byt y=>
  obtain⟨t,rfl⟩:=rx
  obtain⟨hy,e'⟩:y.size<=sizeLine/\k=((y.size:Int) != 0):=e
  subst e'
  exact W.truthy_bytes (by lia) ⟨H,I.tok _,q⟩
 |
  ref p=>
  cases rx
  have e':(∃xs,SqL X.K H p xs/\k= !xs.isEmpty)∨(∃xs,SqT X.K H p xs/\k= !xs.isEmpty)∨ ∃kvs,H p=some (.dK kvs)/\k= !kvs.isEmpty:=e
  rcases e' with⟨xs,hx,e'⟩|⟨xs,hx,e'⟩|⟨kvs,hx,e'⟩
  ·
   subst e'
   obtain⟨its,r,pl,hz⟩:=I.list hx
   have hlen:=r.length
   exact wpAny_truthy_list pl.isList (by simp only[Adn];lia) ⟨H,I.tok _,by rw[Q8 r];exact q⟩
  ·
   subst e'
   obtain⟨its,r,pl,hz⟩:=I.tuple hx
   have hlen:=r.length
   exact truthy_tuple pl (by simp only[Adn];lia) ⟨H,I.tok _,by rw[Q8 r];exact q⟩
  ·
   subst e'
   obtain⟨hz,hS,vs,r,m⟩:kvs.length<=sizeLine/\(p==sysModules)=false/\ ∃vs,KV kvs vs/\s.heap.DictOf (Bi X.prog X.w) p vs:=I.hok p _ hx
   have hlen:kvs.length=vs.length:=Ahb r
   exact wpAny_truthy_dict hS m (by lia) ⟨H,I.tok _,by rw[Zl r];exact q⟩
 | _=>exact(show False from e).elim
theorem X7 (ha:PE X a ta)(he: ∀whole,isTrue a X.env whole=(do let v ←whole;standAt a.pos;holding [v] (truthy v))):
  PT X a (λσ H Q=>ta σ H λx H'=>∃k,Abo X.K x H' k/\Q k H'):=by
 intro pins s σ H Q I h
 exact isTrue_plain (thn (ha pins s σ H _ I h) λv s1 ⟨x,H1,I1,r1,q1⟩=>v8 pins s1 σ H1 x v Q I1 r1 q1) (he _)
theorem F5:OpR X (binaryOp .Add) (λx y H Q=>∃i j,x=.str i/\y=.str j/\i.length+j.length<=sizeLine/\Q (.str (i++j)) H):=by
 intro pins s σ H x y v u Q I rx ry h
 obtain⟨i,j,rfl,rfl,hz,q⟩:=h
 obtain⟨t,rfl⟩:=rx
 obtain⟨t',rfl⟩:=ry
 exact add_str (λt' tk=>⟨.str (i++j),H,I.tok _,⟨_,rfl⟩,q⟩) hz
theorem vals1 {x:V}{us:List Value}(r:Vals [x] us): ∃u,us=[u]/\RelV x u:=by
 cases r with
 | cons r1 r2=>cases r2;exact⟨_,rfl,r1⟩
theorem vals2 {x y:V}{us:List Value}(r:Vals [x,y] us): ∃u w',us=[u,w']/\RelV x u/\RelV y w':=by
 cases r with
 |
  cons r1 r2=>
  cases r2 with
  | cons r3 r4=>cases r4;exact⟨_,_,rfl,r1,r3⟩
theorem dm (hc:X.calm=true):Gn X (.builtin "min") (λxs H Q=>∃i j,xs=[.int i,.int j]/\Q (.int (if j<i then j else i)) H):=by
 intro pins s σ H xs us Q I r h
 obtain⟨i,j,rfl,q⟩:=h
 obtain⟨u,w',rfl,⟨t,rfl⟩,⟨t',rfl⟩⟩:=vals2 r
 refine min_two_ints (I.ok.hd hc) λh' tk k=>⟨_,H,I.kept k,?_,q⟩
 by_cases hj:j<i
 · rw[if_pos hj,if_pos hj];exact⟨_,rfl⟩
 · rw[if_neg hj,if_neg hj];exact⟨_,rfl⟩
theorem cj:Gn X (.type "int") (λxs H Q=>(∃i,xs=[.int i]/\Q (.int i) H)∨ ∃k,xs=[.bl k]/\Q (.int (if k then 1 else 0)) H):=by
 intro pins s σ H xs us Q I r h
 rcases h with⟨i,rfl,q⟩|⟨k,rfl,q⟩
 ·
  obtain⟨u,rfl,t,rfl⟩:=vals1 r
  exact call_int_int ⟨.int i,H,I,⟨_,rfl⟩,q⟩
 ·
  obtain⟨u,rfl,r1⟩:=vals1 r
  cases r1
  exact call_int_bool ⟨.int (if k then 1 else 0),H,I.tok _,⟨_,rfl⟩,q⟩
end
structure ObjM (h:Heap)(x dx C:Addr)(mA:Str->Option Value):Prop where
 obj:h.get? x=some (W.instObj C dx)
 ns:h.Ns1 dx mA
 ne:dx≠x
theorem iu {h:Heap}{dx:Addr}{mA:Str->Option Value}(n:h.Ns1 dx mA): ∃od,h.get? dx=some od/\ ∀name,W.lookIn name od=some (mA name):=by
 obtain⟨o,es,ep,ho,hd,hk,_,hm⟩:=n
 refine⟨o,ho,λname=>?_⟩
 have e:=hm name
 unfold nsFind findBy at e
 rw[←Array.find?_toList] at e
 unfold W.lookIn
 rw[hd]
 dsimp only
 split
 ·
  rename_i y q
  rw[q] at e
  exact Aea some e
 ·
  rename_i q
  rw[q] at e
  have a:es.toList.any (·.refKey)=false:=by
   rw[List.any_eq_false]
   intro y hy
   obtain⟨z,t,hkey⟩:=hk y (Array.mem_toList_iff.mp hy)
   simp[DictEntry.refKey,hkey]
  have a': ¬es.toList.any (·.refKey)=true:=by rw[a];exact Adf
  rw[if_neg a']
  exact Aea some e
theorem ObjM.look {h:Heap}{x dx C:Addr}{mA:Str->Option Value}(I:ObjM h x dx C mA): ∃od,W.InstAt h x (W.instObj C dx) C (some od)/\ ∀name,W.lookIn name od=some (mA name):=
 let ⟨od,ho,hl⟩:=iu I.ns
 ⟨od,⟨I.obj,rfl,rfl,ho⟩,hl⟩
section
variable {prog:Program}{w:World}{A:Around}{E:Value->Shared->Prop}{s:Shared}{K:W.Frag}{x dx C f:Addr}{mA:Str->Option Value}{name:Str}{v:Value}
theorem get_map {expr:Bool}{Q:Value->Shared->Prop}(X:K.In s.heap)(I:ObjM s.heap x dx C mA)(hg:W.plainGet K C name=true)(hh:W.hasDictIn K C=true)
  (ha:W.findIn K (.ref C) name=some none) (hv:mA name=some v) (hv':W.handedIn v=true) (h:Q v {s with toks:=s.toks+1}):
  wpAny (model prog w) A (getAttr (.ref x) name expr) Q E s:=by
 obtain⟨od,J,hl⟩:=I.look
 exact W.get_value X J (W.plainGet_of hg).1 (W.findObj_own hh ha rfl (by rw[hl,hv])) hv' h
theorem jy {pl:Sem Bool}{Q:Value×List Value->Shared->Prop}(X:K.In s.heap)(I:ObjM s.heap x dx C mA)(hg:W.plainGet K C name=true)
  (hf:W.findIn K (.ref C) name=some (some (.ref f))) (ht:W.isFn K (.ref f)=true) (hv:mA name=none) (h:Q (.ref f,[.ref x]) s):
  wpAny (model prog w) A (getMethod (.ref x) name pl) Q E s:=by
 obtain⟨od,J,hl⟩:=I.look
 exact W.method_fn X J (W.plainGet_of hg).1 (W.plainGet_of hg).2 hf (beq_iff_eq.mp ht) (by show(W.lookIn name od).map (·.isSome)=some false;rw[hl,hv];rfl) h
theorem uf {ns:List Str}{Q:Unit->Shared->Prop}(X:K.In s.heap)(I:ObjM s.heap x dx C mA)
  (hs:W.findIn K (.ref C) "__setattr__"=some (some (.builtin "object.__setattr__"))) (hp:W.plainOver K C=true) (ht:W.takerIn K C name=some none) (hh:W.hasDictIn K C=true)
  (hw:PySem.Within mA ns) (hsz:ns.length<=sizeLine)
  (h: ∀h',ObjM h' x dx C (λy=>if y=name then some v else mA y)->Heap.SameBut dx s.heap h'->Q () {s with heap:=h',toks:=s.toks+2}):
  wpAny (model prog w) A (setAttr (.ref x) name v) Q E s:=by
 obtain⟨od,J,hl⟩:=I.look
 refine W.set_plain X J hs (W.osa_open (s:={s with toks:=s.toks+1}) (r:=none) X J hp ht λb=>?_)
 obtain⟨cd,hc,hd'⟩:=W.any_some hh
 have hx:s.heap.get? x=some ⟨.ref C,some dx,.plain,#[]⟩:=I.obj
 refine Ac1 (Ac4 (Ac1 (Ac1 (wpAny_loadPart hx (Ac1 (W.Looks.here (s:={s with toks:=s.toks+1}) (W.looks_clsIn X hc) ?_))))))
 rw[hd']
 refine Ac4 (a:=some dx) (Ac1 (Ac4 (Ac1 ?_)))
 refine wpAny_nsSet1 (s:={s with toks:=s.toks+1}) I.ns λh' hn2 hs2=>?_
 obtain⟨oD,esD,epD,hoD,hdD,hcD⟩:=hn2.count (PySem.Within.cons name v hw)
 refine Ac1 (wpAny_lookBehind hoD (by rw[hdD];exact pastItsLine_dict (Ady hcD (by rw[Ad2];lia))) ?_)
 exact Ac4 (h _ ⟨(hs2.2 _ (Ah3 I.ne)).trans I.obj,hn2,I.ne⟩ hs2)
theorem ke {R:Result->Shared->Prop}{vs:List Value}{kw:List (Str×Value)}(X:K.In s.heap)(hm:W.makesIn K C=true)
  (hi:W.findIn K (.ref C) "__init__"=some (some (.ref f))) (hf:W.typeIn K (.ref f)=some (.type "function"))
  (h:codeAny (model prog w) (A.under (.builtin "type.__call__" ⟨.ref C::vs,kw⟩)) (.call (.ref f) ⟨.ref (s.heap.objs.size+1)::vs,kw⟩) (W.InitBack (s.heap.objs.size+1) R)
   {s with heap:=(s.heap.push W.emptyDict).push (W.instObj C s.heap.objs.size)}):
  codeAny (model prog w) A (.call (.ref C) ⟨vs,kw⟩) R s:=by
 obtain⟨hh,g,d,t,os⟩:=s
 exact W.make_core (W.makes_of X hm) (W.looks_findIn X hi) (λself=>W.bind_fn X self hf) (.inl rfl) h
end
def Nl (f:Str)(v:V):List (Str×V)->List (Str×V)
 | []=>[(f,v)]
 | (g,x)::r=>if g=f then(g,v)::r else(g,x)::Nl f v r
theorem Pb (f g:Str)(v:V): ∀fs:List (Str×V),(Nl f v fs).lookup g=if g=f then some v else fs.lookup g
 |
  []=>by
  show List.lookup g [(f,v)]=_
  by_cases h:g=f
  ·
   have hb:(g==f)=true:=beq_iff_eq.mpr h
   simp only[List.lookup,hb,if_pos h]
  ·
   have hb:(g==f)=false:=Afi.mpr h
   simp only[List.lookup,hb,if_neg h]
 |
  (k,x)::r=>by
  have ih:=Pb f g v r
  rw[show Nl f v ((k,x)::r)=(if k=f then(k,v)::r else(k,x)::Nl f v r) from rfl]
  by_cases hk:k=f
  ·
   rw[if_pos hk]
   by_cases h:g=k
   ·
    have hb:(g==k)=true:=beq_iff_eq.mpr h
    simp only[List.lookup,hb,if_pos (h.trans hk)]
   ·
    have hb:(g==k)=false:=Afi.mpr h
    simp only[List.lookup,hb,if_neg (λe:g=f=>h (e.trans hk.symm))]
  ·
   rw[if_neg hk]
   by_cases h:g=k
   ·
    have hb:(g==k)=true:=beq_iff_eq.mpr h
    simp only[List.lookup,hb,if_neg (λe:g=f=>hk (h.symm.trans e))]
   ·
    have hb:(g==k)=false:=Afi.mpr h
    simp only[List.lookup,hb]
    exact ih
theorem Pq (f:Str)(v:V): ∀fs:List (Str×V),f∈(Nl f v fs).map (·.1)/\ ∀g,g∈fs.map (·.1)->g∈(Nl f v fs).map (·.1)
 | []=>⟨by simp[Nl],λg h=>by simp at h⟩
 |
  (k,x)::r=>by
  obtain⟨i1,i2⟩:=Pq f v r
  rw[show Nl f v ((k,x)::r)=(if k=f then(k,v)::r else(k,x)::Nl f v r) from rfl]
  by_cases hk:k=f
  ·
   rw[if_pos hk]
   subst hk
   exact⟨by simp,λg h=>by simpa using h⟩
  ·
   rw[if_neg hk]
   refine⟨?_,λg h=>?_⟩
   ·
    rw[Ad3]
    exact Adi _ i1
   ·
    rw[Ad3] at h ⊢
    rcases Ado.mp h with e|e
    · exact List.mem_cons.mpr (.inl e)
    · exact Adi _ (i2 g e)
theorem Pg (f:Str)(v:V): ∀fs:List (Str×V),(Nl f v fs).length<=fs.length+1
 | []=>by simp[Nl]
 |
  (k,x)::r=>by
  have ih:=Pg f v r
  rw[show Nl f v ((k,x)::r)=(if k=f then(k,v)::r else(k,x)::Nl f v r) from rfl]
  by_cases hk:k=f
  · rw[if_pos hk,Ad2,Ad2];lia
  · rw[if_neg hk,Ad2,Ad2];lia
theorem RelO.some_of {v:V}{o:Option Value}(r:RelO (some v) o): ∃u,o=some u/\RelV v u:=by
 cases o with
 | none=>exact(show False from r).elim
 | some u=>exact⟨u,rfl,r⟩
theorem RelO.none_of {o:Option Value}(r:RelO none o):o=none:=by
 cases o with
 | none=>rfl
 | some u=>exact(show False from r).elim
theorem ir {v:V}{u:Value}(r:RelV v u):W.handedIn u=true:=by
 cases v with
 | non=>cases (show u=Value.none from r);rfl
 | bl b=>cases (show u=Value.bool b from r);rfl
 | int i=>obtain⟨t,e⟩:=(show ∃t,u=Value.int i t from r);cases e;rfl
 | str x=>obtain⟨t,e⟩:=(show ∃t,u=Value.str x t from r);cases e;rfl
 | byt b=>obtain⟨t,e⟩:=(show ∃t,u=Value.bytes b t from r);cases e;rfl
 | flt b=>obtain⟨t,e⟩:=(show ∃t,u=Value.float b t from r);cases e;rfl
 | ref a=>cases (show u=Value.ref a from r);rfl
 | ty n=>cases (show u=Value.type n from r);rfl
section
variable {P:Program}{w:World}{H H':Hp}{h h':Heap}{a C dx:Addr}{fs fs':List (Str×V)}
theorem Ry (hok:HOk P w H h)(e:H a=some (.ins C dx fs)): ∃mA,ObjM h a dx C mA/\(∀f,RelO (fs.lookup f) (mA f))/\PySem.Within mA (fs.map (·.1))/\fs.length<=1000/\H dx=some (.own a):=by
 obtain⟨d,z,ne,ob,mA,n,r,q⟩:=(show ObjOk P w H h a (.ins C dx fs) from hok a _ e)
 exact⟨mA,⟨ob,n,ne⟩,r,q,z,d⟩
end
structure Cls (K:W.Frag)(C:Addr):Prop where
 pg:W.plainGet K C Str.empty=true
 hd:W.hasDictIn K C=true
 po:W.plainOver K C=true
 sa:W.findIn K (.ref C) "__setattr__"=some (some (.builtin "object.__setattr__"))
theorem Cls.get {K:W.Frag}{C:Addr}(c:Cls K C)(f:Str):W.plainGet K C f=true:=c.pg
def NoAttr (K:W.Frag)(C:Addr)(f:Str):Prop:=W.findIn K (.ref C) f=some none
theorem NoAttr.taker {K:W.Frag}{C:Addr}{f:Str}(n:NoAttr K C f):W.takerIn K C f=some none:=by
 unfold W.takerIn
 rw[show W.findIn K (.ref C) f=some none from n]
 rfl
structure Meth (K:W.Frag)(C:Addr)(m:Str)(f:Addr):Prop where
 at_:W.findIn K (.ref C) m=some (some (.ref f))
 fn:W.isFn K (.ref f)=true
 kp:W.keepIn K (.ref f)=true
section
variable {X:Cx}{pins:List (Addr×Obj)}{σ:St}{H:Hp}{s:Shared}{a C dx:Addr}{fs:List (Str×V)}{f:Str}{v:V}{A:Around}{E:Value->Shared->Prop}
theorem Zz {b:Bool}{Q:Value->Shared->Prop}(I:Inv X pins σ H s)(e:H a=some (.ins C dx fs))(c:Cls X.K C)(n:NoAttr X.K C f)(l:fs.lookup f=some v)
  (h: ∀u s',Inv X pins σ H s'->RelV v u->Q u s'):wpAny (model X.prog X.w) A (getAttr (.ref a) f b) Q E s:=by
 obtain⟨mA,O,r,_,_,_⟩:=Ry I.hok e
 obtain⟨u,hu,ru⟩:=RelO.some_of (v:=v) (o:=mA f) (by rw[←l];exact r f)
 exact get_map I.kIn O (c.get f) c.hd n hu (ir ru) (h u _ (I.tok _) ru)
theorem Q3 {m:Str}{g:Addr}{pl:Sem Bool}{Q:Value×List Value->Shared->Prop}(I:Inv X pins σ H s)(e:H a=some (.ins C dx fs))(c:Cls X.K C)(k:Meth X.K C m g)(l:fs.lookup m=none)
  (h:Q (.ref g,[.ref a]) s):wpAny (model X.prog X.w) A (getMethod (.ref a) m pl) Q E s:=by
 obtain⟨mA,O,r,_,_,_⟩:=Ry I.hok e
 have hn:mA m=none:=RelO.none_of (by rw[←l];exact r m)
 exact jy I.kIn O (c.get m) k.at_ k.fn hn h
theorem Y5 {y:V}{u:Value}{Q:Unit->Shared->Prop}(I:Inv X pins σ H s)(e:H a=some (.ins C dx fs))(c:Cls X.K C)(n:NoAttr X.K C f)(hl:fs.length<1000)(ry:RelV y u)
  (h: ∀s',Inv X pins σ (upd H a (.ins C dx (Nl f y fs))) s'->Q () s'):wpAny (model X.prog X.w) A (setAttr (.ref a) f u) Q E s:=by
 obtain⟨mA,O,r,wi,_,ho⟩:=Ry I.hok e
 have hz:(fs.map (·.1)).length<=sizeLine:=by rw[Ac0,Aeh];lia
 refine uf I.kIn O c.sa c.po n.taker c.hd wi hz λh' O' sb=>h _ ?_
 have hd: ∃o,h'.get? dx=some o:=let ⟨o,_,_,e',_⟩:=O'.ns;⟨o,e'⟩
 refine I.write (x:=a) (e:=dx) (by rw[e];exact True.intro) (.inr ho) (λb q hb z=>(sb.2 b hb).trans z) hd ?_
 refine⟨by rw[Aq O.ne];exact ho,?_,O.ne,O'.obj,_,O'.ns,λg=>?_,λg hg=>?_⟩
 · have:=Pg f y fs;lia
 ·
  show RelO ((Nl f y fs).lookup g) (if g=f then some u else mA g)
  rw[Pb]
  by_cases q:g=f
  · rw[if_pos q,if_pos q];exact ry
  · rw[if_neg q,if_neg q];exact r g
 ·
  by_cases q:g=f
  · rw[q];exact(Pq f y fs).1
  ·
   refine(Pq f y fs).2 g (wi g λz=>hg ?_)
   show(if g=f then some u else mA g)=none
   rw[if_neg q];exact z
theorem Inv.made (I:Inv X pins σ H s):Inv X pins σ (upd (upd H s.heap.objs.size (.own (s.heap.objs.size+1))) (s.heap.objs.size+1) (.ins C s.heap.objs.size []))
  {s with heap:=(s.heap.push W.emptyDict).push (W.instObj C s.heap.objs.size)}:=by
 have e1:(s.heap.push W.emptyDict).get? s.heap.objs.size=some W.emptyDict:=Adv s.heap rfl
 have e2:((s.heap.push W.emptyDict).push (W.instObj C s.heap.objs.size)).get? (s.heap.objs.size+1)=some (W.instObj C s.heap.objs.size):=by
  have:=Adv (s.heap.push W.emptyDict) (o:=W.instObj C s.heap.objs.size) rfl
  rwa[Agr] at this
 have e3:(s.heap.push W.emptyDict).Ns s.heap.objs.size (λ_=>none):=⟨W.emptyDict,#[],_,e1,rfl,(λe he=>absurd he (by simp)),λ_=>rfl⟩
 have I1:=I.laid (a:=s.heap.objs.size) (o:=.own (s.heap.objs.size+1)) (h':=s.heap.push W.emptyDict) (t':=s.toks) (λb u q=>Ac5 _ q) (Adb _) ⟨_,e1⟩
 refine I1.laid (a:=s.heap.objs.size+1) (o:=.ins C s.heap.objs.size []) (t':=s.toks) (λb u q=>Ac5 _ q) (Nat.le_of_eq (Agr _ _)) ?_
 have ne:s.heap.objs.size≠s.heap.objs.size+1:=Ad9 (Ah6 _)
 refine⟨by rw[Aq ne,Ad],Adw _,ne,e2,λ_=>none,(Heap.Ns1.of_empty e3).at λo q=>Ac5 _ q,λ_=>True.intro,λy hy=>absurd rfl hy⟩
theorem rf {prog:Program}{w:World}{env:Env}{e:Expr}{f:Str}{pos:Pos}{s:Shared}{Q:Value->Shared->Prop}(hb:attributeBase e f env (eval e env)=eval e env)
  (h:wpAny (model prog w) A (eval e env) (λo s₁=>wpAny (model prog w) A (getAttr o f true) Q E s₁) E s):wpAny (model prog w) A (eval (.Attribute e f pos) env) Q E s:=
 Attribute_any_ h (by rw[arm_eval_Attribute,hb])
end
def Abl (K:W.Frag)(ta:TE)(f:Str):TE:=λσ H Q=>ta σ H λx H1=>∃a C dx fs v,x=.ref a/\H1 a=some (.ins C dx fs)/\Cls K C/\NoAttr K C f/\fs.lookup f=some v/\Q v H1
def Abj (K:W.Frag)(ta tv:TE)(f:Str):TS:=λD σ H=>tv σ H λy H1=>ta σ H1 λx H2=>∃a C dx fs,x=.ref a/\H2 a=some (.ins C dx fs)/\Cls K C/\NoAttr K C f/\fs.length<1000/\
 D.nx σ (upd H2 a (.ins C dx (Nl f y fs)))
section
variable {X:Cx}{o e value:Expr}{f:Str}{pos pos' tpos:Pos}{ta tv:TE}
theorem vb (he:PE X e ta)(hb:attributeBase e f X.env (eval e X.env)=eval e X.env):PE X (.Attribute e f pos) (Abl X.K ta f):=by
 intro pins s σ H Q I h
 refine rf hb (thn (he pins s σ H _ I h) λu s1 ⟨x,H1,I1,rx,a,C,dx,fs,v,ex,ea,c,n,l,q⟩=>?_)
 subst ex
 obtain rfl:u=Value.ref a:=rx
 exact Zz I1 ea c n l λu' s2 I2 ru=>⟨v,H1,I2,ru,q⟩
theorem yr (ha:PE X o ta)(hv:PE X value tv)(hs:swapsWith value (some (.Attribute o f pos')) pos.line X.env=pure false):PS X (.Assign [.Attribute o f pos'] value pos) (Abj X.K ta tv f):=by
 intro pins s σ H D I h
 refine plainObj_wpAny_Assign_Attribute (thn (hv pins s σ H _ I h) λu s1 ⟨y,H1,I1,ry,q⟩=>thn (ha pins s1 σ H1 _ I1 q) λov s2 ⟨x,H2,I2,rx,a,C,dx,fs,ex,ea,c,n,l,q2⟩=>?_) hs
 subst ex
 obtain rfl:ov=Value.ref a:=rx
 exact Y5 I2 ea c n l ry λs3 I3=>⟨σ,_,I3,q2⟩
end
section
variable {X:Cx}{pins:List (Addr×Obj)}{σ:St}{H:Hp}{s:Shared}{A:Around}{E:Value->Shared->Prop}{Q:Value->Shared->Prop}{c:Value}{b:Bool}
inductive Ed (K:W.Frag)(H:Hp):V->Value->Prop where
 | non:Ed K H .non (.type "NoneType")
 | bl (x:Bool):Ed K H (.bl x) (.type "bool")
 | int (i:Int):Ed K H (.int i) (.type "int")
 | str (x:Str):Ed K H (.str x) (.type "str")
 | flt (x:UInt64):Ed K H (.flt x) (.type "float")
 | lst {a:Addr} {xs:List V} (e:H a=some (.lst xs)):Ed K H (.ref a) (.type "list")
 | frz {a:Addr} {o:Obj} {xs:List V} (e:H a=some (.frz o (.lst xs))):Ed K H (.ref a) (.type "list")
 | tup {a:Addr} {xs:List V} (e:H a=some (.tup xs)):Ed K H (.ref a) (.type "tuple")
 | dK {a:Addr} {kvs:List (Key×V)} (e:H a=some (.dK kvs)):Ed K H (.ref a) (.type "dict")
 | dT {a:Addr} {kvs:List (List Key×V)} (e:H a=some (.dT kvs)):Ed K H (.ref a) (.type "dict")
 | ins {a C dx:Addr} {fs:List (Str×V)} (e:H a=some (.ins C dx fs)) (cl:Cls K C) (ha:W.findIn K (.ref C) "__class__"=some (some (.builtin "object.__class__")))
  (hn:W.specialIn K (.builtin "object.__class__") "__get__"=some (some (.builtin "getset_descriptor.__get__"))) (htk:W.takesIn K (.builtin "object.__class__")=some true)
  (hm:W.mroIn K C (.type "object")=some true):Ed K H (.ref a) (.ref C)
theorem bg {x:V}{u t:Value}(I:Inv X pins σ H s)(rx:RelV x u)(ty:Ed X.K H x t)(e:W.kitOne X.K t c=some b)(h: ∀tk,Q (.bool b) {s with toks:=tk}):
  wpAny (model X.prog X.w) A (call (.builtin "isinstance") [u,c]) Q E s:=by
 cases ty with
 | non=>cases (show u=Value.none from rx);exact Aha W.kitx_none I.kIn True.intro e (λz=>nomatch z) h
 | bl y=>cases (show u=Value.bool y from rx);exact Aha W.kitx_bool I.kIn True.intro e (λz=>nomatch z) h
 | int i=>obtain⟨t,q⟩:=(show ∃t,u=Value.int i t from rx);cases q;exact Aha W.kitx_int I.kIn True.intro e (λz=>nomatch z) h
 | str y=>obtain⟨t,q⟩:=(show ∃t,u=Value.str y t from rx);cases q;exact Aha W.kitx_str I.kIn True.intro e (λz=>nomatch z) h
 | flt y=>obtain⟨t,q⟩:=(show ∃t,u=Value.float y t from rx);cases q;exact Aha W.kitx_float I.kIn True.intro e (λz=>nomatch z) h
 |
  @lst a xs ea=>
  cases (show u=Value.ref a from rx)
  obtain⟨_,_,n,_,h1⟩:=(show ObjOk X.prog X.w H s.heap a (.lst xs) from I.hok a _ ea)
  exact Aha W.kitx_list I.kIn ⟨_,h1,rfl⟩ e (λz=>nomatch z) h
 |
  @frz a ob xs ea=>
  cases (show u=Value.ref a from rx)
  obtain⟨_,_,_,n,_,h1⟩:=(show ObjOk X.prog X.w H s.heap a (.frz ob (.lst xs)) from I.hok a _ ea)
  exact Aha W.kitx_list I.kIn ⟨_,h1,rfl⟩ e (λz=>nomatch z) h
 |
  @tup a xs ea=>
  cases (show u=Value.ref a from rx)
  obtain⟨_,_,_,p⟩:=(show ObjOk X.prog X.w H s.heap a (.tup xs) from I.hok a _ ea)
  obtain⟨o,h1,h2,_⟩:=p
  exact Aha W.kitx_tuple I.kIn ⟨o,h1,h2⟩ e (λz=>nomatch z) h
 |
  @dK a kvs ea=>
  cases (show u=Value.ref a from rx)
  obtain⟨_,_,vs,_,p⟩:=(show ObjOk X.prog X.w H s.heap a (.dK kvs) from I.hok a _ ea)
  obtain⟨o,es,ep,h1,h2,_⟩:=p
  exact Aha W.kitx_dict I.kIn ⟨o,h1,h2.1⟩ e (λz=>nomatch z) h
 |
  @dT a kvs ea=>
  cases (show u=Value.ref a from rx)
  obtain⟨_,_,xs,_,o,es,ep,h1,h2,_⟩:=(show ObjOk X.prog X.w H s.heap a (.dT kvs) from I.hok a _ ea)
  exact Aha W.kitx_dict I.kIn ⟨o,h1,h2.1⟩ e (λz=>nomatch z) h
 |
  @ins a C dx fs ea cl ha hn htk hm=>
  cases (show u=Value.ref a from rx)
  obtain⟨mA,O,_⟩:=Ry I.hok ea
  obtain⟨od,J,_⟩:=O.look
  exact Aha (W.kitx_own (cl.get _) cl.hd ha hn htk hm) I.kIn J e (λz=>nomatch z) h
end
structure Room (cm:Bool)(k:Nat)(A:Around):Prop where
 hd:cm=true->A.handled=none
 dp:A.depth+3*k+5<recursionLimit
 un:A.units+16*k+200<cLine
theorem Room.mono {cm:Bool}{j k:Nat}{A:Around}(r:Room cm k A)(h:j<=k):Room cm j A:=⟨r.hd,by have:=r.dp;lia,by have:=r.un;lia⟩
theorem Room.deeper {cm:Bool}{k:Nat}{A:Around}(r:Room cm (k+1) A)(env:Env):Room cm k (A.deeper env):=
 ⟨r.hd,by have:=r.dp;show A.depth+1+3*k+5<_;lia,by have:=r.un;show A.units+3+16*k+200<_;lia⟩
theorem Room.in1 {cm:Bool}{k:Nat}{A:Around}(r:Room cm (k+1) A):Room cm k A.in1:=
 ⟨r.hd,by have:=r.dp;show A.depth+3*k+5<_;lia,by have:=r.un;show A.units+1+16*k+200<_;lia⟩
theorem Ze {A:Around}{C:Addr}{us:List Value}{kw:List (Str×Value)}:(A.under (.builtin "type.__call__" ⟨.ref C::us,kw⟩)).depth=A.depth+1:=by
 first|rfl|simp[Around.under,Code.weight,Code.isCreation,Code.isGuard,Code.isCaller,Code.frames,Code.isFrame,guardIds]
theorem Zk {A:Around}{C:Addr}{us:List Value}{kw:List (Str×Value)}:(A.under (.builtin "type.__call__" ⟨.ref C::us,kw⟩)).units=A.units+1:=by
 first|rfl|simp[Around.under,Code.cUnits,Code.frames,Code.isFrame]
theorem Room.make {cm:Bool}{k:Nat}{A:Around}(r:Room cm (k+1) A)(C:Addr)(us:List Value)(kw:List (Str×Value)):Room cm k (A.under (.builtin "type.__call__" ⟨.ref C::us,kw⟩)):=
 ⟨r.hd,by have:=r.dp;rw[Ze];lia,by have:=r.un;rw[Zk];lia⟩
theorem Room.depth {cm:Bool}{k:Nat}{A:Around}(r:Room cm k A):A.depth<recursionLimit:=by have:=r.dp;lia
theorem Room.units {cm:Bool}{k:Nat}{A:Around}(r:Room cm k A):A.units+64<cLine:=by have:=r.un;lia
def w8:TA:=λ_ H Q=>Q [] H
def kq (ta:TE)(tr:TA):TA:=λσ H Q=>ta σ H λx H1=>tr σ H1 λxs H2=>Q (x::xs) H2
section
variable {X:Cx}{e:Expr}{es:List Expr}{te:TE}{t:TA}{pos:Pos}
theorem Ac:PA X [] w8:=λ_ _ _ _ H Q I h=>Calls.spliced_nil ⟨[],H,I,.nil,h⟩
theorem Aa (ha:PE X e te)(hr:PA X es t)(hs:starEach (e::es) X.env=(false,eval e X.env)::starEach es X.env:=by rfl):PA X (e::es) (kq te t):=by
 intro pos pins s σ H Q I h
 rw[hs]
 show wpAny _ _ (spliced ((false,eval e X.env)::backTo pos (starEach es X.env))) _ _ s
 refine Ah5 (thn (ha pins s σ H _ I h) λu s1 ⟨x,H1,I1,r1,q1⟩=>?_)
 exact thn (hr pos pins s1 σ H1 _ I1 q1) λus s2 ⟨xs,H2,I2,r2,q2⟩=>⟨x::xs,H2,I2,.cons r1 r2,q2⟩
def Ab0 (t:TA):TE:=λσ H Q=>t σ H λxs H1=>xs.length<=sizeLine/\ ∀p,H1 p=none->Q (.ref p) (upd H1 p (.tup xs))
def Acu (t:TA):TE:=λσ H Q=>t σ H λxs H1=>xs.length<=sizeLine/\ ∀p,H1 p=none->Q (.ref p) (upd H1 p (.lst xs))
theorem U6 {x1}(h:PA X es t):PE X (.Tuple es x1 pos) (Ab0 t):=by
 intro pins s σ H Q I hq
 refine wpAny_Tuple_spliced (thn (h pos pins s σ H _ I hq) λus s1 ⟨xs,H1,I1,r,z,q⟩=>⟨by rw[←r.length];exact z,?_⟩)
 have hf:H1 s1.heap.objs.size=none:=I1.hok.fresh (Adb _)
 refine⟨.ref s1.heap.objs.size,upd H1 s1.heap.objs.size (.tup xs),I1.laid (t':=s1.toks) (λb u e=>Ac5 _ e) (Adb _) ?_,rfl,q _ hf⟩
 exact⟨z,us,r,⟨_,Adv _ rfl,rfl,_,rfl⟩⟩
theorem Yc (h:PA X es t):PE X (.List es pos) (Acu t):=by
 intro pins s σ H Q I hq
 refine wpAny_List_spliced (thn (h pos pins s σ H _ I hq) λus s1 ⟨xs,H1,I1,r,z,q⟩=>⟨by rw[←r.length];exact z,?_⟩)
 have hf:H1 s1.heap.objs.size=none:=I1.hok.fresh (Adb _)
 refine⟨.ref s1.heap.objs.size,upd H1 s1.heap.objs.size (.lst xs),I1.laid (t':=s1.toks) (λb u e=>Ac5 _ e) (Adb _) ?_,rfl,q _ hf⟩
 exact⟨z,us,0,r,Adv _ rfl⟩
end
abbrev Sp:=List V->Hp->VK->XK->Prop
abbrev CXT:=List Env->Hp->Shared->XK->Value->Shared->Prop
structure Env0 (P:Program)(w:World)(K:W.Frag)(mg:Str->Option Value)(base:Heap)(A:Around)(outer:List Env)(s:Shared)(H:Hp):Prop where
 frames:A.frames=some outer
 mod:Mod K mg base
 bs: ∀b o,base.get? b=some o->s.heap.get? b=some o/\H b=none
 bsz:base.objs.size<=s.heap.objs.size
 funs:s.heap.FunFrames base outer
 frf: ∀b∈frs outer,H b=none
 hok:HOk P w H s.heap
 bare:AllBare s.gens
def CE (outer:List Env)(P:Program)(w:World)(H:Hp)(s:Shared)(Q:VK)(u:Value)(s':Shared):Prop:=
 ∃v H',s'.os=s.os/\AllBare s'.gens/\Un (frs outer) [] H H' s.heap s'.heap/\HOk P w H' s'.heap/\RelV v u/\Q v H'
def CR (CX:CXT)(outer:List Env)(P:Program)(w:World)(H:Hp)(s:Shared)(Q:VK)(E:XK)(r:Result)(s':Shared):Prop:=
 match r with
 | .ok (.ret u)=>CE outer P w H s Q u s'
 | .ok _=>False
 | .error e=>CX outer H s E e s'
structure FnOk (P:Program)(w:World)(K:W.Frag)(mg:Str->Option Value)(base:Heap)(CX:CXT)(cm:Bool)(k:Nat)(f:Addr)(fd:FuncData)(ps:List Str)(sp:Sp):Prop where
 len: ∀vs H Q E,sp vs H Q E->vs.length=ps.length
 run: ∀(A:Around)(outer:List Env)(s:Shared)(H:Hp)(args:Args)(us:List Value)(vs:List V)(Q:VK)(E:XK),Room cm k A->Env0 P w K mg base A outer s H->BindsTo s fd args (ps.zip us)->Vals vs us->sp vs H Q E->
  codeAny (model P w) A (.call (.ref f) args) (CR CX outer P w H s Q E) s
theorem FnOk.mono {cm:Bool}{P:Program}{w:World}{K:W.Frag}{mg:Str->Option Value}{base:Heap}{CX:CXT}{j k:Nat}{f:Addr}{fd:FuncData}{ps:List Str}{sp:Sp}(F:FnOk P w K mg base CX cm j f fd ps sp)(h:j<=k):
 FnOk P w K mg base CX cm k f fd ps sp:=⟨F.len,λA outer s H args us vs Q E hr=>F.run A outer s H args us vs Q E (hr.mono h)⟩
theorem Env0.make {P:Program}{w:World}{K:W.Frag}{mg:Str->Option Value}{base:Heap}{A:Around}{outer:List Env}{s:Shared}{H:Hp}(e:Env0 P w K mg base A outer s H)(C:Addr)(us:List Value)(kw:List (Str×Value)):
 Env0 P w K mg base (A.under (.builtin "type.__call__" ⟨.ref C::us,kw⟩)) outer s H:=⟨by first|exact e.frames|(simpa[Around.under,Code.envs,Code.isFrame,pushEnvs] using e.frames),e.mod,e.bs,e.bsz,e.funs,e.frf,e.hok,e.bare⟩
theorem Env0.in1 {P:Program}{w:World}{K:W.Frag}{mg:Str->Option Value}{base:Heap}{A:Around}{outer:List Env}{s:Shared}{H:Hp}(e:Env0 P w K mg base A outer s H):
 Env0 P w K mg base A.in1 outer s H:=⟨e.frames,e.mod,e.bs,e.bsz,e.funs,e.frf,e.hok,e.bare⟩
section
variable {X:Cx}{pins:List (Addr×Obj)}{σ:St}{H:Hp}{s s':Shared}
theorem Inv.env0 (I:Inv X pins σ H s):Env0 X.prog X.w X.K X.mg X.base X.A X.stack s H:=
 ⟨I.ok.frames,I.ok.mod,I.bs,Ady I.ok.bsz I.sz,I.stack,I.stkFree,I.hok,I.bare⟩
theorem Inv.after {Q:VK}{u:Value}(I:Inv X pins σ H s)(h:CE X.stack X.prog X.w H s Q u s'):EP X pins σ Q u s':=by
 obtain⟨v,H',os,bare,un,hok,r,q⟩:=h
 obtain⟨hh,g,d,t,os'⟩:=s'
 obtain rfl:os'=s.os:=os
 exact⟨v,H',I.call (h':=hh) (g':=g) (d':=d) (t':=t) (ch:=[]) un hok bare (λb z=>absurd z (by simp)),r,q⟩
end
def Aax (sp:Sp)(dvs:List V)(E:XK)(t:TA):TE:=λσ H Q=>t σ H λvs H1=>sp (vs++dvs) H1 Q E
def zv (C:Addr)(sp:Sp)(dvs:List V)(E:XK)(t:TA):TE:=λσ H Q=>t σ H λvs H1=>∀x dx,H1 x=none->H1 dx=none->dx≠x->
 sp (.ref x::(vs++dvs)) (upd (upd H1 dx (.own x)) x (.ins C dx [])) (λv H2=>v=.non/\Q (.ref x) H2) E
def Binds (K:W.Frag)(fd:FuncData)(ps:List Str)(ds:List Value):Prop:=
 ∀(s:Shared)(us:List Value),K.In s.heap->(us++ds).length=ps.length->BindsTo s fd ⟨us,[]⟩ (ps.zip (us++ds))
theorem Binds.all {K:W.Frag}{fd:FuncData}{ps:List Str}(h: ∀us:List Value,us.length=ps.length->bindArgs fd ⟨us,[]⟩=pure (ps.zip us)):Binds K fd ps []:=λs us _ hl=>by
 rw[Aet] at hl ⊢
 exact .of_eq (h us hl)
def Passes (CX:CXT)(X:Cx)(E:XK):Prop:=∀(pins:List (Addr×Obj))(σ:St)(H:Hp)(s:Shared)(e:Value)(s':Shared),Inv X pins σ H s->CX X.stack H s E e s'->X.xe e s'
section
variable {X:Cx}{CX:CXT}{cm:Bool}{k:Nat}{f C:Addr}{fd:FuncData}{ps:List Str}{sp:Sp}{dvs:List V}{ds:List Value}{E:XK}{x m:Str}{p pos apos:Pos}{e o:Expr}{es:List Expr}{ta:TE}{t:TA}
theorem fm {pins:List (Addr×Obj)}{σ:St}{H:Hp}{s:Shared}{Q:VK}{us:List Value}{vs:List V}(F:FnOk X.prog X.w X.K X.mg X.base CX cm k f fd ps sp)(hr:Room cm k X.A)(hb:Binds X.K fd ps ds)(hd:Vals dvs ds)(hx:Passes CX X E)
  (I:Inv X pins σ H s) (r:Vals vs us) (h:sp (vs++dvs) H Q E):wpAny (model X.prog X.w) X.A (call (.ref f) us) (EP X pins σ Q) X.xe s:=by
 have r2:Vals (vs++dvs) (us++ds):=r.append hd
 have hl:(us++ds).length=ps.length:=by rw[←r2.length];exact F.len _ _ _ _ h
 refine wpAny_call (Ais (F.run X.A X.stack s H ⟨us,[]⟩ (us++ds) (vs++dvs) Q E hr I.env0 (hb s us I.kIn hl) r2 h) λr s' hq=>?_)
 cases r with
 | error e=>exact hx pins σ H s e s' I hq
 |
  ok fl=>
  cases fl with
  | ret u=>exact I.after hq
  | next=>exact False.elim hq
  | brk=>exact False.elim hq
  | cont=>exact False.elim hq
theorem Ai (F:FnOk X.prog X.w X.K X.mg X.base CX cm k f fd ps sp)(hr:Room cm k X.A)(hg:Gl X x)(hm:X.mg x=some (.ref f))(hk:W.keepIn X.K (.ref f)=true)(hb:Binds X.K fd ps ds)(hd:Vals dvs ds)(hx:Passes CX X E)
  (ha:PA X (e::es) t) (hdb:(x==("__debug__":Str))=false:=by decide) (he:starEach (e::es) X.env=(false,eval e X.env)::starEach es X.env:=by rfl) (hpl:(backTo pos (starEach es X.env)).any (·.1)=false:=by rfl):
  PE X (.Call (.Name x p) (e::es) [] pos) (Aax sp dvs E t):=by
 intro pins s σ H Q I h
 refine Ag9 (Tf I hg hm ?_ hdb)
 refine W.callWith_K (h₀:=X.base) I.ok.mod.kin hk (thn (ha pos pins s σ H _ I h) λus s1 ⟨vs,H1,I1,r,q⟩=>⟨I1.kIn,?_⟩) he hpl
 exact fm F hr hb hd hx I1 r q
structure Mk (K:W.Frag)(C f:Addr):Prop where
 makes:W.makesIn K C=true
 init:W.findIn K (.ref C) "__init__"=some (some (.ref f))
 fn:W.isFn K (.ref f)=true
 kp:W.keepIn K (.ref C)=true
theorem ko {pins:List (Addr×Obj)}{σ:St}{H:Hp}{s:Shared}{Q:VK}{us:List Value}{vs:List V}(M:Mk X.K C f)(F:FnOk X.prog X.w X.K X.mg X.base CX cm k f fd ps sp)(hr:Room cm (k+1) X.A)(hb:Binds X.K fd ps ds)(hd:Vals dvs ds)
  (hx:Passes CX X E) (I:Inv X pins σ H s) (r:Vals vs us)
  (h: ∀x dx,H x=none->H dx=none->dx≠x->sp (.ref x::(vs++dvs)) (upd (upd H dx (.own x)) x (.ins C dx [])) (λv H2=>v=.non/\Q (.ref x) H2) E):
  wpAny (model X.prog X.w) X.A (call (.ref C) us) (EP X pins σ Q) X.xe s:=by
 have hq:=h (s.heap.objs.size+1) s.heap.objs.size (I.hok.fresh (Afz _)) (I.hok.fresh (Adb _)) (Ad9 (Ah6 _))
 have I2:=Inv.made (C:=C) I
 have r2:Vals (V.ref (s.heap.objs.size+1)::(vs++dvs)) (Value.ref (s.heap.objs.size+1)::(us++ds)):=.cons rfl (r.append hd)
 have hl:(Value.ref (s.heap.objs.size+1)::us++ds).length=ps.length:=by
  have e:=r2.length
  rw[F.len _ _ _ _ hq] at e
  exact e.symm
 refine wpAny_call (ke (f:=f) I.kIn M.makes M.init (beq_iff_eq.mp M.fn) (Ais (F.run _ X.stack _ _ ⟨Value.ref (s.heap.objs.size+1)::us,[]⟩ (Value.ref (s.heap.objs.size+1)::(us++ds)) _ _ E (hr.make C us [])
  (I2.env0.make C us []) (hb _ (Value.ref (s.heap.objs.size+1)::us) I2.kIn hl) r2 hq) λr s' hq'=>?_))
 cases r with
 | error e=>exact hx pins σ _ _ e s' I2 hq'
 |
  ok fl=>
  cases fl with
  |
   ret u=>
   obtain⟨v,H',I3,rv,ev,q3⟩:=I2.after hq'
   subst ev
   exact⟨rv,⟨V.ref (s.heap.objs.size+1),H',I3,rfl,q3⟩⟩
  | next=>exact False.elim hq'
  | brk=>exact False.elim hq'
  | cont=>exact False.elim hq'
theorem Nv (M:Mk X.K C f)(F:FnOk X.prog X.w X.K X.mg X.base CX cm k f fd ps sp)(hr:Room cm (k+1) X.A)(hg:Gl X x)(hm:X.mg x=some (.ref C))(hb:Binds X.K fd ps ds)(hd:Vals dvs ds)(hx:Passes CX X E)
  (hdb:(x==("__debug__":Str))=false:=by decide):PE X (.Call (.Name x p) [] [] pos) (zv C sp dvs E w8):=by
 intro pins s σ H Q I h
 refine Ag9 (Tf I hg hm ?_ hdb)
 exact W.callWith_K0 I.kIn M.kp (ko (us:=[]) M F hr hb hd hx I .nil h)
end
def PK (X:Cx)(kws:List Keyword)(t:TA):Prop:=
 ∀(pos:Pos)(pins:List (Addr×Obj))(s:Shared)(σ:St)(H:Hp)(Q:List V->Hp->Prop),Inv X pins σ H s->t σ H Q->wpAny (model X.prog X.w) X.A (evalAll ((backToKw pos (keywordEach kws X.env)).map (·.2))) (AP X pins σ Q) X.xe s
section
variable {X:Cx}{CX:CXT}{cm:Bool}{k:Nat}{f C:Addr}{fd:FuncData}{ps ks:List Str}{sp:Sp}{E:XK}{x m:Str}{p pos apos kpos:Pos}{e o:Expr}{es:List Expr}{kws:List Keyword}{te ta:TE}{t tk:TA}{nm:Option Str}
theorem yt:PK X [] w8:=λ_ _ _ _ H Q I h=>wpAny_evalAll_nil ⟨[],H,I,.nil,h⟩
theorem qm (ha:PE X e te)(hr:PK X kws t):PK X (⟨nm,e,kpos⟩::kws) (kq te t):=by
 intro pos pins s σ H Q I h
 show wpAny _ _ (evalAll ((do let v ←eval e X.env;standAt pos;pure v)::(backToKw pos (keywordEach kws X.env)).map (·.2))) _ _ s
 refine wpAny_evalAll_cons (Ac1 (thn (ha pins s σ H _ I h) λu s1 ⟨x,H1,I1,r1,q1⟩=>Ac1 (wpAny_standAt (Ac4 ?_))))
 exact thn (hr pos pins s1 σ H1 _ I1 q1) λus s2 ⟨xs,H2,I2,r2,q2⟩=>⟨x::xs,H2,I2,.cons r1 r2,q2⟩
variable {g:List Value->List Value->List Value}{gV:List V->List V->List V}
end
structure Ay (N P:List Str)(sc:Scope):Prop where
 kind:sc.kind=.function
 co:sc.isCoroutine=false
 gen:sc.isGenerator=false
 nd:N.Nodup
 pre:N.take P.length=P
 par: ∀x∈P,sc.names.lookup x=some .local∨sc.names.lookup x=some .cell
 nofree: ∀y∈sc.names,y.2≠ .free
theorem Uh {kindOf:Str->Option NameKind}{x:Str}: ∀{binds:List (Str×Value)}{m:Str->Option Value},(∀v,(x,v)∉binds)->bindL kindOf binds m x=m x
 | [],_,_=>rfl
 |
  (n,v)::r,m,h=>by
  unfold bindL
  rw[Uh λw hw=>h w (Adi _ hw)]
  split
  ·
   have:x≠n:=by rintro rfl;exact h v Ac8
   simp[this]
  · rfl
theorem Tq {kindOf:Str->Option NameKind}{x:Str}: ∀{binds:List (Str×Value)}{m:Str->Option Value},(∀v,(x,v)∉binds)->bindC kindOf binds m x=m x
 | [],_,_=>rfl
 |
  (n,v)::r,m,h=>by
  unfold bindC
  rw[Tq λw hw=>h w (Adi _ hw)]
  split
  · rfl
  ·
   have:x≠n:=by rintro rfl;exact h v Ac8
   simp[this]
theorem Ue {kindOf:Str->Option NameKind}{x:Str}{v:Value}: ∀{P:List Str}{vs:List Value}{i:Nat}{m:Str->Option Value},P.Nodup->P[i]?=some x->vs[i]?=some v->kindOf x=some .local->
  bindL kindOf (P.zip vs) m x=some v
 | [],_,_,_,_,h,_,_=>by simp at h
 | _::_,[],_,_,_,_,h,_=>by simp at h
 |
  p::P,w::vs,0,m,nd,h1,h2,hk=>by
  simp at h1 h2;subst h1;subst h2
  show bindL kindOf ((p,w)::P.zip vs) m p=_
  unfold bindL
  rw[Uh λv hv=>(Agt.mp nd).1 (List.of_mem_zip hv).1,if_pos hk]
  simp
 |
  p::P,w::vs,i+1,m,nd,h1,h2,hk=>by
  show bindL kindOf ((p,w)::P.zip vs) m x=_
  unfold bindL
  exact Ue (i:=i) (Agt.mp nd).2 (by simpa using h1) (by simpa using h2) hk
theorem Ts {kindOf:Str->Option NameKind}{x:Str}{v:Value}: ∀{P:List Str}{vs:List Value}{i:Nat}{m:Str->Option Value},P.Nodup->P[i]?=some x->vs[i]?=some v->kindOf x≠some .local->
  bindC kindOf (P.zip vs) m x=some v
 | [],_,_,_,_,h,_,_=>by simp at h
 | _::_,[],_,_,_,_,h,_=>by simp at h
 |
  p::P,w::vs,0,m,nd,h1,h2,hk=>by
  simp at h1 h2;subst h1;subst h2
  show bindC kindOf ((p,w)::P.zip vs) m p=_
  unfold bindC
  rw[Tq λv hv=>(Agt.mp nd).1 (List.of_mem_zip hv).1,if_neg hk]
  simp
 |
  p::P,w::vs,i+1,m,nd,h1,h2,hk=>by
  show bindC kindOf ((p,w)::P.zip vs) m x=_
  unfold bindC
  exact Ts (i:=i) (Agt.mp nd).2 (by simpa using h1) (by simpa using h2) hk
def start (N:List Str)(vs:List V):St:=vs.map some++List.replicate (N.length-vs.length) none
def uu (CX:CXT)(cm:Bool)(P:Program)(w:World)(K:W.Frag)(mg:Str->Option Value)(base:Heap)(N:List Str)(qual:Str)(scope:Scope)(f:Addr)(cd:Value)(A:Around)(outer:List Env)(s:Shared)(H:Hp)(E:XK):Cx where
 prog:=P
 w:=w
 K:=K
 mg:=mg
 base:=base
 A:=A.deeper (envOfC qual scope s.heap.objs.size f cd)
 N:=N
 s₀:=s
 H₀:=H
 env:=envOfC qual scope s.heap.objs.size f cd
 outer:=outer
 stack:=envOfC qual scope s.heap.objs.size f cd::outer
 ex:=[]
 calm:=cm
 fn:=λ_=>true
 pn:=[]
 xe:=λe s'=>wpAny (model P w) (A.deeper (envOfC qual scope s.heap.objs.size f cd)) (leaving (envOfC qual scope s.heap.objs.size f cd) e) (λ_ s''=>CX outer H s E e s'') (λe' s''=>CX outer H s E e' s'') s'
theorem X6 {sc:Scope}{n:Nat}{x:Str}(h:sc.names.lookup x=some .cell): ∃c,(cellsFrom n sc.names []).lookup x=some c:=by
 have q:=W.cellsFrom_some sc.names n [] (.inl h)
 exact Ae0.mp q
theorem fz {cm:Bool}{CX:CXT}{P:Program}{w:World}{K:W.Frag}{mg:Str->Option Value}{base:Heap}{N ps:List Str}{qual:Str}{scope:Scope}{f:Addr}{cd:Value}{A:Around}{outer:List Env}{s s1:Shared}{H:Hp}{E:XK}{us:List Value}{vs:List V}
  (S:Ay N ps scope) (hd:cm=true->A.handled=none) (e0:Env0 P w K mg base A outer s H) (hl:vs.length=ps.length) (r:Vals vs us)
  (x:InCallC s s.heap.objs.size (bindL (envOfC qual scope s.heap.objs.size f cd).kindOf (ps.zip us) λ_=>none) (cellsFrom (s.heap.objs.size+1) scope.names []) (bindC (envOfC qual scope s.heap.objs.size f cd).kindOf (ps.zip us) λ_=>none) s1):
  Inv (uu CX cm P w K mg base N qual scope f cd A outer s H E) [] (start N vs) H s1:=by
 have hpl:ps.length<=N.length:=by have:=Aea List.length S.pre;rw[Aek] at this;lia
 obtain⟨h1,tk,rfl,hk⟩:=x.done
 have noA: ∀b:Addr,b∉(uu CX cm P w K mg base N qual scope f cd A outer s H E).ex:=λb z=>absurd (show b∈([]:List Addr) from z) (by simp)
 refine⟨⟨e0.mod,S.kind,rfl,rfl,Adb _,λy z c h1 h2=>?_,λy hy=>?_,λy c _ h=>?_,hd,Around.frames_deeper e0.frames,.inr ⟨rfl,rfl⟩,λb z=>absurd z (noA b),e0.bs,e0.bsz,λb _ _=>noA b,λb z=>absurd z (noA b),e0.funs,e0.frf⟩,
  rfl,e0.bare,Un.kept hk,⟨_,x.toInCall.ns,λi y v h1 h2 h3=>?_⟩,λy c h=>⟨_,x.cell y c h⟩,e0.hok.fresh (Adb _),λy c h=>?_,λp hp=>absurd (show p∈([]:List (Addr×Obj)) from hp) (by simp),e0.hok.kept hk,?_⟩
 · exact name_of_addr x.apart (Ago h1) (Ago h2)
 ·
  have hy:scope.names.lookup y=some .cell∨scope.names.lookup y=some .free:=hy
  rcases hy with hy|hy
  · exact X6 hy
  · exact absurd rfl (S.nofree _ (Ago hy))
 · exact Aif (x.above y c (Ago h))
 ·
  have hi:i<vs.length:=by
   unfold start at h2
   by_cases hi:i<vs.length
   · exact hi
   ·
    rw[List.getElem?_append_right (by simpa using hi)] at h2
    rw[List.getElem?_replicate] at h2
    split at h2<;>cases h2
  have ha:vs[i]?=some v:=by
   unfold start at h2
   rw[List.getElem?_append_left (by simpa using hi),Adl] at h2
   cases e:vs[i]? with
   | none=>rw[e] at h2;cases h2
   | some a=>rw[e] at h2;cases h2;rfl
  obtain⟨u,hu,rv⟩:=r.get ha
  have hp:ps[i]?=some y:=by
   rw[←S.pre,List.getElem?_take_of_lt (by lia)];exact h1
  have ndP:ps.Nodup:=by rw[←S.pre];exact S.nd.sublist (List.take_sublist _ _)
  refine⟨u,rv,?_⟩
  rcases S.par y (Ad6 hp) with k|k
  · exact .inl ⟨k,Ue ndP hp hu k⟩
  ·
   obtain⟨c,e⟩:=X6 (n:=s.heap.objs.size+1) k
   refine .inr ⟨.inl k,c,e,?_⟩
   have q:=x.cell y c e
   rw[Ts ndP hp hu (by show scope.names.lookup y≠_;rw[k];decide)] at q
   exact q
 · exact e0.hok.fresh (Aif (x.above y c (Ago h)))
 ·
  unfold start
  show _=N.length
  rw[Ade,Ac0,List.length_replicate]
  lia
theorem z8 {cm:Bool}{CX:CXT}{P:Program}{w:World}{K:W.Frag}{mg:Str->Option Value}{base:Heap}{k:Nat}{f:Addr}{name qual:Str}{params:Arguments}{body:List Stmt}{scope:Scope}{dV kV doc pm cdv ct oc:Value}{an od:Option Addr}
  {osl:Array (Option Value)} {N ps:List Str} {sp:Sp} (lk:K.lookup f=some ⟨oc,od,.func (W.fnOf name qual params body scope dV kV doc pm an cdv ct),osl⟩) (hcd:W.codeIn K cdv qual=true) (S:Ay N ps scope)
  (len: ∀vs H Q E,sp vs H Q E->vs.length=ps.length)
  (hbody: ∀(A:Around)(outer:List Env)(s:Shared)(H:Hp)(vs:List V)(Q:VK)(E:XK),Room cm k (A.deeper (envOfC qual scope s.heap.objs.size f cdv))->sp vs H Q E->
   ∃t,PSs (uu CX cm P w K mg base N qual scope f cdv A outer s H E) body t/\t {nx:=λ_ H'=>Q .non H',rt:=λ_=>Q} (start N vs) H):
  FnOk P w K mg base CX cm (k+1) f (W.fnOf name qual params body scope dV kV doc pm an cdv ct) ps sp:=by
 refine⟨len,λA outer s H args us vs Q E hr e0 hb r hsp=>?_⟩
 have hl:=len _ _ _ _ hsp
 have KX:K.In s.heap:=e0.mod.kin.keeps λb o e=>(e0.bs b o e).1
 have lim:s.heap.NoLimit:=e0.mod.nolimit.keeps λb o e=>(e0.bs b o e).1
 have hkind: ∀y∈ps.zip us,scope.names.lookup y.1=some .local∨(scope.names.lookup y.1=some .cell/\((cellsFrom (s.heap.objs.size+1) scope.names []).lookup y.1).isSome=true):=λ⟨n,v⟩ hy=>by
  rcases S.par n (List.of_mem_zip hy).1 with q|q
  · exact .inl q
  · exact .inr ⟨q,W.cellsFrom_some _ _ _ (.inl q)⟩
 refine codeAny_call_function hr.depth (KX _ _ lk) rfl S.co S.gen rfl (W.codeRec_of KX hcd) (hb _ _ _ _ ?_)
 refine wpAny_newFunctionEnv_cells S.kind hkind λenv he s1 x=>?_
 subst he
 refine⟨lim.keeps x.toInCall.keep,codeAny_func ?_⟩
 obtain⟨t,ht,hq⟩:=hbody A outer s H vs Q E (hr.deeper _) hsp
 have I:Inv (uu CX cm P w K mg base N qual scope f cdv A outer s H E) [] (start N vs) H s1:=fz S hr.hd e0 hl r x
 refine Afa (ht [] s1 (start N vs) H _ I hq) (λfl s' hs=>?_) λe s' hs=>hs
 have fin: ∀{σ':St}{H':Hp}{v:V}{u:Value},Inv (uu CX cm P w K mg base N qual scope f cdv A outer s H E) [] σ' H' s'->RelV v u->Q v H'->CE outer P w H s Q u s':=
  λ{σ' H' v u}J rv q=>⟨v,H',J.os,J.bare,J.base,J.hok,rv,q⟩
 cases fl with
 |
  ret u=>
  obtain⟨v,σ',H',J,rv,q⟩:=hs
  exact fin J rv q
 |
  next=>
  obtain⟨σ',H',J,q⟩:=hs
  exact fin (v:=V.non) (u:=Value.none) J rfl q
 |
  brk=>
  obtain⟨_,_,_,q⟩:=hs
  exact False.elim q
 |
  cont=>
  obtain⟨_,_,_,q⟩:=hs
  exact False.elim q
section
variable {X:Cx}{x:Str}{p pos:Pos}{e:Expr}{es:List Expr}{t:TA}{id T:String}{r:List V->Hp->VK->Prop}
def tCB (r:List V->Hp->VK->Prop)(t:TA):TE:=λσ H Q=>t σ H λvs H1=>r vs H1 Q
theorem Ak (hc:Gn X (.builtin id) r)(hg:Gl X x)(hm:X.mg x=none)(hv:bootBuiltins x=some (.builtin id))(ha:PA X (e::es) t)(hn:x≠"__name__":=by decide)(hdb:(x==("__debug__":Str))=false:=by decide)
  (he:starEach (e::es) X.env=(false,eval e X.env)::starEach es X.env:=by rfl) (hpl:(backTo pos (starEach es X.env)).any (·.1)=false:=by rfl):PE X (.Call (.Name x p) (e::es) [] pos) (tCB r t):=by
 intro pins s σ H Q I h
 refine Ag9 (Qo I hg hm hv ?_ hn hdb)
 exact PyProof.Rows.callWith_builtin1 (thn (ha pos pins s σ H _ I h) λus s1 ⟨vs,H1,I1,r1,q1⟩=>hc pins s1 σ H1 vs us Q I1 r1 q1) he hpl
theorem Dg (hc:Gn X (.type T) r)(hg:Gl X x)(hm:X.mg x=none)(hv:bootBuiltins x=some (.type T))(ha:PA X (e::es) t)(hn:x≠"__name__":=by decide)(hdb:(x==("__debug__":Str))=false:=by decide)
  (he:starEach (e::es) X.env=(false,eval e X.env)::starEach es X.env:=by rfl) (hpl:(backTo pos (starEach es X.env)).any (·.1)=false:=by rfl):PE X (.Call (.Name x p) (e::es) [] pos) (tCB r t):=by
 intro pins s σ H Q I h
 refine Ag9 (Qo I hg hm hv ?_ hn hdb)
 exact Ahm (thn (ha pos pins s σ H _ I h) λus s1 ⟨vs,H1,I1,r1,q1⟩=>hc pins s1 σ H1 vs us Q I1 r1 q1) he hpl
end
end L2
namespace HT
open PySem PyProof.Rows
section
open PySem.SeqAt
open PySem.AutoSeq1 (wpAny_loadPart')
open PySem.MeetsSeq PySem.MeetsSeq2 PySem.MeetsSeq3
end
section
variable {prog:Program}{w:World}{A:Around}{E:Value->Shared->Prop}{s:Shared}
def sIx (n d:Nat):Option Int->Nat
 | none=>d
 | some v=>if v<0 then(v+(n:Int)).toNat else min v.toNat n
theorem ll (n d:Nat):sIx n d none=d:=rfl
theorem si (n d k:Nat):sIx n d (some (k:Int))=min k n:=by
 show(if(k:Int)<0 then((k:Int)+(n:Int)).toNat else min (k:Int).toNat n)=min k n
 rw[if_neg (by lia),Agf]
theorem vk (n d:Nat)(hd:d<=n)(o:Option Int):sIx n d o<=n:=by
 cases o with
 | none=>exact hd
 |
  some v=>
  show(if v<0 then(v+(n:Int)).toNat else min v.toNat n)<=n
  by_cases hv:v<0
  · rw[if_pos hv];lia
  · rw[if_neg hv];exact Nat.min_le_right _ _
theorem iq (v:Int)(n d:Nat):(if v<0 then max (v+(n:Int)) 0 else min v (n:Int))=((sIx n d (some v):Nat):Int):=by
 show(if v<0 then max (v+(n:Int)) 0 else min v (n:Int))=(((if v<0 then(v+(n:Int)).toNat else min v.toNat n):Nat):Int)
 by_cases hv:v<0
 · simp only[if_pos hv];lia
 · simp only[if_neg hv];lia
theorem Z3 (lo hi:Option Int)(n:Nat):Builtin.Slice.sliceAdjust lo hi 1 (n:Int)=(((sIx n 0 lo:Nat):Int),((sIx n n hi:Nat):Int)):=by
 have h1: ¬((1:Int)<0):=by lia
 unfold Builtin.Slice.sliceAdjust
 simp only[h1,Ae5]
 refine Ah2 ?_ ?_
 ·
  cases lo with
  | none=>rfl
  | some v=>exact iq v n 0
 ·
  cases hi with
  | none=>rfl
  | some v=>exact iq v n n
theorem Zx (i j:Nat):Builtin.Slice.slicePlaces (i:Int) (j:Int) 1=j-i:=by
 unfold Builtin.Slice.slicePlaces
 have h1:(1:Int)>0:=by lia
 simp only[h1,Ahy,Int.ediv_one]
 split<;>lia
theorem Q7 {v:Value}{o:Option Int}{Q:Option Int->Shared->Prop}(p:IsPart v o)(h:Q o s):wpAny (model prog w) A (Builtin.Slice.slicePartIndex v) Q E s:=by
 cases p with
 | none=>exact slicePart_none h
 | int i t=>exact slicePart_int h
theorem Js {sl:Addr}{vl vu:Value}{lo hi:Option Int}{n:Nat}{Q:Int×Int×Nat->Shared->Prop}(hs:s.heap.IsSliceOf sl vl vu .none)(pl:IsPart vl lo)(pu:IsPart vu hi)
  (h:Q (((sIx n 0 lo:Nat):Int),1,sIx n n hi-sIx n 0 lo) s):wpAny (model prog w) A (Builtin.Slice.sliceApplied (.ref sl) (pure (n:Int))) Q E s:=by
 obtain⟨os,hos,hcs,hds⟩:=id hs
 unfold Builtin.Slice.sliceApplied Builtin.Slice.sliceFields
 refine Ac1 (Ac1 (wpAny_field hos hds (x:=vl) rfl (Ac1 (wpAny_field hos hds (x:=vu) rfl (Ac1 (wpAny_field hos hds (x:=.none) rfl (Ac4 ?_)))))))
 refine Ac1 (slicePart_none ?_)
 show wpAny _ _ (if((1:Int)==0)=true then _ else _) _ _ s
 rw[if_neg (by decide)]
 refine Ac1 (Q7 pl (Ac1 (Q7 pu (Ac1 (Ac4 ?_)))))
 show wpAny _ _ (match Builtin.Slice.sliceAdjust lo hi 1 (n:Int) with|(lo,hi)=>pure (lo,(1:Int),Builtin.Slice.slicePlaces lo hi 1)) _ _ s
 rw[Z3 lo hi n]
 show wpAny _ _ (pure (((sIx n 0 lo:Nat):Int),(1:Int),Builtin.Slice.slicePlaces ((sIx n 0 lo:Nat):Int) ((sIx n n hi:Nat):Int) 1)) _ _ s
 rw[Zx]
 exact Ac4 h
theorem ki (xs:Array Value)(i k:Nat):((List.range k).filterMap λ(m:Nat)=>xs[((i:Int)+(m:Int)*1).toNat]?).toArray=((xs.toList.drop i).take k).toArray:=by
 have e:(λ(m:Nat)=>xs[((i:Int)+(m:Int)*1).toNat]?)= λm=>xs[i+m]?:=by
  funext m
  have:((i:Int)+(m:Int)*1).toNat=i+m:=by lia
  rw[this]
 rw[e]
 have:=pick_run xs i k
 rw[List.filterMap_map] at this
 have e2:((λx=>xs[x]?)∘ λx=>i+x)= λm=>xs[i+m]?:=rfl
 rw[e2] at this
 rw[this]
theorem My {t sl:Addr}{items:Array Value}{vl vu:Value}{lo hi:Option Int}{Q:Value->Shared->Prop}(ht:IsTup s.heap t items)(hs:s.heap.IsSliceOf sl vl vu .none)(pl:IsPart vl lo)(pu:IsPart vu hi)
  (hw: ¬(sIx items.size 0 lo=0/\sIx items.size items.size hi=items.size))
  (h:Q (.ref s.heap.objs.size) {s with heap:=s.heap.push {cls:=.type "tuple",data:=.seq ((items.toList.drop (sIx items.size 0 lo)).take (sIx items.size items.size hi-sIx items.size 0 lo)).toArray}})
  (hsz:items.size<=sizeLine):wpAny (model prog w) A (getItem (.ref t) (.ref sl)) Q E s:=by
 have htake:sizeOk (.seq ((items.toList.drop (sIx items.size 0 lo)).take (sIx items.size items.size hi-sIx items.size 0 lo)).toArray):=by
  show((items.toList.drop (sIx items.size 0 lo)).take (sIx items.size items.size hi-sIx items.size 0 lo)).toArray.size<=sizeLine
  rw[Adn,Aek,Afg,Ac6]
  lia
 have hj:sIx items.size items.size hi<=items.size:=vk _ _ (Adb _) hi
 obtain⟨os,hos,hcs,hds⟩:=id hs
 have hTs:s.TypeIs (.ref sl) "slice":=⟨os,hos,hcs⟩
 unfold getItem
 try with_reducible refine Ae6 ?_
 first|refine Ac1 (Ac4 ?_)|skip
 refine Ac1 (wpAny_sequenceKey ht.typeIs (by decide) ?_)
 refine Ac1 (wpAny_callSpecial?_slot (name:=Str.ofString "__getitem__") ht.typeIs Afv
  (Aew Afv ht.typeIs entry_tuple_getitem ?_ (args_tuple_getitem _ _)))
 show wpAny _ _ (Builtin.Tuple.tupleItemsOf (.ref t)>>=_) _ _ s
 refine Ac1 (tupleItemsOf_ ht ?_)
 refine Ac1 (wpAny_typeOf hTs ?_)
 rw[if_pos (by decide)]
 refine Ac1 (Js hs pl pu ?_)
 have hno: ¬((((sIx items.size 0 lo:Nat):Int)==0&&(1:Int)==1&&(sIx items.size items.size hi-sIx items.size 0 lo)==items.size)=true):=by
  intro q
  rw[Adu,Adu] at q
  have q1:((sIx items.size 0 lo:Nat):Int)=0:=eq_of_beq q.1.1
  have q2:sIx items.size items.size hi-sIx items.size 0 lo=items.size:=eq_of_beq q.2
  exact hw ⟨by lia,by lia⟩
 show wpAny _ _ (if(((sIx items.size 0 lo:Nat):Int)==0&&(1:Int)==1&&(sIx items.size items.size hi-sIx items.size 0 lo)==items.size)=true then _ else _) _ _ s
 rw[if_neg hno,ki]
 first
  | exact Ac1 (m:=Builtin.Tuple.tupleExact _) (Ae9 (Ac4 ⟨_,rfl,Ac4 h⟩) htake)
  | exact Ac1 (m:=Builtin.Tuple.tupleExact _) (Ae9 (Ac1 (Ac4 (Ac4 ⟨_,rfl,Ac4 h⟩))) htake)
  | exact Ac1 (Ac1 (m:=Builtin.Tuple.tupleExact _) (Ae9 (Ac4 (Ac4 ⟨_,rfl,Ac4 h⟩)) htake))
  | exact Ac1 (Ac1 (m:=Builtin.Tuple.tupleExact _) (Ae9 (Ac4 ⟨_,rfl,Ac4 h⟩) htake))
end
end HT
namespace L2
open PySem PySem.Spec PyProof.Rows
abbrev TO:=St->Hp->(Option Int->Hp->Prop)->Prop
def PO (X:Cx)(e:Option Expr)(t:TO):Prop:=
 ∀(pins:List (Addr×Obj))(s:Shared)(σ:St)(H:Hp)(Q:Option Int->Hp->Prop),Inv X pins σ H s->t σ H Q->
  wpAny (model X.prog X.w) X.A (evalPart e X.env) (λu s'=>∃o H',Inv X pins σ H' s'/\IsPart u o/\Q o H') X.xe s
def sv:TO:=λ_ H Q=>Q none H
def Aaa (t:TE):TO:=λσ H Q=>t σ H λx H1=>∃i,x=.int i/\Q (some i) H1
theorem intsAre_of {ns:List Int}: ∀{us:List Value},Vals (ns.map V.int) us->IntsAre us ns:=by
 induction ns with
 | nil=>intro us r;rw[Aih] at r;cases r;exact .nil
 |
  cons n ns ih=>
  intro us r
  rw[Ad3] at r
  cases r with
  |
   cons r1 r2=>
   obtain⟨t,e⟩:=r1
   subst e
   exact .cons n t (ih r2)
section
variable {X:Cx}{e:Expr}{te:TE}{lo hi:Option Expr}{tl th:TO}{pos p2:Pos}
theorem Wc:PO X none sv:=by
 intro pins s σ H Q I h
 rw[evalPart_none]
 exact Ac4 ⟨none,H,I,.none,h⟩
theorem Em (h:PE X e te):PO X (some e) (Aaa te):=by
 intro pins s σ H Q I hw
 rw[evalPart_some]
 refine thn (h pins s σ H _ I hw) λu s1 ⟨x,H1,I1,r1,q1⟩=>?_
 obtain⟨i,rfl,q⟩:=q1
 obtain⟨t,rfl⟩:=r1
 exact⟨some i,H1,I1,.int i t,q⟩
def SlR (X:Cx)(r:V->Option Int->Option Int->Hp->VK->Prop):Prop:=
 ∀(pins:List (Addr×Obj))(s:Shared)(σ:St)(H:Hp)(x:V)(v vl vu:Value)(lo hi:Option Int)(sl:Addr)(Q:VK),Inv X pins σ H s->RelV x v->s.heap.IsSliceOf sl vl vu .none->IsPart vl lo->IsPart vu hi->r x lo hi H Q->
  ∃T id,typeLookup (.type T) "__getitem__"=pure (some (.builtin id))/\s.TypeIs v T/\wpAny (model X.prog X.w) X.A (getItem v (.ref sl)) (EP X pins σ Q) X.xe s
def tSl (r:V->Option Int->Option Int->Hp->VK->Prop)(te:TE)(tl th:TO):TE:=λσ H Q=>te σ H λx H1=>tl σ H1 λl H2=>th σ H2 λu H3=>r x l u H3 Q
theorem G0 {r:V->Option Int->Option Int->Hp->VK->Prop}(hr:SlR X r)(he:PE X e te)(hl:PO X lo tl)(hu:PO X hi th):PE X (.Subscript e (.Slice lo hi none p2) pos) (tSl r te tl th):=by
 intro pins s σ H Q I h
 refine Subscript_ (thn (he pins s σ H _ I h) λv s1 ⟨x,H1,I1,r1,q1⟩=>?_)
 refine wpAny_Slice (thn (hl pins s1 σ H1 _ I1 q1) λvl s2 ⟨l,H2,I2,pl,q2⟩=>thn (hu pins s2 σ H2 _ I2 q2) λvu s3 ⟨u,H3,I3,pu,q3⟩=>?_)
 rw[evalPart_none]
 refine Ac4 ?_
 have I4:Inv X pins σ H3 {s3 with heap:=s3.heap.push {cls:=.type "slice",data:=.fields #[vl,vu,.none]}}:=I3.kept (t':=s3.toks) λb ob q=>Ac5 _ q
 obtain⟨T,id,hT,ht,hg⟩:=hr pins {s3 with heap:=s3.heap.push {cls:=.type "slice",data:=.fields #[vl,vu,.none]}} σ H3 x v vl vu l u s3.heap.objs.size Q I4 r1 (Heap.IsSliceOf.new ..) pl pu q3
 show wpAny (model X.prog X.w) X.A (subscriptTail e (.Slice lo hi none p2) v (.ref s3.heap.objs.size)) (EP X pins σ Q) X.xe {s3 with heap:=s3.heap.push {cls:=.type "slice",data:=.fields #[vl,vu,.none]}}
 exact tail_any (ops:=[.ref s3.heap.objs.size,v]) ht hT hg (by with_unfolding_all rfl)
def N8 (xs:List V)(lo hi:Option Int):List V:=(xs.drop (HT.sIx xs.length 0 lo)).take (HT.sIx xs.length xs.length hi-HT.sIx xs.length 0 lo)
theorem Lm (xs:List V)(lo hi:Option Int):(N8 xs lo hi).length<=xs.length:=by
 unfold N8
 rw[Aek,Afg]
 lia
def Ach (K:W.Frag):V->Option Int->Option Int->Hp->VK->Prop:=λx lo hi H Q=>∃a xs,x=.ref a/\SqT K H a xs/\
 ¬(HT.sIx xs.length 0 lo=0/\HT.sIx xs.length xs.length hi=xs.length)/\ ∀p,H p=none->Q (.ref p) (upd H p (.tup (N8 xs lo hi)))
theorem wz:SlR X (Ach X.K):=by
 intro pins s σ H x v vl vu lo hi sl Q I rx hs pl pu h
 obtain⟨a,xs,rfl,hx,hw,q⟩:=h
 cases rx
 obtain⟨its,r,ht,hz⟩:=I.tuple hx
 have hlen:its.toArray.size=xs.length:=by rw[Adn];exact r.length.symm
 refine⟨"tuple",_,PyProof.Rows.slot_tuple_getitem.lookup,ht.typeIs,?_⟩
 refine HT.My ht hs pl pu (by rw[hlen];exact hw) ?_ (by rw[hlen];exact hz)
 rw[hlen]
 refine⟨.ref s.heap.objs.size,_,I.laid (t':=s.toks) (o:=.tup (N8 xs lo hi)) (λb ob q=>Ac5 _ q) (Adb _) ?_,rfl,q _ (I.hok.fresh (Adb _))⟩
 exact⟨Ady (Lm xs lo hi) hz,_,(r.drop (HT.sIx xs.length 0 lo)).take (HT.sIx xs.length xs.length hi-HT.sIx xs.length 0 lo),IsTup.new _ _⟩
end
def ixN (n:Nat)(i:Int):Option Nat:=if 0<=i then(if i<n then some i.toNat else none) else if-(n:Int)<=i then some (i+n).toNat else none
def atI {α:Type}(xs:List α)(i:Int):Option α:=(ixN xs.length i).bind λj=>xs[j]?
theorem sg {n:Nat}{i:Int}{j:Nat}(h:ixN n i=some j):seqIndex? i n=some j/\j<n/\ -(n:Int)<=i/\i<n:=by
 unfold ixN at h
 by_cases h0:0<=i
 ·
  rw[if_pos h0] at h
  by_cases h1:i<n
  ·
   rw[if_pos h1] at h
   have e:i.toNat=j:=Adt h
   exact⟨by rw[seqIndex_of h0 h1,e],by lia,by lia,h1⟩
  · rw[if_neg h1] at h;cases h
 ·
  rw[if_neg h0] at h
  by_cases h1: -(n:Int)<=i
  ·
   rw[if_pos h1] at h
   have e:(i+n).toNat=j:=Adt h
   exact⟨by rw[seqIndex_neg (by lia) h1,e],by lia,h1,by lia⟩
  · rw[if_neg h1] at h;cases h
theorem W7 {α:Type}{xs:List α}{i:Int}{v:α}(h:atI xs i=some v): ∃j,seqIndex? i xs.length=some j/\xs[j]?=some v/\j<xs.length/\ -(xs.length:Int)<=i/\i<xs.length:=by
 unfold atI at h
 cases e:ixN xs.length i with
 | none=>rw[e] at h;cases h
 |
  some j=>
  rw[e] at h
  obtain⟨h1,h2,h3,h4⟩:=sg e
  exact⟨j,h1,h,h2,h3,h4⟩
theorem A8 {α:Type}{xs:List α}{j:Nat}{v:α}(h:xs[j]?=some v):atI xs (j:Int)=some v:=by
 have hj:j<xs.length:=(Aed.mp h).1
 have e:ixN xs.length (j:Int)=some j:=by
  unfold ixN
  rw[if_pos (by lia),if_pos (by lia)];simp
 unfold atI;rw[e];exact h
theorem kn {α:Type}(xs:List α)(v:α):atI (xs++[v]) (-1)=some v:=by
 have hl:(xs++[v]).length=xs.length+1:=by simp
 have e:ixN (xs++[v]).length (-1)=some xs.length:=by
  unfold ixN
  rw[hl,if_neg (by decide),if_pos (by lia)]
  congr 1
  lia
 unfold atI
 rw[e]
 show(xs++[v])[xs.length]?=some v
 simp
def pf (b:Expr):Prop:=∀o i,subscripted b false o i=operate [o,i] (getItem o i)
def IxR (X:Cx)(r:R2):Prop:=
 ∀(value slice:Expr)(pins:List (Addr×Obj))(s:Shared)(σ:St)(H:Hp)(x y:V)(v u:Value)(Q:VK),Inv X pins σ H s->RelV x v->RelV y u->r x y H Q->
  subscripted slice false v u=operate [v,u] (getItem v u)->wpAny (model X.prog X.w) X.A (subscriptTail value slice v u) (EP X pins σ Q) X.xe s
def MtR (X:Cx)(id:String)(r:V->List V->Hp->VK->Prop):Prop:=
 ∀(pins:List (Addr×Obj))(s:Shared)(σ:St)(H:Hp)(x:V)(xs:List V)(v:Value)(us:List Value)(Q:VK),Inv X pins σ H s->RelV x v->Vals xs us->r x xs H Q->
  wpAny (model X.prog X.w) X.A (call (.builtin id) (v::us)) (EP X pins σ Q) X.xe s
section
variable {X:Cx}{a b:Expr}{ta tb:TE}{pos:Pos}
theorem IxR.or {r r':R2}(h:IxR X r)(h':IxR X r'):IxR X (λx y H Q=>r x y H Q∨r' x y H Q):=by
 intro value slice pins s σ H x y v u Q I rx ry q hs
 rcases q with q|q
 · exact h value slice pins s σ H x y v u Q I rx ry q hs
 · exact h' value slice pins s σ H x y v u Q I rx ry q hs
theorem Al {r:R2}(hr:IxR X r)(ha:PE X a ta)(hb:PE X b tb)(hs:pf b):PE X (.Subscript a b pos) (tOp r ta tb):=by
 intro pins s σ H Q I h
 exact Subscript_ (zx ha hb I h λv u s2 x y H2 I2 rx ry q=>hr a b pins s2 σ H2 x y v u Q I2 rx ry q (hs _ _))
def Aat (K:W.Frag):R2:=λx y H Q=>∃p xs i v,x=.ref p/\y=.int i/\SqL K H p xs/\atI xs i=some v/\Q v H
def Aau (K:W.Frag):R2:=λx y H Q=>∃p xs i v,x=.ref p/\y=.int i/\SqT K H p xs/\atI xs i=some v/\Q v H
def Abn:R2:=λx y H Q=>∃z i c,x=.str z/\y=.int i/\z.length<=sizeLine/\atI z.cps.toList i=some c/\Q (.str ⟨#[c]⟩) H
theorem cv:IxR X (Aat X.K):=by
 intro value slice pins s σ H x y v u Q I rx ry h hs
 obtain⟨p,xs,i,z,rfl,rfl,hq,he,q⟩:=h
 cases rx
 obtain⟨t,rfl⟩:=ry
 obtain⟨its,r,pl,hz⟩:=I.list hq
 obtain⟨j,h1,h2,h3,h4,h5⟩:=W7 he
 obtain⟨w,ew,rw'⟩:=r.get h2
 have hl:=r.length
 have hn:=Q0
 have fin:EP X pins σ Q w s:=⟨z,H,I,rw',q⟩
 by_cases h0:0<=i
 ·
  have hj:i.toNat=j:=by
   rw[seqIndex_of h0 h5] at h1
   exact Adt h1
  exact item_listR pl.isList h0 (by lia) (by rw[hj];simpa using ew) fin hs
 ·
  have hj:(i+(its.toArray.size:Int)).toNat=j:=by
   rw[seqIndex_neg (by lia) h4] at h1
   rw[Adn,←hl]
   exact Adt h1
  exact subscriptTail_builtinR (x:=w) pl.isList.typeIs slot_list_getitem.lookup
   (wpAny_getItem_list_neg (Q:=λr s'=>r=w/\EP X pins σ Q r s') pl.isList (by lia) (by rw[Adn]<;>lia) (by lia) (by rw[hj];simpa using ew) ⟨rfl,fin⟩) hs
theorem nv:IxR X (Aau X.K):=by
 intro value slice pins s σ H x y v u Q I rx ry h hs
 obtain⟨p,xs,i,z,rfl,rfl,hq,he,q⟩:=h
 cases rx
 obtain⟨t,rfl⟩:=ry
 obtain⟨its,r,pl,hz⟩:=I.tuple hq
 obtain⟨j,h1,h2,h3,h4,h5⟩:=W7 he
 obtain⟨w,ew,rw'⟩:=r.get h2
 have hl:=r.length
 have hn:=Q0
 have fin:EP X pins σ Q w s:=⟨z,H,I,rw',q⟩
 exact subscriptTail_builtinR (x:=w) pl.typeIs slot_tuple_getitem.lookup
  (getItem_tuple (j:=j) (Q:=λr s'=>r=w/\EP X pins σ Q r s') pl (by lia) (by lia) (by rw[Adn,←hl];exact h1) (by simpa using ew) ⟨rfl,fin⟩) hs
theorem Yo:IxR X Abn:=by
 intro value slice pins s σ H x y v u Q I rx ry h hs
 obtain⟨z,i,c,rfl,rfl,hz,he,q⟩:=h
 obtain⟨t,rfl⟩:=rx
 obtain⟨t',rfl⟩:=ry
 obtain⟨j,h1,h2,h3,h4,h5⟩:=W7 he
 have hl:z.cps.toList.length=z.length:=by simp[Str.length]
 rw[hl] at h1 h4 h5
 have hn:=Q0
 exact tail_any (typeIs_str s z t) slot_str_getitem.lookup (getItem_str (c:=c) (by
  have e1:decide (i< -(2 ^ 63:Int))=false:=Ac7 (by lia)
  have e2:decide (i≥2 ^ 63)=false:=Ac7 (by lia)
  rw[e1,e2,Bool.or_false]) (by rw[h1];simpa using h2) ⟨.str ⟨#[c]⟩,H,I.tok _,⟨_,rfl⟩,q⟩) hs
def rIx (K:W.Frag):R2:=λx y H Q=>Aat K x y H Q∨Aau K x y H Q∨Abn x y H Q
theorem xo:IxR X (rIx X.K):=cv.or (nv.or Yo)
theorem V3 (lo hi:Option Int)(n:Nat):(sliceBounds lo hi none n).1=((HT.sIx n 0 lo:Nat):Int)/\(sliceBounds lo hi none n).2.1=((HT.sIx n n hi:Nat):Int)/\(sliceBounds lo hi none n).2.2=1:=by
 refine⟨?_,?_,rfl⟩
 ·
  cases lo with
  | none=>simp[sliceBounds,HT.sIx]
  |
   some i=>
   simp only[sliceBounds,HT.sIx,Option.getD_none,show(1:Int)>0 by decide,Ahy]
   by_cases h:i<0
   · simp only[h,Ahy]<;>lia
   · simp only[h,Ae5]<;>lia
 ·
  cases hi with
  | none=>simp[sliceBounds,HT.sIx]
  |
   some i=>
   simp only[sliceBounds,HT.sIx,Option.getD_none,show(1:Int)>0 by decide,Ahy]
   by_cases h:i<0
   · simp only[h,Ahy]<;>lia
   · simp only[h,Ae5]<;>lia
theorem Sb (its:List Value)(lo hi:Option Int):slicePick its.toArray lo hi none=((its.drop (HT.sIx its.length 0 lo)).take (HT.sIx its.length its.length hi-HT.sIx its.length 0 lo)).toArray:=by
 obtain⟨h1,h2,h3⟩:=V3 lo hi its.toArray.size
 unfold slicePick
 rw[h1,h2,h3]
 simp only[sliceRange_one,pick_run,Adn]<;>rfl
def Abh (K:W.Frag):V->Option Int->Option Int->Hp->VK->Prop:=λx lo hi H Q=>∃a xs,x=.ref a/\SqL K H a xs/\ ∀p,H p=none->Q (.ref p) (upd H p (.lst (N8 xs lo hi)))
theorem pq:SlR X (Abh X.K):=by
 intro pins s σ H x v vl vu lo hi sl Q I rx hs pl pu h
 obtain⟨a,xs,rfl,hx,q⟩:=h
 cases rx
 obtain⟨its,r,ht,hz⟩:=I.list hx
 have hlen:=r.length
 refine⟨"list",_,slot_list_getitem.lookup,ht.isList.typeIs,?_⟩
 refine wpAny_getItem_list_slice ht.isList hs pl pu .none (by simp) ?_ (by rw[Adn]<;>lia)
 rw[Sb,←hlen]
 refine⟨.ref s.heap.objs.size,_,I.laid (t':=s.toks) (o:=.lst (N8 xs lo hi)) (λb ob q=>Ac5 _ q) (Adb _) ?_,rfl,q _ (I.hok.fresh (Adb _))⟩
 exact⟨Ady (Lm xs lo hi) hz,_,0,(r.drop (HT.sIx xs.length 0 lo)).take (HT.sIx xs.length xs.length hi-HT.sIx xs.length 0 lo),Adv _ rfl⟩
def So:V->Bool
 | .non=>true
 | .bl _=>true
 | .int _=>true
 | .str _=>true
 | _=>false
def eqV:V->V->Bool
 | .non,.non=>true
 | .bl a,.bl b=>a==b
 | .bl a,.int b=>(if a then 1 else 0)==b
 | .int a,.bl b=>a==(if b then 1 else 0)
 | .int a,.int b=>a==b
 | .str a,.str b=>a==b
 | _,_=>false
theorem wg {A:Around}{s:Shared}{y x:V}{u v:Value}(ry:RelV y u)(rx:RelV x v)(fy:So y=true)(fx:So x=true):SeqAt.EqAt A s u v (eqV y x):=by
 cases y with
 |
  non=>
  cases ry
  cases x with
  | non=>cases rx;exact SeqAt.EqAt.same _
  | bl b=>cases rx;exact SeqAt.EqAt.none_bool b
  | int b=>obtain⟨t,rfl⟩:=rx;exact SeqAt.EqAt.none_int b t
  | str b=>obtain⟨t,rfl⟩:=rx;exact SeqAt.EqAt.none_str b t
  | _=>exact absurd (show false=true from fx) Adf
 |
  bl a=>
  cases ry
  cases x with
  | non=>cases rx;exact SeqAt.EqAt.bool_none a
  | bl b=>cases rx;exact SeqAt.EqAt.bool_bool a b
  | int b=>obtain⟨t,rfl⟩:=rx;exact SeqAt.EqAt.bool_int a b t
  | str b=>obtain⟨t,rfl⟩:=rx;exact SeqAt.EqAt.bool_str a b t
  | _=>exact absurd (show false=true from fx) Adf
 |
  int a=>
  obtain⟨t',rfl⟩:=ry
  cases x with
  | non=>cases rx;exact SeqAt.EqAt.int_none a t'
  | bl b=>cases rx;exact SeqAt.EqAt.int_bool a t' b
  | int b=>obtain⟨t,rfl⟩:=rx;exact SeqAt.EqAt.int_int a t' b t
  | str b=>obtain⟨t,rfl⟩:=rx;exact SeqAt.EqAt.int_str a t' b t
  | _=>exact absurd (show false=true from fx) Adf
 |
  str a=>
  obtain⟨t',rfl⟩:=ry
  cases x with
  | non=>cases rx;exact SeqAt.EqAt.str_none a t'
  | bl b=>cases rx;exact SeqAt.EqAt.str_bool a t' b
  | int b=>obtain⟨t,rfl⟩:=rx;exact SeqAt.EqAt.str_int a t' b t
  | str b=>obtain⟨t,rfl⟩:=rx;exact SeqAt.EqAt.str_str a t' b t
  | _=>exact absurd (show false=true from fx) Adf
 | _=>exact absurd (show false=true from fy) Adf
def eqU (x:V)(u:Value):Bool:=match u with
 | .none=>eqV .non x
 | .bool b=>eqV (.bl b) x
 | .int i _=>eqV (.int i) x
 | .str z _=>eqV (.str z) x
 | _=>false
theorem oq {x y:V}{u:Value}(r:RelV y u)(f:So y=true):eqU x u=eqV y x:=by
 cases y with
 | non=>cases r;rfl
 | bl b=>cases r;rfl
 | int i=>obtain⟨t,rfl⟩:=r;rfl
 | str z=>obtain⟨t,rfl⟩:=r;rfl
 | _=>exact absurd (show false=true from f) Adf
theorem O4 {x:V}: ∀{xs:List V}{us:List Value},Vals xs us->xs.all So=true->us.any (eqU x)=xs.any λy=>eqV y x
 | _,_,.nil,_=>rfl
 |
  y::xs,u::us,.cons r t,f=>by
  rw[List.all_cons,Adu] at f
  rw[Ahj,Ahj,oq r f.1,O4 t f.2]
theorem Lz {A:Around}{s:Shared}{x:V}{v:Value}(rx:RelV x v)(fx:So x=true): ∀{xs:List V}{us:List Value},Vals xs us->xs.all So=true-> ∀u∈us,SeqAt.EqAt A s u v (eqU x u)
 | _,_,.nil,_=>λu hu=>by cases hu
 |
  y::xs,u::us,.cons r t,f=>λu' hu=>by
  rw[List.all_cons,Adu] at f
  rcases Ado.mp hu with rfl|hu
  · rw[oq r f.1];exact wg r rx f.1 fx
  · exact Lz rx fx t f.2 u' hu
def inV (x:V)(xs:List V):Bool:=xs.any λy=>eqV y x
def rIn (K:W.Frag)(neg:Bool):R2:=λx y H Q=>∃p xs,y=.ref p/\(SqL K H p xs∨SqT K H p xs)/\So x=true/\xs.all So=true/\Q (.bl (if neg then !inV x xs else inV x xs)) H
theorem ai:OpR X (compareOp .In) (rIn X.K false):=by
 intro pins s σ H x y v u Q I rx ry h
 obtain⟨p,xs,rfl,hq,fx,fs,q⟩:=h
 cases ry
 rcases hq with hq|hq
 ·
  obtain⟨its,r,pl,hz⟩:=I.list hq
  refine SeqAt.in_listAt (eqU x) pl.isList (λw hw=>Lz rx fx r fs w (by simpa using hw)) ⟨.bl _,H,I,rfl,?_⟩
  rw[show its.toArray.any (eqU x)=its.any (eqU x) by simp,O4 r fs]
  exact q
 ·
  obtain⟨its,r,pl,hz⟩:=I.tuple hq
  refine SeqAt.in_tupleAt (eqU x) pl (λw hw=>Lz rx fx r fs w (by simpa using hw)) ⟨.bl _,H,I,rfl,?_⟩
  rw[show its.toArray.any (eqU x)=its.any (eqU x) by simp,O4 r fs]
  exact q
theorem T3:OpR X (compareOp .NotIn) (rIn X.K true):=by
 intro pins s σ H x y v u Q I rx ry h
 obtain⟨p,xs,rfl,hq,fx,fs,q⟩:=h
 cases ry
 rcases hq with hq|hq
 ·
  obtain⟨its,r,pl,hz⟩:=I.list hq
  refine SeqAt.notIn_listAt (eqU x) pl.isList (λw hw=>Lz rx fx r fs w (by simpa using hw)) ⟨.bl _,H,I,rfl,?_⟩
  rw[show its.toArray.any (eqU x)=its.any (eqU x) by simp,O4 r fs]
  exact q
 ·
  obtain⟨its,r,pl,hz⟩:=I.tuple hq
  refine SeqAt.notIn_tupleAt (eqU x) pl (λw hw=>Lz rx fx r fs w (by simpa using hw)) ⟨.bl _,H,I,rfl,?_⟩
  rw[show its.toArray.any (eqU x)=its.any (eqU x) by simp,O4 r fs]
  exact q
theorem Tu:Gn X (.builtin "len") (λxs H Q=>∃p ys,xs=[.ref p]/\(SqL X.K H p ys∨SqT X.K H p ys)/\Q (.int ys.length) H):=by
 intro pins s σ H xs us Q I r h
 obtain⟨p,ys,rfl,hq,q⟩:=h
 obtain⟨u,rfl,rx⟩:=vals1 r
 cases rx
 have hn:=Q0
 rcases hq with hq|hq
 ·
  obtain⟨its,r',pl,hz⟩:=I.list hq
  have hlen:=r'.length
  exact Calls.call_len_list pl.isList (by simp only[Adn]<;>lia) ⟨.int ys.length,H,I.tok _,⟨s.toks+1,by rw[Adn,hlen]⟩,q⟩
 ·
  obtain⟨its,r',pl,hz⟩:=I.tuple hq
  have hlen:=r'.length
  exact len_tuple pl (by simp only[Adn]<;>lia) ⟨.int ys.length,H,I.tok _,⟨s.toks+1,by rw[Adn,hlen]⟩,q⟩
theorem M7:Gn X (.builtin "len") (λxs H Q=>∃z,xs=[.str z]/\z.length<=sizeLine/\Q (.int z.length) H):=by
 intro pins s σ H xs us Q I r h
 obtain⟨z,rfl,hz,q⟩:=h
 obtain⟨u,rfl,t,rfl⟩:=vals1 r
 have hn:=Q0
 exact len_str (by lia) ⟨.int z.length,H,I.tok _,⟨_,rfl⟩,q⟩
theorem Rp:Gn X (.type "tuple") (λxs H Q=>∃p ys,xs=[.ref p]/\((SqL X.K H p ys/\ ∀l,H l=none->Q (.ref l) (upd H l (.tup ys)))∨(SqT X.K H p ys/\Q (.ref p) H))):=by
 intro pins s σ H xs us Q I r h
 obtain⟨p,ys,rfl,h⟩:=h
 obtain⟨u,rfl,rx⟩:=vals1 r
 cases rx
 rcases h with⟨hq,q⟩|⟨hq,q⟩
 ·
  obtain⟨its,r',pl,hz⟩:=I.list hq
  have hlen:=r'.length
  refine call_tuple_list pl.isList (λh' kp=>?_) (by simp only[Adn]<;>lia)
  have I1:Inv X pins σ H {s with heap:=h'}:=I.kept (t':=s.toks) kp
  have I2:Inv X pins σ (upd H h'.objs.size (.tup ys)) {s with heap:=h'.push {cls:=.type "tuple",data:=.seq its.toArray}}:=
   I1.laid (t':=s.toks) (λb o e=>Ac5 _ e) (Adb _) (show ObjOk X.prog X.w _ _ _ (.tup ys) from ⟨hz,its,r',IsTup.new _ _⟩)
  exact⟨.ref h'.objs.size,_,I2,rfl,q _ (I1.hok.fresh (Adb _))⟩
 ·
  obtain⟨its,r',pl,hz⟩:=I.tuple hq
  exact call_tuple_same pl ⟨.ref p,H,I,rfl,q⟩
def tyV (K:W.Frag)(T:String)(x:V)(H:Hp):Prop:=match x with
 | .str _=>T="str"
 | .int _=>T="int"
 | .ref p=>(T="list"/\ ∃xs,SqL K H p xs)∨(T="tuple"/\ ∃o,K.lookup p=some o/\o.cls=.type "tuple"/\o.dict=none)∨
  (T="dict"/\((∃kvs,H p=some (.dK kvs))∨ ∃kvs,H p=some (.dT kvs)))∨(T="set"/\ ∃S n,H p=some (.set S n))
 | _=>False
theorem xc {pins:List (Addr×Obj)}{σ:St}{H:Hp}{s:Shared}{T:String}{x:V}{v:Value}(I:Inv X pins σ H s)(r:RelV x v)(ty:tyV X.K T x H):
  s.TypeIs v T/\ ∀a,v=.ref a-> ∃ob,s.heap.get? a=some ob/\ob.dict=none:=by
 cases x with
 |
  str z=>
  obtain⟨t,rfl⟩:=r
  cases (show T="str" from ty)
  exact⟨typeIs_str s z t,λ_ e=>nomatch e⟩
 |
  int i=>
  obtain⟨t,rfl⟩:=r
  cases (show T="int" from ty)
  exact⟨typeIs_int s i t,λ_ e=>nomatch e⟩
 |
  ref p=>
  cases r
  rcases ty with⟨rfl,xs,hq⟩|⟨rfl,o,hk,hc,hd⟩|⟨rfl,hk⟩|⟨rfl,S,n,hk⟩
  ·
   obtain⟨its,_,pl,_⟩:=I.list hq
   refine⟨pl.isList.typeIs,λa e=>?_⟩
   cases e
   obtain⟨o,n,e,c,hd,_⟩:=pl
   exact⟨o,e,hd⟩
  ·
   refine⟨⟨o,I.kIn p o hk,hc⟩,λa e=>?_⟩
   cases e
   exact⟨o,I.kIn _ o hk,hd⟩
  ·
   have z: ∃o,s.heap.get? p=some o/\o.ExactDict:=by
    rcases hk with⟨kvs,hk⟩|⟨kvs,hk⟩
    ·
     obtain⟨_,_,_,_,o,_,_,e,ex,_⟩:=I.hok p _ hk
     exact⟨o,e,ex⟩
    ·
     obtain⟨_,_,_,_,o,_,_,e,ex,_⟩:=I.hok p _ hk
     exact⟨o,e,ex⟩
   obtain⟨o,e,ex⟩:=z
   refine⟨⟨o,e,ex.1⟩,λa e2=>?_⟩
   cases e2
   exact⟨o,e,ex.2.1⟩
  ·
   obtain⟨o,_,_,_,e,ex,_⟩:=I.hok p _ hk
   refine⟨⟨o,e,ex.1⟩,λa e2=>?_⟩
   cases e2
   exact⟨o,e,ex.2.1⟩
 | _=>exact False.elim ty
def tBM (K:W.Frag)(T:String)(r:V->List V->Hp->VK->Prop)(to:TE)(t:TA):TE:=λσ H Q=>to σ H λx H1=>tyV K T x H1/\t σ H1 λxs H2=>r x xs H2 Q
variable {o e:Expr}{es:List Expr}{to:TE}{t:TA}{name:Str}{apos cpos:Pos}{T id:String}{r:V->List V->Hp->VK->Prop}
theorem Qk (pa:PlainAttrs T)(slot:Slot T name id)(hty:typeOf (.builtin id)=pure (.type "method_descriptor"))(hm:MtR X id r)(ho:PE X o to)(ha:PA X (e::es) t)
  (hbase:attributeBase o name X.env (eval o X.env)=eval o X.env:=by rfl)
  (hfew:((backTo cpos (starEach (e::es) X.env)).all (λx=>!x.1)&&(backToKw cpos (keywordEach [] X.env)).all (λx=>x.1.isSome)
   &&decide ((e::es).length+([]:List Keyword).length+(if([]:List Keyword).isEmpty then 0 else 1)<30))=true:=by rfl)
  (hline:(apos.endLine==cpos.line)=true:=by rfl) (hs:starEach (e::es) X.env=(false,eval e X.env)::starEach es X.env:=by rfl) (hplain:(backTo cpos (starEach es X.env)).any (·.1)=false:=by rfl):
  PE X (.Call (.Attribute o name apos) (e::es) [] cpos) (tBM X.K T r to t):=by
 intro pins s σ H Q I h
 refine wpAny_Call_method_late hbase hfew hline rfl (thn (ho pins s σ H _ I h) λv s1 ⟨x,H1,I1,r1,ty,q1⟩=>?_)
 obtain⟨h1,h2⟩:=xc I1 r1 ty
 refine⟨T,id,pa,slot,hty,h1,h2,?_⟩
 have hA:=ha cpos pins s1 σ H1 _ I1 q1
 rw[hs] at hA ⊢
 refine Aio (by show(false||(backTo cpos (starEach es X.env)).any (·.1))=false;rw[hplain]<;>rfl) (Aix ?_)
 exact thn hA λus s2 ⟨vs,H2,I2,r2,q2⟩=>hm pins s2 σ H2 x vs v us Q I2 r1 r2 q2
end
def MtM (X:Cx)(id:String)(r:V->List V->Hp->VK->Prop):Prop:=
 ∀(pins:List (Addr×Obj))(s:Shared)(σ:St)(H:Hp)(x:V)(xs:List V)(v:Value)(us:List Value)(Q:VK),Inv X pins σ H s->RelV x v->Vals xs us->r x xs H Q->
  wpAny (model X.prog X.w) X.A (call (.builtin id) (v::us)) (EP X pins σ Q) X.xe s
theorem Vals.one: ∀{x:V}{us:List Value},Vals [x] us-> ∃u,us=[u]/\RelV x u
 | _,_,.cons r .nil=>⟨_,rfl,r⟩
theorem Vals.two: ∀{x y:V}{us:List Value},Vals [x,y] us-> ∃u v,us=[u,v]/\RelV x u/\RelV y v
 | _,_,_,.cons r (.cons q .nil)=>⟨_,_,rfl,r,q⟩
section
variable {X:Cx}{pins:List (Addr×Obj)}{σ:St}{H:Hp}{s:Shared}{l b:Addr}{xs ys zs:List V}
theorem Inv.lset {its its':List Value}{n:Nat}{f:Array Value->Array Value}{t':Nat}(I:Inv X pins σ H s)(hH:H l=some (.lst xs))
  (e:s.heap.get? l=some {cls:=.type "list",data:=.seq its.toArray n}) (hf:f its.toArray=its'.toArray) (hv:Vals ys its') (hz:ys.length<=sizeLine):
  Inv X pins σ (upd H l (.lst ys)) {s with heap:=s.heap.update l (Obj.mapSeq f),toks:=t'}:=by
 have q:=PySem.IsL.update e f
 rw[hf] at q
 refine I.write (x:=l) (e:=l) (by rw[hH];exact trivial) (.inl rfl) (λb' u hb hu=>(Heap.get?_update_other s.heap (Obj.mapSeq f) (Ah3 hb)).trans hu) ⟨_,q⟩ ?_
 exact⟨hz,its',_,hv,q⟩
theorem Inv.lnew {its:List Value}{t':Nat}(I:Inv X pins σ H s)(hv:Vals ys its)(hz:ys.length<=sizeLine):
  Inv X pins σ (upd H s.heap.objs.size (.lst ys)) {s with heap:=s.heap.push {cls:=.type "list",data:=.seq its.toArray},toks:=t'}:=
 I.laid (λ_ _ q=>Ac5 _ q) (Adb _) ⟨hz,its,0,hv,Adv _ rfl⟩
theorem Inv.fresh (I:Inv X pins σ H s):H s.heap.objs.size=none:=I.hok.fresh (Adb _)
theorem Inv.lstM (I:Inv X pins σ H s)(hH:H l=some (.lst xs)):xs.length<=sizeLine/\ ∃(its:List Value)(n:Nat),Vals xs its/\xs.length=its.length/\s.heap.get? l=some {cls:=.type "list",data:=.seq its.toArray n}:=by
 obtain⟨z,its,n,r,e⟩:=I.hok l _ hH
 exact⟨z,its,n,r,r.length,e⟩
end
section
variable {X:Cx}
def ud:V->List V->Hp->VK->Prop:=λx vs H Q=>∃l xs y,x=.ref l/\vs=[y]/\H l=some (.lst xs)/\xs.length<sizeLine/\Q .non (upd H l (.lst (xs++[y])))
theorem Dq:MtM X "list.append" ud:=by
 intro pins s σ H x vs v us Q I rx rv h
 obtain⟨l,xs,y,rfl,rfl,hH,hz,q⟩:=h
 cases rx
 obtain⟨u,rfl,ru⟩:=rv.one
 obtain⟨z,its,n,r,hl,e⟩:=I.lstM hH
 refine call_meets F.slot_list_append ⟨_,e,rfl⟩ F.entry_list_append (F.args_list_append_2 _ _) (PySem.list_append l its.toArray n u (by rw[Adn];lia)) ⟨e,?_⟩
 refine⟨.non,_,I.lset (its':=its++[u]) hH e (by simp) (r.append (.cons ru .nil)) ?_,rfl,q⟩
 rw[Ade,List.length_singleton]
 lia
end
section
variable {prog:Program}{w:World}{A:Around}{E:Value->Shared->Prop}{s:Shared}
end
section
variable {X:Cx}
end
end L2
namespace Att
open PySem PySem.W PySem.Calls PyProof.Rows
theorem Oq {P:Params}{h:Heap}: ∀(ns:List Int)(vs:List Value),WellAll P h vs (ns.map WData.int)->IntsAre vs ns:=by
 intro ns
 induction ns with
 |
  nil=>
  intro vs w
  rw[Aih] at w
  cases w
  exact .nil
 |
  cons n ns ih=>
  intro vs w
  rw[Ad3] at w
  cases w with
  |
   cons a b=>
   cases a
   exact .cons _ _ (ih _ b)
theorem ao {l:OpenLaw}{n:Nat}(hn:l.most=some n){P:Params}{h:Heap}{args:List WData}{vals:List Value}
  (hpre:l.row.toRowW.claim.pre args=true) (hwl:WellAll P h vals args):
  ∃a vs ns,vals=[Value.ref a]/\args=[WData.list (ns.map WData.int)]/\h.get? a=some {cls:=.type "list",data:=.seq vs.toArray}/\IntsAre vs ns/\ns.length<=n:=by
 have hsh:WShape.hasAll [] args [.list .int]=true:=(pre_splitW hpre).1
 have hc:l.pre.holds [] {args:=args}=true:=(pre_splitW hpre).2
 obtain⟨d,r,rfl,h1,h2⟩:=hasAllW_cons hsh
 obtain rfl:=hasAllW_nil h2
 obtain⟨xs,rfl,h3⟩:=hasW_list h1
 obtain⟨ns,rfl⟩:=items_int h3
 have hlen:ns.length<=n:=by
  unfold OpenLaw.pre at hc
  have h4:(WTm.not (.lt (.lit (.int (n:Int))) (.len (.arg 0)))).holds [] {args:=[.list (ns.map .int)]}=true:=by
   have h4:=(holds_andW hc).1
   rw[hn] at h4
   exact h4
  have h5:=condW_of h4 (w_not (w_lt w_lit (w_len_list (w_arg rfl))))
  rw[Ac0] at h5
  refine Nat.le_of_not_lt λq=>?_
  have q':(n:Int)<((ns.length:Nat):Int):=by lia
  first
   | (rw[Ac3 q'] at h5;exact absurd h5 (by decide))
   | (simp at h5;lia)
 cases hwl with
 |
  cons w1 w2=>
  cases w2
  cases w1 with
  | list ho hall=>exact⟨_,_,ns,rfl,rfl,ho,Oq ns _ hall,hlen⟩
theorem c9 (l:OpenLaw)(args:List WData):l.row.toRowW.claim.post args (.bool true) args=true:=
 postW_of (r:=l.row.toRowW) (X:=(true==true))
  (show WShape.has [] (.bool true) .bool=true by first|rfl|decide|simp[WShape.has,WShape.arms,WShape.armsAll])
  (show(WTm.eq .res (.lit (.bool true))).value [] {args:=args,res:=some (.bool true),after:=args}=some (.bool (true==true)) from w_eq_bool (w_res rfl) w_lit) rfl
theorem W8 {l:OpenLaw}{n:Nat}{q:Program}{loose:List Str}{XP:(Str->Option Value)->Heap->Prop}{YP:World->Heap->Prop}{d:DefRec}
  (hn:l.most=some n) (hdf:d.params.defaults=[])
  (call: ∀(w:World)(s₀ s₁:Shared)(mg mb:Str->Option Value)(fa:Addr)(o:Obj)(pm cd doc:Value)(a:Addr)(vs:List Value)(ns:List Int),
   Ground q loose [] XP w s₀ mg mb s₁.heap->YP w s₁.heap->
   s₁.heap.get? fa=some o->o.data=.func (docDef d.name d.params d.body d.scope pm cd doc)->s₁.heap.CodeRec cd d.name->mg d.name=some (.ref fa)->
   s₁.heap.get? a=some {cls:=.type "list",data:=.seq vs.toArray}->IntsAre vs ns->ns.length<=n->s₁.gens=#[]->
   codeAny (model l.prog w) callerA (.call (.ref fa) ⟨[.ref a],[]⟩) (λr s'=>r=.ok (.ret (.bool true))/\OldK s₁.heap s'.heap/\s'.os=s₁.os/\AllBare s'.gens) s₁):
  WalkO q loose XP YP l.row.toRowW d [] (λf vs=>PySem.call f vs):=by
 intro w s₀ s₁ mg mb G Y fa o pm cd doc dV kV ho hd hcd hD hmg hg args vals as hpre hlay hrd hwl hlo
 obtain rfl:dV=.none:=Dflts.none hD hdf
 obtain rfl:kV=.none:=Dflts.noKw hD
 obtain⟨a,vs,ns,rfl,rfl,hobj,hints,hlen⟩:=ao hn hpre hwl
 refine enter_call (Ais (call w s₀ s₁ mg mb fa o pm cd doc a vs ns G Y ho (fd_plain hd) hcd hmg hobj hints hlen hg) λr s' hq=>?_)
 obtain⟨rfl,h2,h3,h4⟩:=hq
 exact⟨.inl ⟨.bool true,.bool true,[],rfl,λ_=>rfl,.bool true,c9 l _,λ_=>⟨List.Pairwise.nil,λ_ hm=>(nomatch hm)⟩⟩,h2,h3,h4⟩
section
variable {prog:Program}{w:World}{A:Around}{E:Value->Shared->Prop}{s:Shared}{K:Frag}
def ledger (h:Heap)(L d:Addr):List (Addr×Obj):=(List.range h.objs.size).filterMap λa=>if a=L∨a=d then none else(h.get? a).map λo=>(a,o)
end
end Att
namespace L2
open PySem PySem.Spec PyProof.Rows
theorem V0: ∀{vs:List Value}{ns:List Int},IntsAre vs ns->Vals (ns.map V.int) vs
 | _,_,.nil=>.nil
 | _,_,.cons n t h=>.cons ⟨t,rfl⟩ (V0 h)
def Aag (H:Hp):Prop:=∀b,H b=none∨ ∃o xs,H b=some (.frz o (.lst xs))
theorem j8 {cm:Bool}{P:Program}{w:World}{K:W.Frag}{mg mb:Str->Option Value}{CX:CXT}{k:Nat}{fa a:Addr}{fd:FuncData}{x:Str}{sp:Sp}{s₁:Shared}{vs:List Value}{ns:List Int}
  (KX:K.In s₁.heap) (hns:s₁.heap.Ns mainGlobals mg) (hb:s₁.heap.Ns builtinsNs mb) (hbb: ∀x:Str,x≠"__name__"->mb x=bootBuiltins x) (hlim:s₁.heap.NoLimit) (hg:s₁.gens=#[])
  (ha:s₁.heap.get? a=some {cls:=.type "list",data:=.seq vs.toArray}) (hi:IntsAre vs ns) (hl:ns.length<=sizeLine) (hr:Room cm k callerA)
  (F: ∀base:Heap,K.In base->base.Ns mainGlobals mg->FnOk P w K mg base CX cm k fa fd [x] sp) (hbind: ∀(s:Shared)(u:Value),BindsTo s fd ⟨[u],[]⟩ [(x,u)])
  (hsp: ∀H:Hp,Aag H->SqL K H a (ns.map V.int)->sp [.ref a] H (λv _=>v=.bl true) λ_ _ _=>False)
  (hCX: ∀H e s',CX [] H s₁ (λ_ _ _=>False) e s'->False):
  codeAny (model P w) callerA (.call (.ref fa) ⟨[.ref a],[]⟩) (λr s'=>r=.ok (.ret (.bool true))/\OldK s₁.heap s'.heap/\s'.os=s₁.os/\AllBare s'.gens) s₁:=by
 have rv:=V0 hi
 have lenV:=hi.length
 --from an abstract heap in which nothing but the script may be tracked
 have core: ∀H:Hp,Aag H->SqL K H a (ns.map V.int)->HOk P w H s₁.heap->(∀b,H b≠none->b=a)->(H a≠none->K.lookup a=none)->
   codeAny (model P w) callerA (.call (.ref fa) ⟨[.ref a],[]⟩) (λr s'=>r=.ok (.ret (.bool true))/\OldK s₁.heap s'.heap/\s'.os=s₁.os/\AllBare s'.gens) s₁:=by
  intro H hO hS hok hA hK
  have base_of: ∀{b:Addr}{o:Obj},s₁.heap.get? b=some o->H b=none->(j9 s₁.heap H).get? b=some o:=λe n=>i7 e n
  have noA: ∀{b:Addr}{o:Obj}{es:Array DictEntry}{ep:Nat},s₁.heap.get? b=some o->o.data=.dict es ep->H b=none:=λ{b o es ep}e d=>by
   cases q:H b with
   | none=>rfl
   |
    some u=>
    have e':b=a:=hA b (by rw[q];simp)
    subst e'
    rw[ha] at e;cases e
    have d':Data.seq vs.toArray _=Data.dict es ep:=d
    cases d'
  have nsK: ∀{b:Addr}{m:Str->Option Value},s₁.heap.Ns b m->(j9 s₁.heap H).Ns b m:=λ{b m} ⟨o,es,ep,e,d,r⟩=>⟨o,es,ep,base_of e (noA e d),d,r⟩
  have hKb:K.In (j9 s₁.heap H):=λb o e=>base_of (KX b o e) (by
   cases q:H b with
   | none=>rfl
   |
    some u=>
    have e':b=a:=hA b (by rw[q];simp)
    subst e'
    rw[hK (by rw[q];simp)] at e;cases e)
  have hM:Mod K mg (j9 s₁.heap H):=⟨hKb,nsK hns,⟨mb,nsK hb,hbb⟩,let ⟨mc,h1,h2⟩:=hlim;⟨mc,nsK h1,h2⟩⟩
  have e0:Env0 P w K mg (j9 s₁.heap H) callerA [] s₁ H:=⟨rfl,hM,λb o e=>qk e,Nat.le_of_eq (ba _ _),trivial,λb hb=>absurd (show b∈([]:List Addr) from hb) (by simp),hok,.of_eq hg⟩
  refine Ais ((F _ hKb (nsK hns)).run callerA [] s₁ H ⟨[.ref a],[]⟩ [.ref a] [.ref a] _ _ hr e0 (hbind s₁ (.ref a)) (.cons rfl .nil) (hsp H hO hS)) λr s' h=>?_
  cases r with
  | error e=>exact(hCX H e s' h).elim
  |
   ok fl=>
   cases fl with
   | next=>exact False.elim h
   | brk=>exact False.elim h
   | cont=>exact False.elim h
   |
    ret u=>
    obtain⟨v,H',os,bare,un,hok',r',q⟩:=h
    have q':v=.bl true:=q
    subst q'
    obtain rfl:u=Value.bool true:=r'
    refine⟨rfl,OldK.of_keep λb o e=>?_,os,bare⟩
    cases q:H b with
    | none=>exact un.keep b o e q (by intro z;exact absurd (show b∈([]:List Addr) from z) (by simp)) (by simp)
    |
     some u=>
     rcases hO b with z|⟨ob,xs,z⟩
     · rw[q] at z;cases z
     ·
      have z2:=un.frzs b ob _ z
      obtain⟨e1,_⟩:=hok b _ z
      obtain⟨e2,_⟩:=hok' b _ z2
      rw[e] at e1;cases e1
      exact e2
 cases hk:K.lookup a with
 |
  some o=>
  --the script is one of the module's own objects
  have e:=KX a o hk
  rw[ha] at e
  cases e
  refine core (λ_=>none) (λ_=>.inl rfl) (.inr ⟨_,vs.toArray,_,hk,rfl,rfl,rfl,by rw[Adn,lenV];exact hl,by simpa using rv⟩) (λb u z=>by have z':(none:Option HO)=some u:=z;cases z') (λb z=>absurd rfl z) λz=>absurd rfl z
 |
  none=>
  refine core (λb=>if b=a then some (.frz {cls:=.type "list",data:=.seq vs.toArray} (.lst (ns.map V.int))) else none) (λb=>?_) (.inl (.inr ⟨{cls:=.type "list",data:=.seq vs.toArray},if_pos rfl⟩)) (λb u z=>?_) (λb z=>?_) λ_=>hk
  ·
   by_cases hb:b=a
   · exact .inr ⟨_,_,if_pos hb⟩
   · exact .inl (if_neg hb)
  ·
   by_cases hb:b=a
   ·
    have z':=(if_pos hb).symm.trans z
    cases z'
    subst hb
    exact⟨ha,by rw[Ac0];exact hl,vs,_,rv,ha⟩
   ·
    have z':=(if_neg hb).symm.trans z
    cases z'
  ·
   by_cases hb:b=a
   · exact hb
   · exact absurd (if_neg hb) z
abbrev KOf {K:W.Frag}{h:Heap}(_:K.In h):W.Frag:=K
theorem ue {cm:Bool}{l:W.OpenLaw}{n k:Nat}{q:Program}{loose:List Str}{XP:(Str->Option Value)->Heap->Prop}{YP:World->Heap->Prop}{d:DefRec}{K:Params->W.Frag}{CX:World->CXT}{sp:World->Sp}{x:Str}
  (hn:l.most=some n) (hn2:n<=sizeLine) (hdf:d.params.defaults=[]) (hr:Room cm k callerA)
  (hY: ∀(w:World)(h:Heap),YP w h->(K w.params).In h)
  (F: ∀(w:World)(mg:Str->Option Value)(fa:Addr)(h:Heap),(K w.params).In h->h.Ns mainGlobals mg->mg d.name=some (.ref fa)->
   ∃fd:FuncData,(∀(s:Shared)(u:Value),BindsTo s fd ⟨[u],[]⟩ [(x,u)])/\
    ∀base:Heap,(K w.params).In base->base.Ns mainGlobals mg->FnOk l.prog w (K w.params) mg base (CX w) cm k fa fd [x] (sp w))
  (hsp: ∀(w:World)(H:Hp)(a:Addr)(ns:List Int),ns.length<=n->Aag H->SqL (K w.params) H a (ns.map V.int)->sp w [.ref a] H (λv _=>v=.bl true) λ_ _ _=>False)
  (hCX: ∀(w:World)(H:Hp)(s:Shared)(e:Value)(s':Shared),CX w [] H s (λ_ _ _=>False) e s'->False):
  W.WalkO q loose XP YP l.row.toRowW d [] (λf vs=>PySem.call f vs):=by
 refine Att.W8 hn hdf λw s₀ s₁ mg mb fa o pm cd doc a vs ns G Y ho hd hcd hmg hobj hints hlen hg=>?_
 have KX:=hY w _ Y
 obtain⟨fd,hb,hF⟩:=F w mg fa _ KX G.T.g hmg
 exact j8 KX G.T.g G.T.b G.T.builtins G.T.nolimit hg hobj hints (Ady hlen hn2) hr hF hb (λH hO hS=>hsp w H a ns hlen hO hS) λH e s'=>hCX w H s₁ e s'
def inClass (s:Stmt)(j:Nat):Stmt:=match s with
 | .ClassDef _ _ _ body _ _ _ _ _ _ _=>body.getD j (.Pass ⟨0,0,0,0⟩)
 | _=>.Pass ⟨0,0,0,0⟩
def Gf (s:Stmt):Arguments:=match s with
 | .FunctionDef _ a _ _ _ _ _ _ _ _=>a
 | _=>{posonlyargs:=[],args:=[],vararg:=none,kwonlyargs:=[],kw_defaults:=[],kwarg:=none,defaults:=[]}
def Fi (s:Stmt):List Stmt:=match s with
 | .FunctionDef _ _ b _ _ _ _ _ _ _=>b
 | _=>[]
def Af (s:Stmt):Scope:=match s with
 | .FunctionDef _ _ _ _ _ _ sc _ _ _=>sc
 | _=>{kind:=.function,names:=[],isGenerator:=false,isCoroutine:=false}
abbrev CX0:CXT:=λ_ _ _ _ _ _=>False
abbrev E0:XK:=λ_ _ _=>False
theorem Aw {X:Cx}:Passes CX0 X E0:=λ_ _ _ _ _ _ _ h=>h.elim
structure Fun (K:W.Frag)(x qual:Str)(st:Stmt)(f:Addr)(fd:FuncData):Prop where
 ex: ∃(oc:Value)(od:Option Addr)(kV doc pm:Value)(an:Option Addr)(cdv ct:Value)(osl:Array (Option Value)),
  fd=W.fnOf x qual (Gf st) (Fi st) (Af st) .none kV doc pm an cdv ct/\K.lookup f=some ⟨oc,od,.func fd,osl⟩/\W.codeIn K cdv qual=true
 kp:W.keepIn K (.ref f)=true
section
variable {P:Program}{w:World}{K:W.Frag}{mg:Str->Option Value}{base:Heap}
theorem Fun.ok {cm:Bool}{x qual:Str}{st:Stmt}{f:Addr}{fd:FuncData}{N ps:List Str}{k:Nat}{sp:Sp}(F:Fun K x qual st f fd)(S:Ay N ps (Af st))(len: ∀vs H Q E,sp vs H Q E->vs.length=ps.length)
  (hbody: ∀(cdv:Value)(A:Around)(outer:List Env)(s:Shared)(H:Hp)(vs:List V)(Q:VK)(E:XK),Room cm k (A.deeper (envOfC qual (Af st) s.heap.objs.size f cdv))->sp vs H Q E->
   ∃t,PSs (uu CX0 cm P w K mg base N qual (Af st) f cdv A outer s H E).nox (Fi st) t/\t {nx:=λ_ H'=>Q .non H',rt:=λ_=>Q} (start N vs) H):FnOk P w K mg base CX0 cm (k+1) f fd ps sp:=by
 obtain⟨oc,od,kV,doc,pm,an,cdv,ct,osl,rfl,lk,hcd⟩:=F.ex
 refine z8 lk hcd S len λA outer s H vs Q E hr hsp=>?_
 obtain⟨t,h,q⟩:=hbody cdv A outer s H vs Q E hr hsp
 exact⟨t,h.nox,q⟩
theorem Fun.binds {x qual:Str}{st:Stmt}{f:Addr}{fd:FuncData}{ps:List Str}(F:Fun K x qual st f fd)
  (h: ∀(kV doc pm:Value)(an:Option Addr)(cdv ct:Value)(us:List Value),us.length=ps.length->bindArgs (W.fnOf x qual (Gf st) (Fi st) (Af st) .none kV doc pm an cdv ct) ⟨us,[]⟩=pure (ps.zip us)):Binds K fd ps []:=by
 obtain⟨oc,od,kV,doc,pm,an,cdv,ct,osl,rfl,lk,hcd⟩:=F.ex
 exact .all (h kV doc pm an cdv ct)
theorem oo {x qual:Str}{st:Stmt}{f:Addr}{oc:Value}{od an:Option Addr}{osl:Array (Option Value)}{kV doc pm cdv ct:Value}(l:K.lookup f=some ⟨oc,od,.func (W.fnOf x qual (Gf st) (Fi st) (Af st) .none kV doc pm an cdv ct),osl⟩)
 (c:W.codeIn K cdv qual=true) (k:W.keepIn K (.ref f)=true):Fun K x qual st f (W.fnOf x qual (Gf st) (Fi st) (Af st) .none kV doc pm an cdv ct):=⟨⟨oc,od,kV,doc,pm,an,cdv,ct,osl,rfl,l,c⟩,k⟩
end
theorem Fs {cm:Bool}{A:Around}{k:Nat}(hr:Room cm k A):A.units+1<cLine:=Afn (Aiq (by decide:1<=64) _) hr.units
section
variable {X:Cx}
theorem pv (i:Nat){x:Str}{pos:Pos}(hN:X.N[i]?=some x:=by rfl)(hv:Vis X.env.scope x:=by first|exact Or.inl rfl|exact Or.inr (Or.inl rfl)|exact Or.inr (Or.inr rfl))(hd:(x==("__debug__":Str))=false:=by decide)
 (hcd:(x==("__classdict__":Str))=false:=by decide):PE X (.Name x pos) (Aai i):=m5 hN hv hd hcd
end
theorem uw {A B:Prop}(h:B):if false=true then A else B:=by
 rw[if_neg Adf]
 exact h
theorem x6 {A B:Prop}(h:A):if true=true then A else B:=by
 rw[if_pos rfl]
 exact h
theorem Kw {c A B:Prop}[Decidable c](h1:c->A)(h2: ¬c->B):if c then A else B:=by
 by_cases h:c
 ·
  rw[if_pos h]
  exact h1 h
 ·
  rw[if_neg h]
  exact h2 h
theorem yp {c A B:Prop}[Decidable c](hc:c)(h:B):if(!decide c)=true then A else B:=by
 rw[Ac3 hc]
 exact uw h
def Same (H H':Hp):Prop:=∀b o,H b=some o->H' b=some o
theorem Same.refl (H:Hp):Same H H:=λ_ _ h=>h
theorem Same.trans {H H1 H2:Hp}(a:Same H H1)(b:Same H1 H2):Same H H2:=λc o h=>b c o (a c o h)
theorem Same.seq {K:W.Frag}{H H':Hp}{a:Addr}{xs:List V}(e:Same H H')(h:SqL K H a xs):SqL K H' a xs:=by
 rcases h with(h|⟨o,h⟩)|h
 · exact .inl (.inl (e _ _ h))
 · exact .inl (.inr ⟨o,e _ _ h⟩)
 · exact .inr h
def Qr (env:Env):List (Str×NameKind)->List (Str×Addr)->List (Str×Addr)
 | [],acc=>acc
 | (n,k)::r,acc=>if k== .free then Qr env r ((n,(env.cells.lookup n).getD 0)::acc) else Qr env r acc
theorem Te {env:Env}{x:Str}{c:Addr}: ∀{ns:List (Str×NameKind)}{acc:List (Str×Addr)},(∃c,acc.lookup x=some c)-> ∃c,(Qr env ns acc).lookup x=some c
 | [],_,h=>h
 |
  (n,k)::r,acc,h=>by
  unfold Qr
  split
  ·
   refine Te (c:=c) ?_
   obtain⟨c',e⟩:=h
   rw[Afe]
   cases q:x==n
   · exact⟨c',e⟩
   · exact⟨_,rfl⟩
  · exact Te (c:=c) h
theorem N4 {env:Env}{x:Str}: ∀{ns:List (Str×NameKind)}{acc:List (Str×Addr)},(x,NameKind.free)∈ns-> ∃c,(Qr env ns acc).lookup x=some c
 |
  (n,k)::r,acc,h=>by
  unfold Qr
  rcases Ado.mp h with e|h
  ·
   cases e
   rw[if_pos (by rfl)]
   exact Te (c:=0) ⟨_,by rw[Afe,beq_self_eq_true]⟩
  ·
   split
   · exact N4 h
   · exact N4 h
theorem Wi {env:Env}{x:Str}{c:Addr}: ∀{ns:List (Str×NameKind)}{acc:List (Str×Addr)},(∀y∈ns,y.2=.free-> ∃d,env.cells.lookup y.1=some d)->(∀y d,acc.lookup y=some d->env.cells.lookup y=some d)->
  (Qr env ns acc).lookup x=some c->env.cells.lookup x=some c
 | [],_,_,ha,h=>ha _ _ h
 |
  (n,k)::r,acc,hn,ha,h=>by
  unfold Qr at h
  have hr: ∀y∈r,y.2=.free-> ∃d,env.cells.lookup y.1=some d:=λy hy=>hn y (Adi _ hy)
  split at h
  ·
   rename_i hk
   have hk':k=.free:=by simpa using hk
   obtain⟨d,hd⟩:=hn (n,k) Ac8 hk'
   refine Wi hr (λy d' hy=>?_) h
   rw[Afe] at hy
   cases q:y==n
   ·
    rw[q] at hy
    exact ha y d' hy
   ·
    rw[q] at hy
    have e:y=n:=by simpa using q
    subst e
    have hd':env.cells.lookup y=some d:=hd
    rw[hd'] at hy
    rw[hd']
    exact hy
  · exact Wi hr ha h
theorem Hv {x:Str}{k:NameKind}: ∀{ns:List (Str×NameKind)},ns.lookup x=some k->(x,k)∈ns
 |
  (n,j)::r,h=>by
  rw[Afe] at h
  cases q:x==n
  ·
   rw[q] at h
   exact Adi _ (Hv h)
  ·
   rw[q] at h
   have e:x=n:=by simpa using q
   subst e
   cases h
   exact Ac8
def Ca (X:Cx)(N:List Str)(scope:Scope)(C:Addr)(s:Shared)(H:Hp)(fp:List Addr):Cx where
 prog:=X.prog
 w:=X.w
 K:=X.K
 mg:=X.mg
 base:=X.base
 A:=X.A
 N:=N
 s₀:=s
 H₀:=H
 env:=compEnvC scope (Qr X.env scope.names []) C X.env
 outer:=X.stack
 stack:=X.stack
 ex:=fp
 fn:=λ_=>false
 calm:=X.calm
 pn:=[]
 xe:=λ_ _=>False
def Uk (sc scope:Scope)(N0:List Str):List (Option Nat)->List Str->Bool
 | [],_=>true
 | none::r,_::n=>Uk sc scope N0 r n
 | some j::r,x::n=>decide (N0[j]?=some x)&&decide (scope.names.lookup x=some .free)&&decide (sc.names.lookup x=some .cell)&&Uk sc scope N0 r n
 | _::_,[]=>false
theorem To {sc scope:Scope}{N0:List Str}: ∀{cap:List (Option Nat)}{N:List Str}{i j:Nat},Uk sc scope N0 cap N=true->cap[i]?=some (some j)->
  ∃x,N[i]?=some x/\N0[j]?=some x/\scope.names.lookup x=some .free/\sc.names.lookup x=some .cell
 | [],_,_,_,_,e=>by simp at e
 | o::_,[],_,_,h,_=>by cases o<;>simp[Uk] at h
 |
  o::r,y::n,0,j,h,e=>by
  simp at e
  subst e
  unfold Uk at h
  simp only[Adu,Ad1] at h
  exact⟨y,rfl,h.1.1.1,h.1.1.2,h.1.2⟩
 |
  o::r,y::n,i+1,j,h,e=>by
  have h':Uk sc scope N0 r n=true:=by
   cases o with
   | none=>exact h
   |
    some k=>
    unfold Uk at h
    simp only[Adu] at h
    exact h.2
  obtain⟨x,a,b⟩:=To (i:=i) (j:=j) h' (by simpa using e)
  exact⟨x,by simpa using a,b⟩
structure Ar (sc scope:Scope)(N0 N:List Str)(cap:List (Option Nat)):Prop where
 kind:scope.kind=.function
 cell: ∀y∈scope.names,y.2≠ .cell
 names: ∀y∈scope.names,y.2=.local->scope.names.lookup y.1=some .local
 free: ∀y∈scope.names,y.2=.free->sc.names.lookup y.1=some .cell
 nd:N.Nodup
 len:cap.length=N.length
 cap:Uk sc scope N0 cap N=true
def N2 (cap:List (Option Nat))(σ:St):St:=cap.map λo=>match o with
 | none=>none
 | some j=>(σ[j]?).join
theorem Tn {scope:Scope}{env:Env}(hk:env.scope.kind=.function)(hf: ∀y∈scope.names,y.2=.free->env.kindOf y.1=some .cell){x:Str}(h:scope.names.lookup x=some .free):
  (relabel scope env).names.lookup x=some .cell:=by
 have all: ∀(ns:List (Str×NameKind)),(∀y∈ns,y.2=.free->env.kindOf y.1=some .cell)->ns.lookup x=some .free->
   (ns.map λ(n,k)=>if(k== .free&&env.scope.kind== .function&&env.kindOf n==some .cell) then(n,NameKind.cell) else(n,k)).lookup x=some .cell:=by
  intro ns
  induction ns with
  | nil=>intro _ h;simp at h
  |
   cons y r ih=>
   obtain⟨n,k⟩:=y
   intro hf h
   rw[Ad3]
   rw[Afe] at h
   cases q:x==n
   ·
    rw[q] at h
    have:=ih (λy hy=>hf y (Adi _ hy)) h
    show List.lookup x ((if(k== .free&&env.scope.kind== .function&&env.kindOf n==some .cell)=true then(n,NameKind.cell) else(n,k))::_)=_
    split<;>(rw[Afe,q];exact this)
   ·
    rw[q] at h
    cases h
    have e:=hf (n,.free) Ac8 rfl
    show List.lookup x ((if(NameKind.free== .free&&env.scope.kind== .function&&env.kindOf n==some .cell)=true then(n,NameKind.cell) else(n,NameKind.free))::_)=_
    rw[if_pos (by rw[hk,e];rfl),Afe,q]
 exact all scope.names hf h
theorem Tt {scope:Scope}{env:Env}{x:Str}(hc: ∀y∈scope.names,y.2≠ .cell)(h:(relabel scope env).names.lookup x=some .cell∨(relabel scope env).names.lookup x=some .free):(x,NameKind.free)∈scope.names:=by
 have all: ∀(ns:List (Str×NameKind)),(∀y∈ns,y.2≠ .cell)->
   (∀k,(k=NameKind.cell∨k=NameKind.free)->(ns.map λ(n,k)=>if(k== .free&&env.scope.kind== .function&&env.kindOf n==some .cell) then(n,NameKind.cell) else(n,k)).lookup x=some k->(x,NameKind.free)∈ns):=by
  intro ns
  induction ns with
  | nil=>intro _ k _ h;simp at h
  |
   cons y r ih=>
   obtain⟨n,j⟩:=y
   intro hc k hk h
   rw[Ad3] at h
   have hr: ∀y∈r,y.2≠NameKind.cell:=λy hy=>hc y (Adi _ hy)
   change List.lookup x ((if(j== .free&&env.scope.kind== .function&&env.kindOf n==some .cell)=true then(n,NameKind.cell) else(n,j))::_)=some k at h
   split at h
   ·
    rename_i hj
    rw[Adu,Adu] at hj
    have hj':j=.free:=by simpa using hj.1.1
    subst hj'
    rw[Afe] at h
    cases q:x==n
    ·
     rw[q] at h
     exact Adi _ (ih hr k hk h)
    ·
     have e:x=n:=by simpa using q
     subst e
     exact Ac8
   ·
    rw[Afe] at h
    cases q:x==n
    ·
     rw[q] at h
     exact Adi _ (ih hr k hk h)
    ·
     rw[q] at h
     cases h
     have e:x=n:=by simpa using q
     subst e
     rcases hk with z|z
     · exact absurd z (hc (x,j) Ac8)
     · rw[z];exact Ac8
 rcases h with h|h
 · exact all scope.names hc _ (.inl rfl) h
 · exact all scope.names hc _ (.inr rfl) h
section
variable {X:Cx}{pins:List (Addr×Obj)}{σ:St}{H:Hp}{s:Shared}{h₁:Heap}{scope:Scope}{N:List Str}{cap:List (Option Nat)}{fp:List Addr}{t':Nat}
theorem Rb (S:Ar X.env.scope scope X.N N cap)(I:Inv X pins σ H s)(hf: ∀b∈fp,FpOk X pins H b)(hlt: ∀b∈fp,b<s.heap.objs.size)
  (hns:h₁.Ns s.heap.objs.size (λx=>([]:List (Str×Value)).reverse.lookup x)) (keep: ∀b o,s.heap.get? b=some o->h₁.get? b=some o):
  Inv (Ca X N scope s.heap.objs.size s H fp) [] (N2 cap σ) H {s with heap:=h₁,toks:=t'}:=by
 have hkf: ∀y∈scope.names,y.2=.free->X.env.kindOf y.1=some .cell:=S.free
 have hcell: ∀y∈scope.names,y.2=.free-> ∃d,X.env.cells.lookup y.1=some d:=λy hy e=>I.ok.has _ (.inl (hkf y hy e))
 have hcl: ∀x c,(Qr X.env scope.names []).lookup x=some c->X.env.cells.lookup x=some c:=λx c h=>Wi hcell (λy d h=>by simp at h) h
 refine⟨⟨I.ok.mod,S.kind,I.ok.glob,I.ok.blt,Adb _,λx y c h1 h2=>I.ok.inj x y c (hcl x c h1) (hcl y c h2),λx h=>N4 (Tt S.cell h),(λx c h=>nomatch h),I.ok.hd,I.ok.frames,.inl rfl,
  λb hb=>⟨Ad9 (hlt b hb),λx c h=>(hf b hb).2.2.2.2.1 x c (hcl x c h)⟩,I.bs,Ady I.ok.bsz I.sz,λb o e hb=>?_,λb hb h=>?_,I.stack,I.stkFree⟩,
  rfl,I.bare,Un.kept keep,⟨_,hns,λi x v e1 e2 e3=>?_⟩,λx c h=>?_,I.hok.fresh (Adb _),λx c h=>I.freeC x c (hcl x c h),λp hp=>(by simp[Ca] at hp),I.hok.kept keep,?_⟩
 ·
  rcases(hf b hb).2.2.2.1 with z|z
  · exact I.ok.noex b o e z
  · exact absurd (Aei (Adm (I.ok.bs b o e).1) z) (Ae7 _)
 ·
  rcases Ado.mp (I.stkSub b h) with z|z
  · exact(hf b hb).2.1 z
  · exact(hf b hb).2.2.1 z
 ·
  have e2':(N2 cap σ)[i]?=some (some v):=e2
  unfold N2 at e2'
  rw[Adl] at e2'
  cases q:cap[i]? with
  | none=>rw[q] at e2';cases e2'
  |
   some o=>
   cases o with
   | none=>rw[q] at e2';cases e2'
   |
    some j=>
    rw[q] at e2'
    obtain⟨y,n1,n2,n3,n4⟩:=To S.cap q
    have e1':N[i]?=some x:=e1
    rw[n1] at e1'
    cases e1'
    have ej:σ[j]?=some (some v):=by
     have e3:(σ[j]?).join=some v:=Adt e2'
     cases r:σ[j]? with
     | none=>rw[r] at e3;cases e3
     | some o=>rw[r] at e3;rw[show o=some v from e3]
    obtain⟨m,hn,hl⟩:=I.loc
    obtain⟨u,ru,l⟩:=hl j x v n2 ej (.inr (.inl n4))
    refine⟨u,ru,.inr ⟨.inl (Tn I.ok.kind hkf n3),?_⟩⟩
    rcases l with⟨hk,_⟩|⟨_,c,hc,z⟩
    ·
     have n4':X.env.kindOf x=some .cell:=n4
     rw[n4'] at hk;cases hk
    ·
     obtain⟨c',hc'⟩:=N4 (env:=X.env) (acc:=[]) (Hv n3)
     have:=hcl x c' hc'
     rw[hc] at this
     cases this
     exact⟨c,hc',z.keeps keep⟩
 ·
  obtain⟨v,z⟩:=I.cell x c (hcl x c h)
  exact⟨v,z.keeps keep⟩
 ·
  show(N2 cap σ).length=N.length
  unfold N2
  rw[Ac0]
  exact S.len
theorem Xq {pins':List (Addr×Obj)}{σ':St}{H':Hp}{s':Shared}{h':Heap}(I:Inv X pins σ H s)(hf: ∀b∈fp,FpOk X pins H b)(J:Inv (Ca X N scope s.heap.objs.size s H fp) pins' σ' H' s')
  (sb:Heap.SameBut s.heap.objs.size s'.heap h'):Inv X pins σ H' {s' with heap:=h'}:=by
 have I1:Inv X pins σ H' s':=I.call' J.os J.base J.hok J.bare λb hb=>⟨(hf b hb).2.2.2.1,(hf b hb).2.1,(hf b hb).2.2.2.2.1,(hf b hb).2.2.2.2.2⟩
 have hfree:H' s.heap.objs.size=none:=J.free
 refine I1.turned (t':=s'.toks) (it:=s.heap.objs.size) (λb o hb e=>(sb.2 b hb).trans e) hfree (Ahq I.lt) (.inr I.sz) (λx c h z=>?_) λp hp z=>?_
 ·
  obtain⟨v,q⟩:=I.cell x c h
  have:=q.lt
  rw[z] at this
  exact Ae7 _ this
 ·
  have:=Adm (I.pin p hp).1
  rw[z] at this
  exact Ae7 _ this
end
def ze (X:Cx)(ifs:List Expr)(t:TT):Prop:=
 ∀(pins:List (Addr×Obj))(s:Shared)(σ:St)(H:Hp)(Q:Bool->Hp->Prop),Inv X pins σ H s->t σ H Q->
  wpAny (model X.prog X.w) X.A (forIn ifs true λc r=>if r=true then do let ok ←isTrue c X.env (eval c X.env);pure (ForInStep.yield ok) else pure (ForInStep.yield r)) (TP X pins σ Q) X.xe s
def Acd:TT:=λ_ H Q=>Q true H
theorem Cc {X:Cx}:ze X [] Acd:=λpins s σ H Q I h=>wpAny_tests_nil ⟨H,I,h⟩
theorem Fc {X:Cx}{c:Expr}{t:TT}(h:PT X c t):ze X [c] t:=λpins s σ H Q I hq=>wpAny_tests_one (h pins s σ H Q I hq)
section
variable {prog:Program}{w:World}{A:Around}{R:Result->Shared->Prop}{s:Shared}
theorem Nc {elt target iter:Expr}{ifs:List Expr}{scope:Scope}{pos:Pos}{it acc:Value}{env:Env}(I:Nat->Shared->Prop)
  (turn: ∀n s,I n s->wpAny (model prog w) A (pyNext it) (λr s₁=>match r with
   | none=>R (.ok .next) s₁
   | some v=>wpAny (model prog w) A (letOwnedTupleGo target it v) (λ_ s₀=>wpAny (model prog w) A (assign target env v) (λ_ s₂=>
    wpAny (model prog w) A (forIn ifs true λc r=>if r=true then do let ok ←isTrue c env (eval c env);pure (ForInStep.yield ok) else pure (ForInStep.yield r)) (λok s₃=>
     if ok=true then wpAny (model prog w) A (eval elt env) (λx s₄=>
      wpAny (model prog w) A (call (.builtin "list.append") [acc,x]) (λ_ s₅=>∃m,m<n/\I m s₅) (λ_ _=>False) s₄) (λ_ _=>False) s₃
     else ∃m,m<n/\I m s₃) (λ_ _=>False) s₂) (λ_ _=>False) s₀) (λ_ _=>False) s₁) (λ_ _=>False) s)
  (n:Nat) (h:I n s):codeAny (model prog w) A (.compLoop (.ListComp elt [⟨target,iter,ifs,0⟩] scope pos) 0 it acc env) R s:=by
 refine codeAny_loop rfl I (λn s hI=>?_) n h
 show wpAny _ A ((compTurn (.ListComp elt [⟨target,iter,ifs,0⟩] scope pos) 0 it acc env).onRaise (λx=>do noteFrame x env;theTreesLotGoes x)) _ _ s
 refine wpAny_noted ?_
 rw[compTurn_list]
 refine Ac1 (wpAny_standAt (Ac1 (Afa (turn n s hI) (λr s₁ h₁=>?_) λ_ _ h'=>h'.elim)))
 cases r with
 | none=>exact Ac4 h₁
 |
  some v=>
  refine Ac1 (Afa h₁ (λ_ s₀ h₀=>?_) λ_ _ h'=>h'.elim)
  refine Ac1 (Afa h₀ (λ_ s₂ h₂=>Ac1 (Afa h₂ (λok s₃ h₃=>?_) λ_ _ h'=>h'.elim)) λ_ _ h'=>h'.elim)
  cases ok with
  | false=>exact Ac4 ⟨rfl,h₃⟩
  |
   true=>
   exact Ac1 (Ac1 (Afa h₃ (λx s₄ h₄=>Ac1 (Afa h₄ (λ_ s₅ h₅=>Ac4 (Ac4 ⟨rfl,h₅⟩)) λ_ _ h'=>h'.elim)) λ_ _ h'=>h'.elim))
end
def Ls (J:It)(H1:Hp)(cap:List (Option Nat))(g:TG)(tt:TT)(te:TE)(σ:St)(Q:VK):Prop:=∀D,H1 D=none->
 ∃W:Nat->Nat->List V->St->Hp->Prop,(∃m,W 0 m [] (N2 cap σ) (upd H1 D (.lst [])))/\ ∀i m ys σ' H',W i m ys σ' H'->H' D=some (.lst ys)/\
  ((
   J.stop i H'/\Q (.ref D) H')∨(J.go i H'/\ ∀x H2,J.yld i H' x H2->g x σ' H2 λσ2 H3=>tt σ2 H3 λb H4=>
   if b=true then te σ2 H4 λy H5=>H5 D=some (.lst ys)/\ys.length<sizeLine/\ ∃m',m'<m/\W (i+1) m' (ys++[y]) σ2 (upd H5 D (.lst (ys++[y])))
   else ∃m',m'<m/\W (i+1) m' ys σ2 H4))
def xw (wi:TI)(cap:List (Option Nat))(g:TG)(tt:TT)(te:TE):TE:=λσ H Q=>wi σ H λJ H1=>Ls J H1 cap g tt te σ Q
theorem Bt {X:Cx}{elt tgt iter:Expr}{ifs:List Expr}{scope:Scope}{pos:Pos}{N:List Str}{cap:List (Option Nat)}{wi:TI}{g:TG}{tt:TT}{te:TE}
  (S:Ar X.env.scope scope X.N N cap) (hc:X.calm=true) (hi:PI X tgt iter wi)
  (hb: ∀(C:Addr)(s:Shared)(H:Hp)(fp:List Addr),PG (Ca X N scope C s H fp) tgt g/\ze (Ca X N scope C s H fp) ifs tt/\PE (Ca X N scope C s H fp) elt te)
  (hclos:closureFor scope X.env=pure (Qr X.env scope.names []):=by with_unfolding_all rfl) (hs: ∀x,foldedSetIterable iter X.env x=pure x:=by intro _;rfl):
  PE X (.ListComp elt [⟨tgt,iter,ifs,0⟩] scope pos) (xw wi cap g tt te):=by
 intro pins s σ H Q I h
 rw[eval_ListComp]
 refine wpAny_comprehension_free (use:=none) (cl:=Qr X.env scope.names []) rfl hs hclos S.kind S.names ?_
 refine thn (hi pins s σ H _ I h) λv s1 h1=>thn h1 λitv s2 h2=>?_
 obtain⟨it,fp,tn,J,H2,e,I2,T,st2,f2,k⟩:=h2
 subst e
 refine Ae9 (wpAny_newFunctionEnv S.cell (by intro y hy;simp at hy) (λh₁ hns₁ hsb₁=>?_) S.kind)
 dsimp only at hns₁ hsb₁ ⊢
 have I3:Inv X pins σ (upd H2 s2.heap.objs.size (.lst [])) {s2 with heap:=s2.heap.push {cls:=.type "list",dict:=none,data:=.seq ([]:List Value).toArray}}:=I2.lnew (t':=s2.toks) .nil (Adw _)
 obtain⟨W,⟨m0,w0⟩,turn⟩:=k s2.heap.objs.size I2.fresh
 generalize hD:s2.heap.objs.size=D at*
 generalize hsD:({s2 with heap:=s2.heap.push {cls:=.type "list",dict:=none,data:=.seq ([]:List Value).toArray}}:Shared)=sD at*
 have hsz:sD.heap.objs.size=D+1:=by rw[←hsD,←hD];exact Agr ..
 have hheap:s2.heap.push {cls:=.type "list",dict:=none,data:=.seq ([]:List Value).toArray}=sD.heap:=by rw[←hsD]
 rw[hheap] at hns₁ hsb₁ ⊢
 have up: ∀b o,s2.heap.get? b=some o->sD.heap.get? b=some o:=λb o e=>by rw[←hheap];exact Ac5 _ e
 have keep: ∀b o,sD.heap.get? b=some o->h₁.get? b=some o:=λb o e=>hsb₁.extBut b o (Ad9 (Adm e)) (Ac5 _ e)
 have hfD:D∉fp:=λhm=>by
  obtain⟨o,e,_⟩:=T.obj _ _ st2 D hm
  have:=Adm e
  rw[hD] at this
  exact Ae7 _ this
 have f3: ∀b∈fp,FpOk X pins (upd H2 D (.lst [])) b:=λb hb=>⟨by rw[Aq (λz=>hfD (by rw[←z];exact hb))];exact(f2 b hb).1,(f2 b hb).2⟩
 have hlt: ∀b∈fp,b<sD.heap.objs.size:=λb hb=>by
  obtain⟨o,e,_⟩:=T.obj _ _ st2 b hb
  exact Adm (up b o e)
 have I4:=Rb (t':=s2.toks+([]:List (Str×Value)).length) S I3 f3 hlt hns₁ keep
 obtain⟨hg,hif,hel⟩:=hb sD.heap.objs.size sD (upd H2 D (.lst [])) fp
 have st4:tn 0 h₁:=T.keep _ _ _ st2 λb hb o e=>keep b o (up b o e)
 have stat: ∀{H':Hp},(∀b∈fp,H' b=none)-> ∀b∈fp,FpOk (Ca X N scope sD.heap.objs.size sD (upd H2 D (.lst [])) fp) [] H' b:=λhn b hb=>
  ⟨hn b hb,(I4.ok.exf b hb).1,I4.ok.exfs b hb,.inl hb,λx c h z=>(I4.ok.exf b hb).2 x c h z,λp hp=>(by simp[Ca] at hp)⟩
 have loop:codeAny (model X.prog X.w) X.A (.compLoop (.ListComp elt [⟨tgt,iter,ifs,0⟩] scope pos) 0 (.ref it) (.ref D) (compEnvC scope (Qr X.env scope.names []) sD.heap.objs.size X.env))
   (compPost (model X.prog X.w) X.A X.xe none (EP X pins σ Q) (.ref D) sD.heap.objs.size) {sD with heap:=h₁,toks:=s2.toks+([]:List (Str×Value)).length}:=by
  refine Nc (λn s'=>∃i ys σ' H',Inv (Ca X N scope sD.heap.objs.size sD (upd H2 D (.lst [])) fp) [] σ' H' s'/\tn i s'.heap/\(∀b∈fp,H' b=none)/\W i n ys σ' H') ?_ m0
   ⟨0,[],N2 cap σ,_,I4,st4,λb hb=>(f3 b hb).1,w0⟩
  rintro n s5 ⟨i,ys,σ5,H5,I5,st5,fr5,w5⟩
  obtain⟨hD5,way⟩:=turn i n ys σ5 H5 w5
  rcases way with⟨stop,q⟩|⟨go,step⟩
  ·
   refine thn (T.done (Ca X N scope sD.heap.objs.size sD (upd H2 D (.lst [])) fp) rfl rfl rfl hc i [] s5 σ5 H5 (λ_ _=>False) I5 (stat fr5) st5 stop) λr s6 ⟨hr,I6⟩=>?_
   subst hr
   obtain⟨m,hn,_⟩:=I6.loc
   exact⟨m,hn,λh' sb=>⟨.ref D,H5,Xq I3 f3 I6 sb,rfl,q⟩⟩
  ·
   refine thn (T.item (Ca X N scope sD.heap.objs.size sD (upd H2 D (.lst [])) fp) rfl rfl rfl hc i [] s5 σ5 H5 (λ_ _=>False) I5 (stat fr5) st5 go) λr s6 ⟨u,hr,h6⟩=>?_
   subst hr
   refine thn h6 λ_ s7 ⟨x,H7,I7,r7,y7,st7,fr7⟩=>?_
   have I7':=I7.pinned (stat fr7) (T.obj _ _ st7)
   refine thn (hg _ s7 σ5 H7 x u _ I7' r7 (step x H7 y7)) λ_ s8 ⟨σ8,H8,I8,q8⟩=>?_
   refine thn (hif _ s8 σ8 H8 _ I8 q8) λb s9 ⟨H9,I9,q9⟩=>?_
   have back: ∀{σ':St}{H':Hp}{s':Shared},Inv (Ca X N scope sD.heap.objs.size sD (upd H2 D (.lst [])) fp) ([]++Qz fp s7.heap) σ' H' s'->tn (i+1) s'.heap/\ ∀b∈fp,H' b=none:=λ{σ' H' s'}J'=>
    ⟨T.keep _ _ _ st7 λb hb o e=>(J'.pin (b,o) (Adg _ (Adg _ (Ct hb e)))).1,λb hb=>by
     obtain⟨o,e,d⟩:=T.obj _ _ st7 b hb
     exact(J'.pin (b,o) (Adg _ (Adg _ (Ct hb e)))).2.1⟩
   cases b with
   |
    false=>
    obtain⟨m',hm,w9⟩:=(show ∃m',m'<n/\W (i+1) m' ys σ8 H9 from q9)
    exact⟨m',hm,i+1,ys,σ8,H9,I9.unpinned,(back I9).1,(back I9).2,w9⟩
   |
    true=>
    refine thn (hel _ s9 σ8 H9 _ I9 (show te σ8 H9 _ from q9)) λy s10 ⟨v10,H10,I10,r10,q10⟩=>?_
    obtain⟨hD10,hz,m',hm,w10⟩:=q10
    refine thn (Dq (X:=Ca X N scope sD.heap.objs.size sD (upd H2 D (.lst [])) fp) _ s10 σ8 H10 (.ref D) [v10] (.ref D) [y] (λ_ H'=>H'=upd H10 D (.lst (ys++[v10]))) I10 rfl (.cons r10 .nil) ⟨D,ys,v10,rfl,rfl,hD10,hz,rfl⟩) λ_ s11 ⟨v11,H11,I11,_,e11⟩=>?_
    subst e11
    exact⟨m',hm,i+1,ys++[v10],σ8,_,I11.unpinned,(back I11).1,(back I11).2,w10⟩
 subst hsD
 subst hD
 exact codeAny_compStart_list loop (T.self _ 0 _ _ _ st4 loop)
section
variable {X:Cx}{x:Str}{pos:Pos}{tg:Expr}
theorem Xu {i:Int}(hg:Gl X x)(hm: ∃t,X.mg x=some (.int i t))(hd:(x==("__debug__":Str))=false:=by decide):PE X (.Name x pos) (tC (.int i)):=by
 obtain⟨t,e⟩:=hm
 exact fu hg e ⟨t,rfl⟩ hd
theorem Ro {y:Str}(hg:Gl X x)(hm: ∃t,X.mg x=some (.str y t))(hd:(x==("__debug__":Str))=false:=by decide):PE X (.Name x pos) (tC (.str y)):=by
 obtain⟨t,e⟩:=hm
 exact fu hg e ⟨t,rfl⟩ hd
theorem Q5:OpR X (binaryOp .Mult) (λx y H Q=>∃z n,x=.str z/\y=.int n/\MulOk z n/\Q (.str (Txt.mul z n)) H):=by
 intro pins s σ H x y v u Q I rx ry h
 obtain⟨z,n,rfl,rfl,ok,q⟩:=h
 obtain⟨t,rfl⟩:=rx
 obtain⟨t',rfl⟩:=ry
 exact SB.mul ok λt' k=>⟨.str _,H,I.tok _,⟨_,rfl⟩,q⟩
theorem Wx:Gn X (.builtin "isinstance") (λxs H Q=>∃x T t b,xs=[x,.ty T]/\Ed X.K H x t/\W.kitOne X.K t (.type T)=some b/\Q (.bl b) H):=by
 intro pins s σ H xs us Q I r h
 obtain⟨x,T,t,b,rfl,ty,e,q⟩:=h
 obtain⟨u,v,rfl,ru,rv⟩:=r.two
 cases rv
 exact bg I ru ty e λtk=>⟨.bl b,H,I.tok tk,rfl,q⟩
theorem X8: ∀{bs:List Bool}{us:List Value},Vals (bs.map V.bl) us->LSm.BoolsAre us bs
 | [],_,.nil=>.nil
 | b::bs,_,.cons r t=>by cases r;exact .cons b (X8 t)
theorem Yw {prog:Program}{w:World}{A:Around}{E:Value->Shared->Prop}{s:Shared}{l:Addr}{vs:List Value}{bs:List Bool}{Q:Value->Shared->Prop}(hh:A.handled=none)(hl:s.heap.IsList l vs.toArray)(hb:LSm.BoolsAre vs bs)
  (h: ∀h' tk,(∀b o,s.heap.get? b=some o->h'.get? b=some o)->Q (.bool (bs.all id)) {s with heap:=h',toks:=tk}):wpAny (model prog w) A (call (.builtin "all") [.ref l]) Q E s:=by
 have hlt:l<s.heap.objs.size:=by obtain⟨_,e,_⟩:=hl;exact Adm e
 refine call_all_walk (wpAny_pyIter_list hl ?_)
 refine⟨s.heap.objs.size,[s.heap.objs.size,l],[s.heap.objs.size],vs.toArray.size,_,_,λi=>(bs[i]?).getD true,rfl,Walks.list (A:=A.in1) hh _ l (Ad9 hlt) vs.toArray,
  ⟨⟨_,Adv _ rfl,rfl,rfl⟩,hl.push _⟩,λi v s' Q' E' hP hQ=>?_,λh' tk hk=>?_⟩
 ·
  obtain⟨b,e,rfl⟩:=hb.get i v (by simpa using hP)
  simp only[e,Option.getD_some] at hQ
  exact Ae2 hQ
 ·
  have e:((List.range vs.toArray.size).all λi=>(bs[i]?).getD true)=bs.all id:=by
   rw[Adn,hb.length];exact LSm.range_all bs
  rw[e]
  exact h h' tk (LSm.kept_iter hk)
theorem lp (hc:X.calm=true):Gn X (.builtin "all") (λxs H Q=>∃(p:Addr)(bs:List Bool),xs=[.ref p]/\SqL X.K H p (bs.map V.bl)/\Q (.bl (bs.all id)) H):=by
 intro pins s σ H xs us Q I r h
 obtain⟨p,bs,rfl,hq,q⟩:=h
 obtain⟨u,rfl,ru⟩:=r.one
 cases ru
 obtain⟨its,rv,pl,hz⟩:=I.list hq
 exact Yw (I.ok.hd hc) pl.isList (X8 rv) λh' tk hk=>⟨.bl _,H,I.kept hk,rfl,q⟩
def Its (y:Str):It:=⟨λi _=>i<y.cps.size,λi H x H'=>H'=H/\ ∃c,y.cps[i]?=some c/\x=.str ⟨#[c]⟩,λi _=>i=y.cps.size⟩
theorem Um {prog:Program}{w:World}{A:Around}(hh:A.handled=none)(I:Addr)(y:Str)(t:Tok):Walks prog w A I [I] [I] y.cps.size (SignAt y) (λi h=>h.IsStrIter I (strIterType y) y t i):=by
 unfold strIterType
 split
 · exact Walks.strAscii hh I y t
 · exact Walks.strWide hh I y t
theorem j7 {P:Program}{w:World}{K:W.Frag}(y:Str)(t:Tok)(it:Addr):Turn P w K tg (Its y) [it] it (λi h=>h.IsStrIter it (strIterType y) y t i) where
 mem:=by simp
 obj:=λi h st b hb=>by
  have e:b=it:=by simpa using hb
  subst e
  obtain⟨o,e,c,d⟩:=st
  exact⟨o,e,λv z=>by rw[d] at z;cases z⟩
 keep:=λi h h' st k=>by
  obtain⟨o,e,r⟩:=st
  exact⟨o,k it (by simp) o e,r⟩
 item:=by
  intro X hP hw hK hc i pins s σ H E I hf st hg
  subst hP hw hK
  obtain⟨f0,f1,f2,f3,f4,f5⟩:=hf it (by simp)
  have W:=Um (prog:=X.prog) (w:=X.w) (I.ok.hd hc) it y t
  refine W.item i s _ _ hg st λv h' tk hv st' kk=>?_
  obtain⟨c,t',hc',rfl⟩:=hv
  have I1:Inv X pins σ H {s with heap:=h',toks:=tk}:=I.turned (λb o hb e=>kk b o (by simpa using hb) e) f0 f1 f3 f4 f5
  obtain⟨o,e,c1,d⟩:=id st'
  refine⟨_,rfl,ja (s:={s with heap:=h',toks:=tk}) (n:=strIterType y) e c1 d ?_ ⟨.str ⟨#[c]⟩,H,I1,⟨t',rfl⟩,⟨rfl,c,hc',rfl⟩,st',λb hb=>(hf b hb).1⟩⟩
  unfold strIterType
  split<;>decide
 done:=by
  intro X hP hw hK hc i pins s σ H E I hf st hg
  subst hP hw hK
  have hg':i=y.cps.size:=hg
  subst hg'
  obtain⟨f0,f1,f2,f3,f4,f5⟩:=hf it (by simp)
  have W:=Um (prog:=X.prog) (w:=X.w) (I.ok.hd hc) it y t
  exact W.done s _ _ st λh' tk kk=>⟨rfl,I.turned (λb o hb e=>kk b o (by simpa using hb) e) f0 f1 f3 f4 f5⟩
 self:=λA i s Q E st h=>by
  obtain⟨o,e,c,d⟩:=id st
  revert st c
  unfold strIterType
  split
  · intro st c;exact wpAny_pyIter_striter_ascii st h
  · intro st c;exact wpAny_pyIter_striter_wide st h
def Ab9 (tl:TE):TI:=λσ H R=>tl σ H λx H1=>∃y,x=.str y/\R (Its y) H1
theorem x8 {l:Expr}{tl:TE}(hl:PE X l tl):PI X tg l (Ab9 tl):=by
 intro pins s σ H R I h
 refine thn (hl pins s σ H _ I h) λv s1 ⟨x,H1,I1,r1,q1⟩=>?_
 obtain⟨y,e,q⟩:=q1
 subst e
 obtain⟨t,rfl⟩:=r1
 refine wpAny_pyIter_strU ?_
 refine⟨s1.heap.objs.size,[s1.heap.objs.size],_,_,H1,rfl,I1.kept (t':=s1.toks) λb o e=>Ac5 _ e,j7 y t _,⟨_,Adv _ rfl,rfl,rfl⟩,λb hb=>?_,q⟩
 have e:b=s1.heap.objs.size:=by simpa using hb
 subst e
 exact I1.fpOk (Adb _) (I1.hok.fresh (Adb _))
end
section
variable {P:Program}{w:World}{K:W.Frag}{mg:Str->Option Value}{base:Heap}
end
def Seq (J:It)(H:Hp)(xs:List V):Prop:=∀H',Same H H'->(∀(i:Nat)x,xs[i]?=some x->J.go i H'/\ ∀x' H2,J.yld i H' x' H2->x'=x/\H2=H')/\J.stop xs.length H'
theorem qo (y:Str)(H:Hp):Seq (Its y) H (y.cps.toList.map λc=>.str ⟨#[c]⟩):=λH' _=>by
 refine⟨λi x e=>?_,?_⟩
 ·
  rw[Adl] at e
  cases q:y.cps.toList[i]? with
  | none=>rw[q] at e;cases e
  |
   some c=>
   rw[q] at e
   have q':y.cps[i]?=some c:=by simpa using q
   refine⟨(Array.getElem?_eq_some_iff.mp q').1,λx' H2 hy=>?_⟩
   obtain⟨e1,c',e2,e3⟩:=hy
   rw[q'] at e2
   cases e2
   exact⟨e3.trans (Adt e),e1⟩
 ·
  show _=_
  simp
theorem C0 (lo:Int)(n:Nat)(H:Hp):Seq (Itr lo n) H ((List.range n).map λ(i:Nat)=>V.int (lo+(i:Int))):=λH' _=>by
 refine⟨λi x e=>?_,?_⟩
 ·
  have hi:i<n:=by
   have:=(Aed.mp e).1
   simpa using this
  refine⟨hi,λx' H2 hy=>?_⟩
  obtain⟨e1,e2⟩:=hy
  rw[Adl,Ahn hi] at e
  exact⟨e2.trans (Adt e),e1⟩
 ·
  show n<=_
  simp
theorem Bp {K:W.Frag}{H:Hp}{a:Addr}{xs:List V}(h:SqL K H a xs):Seq (Itl K a) H xs:=λH' s=>by
 have h':=s.seq h
 refine⟨λi x e=>⟨⟨xs,x,h',e⟩,λx' H2 hy=>?_⟩,⟨xs,h',Adb _⟩⟩
 obtain⟨e1,e2⟩:=hy
 have:=e2 xs h'
 rw[e] at this
 exact⟨(Adt this).symm,e1⟩
theorem Same.seqT {K:W.Frag}{H H':Hp}{a:Addr}{xs:List V}(e:Same H H')(h:SqT K H a xs):SqT K H' a xs:=by
 rcases h with(h|⟨o,h⟩)|h
 · exact .inl (.inl (e _ _ h))
 · exact .inl (.inr ⟨o,e _ _ h⟩)
 · exact .inr h
theorem Ie {K:W.Frag}{H:Hp}{a:Addr}{xs:List V}(h:SqT K H a xs):Seq (Itt K a) H xs:=λH' s=>by
 have h':=s.seqT h
 refine⟨λi x e=>⟨⟨xs,x,h',e⟩,λx' H2 hy=>?_⟩,⟨xs,h',Adb _⟩⟩
 obtain⟨e1,e2⟩:=hy
 have:=e2 xs h'
 rw[e] at this
 exact⟨(Adt this).symm,e1⟩
theorem Ag {H:Hp}{p:Addr}{o:HO}(h:H p=none):Same H (upd H p o):=λb u e=>by rw[Aq (As e h)];exact e
theorem Lf {J:It}{xs:List V}{g:TG}{tb:TS}{D:Ends}{σ:St}{H0 H:Hp}(hJ:Seq J H0 xs)(Pv:Nat->St->Hp->Prop)(h0:Pv 0 σ H)(hsm: ∀i σ H,i<=xs.length->Pv i σ H->Same H0 H)
  (hs: ∀(i:Nat)x σ H,xs[i]?=some x->Pv i σ H->g x σ H λσ2 H2=>tb {D with nx:=Pv (i+1),ct:=Pv (i+1),bk:=D.nx} σ2 H2) (hd: ∀σ H,Pv xs.length σ H->D.nx σ H):
  ∃W:Nat->Nat->St->Hp->Prop,(∃m,W 0 m σ H)/\ ∀i m σ H,W i m σ H->
   (J.stop i H/\D.nx σ H)∨(J.go i H/\ ∃N:St->Hp->Prop,(∀σ' H',N σ' H'-> ∃m',m'<m/\W (i+1) m' σ' H')/\ ∀x H',J.yld i H x H'->g x σ H' λσ2 H2=>tb {D with nx:=N,ct:=N,bk:=D.nx} σ2 H2):=by
 refine⟨λi m σ H=>m=xs.length-i/\i<=xs.length/\Pv i σ H,⟨xs.length,by simp,Adw _,h0⟩,?_⟩
 rintro i m σ H ⟨rfl,hi,p⟩
 obtain⟨q1,q2⟩:=hJ H (hsm i σ H hi p)
 by_cases hlt:i<xs.length
 ·
  have e:xs[i]?=some xs[i]:=by simp[hlt]
  obtain⟨go,y⟩:=q1 i _ e
  refine .inr ⟨go,Pv (i+1),λσ' H' p'=>⟨xs.length-(i+1),by lia,rfl,hlt,p'⟩,λx H' hy=>?_⟩
  obtain⟨rfl,rfl⟩:=y x H' hy
  exact hs i _ σ _ e p
 ·
  have e:i=xs.length:=by lia
  subst e
  exact .inl ⟨q2,hd σ H p⟩
theorem Bj {J:It}{cap:List (Option Nat)}{tt:TT}{te:TE}{σ:St}{H1:Hp}{Q:VK}{xs:List V}(hJ:Seq J H1 xs)(p:V->Bool)(f:V->V)(hsz:xs.length<=100000)
  (hp: ∀x∈xs,∀H',Same H1 H'-> ∀R:Bool->Hp->Prop,(∀H'',Same H' H''->R (p x) H'')->tt ((N2 cap σ).set 0 (some x)) H' R)
  (he: ∀x∈xs,p x=true-> ∀H',Same H1 H'-> ∀R:VK,(∀H'',Same H' H''->R (f x) H'')->te ((N2 cap σ).set 0 (some x)) H' R)
  (k: ∀D H',Same H1 H'->H1 D=none->H' D=some (.lst ((xs.filter p).map f))->Q (.ref D) H'):
  Ls J H1 cap (Tv 0) tt te σ Q:=by
 intro D hD
 refine⟨λi m ys σ' H'=>m=xs.length-i/\i<=xs.length/\(∀v,σ'.set 0 v=(N2 cap σ).set 0 v)/\H' D=some (.lst ys)/\Same H1 H'/\ys=((xs.take i).filter p).map f,
  ⟨xs.length,by simp,Adw _,λ_=>rfl,Ad,Ag hD,by simp⟩,?_⟩
 rintro i m ys σ' H' ⟨rfl,hi,hσ,hl,sm,hys⟩
 refine⟨hl,?_⟩
 obtain⟨q1,q2⟩:=hJ H' sm
 by_cases hlt:i<xs.length
 ·
  have e:xs[i]?=some xs[i]:=by simp[hlt]
  obtain⟨go,y⟩:=q1 i _ e
  refine .inr ⟨go,λx H2 hy=>?_⟩
  obtain⟨rfl,rfl⟩:=y x H2 hy
  have hm:xs[i]∈xs:=Afh hlt
  have etake:xs.take (i+1)=xs.take i++[xs[i]]:=by rw[Agb,e];rfl
  show tt (σ'.set 0 (some xs[i])) _ _
  rw[hσ]
  refine hp _ hm _ sm _ λH4 s4=>?_
  have hss: ∀v,((N2 cap σ).set 0 (some xs[i])).set 0 v=(N2 cap σ).set 0 v:=λv=>by rw[List.set_set]
  cases hb:p xs[i] with
  |
   false=>
   refine uw ⟨xs.length-(i+1),by lia,rfl,hlt,hss,s4 _ _ hl,sm.trans s4,?_⟩
   rw[etake,Afq,hys]
   simp[hb]
  |
   true=>
   refine x6 ?_
   refine he _ hm hb _ (sm.trans s4) _ λH5 s5=>?_
   have hl5:=s5 _ _ (s4 _ _ hl)
   refine⟨hl5,?_,xs.length-(i+1),by lia,rfl,hlt,hss,Ad,λb o eb=>?_,?_⟩
   ·
    have h1:ys.length<=xs.length:=by
     rw[hys,Ac0]
     exact Ady (Ael _ _) (List.length_take_le' _ _)
    have h2:(100000:Nat)<sizeLine:=by decide
    lia
   ·
    rw[Aq (As eb hD)]
    exact s5 _ _ (s4 _ _ (sm _ _ eb))
   ·
    rw[etake,Afq,hys]
    simp[hb]
 ·
  have e:i=xs.length:=by lia
  subst e
  refine .inl ⟨q2,k D _ sm hD ?_⟩
  rw[hl,hys,Afd]
section
variable {X:Cx}
theorem U7:OpR X (compareOp .In) (λx y H Q=>∃c j,x=.str ⟨#[c]⟩/\y=.str j/\Q (.bl (decide (c∈j.cps.toList))) H):=by
 intro pins s σ H x y v u Q I rx ry h
 obtain⟨c,j,rfl,rfl,q⟩:=h
 refine du pins s σ H _ _ v u Q I rx ry ⟨_,j,rfl,rfl,?_⟩
 rw[StrLaws.found_one]
 exact q
end
theorem df {α:Type}{xs:List α}{i:Int}(h0:0<=i)(h1:i<xs.length):atI xs i=some (xs[i.toNat]'(by lia)):=by
 have:=A8 (xs:=xs) (j:=i.toNat) (v:=xs[i.toNat]'(by lia)) (by simp)
 rw[show((i.toNat:Nat):Int)=i by lia] at this
 exact this
theorem Ny {ts:List Str}{i:Int}(h0:0<=i)(h1:i<ts.length): ∃t,t∈ts/\atI (ts.map V.str) i=some (.str t):=by
 refine⟨ts[i.toNat]'(by lia),Afh _,?_⟩
 rw[df h0 (by simpa using h1)]
 simp
theorem i9 {ts:List Int}{i:Int}(h0:0<=i)(h1:i<ts.length): ∃t,t∈ts/\atI (ts.map V.int) i=some (.int t):=by
 refine⟨ts[i.toNat]'(by lia),Afh _,?_⟩
 rw[df h0 (by simpa using h1)]
 simp
def litOf:Expr->Option V
 | .Constant (.int i) _ _=>some (.int i)
 | .Constant (.str x) _ _=>some (.str x)
 | .Constant (.bool b) _ _=>some (.bl b)
 | .Constant .none _ _=>some .non
 | .UnaryOp .USub (.Constant (.int i) _ _) _=>some (.int (-i))
 | _=>none
def litsOf:List Expr->Option (List V)
 | []=>some []
 |
  e::r=>match litOf e,litsOf r with
  | some v,some vs=>some (v::vs)
  | _,_=>none
theorem x3 {X:Cx}{e:Expr}{v:V}(h:litOf e=some v):PE X e (tC v)/\ ∀es:List Expr,starEach (e::es) X.env=(false,eval e X.env)::starEach es X.env:=by
 unfold litOf at h
 split at h
 · cases h;exact⟨Ab,λ_=>rfl⟩
 · cases h;exact⟨Bo,λ_=>rfl⟩
 · cases h;exact⟨Gm,λ_=>rfl⟩
 · cases h;exact⟨Gu,λ_=>rfl⟩
 ·
  rename_i i j p q
  cases h
  refine⟨λpins s σ H Q I hq=>yc nc Ab pins s σ H Q I ⟨_,rfl,hq⟩,λ_=>rfl⟩
 · cases h
theorem Xp {X:Cx}: ∀{es:List Expr}{vs:List V},litsOf es=some vs->PA X es (λ_ H Q=>Q vs H)
 | [],vs,h=>by cases h;exact Ac
 |
  e::r,vs,h=>by
  unfold litsOf at h
  split at h
  ·
   rename_i v ws h1 h2
   cases h
   have p:=x3 (X:=X) h1
   exact Aa p.1 (Xp h2) (p.2 r)
  · cases h
def litsAre (es:List Expr)(vs:List V):Bool:=decide (litsOf es=some vs)
theorem Ic {X:Cx}{es:List Expr}(vs:List V)(h:litsAre es vs=true):PA X es (λ_ H Q=>Q vs H):=Xp (Adk h)
end L2
namespace L2
end L2
namespace L2
open PySem PySem.Spec PyProof.Rows
section
variable {X:Cx}{pins:List (Addr×Obj)}{σ:St}{H H':Hp}{s:Shared}{h h2 B:Heap}
end
section
variable {cm:Bool}{P:Program}{w:World}{K:W.Frag}{mg:Str->Option Value}{base:Heap}{N:List Str}{qual:Str}{scope:Scope}{f:Addr}{cd:Value}{A:Around}{outer:List Env}{s:Shared}{H:Hp}{E:XK}
end
section
variable {X:Cx}{E:XK}{x:Str}{C:Addr}{np cpos pos:Pos}{e0:Expr}{es:List Expr}{t:TA}
end
section
variable {X:Cx}{CX:CXT}{cm:Bool}{k:Nat}{f:Addr}{fd:FuncData}{ps:List Str}{sp:Sp}{dvs:List V}{ds:List Value}{E:St->XK}{x:Str}{p pos:Pos}{e:Expr}{es:List Expr}{t:TA}
end
section
variable {X:Cx}{pins pins':List (Addr×Obj)}{σ:St}{H H':Hp}{s:Shared}{Eb:Value->Shared->Prop}{h h2 B:Heap}
end
section
variable {X:Cx}
end
section
variable {X:Cx}
end
end L2
namespace L2
open PySem PySem.Spec PySem.Calls PyProof.Rows Builtin Builtin.ObjectAttr Builtin.Getset_descriptor
section
variable {prog:Program}{w:World}{K:W.Frag}{e C:Addr}
end
section
variable {X:Cx}
end
section
variable {X:Cx}{pins pins':List (Addr×Obj)}{σ:St}{H H':Hp}{s:Shared}{h h2 B:Heap}{ea C:Addr}
end
end L2
namespace L2
open PySem PySem.Spec PyProof.Rows
section
variable {X:Cx}{K:W.Frag}(hK:X.K=K)
include hK
theorem Ek:IxR X (Aau K):=by subst hK;exact nv
theorem Yh:IxR X (Aat K):=by subst hK;exact cv
theorem Rz:SlR X (Abh K):=by subst hK;exact pq
theorem F3:OpR X (compareOp .In) (rIn K false):=by subst hK;exact ai
theorem Iq:OpR X (compareOp .NotIn) (rIn K true):=by subst hK;exact T3
theorem An:Gn X (.builtin "len") (λxs H Q=>∃p ys,xs=[.ref p]/\(SqL K H p ys∨SqT K H p ys)/\Q (.int ys.length) H):=by subst hK;exact Tu
theorem Bx:Gn X (.type "tuple") (λxs H Q=>∃p ys,xs=[.ref p]/\((SqL K H p ys/\ ∀l,H l=none->Q (.ref l) (upd H l (.tup ys)))∨(SqT K H p ys/\Q (.ref p) H))):=by subst hK;exact Rp
theorem Bk:Gn X (.builtin "isinstance") (λxs H Q=>∃x T t b,xs=[x,.ty T]/\Ed K H x t/\W.kitOne K t (.type T)=some b/\Q (.bl b) H):=by subst hK;exact Wx
theorem Ge (hc:X.calm=true):Gn X (.builtin "all") (λxs H Q=>∃(p:Addr)(bs:List Bool),xs=[.ref p]/\SqL K H p (bs.map V.bl)/\Q (.bl (bs.all id)) H):=by subst hK;exact lp hc
theorem Bn {tg l:Expr}{tl:TE}(hl:PE X l tl):PI X tg l (x5 K tl):=by subst hK;exact qz hl
theorem Jk {tg l:Expr}{tl:TE}(hl:PE X l tl):PI X tg l (Abk K tl):=by subst hK;exact x9 hl
end
end L2
set_option maxHeartbeats 0
namespace L2
open PySem PySem.W PyProof.Rows
section
variable {O:KeyOrd}{key:Nat->O.α}{n:Nat}{cmp:Nat->Nat->(Bool->Shared->Prop)->Shared->Prop}{s:Shared}
def ka {O:KeyOrd}(key:Nat->O.α)(p:Array Nat)(i:Nat):O.α:=key (p.getD i 0)
def Up {O:KeyOrd}(key:Nat->O.α)(p:Array Nat)(k:Nat):Prop:=∀i j,i<=j->j<k->O.kle (ka key p i) (ka key p j)
def Down {O:KeyOrd}(key:Nat->O.α)(p:Array Nat)(k:Nat):Prop:=∀i j,i<=j->j<k->O.kle (ka key p j) (ka key p i)
def Rg (n:Nat)(p:Array Nat):Prop:=p.Perm (List.toArray (List.range n))
def l3 {O:KeyOrd}(key:Nat->O.α)(n:Nat)(cmp:Nat->Nat->(Bool->Shared->Prop)->Shared->Prop)(s:Shared):Prop:=∀i j C,i<n->j<n->C (O.blt (key i) (key j)) s->cmp i j C s
theorem Rg.size {p:Array Nat}(h:Rg n p):p.size=n:=by rw[Array.Perm.size_eq h];simp
theorem Rg.at {p:Array Nat}(h:Rg n p){i:Nat}(hi:i<n):p.getD i 0<n:=by
 have hz:=h.size
 have e:p.getD i 0=p[i]'(by lia):=by simp[Array.getD,show i<p.size by lia]
 have hm:p[i]'(by lia)∈p.toList:=by simp
 have:=(Agi.mp h).mem_iff.mp hm
 simp at this
 lia
theorem Ml {p q:Array Nat}{i j:Nat}(h:p[i]?=q[j]?):ka key p i=ka key q j:=by
 unfold ka
 rw[Aga,Aga,h]
theorem ij {p:Array Nat}{i j:Nat}(hj:j<=p.size)(k:Nat):ka key (kas_rev p i j) k=if i<=k/\k<j then ka key p (i+j-1-k) else ka key p k:=by
 have e:=getElem?_mirror_all (xs:=p) (i:=i) hj k
 by_cases h:i<=k/\k<j
 · rw[if_pos h] at e ⊢;exact Ml e
 · rw[if_neg h] at e ⊢;exact Ml e
theorem Pt {p:Array Nat}{i j:Nat}(hj:j<=p.size)(heq: ∀k,i<=k->k<j->ka key p k=ka key p (j-1))(k:Nat):ka key (kas_rev p i j) k=ka key p k:=by
 rw[ij hj]
 split
 · rw[heq _ (by lia) (by lia),heq k (by lia) (by lia)]
 · rfl
theorem Rg.rev {p:Array Nat}(h:Rg n p)(i j:Nat):Rg n (kas_rev p i j):=(mirror_perm p i j _).trans h
theorem Rg.bub {p:Array Nat}(h:Rg n p)(k d:Nat):Rg n (bubble p k d):=(bubble_perm p k d).trans h
theorem Up.more {p:Array Nat}{k:Nat}(h:Up key p k)(hk:O.blt (ka key p k) (ka key p (k-1))=false):Up key p (k+1):=by
 intro i j hij hj
 by_cases hjk:j<k
 · exact h i j hij hjk
 ·
  obtain rfl:j=k:=by lia
  by_cases hi:i=j
  · rw[hi];exact Aeg _
  · exact Ad0 (h i (j-1) (by lia) (by lia)) hk
theorem Down.more {p q:Array Nat}{k:Nat}(h:Down key p k)(e: ∀i,ka key q i=ka key p i)(hk:O.kle (ka key p k) (ka key p (k-1))):Down key q (k+1):=by
 intro i j hij hj
 rw[e,e]
 by_cases hjk:j<k
 · exact h i j hij hjk
 ·
  obtain rfl:j=k:=by lia
  by_cases hi:i=j
  · rw[hi];exact Aeg _
  · exact Ad0 hk (h i (j-1) (by lia) (by lia))
theorem dh {p:Array Nat}(hc:l3 key n cmp s)(hp:Rg n p){Q:Nat->Shared->Prop}: ∀(f a:Nat),1<=a->a+f<=n->Up key p a->
  (∀m,a<=m->m<=a+f->Up key p m->(m=a+f∨O.klt (ka key p m) (ka key p (m-1)))->Q m s)->(kas_asc p f a).kasWp cmp Q s
 | 0,a,_,_,hu,h=>h a (Adb _) (Adb _) hu (.inl rfl)
 |
  f+1,a,h1,hz,hu,h=>by
  refine hc _ _ _ (hp.at (by lia)) (hp.at (by lia)) ?_
  show(if O.blt (ka key p a) (ka key p (a-1))=true then KasT.ret a else kas_asc p f (a+1)).kasWp cmp Q s
  cases e:O.blt (ka key p a) (ka key p (a-1)) with
  | true=>exact h a (Adb _) (by lia) hu (.inr e)
  | false=>exact dh hc hp f (a+1) (by lia) (by lia) (hu.more e) λm m1 m2 m3 m4=>h m (by lia) (by lia) m3 (m4.imp_left λz=>by lia)
def Eqs {O:KeyOrd}(key:Nat->O.α)(p:Array Nat)(m q:Nat):Prop:=q+1<=m/\ ∀i,m-(q+1)<=i->i<m->ka key p i=ka key p (m-1)
theorem Eqs.zero {p:Array Nat}{m:Nat}(h:1<=m):Eqs key p m 0:=⟨by lia,λi h1 h2=>by rw[show i=m-1 by lia]⟩
theorem Su (hc:l3 key n cmp s){Q:Array Nat×Nat×Nat->Shared->Prop}: ∀(f:Nat)(p:Array Nat)(a q:Nat),Rg n p->1<=a->a+f<=n->Down key p a->Eqs key p a q->
  (∀p' m q',Rg n p'->a<=m->m<=a+f->Down key p' m->Eqs key p' m q'->Q (p',m,q') s)->(kas_desc f p a q).kasWp cmp Q s
 | 0,p,a,q,hp,_,_,hd,he,h=>h p a q hp (Adb _) (Adb _) hd he
 |
  f+1,p,a,q,hp,h1,hz,hd,he,h=>by
  refine hc _ _ _ (hp.at (by lia)) (hp.at (by lia)) ?_
  show(if O.blt (ka key p a) (ka key p (a-1))=true then(if q>0 then kas_desc f (kas_rev p (a-(q+1)) a) (a+1) 0 else kas_desc f p (a+1) 0)
   else KasT.ask (p.getD (a-1) 0) (p.getD a 0) λd=>if d=true then KasT.ret (p,a,q) else kas_desc f p (a+1) (q+1)).kasWp cmp Q s
  have hs:=hp.size
  cases e:O.blt (ka key p a) (ka key p (a-1)) with
  |
   true=>
   rw[if_pos rfl]
   by_cases hq:q>0
   ·
    rw[if_pos hq]
    exact Su hc f _ (a+1) 0 (hp.rev _ _) (by lia) (by lia) (hd.more (Pt (by lia) he.2) (Ad5 e)) (.zero (by lia)) λp' m q' r1 r2 r3 r4 r5=>h p' m q' r1 (by lia) (by lia) r4 r5
   ·
    rw[if_neg hq]
    exact Su hc f _ (a+1) 0 hp (by lia) (by lia) (hd.more (λ_=>rfl) (Ad5 e)) (.zero (by lia)) λp' m q' r1 r2 r3 r4 r5=>h p' m q' r1 (by lia) (by lia) r4 r5
  |
   false=>
   rw[if_neg (by simp)]
   refine hc _ _ _ (hp.at (by lia)) (hp.at (by lia)) ?_
   show(if O.blt (ka key p (a-1)) (ka key p a)=true then KasT.ret (p,a,q) else kas_desc f p (a+1) (q+1)).kasWp cmp Q s
   cases e2:O.blt (ka key p (a-1)) (ka key p a) with
   | true=>exact h p a q hp (Adb _) (by lia) hd he
   |
    false=>
    rw[if_neg (by simp)]
    have eq:ka key p a=ka key p (a-1):=Ail e2 e
    refine Su hc f _ (a+1) (q+1) hp (by lia) (by lia) (hd.more (λ_=>rfl) (by rw[eq];exact Aeg _)) ⟨by have:=he.1;lia,λi i1 i2=>?_⟩ λp' m q' r1 r2 r3 r4 r5=>h p' m q' r1 (by lia) (by lia) r4 r5
    rw[show a+1-1=a by lia]
    by_cases hi:i=a
    · rw[hi]
    · rw[eq];exact he.2 i (by lia) (by lia)
theorem dg (hc:l3 key n cmp s){Q:Nat×Array Nat->Shared->Prop}{p:Array Nat}{a:Nat}(hp:Rg n p)(h1:1<=a)(hz:a<=n)(hd:Down key p a)
  (h: ∀m p',Rg n p'->1<=m->m<=n->Up key p' m->Q (m,p') s):(kas_tail3 a n p).kasWp cmp Q s:=by
 unfold kas_tail3
 rw[KasT.kasWp_bind]
 have hs:=hp.size
 refine dh hc (hp.rev 0 a) (n-a) a h1 (by lia) (λi j hij hj=>?_) λm m1 m2 m3 _=>h m _ (hp.rev 0 a) (by lia) (by lia) m3
 rw[ij (by lia),ij (by lia),if_pos (by lia),if_pos (by lia)]
 exact hd _ _ (by lia) (by lia)
theorem Og (hc:l3 key n cmp s){Q:Nat×Array Nat->Shared->Prop}{p:Array Nat}{a:Nat}(hp:Rg n p)(hz:a+1<=n)(hd:Down key p (a+1))
  (h: ∀m p',Rg n p'->1<=m->m<=n->Up key p' m->Q (m,p') s):(kas_descPart a n p).kasWp cmp Q s:=by
 unfold kas_descPart
 rw[KasT.kasWp_bind]
 refine Su hc _ p (a+1) 0 hp (by lia) (by lia) hd (.zero (by lia)) λp' m q r1 r2 r3 r4 r5=>?_
 have hs:=r1.size
 show(if q>0 then kas_tail3 m n (kas_rev p' (m-(q+1)) m) else kas_tail3 m n p').kasWp cmp Q s
 by_cases hq:q>0
 ·
  rw[if_pos hq]
  refine dg hc (r1.rev _ _) (by lia) (by lia) (λi j hij hj=>?_) h
  rw[Pt (by lia) r5.2,Pt (by lia) r5.2]
  exact r4 i j hij hj
 ·
  rw[if_neg hq]
  exact dg hc r1 (by lia) (by lia) r4 h
theorem kr (hc:l3 key n cmp s){Q:Nat×Array Nat->Shared->Prop}{p:Array Nat}(hp:Rg n p)(h1:1<=n)(h: ∀m p',Rg n p'->1<=m->m<=n->Up key p' m->Q (m,p') s):(kas_count n p).kasWp cmp Q s:=by
 unfold kas_count
 rw[KasT.kasWp_bind]
 have hs:=hp.size
 refine dh hc hp (n-1) 1 (Adb _) (by lia) (λi j hij hj=>by rw[show i=j by lia];exact Aeg _) λm m1 m2 m3 m4=>?_
 by_cases hmn:m=n
 ·
  rw[if_pos (by simpa using hmn)]
  exact h m p hp (by lia) (by lia) m3
 ·
  rw[if_neg (by simpa using hmn)]
  have hlt:O.klt (ka key p m) (ka key p (m-1)):=m4.resolve_left (by lia)
  by_cases hg:m>1
  ·
   rw[if_pos hg]
   refine hc _ _ _ (hp.at (by lia)) (hp.at (by lia)) ?_
   show(if O.blt (ka key p 0) (ka key p (m-1))=true then KasT.ret (m,p) else kas_descPart m n (kas_rev p 0 m)).kasWp cmp Q s
   cases e:O.blt (ka key p 0) (ka key p (m-1)) with
   | true=>exact h m p hp (by lia) (by lia) m3
   |
    false=>
    rw[if_neg (by simp)]
    have hall: ∀k,0<=k->k<m->ka key p k=ka key p (m-1):=λk _ hk=>Ail (m3 k (m-1) (by lia) (by lia)) (Ad0 e (m3 0 k (by lia) hk))
    refine Og hc (hp.rev _ _) (by lia) (λi j hij hj=>?_) h
    rw[Pt (by lia) hall,Pt (by lia) hall]
    by_cases hjm:j<m
    · rw[hall i (by lia) (by lia),hall j (by lia) hjm];exact Aeg _
    ·
     obtain rfl:j=m:=by lia
     by_cases hi:i=j
     · rw[hi];exact Aeg _
     · rw[hall i (by lia) (by lia)];exact Ad5 hlt
  ·
   rw[if_neg hg]
   obtain rfl:m=1:=by lia
   refine Og hc hp (by lia) (λi j hij hj=>?_) h
   by_cases hi:i=j
   · rw[hi];exact Aeg _
   ·
    obtain rfl:i=0:=by lia
    obtain rfl:j=1:=by lia
    exact Ad5 hlt
theorem Rk {p:Array Nat}{k:Nat}(hc:l3 key n cmp s)(hp:Rg n p)(hk:k<n)(hu:Up key p k){Q:Nat->Shared->Prop}
  (h: ∀l,l<=k->(∀i,i<l->O.kle (ka key p i) (ka key p k))->(∀i,l<=i->i<k->O.klt (ka key p k) (ka key p i))->Q l s): ∀(f l r:Nat),l<=r->r<=k->r-l<=f->
  (∀i,i<l->O.kle (ka key p i) (ka key p k))->(∀i,r<=i->i<k->O.klt (ka key p k) (ka key p i))->(kas_place p k f l r).kasWp cmp Q s
 | 0,l,r,hlr,hrk,hf,lo,hi=>h l (by lia) lo (by rw[show l=r by lia];exact hi)
 |
  f+1,l,r,hlr,hrk,hf,lo,hi=>by
  unfold kas_place
  by_cases hg:l≥r
  ·
   rw[if_pos hg]
   exact h l (by lia) lo (by rw[show l=r by lia];exact hi)
  ·
   rw[if_neg hg]
   refine hc _ _ _ (hp.at hk) (hp.at (by lia)) ?_
   show(if O.blt (ka key p k) (ka key p ((l+r)/2))=true then kas_place p k f l ((l+r)/2) else kas_place p k f ((l+r)/2+1) r).kasWp cmp Q s
   cases e:O.blt (ka key p k) (ka key p ((l+r)/2)) with
   |
    true=>
    rw[if_pos rfl]
    exact Rk hc hp hk hu h f l _ (by lia) (by lia) (by lia) lo λi i1 i2=>KeyOrd.klt_of_klt_of_kle e (hu _ _ i1 i2)
   |
    false=>
    rw[if_neg (by simp)]
    exact Rk hc hp hk hu h f _ r (by lia) (by lia) (by lia) (λi i1=>Ad0 (hu i ((l+r)/2) (by lia) (by lia)) e) hi
theorem m7 {p:Array Nat}{k d:Nat}(hk:k<p.size)(hd:d<=k)(i:Nat):ka key (bubble p k d) i=if i=k-d then ka key p k else if k-d<i/\i<=k then ka key p (i-1) else ka key p i:=by
 have e:=getElem?_bubble (xs:=p) hk d hd i
 by_cases h1:i=k-d
 · rw[if_pos h1] at e ⊢;exact Ml e
 ·
  rw[if_neg h1] at e ⊢
  by_cases h2:k-d<i/\i<=k
  · rw[if_pos h2] at e ⊢;exact Ml e
  · rw[if_neg h2] at e ⊢;exact Ml e
theorem nh (hc:l3 key n cmp s){Q:Array Nat->Shared->Prop}(h: ∀p',Rg n p'->Up key p' n->Q p' s): ∀(f:Nat)(p:Array Nat)(k:Nat),Rg n p->k+f=n->Up key p k->(kas_bin f p k).kasWp cmp Q s
 | 0,p,k,hp,hk,hu=>h p hp (by rw[←hk];exact hu)
 |
  f+1,p,k,hp,hk,hu=>by
  unfold kas_bin
  rw[KasT.kasWp_bind]
  have hs:=hp.size
  refine Rk hc hp (by lia) hu (λl hl lo hi=>?_) k 0 k (Adw _) (Adb _) (by lia) (λi hi=>absurd hi (Aid _)) (λi h1 h2=>by lia)
  refine nh hc h f _ (k+1) (hp.bub _ _) (by lia) λi j hij hj=>?_
  rw[m7 (by lia) (by lia),m7 (by lia) (by lia),show k-(k-l)=l by lia]
  repeat' split
  all_goals first
   | (exfalso;lia)
   | exact Aeg _
   | exact lo _ (by lia)
   | exact Ad5 (hi _ (by lia) (by lia))
   | exact hu _ _ (by lia) (by lia)
theorem qr (hc:l3 key n cmp s)(h1:1<=n){Q:Array Nat->Shared->Prop}(h: ∀p,Rg n p->Up key p n->Q p s):(kas_sort n).kasWp cmp Q s:=by
 unfold kas_sort
 rw[KasT.kasWp_bind]
 refine kr hc (Array.Perm.refl _) h1 λm p hp h1 h2 hu=>?_
 show(if m<n then kas_bin (n-max m 1) p (max m 1) else KasT.ret p).kasWp cmp Q s
 rw[show max m 1=m by lia]
 by_cases hm:m<n
 ·
  rw[if_pos hm]
  exact nh hc h _ p m hp (by lia) hu
 ·
  rw[if_neg hm]
  exact h p hp (by rw[show n=m by lia];exact hu)
end
abbrev RA:=Addr×(Int×Int)
section
variable {prog:Program}{w:World}{A:Around}{E:Value->Shared->Prop}{s:Shared}{rs:List RA}
end
end L2
namespace L2
open PySem PySem.Spec PyProof.Rows PySem.SeqAt
def sps (rs:List RA):List (Int×Int):=rs.map (·.2)
theorem hu2 {cm:Bool}{k:Nat}{A:Around}(hr:Room cm k A):A.units+2<cLine:=Afn (Aiq (by decide:2<=64) _) hr.units
section
variable {X:Cx}
end
section
variable {X:Cx}
end
end L2
namespace L2
open PySem PySem.Spec PySem.Calls PyProof.Rows Builtin Builtin.Str
section
variable {X:Cx}
end
end L2
namespace L2
open PySem PySem.Spec PySem.Calls PyProof.Rows
section
variable {X:Cx}{m:Str}{apos pos:Pos}{o e:Expr}{es:List Expr}{ta:TE}{t:TA}
structure Ans (X:Cx)(m:Str)(n:Nat)(C:Addr)(R:V->List V->Hp->VK->Prop):Prop where
 cls:Cls X.K C
 run: ∃(f:Addr)(fd:FuncData)(ps:List Str)(ds:List Value)(dvs:List V)(CX:CXT)(cm:Bool)(k:Nat)(sp:Sp)(E:XK),Meth X.K C m f/\FnOk X.prog X.w X.K X.mg X.base CX cm k f fd ps sp/\Room cm k X.A/\Binds X.K fd ps ds/\Vals dvs ds/\Passes CX X E/\
  ∀x vs H Q,vs.length=n->R x vs H Q->sp (x::(vs++dvs)) H Q E
def xa (m:Str)(n:Nat)(D:Addr->(V->List V->Hp->VK->Prop)->Prop)(ta:TE)(t:TA):TE:=λσ H Q=>ta σ H λx H1=>∃a C dx fs R,x=.ref a/\H1 a=some (.ins C dx fs)/\fs.lookup m=none/\D C R/\
 t σ H1 λvs H2=>vs.length=n/\R x vs H2 Q
theorem kj {pl:Sem Bool}{n:Nat}{D:Addr->(V->List V->Hp->VK->Prop)->Prop}(he:PE X o ta)(hD: ∀C R,D C R->Ans X m n C R)(ha:PA X (e::es) t)
  (hst:starEach (e::es) X.env=(false,eval e X.env)::starEach es X.env:=by rfl) (hpl:(backTo pos (starEach es X.env)).any (·.1)=false:=by rfl)
  (ht:eval (.Call (.Attribute o m apos) (e::es) [] pos) X.env=(do
   let ov ←eval o X.env
   standAt apos.atName
   let (f,first) ←holding [ov] (getMethod ov m pl)
   callWith pos f first (backTo pos (starEach (e::es) X.env)) (backToKw pos (keywordEach [] X.env))):=by rfl):
  PE X (.Call (.Attribute o m apos) (e::es) [] pos) (xa m n D ta t):=by
 intro pins s σ H Q I h
 refine W.methodCall_KW (pl:=pl) (thn (he pins s σ H _ I h) λu s1 ⟨x,H1,I1,rx,a,C,dx,fs,R,ex,ea,l,d,q⟩=>?_) ht
 subst ex
 obtain rfl:u=Value.ref a:=rx
 obtain⟨c,f,fd,ps,ds,dvs,CX,cm,k,sp,E,hm,F,hr,hb,hd,hx,hR⟩:=hD C R d
 refine Q3 I1 ea c hm l ?_
 refine W.callWith_K (first:=[.ref a]) (h₀:=X.base) I.ok.mod.kin hm.kp (thn (ha pos pins s1 σ H1 _ I1 q) λus s2 ⟨vs,H2,I2,r,hn,q2⟩=>⟨I2.kIn,?_⟩) hst hpl
 exact fm (us:=.ref a::us) (vs:=.ref a::vs) F hr hb hd hx I2 (.cons rfl r) (hR _ _ _ _ hn q2)
end
section
variable {X:Cx}{K:W.Frag}{o e value:Expr}{f:Str}{pos pos':Pos}{ta tv:TE}(hK:X.K=K)
include hK
theorem r8 (he:PE X e ta)(hb:attributeBase e f X.env (eval e X.env)=eval e X.env:=by rfl):PE X (.Attribute e f pos) (Abl K ta f):=by subst hK;exact vb he hb
theorem Wq (ha:PE X o ta)(hv:PE X value tv)(hs:swapsWith value (some (.Attribute o f pos')) pos.line X.env=pure false:=by rfl):PS X (.Assign [.Attribute o f pos'] value pos) (Abj K ta tv f):=by subst hK;exact yr ha hv hs
end
section
variable {X:Cx}{CX:CXT}{cm:Bool}{k:Nat}{f C:Addr}{fd:FuncData}{ps:List Str}{sp:Sp}{dvs:List V}{ds:List Value}{E:XK}{x m:Str}{p pos apos:Pos}{e:Expr}{es:List Expr}{t:TA}
end
end L2
namespace L2
open PySem PySem.Spec PyProof.Rows
theorem o3 {X:Cx}{K:W.Frag}{es:List Expr}{k:Nat}{t:TGs}{n:Nat}{pos:Pos}(hK:X.K=K)(hc:X.calm=true)(h:PGs X es t)
 (hn:(assignEach es X.env).length=n:=by rfl) (hst:(assignEach es X.env).findIdx? (·.1)=none:=by rfl):PG X (.Tuple es k pos) (zq K n t):=by subst hK;exact yg hc h hn hst
end L2
namespace L2
open PySem PySem.Spec PyProof.Rows PySem.SeqAt
section
variable {X:Cx}
end
section
variable {X:Cx}
end
end L2
namespace L2
open PySem PySem.Spec PyProof.Rows
section
variable {X:Cx}
end
def Ab3 (t u:TS):TS:=λD σ H=>∃P:St->Hp->Prop,t {D with nx:=P} σ H/\ ∀σ' H',P σ' H'->u D σ' H'
section
variable {X:Cx}{st:Stmt}{rest:List Stmt}{t u:TS}
theorem Fj (h1:PS X st t)(h2:PSs X rest u):PSs X (st::rest) (Ab3 t u):=by
 intro pins s σ H D I h
 obtain⟨P,ha,hb⟩:=h
 refine wpAny_execs_cons (thn (h1 pins s σ H {D with nx:=P} I ha) λf s1 q=>?_)
 cases f with
 |
  next=>
  obtain⟨σ',H',I',q⟩:=q
  exact h2 pins s1 σ' H' D I' (hb σ' H' q)
 | ret v=>exact q
 | brk=>exact q
 | cont=>exact q
end
end L2
namespace L2
section
variable {α:Type}{R:α->α->Prop}
structure MI (R:α->α->Prop)(all out A B:List α):Prop where
 perm:(out++(A++B)).Perm all
 so:out.Pairwise R
 la: ∀x∈out,∀y∈A,R x y
 lb: ∀x∈out,∀y∈B,R x y
 sa:A.Pairwise R
 sb:B.Pairwise R
theorem MI.lefts {all out X A B:List α}(h:MI R all out (X++A) B)(hx: ∀x∈X,∀y∈B,R x y):MI R all (out++X) A B:=by
 obtain⟨p,so,la,lb,sa,sb⟩:=h
 rw[Aer] at sa
 refine⟨?_,?_,?_,?_,sa.2.1,sb⟩
 · simpa[Age] using p
 ·
  rw[Aer]
  exact⟨so,sa.1,λx hx y hy=>la x hx y (Ae4 _ hy)⟩
 ·
  intro x hm y hy
  rcases Adq.mp hm with hm|hm
  · exact la x hm y (Adg _ hy)
  · exact sa.2.2 x hm y hy
 ·
  intro x hm y hy
  rcases Adq.mp hm with hm|hm
  · exact lb x hm y hy
  · exact hx x hm y hy
theorem MI.flip {all out A B:List α}(h:MI R all out A B):MI R all out B A:=
 ⟨(List.Perm.append_left _ List.perm_append_comm).trans h.perm,h.so,h.lb,h.la,h.sb,h.sa⟩
theorem MI.rights {all out X A B:List α}(h:MI R all out A (X++B))(hx: ∀x∈X,∀y∈A,R x y):MI R all (out++X) A B:=(h.flip.lefts hx).flip
theorem MI.left {x:α}{all out A B:List α}(h:MI R all out (x::A) B)(hx: ∀y∈B,R x y):MI R all (out++[x]) A B:=
 MI.lefts (X:=[x]) h λz hz y hy=>by rw[Ac9.mp hz];exact hx y hy
theorem MI.right {x:α}{all out A B:List α}(h:MI R all out A (x::B))(hx: ∀y∈A,R x y):MI R all (out++[x]) A B:=(h.flip.left hx).flip
def MD (R:α->α->Prop)(all l:List α):Prop:=l.Perm all/\l.Pairwise R
theorem MI.doneA {all out A:List α}(h:MI R all out A []):MD R all (out++A):=by
 refine⟨by simpa using h.perm,?_⟩
 rw[Aer]
 exact⟨h.so,h.sa,h.la⟩
theorem MI.doneB {all out B:List α}(h:MI R all out [] B):MD R all (out++B):=h.flip.doneA
theorem MI.last {all out A B:List α}(h:MI R all out A B)(hx: ∀y∈B,∀x∈A,R y x):MD R all (out++(B++A)):=by
 have h':MI R all out A (B++[]):=by rw[Aet];exact h
 have:=(h'.rights hx).doneA
 rw[Age] at this
 exact this
end
section
variable {α:Type}{R:α->α->Prop}
def RunsL (R:α->α->Prop):List (Nat×Nat×Nat)->Nat->List α->Prop
 | [],_,l=>l=[]
 | (a,n,_)::r,x,l=>a=x/\1<=n/\ ∃S l',l=S++l'/\S.length=n/\S.Pairwise R/\RunsL R r (x+n) l'
theorem RunsL.append: ∀{p q:List (Nat×Nat×Nat)}{x:Nat}{l m:List α},RunsL R p x l->RunsL R q (x+l.length) m->RunsL R (p++q) x (l++m)
 |
  [],q,x,l,m,h1,h2=>by
  cases (h1:l=[])
  exact h2
 |
  (a,n,w)::p,q,x,l,m,h1,h2=>by
  obtain⟨e,hn,S,l',rfl,hS,hp,h1⟩:=h1
  refine⟨e,hn,S,l'++m,by rw[Age],hS,hp,RunsL.append h1 ?_⟩
  rw[Ade,hS] at h2
  rw[Ags];exact h2
theorem RunsL.split: ∀{p q:List (Nat×Nat×Nat)}{x:Nat}{l:List α},RunsL R (p++q) x l-> ∃l1 l2,l=l1++l2/\RunsL R p x l1/\RunsL R q (x+l1.length) l2
 | [],q,x,l,h=>⟨[],l,rfl,rfl,h⟩
 |
  (a,n,w)::p,q,x,l,h=>by
  obtain⟨e,hn,S,l',rfl,hS,hp,h⟩:=h
  obtain⟨l1,l2,rfl,h1,h2⟩:=RunsL.split h
  refine⟨S++l1,l2,by rw[Age],⟨e,hn,S,l1,rfl,hS,hp,h1⟩,?_⟩
  rw[Ade,hS,←Ags];exact h2
theorem RunsL.len: ∀{p:List (Nat×Nat×Nat)}{x:Nat}{l:List α},RunsL R p x l->p.length<=l.length
 | [],_,_,_=>Adw _
 |
  (a,n,w)::p,x,l,h=>by
  obtain⟨e,hn,S,l',rfl,hS,hp,h⟩:=h
  have:=RunsL.len h
  rw[Ade,Ad2];lia
theorem RunsL.two {p q:List (Nat×Nat×Nat)}{u v:Nat×Nat×Nat}{l:List α}(h:RunsL R (p++u::v::q) 0 l):
  ∃l1 X Y l2,l=l1++(X++(Y++l2))/\u.1=l1.length/\u.2.1=X.length/\v.1=l1.length+X.length/\v.2.1=Y.length/\1<=X.length/\1<=Y.length/\X.Pairwise R/\Y.Pairwise R/\
   ∀M w,M.Pairwise R->M.length=X.length+Y.length->RunsL R (p++(u.1,u.2.1+v.2.1,w)::q) 0 (l1++(M++l2)):=by
 obtain⟨l1,l2,rfl,h1,h2⟩:=h.split
 obtain⟨a,n,w⟩:=u
 obtain⟨b,m,w2⟩:=v
 obtain⟨e,hn,X,l',rfl,hX,hpX,e2,hm,Y,l2,rfl,hY,hpY,h3⟩:=h2
 refine⟨l1,X,Y,l2,rfl,by rw[e];exact Nat.zero_add _,hX.symm,by rw[e2,hX,Nat.zero_add],hY.symm,by lia,by lia,hpX,hpY,λM w' hM hl=>h1.append ⟨e,by show 1<=n+m;lia,M,l2,rfl,by show M.length=n+m;lia,hM,?_⟩⟩
 show RunsL R q (0+l1.length+(n+m)) l2
 rw[←Ags];exact h3
theorem RunsL.repower {p:List (Nat×Nat×Nat)}{a n w w':Nat}{x:Nat}{l:List α}(h:RunsL R (p++[(a,n,w)]) x l):RunsL R (p++[(a,n,w')]) x l:=by
 obtain⟨l1,l2,rfl,h1,h2⟩:=h.split
 exact h1.append h2
end
theorem Us {α:Type}(sa:Nat): ∀(l:List α)(k:Nat)(p m q:List α),p.length=sa+k->m.length=l.length->
  ((l.zipIdx k).foldl (λa(x:α×Nat)=>a.setIfInBounds (sa+x.2) x.1) (p++(m++q)).toArray).toList=p++(l++q)
 |
  [],k,p,m,q,hp,hm=>by
  cases m with
  | nil=>rfl
  | cons _ _=>simp at hm
 | x::l,k,p,[],q,hp,hm=>by simp at hm
 |
  x::l,k,p,y::m,q,hp,hm=>by
  rw[List.zipIdx_cons,List.foldl_cons]
  have e:(p++(y::m++q)).toArray.setIfInBounds (sa+k) x=((p++[x])++(m++q)).toArray:=by
   apply Af3.mp
   rw[Array.toList_setIfInBounds,Af0,Af0,←hp,List.set_append_right _ _ (Adb _),Nat.sub_self]
   simp
  show((l.zipIdx (k+1)).foldl _ ((p++(y::m++q)).toArray.setIfInBounds (sa+k) x)).toList=_
  rw[e,Us sa l (k+1) (p++[x]) m q (by rw[Ade,hp];rfl) (by simpa using hm)]
  simp
theorem Mn {α:Type}(l:List α){i j:Nat}(h:i<=j):l.drop i=(l.drop i).take (j-i)++l.drop j:=by
 have e:=(Ahc (j-i) (l.drop i)).symm
 rw[List.drop_drop,show i+(j-i)=j by lia] at e
 exact e
end L2
namespace L2
open PySem PyProof.Rows
def gal:Bool->Keyed->Array Keyed->Nat->Nat->Nat->StateT SortSt Sem (Option Nat):=sortPriv%PySem.Builtin.gallop
def mLo:Array Keyed->Array Keyed->StateT SortSt Sem (Array Keyed):=sortPriv%PySem.Builtin.mergeLo
def mHi:Array Keyed->Array Keyed->StateT SortSt Sem (Array Keyed):=sortPriv%PySem.Builtin.mergeHi
def Wb:Nat->StateT SortSt Sem Unit:=sortPriv%PySem.Builtin.setMinGallop
def Aa0 (past:Nat->StateT SortSt Sem (Option Bool))(n h:Nat):StateT SortSt Sem (Option Nat):=do
 let mut u:=0
 let mut v:=1
 let mut lo:=0
 let mut hi:=0
 let some r ←past h|return none
 if r then
  let mx:=n-h
  for _ in [0:n] do
   if v≥mx then break
   let some m ←past (h+v)|return none
   if !m then break
   u:=v
   v:=2*v+1
  lo:=h+u+1
  hi:=h+min v mx
 else
  let mx:=h+1
  for _ in [0:n] do
   if v≥mx then break
   let some f ←past (h-v)|return none
   if f then break
   u:=v
   v:=2*v+1
  lo:=h+1-min v mx
  hi:=h-u
 for _ in [0:n] do
  if lo≥hi then break
  let m:=lo+(hi-lo)/2
  let some b ←past m|return none
  if b then lo:=m+1 else hi:=m
 return some hi
theorem ve (left:Bool)(k0:Keyed)(ar:Array Keyed)(bs n h:Nat):gal left k0 ar bs n h=Aa0 (λi=>do
 let x ←elem' ar (bs+i)
 if left then lt' x k0 else return (←lt' k0 x).map (!·)) n h:=rfl
section
variable {M:Model}{A:Around}{E:Value->Shared->Prop}{s:Shared}
def Tells (M:Model)(A:Around)(E:Value->Shared->Prop)(s:Shared)(st:SortSt){α:Type}(m:StateT SortSt Sem α)(v:α):Prop:=∀Q:α->SortSt->Prop,Q v st->wpS M A E s m Q st
theorem Kr {β:Type}{n:Nat}{c:β}{f:Nat->β->StateT SortSt Sem (ForInStep β)}{st:SortSt}(I:Nat->β->Prop){Q:β->SortSt->Prop}
  (hs: ∀i c,i<n->I i c->wpS M A E s (f i c) (λr st'=>st'=st/\match r with| .done c'=>Q c' st| .yield c'=>I (i+1) c') st)
  (he: ∀c,I n c->Q c st) (h:I 0 c):wpS M A E s (forIn [:n] c f) Q st:=by
 refine Af4 (a:=0) (I:=λi c st'=>st'=st/\I i c) ?_ ?_ ⟨rfl,h⟩
 ·
  rintro i c st' _ hi ⟨rfl,hI⟩
  refine Aip (hs i c hi hI) ?_
  rintro r st'' ⟨rfl,hr⟩
  cases r with
  | done c'=>exact hr
  | yield c'=>exact⟨rfl,hr⟩
 ·
  rintro c st' ⟨rfl,hI⟩
  rw[show max 0 n=n by lia] at hI
  exact he c hI
def y6 (past:Nat->StateT SortSt Sem (Option Bool))(n lo₀ hi₀:Nat):StateT SortSt Sem (Option Nat):=do
 let mut lo:=lo₀
 let mut hi:=hi₀
 for _ in [0:n] do
  if lo≥hi then break
  let m:=lo+(hi-lo)/2
  let some b ←past m|return none
  if b then lo:=m+1 else hi:=m
 return some hi
theorem d5 {past:Nat->StateT SortSt Sem (Option Bool)}{P:Nat->Bool}{n lo hi:Nat}{st:SortSt}(hp: ∀i,i<n->Tells M A E s st (past i) (some (P i)))(hm: ∀i j,i<=j->j<n->P j=true->P i=true)
  (hl:lo<=hi) (hn:hi<=n) (h1: ∀i,i<lo->P i=true) (h2: ∀i,hi<=i->i<n->P i=false)
  {Q:Option Nat->SortSt->Prop} (hQ: ∀k,k<=n->(∀i,i<k->P i=true)->(∀i,k<=i->i<n->P i=false)->Q (some k) st):wpS M A E s (y6 past n lo hi) Q st:=by
 unfold y6
 dsimp only
 refine Adj (Kr (I:=λi c=>∃lo hi,c=(none,lo,hi)/\lo<=hi/\hi<=n/\hi-lo<=n-i/\(∀i,i<lo->P i=true)/\(∀i,hi<=i->i<n->P i=false)) ?_ ?_ ⟨lo,hi,rfl,hl,hn,by lia,h1,h2⟩)
 ·
  rintro i c hi' ⟨lo,hi,rfl,a1,a2,a3,a4,a5⟩
  dsimp only
  by_cases hg:lo≥hi
  ·
   rw[if_pos hg]
   refine Ads ⟨rfl,?_⟩
   obtain rfl:lo=hi:=by lia
   exact Ads (hQ lo a2 a4 a5)
  ·
   rw[if_neg hg]
   refine Adj (hp _ (by lia) _ ?_)
   dsimp only
   cases e:P (lo+(hi-lo)/2) with
   |
    true=>
    rw[if_pos rfl]
    exact Ads ⟨rfl,_,_,rfl,by lia,a2,by lia,λj hj=>hm j _ (by lia) (by lia) e,a5⟩
   |
    false=>
    rw[if_neg (by decide)]
    refine Ads ⟨rfl,_,_,rfl,by lia,by lia,by lia,a4,λj h1 h2=>?_⟩
    cases ej:P j with
    | false=>rfl
    | true=>rw[hm _ j h1 h2 ej] at e;exact e
 ·
  rintro c ⟨lo,hi,rfl,a1,a2,a3,a4,a5⟩
  obtain rfl:lo=hi:=by lia
  exact Ads (hQ lo a2 a4 a5)
theorem uk {past:Nat->StateT SortSt Sem (Option Bool)}{P:Nat->Bool}{n h:Nat}{st:SortSt}(hp: ∀i,i<n->Tells M A E s st (past i) (some (P i)))(hh:h<n)(hm: ∀i j,i<=j->j<n->P j=true->P i=true)
  {Q:Option Nat->SortSt->Prop} (hQ: ∀k,k<=n->(∀i,i<k->P i=true)->(∀i,k<=i->i<n->P i=false)->Q (some k) st):wpS M A E s (Aa0 past n h) Q st:=by
 have hf: ∀i j,i<=j->j<n->P i=false->P j=false:=λi j h1 h2 h3=>by
  cases ej:P j with
  | false=>rfl
  | true=>rw[hm i j h1 h2 ej] at h3;exact h3
 unfold Aa0
 dsimp only
 refine Adj (hp h hh _ ?_)
 dsimp only
 cases eh:P h with
 |
  true=>
  rw[if_pos rfl]
  have fin: ∀u v,u<v->h+u<n->P (h+u)=true->(v≥n-h∨P (h+v)=false)->wpS M A E s (y6 past n (h+u+1) (h+min v (n-h))) Q st:=λu v a1 a2 a3 a4=>
   d5 hp hm (by lia) (by lia) (λi hi=>hm i (h+u) (by lia) a2 a3) (λi h1 h2=>by
    rcases a4 with a4|a4
    · lia
    · exact hf (h+v) i (by lia) h2 a4) hQ
  refine Adj (Kr (I:=λi c=>∃u v,c=(none,u,v)/\u<v/\i+1<=v/\h+u<n/\P (h+u)=true) ?_ ?_ ⟨0,1,rfl,by lia,by lia,hh,eh⟩)
  ·
   rintro i c hi' ⟨u,v,rfl,a1,a2,a3,a4⟩
   dsimp only
   by_cases hg:v≥n-h
   ·
    rw[if_pos hg]
    exact Ads ⟨rfl,fin u v a1 a3 a4 (.inl hg)⟩
   ·
    rw[if_neg hg]
    refine Adj (hp _ (by lia) _ ?_)
    dsimp only
    cases e:P (h+v) with
    |
     true=>
     rw[if_neg (by decide)]
     exact Ads ⟨rfl,_,_,rfl,by lia,by lia,by lia,e⟩
    |
     false=>
     rw[if_pos (show(!false)=true by decide)]
     exact Ads ⟨rfl,fin u v a1 a3 a4 (.inr e)⟩
  ·
   rintro c ⟨u,v,rfl,a1,a2,a3,a4⟩
   exact fin u v a1 a3 a4 (.inl (by lia))
 |
  false=>
  rw[if_neg (by decide)]
  have fin: ∀u v,u<v->u<=h->P (h-u)=false->(v≥h+1∨P (h-v)=true)->wpS M A E s (y6 past n (h+1-min v (h+1)) (h-u)) Q st:=λu v a1 a2 a3 a4=>
   d5 hp hm (by lia) (by lia) (λi hi=>by
    rcases a4 with a4|a4
    · lia
    · exact hm i (h-v) (by lia) (by lia) a4) (λi h1 h2=>hf (h-u) i (by lia) h2 a3) hQ
  refine Adj (Kr (I:=λi c=>∃u v,c=(none,u,v)/\u<v/\i+1<=v/\u<=h/\P (h-u)=false) ?_ ?_ ⟨0,1,rfl,by lia,by lia,by lia,eh⟩)
  ·
   rintro i c hi' ⟨u,v,rfl,a1,a2,a3,a4⟩
   dsimp only
   by_cases hg:v≥h+1
   ·
    rw[if_pos hg]
    exact Ads ⟨rfl,fin u v a1 a3 a4 (.inl hg)⟩
   ·
    rw[if_neg hg]
    refine Adj (hp _ (by lia) _ ?_)
    dsimp only
    cases e:P (h-v) with
    |
     false=>
     rw[if_neg (by decide)]
     exact Ads ⟨rfl,_,_,rfl,by lia,by lia,by lia,e⟩
    |
     true=>
     rw[if_pos rfl]
     exact Ads ⟨rfl,fin u v a1 a3 a4 (.inr e)⟩
  ·
   rintro c ⟨u,v,rfl,a1,a2,a3,a4⟩
   exact fin u v a1 a3 a4 (.inl (by lia))
end
section
variable {prog:Program}{w:World}{A:Around}{E:Value->Shared->Prop}{s:Shared}{O:KeyOrd}{key:Keyed->O.α}{D:Keyed->Prop}{κ:SortKind}
def R3 (prog:Program)(w:World)(A:Around)(s:Shared)(κ:SortKind){O:KeyOrd}(key:Keyed->O.α)(D:Keyed->Prop):Prop:=
 ∀x y,D x->D y-> ∀C:Bool->Shared->Prop,C (O.blt (key x) (key y)) s->wpAny (model prog w) A (keyLt' κ x.1 y.1) C (λ_ _=>False) s
theorem Lu (hc:R3 prog w A s κ key D){st:SortSt}(hk:kindOf st=κ){x y:Keyed}(hx:D x)(hy:D y):Tells (model prog w) A E s st (lt' x y) (some (O.blt (key x) (key y))):=by
 intro Q h
 rw[lt'_eq]
 refine Adj (wpS_get ?_)
 rw[hk]
 refine Adj (wpS_lift (wpAny_attempt (Afa (hc x y hx hy (λb s'=>b=O.blt (key x) (key y)/\s'=s) ⟨rfl,rfl⟩) ?_ λ_ _ z=>z.elim)))
 rintro b s' ⟨rfl,rfl⟩
 exact⟨rfl,Ads h⟩
theorem Bf {st:SortSt}{ar:Array Keyed}{i:Nat}(hi:i<ar.size):Tells (model prog w) A E s st (elem' ar i) ar[i]:=by
 intro Q h
 rw[elem'_eq,getElem?_pos ar i hi]
 exact Ads h
theorem Vd {left:Bool}{k0:Keyed}{ar:Array Keyed}{bs n h:Nat}{st:SortSt}(hc:R3 prog w A s κ key D)(hk:kindOf st=κ)(h0:D k0)(hD: ∀x∈ar.toList,D x)(hb:bs+n<=ar.size)(hh:h<n)
  (hs: ∀i j(hi:i<ar.size)(hj:j<ar.size),bs<=i->i<=j->j<bs+n->O.kle (key ar[i]) (key ar[j])) {Q:Option Nat->SortSt->Prop}
  (hQ: ∀k,k<=n->(∀i(hi:i<ar.size),bs<=i->i<bs+k->if left=true then O.klt (key ar[i]) (key k0) else O.kle (key ar[i]) (key k0))->
   (∀i(hi:i<ar.size),bs+k<=i->i<bs+n->if left=true then O.kle (key k0) (key ar[i]) else O.klt (key k0) (key ar[i]))->Q (some k) st):wpS (model prog w) A E s (gal left k0 ar bs n h) Q st:=by
 rw[ve]
 have hD': ∀i(hi:i<ar.size),D ar[i]:=λi hi=>hD _ (by simp)
 refine uk (P:=λi=>if h:bs+i<ar.size then(if left=true then O.blt (key ar[bs+i]) (key k0) else !O.blt (key k0) (key ar[bs+i])) else false) ?_ hh ?_ ?_
 ·
  intro i hi Q h
  rw[Aiw (by lia)] at h
  refine Adj (Bf (by lia) _ ?_)
  cases left with
  |
   true=>
   rw[if_pos rfl] at h ⊢
   exact Lu hc hk (hD' _ (by lia)) h0 _ h
  |
   false=>
   rw[if_neg (by decide)] at h ⊢
   exact Adj (Lu hc hk h0 (hD' _ (by lia)) _ (Ads h))
 ·
  intro i j hij hj h
  rw[Aiw (by lia)] at h ⊢
  have hle:=hs (bs+i) (bs+j) (by lia) (by lia) (by lia) (by lia) (by lia)
  cases left with
  |
   true=>
   rw[if_pos rfl] at h ⊢
   exact KeyOrd.klt_of_kle_of_klt hle h
  |
   false=>
   rw[if_neg (by decide)] at h ⊢
   have h':O.kle (key ar[bs+j]) (key k0):=by simpa[KeyOrd.kle] using h
   have:O.kle (key ar[bs+i]) (key k0):=Ad0 hle h'
   simpa[KeyOrd.kle] using this
 ·
  intro k hk h1 h2
  refine hQ k hk (λi hi a1 a2=>?_) (λi hi a1 a2=>?_)
  ·
   have:=h1 (i-bs) (by lia)
   have ei:bs+(i-bs)=i:=by lia
   simp only[ei] at this
   rw[Aiw hi] at this
   cases left with
   | true=>rw[if_pos rfl] at this ⊢;exact this
   | false=>rw[if_neg (by decide)] at this ⊢;simpa[KeyOrd.kle] using this
  ·
   have:=h2 (i-bs) (by lia) (by lia)
   have ei:bs+(i-bs)=i:=by lia
   simp only[ei] at this
   rw[Aiw hi] at this
   cases left with
   | true=>rw[if_pos rfl] at this ⊢;exact this
   | false=>rw[if_neg (by decide)] at this ⊢;simpa[KeyOrd.klt] using this
end
theorem vv (a b:Array Keyed):mLo a b=(do
 rule "list.sort.merge-lo"
 let all:=a.size+b.size
 let dn (o:Array Keyed) (i j:Nat):=o++a.extract i a.size++b.extract j b.size
 let la (o:Array Keyed) (i j:Nat):=o++b.extract j b.size++a.extract i a.size
 let mut o:Array Keyed:=#[←elem' b 0]
 let mut i:=0
 let mut j:=1
 if j==b.size then return dn o i j
 if i+1==a.size then return la o i j
 let mut mg:=gallopOf (←get)
 for _ in [0:all] do
  let mut ac:=0
  let mut bc:=0
  for _ in [0:all] do
   let some bw ←lt' (←elem' b j) (←elem' a i)|return dn o i j
   if bw then
    o:=o.push (←elem' b j);j:=j+1;bc:=bc+1;ac:=0
    if j==b.size then return dn o i j
    if bc≥mg then break
   else
    o:=o.push (←elem' a i);i:=i+1;ac:=ac+1;bc:=0
    if i+1==a.size then return la o i j
    if ac≥mg then break
  rule "list.sort.gallop"
  mg:=mg+1
  for _ in [0:all] do
   if mg>1 then mg:=mg-1
   Wb mg
   let some k ←gal false (←elem' b j) a i (a.size-i) 0|return dn o i j
   ac:=k
   if k>0 then
    o:=o++a.extract i (i+k);i:=i+k
    if i+1==a.size then return la o i j
    if i==a.size then return dn o i j
   o:=o.push (←elem' b j);j:=j+1
   if j==b.size then return dn o i j
   let some k ←gal true (←elem' a i) b j (b.size-j) 0|return dn o i j
   bc:=k
   if k>0 then
    o:=o++b.extract j (j+k);j:=j+k
    if j==b.size then return dn o i j
   o:=o.push (←elem' a i);i:=i+1
   if i+1==a.size then return la o i j
   if ac<7&&bc<7 then break
  mg:=mg+1
  Wb mg
 unsupported "internal:list.sort.merge-bound"):=rfl
theorem Hs {l:Array Keyed}{i:Nat}{x:Keyed}(h:x∈l.toList.drop i): ∃k,∃hk:k<l.size,i<=k/\x=l[k]:=by
 obtain⟨k,hk,e⟩:=Agq h
 rw[Afg,Ac6] at hk
 refine⟨i+k,by lia,by lia,?_⟩
 rw[←e,Ag4];rfl
theorem iw {l:Array Keyed}{i n:Nat}{x:Keyed}(h:x∈(l.toList.drop i).take n): ∃k,∃hk:k<l.size,i<=k/\k<i+n/\x=l[k]:=by
 obtain⟨k,hk,e⟩:=Agq h
 rw[Aek,Afg,Ac6] at hk
 refine⟨i+k,by lia,by lia,by lia,?_⟩
 rw[←e,Ag3,Ag4];rfl
theorem cf {l:Array Keyed}{n:Nat}{x:Keyed}(h:x∈l.toList.take n): ∃k,∃hk:k<l.size,k<n/\x=l[k]:=by
 obtain⟨k,hk,e⟩:=Agq h
 rw[Aek,Ac6] at hk
 refine⟨k,by lia,by lia,?_⟩
 rw[←e,Ag3];rfl
theorem drop_cons {l:Array Keyed}{i:Nat}(hi:i<l.size):l.toList.drop i=l[i]::l.toList.drop (i+1):=by
 rw[List.drop_eq_getElem_cons (by simpa using hi)];rfl
theorem take_cons {l:Array Keyed}{i:Nat}(hi:i<l.size):(l.toList.take (i+1)).reverse=l[i]::(l.toList.take i).reverse:=by
 rw[List.take_succ_eq_append_getElem (by simpa using hi),Af1];rfl
theorem Jp (l:Array Keyed)(i j:Nat):(l.extract i j).toList=(l.toList.drop i).take (j-i):=by
 rw[Array.toList_extract]
theorem Mq (l:Array Keyed)(i:Nat):(l.extract i l.size).toList=l.toList.drop i:=by
 rw[Jp,Af5]
 rw[Afg,Ac6];exact Adb _
def Upw (O:KeyOrd)(key:Keyed->O.α)(x y:Keyed):Prop:=O.kle (key x) (key y)
theorem Kt {O:KeyOrd}{key:Keyed->O.α}{l:Array Keyed}(h:l.toList.Pairwise (Upw O key))(i j:Nat)(hi:i<l.size)(hj:j<l.size)(hij:i<=j):O.kle (key l[i]) (key l[j]):=by
 by_cases e:i=j
 · subst e;exact Aeg _
 · exact(List.pairwise_iff_getElem.mp h) i j (by simpa using hi) (by simpa using hj) (by lia)
def SameS (st st':SortSt):Prop:=kindOf st'=kindOf st/\arrOf st'=arrOf st/\pendingOf st'=pendingOf st/\failedOf st'=failedOf st
theorem SameS.refl (st:SortSt):SameS st st:=⟨rfl,rfl,rfl,rfl⟩
theorem SameS.trans {s1 s2 s3:SortSt}(h1:SameS s1 s2)(h2:SameS s2 s3):SameS s1 s3:=
 ⟨h2.1.trans h1.1,h2.2.1.trans h1.2.1,h2.2.2.1.trans h1.2.2.1,h2.2.2.2.trans h1.2.2.2⟩
theorem Nw {M:Model}{A:Around}{E:Value->Shared->Prop}{s:Shared}{st:SortSt}{g:Nat}{Q:Unit->SortSt->Prop}(h: ∀st',SameS st st'->Q () st'):wpS M A E s (Wb g) Q st:=by
 show wpS M A E s (modify λs=>SortSt.mk' (kindOf s) (arrOf s) (pendingOf s) g (failedOf s)) Q st
 exact Aiv (h _ ⟨rfl,rfl,rfl,rfl⟩)
section lo
variable {prog:Program}{w:World}{A:Around}{E:Value->Shared->Prop}{s:Shared}{O:KeyOrd}{key:Keyed->O.α}{D:Keyed->Prop}{κ:SortKind}{a b:Array Keyed}
structure MPre (O:KeyOrd)(key:Keyed->O.α)(D:Keyed->Prop)(a b:Array Keyed):Prop where
 ua:a.toList.Pairwise (Upw O key)
 ub:b.toList.Pairwise (Upw O key)
 da: ∀x∈a.toList,D x
 db: ∀x∈b.toList,D x
 na:1<=a.size
 nb:1<=b.size
 first: ∀(h1:0<a.size)(h2:0<b.size),O.kle (key b[0]) (key a[0])
 last: ∀(h1:a.size-1<a.size)(h2:b.size-1<b.size),O.kle (key b[b.size-1]) (key a[a.size-1])
theorem MPre.dA (h:MPre O key D a b)(i:Nat)(hi:i<a.size):D a[i]:=h.da _ (by simp)
theorem MPre.dB (h:MPre O key D a b)(i:Nat)(hi:i<b.size):D b[i]:=h.db _ (by simp)
abbrev GI (O:KeyOrd)(key:Keyed->O.α)(a b o:Array Keyed)(i j:Nat):Prop:=MI (Upw O key) (a.toList++b.toList) o.toList (a.toList.drop i) (b.toList.drop j)
theorem GI.size {o:Array Keyed}{i j:Nat}(h:GI O key a b o i j)(hi:i<=a.size)(hj:j<=b.size):o.size=i+j:=by
 have:=h.perm.length_eq
 simp only[Ade,Afg,Ac6] at this
 lia
def GF (O:KeyOrd)(key:Keyed->O.α)(a b r:Array Keyed):Prop:=MD (Upw O key) (a.toList++b.toList) r.toList
structure Go (O:KeyOrd)(key:Keyed->O.α)(a b o:Array Keyed)(i j:Nat):Prop where
 gi:GI O key a b o i j
 hi:i+1<a.size
 hj:j<b.size
theorem GI.pushA {o:Array Keyed}{i j:Nat}(g:GI O key a b o i j)(hi:i<a.size)(h: ∀k(hk:k<b.size),j<=k->O.kle (key a[i]) (key b[k])):GI O key a b (o.push a[i]) (i+1) j:=by
 unfold GI at g ⊢
 rw[drop_cons hi] at g
 rw[Ag6]
 refine g.left λy hy=>?_
 obtain⟨k,hk,h1,rfl⟩:=Hs hy
 exact h k hk h1
theorem GI.pushB {o:Array Keyed}{i j:Nat}(g:GI O key a b o i j)(hj:j<b.size)(h: ∀k(hk:k<a.size),i<=k->O.kle (key b[j]) (key a[k])):GI O key a b (o.push b[j]) i (j+1):=by
 unfold GI at g ⊢
 rw[drop_cons hj] at g
 rw[Ag6]
 refine g.right λy hy=>?_
 obtain⟨k,hk,h1,rfl⟩:=Hs hy
 exact h k hk h1
theorem GI.blockA {o:Array Keyed}{i j n:Nat}(g:GI O key a b o i j)(h: ∀u(hu:u<a.size)k(hk:k<b.size),i<=u->u<i+n->j<=k->O.kle (key a[u]) (key b[k])):GI O key a b (o++a.extract i (i+n)) (i+n) j:=by
 unfold GI at g ⊢
 rw[Mn a.toList (Nat.le_add_right i n)] at g
 rw[Ad4,Jp]
 refine g.lefts λx hx y hy=>?_
 obtain⟨u,hu,u1,u2,rfl⟩:=iw hx
 obtain⟨k,hk,h1,rfl⟩:=Hs hy
 exact h u hu k hk u1 (by lia) h1
theorem GI.blockB {o:Array Keyed}{i j n:Nat}(g:GI O key a b o i j)(h: ∀u(hu:u<b.size)k(hk:k<a.size),j<=u->u<j+n->i<=k->O.kle (key b[u]) (key a[k])):GI O key a b (o++b.extract j (j+n)) i (j+n):=by
 unfold GI at g ⊢
 rw[Mn b.toList (Nat.le_add_right j n)] at g
 rw[Ad4,Jp]
 refine g.rights λx hx y hy=>?_
 obtain⟨u,hu,u1,u2,rfl⟩:=iw hx
 obtain⟨k,hk,h1,rfl⟩:=Hs hy
 exact h u hu k hk u1 (by lia) h1
theorem GI.endB {o:Array Keyed}{i j:Nat}(g:GI O key a b o i j)(hj:j=b.size):GF O key a b (o++a.extract i a.size++b.extract j b.size):=by
 unfold GI at g
 unfold GF
 rw[Ad4,Ad4,Mq,Mq]
 rw[show b.toList.drop j=[] by rw[List.drop_eq_nil_iff,Ac6];lia] at g ⊢
 rw[Aet]
 exact g.doneA
theorem GI.endA {o:Array Keyed}{i j:Nat}(g:GI O key a b o i j)(hi:i=a.size):GF O key a b (o++a.extract i a.size++b.extract j b.size):=by
 unfold GI at g
 unfold GF
 rw[Ad4,Ad4,Mq,Mq]
 rw[show a.toList.drop i=[] by rw[List.drop_eq_nil_iff,Ac6];lia] at g ⊢
 rw[Aet]
 exact g.doneB
theorem GI.lastA {o:Array Keyed}{i j:Nat}(hp:MPre O key D a b)(g:GI O key a b o i j)(hi:i+1=a.size):GF O key a b (o++b.extract j b.size++a.extract i a.size):=by
 unfold GI at g
 unfold GF
 rw[Ad4,Ad4,Mq,Mq,Age]
 refine g.last λy hy x hx=>?_
 obtain⟨u,hu,u1,rfl⟩:=Hs hx
 obtain⟨k,hk,k1,rfl⟩:=Hs hy
 have e:=hp.last (by lia) (by lia)
 have eu:u=a.size-1:=by lia
 subst eu
 exact Ad0 (Kt hp.ub k (b.size-1) hk (by lia) (by lia)) e
abbrev LC:=Option (Array Keyed)×Array Keyed×Nat×Nat×Nat×Nat×Nat
def yw (a b o:Array Keyed)(i j mg k k1:Nat):StateT SortSt Sem (ForInStep LC):=
 elem' a i>>= λx=>
 if(i+1+1==a.size)=true then pure (.done (some (o.push x++b.extract j++a.extract (i+1)),o.push x,i+1,j,mg,k,k1))
 else if(decide (k<7)&&decide (k1<7))=true then pure (.done (none,o.push x,i+1,j,mg,k,k1))
 else pure (.yield (none,o.push x,i+1,j,mg,k,k1))
def yz (
    a b o:Array Keyed) (i j mg k c:Nat):StateT SortSt Sem (ForInStep LC):=
 elem' b j>>= λx=>
 if(j+1==b.size)=true then pure (.done (some (o.push x++a.extract i++b.extract (j+1)),o.push x,i,j+1,mg,k,c))
 else elem' a i>>= λy=>gal true y b (j+1) (b.size-(j+1)) 0>>= λr=>
  match r with
  |
   some k1=>(if k1>0 then
    (if(j+1+k1==b.size)=true then pure (.done (some (o.push x++b.extract (j+1) (j+1+k1)++a.extract i++b.extract (j+1+k1)),o.push x++b.extract (j+1) (j+1+k1),i,j+1+k1,mg,k,k1))
    else yw a b (o.push x++b.extract (j+1) (j+1+k1)) i (j+1+k1) mg k k1)
   else yw a b (o.push x) i (j+1) mg k k1)
  | _=>pure (.done (some (o.push x++a.extract i++b.extract (j+1)),o.push x,i,j+1,mg,k,c))
def Aaj (a b o:Array Keyed)(i j mg c d:Nat):StateT SortSt Sem (ForInStep LC):=
 Wb mg>>= λ_=>elem' b j>>= λx=>gal false x a i (a.size-i) 0>>= λr=>
 match r with
 |
  some k=>(if k>0 then
   (if(i+k+1==a.size)=true then pure (.done (some (o++a.extract i (i+k)++b.extract j++a.extract (i+k)),o++a.extract i (i+k),i+k,j,mg,k,d))
   else if(i+k==a.size)=true then pure (.done (some (o++a.extract i (i+k)++a.extract (i+k)++b.extract j),o++a.extract i (i+k),i+k,j,mg,k,d))
   else yz a b (o++a.extract i (i+k)) (i+k) j mg k d)
  else yz a b o i j mg k d)
 | _=>pure (.done (some (o++a.extract i++b.extract j),o,i,j,mg,c,d))
def Aap (O:KeyOrd)(key:Keyed->O.α)(a b:Array Keyed)(m:Nat)(r:ForInStep LC):Prop:=match r with
 | .done c=>(∃x,c.1=some x/\GF O key a b x)∨(c.1=none/\Go O key a b c.2.1 c.2.2.1 c.2.2.2.1/\m<c.2.1.size)
 | .yield c=>c.1=none/\Go O key a b c.2.1 c.2.2.1 c.2.2.2.1/\m<c.2.1.size
theorem ed {o:Array Keyed}{i j mg k k1 m:Nat}{st:SortSt}(hp:MPre O key D a b)(g:Go O key a b o i j)(hm:m<=o.size)(hx: ∀(hi:i<a.size)k(hk:k<b.size),j<=k->O.kle (key a[i]) (key b[k]))
  {Q:ForInStep LC->SortSt->Prop} (hQ: ∀r,Aap O key a b m r->Q r st):wpS (model prog w) A E s (yw a b o i j mg k k1) Q st:=by
 obtain⟨gi,hi,hj⟩:=g
 unfold yw
 refine Adj (Bf (show i<a.size by lia) _ ?_)
 have g1:=gi.pushA (by lia) (hx (by lia))
 have hz:(o.push (a[i]'(by lia))).size=o.size+1:=Afx ..
 by_cases e1:i+1+1=a.size
 ·
  rw[if_pos (by simpa using e1)]
  exact Ads (hQ _ (.inl ⟨_,rfl,g1.lastA hp e1⟩))
 ·
  rw[if_neg (by simpa using e1)]
  have g2:Go O key a b (o.push (a[i]'(by lia))) (i+1) j:=⟨g1,by lia,hj⟩
  split
  · exact Ads (hQ _ (.inr ⟨rfl,g2,by show m<(o.push _).size;lia⟩))
  · exact Ads (hQ _ ⟨rfl,g2,by show m<(o.push _).size;lia⟩)
theorem fg {o:Array Keyed}{i j mg k c m:Nat}{st:SortSt}(hc:R3 prog w A s κ key D)(hk:kindOf st=κ)(hp:MPre O key D a b)(g:Go O key a b o i j)(hm:m<=o.size)(hx: ∀(hj:j<b.size)k(hk:k<a.size),i<=k->O.kle (key b[j]) (key a[k]))
  {Q:ForInStep LC->SortSt->Prop} (hQ: ∀r,Aap O key a b m r->Q r st):wpS (model prog w) A E s (yz a b o i j mg k c) Q st:=by
 obtain⟨gi,hi,hj⟩:=g
 unfold yz
 refine Adj (Bf (show j<b.size by lia) _ ?_)
 have g1:=gi.pushB hj (hx hj)
 have hz:(o.push (b[j]'(by lia))).size=o.size+1:=Afx ..
 by_cases e1:j+1=b.size
 ·
  rw[if_pos (by simpa using e1)]
  exact Ads (hQ _ (.inl ⟨_,rfl,g1.endB e1⟩))
 ·
  rw[if_neg (by simpa using e1)]
  refine Adj (Bf (show i<a.size by lia) _ ?_)
  refine Adj (Vd hc hk (hp.dA i (by lia)) hp.db (by lia) (by lia) (λu v hu hv _ h2 _=>Kt hp.ub u v hu hv h2) λk1 hk1 h1 h2=>?_)
  simp only[Ahy] at h1 h2
  dsimp only
  by_cases hk0:k1>0
  ·
   rw[if_pos hk0]
   have g3:=g1.blockB (n:=k1) λu hu v hv a1 a2 a3=>Ad0 (Ad5 (h1 u hu a1 a2)) (Kt hp.ua i v (by lia) hv a3)
   by_cases e2:j+1+k1=b.size
   ·
    rw[if_pos (by simpa using e2)]
    exact Ads (hQ _ (.inl ⟨_,rfl,g3.endB e2⟩))
   ·
    rw[if_neg (by simpa using e2)]
    refine ed hp ⟨g3,hi,by lia⟩ ?_ (λhi v hv a1=>h2 v hv a1 (by lia)) hQ
    rw[Ag7];lia
  ·
   rw[if_neg hk0]
   obtain rfl:k1=0:=by lia
   exact ed hp ⟨g1,hi,by lia⟩ (by lia) (λhi v hv a1=>h2 v hv (by lia) (by lia)) hQ
theorem se {o:Array Keyed}{i j mg c d m:Nat}{st:SortSt}(hc:R3 prog w A s κ key D)(hk:kindOf st=κ)(hp:MPre O key D a b)(g:Go O key a b o i j)(hm:m<=o.size)
  {Q:ForInStep LC->SortSt->Prop} (hQ: ∀r st',SameS st st'->Aap O key a b m r->Q r st'):wpS (model prog w) A E s (Aaj a b o i j mg c d) Q st:=by
 obtain⟨gi,hi,hj⟩:=g
 unfold Aaj
 refine Adj (Nw λst' hs=>?_)
 have hk':kindOf st'=κ:=hs.1.trans hk
 refine Adj (Bf (show j<b.size by lia) _ ?_)
 refine Adj (Vd hc hk' (hp.dB j hj) hp.da (by lia) (by lia) (λu v hu hv _ h2 _=>Kt hp.ua u v hu hv h2) λk hk1 h1 h2=>?_)
 simp only[Adz,Ae5] at h1 h2
 dsimp only
 have hx: ∀(hj:j<b.size)v(hv:v<a.size),i+k<=v->O.kle (key b[j]) (key a[v]):=λhj v hv a1=>Ad5 (h2 v hv a1 (by lia))
 by_cases hk0:k>0
 ·
  rw[if_pos hk0]
  have g3:=gi.blockA (n:=k) λu hu v hv a1 a2 a3=>Ad0 (h1 u hu a1 a2) (Kt hp.ub j v (by lia) hv a3)
  by_cases e1:i+k+1=a.size
  ·
   rw[if_pos (by simpa using e1)]
   exact Ads (hQ _ _ hs (.inl ⟨_,rfl,g3.lastA hp e1⟩))
  ·
   rw[if_neg (by simpa using e1)]
   by_cases e2:i+k=a.size
   ·
    rw[if_pos (by simpa using e2)]
    exact Ads (hQ _ _ hs (.inl ⟨_,rfl,g3.endA e2⟩))
   ·
    rw[if_neg (by simpa using e2)]
    refine fg hc hk' hp ⟨g3,by lia,hj⟩ ?_ hx λr hr=>hQ r _ hs hr
    rw[Ag7];lia
 ·
  rw[if_neg hk0]
  obtain rfl:k=0:=by lia
  exact fg hc hk' hp ⟨gi,hi,hj⟩ hm hx λr hr=>hQ r _ hs hr
set_option smartUnfolding false in
theorem xg {st:SortSt}(hc:R3 prog w A s κ key D)(hk:kindOf st=κ)(hp:MPre O key D a b){Q:Array Keyed->SortSt->Prop}(hQ: ∀r st',SameS st st'->GF O key a b r->Q r st'):wpS (model prog w) A E s (mLo a b) Q st:=by
 rw[vv]
 refine Adj (wpS_lift (Af2 ⟨rfl,?_⟩))
 have hna:=hp.na
 have hnb:=hp.nb
 refine Adj (Bf (show 0<b.size by lia) _ ?_)
 have g0:GI O key a b #[] 0 0:=⟨by simp,.nil,(λ_ z=>nomatch z),(λ_ z=>nomatch z),hp.ua,hp.ub⟩
 have g1:GI O key a b #[b[0]'(by lia)] 0 1:=g0.pushB (by lia) λk hk _=>Ad0 (hp.first (by lia) (by lia)) (Kt hp.ua 0 k (by lia) hk (by lia))
 by_cases e1:1=b.size
 ·
  dsimp only
  rw[if_pos (by simpa using e1)]
  exact Ads (hQ _ _ (.refl _) (g1.endB e1))
 ·
  by_cases e2:0+1=a.size
  ·
   dsimp only
   rw[if_neg (by simpa using e1),if_pos (by simpa using e2)]
   exact Ads (hQ _ _ (.refl _) (g1.lastA hp e2))
  ·
   dsimp only
   rw[if_neg (by simpa using e1),if_neg (by simpa using e2)]
   refine Adj (wpS_get ?_)
   refine Adj (Aip (Af4 (a:=0)
    (I:=λx c st'=>SameS st st'/\c.1=none/\Go O key a b c.2.1 c.2.2.1 c.2.2.2.1/\x<c.2.1.size)
    (Q:=λc st'=>SameS st st'/\ ∃r,c.1=some r/\GF O key a b r) ?step ?fin ?init) ?post)
   case init=>exact⟨.refl _,rfl,⟨g1,by show 0+1<a.size;lia,by show 1<b.size;lia⟩,by show 0<1;lia⟩
   case fin=>
    rintro⟨_,o,i,j,mg⟩ st' ⟨hs,rfl,g,hx⟩
    have:=g.gi.size (by have:=g.hi;lia) (by have:=g.hj;lia)
    have:=g.hi;have:=g.hj
    dsimp only at*
    lia
   case post=>
    rintro⟨_,o,i,j,mg⟩ st' ⟨hs,r,rfl,hr⟩
    exact Ads (hQ _ _ hs hr)
   case step=>
    rintro x ⟨_,o,i,j,mg⟩ st' _ hx ⟨hs,rfl,g,hxo⟩
    have hk':kindOf st'=κ:=hs.1.trans hk
    dsimp only at g hxo ⊢
    refine Adj (Aip (Kr (st:=st')
     (I:=λt c=>c.1=none/\Go O key a b c.2.1 c.2.2.1 c.2.2.2.1/\o.size+min t 1<=c.2.1.size)
     (Q:=λc st''=>st''=st'/\((∃r,c.1=some r/\GF O key a b r)∨(c.1=none/\Go O key a b c.2.1 c.2.2.1 c.2.2.2.1/\o.size<c.2.1.size))) ?s1 ?e1 ?i1) ?p1)
    case i1=>exact⟨rfl,g,by show o.size+min 0 1<=o.size;lia⟩
    case e1=>
     rintro⟨_,o',i',j',c',d'⟩ ⟨rfl,g',h'⟩
     exact⟨rfl,.inr ⟨rfl,g',by dsimp only at h' ⊢;lia⟩⟩
    case s1=>
     rintro t ⟨_,o',i',j',c',d'⟩ ht ⟨rfl,g',h'⟩
     obtain⟨gi,hi,hj⟩:=g'
     dsimp only at gi hi hj h' ⊢
     refine Adj (Bf hj _ (Adj (Bf (show i'<a.size by lia) _ (Adj (Lu hc hk' (hp.dB _ hj) (hp.dA _ (by lia)) _ ?_)))))
     dsimp only
     cases e:O.blt (key (b[j']'hj)) (key (a[i']'(by lia))) with
     |
      true=>
      rw[if_pos rfl]
      refine Adj (Bf hj _ ?_)
      have g2:=gi.pushB hj λk hk h1=>Ad0 (Ad5 e) (Kt hp.ua i' k (by lia) hk h1)
      have hz:(o'.push (b[j']'hj)).size=o'.size+1:=Afx ..
      by_cases e3:j'+1=b.size
      ·
       rw[if_pos (by simpa using e3)]
       exact Ads ⟨rfl,rfl,.inl ⟨_,rfl,g2.endB e3⟩⟩
      ·
       rw[if_neg (by simpa using e3)]
       have g3:Go O key a b (o'.push (b[j']'hj)) i' (j'+1):=⟨g2,hi,by lia⟩
       split
       · exact Ads ⟨rfl,rfl,.inr ⟨rfl,g3,by show o.size<(o'.push _).size;lia⟩⟩
       · exact Ads ⟨rfl,rfl,g3,by show o.size+min (t+1) 1<=(o'.push _).size;lia⟩
     |
      false=>
      rw[if_neg (by decide)]
      refine Adj (Bf (show i'<a.size by lia) _ ?_)
      have g2:=gi.pushA (by lia) λk hk h1=>Ad0 (show O.kle (key (a[i']'(by lia))) (key (b[j']'hj)) from e) (Kt hp.ub j' k hj hk h1)
      have hz:(o'.push (a[i']'(by lia))).size=o'.size+1:=Afx ..
      by_cases e3:i'+1+1=a.size
      ·
       rw[if_pos (by simpa using e3)]
       exact Ads ⟨rfl,rfl,.inl ⟨_,rfl,g2.lastA hp e3⟩⟩
      ·
       rw[if_neg (by simpa using e3)]
       have g3:Go O key a b (o'.push (a[i']'(by lia))) (i'+1) j':=⟨g2,by lia,hj⟩
       split
       · exact Ads ⟨rfl,rfl,.inr ⟨rfl,g3,by show o.size<(o'.push _).size;lia⟩⟩
       · exact Ads ⟨rfl,rfl,g3,by show o.size+min (t+1) 1<=(o'.push _).size;lia⟩
    case p1=>
     rintro⟨_,o1,i1,j1,c1,d1⟩ st'' ⟨rfl,⟨r,rfl,hr⟩|⟨rfl,g1',h1'⟩⟩
     · exact Ads ⟨hs,r,rfl,hr⟩
     ·
      dsimp only at g1' h1' ⊢
      refine Adj (wpS_lift (Af2 ⟨rfl,?_⟩))
      refine Adj (Aip (Af4 (a:=0)
       (I:=λt c st'=>SameS st st'/\c.1=none/\Go O key a b c.2.1 c.2.2.1 c.2.2.2.1/\o.size<c.2.1.size)
       (Q:=λc st'=>SameS st st'/\((∃r,c.1=some r/\GF O key a b r)∨(c.1=none/\Go O key a b c.2.1 c.2.2.1 c.2.2.2.1/\o.size<c.2.1.size))) ?s2 ?e2 ?i2) ?p2)
      case i2=>exact⟨hs,rfl,g1',h1'⟩
      case e2=>exact λc st' h=>⟨h.1,.inr h.2⟩
      case p2=>
       rintro⟨_,o2,i2,j2,mg2,c2,d2⟩ st3 ⟨hs3,⟨r,rfl,hr⟩|⟨rfl,g2',h2'⟩⟩
       · exact Ads ⟨hs3,r,rfl,hr⟩
       ·
        dsimp only at g2' h2' ⊢
        refine Adj (Nw λst4 hs4=>Ads ⟨hs3.trans hs4,rfl,g2',by dsimp only;lia⟩)
      case s2=>
       rintro t ⟨_,o2,i2,j2,mg2,c2,d2⟩ st3 _ ht ⟨hs3,rfl,g2',h2'⟩
       have hk3:kindOf st3=κ:=hs3.1.trans hk
       dsimp only at g2' h2' ⊢
       have fin: ∀mg,wpS (model prog w) A E s (Aaj a b o2 i2 j2 mg c2 d2) (λr st'=>match r with
         | .done c'=>SameS st st'/\((∃r,c'.1=some r/\GF O key a b r)∨(c'.1=none/\Go O key a b c'.2.1 c'.2.2.1 c'.2.2.2.1/\o.size<c'.2.1.size))
         | .yield c'=>SameS st st'/\c'.1=none/\Go O key a b c'.2.1 c'.2.2.1 c'.2.2.2.1/\o.size<c'.2.1.size) st3:=λmg=>
        se (m:=o.size) hc hk3 hp g2' (by lia) λr st' hs' hr=>by
         cases r with
         | done c'=>exact⟨hs3.trans hs',hr⟩
         | yield c'=>exact⟨hs3.trans hs',hr⟩
       by_cases hmg:mg2>1
       ·
        rw[if_pos hmg]
        exact fin _
       ·
        rw[if_neg hmg]
        exact fin _
end lo
theorem yq (a b:Array Keyed):mHi a b=(do
 rule "list.sort.merge-hi"
 let all:=a.size+b.size
 let dn (o:Array Keyed) (i j:Nat):=a.extract 0 i++b.extract 0 j++o.reverse
 let fb (o:Array Keyed) (i j:Nat):=b.extract 0 j++a.extract 0 i++o.reverse
 let mut i:=a.size-1
 let mut j:=b.size
 let mut o:Array Keyed:=#[←elem' a i]
 if i==0 then return dn o i j
 if j==1 then return fb o i j
 let mut mg:=gallopOf (←get)
 for _ in [0:all] do
  let mut ac:=0
  let mut bc:=0
  for _ in [0:all] do
   let some aw ←lt' (←elem' b (j-1)) (←elem' a (i-1))|return dn o i j
   if aw then
    i:=i-1;o:=o.push (←elem' a i);ac:=ac+1;bc:=0
    if i==0 then return dn o i j
    if ac≥mg then break
   else
    j:=j-1;o:=o.push (←elem' b j);bc:=bc+1;ac:=0
    if j==1 then return fb o i j
    if bc≥mg then break
  rule "list.sort.gallop"
  mg:=mg+1
  for _ in [0:all] do
   if mg>1 then mg:=mg-1
   Wb mg
   let some p ←gal false (←elem' b (j-1)) a 0 i (i-1)|return dn o i j
   let k:=i-p
   ac:=k
   if k>0 then
    o:=o++(a.extract p i).reverse;i:=p
    if i==0 then return dn o i j
   j:=j-1;o:=o.push (←elem' b j)
   if j==1 then return fb o i j
   let some p ←gal true (←elem' a (i-1)) b 0 j (j-1)|return dn o i j
   let k:=j-p
   bc:=k
   if k>0 then
    o:=o++(b.extract p j).reverse;j:=p
    if j==1 then return fb o i j
    if j==0 then return dn o i j
   i:=i-1;o:=o.push (←elem' a i)
   if i==0 then return dn o i j
   if ac<7&&bc<7 then break
  mg:=mg+1
  Wb mg
 unsupported "internal:list.sort.merge-bound"):=rfl
theorem Ra {l:Array Keyed}{i n:Nat}{x:Keyed}(h:x∈(l.extract i n).toList.reverse): ∃k,∃hk:k<l.size,i<=k/\k<n/\x=l[k]:=by
 rw[List.mem_reverse,Jp] at h
 obtain⟨k,hk,h1,h2,h3⟩:=iw h
 exact⟨k,hk,h1,by lia,h3⟩
theorem Cw {l:Array Keyed}{n:Nat}{x:Keyed}(h:x∈(l.toList.take n).reverse): ∃k,∃hk:k<l.size,k<n/\x=l[k]:=cf (List.mem_reverse.mp h)
theorem Qv {l:Array Keyed}{p i:Nat}(h:p<=i):(l.toList.take i).reverse=(l.extract p i).toList.reverse++(l.toList.take p).reverse:=by
 rw[←Af1,Jp]
 congr 1
 have e:=(Ahc p (l.toList.take i)).symm
 rw[List.take_take,Aie h,List.drop_take] at e
 exact e
theorem Kk (l:Array Keyed)(i:Nat):(l.extract 0 i).toList=l.toList.take i:=by
 rw[Jp];rfl
section hi
variable {prog:Program}{w:World}{A:Around}{E:Value->Shared->Prop}{s:Shared}{O:KeyOrd}{key:Keyed->O.α}{D:Keyed->Prop}{κ:SortKind}{a b:Array Keyed}
def Dnw (O:KeyOrd)(key:Keyed->O.α)(x y:Keyed):Prop:=O.kle (key y) (key x)
abbrev HI (O:KeyOrd)(key:Keyed->O.α)(a b o:Array Keyed)(i j:Nat):Prop:=MI (Dnw O key) (a.toList++b.toList) o.toList (a.toList.take i).reverse (b.toList.take j).reverse
theorem HI.size {o:Array Keyed}{i j:Nat}(h:HI O key a b o i j)(hi:i<=a.size)(hj:j<=b.size):o.size+i+j=a.size+b.size:=by
 have:=h.perm.length_eq
 simp only[Ade,List.length_reverse,Aek,Ac6] at this
 lia
theorem MD.rev {R:Keyed->Keyed->Prop}{all l:List Keyed}(h:MD (λx y=>R y x) all l):MD R all l.reverse:=⟨(List.reverse_perm l).trans h.1,by rw[Aig];exact h.2⟩
structure Ho (O:KeyOrd)(key:Keyed->O.α)(a b o:Array Keyed)(i j:Nat):Prop where
 gi:HI O key a b o i j
 i0:0<i
 hi:i<=a.size
 j0:1<j
 hj:j<=b.size
theorem HI.pushA {o:Array Keyed}{i j:Nat}(g:HI O key a b o (i+1) j)(hi:i<a.size)(h: ∀k(hk:k<b.size),k<j->O.kle (key b[k]) (key a[i])):HI O key a b (o.push a[i]) i j:=by
 unfold HI at g ⊢
 rw[take_cons hi] at g
 rw[Ag6]
 refine g.left λy hy=>?_
 obtain⟨k,hk,h1,rfl⟩:=Cw hy
 exact h k hk h1
theorem HI.pushB {o:Array Keyed}{i j:Nat}(g:HI O key a b o i (j+1))(hj:j<b.size)(h: ∀k(hk:k<a.size),k<i->O.kle (key a[k]) (key b[j])):HI O key a b (o.push b[j]) i j:=by
 unfold HI at g ⊢
 rw[take_cons hj] at g
 rw[Ag6]
 refine g.right λy hy=>?_
 obtain⟨k,hk,h1,rfl⟩:=Cw hy
 exact h k hk h1
theorem HI.blockA {o:Array Keyed}{i j p:Nat}(g:HI O key a b o i j)(hp:p<=i)(h: ∀u(hu:u<a.size)k(hk:k<b.size),p<=u->u<i->k<j->O.kle (key b[k]) (key a[u])):HI O key a b (o++(a.extract p i).reverse) p j:=by
 unfold HI at g ⊢
 rw[Qv hp] at g
 rw[Ad4,Agj]
 refine g.lefts λx hx y hy=>?_
 obtain⟨u,hu,u1,u2,rfl⟩:=Ra hx
 obtain⟨k,hk,h1,rfl⟩:=Cw hy
 exact h u hu k hk u1 (by lia) h1
theorem HI.blockB {o:Array Keyed}{i j p:Nat}(g:HI O key a b o i j)(hp:p<=j)(h: ∀u(hu:u<b.size)k(hk:k<a.size),p<=u->u<j->k<i->O.kle (key a[k]) (key b[u])):HI O key a b (o++(b.extract p j).reverse) i p:=by
 unfold HI at g ⊢
 rw[Qv hp] at g
 rw[Ad4,Agj]
 refine g.rights λx hx y hy=>?_
 obtain⟨u,hu,u1,u2,rfl⟩:=Ra hx
 obtain⟨k,hk,h1,rfl⟩:=Cw hy
 exact h u hu k hk u1 (by lia) h1
theorem HI.endA {o:Array Keyed}{i j:Nat}(g:HI O key a b o i j)(hi:i=0):GF O key a b (a.extract 0 i++b.extract 0 j++o.reverse):=by
 subst hi
 unfold HI at g
 unfold GF
 rw[Ad4,Ad4,Agj,Kk,Kk]
 rw[Ahs,List.reverse_nil] at g
 have:=(g.doneB).rev
 rw[Af1,Ahg] at this
 rw[Ahs,List.nil_append]
 exact this
theorem HI.endB {o:Array Keyed}{i j:Nat}(g:HI O key a b o i j)(hj:j=0):GF O key a b (a.extract 0 i++b.extract 0 j++o.reverse):=by
 subst hj
 unfold HI at g
 unfold GF
 rw[Ad4,Ad4,Agj,Kk,Kk]
 rw[Ahs,List.reverse_nil] at g
 have:=(g.doneA).rev
 rw[Af1,Ahg] at this
 rw[Ahs,Aet]
 exact this
theorem HI.lastB {o:Array Keyed}{i j:Nat}(hp:MPre O key D a b)(g:HI O key a b o i j)(hj:j=1):GF O key a b (b.extract 0 j++a.extract 0 i++o.reverse):=by
 subst hj
 unfold HI at g
 unfold GF
 have hnb:=hp.nb
 rw[Ad4,Ad4,Agj,Kk,Kk]
 have:=(g.flip.last λy hy x hx=>?_).rev
 ·
  rw[Af1,Af1,Ahg,Ahg] at this
  exact this
 ·
  obtain⟨u,hu,u1,rfl⟩:=Cw hx
  obtain⟨k,hk,k1,rfl⟩:=Cw hy
  obtain rfl:u=0:=by lia
  exact Ad0 (hp.first (by lia) (by lia)) (Kt hp.ua 0 k (by lia) hk (by lia))
abbrev HC:=Option (Array Keyed)×Nat×Nat×Array Keyed×Nat×Nat×Nat
def yu (a b o:Array Keyed)(i j mg k k1:Nat):StateT SortSt Sem (ForInStep HC):=
 elem' a (i-1)>>= λx=>
 if(i-1==0)=true then pure (.done (some (a.extract 0 (i-1)++b.extract 0 j++(o.push x).reverse),i-1,j,o.push x,mg,k,k1))
 else if(decide (k<7)&&decide (k1<7))=true then pure (.done (none,i-1,j,o.push x,mg,k,k1))
 else pure (.yield (none,i-1,j,o.push x,mg,k,k1))
def zc (
    a b o:Array Keyed) (i j mg k c:Nat):StateT SortSt Sem (ForInStep HC):=
 elem' b (j-1)>>= λx=>
 if(j-1==1)=true then pure (.done (some (b.extract 0 (j-1)++a.extract 0 i++(o.push x).reverse),i,j-1,o.push x,mg,k,c))
 else elem' a (i-1)>>= λy=>gal true y b 0 (j-1) (j-1-1)>>= λr=>
  match r with
  |
   some p=>(if j-1-p>0 then
    (if(p==1)=true then pure (.done (some (b.extract 0 p++a.extract 0 i++(o.push x++(b.extract p (j-1)).reverse).reverse),i,p,o.push x++(b.extract p (j-1)).reverse,mg,k,j-1-p))
    else if(p==0)=true then pure (.done (some (a.extract 0 i++b.extract 0 p++(o.push x++(b.extract p (j-1)).reverse).reverse),i,p,o.push x++(b.extract p (j-1)).reverse,mg,k,j-1-p))
    else yu a b (o.push x++(b.extract p (j-1)).reverse) i p mg k (j-1-p))
   else yu a b (o.push x) i (j-1) mg k (j-1-p))
  | _=>pure (.done (some (a.extract 0 i++b.extract 0 (j-1)++(o.push x).reverse),i,j-1,o.push x,mg,k,c))
def zg (a b o:Array Keyed)(i j mg c d:Nat):StateT SortSt Sem (ForInStep HC):=
 Wb mg>>= λ_=>elem' b (j-1)>>= λx=>gal false x a 0 i (i-1)>>= λr=>
 match r with
 |
  some p=>(if i-p>0 then
   (if(p==0)=true then pure (.done (some (a.extract 0 p++b.extract 0 j++(o++(a.extract p i).reverse).reverse),p,j,o++(a.extract p i).reverse,mg,i-p,d))
   else zc a b (o++(a.extract p i).reverse) p j mg (i-p) d)
  else zc a b o i j mg (i-p) d)
 | _=>pure (.done (some (a.extract 0 i++b.extract 0 j++o.reverse),i,j,o,mg,c,d))
def Aaw (O:KeyOrd)(key:Keyed->O.α)(a b:Array Keyed)(m:Nat)(r:ForInStep HC):Prop:=match r with
 | .done c=>(∃x,c.1=some x/\GF O key a b x)∨(c.1=none/\Ho O key a b c.2.2.2.1 c.2.1 c.2.2.1/\m<c.2.2.2.1.size)
 | .yield c=>c.1=none/\Ho O key a b c.2.2.2.1 c.2.1 c.2.2.1/\m<c.2.2.2.1.size
theorem gj {o:Array Keyed}{i j mg k k1 m:Nat}{st:SortSt}(hp:MPre O key D a b)(g:Ho O key a b o i j)(hm:m<=o.size)(hx: ∀(hi:i-1<a.size)k(hk:k<b.size),k<j->O.kle (key b[k]) (key a[i-1]))
  {Q:ForInStep HC->SortSt->Prop} (hQ: ∀r,Aaw O key a b m r->Q r st):wpS (model prog w) A E s (yu a b o i j mg k k1) Q st:=by
 obtain⟨gi,i0,hi,j0,hj⟩:=g
 unfold yu
 refine Adj (Bf (show i-1<a.size by lia) _ ?_)
 have g1:=HI.pushA (i:=i-1) (by rw[show i-1+1=i by lia];exact gi) (by lia) (hx (by lia))
 have hz:(o.push (a[i-1]'(by lia))).size=o.size+1:=Afx ..
 by_cases e1:i-1=0
 ·
  rw[if_pos (by simpa using e1)]
  exact Ads (hQ _ (.inl ⟨_,rfl,g1.endA e1⟩))
 ·
  rw[if_neg (by simpa using e1)]
  have g2:Ho O key a b (o.push (a[i-1]'(by lia))) (i-1) j:=⟨g1,by lia,by lia,j0,hj⟩
  split
  · exact Ads (hQ _ (.inr ⟨rfl,g2,by show m<(o.push _).size;lia⟩))
  · exact Ads (hQ _ ⟨rfl,g2,by show m<(o.push _).size;lia⟩)
theorem fc {o:Array Keyed}{i j mg k c m:Nat}{st:SortSt}(hc:R3 prog w A s κ key D)(hk:kindOf st=κ)(hp:MPre O key D a b)(g:Ho O key a b o i j)(hm:m<=o.size)(hx: ∀(hj:j-1<b.size)k(hk:k<a.size),k<i->O.kle (key a[k]) (key b[j-1]))
  {Q:ForInStep HC->SortSt->Prop} (hQ: ∀r,Aaw O key a b m r->Q r st):wpS (model prog w) A E s (zc a b o i j mg k c) Q st:=by
 obtain⟨gi,i0,hi,j0,hj⟩:=g
 unfold zc
 refine Adj (Bf (show j-1<b.size by lia) _ ?_)
 have g1:=HI.pushB (j:=j-1) (by rw[show j-1+1=j by lia];exact gi) (by lia) (hx (by lia))
 have hz:(o.push (b[j-1]'(by lia))).size=o.size+1:=Afx ..
 by_cases e1:j-1=1
 ·
  rw[if_pos (by simpa using e1)]
  exact Ads (hQ _ (.inl ⟨_,rfl,g1.lastB hp e1⟩))
 ·
  rw[if_neg (by simpa using e1)]
  refine Adj (Bf (show i-1<a.size by lia) _ ?_)
  refine Adj (Vd hc hk (hp.dA (i-1) (by lia)) hp.db (by lia) (by lia) (λu v hu hv _ h2 _=>Kt hp.ub u v hu hv h2) λp hk1 h1 h2=>?_)
  simp only[Ahy,Nat.zero_add] at h1 h2
  dsimp only
  by_cases hk0:j-1-p>0
  ·
   rw[if_pos hk0]
   have g3:=g1.blockB (p:=p) (by lia) λu hu v hv a1 a2 a3=>Ad0 (Kt hp.ua v (i-1) hv (by lia) (by lia)) (h2 u hu a1 a2)
   by_cases e2:p=1
   ·
    rw[if_pos (by simpa using e2)]
    exact Ads (hQ _ (.inl ⟨_,rfl,g3.lastB hp e2⟩))
   ·
    rw[if_neg (by simpa using e2)]
    by_cases e3:p=0
    ·
     rw[if_pos (by simpa using e3)]
     exact Ads (hQ _ (.inl ⟨_,rfl,g3.endB e3⟩))
    ·
     rw[if_neg (by simpa using e3)]
     refine gj hp ⟨g3,i0,hi,by lia,by lia⟩ ?_ (λhi v hv a1=>Ad5 (h1 v hv (by lia) a1)) hQ
     rw[Ag7];lia
  ·
   rw[if_neg hk0]
   exact gj hp ⟨g1,i0,hi,by lia,by lia⟩ (by lia) (λhi v hv a1=>Ad5 (h1 v hv (by lia) (by lia))) hQ
theorem o6 {o:Array Keyed}{i j mg c d m:Nat}{st:SortSt}(hc:R3 prog w A s κ key D)(hk:kindOf st=κ)(hp:MPre O key D a b)(g:Ho O key a b o i j)(hm:m<=o.size)
  {Q:ForInStep HC->SortSt->Prop} (hQ: ∀r st',SameS st st'->Aaw O key a b m r->Q r st'):wpS (model prog w) A E s (zg a b o i j mg c d) Q st:=by
 obtain⟨gi,i0,hi,j0,hj⟩:=g
 unfold zg
 refine Adj (Nw λst' hs=>?_)
 have hk':kindOf st'=κ:=hs.1.trans hk
 refine Adj (Bf (show j-1<b.size by lia) _ ?_)
 refine Adj (Vd hc hk' (hp.dB (j-1) (by lia)) hp.da (by lia) (by lia) (λu v hu hv _ h2 _=>Kt hp.ua u v hu hv h2) λp hk1 h1 h2=>?_)
 simp only[Adz,Ae5,Nat.zero_add] at h1 h2
 dsimp only
 have hx: ∀(hj:j-1<b.size)v(hv:v<a.size),v<p->O.kle (key a[v]) (key b[j-1]):=λhj v hv a1=>h1 v hv (by lia) a1
 by_cases hk0:i-p>0
 ·
  rw[if_pos hk0]
  have g3:=gi.blockA (p:=p) (by lia) λu hu v hv a1 a2 a3=>Ad0 (Kt hp.ub v (j-1) hv (by lia) (by lia)) (Ad5 (h2 u hu a1 a2))
  by_cases e1:p=0
  ·
   rw[if_pos (by simpa using e1)]
   exact Ads (hQ _ _ hs (.inl ⟨_,rfl,g3.endA e1⟩))
  ·
   rw[if_neg (by simpa using e1)]
   refine fc hc hk' hp ⟨g3,by lia,by lia,j0,hj⟩ ?_ hx λr hr=>hQ r _ hs hr
   rw[Ag7];lia
 ·
  rw[if_neg hk0]
  exact fc hc hk' hp ⟨gi,i0,hi,j0,hj⟩ hm (λhj v hv a1=>hx hj v hv (by lia)) λr hr=>hQ r _ hs hr
set_option smartUnfolding false in
theorem vc {st:SortSt}(hc:R3 prog w A s κ key D)(hk:kindOf st=κ)(hp:MPre O key D a b){Q:Array Keyed->SortSt->Prop}(hQ: ∀r st',SameS st st'->GF O key a b r->Q r st'):wpS (model prog w) A E s (mHi a b) Q st:=by
 rw[yq]
 refine Adj (wpS_lift (Af2 ⟨rfl,?_⟩))
 have hna:=hp.na
 have hnb:=hp.nb
 refine Adj (Bf (show a.size-1<a.size by lia) _ ?_)
 have g0:HI O key a b #[] (a.size-1+1) b.size:=by
  unfold HI
  rw[Af5 (by rw[Ac6];lia),Af5 (by rw[Ac6];lia)]
  refine⟨?_,.nil,(λ_ z=>nomatch z),(λ_ z=>nomatch z),?_,?_⟩
  ·
   show([]++(a.toList.reverse++b.toList.reverse)).Perm _
   rw[List.nil_append]
   exact List.Perm.append (List.reverse_perm _) (List.reverse_perm _)
  · rw[Aig];exact hp.ua
  · rw[Aig];exact hp.ub
 have g1:HI O key a b #[a[a.size-1]'(by lia)] (a.size-1) b.size:=g0.pushA (by lia) λk hk _=>Ad0 (Kt hp.ub k (b.size-1) hk (by lia) (by lia)) (hp.last (by lia) (by lia))
 by_cases e1:a.size-1=0
 ·
  dsimp only
  rw[if_pos (by simpa using e1)]
  exact Ads (hQ _ _ (.refl _) (g1.endA e1))
 ·
  by_cases e2:b.size=1
  ·
   dsimp only
   rw[if_neg (by simpa using e1),if_pos (by simpa using e2)]
   exact Ads (hQ _ _ (.refl _) (g1.lastB hp e2))
  ·
   dsimp only
   rw[if_neg (by simpa using e1),if_neg (by simpa using e2)]
   refine Adj (wpS_get ?_)
   refine Adj (Aip (Af4 (a:=0)
    (I:=λx c st'=>SameS st st'/\c.1=none/\Ho O key a b c.2.2.2.1 c.2.1 c.2.2.1/\x<c.2.2.2.1.size)
    (Q:=λc st'=>SameS st st'/\ ∃r,c.1=some r/\GF O key a b r) ?step ?fin ?init) ?post)
   case init=>exact⟨.refl _,rfl,⟨g1,by show 0<a.size-1;lia,by show a.size-1<=a.size;lia,by show 1<b.size;lia,Adb _⟩,by show 0<1;lia⟩
   case fin=>
    rintro⟨_,i,j,o,mg⟩ st' ⟨hs,rfl,g,hx⟩
    have:=g.gi.size g.hi g.hj
    have:=g.i0;have:=g.j0
    dsimp only at*
    lia
   case post=>
    rintro⟨_,i,j,o,mg⟩ st' ⟨hs,r,rfl,hr⟩
    exact Ads (hQ _ _ hs hr)
   case step=>
    rintro x ⟨_,i,j,o,mg⟩ st' _ hx ⟨hs,rfl,g,hxo⟩
    have hk':kindOf st'=κ:=hs.1.trans hk
    dsimp only at g hxo ⊢
    refine Adj (Aip (Kr (st:=st')
     (I:=λt c=>c.1=none/\Ho O key a b c.2.2.2.1 c.2.1 c.2.2.1/\o.size+min t 1<=c.2.2.2.1.size)
     (Q:=λc st''=>st''=st'/\((∃r,c.1=some r/\GF O key a b r)∨(c.1=none/\Ho O key a b c.2.2.2.1 c.2.1 c.2.2.1/\o.size<c.2.2.2.1.size))) ?s1 ?e1 ?i1) ?p1)
    case i1=>exact⟨rfl,g,by show o.size+min 0 1<=o.size;lia⟩
    case e1=>
     rintro⟨_,i',j',o',c',d'⟩ ⟨rfl,g',h'⟩
     exact⟨rfl,.inr ⟨rfl,g',by dsimp only at h' ⊢;lia⟩⟩
    case s1=>
     rintro t ⟨_,i',j',o',c',d'⟩ ht ⟨rfl,g',h'⟩
     obtain⟨gi,i0,hi,j0,hj⟩:=g'
     dsimp only at gi i0 hi j0 hj h' ⊢
     refine Adj (Bf (show j'-1<b.size by lia) _ (Adj (Bf (show i'-1<a.size by lia) _ (Adj (Lu hc hk' (hp.dB _ (by lia)) (hp.dA _ (by lia)) _ ?_)))))
     dsimp only
     cases e:O.blt (key (b[j'-1]'(by lia))) (key (a[i'-1]'(by lia))) with
     |
      true=>
      rw[if_pos rfl]
      refine Adj (Bf (show i'-1<a.size by lia) _ ?_)
      have g2:=HI.pushA (i:=i'-1) (by rw[show i'-1+1=i' by lia];exact gi) (by lia) λk hk h1=>Ad0 (Kt hp.ub k (j'-1) hk (by lia) (by lia)) (Ad5 e)
      have hz:(o'.push (a[i'-1]'(by lia))).size=o'.size+1:=Afx ..
      by_cases e3:i'-1=0
      ·
       rw[if_pos (by simpa using e3)]
       exact Ads ⟨rfl,rfl,.inl ⟨_,rfl,g2.endA e3⟩⟩
      ·
       rw[if_neg (by simpa using e3)]
       have g3:Ho O key a b (o'.push (a[i'-1]'(by lia))) (i'-1) j':=⟨g2,by lia,by lia,j0,hj⟩
       split
       · exact Ads ⟨rfl,rfl,.inr ⟨rfl,g3,by show o.size<(o'.push _).size;lia⟩⟩
       · exact Ads ⟨rfl,rfl,g3,by show o.size+min (t+1) 1<=(o'.push _).size;lia⟩
     |
      false=>
      rw[if_neg (by decide)]
      refine Adj (Bf (show j'-1<b.size by lia) _ ?_)
      have g2:=HI.pushB (j:=j'-1) (by rw[show j'-1+1=j' by lia];exact gi) (by lia) λk hk h1=>Ad0 (Kt hp.ua k (i'-1) hk (by lia) (by lia)) (show O.kle (key (a[i'-1]'(by lia))) (key (b[j'-1]'(by lia))) from e)
      have hz:(o'.push (b[j'-1]'(by lia))).size=o'.size+1:=Afx ..
      by_cases e3:j'-1=1
      ·
       rw[if_pos (by simpa using e3)]
       exact Ads ⟨rfl,rfl,.inl ⟨_,rfl,g2.lastB hp e3⟩⟩
      ·
       rw[if_neg (by simpa using e3)]
       have g3:Ho O key a b (o'.push (b[j'-1]'(by lia))) i' (j'-1):=⟨g2,i0,hi,by lia,by lia⟩
       split
       · exact Ads ⟨rfl,rfl,.inr ⟨rfl,g3,by show o.size<(o'.push _).size;lia⟩⟩
       · exact Ads ⟨rfl,rfl,g3,by show o.size+min (t+1) 1<=(o'.push _).size;lia⟩
    case p1=>
     rintro⟨_,i1,j1,o1,c1,d1⟩ st'' ⟨rfl,⟨r,rfl,hr⟩|⟨rfl,g1',h1'⟩⟩
     · exact Ads ⟨hs,r,rfl,hr⟩
     ·
      dsimp only at g1' h1' ⊢
      refine Adj (wpS_lift (Af2 ⟨rfl,?_⟩))
      refine Adj (Aip (Af4 (a:=0)
       (I:=λt c st'=>SameS st st'/\c.1=none/\Ho O key a b c.2.2.2.1 c.2.1 c.2.2.1/\o.size<c.2.2.2.1.size)
       (Q:=λc st'=>SameS st st'/\((∃r,c.1=some r/\GF O key a b r)∨(c.1=none/\Ho O key a b c.2.2.2.1 c.2.1 c.2.2.1/\o.size<c.2.2.2.1.size))) ?s2 ?e2 ?i2) ?p2)
      case i2=>exact⟨hs,rfl,g1',h1'⟩
      case e2=>exact λc st' h=>⟨h.1,.inr h.2⟩
      case p2=>
       rintro⟨_,i2,j2,o2,mg2,c2,d2⟩ st3 ⟨hs3,⟨r,rfl,hr⟩|⟨rfl,g2',h2'⟩⟩
       · exact Ads ⟨hs3,r,rfl,hr⟩
       ·
        dsimp only at g2' h2' ⊢
        refine Adj (Nw λst4 hs4=>Ads ⟨hs3.trans hs4,rfl,g2',by dsimp only;lia⟩)
      case s2=>
       rintro t ⟨_,i2,j2,o2,mg2,c2,d2⟩ st3 _ ht ⟨hs3,rfl,g2',h2'⟩
       have hk3:kindOf st3=κ:=hs3.1.trans hk
       dsimp only at g2' h2' ⊢
       have fin: ∀mg,wpS (model prog w) A E s (zg a b o2 i2 j2 mg c2 d2) (λr st'=>match r with
         | .done c'=>SameS st st'/\((∃r,c'.1=some r/\GF O key a b r)∨(c'.1=none/\Ho O key a b c'.2.2.2.1 c'.2.1 c'.2.2.1/\o.size<c'.2.2.2.1.size))
         | .yield c'=>SameS st st'/\c'.1=none/\Ho O key a b c'.2.2.2.1 c'.2.1 c'.2.2.1/\o.size<c'.2.2.2.1.size) st3:=λmg=>
        o6 (m:=o.size) hc hk3 hp g2' (by lia) λr st' hs' hr=>by
         cases r with
         | done c'=>exact⟨hs3.trans hs',hr⟩
         | yield c'=>exact⟨hs3.trans hs',hr⟩
       by_cases hmg:mg2>1
       ·
        rw[if_pos hmg]
        exact fin _
       ·
        rw[if_neg hmg]
        exact fin _
end hi
theorem yj (i:Nat):mergeAt' i=(do
 let z ←get
 let (some (p,n,c),some (q,m,_)):=((pendingOf z)[i]?,(pendingOf z)[i+1]?)|unsupported "internal:list.sort.pending"
 set (SortSt.mk' (kindOf z) (arrOf z) (((pendingOf z).setIfInBounds i (p,n+m,c)).eraseIdxIfInBounds (i+1)) (gallopOf z) (failedOf z))
 let some k ←gal false (←elem' (arrOf z) q) (arrOf z) p n 0|return false
 let (p,n):=(p+k,n-k)
 if n==0 then return true
 let some m ←gal true (←elem' (arrOf z) (p+n-1)) (arrOf z) q m (m-1)|return false
 if m==0 then return true
 let x:=(arrOf z).extract p q
 let y:=(arrOf z).extract q (q+m)
 let r ←if n<=m then mLo x y else mHi x y
 modify λz=>setArr z (r.toList.zipIdx.foldl (λa(u,j)=>a.setIfInBounds (p+j) u) (arrOf z))
 return (failedOf (←get)).isNone):=rfl
section
variable {prog:Program}{w:World}{A:Around}{E:Value->Shared->Prop}{s:Shared}{O:KeyOrd}{key:Keyed->O.α}{D:Keyed->Prop}{κ:SortKind}
theorem ui {M:Model}{A:Around}{E:Value->Shared->Prop}{s:Shared}{st z:SortSt}{Q:PUnit->SortSt->Prop}(h:Q ⟨⟩ z):wpS M A E s (set z:StateT SortSt Sem PUnit) Q st:=by
 unfold wpS;rw[StateT.run_set];exact Ac4 ⟨rfl,h⟩
theorem oh {l:Array Keyed}{i:Nat}(h:i<l.size):l[i]∈l.toList:=by simp
theorem gz {st:SortSt}{ar:Array Keyed}{i:Nat}{P W:List Keyed}{x:Keyed}(h:ar.toList=P++x::W)(hi:i=P.length):Tells (model prog w) A E s st (elem' ar i) x:=by
 subst hi
 obtain⟨l⟩:=ar
 cases (h:l=P++x::W)
 have hl:P.length<(P++x::W).toArray.size:=by simp
 have e:=Bf (prog:=prog) (w:=w) (A:=A) (E:=E) (s:=s) (st:=st) hl
 have ex:(P++x::W).toArray[P.length]=x:=by simp
 rw[ex] at e
 exact e
theorem Sn {ar:Array Keyed}{P Z W:List Keyed}(h:ar.toList=P++(Z++W))(k:Nat)(hk:k<Z.length): ∃hi:P.length+k<ar.size,Z[k]=ar[P.length+k]:=by
 obtain⟨l⟩:=ar
 cases (h:l=P++(Z++W))
 refine⟨by simp;lia,?_⟩
 simp[List.getElem_append_right,List.getElem_append_left,hk]
theorem ck {left:Bool}{k0:Keyed}{ar:Array Keyed}{bs n h:Nat}{P Z W:List Keyed}{st:SortSt}(hc:R3 prog w A s κ key D)(hk:kindOf st=κ)(h0:D k0)(hD: ∀x∈ar.toList,D x)
  (ha:ar.toList=P++(Z++W)) (hb:bs=P.length) (hn:n=Z.length) (hh:h<n) (hs:Z.Pairwise (Upw O key)) {Q:Option Nat->SortSt->Prop}
  (hQ: ∀k Z1 Z2,Z=Z1++Z2->Z1.length=k->(∀x∈Z1,if left=true then O.klt (key x) (key k0) else O.kle (key x) (key k0))->
   (∀x∈Z2,if left=true then O.kle (key k0) (key x) else O.klt (key k0) (key x))->Q (some k) st):wpS (model prog w) A E s (gal left k0 ar bs n h) Q st:=by
 subst hb hn
 have hz:ar.size=P.length+(Z.length+W.length):=by rw[←Ac6,ha,Ade,Ade]
 refine Vd hc hk h0 hD (by lia) hh (λi j hi hj h1 h2 h3=>?_) λk hk1 h1 h2=>?_
 ·
  obtain⟨_,e1⟩:=Sn ha (i-P.length) (by lia)
  obtain⟨_,e2⟩:=Sn ha (j-P.length) (by lia)
  have ei:P.length+(i-P.length)=i:=by lia
  have ej:P.length+(j-P.length)=j:=by lia
  simp only[ei] at e1
  simp only[ej] at e2
  rw[←e1,←e2]
  by_cases e:i=j
  · subst e;exact Aeg _
  · exact(List.pairwise_iff_getElem.mp hs) _ _ (by lia) (by lia) (by lia)
 ·
  refine hQ k (Z.take k) (Z.drop k) (Ahc k Z).symm (by rw[Aek];lia) (λx hx=>?_) (λx hx=>?_)
  ·
   obtain⟨u,hu,rfl⟩:=Agq hx
   rw[Aek] at hu
   obtain⟨hi,e⟩:=Sn ha u (by lia)
   rw[Ag3,e]
   exact h1 _ hi (by lia) (by lia)
  ·
   obtain⟨u,hu,rfl⟩:=Agq hx
   rw[Afg] at hu
   obtain⟨hi,e⟩:=Sn ha (k+u) (by lia)
   rw[Ag4,e]
   exact h2 _ hi (by lia) (by lia)
theorem Z9 {ar:Array Keyed}{P Z W:List Keyed}(h:ar.toList=P++(Z++W)){i j:Nat}(hi:i=P.length)(hj:j=P.length+Z.length):(ar.extract i j).toList=Z:=by
 subst hi hj
 rw[Jp,h,List.drop_left,Nat.add_sub_cancel_left,List.take_left]
theorem m8 {α:Type}: ∀{l:List α}{i:Nat}{x y:α},l[i]?=some x->l[i+1]?=some y-> ∃L T,l=L++x::y::T/\L.length=i
 | [],_,_,_,h,_=>by simp at h
 | [z],0,_,_,h,h2=>by simp at h2
 |
  z::z2::l,0,x,y,h,h2=>by
  simp at h h2
  exact⟨[],l,by rw[h,h2];rfl,rfl⟩
 |
  z::l,i+1,x,y,h,h2=>by
  obtain⟨L,T,rfl,e⟩:=m8 (l:=l) (i:=i) (x:=x) (y:=y) (by simpa using h) (by simpa using h2)
  exact⟨z::L,T,rfl,by rw[Ad2,e]⟩
theorem h8 {α:Type}{ar:Array α}{L T:List α}{x y z:α}{i:Nat}(h:ar.toList=L++x::y::T)(hi:i=L.length):((ar.setIfInBounds i z).eraseIdxIfInBounds (i+1)).toList=L++z::T:=by
 subst hi
 obtain rfl:ar=(L++x::y::T).toArray:=Af3.mp (by rw[h])
 have e:((L++x::y::T).toArray.setIfInBounds L.length z)=(L++z::y::T).toArray:=by
  apply Af3.mp
  rw[Array.toList_setIfInBounds,Af0,Af0,List.set_append_right _ _ (Adb _),Nat.sub_self]
  rfl
 rw[e,Array.eraseIdxIfInBounds,Aiw (by simp),Array.toList_eraseIdx,Af0,List.eraseIdx_append_of_length_le (by lia),show L.length+1-L.length=1 by lia]
 rfl
theorem vd {i:Nat}{st:SortSt}{L T:List (Nat×Nat×Nat)}{p n c q m e:Nat}{l1 X Y l2:List Keyed}(hc:R3 prog w A s κ key D)(hk:kindOf st=κ)(hf:failedOf st=none)
  (hpd:(pendingOf st).toList=L++(p,n,c)::(q,m,e)::T) (hi:L.length=i) (ha:(arrOf st).toList=l1++(X++(Y++l2))) (hp:p=l1.length) (hn:n=X.length) (hq:q=l1.length+X.length) (hm:m=Y.length)
  (h1:1<=X.length) (h2:1<=Y.length) (hX:X.Pairwise (Upw O key)) (hY:Y.Pairwise (Upw O key)) (hD: ∀x∈(arrOf st).toList,D x) {Q:Bool->SortSt->Prop}
  (hQ: ∀st' M,kindOf st'=κ->failedOf st'=none->(pendingOf st').toList=L++(p,n+m,c)::T->(arrOf st').toList=l1++(M++l2)->M.Perm (X++Y)->M.Pairwise (Upw O key)->Q true st'):
  wpS (model prog w) A E s (mergeAt' i) Q st:=by
 have g1:(pendingOf st)[i]?=some (p,n,c):=by rw[←Aef,hpd,←hi];simp
 have g2:(pendingOf st)[i+1]?=some (q,m,e):=by rw[←Aef,hpd,←hi];simp
 rw[yj]
 refine Adj (wpS_get ?_)
 dsimp only
 rw[g1,g2]
 dsimp only
 refine Adj (ui ?_)
 have hpd':=h8 (z:=(p,n+m,c)) hpd hi.symm
 have hk2:kindOf (SortSt.mk' (kindOf st) (arrOf st) (((pendingOf st).setIfInBounds i (p,n+m,c)).eraseIdxIfInBounds (i+1)) (gallopOf st) (failedOf st))=κ:=hk
 obtain⟨y0,Y',rfl⟩: ∃y Y',Y=y::Y':=by
  cases Y with
  | nil=>simp at h2
  | cons y Y'=>exact⟨y,Y',rfl⟩
 refine Adj (gz (P:=l1++X) (x:=y0) (W:=Y'++l2) (by rw[ha];simp) (by rw[Ade];exact hq) _ ?_)
 refine Adj (ck (k0:=y0) (h:=0) hc hk2 (hD _ (by rw[ha];simp)) hD ha hp hn (by lia) hX λk X1 X2 e1 e2 b1 b2=>?_)
 subst e1
 simp only[Adz,Ae5] at b1 b2
 dsimp only
 have dn:(∀x∈X1++X2,∀y∈y0::Y',O.kle (key x) (key y))->Q true (SortSt.mk' (kindOf st) (arrOf st) (((pendingOf st).setIfInBounds i (p,n+m,c)).eraseIdxIfInBounds (i+1)) (gallopOf st) (failedOf st)):=λhxy=>
  hQ _ (X1++X2++y0::Y') hk hf hpd' (by show(arrOf st).toList=_;rw[ha];simp) (.refl _) (by rw[Aer];exact⟨hX,hY,hxy⟩)
 have uy: ∀y∈y0::Y',O.kle (key y0) (key y):=λy hy=>by
  rcases Ado.mp hy with rfl|hy
  · exact Aeg _
  · exact(List.pairwise_cons.mp hY).1 y hy
 by_cases e3:n-k=0
 ·
  rw[if_pos (by simpa using e3)]
  refine Ads (dn λx hx y hy=>?_)
  rw[Ade] at hn
  have:X2=[]:=Ahe (by lia)
  subst this
  rw[Aet] at hx
  exact Ad0 (b1 x hx) (uy y hy)
 ·
  rw[if_neg (by simpa using e3)]
  rw[Ade] at hn
  have hX2:X2≠[]:=λz=>by rw[z] at hn;simp at hn;lia
  obtain⟨X3,xl,rfl⟩: ∃X3 xl,X2=X3++[xl]:=⟨_,_,(List.dropLast_concat_getLast hX2).symm⟩
  have hn':n=X1.length+(X3.length+1):=by rw[hn];simp
  refine Adj (gz (P:=l1++(X1++X3)) (x:=xl) (W:=(y0::Y')++l2) (by rw[ha];simp) (by rw[Ade,Ade];lia) _ ?_)
  refine Adj (ck (k0:=xl) (h:=m-1) (P:=l1++(X1++(X3++[xl]))) (W:=l2) hc hk2 (hD _ (by rw[ha];simp)) hD (by rw[ha];simp) (by rw[Ade];exact hq) hm (by lia) hY λk2 Y1 Y2 e4 e5 c1 c2=>?_)
  simp only[Ahy] at c1 c2
  dsimp only
  have ux: ∀x∈X1++(X3++[xl]),O.kle (key x) (key xl):=λx hx=>by
   rw[←Age] at hx hX
   rcases Adq.mp hx with hx|hx
   · exact(Aer.mp hX).2.2 x hx xl (by simp)
   · rw[Ac9.mp hx];exact Aeg _
  by_cases e6:k2=0
  ·
   rw[if_pos (by simpa using e6)]
   refine Ads (dn λx hx y hy=>?_)
   have:Y1=[]:=Ahe (by lia)
   subst this
   rw[e4] at hy
   exact Ad0 (ux x hx) (c2 y hy)
  ·
   rw[if_neg (by simpa using e6)]
   have x1:((arrOf st).extract (p+k) q).toList=X3++[xl]:=Z9 (P:=l1++X1) (W:=y0::Y'++l2) (by rw[ha];simp) (by rw[Ade];lia) (by simp at hq ⊢;lia)
   have y1:((arrOf st).extract q (q+k2)).toList=Y1:=Z9 (P:=l1++(X1++(X3++[xl]))) (W:=Y2++l2) (by rw[ha,e4];simp) (by rw[Ade];exact hq) (by rw[Ade];lia)
   have pw:=Aer.mp hX
   rw[e4] at hY
   have pwy:=Aer.mp hY
   have hsx:((arrOf st).extract (p+k) q).size=X3.length+1:=by rw[←Ac6,x1];simp
   have hsy:((arrOf st).extract q (q+k2)).size=Y1.length:=by rw[←Ac6,y1]
   have hpre:MPre O key D ((arrOf st).extract (p+k) q) ((arrOf st).extract q (q+k2)):=by
    refine⟨by rw[x1];exact pw.2.1,by rw[y1];exact pwy.1,λx hx=>hD x ?_,λx hx=>hD x ?_,by lia,by lia,λa1 a2=>?_,λa1 a2=>?_⟩
    · rw[x1] at hx;rw[ha];exact Adg _ (Ae4 _ (Adg _ hx))
    · rw[y1] at hx;rw[ha,e4];exact Adg _ (Adg _ (Ae4 _ (Ae4 _ hx)))
    ·
     have m1:((arrOf st).extract (p+k) q)[0]∈X3++[xl]:=by rw[←x1];exact oh _
     have m2:((arrOf st).extract q (q+k2))[0]=y0:=by
      have:((arrOf st).extract q (q+k2)).toList[0]?=some y0:=by
       rw[y1]
       cases Y1 with
       | nil=>exact absurd e5.symm e6
       | cons z Z=>simp at e4;rw[e4.1];rfl
      rw[Aef,Aem a2] at this
      exact Adt this
     rw[m2]
     exact Ad5 (b2 _ m1)
    ·
     have m1:((arrOf st).extract (p+k) q)[((arrOf st).extract (p+k) q).size-1]=xl:=by
      have:((arrOf st).extract (p+k) q).toList[((arrOf st).extract (p+k) q).size-1]?=some xl:=by
       rw[x1,hsx];simp
      rw[Aef,Aem a1] at this
      exact Adt this
     have m2:((arrOf st).extract q (q+k2))[((arrOf st).extract q (q+k2)).size-1]∈Y1:=by rw[←y1];exact oh _
     rw[m1]
     exact Ad5 (c1 _ m2)
   have fin: ∀r st',SameS (SortSt.mk' (kindOf st) (arrOf st) (((pendingOf st).setIfInBounds i (p,n+m,c)).eraseIdxIfInBounds (i+1)) (gallopOf st) (failedOf st)) st'->GF O key ((arrOf st).extract (p+k) q) ((arrOf st).extract q (q+k2)) r->
     wpS (model prog w) A E s (do modify λz=>setArr z (r.toList.zipIdx.foldl (λa(x:Keyed×Nat)=>a.setIfInBounds (p+k+x.2) x.1) (arrOf z));let z ←get;pure (failedOf z).isNone) Q st':=λr st' hs hr=>by
    refine Adj (Aiv (Adj (wpS_get ?_)))
    have hfs:failedOf st'=none:=hs.2.2.2.trans hf
    show wpS (model prog w) A E s (pure (failedOf st').isNone) Q _
    rw[hfs]
    unfold GF at hr
    rw[x1,y1] at hr
    have har:arrOf st'=((l1++X1)++(((X3++[xl])++Y1)++(Y2++l2))).toArray:=by
     apply Af3.mp
     have:arrOf st'=arrOf st:=hs.2.1
     rw[this,ha,e4];simp
    have hput:=Us (p+k) r.toList 0 (l1++X1) ((X3++[xl])++Y1) (Y2++l2) (by rw[Ade];lia) hr.1.length_eq.symm
    refine Ads (hQ _ (X1++(r.toList++Y2)) (hs.1.trans hk) hfs (by show(pendingOf st').toList=_;rw[show pendingOf st'=_ from hs.2.2.1];exact hpd') ?_ ?_ ?_)
    ·
     show(r.toList.zipIdx.foldl _ (arrOf st')).toList=_
     rw[har,hput]
     simp
    ·
     rw[e4]
     have:=(hr.1.append_right Y2).append_left X1
     simpa using this
    ·
     have mr: ∀x∈r.toList,x∈X3++[xl]∨x∈Y1:=λx hx=>Adq.mp (hr.1.mem_iff.mp hx)
     rw[Aer,Aer]
     refine⟨pw.1,⟨hr.2,pwy.2.1,λx hx y hy=>?_⟩,λx hx y hy=>?_⟩
     ·
      rcases mr x hx with hx|hx
      · exact Ad0 (ux x (Adg _ hx)) (c2 y hy)
      · exact pwy.2.2 x hx y hy
     ·
      rcases Adq.mp hy with hy|hy
      ·
       rcases mr y hy with hy|hy
       · exact pw.2.2 x hx y hy
       · exact Ad0 (b1 x hx) (uy y (by rw[e4];exact Ae4 _ hy))
      · exact Ad0 (b1 x hx) (uy y (by rw[e4];exact Adg _ hy))
   by_cases e7:n-k<=k2
   ·
    rw[if_pos e7]
    exact Adj (xg hc hk2 hpre fin)
   ·
    rw[if_neg e7]
    exact Adj (vc hc hk2 hpre fin)
end
section
variable {prog:Program}{w:World}{A:Around}{E:Value->Shared->Prop}{s:Shared}{O:KeyOrd}{key:Keyed->O.α}{D:Keyed->Prop}{κ:SortKind}{a₀:Array Keyed}{pd:Array (Nat×Nat×Nat)}{lo:Nat}
def kb {O:KeyOrd}(key:Keyed->O.α)(p:Array Keyed)(i:Nat):O.α:=key (p.getD i (Value.none,Value.none))
def UpS {O:KeyOrd}(key:Keyed->O.α)(p:Array Keyed)(lo hi:Nat):Prop:=∀i j,lo<=i->i<=j->j<hi->O.kle (kb key p i) (kb key p j)
def DnS {O:KeyOrd}(key:Keyed->O.α)(p:Array Keyed)(lo hi:Nat):Prop:=∀i j,lo<=i->i<=j->j<hi->O.kle (kb key p j) (kb key p i)
theorem L8 {p q:Array Keyed}{i j:Nat}(h:p[i]?=q[j]?):kb key p i=kb key q j:=by
 unfold kb
 rw[Aga,Aga,h]
theorem fj {p:Array Keyed}{i j:Nat}(hj:j<=p.size)(k:Nat):kb key (mirror p i j ((j-i)/2)) k=if i<=k/\k<j then kb key p (i+j-1-k) else kb key p k:=by
 have e:=getElem?_mirror_all (xs:=p) (i:=i) hj k
 by_cases h:i<=k/\k<j
 · rw[if_pos h] at e ⊢;exact L8 e
 · rw[if_neg h] at e ⊢;exact L8 e
theorem Pm {p:Array Keyed}{i j:Nat}(hj:j<=p.size)(heq: ∀k,i<=k->k<j->kb key p k=kb key p (j-1))(k:Nat):kb key (mirror p i j ((j-i)/2)) k=kb key p k:=by
 rw[fj hj]
 split
 · rw[heq _ (by lia) (by lia),heq k (by lia) (by lia)]
 · rfl
structure Bs (κ:SortKind)(a₀:Array Keyed)(pd:Array (Nat×Nat×Nat))(lo:Nat)(st:SortSt):Prop where
 perm:(arrOf st).Perm a₀
 kind:kindOf st=κ
 failed:failedOf st=none
 pend:pendingOf st=pd
 pre: ∀i,i<lo->(arrOf st)[i]?=a₀[i]?
theorem Bs.size {st:SortSt}(h:Bs κ a₀ pd lo st):(arrOf st).size=a₀.size:=h.perm.size_eq
theorem Bs.rev {st:SortSt}(h:Bs κ a₀ pd lo st){i j:Nat}(hi:lo<=i)(hj:j<=a₀.size):Bs κ a₀ pd lo (setArr st (mirror (arrOf st) i j ((j-i)/2))):=
 ⟨(
  mirror_perm _ _ _ _).trans h.perm,h.kind,h.failed,h.pend,λk hk=>by
  show(mirror (arrOf st) i j ((j-i)/2))[k]?=_
  rw[getElem?_mirror_all (by rw[h.size];exact hj),if_neg (by lia)];exact h.pre k hk⟩
theorem Bs.bub {st:SortSt}(h:Bs κ a₀ pd lo st){k d:Nat}(hk:k<a₀.size)(hd:lo+d<=k):Bs κ a₀ pd lo (setArr st (bubble (arrOf st) k d)):=
 ⟨(
  bubble_perm _ _ _).trans h.perm,h.kind,h.failed,h.pend,λi hi=>by
  show(bubble (arrOf st) k d)[i]?=_
  rw[getElem?_bubble (by rw[h.size];exact hk) d (by lia),if_neg (by lia),if_neg (by lia)];exact h.pre i hi⟩
theorem aj {st:SortSt}{i j:Nat}{Q:Option Bool->SortSt->Prop}(hc:R3 prog w A s κ key D)(hD: ∀x∈a₀.toList,D x)(hB:Bs κ a₀ pd lo st)(hi:i<a₀.size)(hj:j<a₀.size)
  (h:Q (some (O.blt (kb key (arrOf st) i) (kb key (arrOf st) j))) st):wpS (model prog w) A E s (ltAt' i j) Q st:=by
 have hz:=hB.size
 have hm: ∀k(hk:k<(arrOf st).size),D (arrOf st)[k]/\kb key (arrOf st) k=key (arrOf st)[k]:=λk hk=>
  ⟨hD _ ((Agi.mp hB.perm).mem_iff.mp (by simp)),by unfold kb;simp[Array.getD,hk]⟩
 rw[ltAt'_eq]
 refine Adj (wpS_get ?_)
 refine Adj (Bf (show i<(arrOf st).size by lia) _ (Adj (Bf (show j<(arrOf st).size by lia) _ ?_)))
 rw[(hm i (by lia)).2,(hm j (by lia)).2] at h
 exact Lu hc hB.kind (hm i (by lia)).1 (hm j (by lia)).1 _ h
def Aaq (lo a nrem:Nat):StateT SortSt Sem AscSt:=
 forIn [a:nrem] ((none,a):AscSt) λ_ c=>ltAt' (lo+c.2) (lo+c.2-1)>>= λx=>
  match x with
  | some sm=>if sm=true then pure (ForInStep.done (none,c.2)) else pure (ForInStep.yield (none,c.2+1))
  | _=>pure (ForInStep.done (some none,c.2))
def Zs (lo n nrem:Nat):StateT SortSt Sem (Option Nat):=
 reverseSlice' lo (lo+n)>>= λ_=>Aaq lo n nrem>>= λc=>
  match c.1 with
  | some r=>pure r
  | none=>pure (some c.2)
def Abm (lo n nrem:Nat):StateT SortSt Sem (Option Nat):=
 (liftM (rule "list.sort.descending-run"):StateT SortSt Sem Unit)>>= λ_=>
 (forIn [n+1:nrem] ((none,n+1,0):DescSt) λ_ c=>ltAt' (lo+c.2.1) (lo+c.2.1-1)>>= λx=>
  match x with
  |
   some sm=>(if sm=true then
    (if c.2.2>0 then reverseSlice' (lo+c.2.1-(c.2.2+1)) (lo+c.2.1)>>= λ_=>pure (ForInStep.yield (none,c.2.1+1,0)) else pure (ForInStep.yield (none,c.2.1+1,0)))
   else ltAt' (lo+c.2.1-1) (lo+c.2.1)>>= λy=>
    match y with
    | some lg=>if lg=true then pure (ForInStep.done (none,c.2.1,c.2.2)) else pure (ForInStep.yield (none,c.2.1+1,c.2.2+1))
    | _=>pure (ForInStep.done (some none,c.2.1,c.2.2)))
  | _=>pure (ForInStep.done (some none,c.2.1,c.2.2)))>>= λc=>
 match c.1 with
 | some r=>pure r
 | none=>if c.2.2>0 then reverseSlice' (lo+c.2.1-(c.2.2+1)) (lo+c.2.1)>>= λ_=>Zs lo c.2.1 nrem else Zs lo c.2.1 nrem
theorem UpS.more {p:Array Keyed}{k:Nat}(h:UpS key p lo k)(hk:O.blt (kb key p k) (kb key p (k-1))=false):UpS key p lo (k+1):=by
 intro i j hl hij hj
 by_cases hjk:j<k
 · exact h i j hl hij hjk
 ·
  obtain rfl:j=k:=by lia
  by_cases hi:i=j
  · rw[hi];exact Aeg _
  · exact Ad0 (h i (j-1) hl (by lia) (by lia)) hk
theorem DnS.more {p q:Array Keyed}{k:Nat}(h:DnS key p lo k)(e: ∀i,kb key q i=kb key p i)(hk:O.kle (kb key p k) (kb key p (k-1))):DnS key q lo (k+1):=by
 intro i j hl hij hj
 rw[e,e]
 by_cases hjk:j<k
 · exact h i j hl hij hjk
 ·
  obtain rfl:j=k:=by lia
  by_cases hi:i=j
  · rw[hi];exact Aeg _
  · exact Ad0 hk (h i (j-1) hl (by lia) (by lia))
theorem eo {st:SortSt}{a nrem:Nat}{Q:AscSt->SortSt->Prop}(hc:R3 prog w A s κ key D)(hD: ∀x∈a₀.toList,D x)(hn:lo+nrem<=a₀.size)(ha:1<=a)(han:a<=nrem)(hB:Bs κ a₀ pd lo st)
  (hs:UpS key (arrOf st) lo (lo+a)) (h: ∀n,a<=n->n<=nrem->UpS key (arrOf st) lo (lo+n)->(n=nrem∨O.klt (kb key (arrOf st) (lo+n)) (kb key (arrOf st) (lo+n-1)))->Q (none,n) st):
  wpS (model prog w) A E s (Aaq lo a nrem) Q st:=by
 unfold Aaq
 refine Af4 (I:=λx c st'=>st'=st/\c=(none,x)/\UpS key (arrOf st) lo (lo+x)) ?step ?fin ⟨rfl,rfl,hs⟩
 case fin=>
  rintro c st' ⟨rfl,rfl,hs'⟩
  rw[show max a nrem=nrem by lia] at hs' ⊢
  exact h nrem han (Adb _) hs' (.inl rfl)
 case step=>
  rintro x c st' hax hxn ⟨rfl,rfl,hs'⟩
  dsimp only
  refine Adj (aj hc hD hB (by lia) (by lia) ?_)
  dsimp only
  cases e:O.blt (kb key (arrOf st') (lo+x)) (kb key (arrOf st') (lo+x-1)) with
  |
   true=>
   rw[if_pos rfl]
   exact Ads (h x hax (by lia) hs' (.inr e))
  |
   false=>
   rw[if_neg (by decide)]
   exact Ads ⟨rfl,rfl,hs'.more e⟩
theorem Yp {st:SortSt}{i j:Nat}{Q:Unit->SortSt->Prop}(h:Q () (setArr st (mirror (arrOf st) i j ((j-i)/2)))):wpS (model prog w) A E s (reverseSlice' i j) Q st:=by
 rw[reverseSlice'_eq];exact Aiv h
theorem Yn {st:SortSt}{n nrem:Nat}{Q:Option Nat->SortSt->Prop}(hc:R3 prog w A s κ key D)(hD: ∀x∈a₀.toList,D x)(hn:lo+nrem<=a₀.size)(h1:1<=n)(hnn:n<=nrem)(hB:Bs κ a₀ pd lo st)
  (hs:DnS key (arrOf st) lo (lo+n)) (h: ∀m st',Bs κ a₀ pd lo st'->1<=m->m<=nrem->UpS key (arrOf st') lo (lo+m)->Q (some m) st'):wpS (model prog w) A E s (Zs lo n nrem) Q st:=by
 unfold Zs
 have hz:=hB.size
 refine Adj (Yp ?_)
 have hB':=hB.rev (i:=lo) (j:=lo+n) (Adb _) (by lia)
 refine Adj (eo hc hD hn h1 hnn hB' ?_ λm hm1 hm2 hsm _=>Ads (h m _ hB' (by lia) hm2 hsm))
 intro i j hl hij hj
 show O.kle (kb key (mirror (arrOf st) lo (lo+n) ((lo+n-lo)/2)) i) (kb key (mirror (arrOf st) lo (lo+n) ((lo+n-lo)/2)) j)
 rw[fj (by lia),fj (by lia),if_pos (by lia),if_pos (by lia)]
 exact hs _ _ (by lia) (by lia) (by lia)
theorem cg {st:SortSt}{n nrem:Nat}{Q:Option Nat->SortSt->Prop}(hc:R3 prog w A s κ key D)(hD: ∀x∈a₀.toList,D x)(hn:lo+nrem<=a₀.size)(hnn:n+1<=nrem)(hB:Bs κ a₀ pd lo st)
  (hs:DnS key (arrOf st) lo (lo+(n+1))) (h: ∀m st',Bs κ a₀ pd lo st'->1<=m->m<=nrem->UpS key (arrOf st') lo (lo+m)->Q (some m) st'):wpS (model prog w) A E s (Abm lo n nrem) Q st:=by
 unfold Abm
 refine Adj (wpS_lift (Af2 ⟨rfl,?_⟩))
 have fin: ∀m q st',Bs κ a₀ pd lo st'->1<=m->m<=nrem->DnS key (arrOf st') lo (lo+m)->q+1<=m->(∀i,lo+m-(q+1)<=i->i<lo+m->kb key (arrOf st') i=kb key (arrOf st') (lo+m-1))->
   wpS (model prog w) A E s (if q>0 then reverseSlice' (lo+m-(q+1)) (lo+m)>>= λ_=>Zs lo m nrem else Zs lo m nrem) Q st':=λm q st' hB' h1 h2 h3 h4 h5=>by
  have hz:=hB'.size
  by_cases hq:q>0
  ·
   rw[if_pos hq]
   refine Adj (Yp (Yn hc hD hn h1 h2 (hB'.rev (by lia) (by lia)) ?_ h))
   intro i j hl hij hj
   show O.kle (kb key (mirror (arrOf st') _ _ _) j) (kb key (mirror (arrOf st') _ _ _) i)
   rw[Pm (by lia) h5,Pm (by lia) h5]
   exact h3 i j hl hij hj
  ·
   rw[if_neg hq]
   exact Yn hc hD hn h1 h2 hB' h3 h
 refine Adj (Af4 (I:=λx c st'=>∃q,c=(none,x,q)/\Bs κ a₀ pd lo st'/\DnS key (arrOf st') lo (lo+x)/\q+1<=x/\
   (∀i,lo+x-(q+1)<=i->i<lo+x->kb key (arrOf st') i=kb key (arrOf st') (lo+x-1))) ?step ?fn ⟨0,rfl,hB,hs,by lia,λi h1 h2=>by congr 1;lia⟩)
 case fn=>
  rintro c st' ⟨q,rfl,hB',hs',hq,he⟩
  rw[show max (n+1) nrem=nrem by lia] at hs' hq he ⊢
  exact fin nrem q st' hB' (by lia) (Adb _) hs' hq he
 case step=>
  rintro x c st' hax hxn ⟨q,rfl,hB',hs',hq,he⟩
  dsimp only
  have hz:=hB'.size
  refine Adj (aj hc hD hB' (by lia) (by lia) ?_)
  dsimp only
  cases e:O.blt (kb key (arrOf st') (lo+x)) (kb key (arrOf st') (lo+x-1)) with
  |
   true=>
   rw[if_pos rfl]
   by_cases hq0:q>0
   ·
    rw[if_pos hq0]
    refine Adj (Yp (Ads ⟨0,rfl,hB'.rev (by lia) (by lia),hs'.more (Pm (by lia) he) (Ad5 e),by lia,λi h1 h2=>by congr 1;lia⟩))
   ·
    rw[if_neg hq0]
    exact Ads ⟨0,rfl,hB',hs'.more (λ_=>rfl) (Ad5 e),by lia,λi h1 h2=>by congr 1;lia⟩
  |
   false=>
   rw[if_neg (by decide)]
   refine Adj (aj hc hD hB' (by lia) (by lia) ?_)
   dsimp only
   cases e2:O.blt (kb key (arrOf st') (lo+x-1)) (kb key (arrOf st') (lo+x)) with
   |
    true=>
    rw[if_pos rfl]
    exact Ads (fin x q st' hB' (by lia) (by lia) hs' hq he)
   |
    false=>
    rw[if_neg (by decide)]
    have eq:kb key (arrOf st') (lo+x)=kb key (arrOf st') (lo+x-1):=Ail e2 e
    refine Ads ⟨q+1,rfl,hB',hs'.more (λ_=>rfl) (by rw[eq];exact Aeg _),by lia,λi h1 h2=>?_⟩
    rw[show lo+(x+1)-1=lo+x by lia]
    by_cases hix:i=lo+x
    · rw[hix]
    · rw[eq];exact he i (by lia) (by lia)
set_option smartUnfolding false in
theorem uj {st:SortSt}{nrem:Nat}{Q:Option Nat->SortSt->Prop}(hc:R3 prog w A s κ key D)(hD: ∀x∈a₀.toList,D x)(hn:lo+nrem<=a₀.size)(h1:1<=nrem)(hB:Bs κ a₀ pd lo st)
  (h: ∀m st',Bs κ a₀ pd lo st'->1<=m->m<=nrem->UpS key (arrOf st') lo (lo+m)->Q (some m) st'):wpS (model prog w) A E s (countRun' lo nrem) Q st:=by
 rw[countRun'_eq]
 dsimp only
 have hz:=hB.size
 refine Adj (eo hc hD hn (Adb 1) h1 hB (λi j hl hij hj=>by rw[show i=j by lia];exact Aeg _) λn hn1 hn2 hsn hor=>?_)
 dsimp only
 by_cases hnn:n=nrem
 ·
  rw[if_pos (by simpa using hnn)]
  exact Ads (h n st hB hn1 hn2 hsn)
 ·
  rw[if_neg (by simpa using hnn)]
  have hlt:=hor.resolve_left hnn
  by_cases hgt:n>1
  ·
   rw[if_pos hgt]
   refine Adj (aj hc hD hB (by lia) (by lia) ?_)
   dsimp only
   cases e:O.blt (kb key (arrOf st) lo) (kb key (arrOf st) (lo+n-1)) with
   |
    true=>
    rw[if_pos rfl]
    exact Ads (h n st hB hn1 hn2 hsn)
   |
    false=>
    rw[if_neg (by decide)]
    have hall: ∀k,lo<=k->k<lo+n->kb key (arrOf st) k=kb key (arrOf st) (lo+n-1):=λk k1 k2=>
     Ail (hsn k (lo+n-1) k1 (by lia) (by lia)) (Ad0 e (hsn lo k (Adb _) k1 k2))
    refine Adj (Yp (cg hc hD hn (by lia) (hB.rev (Adb _) (by lia)) ?_ h))
    intro i j hl hij hj
    show O.kle (kb key (mirror (arrOf st) _ _ _) j) (kb key (mirror (arrOf st) _ _ _) i)
    rw[Pm (by lia) hall,Pm (by lia) hall]
    by_cases hjn:j<lo+n
    · rw[hall i (by lia) (by lia),hall j (by lia) hjn];exact Aeg _
    ·
     obtain rfl:j=lo+n:=by lia
     by_cases hi':i=lo+n
     · rw[hi'];exact Aeg _
     · rw[hall i (by lia) (by lia)];exact Ad5 hlt
  ·
   rw[if_neg hgt]
   obtain rfl:n=1:=by lia
   refine cg hc hD hn (by lia) hB ?_ h
   intro i j hl hij hj
   by_cases hi':i=j
   · rw[hi'];exact Aeg _
   ·
    obtain rfl:i=lo:=by lia
    obtain rfl:j=i+1:=by lia
    exact Ad5 hlt
end
section
variable {prog:Program}{w:World}{A:Around}{E:Value->Shared->Prop}{s:Shared}{O:KeyOrd}{key:Keyed->O.α}{D:Keyed->Prop}{κ:SortKind}{a₀:Array Keyed}{pd:Array (Nat×Nat×Nat)}{lo:Nat}
theorem mh {p:Array Keyed}{k d:Nat}(hk:k<p.size)(hd:d<=k)(i:Nat):kb key (bubble p k d) i=if i=k-d then kb key p k else if k-d<i/\i<=k then kb key p (i-1) else kb key p i:=by
 have e:=getElem?_bubble (xs:=p) hk d hd i
 by_cases h1:i=k-d
 · rw[if_pos h1] at e ⊢;exact L8 e
 ·
  rw[if_neg h1] at e ⊢
  by_cases h2:k-d<i/\i<=k
  · rw[if_pos h2] at e ⊢;exact L8 e
  · rw[if_neg h2] at e ⊢;exact L8 e
theorem n6 {st:SortSt}{i j:Nat}{Q:Unit->SortSt->Prop}(h:Q () (setArr st (bubble (arrOf st) i (i-j)))):wpS (model prog w) A E s (moveDown' i j) Q st:=by
 rw[moveDown'_eq];exact Aiv h
theorem uh {st:SortSt}{n ok:Nat}{Q:Bool->SortSt->Prop}(hc:R3 prog w A s κ key D)(hD: ∀x∈a₀.toList,D x)(hn:lo+n<=a₀.size)(hok:ok<=n)(h1:1<=ok)(hB:Bs κ a₀ pd lo st)
  (hs:UpS key (arrOf st) lo (lo+ok)) (h: ∀st',Bs κ a₀ pd lo st'->UpS key (arrOf st') lo (lo+n)->Q true st'):wpS (model prog w) A E s (binarySort' lo n ok) Q st:=by
 rw[binarySort'_eq]
 rw[show max ok 1=ok by lia]
 refine Adj (Af4 (I:=λk c st'=>c=(none,())/\Bs κ a₀ pd lo st'/\UpS key (arrOf st') lo (lo+k)) ?step ?fin ⟨rfl,hB,hs⟩)
 case fin=>
  rintro c st' ⟨rfl,hB',hs'⟩
  rw[show max ok n=n by lia] at hs'
  exact Ads (h st' hB' hs')
 case step=>
  rintro k c st' hk1 hk2 ⟨rfl,hB',hs'⟩
  dsimp only
  have hz:=hB'.size
  have fin: ∀l,l<=k->(∀i,lo<=i->i<lo+l->O.kle (kb key (arrOf st') i) (kb key (arrOf st') (lo+k)))->(∀i,lo+l<=i->i<lo+k->O.klt (kb key (arrOf st') (lo+k)) (kb key (arrOf st') i))->
    Bs κ a₀ pd lo (setArr st' (bubble (arrOf st') (lo+k) (lo+k-(lo+l))))/\UpS key (arrOf (setArr st' (bubble (arrOf st') (lo+k) (lo+k-(lo+l))))) lo (lo+(k+1)):=λl hl b1 b2=>by
   refine⟨hB'.bub (by lia) (by lia),λi j hli hij hj=>?_⟩
   show O.kle (kb key (bubble (arrOf st') (lo+k) (lo+k-(lo+l))) i) (kb key (bubble (arrOf st') (lo+k) (lo+k-(lo+l))) j)
   rw[mh (by lia) (by lia),mh (by lia) (by lia),show lo+k-(lo+k-(lo+l))=lo+l by lia]
   repeat' split
   all_goals first
    | (exfalso;lia)
    | exact Aeg _
    | exact b1 _ (by lia) (by lia)
    | exact Ad5 (b2 _ (by lia) (by lia))
    | exact hs' _ _ (by lia) (by lia) (by lia)
  refine Adj (Kr (st:=st') (I:=λt c=>∃l r,c=(none,l,r)/\l<=r/\r<=k/\r-l<=k-t/\(∀i,lo<=i->i<lo+l->O.kle (kb key (arrOf st') i) (kb key (arrOf st') (lo+k)))/\(∀i,lo+r<=i->i<lo+k->O.klt (kb key (arrOf st') (lo+k)) (kb key (arrOf st') i))) ?_ ?_
   ⟨0,k,rfl,Adw _,Adb _,by lia,λi i1 i2=>by lia,λi i1 i2=>by lia⟩)
  ·
   rintro t c ht ⟨l,r,rfl,a1,a2,a3,a4,a5⟩
   dsimp only
   by_cases hg:l≥r
   ·
    rw[if_pos hg]
    obtain rfl:l=r:=by lia
    exact Ads ⟨rfl,Adj (n6 (Ads ⟨rfl,fin l a2 a4 a5⟩))⟩
   ·
    rw[if_neg hg]
    refine Adj (aj hc hD hB' (by lia) (by lia) ?_)
    dsimp only
    cases e:O.blt (kb key (arrOf st') (lo+k)) (kb key (arrOf st') (lo+(l+r)/2)) with
    |
     true=>
     rw[if_pos rfl]
     exact Ads ⟨rfl,_,_,rfl,by lia,by lia,by lia,a4,λi i1 i2=>KeyOrd.klt_of_klt_of_kle e (hs' _ _ (by lia) i1 i2)⟩
    |
     false=>
     rw[if_neg (by decide)]
     exact Ads ⟨rfl,_,_,rfl,by lia,by lia,by lia,λi i1 i2=>Ad0 (hs' i (lo+(l+r)/2) i1 (by lia) (by lia)) e,a5⟩
  ·
   rintro c ⟨l,r,rfl,a1,a2,a3,a4,a5⟩
   obtain rfl:l=r:=by lia
   exact Adj (n6 (Ads ⟨rfl,fin l a2 a4 a5⟩))
structure RJ (O:KeyOrd)(key:Keyed->O.α)(κ:SortKind)(a₀:Array Keyed)(tl:List Keyed)(m:Nat)(st:SortSt):Prop where
 perm:(arrOf st).toList.Perm a₀.toList
 kind:kindOf st=κ
 failed:failedOf st=none
 runs: ∃C,(arrOf st).toList=C++tl/\C.length=m/\RunsL (Upw O key) (pendingOf st).toList 0 C
theorem RJ.mAt {st:SortSt}{tl:List Keyed}{m i:Nat}(hc:R3 prog w A s κ key D)(hD: ∀x∈a₀.toList,D x)(h:RJ O key κ a₀ tl m st)(hi:i+1<(pendingOf st).size){Q:Bool->SortSt->Prop}
  (hQ: ∀st',RJ O key κ a₀ tl m st'->(pendingOf st').size+1=(pendingOf st).size->Q true st'):wpS (model prog w) A E s (mergeAt' i) Q st:=by
 obtain⟨hp,hk,hf,C,hC,hm,hr⟩:=h
 have g1:(pendingOf st).toList[i]?=some (pendingOf st)[i]:=by simp[show i<(pendingOf st).size by lia]
 have g2:(pendingOf st).toList[i+1]?=some (pendingOf st)[i+1]:=by simp[hi]
 obtain⟨L,T,e,hL⟩:=m8 g1 g2
 rw[e] at hr
 obtain⟨l1,X,Y,l2,rfl,b1,b2,b3,b4,b5,b6,b7,b8,b9⟩:=hr.two
 generalize (pendingOf st)[i]=u at*
 generalize (pendingOf st)[i+1]=v at*
 obtain⟨p,n,c⟩:=u
 obtain⟨q,m',c'⟩:=v
 refine vd (X:=X) (Y:=Y) (l1:=l1) (l2:=l2++tl) hc hk hf e hL (by rw[hC];simp) b1 b2 b3 b4 b5 b6 b7 b8 (λx hx=>hD x (hp.mem_iff.mp hx)) λst' M c1 c2 c3 c4 c5 c6=>hQ st' ⟨?_,c1,c2,l1++(M++l2),by rw[c4];simp,?_,?_⟩ ?_
 ·
  refine List.Perm.trans ?_ hp
  rw[c4,hC]
  have:=(c5.append_right (l2++tl)).append_left l1
  simpa using this
 ·
  have:=c5.length_eq
  simp at this hm ⊢
  lia
 ·
  rw[c3]
  exact b9 M c c6 (by rw[c5.length_eq,Ade])
 · rw[←Ac6,←Ac6,c3,e];simp;lia
theorem Xh {α:Type}(f:α->α)(x:α): ∀(L:List α),(L++[x]).modify L.length f=L++[f x]
 | []=>rfl
 |
  y::L=>by
  show(y::(L++[x])).modify (L.length+1) f=_
  rw[List.modify_succ_cons,Xh f x L];rfl
theorem RJ.repower {st:SortSt}{tl:List Keyed}{m pw:Nat}(h:RJ O key κ a₀ tl m st)(f:Nat×Nat×Nat->Nat×Nat×Nat)(hf: ∀a n c,f (a,n,c)=(a,n,pw)):
  RJ O key κ a₀ tl m (setPending st ((pendingOf st).modify ((pendingOf st).size-1) f)):=by
 obtain⟨hp,hk,hf',C,hC,hm,hr⟩:=h
 refine⟨hp,hk,hf',C,hC,hm,?_⟩
 show RunsL (Upw O key) ((pendingOf st).modify ((pendingOf st).size-1) f).toList 0 C
 rw[Array.toList_modify]
 rcases List.eq_nil_or_concat (pendingOf st).toList with e|⟨L,⟨a,n,c⟩,e⟩
 ·
  rw[e] at hr ⊢
  rw[List.modify_nil]
  exact hr
 ·
  rw[List.concat_eq_append] at e
  rw[e] at hr
  rw[←Ac6,e,show(L++[(a,n,c)]).length-1=L.length by simp,Xh,hf]
  exact hr.repower
theorem ph {st:SortSt}{C:List Keyed}{n:Nat}(hB:Bs κ a₀ pd lo st)(hl:lo+n<=a₀.size)(hC:a₀.toList.take lo=C)(hu:UpS key (arrOf st) lo (lo+n)):
  ∃S rest,(arrOf st).toList=C++(S++rest)/\S.length=n/\S.Pairwise (Upw O key):=by
 have hz:=hB.size
 refine⟨((arrOf st).toList.drop lo).take n,(arrOf st).toList.drop (lo+n),?_,by rw[Aek,Afg,Ac6];lia,?_⟩
 ·
  have e1:(arrOf st).toList.take lo=C:=by
   rw[←hC]
   apply Agd
   intro i
   rw[List.getElem?_take,List.getElem?_take]
   split
   ·
    rename_i hi
    have:=hB.pre i hi
    rw[Aef,Aef];exact this
   · rfl
  have e2:=Ahc lo (arrOf st).toList
  have e3:=Mn (arrOf st).toList (Nat.le_add_right lo n)
  rw[show lo+n-lo=n by lia] at e3
  rw[←e1,←e3,e2]
 ·
  rw[List.pairwise_iff_getElem]
  intro i j hi hj hij
  rw[Aek,Afg,Ac6] at hi hj
  have:=hu (lo+i) (lo+j) (by lia) (by lia) (by lia)
  unfold kb at this
  simp only[Array.getD,show lo+i<(arrOf st).size by lia,show lo+j<(arrOf st).size by lia,Aiw] at this
  rw[Ag3,Ag4,Ag3,Ag4]
  exact this
def sk (
    z lo n:Nat):StateT SortSt Sem (ForInStep (Option Unit×Nat)):=
 get>>= λy=>
 match (pendingOf y).back? with
 |
  some (s1,n1,_)=>
  (forIn [:z] ((none,()):Option Unit×Unit) λ_ _=>get>>= λy=>
   match (if(pendingOf y).size>1 then(pendingOf y)[(pendingOf y).size-2]? else none) with
   |
    some (_,_,old)=>(if old<=power' z (2*s1+n1) (2*s1+n1+n1+n) z then pure (ForInStep.done (none,()))
    else mergeAt' ((pendingOf y).size-2)>>= λok=>if(!ok)=true then pure (ForInStep.done (some (),())) else pure (ForInStep.yield (none,())))
   | _=>pure (ForInStep.done (none,())))>>= λc=>
  match c.1 with
  | some r=>pure (ForInStep.done (some r,lo))
  |
   none=>(modify λs=>setPending s ((pendingOf s).modify ((pendingOf s).size-1) λx=>(x.1,x.2.1,power' z (2*s1+n1) (2*s1+n1+n1+n) z)))>>= λ_=>
   (modify λs=>setPending s ((pendingOf s).push (lo,n,0)))>>= λ_=>pure (ForInStep.yield (none,lo+n))
 | _=>(modify λs=>setPending s ((pendingOf s).push (lo,n,0)))>>= λ_=>pure (ForInStep.yield (none,lo+n))
theorem RJ.push {st:SortSt}{S rest:List Keyed}{lo n:Nat}(h:RJ O key κ a₀ (S++rest) lo st)(hS:S.length=n)(hn:1<=n)(hu:S.Pairwise (Upw O key)):RJ O key κ a₀ rest (lo+n) (setPending st ((pendingOf st).push (lo,n,0))):=by
 obtain⟨hp,hk,hf',C,hC,hm,hr⟩:=h
 refine⟨hp,hk,hf',C++S,by show(arrOf st).toList=_;rw[hC];simp,by rw[Ade];lia,?_⟩
 show RunsL (Upw O key) ((pendingOf st).push (lo,n,0)).toList 0 (C++S)
 rw[Ag6]
 refine hr.append ⟨by show lo=0+C.length;lia,hn,S,[],by simp,hS,hu,rfl⟩
set_option smartUnfolding false in
theorem l6 {st:SortSt}{S rest:List Keyed}{z lo n:Nat}(hc:R3 prog w A s κ key D)(hD: ∀x∈a₀.toList,D x)(h:RJ O key κ a₀ (S++rest) lo st)(hS:S.length=n)(hn:1<=n)(hu:S.Pairwise (Upw O key))
  {Q:ForInStep (Option Unit×Nat)->SortSt->Prop} (hQ: ∀st',RJ O key κ a₀ rest (lo+n) st'->Q (ForInStep.yield (none,lo+n)) st'):wpS (model prog w) A E s (sk z lo n) Q st:=by
 unfold sk
 refine Adj (wpS_get ?_)
 cases e:(pendingOf st).back? with
 | none=>exact Adj (Aiv (Ads (hQ _ (h.push hS hn hu))))
 |
  some u=>
  obtain⟨s1,n1,c1⟩:=u
  dsimp only
  refine Adj (Aip (Af4 (a:=0) (I:=λ_ c st'=>c.1=none/\RJ O key κ a₀ (S++rest) lo st') (Q:=λc st'=>c.1=none/\RJ O key κ a₀ (S++rest) lo st') ?step (λ_ _ z=>z) ⟨rfl,h⟩) ?post)
  case post=>
   rintro⟨_,_⟩ st' ⟨rfl,hr⟩
   exact Adj (Aiv (Adj (Aiv (Ads (hQ _ ((hr.repower _ λ_ _ _=>rfl).push hS hn hu))))))
  case step=>
   rintro x ⟨_,_⟩ st' _ hx ⟨rfl,hr⟩
   refine Adj (wpS_get ?_)
   by_cases hg:(pendingOf st').size>1
   ·
    rw[if_pos hg]
    have e2:(pendingOf st')[(pendingOf st').size-2]?=some (pendingOf st')[(pendingOf st').size-2]:=Aem (by lia)
    rw[e2]
    generalize (pendingOf st')[(pendingOf st').size-2]=u
    obtain⟨u1,u2,old⟩:=u
    dsimp only
    by_cases ho:old<=power' z (2*s1+n1) (2*s1+n1+n1+n) z
    ·
     rw[if_pos ho]
     exact Ads ⟨rfl,hr⟩
    ·
     rw[if_neg ho]
     refine Adj (hr.mAt hc hD (by lia) λst2 h2 _=>?_)
     rw[if_neg (by decide)]
     exact Ads ⟨rfl,h2⟩
   ·
    rw[if_neg hg]
    exact Ads ⟨rfl,hr⟩
theorem Y6 (z:Nat)(h:1<=z):1<=minRun' z z 0:=by
 have: ∀(f n r:Nat),1<=n->1<=minRun' f n r:=by
  intro f
  induction f with
  | zero=>intro n r h;show 1<=n+r;lia
  |
   succ f ih=>
   intro n r h
   rw[minRun'_succ]
   split
   · lia
   · exact ih _ _ (by lia)
 exact this z z 0 h
set_option smartUnfolding false in
theorem V9 {st:SortSt}{Q:Unit->SortSt->Prop}(hc:R3 prog w A s κ key D)(hD: ∀x∈a₀.toList,D x)(ha:arrOf st=a₀)(hk:kindOf st=κ)(hf:failedOf st=none)(hp:pendingOf st=#[])
  (h: ∀st',(arrOf st').toList.Perm a₀.toList->failedOf st'=none->(arrOf st').toList.Pairwise (Upw O key)->Q () st'):wpS (model prog w) A E s sortRuns' Q st:=by
 rw[sortRuns'_eq]
 refine Adj (wpS_get ?_)
 dsimp only
 rw[ha]
 refine Adj (Aip (Af4 (a:=0) (I:=λx c st'=>c.1=none/\x<=c.2/\c.2<=a₀.size/\ ∃tl,RJ O key κ a₀ tl c.2 st')
  (Q:=λc st'=>c=(none,a₀.size)/\ ∃tl,RJ O key κ a₀ tl a₀.size st') ?step ?fin ?init) ?post)
 case init=>exact⟨rfl,Adb _,Adw _,a₀.toList,by rw[ha],hk,hf,[],by rw[ha];rfl,rfl,by rw[hp];rfl⟩
 case fin=>
  rintro⟨_,lo⟩ st' ⟨rfl,h1,h2,tl,hr⟩
  dsimp only at h1 h2 hr
  obtain rfl:lo=a₀.size:=by lia
  exact⟨rfl,tl,hr⟩
 case step=>
  rintro x ⟨_,lo⟩ st' _ hx ⟨rfl,h1,h2,tl,hr⟩
  dsimp only at h1 h2 hr ⊢
  by_cases hlo:lo≥a₀.size
  ·
   rw[if_pos hlo]
   obtain rfl:lo=a₀.size:=by lia
   exact Ads ⟨rfl,tl,hr⟩
  ·
   rw[if_neg hlo]
   obtain⟨hp',hk',hf',C,hC,hCl,hrun⟩:=hr
   have hz:(arrOf st').size=a₀.size:=by rw[←Ac6,hp'.length_eq,Ac6]
   have hD': ∀x∈(arrOf st').toList,D x:=λx hx=>hD x (hp'.mem_iff.mp hx)
   have hB:Bs κ (arrOf st') (pendingOf st') lo st':=⟨Array.Perm.refl _,hk',hf',rfl,λ_ _=>rfl⟩
   have hC0:(arrOf st').toList.take lo=C:=by rw[hC,←hCl,List.take_left]
   refine Adj (uj (pd:=pendingOf st') hc hD' (by lia) (by lia) hB λn st2 hB2 hn1 hn2 hs2=>?_)
   dsimp only
   have go: ∀n st3,Bs κ (arrOf st') (pendingOf st') lo st3->1<=n->lo+n<=a₀.size->UpS key (arrOf st3) lo (lo+n)->wpS (model prog w) A E s (sk a₀.size lo n) (λr st'=>
     match r with
     | ForInStep.done c'=>c'=(none,a₀.size)/\ ∃tl,RJ O key κ a₀ tl a₀.size st'
     | ForInStep.yield c'=>c'.1=none/\x+1<=c'.2/\c'.2<=a₀.size/\ ∃tl,RJ O key κ a₀ tl c'.2 st') st3:=λn st3 hB3 b1 b2 b3=>by
    obtain⟨S,rest,d1,d2,d3⟩:=ph hB3 (by lia) hC0 b3
    refine l6 hc hD ⟨(Agi.mp hB3.perm).trans hp',hB3.kind,hB3.failed,C,d1,hCl,by rw[hB3.pend];exact hrun⟩ d2 b1 d3 λst4 h4=>⟨rfl,by show x+1<=lo+n;lia,b2,rest,h4⟩
   have hmp:=Y6 a₀.size (by lia)
   by_cases hlt:n<minRun' a₀.size a₀.size 0
   ·
    rw[if_pos hlt]
    refine Adj (wpS_lift (Af2 ⟨rfl,?_⟩))
    refine Adj (uh hc hD' (by lia) (by lia) hn1 hB2 hs2 λst3 hB3 hs3=>?_)
    rw[if_neg (by decide)]
    exact go _ st3 hB3 (by lia) (by lia) hs3
   ·
    rw[if_neg hlt]
    exact go n st2 hB2 hn1 (by lia) hs2
 case post=>
  rintro c st' ⟨rfl,tl,hr⟩
  dsimp only
  have hps:(pendingOf st').size<=a₀.size:=by
   obtain⟨_,_,_,C,_,hCl,hrun⟩:=hr
   have:=hrun.len
   rw[Ac6] at this
   lia
  refine Adj (Aip (Af4 (a:=0) (I:=λx c st'=>c.1=none/\RJ O key κ a₀ tl a₀.size st'/\((pendingOf st').size<=1∨(pendingOf st').size+x<=a₀.size))
   (Q:=λc st'=>c.1=none/\RJ O key κ a₀ tl a₀.size st'/\(pendingOf st').size<=1) ?s2 ?f2 ⟨rfl,hr,.inr (by lia)⟩) ?p2)
  case f2=>
   rintro⟨_,_⟩ st2 ⟨rfl,h2,h3⟩
   exact⟨rfl,h2,by lia⟩
  case s2=>
   rintro x ⟨_,_⟩ st2 _ hx ⟨rfl,h2,h3⟩
   refine Adj (wpS_get ?_)
   by_cases hg:(pendingOf st2).size<=1
   ·
    rw[if_pos hg]
    exact Ads ⟨rfl,h2,hg⟩
   ·
    rw[if_neg hg]
    have step: ∀i,i+1<(pendingOf st2).size->wpS (model prog w) A E s (mergeAt' i>>= λok=>if(!ok)=true then pure (ForInStep.done (some (),())) else pure (ForInStep.yield ((none,()):Option Unit×Unit))) (λr st'=>
      match r with
      | ForInStep.done c'=>c'.1=none/\RJ O key κ a₀ tl a₀.size st'/\(pendingOf st').size<=1
      | ForInStep.yield c'=>c'.1=none/\RJ O key κ a₀ tl a₀.size st'/\((pendingOf st').size<=1∨(pendingOf st').size+(x+1)<=a₀.size)) st2:=λi hi=>by
     refine Adj (h2.mAt hc hD hi λst3 h3' h4=>?_)
     rw[if_neg (by decide)]
     exact Ads ⟨rfl,h3',by lia⟩
    by_cases hb:(if(pendingOf st2).size-2>0 then Option.map (λx=>x.2.1) (pendingOf st2)[(pendingOf st2).size-2-1]? else none).any (λx=>decide (x<(pendingOf st2)[(pendingOf st2).size-2+1]?.elim 0 λx=>x.2.1))=true
    ·
     rw[if_pos hb]
     exact step _ (by
      by_cases hi:(pendingOf st2).size-2>0
      · lia
      · rw[if_neg hi] at hb;cases hb)
    ·
     rw[if_neg hb]
     exact step _ (by lia)
  case p2=>
   rintro⟨_,_⟩ st2 ⟨rfl,⟨hp2,_,hf2,C,hC,hCl,hrun⟩,h3⟩
   refine Ads (h st2 hp2 hf2 ?_)
   have ht:tl=[]:=by
    have e1:=hp2.length_eq
    have e2:(arrOf st2).toList.length=C.length+tl.length:=by rw[hC,Ade]
    have e3:a₀.toList.length=a₀.size:=Ac6
    exact Ahe (by lia)
   subst ht
   rw[Aet] at hC
   rw[hC]
   have hl:(pendingOf st2).toList.length<=1:=by rw[Ac6];exact h3
   generalize (pendingOf st2).toList=P at hrun hl
   match P,hl with
   | [],_=>cases (hrun:C=[]);exact .nil
   |
    [(a,n,c)],_=>
    obtain⟨_,_,S,l',rfl,_,hS,h5⟩:=hrun
    cases (h5:l'=[])
    rw[Aet];exact hS
end
end L2
namespace L2
open PySem PySem.W PyProof.Rows
structure Aa4 (prog:Program)(w:World)(A:Around)(s:Shared)(κ:SortKind){O:KeyOrd}(key:Value->O.α)(vs:List Value):Prop where
 kind: ∀(E:Value->Shared->Prop)(Q:SortKind->Shared->Prop),Q κ s->wpAny (model prog w) A (keyKind' vs.toArray) Q E s
 cmp: ∀x∈vs,∀y∈vs,∀C:Bool->Shared->Prop,C (O.blt (key x) (key y)) s->wpAny (model prog w) A (keyLt' κ x y) C (λ_ _=>False) s
section
variable {prog:Program}{w:World}{A:Around}{E:Value->Shared->Prop}{s:Shared}{vs:List Value}{O:KeyOrd}{key:Value->O.α}{κ:SortKind}
theorem Sg:((vs.toArray.zip vs.toArray):Array Keyed).toList=vs.zip vs:=by simp
theorem aq:(vs.zip vs).map (·.2)=vs:=List.map_snd_zip (Adb _)
theorem Zo {a:Addr}{k:Nat}{P:PySem.Fin->Shared->Prop}(ho:s.heap.get? a=some (seqObj "list" vs.toArray k))(hz:vs.length<=sizeLine)
  (hS:2<=vs.length-> ∀h':Heap,(∀b o,b≠a->s.heap.get? b=some o->h'.get? b=some o)->Aa4 prog w A {s with heap:=h'} κ key vs)
  (h: ∀us:List Value,us.Perm vs->us.Pairwise (λx y=>O.kle (key x) (key y))->P (.done (.ret .none)) {s with heap:=sortedHeap s.heap a vs us.toArray}):wpAny (model prog w) A (Builtin.«list.sort» ⟨[.ref a],[]⟩) P E s:=by
 obtain⟨c1,g1⟩: ∃c,(s.heap.update a (Obj.mapSeq λ_=>(#[]:Array Value))).get? a=some (seqObj "list" #[] c):=⟨_,get?_update_seq ho λ_=>#[]⟩
 have g2:(((s.heap.update a (Obj.mapSeq λ_=>(#[]:Array Value))).push (seqObj "tuple" vs.toArray 0)).push (seqObj "list" #[] 0)).get? a=some (seqObj "list" #[] c1):=Ac5 _ (Ac5 _ g1)
 have kp: ∀b o,b≠a->s.heap.get? b=some o->(((s.heap.update a (Obj.mapSeq λ_=>(#[]:Array Value))).push (seqObj "tuple" vs.toArray 0)).push (seqObj "list" #[] 0)).get? b=some o:=λb o hb e=>
  Ac5 _ (Ac5 _ (by rw[Afc _ _ _ _ hb];exact e))
 rw[list_sort_plain]
 refine Ac1 (listItems_at ho rfl (Ac1 (Aia ho rfl (Ac1 (seqEpoch_at g1 rfl (Ac1 (wpAny_newTuple (Ac1 (Ag8 (Ae6 ?_) (Adw _))) hz)))) (by rw[Adn];lia) (Adw _))))
 show wpAny (model prog w) A _ P E {s with heap:=((s.heap.update a (Obj.mapSeq λ_=>(#[]:Array Value))).push (seqObj "tuple" vs.toArray 0)).push (seqObj "list" #[] 0)}
 dsimp only
 by_cases h2:vs.toArray.size<2
 ·
  have hl2:vs.length<2:=by rw[Adn] at h2;exact h2
  rw[if_pos h2,if_pos h2]
  refine Ac1 (Ac4 ?_)
  rw[StateT.run_pure]
  refine Ac1 (Ac4 ?_)
  dsimp only
  have e:(arrOf (SortSt.mk' general' (vs.toArray.zip vs.toArray) #[] 7 none)).map (·.2)=vs.toArray:=by
   show(vs.toArray.zip vs.toArray).map (·.2)=_
   apply Af3.mp
   rw[Array.toList_map,Sg,aq]
  rw[e]
  refine Ac1 (seqEpoch_at g2 rfl (Ac1 (Aia g2 rfl ?_ (Adw _) (by rw[Adn];lia))))
  simp only[Aht,Adz,Ae5]
  refine Ac4 (h vs (.refl _) ?_)
  match vs,hl2 with
  | [],_=>exact .nil
  | [_],_=>exact Aev _ _
 ·
  have hl2:2<=vs.length:=by rw[Adn] at h2;lia
  rw[if_neg h2,if_neg h2]
  have S:=hS hl2 _ kp
  refine Ac1 (S.kind _ _ ?_)
  have run:=V9 (prog:=prog) (w:=w) (A:=A) (E:=E) (κ:=κ) (O:=O) (key:=λp=>key p.1) (D:=λp=>p.1=p.2/\p.1∈vs) (a₀:=vs.toArray.zip vs.toArray)
   (s:={s with heap:=((s.heap.update a (Obj.mapSeq λ_=>(#[]:Array Value))).push (seqObj "tuple" vs.toArray 0)).push (seqObj "list" #[] 0)})
   (st:=SortSt.mk' κ (vs.toArray.zip vs.toArray) #[] 7 none)
   (Q:=λ_ st'=>failedOf st'=none/\(arrOf st').toList.Perm (vs.zip vs)/\(arrOf st').toList.Pairwise (Upw O λp=>key p.1))
   (λx y hx hy C hC=>S.cmp x.1 hx.2 y.1 hy.2 C hC) (λx hx=>by rw[Sg] at hx;exact mem_zip_self hx) rfl rfl rfl rfl (λst' a1 a2 a3=>⟨a2,by rw[Sg] at a1;exact a1,a3⟩)
  refine Ac1 (Afa run ?_ λ_ _ z=>z)
  rintro⟨⟨⟩,st'⟩ s' ⟨rfl,hf,hp,hu⟩
  dsimp only
  have hus:(arrOf st').map (·.2)=((arrOf st').toList.map (·.2)).toArray:=by
   apply Af3.mp
   rw[Array.toList_map]
  have hperm:((arrOf st').toList.map (·.2)).Perm vs:=by
   have:=hp.map (·.2)
   rw[aq] at this
   exact this
  have hpw:((arrOf st').toList.map (·.2)).Pairwise (λx y=>O.kle (key x) (key y)):=by
   rw[Ae1]
   refine hu.imp_of_mem λ{x y}hx hy q=>?_
   have e1:=(mem_zip_self (hp.mem_iff.mp hx)).1
   have e2:=(mem_zip_self (hp.mem_iff.mp hy)).1
   rw[←e1,←e2]
   exact q
  rw[hus]
  refine Ac1 (seqEpoch_at g2 rfl (Ac1 (Aia g2 rfl ?_ (Adw _) (by rw[Adn,hperm.length_eq];lia))))
  rw[hf]
  simp only[Aht,Adz,Ae5]
  exact Ac4 (h _ hperm hpw)
end
theorem B6 {α β:Type}{f:α->β}{us l:List β}(h:us.Perm l): ∀rs:List α,l=rs.map f-> ∃qs:List α,qs.Perm rs/\us=qs.map f:=by
 induction h with
 | nil=>intro rs e;exact⟨rs,.refl _,e⟩
 |
  cons x h ih=>
  intro rs e
  cases rs with
  | nil=>cases e
  |
   cons r rs=>
   injection e with e1 e2
   obtain⟨qs,p,rfl⟩:=ih rs e2
   exact⟨r::qs,p.cons r,by rw[e1];rfl⟩
 |
  swap x y l=>
  intro rs e
  match rs,e with
  |
   a::b::rs,e=>
   injection e with e1 e2
   injection e2 with e2 e3
   exact⟨b::a::rs,List.Perm.swap ..,by rw[e1,e2,e3];rfl⟩
 |
  trans h1 h2 ih1 ih2=>
  intro rs e
  obtain⟨qs,p,rfl⟩:=ih2 rs e
  obtain⟨ps,p',rfl⟩:=ih1 qs rfl
  exact⟨ps,p'.trans p,rfl⟩
section
variable {X:Cx}
theorem d9 (hc:X.calm=true):Gn X (.builtin "max") (λxs H Q=>∃(p:Addr)(ns:List Int),xs=[.ref p]/\H p=some (.lst (ns.map V.int))/\0<ns.length/\ ∀M,M∈ns->(∀a∈ns,a<=M)->Q (.int M) H):=by
 intro pins s σ H xs us Q I r h
 obtain⟨p,ns,rfl,hp,hne,q⟩:=h
 obtain⟨u,rfl,ru⟩:=vals1 r
 cases ru
 obtain⟨its,rv,pl,hz⟩:=I.list (SqL.of (K:=X.K) hp)
 have hi:=intsAre_of rv
 obtain⟨ys,e⟩:=hi.allInts.items
 have hns:ns=ys.toList.map (·.1):=by
  rw[←nums_intItems,←e]
  exact(show numsOf its.toArray.toList=ns from hi.numsOf).symm
 have hsz:0<ys.size:=by
  have h3:=hne;rw[hns,Ac0,Ac6] at h3;exact h3
 refine max_intList (I.ok.hd hc) (e▸pl.isList) hsz λv h' tk hv hk=>?_
 obtain⟨t,rfl⟩:=intItems_at hv
 obtain⟨h1,h2⟩:=argBest_gt (numAt ys) (ys.size-1)
 refine⟨.int _,H,I.kept hk,⟨_,rfl⟩,q _ ?_ λa ha=>?_⟩
 · rw[hns,numAt_eq];exact getD_mem (by rw[Ac0,Ac6];lia)
 ·
  rw[hns] at ha
  obtain⟨j,hj,rfl⟩:=mem_getD ha
  rw[Ac0,Ac6] at hj
  rw[←numAt_eq];exact h2 j (by lia)
end
end L2
namespace L2
open PySem PySem.Spec PyProof.Rows
section
variable (P:Program)(w:World)
end
section
variable {P:Program}{w:World}{H H':Hp}{h h':Heap}{a:Addr}{o:HO}
end
section
variable {P:Program}{w:World}{H:Hp}{h h':Heap}{x e:Addr}{o':HO}
end
section
variable {fs fs' ex ex':List Addr}{H H1 H2:Hp}{h h1 h2 h':Heap}{a x e:Addr}{o:HO}
end
section
variable {X:Cx}{pins:List (Addr×Obj)}{σ:List (Option V)}{H H':Hp}{s:Shared}{h':Heap}
end
section
variable {X:Cx}
variable {a b:Expr}{ta tb:TE}{pos:Pos}
variable {tA tB':TT}{rest:List Expr}
end
section
variable {X:Cx}{pins:List (Addr×Obj)}{σ:St}{H:Hp}{s:Shared}{a:Addr}{xs ys:List V}
end
section
variable {X:Cx}{pins:List (Addr×Obj)}{σ:St}{H:Hp}{s:Shared}{E:Value->Shared->Prop}
end
section
variable {X:Cx}{st:Stmt}{rest:List Stmt}{t u:TS}{e:Expr}{te:TE}{pos:Pos}
end
section
variable {X:Cx}{pos:Pos}
end
section
variable {X:Cx}{pos:Pos}
end
section
variable {X:Cx}{tg:Expr}
end
section
variable {X:Cx}{a b c:Expr}{ta tb tc:TE}{pos:Pos}
end
section
variable {X:Cx}{a b c:Expr}{ta tb tc:TE}{pos:Pos}
end
section
variable {prog:Program}{w:World}{A:Around}{E:Value->Shared->Prop}{s:Shared}{K:W.Frag}{x dx C f:Addr}{mA:Str->Option Value}{name:Str}{v:Value}
end
section
variable {P:Program}{w:World}{H H':Hp}{h h':Heap}{a C dx:Addr}{fs fs':List (Str×V)}
end
section
variable {X:Cx}{pins:List (Addr×Obj)}{σ:St}{H:Hp}{s:Shared}{a C dx:Addr}{fs:List (Str×V)}{f:Str}{v:V}{A:Around}{E:Value->Shared->Prop}
end
section
variable {X:Cx}{o e value:Expr}{f:Str}{pos pos' tpos:Pos}{ta tv:TE}
end
section
variable {X:Cx}{pins:List (Addr×Obj)}{σ:St}{H:Hp}{s:Shared}{A:Around}{E:Value->Shared->Prop}{Q:Value->Shared->Prop}{c:Value}{b:Bool}
end
section
variable {X:Cx}{e:Expr}{es:List Expr}{te:TE}{t:TA}{pos:Pos}
end
section
variable {X:Cx}{pins:List (Addr×Obj)}{σ:St}{H:Hp}{s s':Shared}
end
section
variable {X:Cx}{CX:CXT}{cm:Bool}{k:Nat}{f C:Addr}{fd:FuncData}{ps:List Str}{sp:Sp}{dvs:List V}{ds:List Value}{E:XK}{x m:Str}{p pos apos:Pos}{e o:Expr}{es:List Expr}{ta:TE}{t:TA}
end
section
variable {X:Cx}{CX:CXT}{cm:Bool}{k:Nat}{f C:Addr}{fd:FuncData}{ps ks:List Str}{sp:Sp}{E:XK}{x m:Str}{p pos apos kpos:Pos}{e o:Expr}{es:List Expr}{kws:List Keyword}{te ta:TE}{t tk:TA}{nm:Option Str}
variable {g:List Value->List Value->List Value}{gV:List V->List V->List V}
end
section
variable {X:Cx}{x:Str}{p pos:Pos}{e:Expr}{es:List Expr}{t:TA}{id T:String}{r:List V->Hp->VK->Prop}
end
section
variable {κ:Type}[DecidableEq κ]
def Fe (kvs:List (κ×V))(k:κ):Option V:=(kvs.find? λkv=>decide (kv.1=k)).map (·.2)
def putK (kvs:List (κ×V))(k:κ)(v:V):List (κ×V):=
 if(kvs.any λkv=>decide (kv.1=k))=true then kvs.map (λkv=>if kv.1=k then(kv.1,v) else kv) else kvs++[(k,v)]
theorem Ea {p:κ×V}{r:List (κ×V)}{k:κ}(e:p.1=k):Fe (p::r) k=some p.2:=by simp[Fe,Af8,e]
theorem Ds {p:κ×V}{r:List (κ×V)}{k:κ}(e: ¬p.1=k):Fe (p::r) k=Fe r k:=by simp[Fe,Af8,e]
theorem Je (k:κ): ∀kvs:List (κ×V),(kvs.any λkv=>decide (kv.1=k))=(Fe kvs k).isSome
 | []=>rfl
 |
  p::r=>by
  rw[Ahj]
  by_cases e:p.1=k
  · simp only[Ea e,Ac3 e,Aij,Option.isSome_some]
  · rw[Ds e,Ac7 e,Agx];exact Je k r
theorem Xo (k j:κ)(y:V): ∀kvs:List (κ×V),Fe (kvs.map λkv=>if kv.1=k then(kv.1,y) else kv) j=(Fe kvs j).map λx=>if j=k then y else x
 | []=>rfl
 |
  p::r=>by
  have ih:=Xo k j y r
  rw[Ad3]
  by_cases h:p.1=k
  ·
   rw[if_pos h]
   by_cases e:p.1=j
   · rw[Ea (p:=(p.1,y)) e,Ea e,Aic,if_pos (e.symm.trans h)]
   · rw[Ds (p:=(p.1,y)) e,Ds e,ih]
  ·
   rw[if_neg h]
   by_cases e:p.1=j
   · rw[Ea (p:=p) e,Ea e,Aic,if_neg (λz=>h (e.trans z))]
   · rw[Ds (p:=p) e,Ds e,ih]
theorem Ul (k j:κ)(y:V): ∀kvs:List (κ×V),Fe kvs k=none->Fe (kvs++[(k,y)]) j=if j=k then some y else Fe kvs j
 |
  [],_=>by
  by_cases e:k=j
  · rw[if_pos e.symm];exact Ea (p:=(k,y)) e
  · rw[if_neg (λz=>e z.symm)];exact Ds (p:=(k,y)) e
 |
  p::r,hn=>by
  rw[List.cons_append]
  have hk: ¬p.1=k:=λz=>by rw[Ea z] at hn;cases hn
  rw[Ds hk] at hn
  have ih:=Ul k j y r hn
  by_cases e:p.1=j
  · rw[Ea e,Ea e,if_neg (λz=>hk (e.trans z))]
  · rw[Ds e,Ds e,ih]
theorem Mb (kvs:List (κ×V))(k j:κ)(y:V):Fe (putK kvs k y) j=if j=k then some y else Fe kvs j:=by
 unfold putK
 by_cases a:(kvs.any λkv=>decide (kv.1=k))=true
 ·
  rw[if_pos a,Xo]
  rw[Je] at a
  by_cases e:j=k
  ·
   obtain⟨x,hx⟩:=Ae0.mp a
   rw[if_pos e,e,hx,Aic,if_pos rfl]
  ·
   rw[if_neg e]
   cases Fe kvs j with
   | none=>rfl
   | some x=>rw[Aic,if_neg e]
 ·
  rw[if_neg a]
  refine Ul k j y kvs ?_
  rw[Je] at a
  cases q:Fe kvs k with
  | none=>rfl
  | some x=>rw[q] at a;exact(a rfl).elim
theorem Eo (kvs:List (κ×V))(k:κ)(v:V):(putK kvs k v).length<=kvs.length+1:=by
 unfold putK
 split
 · rw[Ac0];lia
 · rw[Ade,Ad2,List.length_nil];lia
theorem lz {kvs:List (κ×V)}{k:κ}(v:V)(h:Fe kvs k=none):putK kvs k v=kvs++[(k,v)]:=by
 unfold putK
 rw[Je,h]
 exact if_neg (by decide)
theorem RelO.isSome_eq {o:Option V}{u:Option Value}(r:RelO o u):o.isSome=u.isSome:=by
 cases o with
 |
  none=>cases u with
  | none=>rfl
  | some _=>exact(show False from r).elim
 |
  some _=>cases u with
  | none=>exact(show False from r).elim
  | some _=>rfl
theorem RelO.getD {o:Option V}{u:Option Value}{d:V}{d':Value}(r:RelO o u)(rd:RelV d d'):RelV (o.getD d) (u.getD d'):=by
 cases o with
 |
  none=>cases u with
  | none=>exact rd
  | some _=>exact(show False from r).elim
 |
  some _=>cases u with
  | none=>exact(show False from r).elim
  | some _=>exact r
theorem KV.val {kvs:List (κ×V)}{vs:List (κ×Value)}(r:KV kvs vs)(k:κ):RelO (Fe kvs k) (valueAt vs k):=by
 unfold KV at r
 induction r with
 | nil=>exact True.intro
 |
  @cons p q ps qs h t ih=>
  obtain⟨h1,h2⟩:=h
  by_cases e:p.1=k
  ·
   have e':q.1=k:=h1.symm.trans e
   have b:valueAt (q::qs) k=some q.2:=by simp[valueAt,Af8,e']
   rw[Ea e,b];exact h2
  ·
   have e': ¬q.1=k:=λz=>e (h1.trans z)
   have b:valueAt (q::qs) k=valueAt qs k:=by simp[valueAt,Af8,e']
   rw[Ds e,b];exact ih
theorem KV.any {kvs:List (κ×V)}{vs:List (κ×Value)}(r:KV kvs vs)(k:κ):(kvs.any λkv=>decide (kv.1=k))=vs.any λkv=>decide (kv.1=k):=by
 unfold KV at r
 induction r with
 | nil=>rfl
 | cons h t ih=>rw[Ahj,Ahj,ih,h.1]
theorem KV.repl {kvs:List (κ×V)}{vs:List (κ×Value)}(r:KV kvs vs)(k:κ){y:V}{u:Value}(ry:RelV y u):
  KV (kvs.map λkv=>if kv.1=k then(kv.1,y) else kv) (vs.map λkv=>if kv.1=k then(kv.1,u) else kv):=by
 unfold KV at r ⊢
 induction r with
 | nil=>exact .nil
 |
  @cons p q ps qs h t ih=>
  rw[Ad3,Ad3]
  refine .cons ?_ ih
  obtain⟨h1,h2⟩:=h
  by_cases e:p.1=k
  · rw[if_pos e,if_pos (h1.symm.trans e)];exact⟨h1,ry⟩
  · rw[if_neg e,if_neg (λz=>e (h1.trans z))];exact⟨h1,h2⟩
theorem KV.put {kvs:List (κ×V)}{vs:List (κ×Value)}(r:KV kvs vs)(k:κ){y:V}{u:Value}(ry:RelV y u):KV (putK kvs k y) (stored vs k u):=by
 unfold putK stored
 rw[r.any k]
 by_cases e:(vs.any λkv=>decide (kv.1=k))=true
 · rw[if_pos e,if_pos e];exact r.repl k ry
 · rw[if_neg e,if_neg e];exact Paired.snoc r ⟨rfl,ry⟩
theorem KV.length {kvs:List (κ×V)}{vs:List (κ×Value)}(r:KV kvs vs):kvs.length=vs.length:=Ahb r
end
theorem V6 {P:Program}{w:World}{k:Key}{u:Value}(r:RelV (kV k) u):(Bi P w).is k u=true:=by
 cases k with
 | inl i=>obtain⟨t,e⟩:=(show ∃t,u=Value.int i t from r);subst e;exact W9 P w i t
 | inr x=>obtain⟨t,e⟩:=(show ∃t,u=Value.str x t from r);subst e;exact Wh P w x t
theorem mv {a b:Key}(e:kV a=kV b):a=b:=by
 cases a with
 |
  inl i=>cases b with
  | inl j=>have e':V.int i=V.int j:=e;injection e' with e';rw[e']
  | inr y=>exact nomatch (show V.int i=V.str y from e)
 |
  inr x=>cases b with
  | inl j=>exact nomatch (show V.str x=V.int j from e)
  | inr y=>have e':V.str x=V.str y:=e;injection e' with e';rw[e']
theorem Ub {P:Program}{w:World}: ∀{ks:List Key}{us:List Value},Vals (ks.map kV) us->ItemsAre (Bi P w) ks us
 | [],_,r=>by rw[Aih] at r;cases r;exact .nil
 |
  k::ks,_,r=>by
  rw[Ad3] at r
  cases r with
  | cons h t=>exact .cons (V6 h) (Ub t)
abbrev KT (H:Hp):List (List Key×V)->List (List Key×Addr×Value)->Prop:=Paired λp q=>p.1=q.1/\H q.2.1=some (.tup (p.1.map kV))/\RelV p.2 q.2.2
theorem KT.val {H:Hp}{kvs:List (List Key×V)}{xs:List (List Key×Addr×Value)}(r:KT H kvs xs)(k:List Key):RelO (Fe kvs k) ((atKey xs k).map (·.2)):=by
 induction r with
 | nil=>exact True.intro
 |
  @cons p q ps qs h t ih=>
  obtain⟨h1,_,h2⟩:=h
  by_cases e:p.1=k
  ·
   have e':q.1=k:=h1.symm.trans e
   have b:atKey (q::qs) k=some q.2:=by simp[atKey,Af8,e']
   rw[Ea e,b];exact h2
  ·
   have e': ¬q.1=k:=λz=>e (h1.trans z)
   have b:atKey (q::qs) k=atKey qs k:=by simp[atKey,Af8,e']
   rw[Ds e,b];exact ih
theorem KT.repl {H:Hp}{kvs:List (List Key×V)}{xs:List (List Key×Addr×Value)}(r:KT H kvs xs)(k:List Key){y:V}{u:Value}(ry:RelV y u):
  KT H (kvs.map λkv=>if kv.1=k then(kv.1,y) else kv) (xs.map (putAt k u)):=by
 induction r with
 | nil=>exact .nil
 |
  @cons p q ps qs h t ih=>
  rw[Ad3,Ad3]
  refine .cons ?_ ih
  obtain⟨h1,h2,h3⟩:=h
  unfold putAt
  by_cases e:p.1=k
  · rw[if_pos e,if_pos (h1.symm.trans e)];exact⟨h1,h2,ry⟩
  · rw[if_neg e,if_neg (λz=>e (h1.trans z))];exact⟨h1,h2,h3⟩
theorem KT.put {H:Hp}{kvs:List (List Key×V)}{xs:List (List Key×Addr×Value)}(r:KT H kvs xs)(k:List Key){b:Addr}{y:V}{u:Value}(hb:H b=some (.tup (k.map kV)))(ry:RelV y u):
  KT H (putK kvs k y) (storedH xs k b u):=by
 have e:(kvs.any λkv=>decide (kv.1=k))=(atKey xs k).isSome:=by
  rw[Je,(r.val k).isSome_eq,Option.isSome_map]
 unfold putK storedH
 rw[e]
 by_cases q:(atKey xs k).isSome=true
 · rw[if_pos q,if_pos q];exact r.repl k ry
 · rw[if_neg q,if_neg q];exact Paired.snoc r ⟨rfl,hb,ry⟩
theorem KT.keeps {H H':Hp}{kvs:List (List Key×V)}{xs:List (List Key×Addr×Value)}(r:KT H kvs xs)(ht: ∀b ys,H b=some (.tup ys)->H' b=some (.tup ys)):KT H' kvs xs:=
 Paired.mapP r λ_ _ z=>⟨z.1,ht _ _ z.2.1,z.2.2⟩
section
variable {P:Program}{w:World}{H:Hp}{h:Heap}{a:Addr}
theorem yh {u:HO}(ok:HOk P w H h)(e:Rd H a u):ObjOk P w H h a u:=e.ok ok
theorem Vs {kvs:List (Key×V)}(ok:HOk P w H h)(e:Rd H a (.dK kvs)):kvs.length<=sizeLine/\(a==sysModules)=false/\ ∃vs,KV kvs vs/\h.DictOf (Bi P w) a vs:=
 show ObjOk P w H h a (.dK kvs) from yh ok e
theorem xh {kvs:List (Key×V)}(ok:HOk P w H h)(e:H a=some (.dK kvs)):kvs.length<=sizeLine/\(a==sysModules)=false/\ ∃vs,KV kvs vs/\h.DictOf (Bi P w) a vs:=Vs ok (.inl e)
theorem Kh {ks:List Key}(ok:HOk P w H h)(e:H a=some (.tup (ks.map kV))):(tupleKind (Bi P w)).is h ks a:=by
 obtain⟨_,its,r,o,h1,h2,n,h3⟩:=(show ObjOk P w H h a (.tup (ks.map kV)) from ok a _ e)
 exact⟨o,its.toArray,n,h1,h2,h3,by simpa using Ub r⟩
theorem T4 {kvs:List (List Key×V)}(ok:HOk P w H h)(e:Rd H a (.dT kvs)):kvs.length<=sizeLine/\(a==sysModules)=false/\
  ∃xs,KT H kvs xs/\h.DictOfH (tupleKind (Bi P w)) a xs:=by
 obtain⟨z,y,xs,r,o,es,ep,h1,h2,h3,h4,h5⟩:=(show ObjOk P w H h a (.dT kvs) from yh ok e)
 refine⟨z,y,xs,r,o,es,ep,h1,h2,h3,h4,λx hx=>?_,h5⟩
 have all: ∀{l:List (List Key×V)}{m:List (List Key×Addr×Value)},KT H l m-> ∀x∈m,(tupleKind (Bi P w)).is h x.1 x.2.1:=by
  intro l m q
  induction q with
  | nil=>intro x hx;exact nomatch hx
  |
   @cons p q ps qs hq t ih=>
   intro x hx
   rcases Ado.mp hx with e|hx
   ·
    subst e
    exact Kh ok (by rw[←hq.1];exact hq.2.1)
   · exact ih x hx
 exact all r x hx
theorem uc {kvs:List (List Key×V)}(ok:HOk P w H h)(e:H a=some (.dT kvs)):kvs.length<=sizeLine/\(a==sysModules)=false/\
 ∃xs,KT H kvs xs/\h.DictOfH (tupleKind (Bi P w)) a xs:=T4 ok (.inl e)
end
def DGet (H:Hp)(a:Addr)(y:V)(r:Option V):Prop:=
 (∃kvs k,Rd H a (.dK kvs)/\y=kV k/\r=Fe kvs k)∨ ∃kvs k b,Rd H a (.dT kvs)/\y=.ref b/\H b=some (.tup (k.map kV))/\r=Fe kvs k
def DPut (H:Hp)(a:Addr)(y v:V)(H':Hp):Prop:=
 (∃kvs k,H a=some (.dK kvs)/\y=kV k/\kvs.length<sizeLine/\H'=upd H a (.dK (putK kvs k v)))∨
 ∃kvs k b,H a=some (.dT kvs)/\y=.ref b/\H b=some (.tup (k.map kV))/\kvs.length<sizeLine/\H'=upd H a (.dT (putK kvs k v))
theorem DGet.k {H:Hp}{a:Addr}{kvs:List (Key×V)}{k:Key}(e:H a=some (.dK kvs)):DGet H a (kV k) (Fe kvs k):=.inl ⟨kvs,k,.inl e,rfl,rfl⟩
theorem DGet.t {H:Hp}{a b:Addr}{kvs:List (List Key×V)}{k:List Key}(e:H a=some (.dT kvs))(eb:H b=some (.tup (k.map kV))):DGet H a (.ref b) (Fe kvs k):=.inr ⟨kvs,k,b,.inl e,rfl,eb,rfl⟩
theorem DPut.k {H:Hp}{a:Addr}{kvs:List (Key×V)}{k:Key}{v:V}(e:H a=some (.dK kvs))(hl:kvs.length<sizeLine):DPut H a (kV k) v (upd H a (.dK (putK kvs k v))):=.inl ⟨kvs,k,e,rfl,hl,rfl⟩
theorem DPut.t {H:Hp}{a b:Addr}{kvs:List (List Key×V)}{k:List Key}{v:V}(e:H a=some (.dT kvs))(eb:H b=some (.tup (k.map kV)))(hl:kvs.length<sizeLine):
 DPut H a (.ref b) v (upd H a (.dT (putK kvs k v))):=.inr ⟨kvs,k,b,e,rfl,eb,hl,rfl⟩
section
variable {X:Cx}{pins:List (Addr×Obj)}{σ:St}{H:Hp}{s:Shared}{a:Addr}{y v:V}{u r:Value}{o:Option V}{A:Around}{E:Value->Shared->Prop}
theorem Inv.big (I:Inv X pins σ H s):sysModules<s.heap.objs.size:=by
 have h:mainGlobals<s.heap.objs.size:=(I.mod.glob.keeps I.bk).lt
 exact Nat.lt_trans (by decide) h
theorem ig {Q:Value->Shared->Prop}(hu:A.units+1<cLine)(I:Inv X pins σ H s)(g:DGet H a y (some v))(ry:RelV y u)(h: ∀w' s',Inv X pins σ H s'->RelV v w'->Q w' s'):
  wpAny (model X.prog X.w) A (getItem (.ref a) u) Q E s:=by
 rcases g with⟨kvs,k,e,ey,l⟩|⟨kvs,k,b,e,ey,eb,l⟩
 ·
  subst ey
  obtain⟨z,hd,vs,rel,dd⟩:=Vs I.hok e
  obtain⟨w',hw,rw'⟩:=RelO.some_of (v:=v) (o:=valueAt vs k) (by rw[l];exact rel.val k)
  exact wpAny_getItem_of (V6 ry) dd.mapOf hw (h w' _ (I.tok _) rw')
 ·
  subst ey
  cases (show u=Value.ref b from ry)
  obtain⟨z,hd,xs,rel,dd⟩:=T4 I.hok e
  obtain⟨w',hw,rw'⟩:=RelO.some_of (v:=v) (o:=(atKey xs k).map (·.2)) (by rw[l];exact rel.val k)
  obtain⟨p,hp,hp2⟩:=Aen.mp hw
  refine wpAny_getItem_heap (Afu hu) (Kh I.hok eb) dd hp ?_
  rw[hp2]
  exact h w' _ (I.tok _) rw'
theorem Ab2 {Q:Value->Shared->Prop}(hu:A.units+1<cLine)(I:Inv X pins σ H s)(g:DGet H a y o)(ry:RelV y u)(h: ∀s',Inv X pins σ H s'->Q (.bool o.isSome) s'):
  wpAny (model X.prog X.w) A (compareOp .In u (.ref a)) Q E s:=by
 rcases g with⟨kvs,k,e,ey,l⟩|⟨kvs,k,b,e,ey,eb,l⟩
 ·
  subst ey
  obtain⟨z,hd,vs,rel,dd⟩:=Vs I.hok e
  refine wpAny_in_of (V6 ry) hd dd.mapOf ?_
  rw[←(rel.val k).isSome_eq,←l]
  exact h _ (I.tok _)
 ·
  subst ey
  cases (show u=Value.ref b from ry)
  obtain⟨z,hd,xs,rel,dd⟩:=T4 I.hok e
  refine wpAny_in_heap (Afu hu) (Kh I.hok eb) hd dd ?_
  have q:=(rel.val k).isSome_eq
  rw[Option.isSome_map] at q
  rw[←q,←l]
  exact h _ (I.tok _)
theorem ow {Q:Value->Shared->Prop}(hu:A.units+1<cLine)(I:Inv X pins σ H s)(g:DGet H a y o)(ry:RelV y u)(h: ∀s',Inv X pins σ H s'->Q (.bool (!o.isSome)) s'):
  wpAny (model X.prog X.w) A (compareOp .NotIn u (.ref a)) Q E s:=by
 rcases g with⟨kvs,k,e,ey,l⟩|⟨kvs,k,b,e,ey,eb,l⟩
 ·
  subst ey
  obtain⟨z,hd,vs,rel,dd⟩:=Vs I.hok e
  refine wpAny_notIn_of (V6 ry) hd dd.mapOf ?_
  rw[←(rel.val k).isSome_eq,←l]
  exact h _ (I.tok _)
 ·
  subst ey
  cases (show u=Value.ref b from ry)
  obtain⟨z,hd,xs,rel,dd⟩:=T4 I.hok e
  refine wpAny_notIn_heap (Afu hu) (Kh I.hok eb) hd dd ?_
  have q:=(rel.val k).isSome_eq
  rw[Option.isSome_map] at q
  rw[←q,←l]
  exact h _ (I.tok _)
theorem Rh {h':Heap}{t':Nat}{ob:HO}(I:Inv X pins σ H s)(mu:Mut (H a))(hs:Heap.SameBut a s.heap h')(he: ∃q,h'.get? a=some q)(new:ObjOk X.prog X.w (upd H a ob) h' a ob):
  Inv X pins σ (upd H a ob) {s with heap:=h',toks:=t'}:=
 I.write (x:=a) (e:=a) mu (.inl rfl) (λb q hb z=>(hs.2 b hb).trans z) he new
theorem vh {P:Program}{w:World}{H':Hp}{h':Heap}{kvs:List (Key×V)}{vs:List (Key×Value)}(z:kvs.length<=sizeLine)(hd:(a==sysModules)=false)(rel:KV kvs vs)(dd:h'.DictOf (Bi P w) a vs):
 ObjOk P w H' h' a (.dK kvs):=⟨z,hd,vs,rel,dd⟩
theorem gq {H':Hp}{Q:Unit->Shared->Prop}(hu:A.units+1<cLine)(I:Inv X pins σ H s)(g:DPut H a y v H')(ry:RelV y u)(rv:RelV v r)(h: ∀s',Inv X pins σ H' s'->Q () s'):
  wpAny (model X.prog X.w) A (setItem (.ref a) u r) Q E s:=by
 rcases g with⟨kvs,k,e,ey,l,eH⟩|⟨kvs,k,b,e,ey,eb,l,eH⟩
 ·
  subst ey eH
  obtain⟨z,hd,vs,rel,dd⟩:=xh I.hok e
  have hz:vs.length<=sizeLine:=by rw[←rel.length];exact z
  have hl:(putK kvs k v).length<=sizeLine:=by have:=Eo kvs k v;lia
  refine wpAny_setItem_pairs (hsz:=hz) (V6 ry) dd λh' dd' hs=>h _ ?_
  have he: ∃q,h'.get? a=some q:=let ⟨q,_,_,hq,_⟩:=dd';⟨q,hq⟩
  exact Rh I (by rw[e];exact True.intro) hs he (vh hl hd (rel.put k rv) dd')
 ·
  subst ey eH
  cases (show u=Value.ref b from ry)
  obtain⟨z,hd,xs,rel,dd⟩:=uc I.hok e
  have hz:xs.length<=sizeLine:=by rw[←Ahb rel];exact z
  have hl:(putK kvs k v).length<=sizeLine:=by have:=Eo kvs k v;lia
  refine wpAny_setItem_heap (hsz:=hz) (Afu hu) (Kh I.hok eb) dd λh' dd' hs=>h _ ?_
  obtain⟨q,es,ep,hq,h2,h3,h4,_,h5⟩:=dd'
  refine Rh I (by rw[e];exact True.intro) hs ⟨q,hq⟩ ⟨hl,hd,_,(rel.put k eb rv).keeps λc ys ec=>?_,q,es,ep,hq,h2,h3,h4,h5⟩
  rw[Aq (Ff ec e (λz=>nomatch z))]
  exact ec
end
section
variable {X:Cx}{pins:List (Addr×Obj)}{σ:St}{H:Hp}{s:Shared}{a:Addr}{kvs:List (Key×V)}{k:Key}{u:Value}{A:Around}{E:Value->Shared->Prop}
end
def Abb (i:Expr):Prop:=∀ov iv,subscripted i false ov iv=operate [ov,iv] (getItem ov iv)
theorem pe {prog:Program}{w:World}{A:Around}{E:Value->Shared->Prop}{s:Shared}{env:Env}{value slice:Expr}{pos:Pos}{T id:String}{Q:Value->Shared->Prop}
  (hl:typeLookup (.type T) "__getitem__"=pure (some (.builtin id))) (hs:Abb slice)
  (h:wpAny (model prog w) A (eval value env) (λo s₁=>wpAny (model prog w) A (eval slice env) (λi s₂=>s₂.TypeIs o T/\wpAny (model prog w) A (getItem o i) Q E s₂) E s₁) E s):
  wpAny (model prog w) A (eval (.Subscript value slice pos) env) Q E s:=by
 refine Subscript_ (Afa h (λo s₁ h₁=>Afa h₁ (λi s₂ h₂=>?_) λ_ _ x=>x) λ_ _ x=>x)
 obtain⟨hT,h₂⟩:=h₂
 unfold subscriptTail
 refine Ac1 ?_
 rw[getitemInPython_of_ne hT.not_modules]
 refine Ac1 (Ahu hT hl ?_)
 have fin:wpAny (model prog w) A (subscripted slice false o i) (λr s₃=>wpAny (model prog w) A (letTemporaryGo value o r>>= λ_=>pure r) Q E s₃) E s₂:=by
  rw[hs o i]
  exact wpAny_operating (Afa h₂ (λr s₃ h₃=>Ac1 (wpAny_letTemporaryGo (Ac4 h₃))) λ_ _ x=>x)
 first
  | exact Ac4 (Ac1 fin)
  | exact Ac1 (Ac4 (Ac1 fin))
  | exact Ac1 fin
theorem Wo {X:Cx}{pins:List (Addr×Obj)}{σ:St}{H:Hp}{s:Shared}{a:Addr}{y:V}{o:Option V}(I:Inv X pins σ H s)(g:DGet H a y o):s.TypeIs (.ref a) "dict":=by
 rcases g with⟨kvs,k,e,_,_⟩|⟨kvs,k,b,e,_,_,_⟩
 ·
  obtain⟨_,_,vs,_,dd⟩:=Vs I.hok e
  exact dd.typeIs
 ·
  obtain⟨_,_,xs,_,dd⟩:=T4 I.hok e
  exact dd.typeIs
def Aay (td ty:TE):TE:=λσ H Q=>td σ H λx H1=>ty σ H1 λy H2=>∃a v,x=.ref a/\DGet H2 a y (some v)/\Q v H2
def Aco (ty td:TE):TE:=λσ H Q=>ty σ H λy H1=>td σ H1 λx H2=>∃a o,x=.ref a/\DGet H2 a y o/\Q (.bl o.isSome) H2
def tm (ty td:TE):TE:=λσ H Q=>ty σ H λy H1=>td σ H1 λx H2=>∃a o,x=.ref a/\DGet H2 a y o/\Q (.bl (!o.isSome)) H2
def Aak (td ty tv:TE):TS:=λD σ H=>tv σ H λv H1=>td σ H1 λx H2=>ty σ H2 λy H3=>∃a H4,x=.ref a/\DPut H3 a y v H4/\D.nx σ H4
section
variable {X:Cx}{o i e value:Expr}{pos pos' tpos:Pos}{td ty tv:TE}
theorem Wa (hu:X.A.units+1<cLine)(ho:PE X o td)(hi:PE X i ty)(hs:Abb i):PE X (.Subscript o i pos) (Aay td ty):=by
 intro pins s σ H Q I h
 refine pe PySem.F.slot_dict_getitem.lookup hs (thn (ho pins s σ H _ I h) λu s1 ⟨x,H1,I1,rx,q1⟩=>thn (hi pins s1 σ H1 _ I1 q1) λiv s2 ⟨y,H2,I2,ry,a,v,ex,g,q2⟩=>?_)
 subst ex
 obtain rfl:u=Value.ref a:=rx
 exact⟨Wo I2 g,ig hu I2 g ry λw' s3 I3 rw'=>⟨v,H2,I3,rw',q2⟩⟩
theorem yd (hu:X.A.units+1<cLine)(hi:PE X i ty)(ho:PE X o td):PC X .In i o (Aco ty td):=by
 intro pins s σ H Q I h
 refine thn (hi pins s σ H _ I h) λiv s1 ⟨y,H1,I1,ry,q1⟩=>thn (ho pins s1 σ H1 _ I1 q1) λu s2 ⟨x,H2,I2,rx,a,ov,ex,g,q2⟩=>?_
 subst ex
 obtain rfl:u=Value.ref a:=rx
 exact Ab2 hu I2 g ry λs3 I3=>⟨.bl ov.isSome,H2,I3,rfl,q2⟩
theorem Vj (hu:X.A.units+1<cLine)(hi:PE X i ty)(ho:PE X o td):PC X .NotIn i o (tm ty td):=by
 intro pins s σ H Q I h
 refine thn (hi pins s σ H _ I h) λiv s1 ⟨y,H1,I1,ry,q1⟩=>thn (ho pins s1 σ H1 _ I1 q1) λu s2 ⟨x,H2,I2,rx,a,ov,ex,g,q2⟩=>?_
 subst ex
 obtain rfl:u=Value.ref a:=rx
 exact ow hu I2 g ry λs3 I3=>⟨.bl (!ov.isSome),H2,I3,rfl,q2⟩
theorem Wu (hu:X.A.units+1<cLine)(ho:PE X o td)(hi:PE X i ty)(hv:PE X value tv)(hs:swapsWith value (some (.Subscript o i pos')) pos.line X.env=pure false):
  PS X (.Assign [.Subscript o i pos'] value pos) (Aak td ty tv):=by
 intro pins s σ H D I h
 refine wpAny_Assign_Subscript (thn (hv pins s σ H _ I h) λr s1 ⟨v,H1,I1,rv,q1⟩=>thn (ho pins s1 σ H1 _ I1 q1) λu s2 ⟨x,H2,I2,rx,q2⟩=>thn (hi pins s2 σ H2 _ I2 q2) λiv s3 ⟨y,H3,I3,ry,a,H4,ex,g,q3⟩=>?_) hs
 subst ex
 obtain rfl:u=Value.ref a:=rx
 exact gq hu I3 g ry rv λs4 I4=>⟨σ,H4,I4,q3⟩
end
theorem ku {P:Program}{w:World}{H:Hp}(h:Heap)(hb:sysModules<h.objs.size):ObjOk P w H (h.push {cls:=.type "dict",data:=.dict #[]}) h.objs.size (.dK []):=
 ⟨Adw _,Afi.mpr (Ah3 (Ad9 hb)),[],.nil,Heap.DictOf.new h⟩
theorem lh {P:Program}{w:World}{H:Hp}(h:Heap)(hb:sysModules<h.objs.size):ObjOk P w H (h.push {cls:=.type "dict",data:=.dict #[]}) h.objs.size (.dT []):=
 ⟨Adw _,Afi.mpr (Ah3 (Ad9 hb)),[],.nil,_,#[],0,Adv _ rfl,⟨rfl,rfl,rfl⟩,rfl,rfl,Agm⟩
def xv:TE:=λ_ H Q=>∀p,H p=none->Q (.ref p) (upd H p (.dK []))
def wb:TE:=λ_ H Q=>∀p,H p=none->Q (.ref p) (upd H p (.dT []))
section
variable {X:Cx}{pos:Pos}
theorem Sd:PE X (.Dict [] [] pos) xv:=λpins s σ H Q I h=>
 wpAny_Dict_empty ⟨.ref s.heap.objs.size,_,I.laid (a:=s.heap.objs.size) (o:=.dK []) (t':=s.toks) (λ_ _ q=>Ac5 _ q) (Adb _) (ku s.heap I.big),rfl,h _ (I.hok.fresh (Adb _))⟩
theorem Xv:PE X (.Dict [] [] pos) wb:=λpins s σ H Q I h=>
 wpAny_Dict_empty ⟨.ref s.heap.objs.size,_,I.laid (a:=s.heap.objs.size) (o:=.dT []) (t':=s.toks) (λ_ _ q=>Ac5 _ q) (Adb _) (lh s.heap I.big),rfl,h _ (I.hok.fresh (Adb _))⟩
end
structure M1 (X:Cx)(o:Expr)(m:Str)(apos:Pos)(e:Expr)(cpos:Pos):Prop where
 base:attributeBase o m X.env (eval o X.env)=eval o X.env
 few:((backTo cpos (starEach [e] X.env)).all (λx=>!x.1)&&(backToKw cpos (keywordEach [] X.env)).all (λx=>x.1.isSome)
  &&decide (([e]:List Expr).length+([]:List Keyword).length+(if([]:List Keyword).isEmpty then 0 else 1)<30))=true
 line:(apos.endLine==cpos.line)=true
 trees:backTo cpos (starEach [e] X.env)=[(false,eval e X.env)]
structure M2 (X:Cx)(o:Expr)(m:Str)(apos:Pos)(e f:Expr)(cpos:Pos):Prop where
 base:attributeBase o m X.env (eval o X.env)=eval o X.env
 few:((backTo cpos (starEach [e,f] X.env)).all (λx=>!x.1)&&(backToKw cpos (keywordEach [] X.env)).all (λx=>x.1.isSome)
  &&decide (([e,f]:List Expr).length+([]:List Keyword).length+(if([]:List Keyword).isEmpty then 0 else 1)<30))=true
 line:(apos.endLine==cpos.line)=true
 trees:backTo cpos (starEach [e,f] X.env)=[(false,eval e X.env),(false,eval f X.env)]
def IsD (H:Hp)(a:Addr):Prop:=(∃kvs,Rd H a (.dK kvs))∨ ∃kvs,Rd H a (.dT kvs)
theorem mz {X:Cx}{pins:List (Addr×Obj)}{σ:St}{H:Hp}{s:Shared}{a:Addr}(I:Inv X pins σ H s)(d:IsD H a):
  s.TypeIs (.ref a) "dict"/\(∀b,Value.ref a=.ref b-> ∃ob,s.heap.get? b=some ob/\ob.dict=none)/\(a==sysModules)=false:=by
 rcases d with⟨kvs,e⟩|⟨kvs,e⟩
 ·
  obtain⟨_,hd,vs,_,dd⟩:=Vs I.hok e
  refine⟨dd.typeIs,λb q=>?_,hd⟩
  cases q
  obtain⟨ob,_,_,h1,h2,_⟩:=dd
  exact⟨ob,h1,h2.2.1⟩
 ·
  obtain⟨_,hd,xs,_,dd⟩:=T4 I.hok e
  refine⟨dd.typeIs,λb q=>?_,hd⟩
  cases q
  obtain⟨ob,_,_,h1,h2,_⟩:=dd
  exact⟨ob,h1,h2.2.1⟩
section
variable {X:Cx}{pins:List (Addr×Obj)}{σ:St}{H:Hp}{s:Shared}{a:Addr}{y d:V}{u r:Value}{o:Option V}{A:Around}{E:Value->Shared->Prop}
theorem yl {Q:Value->Shared->Prop}(hu:A.units+1<cLine)(I:Inv X pins σ H s)(g:DGet H a y o)(ry:RelV y u)(h: ∀w' s',Inv X pins σ H s'->RelV (o.getD .non) w'->Q w' s'):
  wpAny (model X.prog X.w) A (call (.builtin "dict.get") [.ref a,u]) Q E s:=by
 rcases g with⟨kvs,k,e,ey,l⟩|⟨kvs,k,b,e,ey,eb,l⟩
 ·
  subst ey
  obtain⟨z,hd,vs,rel,dd⟩:=Vs I.hok e
  refine call_meetsIn Afm dd.typeIs Ag2 (PySem.F.args_dict_get_2 _ _) (meets_dict_get (Bi X.prog X.w) a (V6 ry) hd) ⟨_,dd.mapOf,h _ _ (I.tok _) ?_⟩
  rw[l]
  exact(rel.val k).getD rfl
 ·
  subst ey
  cases (show u=Value.ref b from ry)
  obtain⟨z,hd,xs,rel,dd⟩:=T4 I.hok e
  refine call_meetsIn Afm dd.typeIs Ag2 (PySem.F.args_dict_get_2 _ _) (meetsH_dict_get (tupleKind (Bi X.prog X.w)) a b hd) ⟨Afu hu,k,xs,Kh I.hok eb,dd,h _ _ (I.tok _) ?_⟩
  rw[l]
  exact(rel.val k).getD rfl
theorem yf {Q:Value->Shared->Prop}(hu:A.units+1<cLine)(I:Inv X pins σ H s)(g:DGet H a y o)(ry:RelV y u)(rd:RelV d r)(h: ∀w' s',Inv X pins σ H s'->RelV (o.getD d) w'->Q w' s'):
  wpAny (model X.prog X.w) A (call (.builtin "dict.get") [.ref a,u,r]) Q E s:=by
 rcases g with⟨kvs,k,e,ey,l⟩|⟨kvs,k,b,e,ey,eb,l⟩
 ·
  subst ey
  obtain⟨z,hd,vs,rel,dd⟩:=Vs I.hok e
  refine call_meetsIn Afm dd.typeIs Ag2 (PySem.F.args_dict_get_3 _ _ _) (meets_dict_get_default (Bi X.prog X.w) a (V6 ry) hd r) ⟨_,dd.mapOf,h _ _ (I.tok _) ?_⟩
  rw[l]
  exact(rel.val k).getD rd
 ·
  subst ey
  cases (show u=Value.ref b from ry)
  obtain⟨z,hd,xs,rel,dd⟩:=T4 I.hok e
  refine call_meetsIn Afm dd.typeIs Ag2 (PySem.F.args_dict_get_3 _ _ _) (meetsH_dict_get_default (tupleKind (Bi X.prog X.w)) a b hd r) ⟨Afu hu,k,xs,Kh I.hok eb,dd,h _ _ (I.tok _) ?_⟩
  rw[l]
  exact(rel.val k).getD rd
end
def yi (td ty:TE):TE:=λσ H Q=>td σ H λx H1=>∃a,x=.ref a/\IsD H1 a/\ty σ H1 λy H2=>∃o,DGet H2 a y o/\Q (o.getD .non) H2
def vq (td ty tx:TE):TE:=λσ H Q=>td σ H λx H1=>∃a,x=.ref a/\IsD H1 a/\ty σ H1 λy H2=>tx σ H2 λz H3=>∃o,DGet H3 a y o/\Q (o.getD z) H3
section
variable {X:Cx}{o e f:Expr}{apos cpos:Pos}{td ty tx:TE}
theorem i5 (hu:X.A.units+1<cLine)(ho:PE X o td)(he:PE X e ty)(m:M1 X o "get" apos e cpos):PE X (.Call (.Attribute o "get" apos) [e] [] cpos) (yi td ty):=by
 intro pins s σ H Q I h
 refine wpAny_Call_method m.base m.few m.line Ah0 Afm PySem.F.type_dict_get (thn (ho pins s σ H _ I h) λu s1 ⟨x,H1,I1,rx,a,ex,d,q1⟩=>?_)
 subst ex
 obtain rfl:u=Value.ref a:=rx
 obtain⟨t1,t2,_⟩:=mz I1 d
 refine⟨t1,t2,?_⟩
 rw[m.trees]
 refine Aio rfl (Aix (Ah5 (thn (he pins s1 σ H1 _ I1 q1) λiv s2 ⟨y,H2,I2,ry,ov,g,q2⟩=>Calls.spliced_nil ?_)))
 exact yl hu I2 g ry λw' s3 I3 rw'=>⟨_,H2,I3,rw',q2⟩
theorem Tg (hu:X.A.units+1<cLine)(ho:PE X o td)(he:PE X e ty)(hf:PE X f tx)(m:M2 X o "get" apos e f cpos):PE X (.Call (.Attribute o "get" apos) [e,f] [] cpos) (vq td ty tx):=by
 intro pins s σ H Q I h
 refine wpAny_Call_method m.base m.few m.line Ah0 Afm PySem.F.type_dict_get (thn (ho pins s σ H _ I h) λu s1 ⟨x,H1,I1,rx,a,ex,d,q1⟩=>?_)
 subst ex
 obtain rfl:u=Value.ref a:=rx
 obtain⟨t1,t2,_⟩:=mz I1 d
 refine⟨t1,t2,?_⟩
 rw[m.trees]
 refine Aio rfl (Aix (Ah5 (thn (he pins s1 σ H1 _ I1 q1) λiv s2 ⟨y,H2,I2,ry,q2⟩=>
  Ah5 (thn (hf pins s2 σ H2 _ I2 q2) λfv s3 ⟨z,H3,I3,rz,ov,g,q3⟩=>Calls.spliced_nil ?_))))
 exact yf hu I3 g ry rz λw' s4 I4 rw'=>⟨_,H3,I4,rw',q3⟩
end
section
variable {X:Cx}{pins:List (Addr×Obj)}{σ:St}{H:Hp}{s:Shared}{a:Addr}{kvs:List (Key×V)}{A:Around}{E:Value->Shared->Prop}
end
section
variable {X:Cx}{pins:List (Addr×Obj)}{σ:St}{H:Hp}{s:Shared}{a:Addr}{y:V}{u:Value}{A:Around}{E:Value->Shared->Prop}
end
end L2
namespace Att
open PySem PySem.W PySem.Calls PyProof.Rows
section
variable {prog:Program}{w:World}{A:Around}{E:Value->Shared->Prop}{s:Shared}{K:Frag}
end
end Att
namespace L2
open PySem PySem.Spec PyProof.Rows
section
variable {P:Program}{w:World}{K:W.Frag}{mg:Str->Option Value}{base:Heap}
end
section
variable {X:Cx}
end
section
variable {κ:Type}[DecidableEq κ]
theorem jr {kvs:List (κ×V)}{k:κ}(h:Fe kvs k=none): ¬k∈kvs.map (·.1):=by
 intro m
 obtain⟨p,hp,e⟩:=Ac2.mp m
 have q:(kvs.any λkv=>decide (kv.1=k))=true:=List.any_eq_true.mpr ⟨p,hp,Ac3 e⟩
 rw[Je,h] at q
 exact absurd q (by simp)
theorem rm {kvs:List (κ×V)}{k:κ}{v:V}(h:Fe kvs k=some v):k∈kvs.map (·.1):=by
 have q:(kvs.any λkv=>decide (kv.1=k))=true:=by
  rw[Je,h]
  all_goals rfl
 obtain⟨p,hp,e⟩:=List.any_eq_true.mp q
 exact Ac2.mpr ⟨p,hp,Adk e⟩
end
end L2
namespace L2
open PySem PySem.W PyProof.Rows
section
variable {prog:Program}{w:World}{A:Around}{E:Value->Shared->Prop}{s:Shared}
theorem Pa {T:String}{r d:Addr}{n:Nat}{P:Nat->Value->Prop}{OK:Heap->Prop}{Q:List Value->Shared->Prop}(S:KdlSrc prog w T r d n P OK)(hh:A.handled=none)(hok:OK s.heap)(hn:n<=sizeLine)
  (h: ∀h' tk(acc:Array Value),(∀b o,s.heap.get? b=some o->h'.get? b=some o)->s.heap.objs.size<=h'.objs.size->ItemsOf P acc n->Q acc.toList {s with heap:=h',toks:=tk}):wpAny (model prog w) A (collect (.ref r)) Q E s:=by
 unfold collect
 refine Ac1 (wpAny_runValue (Ahx entry_proto_collect' ?_))
 show wpAny _ _ (do again (.builtin "list.__iadd__" ⟨[←newList [],.ref r],[]⟩)) _ _ s
 refine Ac1 (Ag8 (Ac4 ⟨Code.quiet_builtin _ (by decide+kernel),Ahx entry_list_iadd' ?_⟩))
 show wpAny _ _ (Builtin.List.listExtendWith (.ref s.heap.objs.size) (.ref r) (.ref s.heap.objs.size)) _ _ {s with heap:=s.heap.push (seqObj "list" #[] 0)}
 have hS:(s.heap.push (seqObj "list" #[] 0)).get? s.heap.objs.size=some {cls:=.type "list",data:=.seq #[] 0}:=Adv _ rfl
 rw[Ahp PySem.F.plain_list_iadd _]
 refine kdl_extend (A:=A) (R:=λr s'=>match r with
   |
    Except.ok (Flow.ret v)=>wpAny (model prog w) A (match v with
    |
     .ref a=>do match (←load a).data with
     | .seq xs _=>pure xs.toList
     | _=>unsupported "internal:collect"
    | _=>unsupported "internal:collect") Q E s'
   | Except.ok _=>False
   | Except.error e=>E e s') (s:={s with heap:=s.heap.push (seqObj "list" #[] 0)}) S hh (S.keep _ _ hok λb _ o e=>Ac5 _ e) s.heap.objs.size (Ahq (S.there _ hok).1) (Ahq (S.there _ hok).2) (.ref s.heap.objs.size) 0 hS (λh' tk acc c' hk hS' hacc=>?_) hn
 show wpAny (model prog w) A (do
   let o ←load s.heap.objs.size
   match o.data with
   | .seq xs _=>pure xs.toList
   | _=>unsupported "internal:collect") Q E {s with heap:=h',toks:=tk}
 refine Ac1 (wpAny_load hS' ?_)
 exact Ac4 (h h' tk acc (λb o e=>hk b o (Ad9 (Adm e)) (Ac5 _ e)) (Aif (Adm hS')) hacc)
end
section
variable {X:Cx}
end
section
variable {X:Cx}
end
theorem ex1 {us:List Value}(h:us.length=1): ∃a,us=[a]:=by
 match us,h with
 | [a],_=>exact⟨a,rfl⟩
end L2
namespace L2
open PySem PySem.Spec PyProof.Rows PySem.SeqAt
abbrev LA:=Addr×List RA
def tot (ls:List LA):List (Int×Int):=ls.flatMap λx=>sps x.2
section
variable {X:Cx}
end
section
variable {X:Cx}
end
section
variable {cm:Bool}{P:Program}{w:World}{K:W.Frag}{mg:Str->Option Value}{base:Heap}{CX:CXT}{k:Nat}{f:Addr}{fd:FuncData}{ps:List Str}{sp sp':Sp}
end
section
variable {X:Cx}
end
section
variable {X:Cx}{K:W.Frag}
end
theorem qj {xs:List V}{n:Nat}(h:n<=xs.length):N8 xs none (some (n:Int))=xs.take n:=by
 unfold N8
 rw[HT.ll,HT.si,Aie h]
 rfl
end L2
namespace L2
open PySem PySem.Spec PyProof.Rows
section
variable {X:Cx}{tg:Expr}
end
section
variable {X:Cx}
theorem Xs (hu:X.A.units+2<cLine):OpR X (compareOp .Eq) (λx y H Q=>∃(a b:Addr)(xs:List V),x=.ref a/\y=.ref b/\H a=some (.lst xs)/\H b=some (.lst [])/\Q (.bl xs.isEmpty) H):=by
 intro pins s σ H x y v u Q I rx ry h
 obtain⟨a,b,xs,rfl,rfl,ha,hb,q⟩:=h
 cases rx
 cases ry
 obtain⟨its,rv,pl,hz⟩:=I.list (SqL.of (K:=X.K) ha)
 obtain⟨its2,rv2,pl2,hz2⟩:=I.list (SqL.of (K:=X.K) hb)
 cases rv2
 have hl:=rv.length
 cases xs with
 |
  nil=>
  cases rv
  exact PySem.SeqAt.eq_listAt (e:=λ_=>true) pl.isList pl2.isList rfl (by lia) (λj h1 h2=>absurd h1 (by simp)) ⟨.bl _,H,I,rfl,q⟩
 |
  cons y ys=>
  exact PySem.SeqAt.eq_list_lengthsAt pl.isList pl2.isList (by rw[Adn,←hl];simp) (by lia) ⟨.bl _,H,I,rfl,q⟩
end
end L2
namespace L2
open PySem PySem.Spec PyProof.Rows PySem.Calls
theorem Ep {i0:Nat}{x0:Str}{X:Cx}{elt tgt iter:Expr}{ifs:List Expr}{scope:Scope}{pos pos' spos:Pos}{N:List Str}{cap:List (Option Nat)}{wi:TI}{g:TG}{tt:TT}{te:TE}(hN0:X.N.Nodup)(hi0:X.N[i0]?=some x0)(hx0:X.env.scope.names.lookup x0=some .local)
  (S:Ar X.env.scope scope X.N N cap) (hc:X.calm=true) (hi:PI X tgt iter wi)
  (hb: ∀(C:Addr)(s:Shared)(H:Hp)(fp:List Addr),PG (Ca X N scope C s H fp) tgt g/\ze (Ca X N scope C s H fp) ifs tt/\PE (Ca X N scope C s H fp) elt te)
  (hclos:closureFor scope X.env=pure (Qr X.env scope.names []):=by with_unfolding_all rfl) (hs: ∀x,foldedSetIterable iter X.env x=pure x:=by intro _;rfl)
  (hsw:swapsWith (.ListComp elt [⟨tgt,iter,ifs,0⟩] scope pos) (some (.Name x0 pos')) spos.line X.env=pure true:=by with_unfolding_all rfl):
  PS X (.Assign [.Name x0 pos'] (.ListComp elt [⟨tgt,iter,ifs,0⟩] scope pos) spos) (Abr (xw wi cap g tt te) (Tv i0)):=by
 intro pins s σ H D0 I h
 rw[exec_Assign_Name_used _ _ _ _ hsw]
 refine Ac1 (wpAny_standAt (Ac1 ?_))
 show wpAny (model X.prog X.w) X.A (comprehension (.ListComp elt [⟨tgt,iter,ifs,0⟩] scope pos) scope X.env (firstIterPos [⟨tgt,iter,ifs,0⟩] pos) (newList []) (firstAsync [⟨tgt,iter,ifs,0⟩]) (firstIter [⟨tgt,iter,ifs,0⟩] X.env) (some (assign (.Name x0 pos') X.env))>>= λ_=>pure ()) _ _ _
 refine Ac1 (Afa (Q:=λ_ s'=>SP X pins D0 .next s') ?main (λ_ s' z=>Ac4 (Ac4 z)) λ_ _ z=>z)
 refine wpAny_comprehension_free (use:=some (assign (.Name x0 pos') X.env)) (cl:=Qr X.env scope.names []) rfl hs hclos S.kind S.names ?_
 refine thn (hi pins s σ H _ I h) λv s1 h1=>thn h1 λitv s2 h2=>?_
 obtain⟨it,fp,tn,J,H2,e,I2,T,st2,f2,k⟩:=h2
 subst e
 refine Ae9 (wpAny_newFunctionEnv S.cell (by intro y hy;simp at hy) (λh₁ hns₁ hsb₁=>?_) S.kind)
 dsimp only at hns₁ hsb₁ ⊢
 have I3:Inv X pins σ (upd H2 s2.heap.objs.size (.lst [])) {s2 with heap:=s2.heap.push {cls:=.type "list",dict:=none,data:=.seq ([]:List Value).toArray}}:=I2.lnew (t':=s2.toks) .nil (Adw _)
 obtain⟨W,⟨m0,w0⟩,turn⟩:=k s2.heap.objs.size I2.fresh
 generalize hD:s2.heap.objs.size=D at*
 generalize hsD:({s2 with heap:=s2.heap.push {cls:=.type "list",dict:=none,data:=.seq ([]:List Value).toArray}}:Shared)=sD at*
 have hsz:sD.heap.objs.size=D+1:=by rw[←hsD,←hD];exact Agr ..
 have hheap:s2.heap.push {cls:=.type "list",dict:=none,data:=.seq ([]:List Value).toArray}=sD.heap:=by rw[←hsD]
 rw[hheap] at hns₁ hsb₁ ⊢
 have up: ∀b o,s2.heap.get? b=some o->sD.heap.get? b=some o:=λb o e=>by rw[←hheap];exact Ac5 _ e
 have keep: ∀b o,sD.heap.get? b=some o->h₁.get? b=some o:=λb o e=>hsb₁.extBut b o (Ad9 (Adm e)) (Ac5 _ e)
 have hfD:D∉fp:=λhm=>by
  obtain⟨o,e,_⟩:=T.obj _ _ st2 D hm
  have:=Adm e
  rw[hD] at this
  exact Ae7 _ this
 have f3: ∀b∈fp,FpOk X pins (upd H2 D (.lst [])) b:=λb hb=>⟨by rw[Aq (λz=>hfD (by rw[←z];exact hb))];exact(f2 b hb).1,(f2 b hb).2⟩
 have hlt: ∀b∈fp,b<sD.heap.objs.size:=λb hb=>by
  obtain⟨o,e,_⟩:=T.obj _ _ st2 b hb
  exact Adm (up b o e)
 have I4:=Rb (t':=s2.toks+([]:List (Str×Value)).length) S I3 f3 hlt hns₁ keep
 obtain⟨hg,hif,hel⟩:=hb sD.heap.objs.size sD (upd H2 D (.lst [])) fp
 have st4:tn 0 h₁:=T.keep _ _ _ st2 λb hb o e=>keep b o (up b o e)
 have stat: ∀{H':Hp},(∀b∈fp,H' b=none)-> ∀b∈fp,FpOk (Ca X N scope sD.heap.objs.size sD (upd H2 D (.lst [])) fp) [] H' b:=λhn b hb=>
  ⟨hn b hb,(I4.ok.exf b hb).1,I4.ok.exfs b hb,.inl hb,λx c h z=>(I4.ok.exf b hb).2 x c h z,λp hp=>(by simp[Ca] at hp)⟩
 have loop:codeAny (model X.prog X.w) X.A (.compLoop (.ListComp elt [⟨tgt,iter,ifs,0⟩] scope pos) 0 (.ref it) (.ref D) (compEnvC scope (Qr X.env scope.names []) sD.heap.objs.size X.env))
   (compPost (model X.prog X.w) X.A X.xe (some (assign (.Name x0 pos') X.env)) (λ_ s'=>SP X pins D0 .next s') (.ref D) sD.heap.objs.size) {sD with heap:=h₁,toks:=s2.toks+([]:List (Str×Value)).length}:=by
  refine Nc (λn s'=>∃i ys σ' H',Inv (Ca X N scope sD.heap.objs.size sD (upd H2 D (.lst [])) fp) [] σ' H' s'/\tn i s'.heap/\(∀b∈fp,H' b=none)/\W i n ys σ' H') ?_ m0
   ⟨0,[],N2 cap σ,_,I4,st4,λb hb=>(f3 b hb).1,w0⟩
  rintro n s5 ⟨i,ys,σ5,H5,I5,st5,fr5,w5⟩
  obtain⟨hD5,way⟩:=turn i n ys σ5 H5 w5
  rcases way with⟨stop,q⟩|⟨go,step⟩
  ·
   refine thn (T.done (Ca X N scope sD.heap.objs.size sD (upd H2 D (.lst [])) fp) rfl rfl rfl hc i [] s5 σ5 H5 (λ_ _=>False) I5 (stat fr5) st5 stop) λr s6 ⟨hr,I6⟩=>?_
   subst hr
   obtain⟨m,hn,_⟩:=I6.loc
   have hn':s6.heap.Ns sD.heap.objs.size m:=hn
   have J6:Inv X pins σ H5 s6:=Xq I3 f3 I6 (Heap.SameBut.refl _ _)
   have cellNe: ∀x c,X.env.cells.lookup x=some c->c≠sD.heap.objs.size:=λx c h z=>by
    obtain⟨v,q⟩:=I3.cell x c h
    have:=q.lt
    rw[z] at this
    exact Ae7 _ this
   refine wpAny_assign_Name (Uy J6 hN0 hi0 (.inl hx0) (v:=.ref D) rfl (λs7 I7 ⟨a7,sb7,ha7⟩=>⟨m,hn'.sameBut sb7 (λz=>?_),λh' sb=>?_⟩) (.inr hx0))
   ·
    rcases ha7 with e|e
    · exact absurd (z.trans e) (Ahq I3.lt)
    · exact cellNe _ _ e z.symm
   ·
    refine⟨_,H5,I7.turned (t':=s7.toks) (it:=sD.heap.objs.size) (λb o hb e=>(sb.2 b hb).trans e) I6.free (Ahq I3.lt) (.inr I3.sz) cellNe λp hp z=>?_,q⟩
    have:=Adm (I3.pin p hp).1
    rw[z] at this
    exact Ae7 _ this
  ·
   refine thn (T.item (Ca X N scope sD.heap.objs.size sD (upd H2 D (.lst [])) fp) rfl rfl rfl hc i [] s5 σ5 H5 (λ_ _=>False) I5 (stat fr5) st5 go) λr s6 ⟨u,hr,h6⟩=>?_
   subst hr
   refine thn h6 λ_ s7 ⟨x,H7,I7,r7,y7,st7,fr7⟩=>?_
   have I7':=I7.pinned (stat fr7) (T.obj _ _ st7)
   refine thn (hg _ s7 σ5 H7 x u _ I7' r7 (step x H7 y7)) λ_ s8 ⟨σ8,H8,I8,q8⟩=>?_
   refine thn (hif _ s8 σ8 H8 _ I8 q8) λb s9 ⟨H9,I9,q9⟩=>?_
   have back: ∀{σ':St}{H':Hp}{s':Shared},Inv (Ca X N scope sD.heap.objs.size sD (upd H2 D (.lst [])) fp) ([]++Qz fp s7.heap) σ' H' s'->tn (i+1) s'.heap/\ ∀b∈fp,H' b=none:=λ{σ' H' s'}J'=>
    ⟨T.keep _ _ _ st7 λb hb o e=>(J'.pin (b,o) (Adg _ (Adg _ (Ct hb e)))).1,λb hb=>by
     obtain⟨o,e,d⟩:=T.obj _ _ st7 b hb
     exact(J'.pin (b,o) (Adg _ (Adg _ (Ct hb e)))).2.1⟩
   cases b with
   |
    false=>
    obtain⟨m',hm,w9⟩:=(show ∃m',m'<n/\W (i+1) m' ys σ8 H9 from q9)
    exact⟨m',hm,i+1,ys,σ8,H9,I9.unpinned,(back I9).1,(back I9).2,w9⟩
   |
    true=>
    refine thn (hel _ s9 σ8 H9 _ I9 (show te σ8 H9 _ from q9)) λy s10 ⟨v10,H10,I10,r10,q10⟩=>?_
    obtain⟨hD10,hz,m',hm,w10⟩:=q10
    refine thn (Dq (X:=Ca X N scope sD.heap.objs.size sD (upd H2 D (.lst [])) fp) _ s10 σ8 H10 (.ref D) [v10] (.ref D) [y] (λ_ H'=>H'=upd H10 D (.lst (ys++[v10]))) I10 rfl (.cons r10 .nil) ⟨D,ys,v10,rfl,rfl,hD10,hz,rfl⟩) λ_ s11 ⟨v11,H11,I11,_,e11⟩=>?_
    subst e11
    exact⟨m',hm,i+1,ys++[v10],σ8,_,I11.unpinned,(back I11).1,(back I11).2,w10⟩
 subst hsD
 subst hD
 exact codeAny_compStart_list loop (T.self _ 0 _ _ _ st4 loop)
end L2
namespace L2
open PySem PySem.Spec PyProof.Rows PySem.Calls PySem.SeqAt
section
variable {X:Cx}
end
end L2
namespace L2
open PySem PySem.Spec PyProof.Rows
section
variable {X:Cx}{CX:CXT}{cm:Bool}{k:Nat}{f:Addr}{fd:FuncData}{ps:List Str}{sp:Sp}{dvs:List V}{ds:List Value}{E:St->XK}{x:Str}{p pos:Pos}{e:Expr}{es:List Expr}{t:TA}{tf:TE}
end
end L2
namespace L2
open PySem PySem.Spec PySem.Calls PyProof.Rows
section
variable {X:Cx}{C:Addr}{x:Str}{p pos:Pos}
end
end L2
namespace L2
open PySem PySem.Spec PyProof.Rows PySem.SeqAt
abbrev NK:=Sum Key (List Key)
section
variable {prog:Program}{w:World}
def NItem (prog:Program)(w:World)(h:Heap):NK->Value->Prop
 | .inl k,v=>(Bi prog w).is k v=true
 | .inr ks,v=>∃a,v=.ref a/\IsTupleKey (Bi prog w) h ks a
inductive NItems (prog:Program)(w:World)(h:Heap):List NK->List Value->Prop
 | nil:NItems prog w h [] []
 | cons {k:NK} {v:Value} {ks:List NK} {vs:List Value}:NItem prog w h k v->NItems prog w h ks vs->NItems prog w h (k::ks) (v::vs)
def IsNest (prog:Program)(w:World)(h:Heap)(ks:List NK)(a:Addr):Prop:=∃o items n,h.get? a=some o/\o.cls=.type "tuple"/\o.data=.seq items n/\NItems prog w h ks items.toList
theorem NItem.inj {h:Heap}{x y:NK}{v:Value}(hx:NItem prog w h x v)(hy:NItem prog w h y v):x=y:=by
 cases x with
 |
  inl x=>
  cases y with
  | inl y=>rw[(Bi prog w).inj _ _ _ hx hy]
  |
   inr y=>
   obtain⟨a,rfl,_⟩:=hy
   exact absurd ((Bi prog w).byValue _ _ hx) (by simp[carriedByValue])
 |
  inr x=>
  obtain⟨a,rfl,p⟩:=hx
  cases y with
  | inl y=>exact absurd ((Bi prog w).byValue _ _ hy) (by simp[carriedByValue])
  |
   inr y=>
   obtain⟨b,e,q⟩:=hy
   cases e
   rw[p.inj q]
theorem NItems.inj {h:Heap}{x y:List NK}{vs:List Value}(hx:NItems prog w h x vs)(hy:NItems prog w h y vs):x=y:=by
 induction hx generalizing y with
 | nil=>cases hy;rfl
 |
  cons h1 _ ih=>
  cases hy with
  | cons h2 t2=>rw[h1.inj h2,ih t2]
theorem IsNest.typeIs {s:Shared}{ks:List NK}{a:Addr}(x:IsNest prog w s.heap ks a):s.TypeIs (.ref a) "tuple":=let ⟨o,_,_,ho,hc,_⟩:=x;⟨o,ho,hc⟩
theorem IsNest.isTuple {h:Heap}{ks:List NK}{a:Addr}(x:IsNest prog w h ks a): ∃items,h.IsTuple a items/\NItems prog w h ks items.toList:=let ⟨o,its,n,ho,hc,hd,hi⟩:=x;⟨its,⟨o,ho,hc,n,hd⟩,hi⟩
theorem IsNest.inj {h:Heap}{a:Addr}{x y:List NK}(hx:IsNest prog w h x a)(hy:IsNest prog w h y a):x=y:=by
 obtain⟨o,items,n,ho,_,hd,hi⟩:=hx
 obtain⟨o',items',n',ho',_,hd',hi'⟩:=hy
 obtain rfl:o=o':=Adt (ho.symm.trans ho')
 rw[hd] at hd'
 injection hd' with h1 _
 subst h1
 exact hi.inj hi'
theorem NItem.keeps {h h':Heap}{k:NK}{v:Value}{d:Addr}{o:Obj}{es ep}(x:NItem prog w h k v)(ho:h.get? d=some o)(hd:o.data=.dict es ep)(hs:Heap.SameBut d h h'):NItem prog w h' k v:=by
 cases k with
 | inl k=>exact x
 | inr ks=>obtain⟨a,e,p⟩:=x;exact⟨a,e,p.keeps ho hd hs⟩
theorem IsNest.keeps {h h':Heap}{ks:List NK}{a d:Addr}{o:Obj}{es ep}(x:IsNest prog w h ks a)(ho:h.get? d=some o)(hd:o.data=.dict es ep)(hs:Heap.SameBut d h h'):IsNest prog w h' ks a:=by
 obtain⟨o',items,n,ho',hc,hd',hi⟩:=x
 have hne:a≠d:=by
  rintro rfl
  obtain rfl:o'=o:=Adt (ho'.symm.trans ho)
  rw[hd] at hd';exact nomatch hd'
 refine⟨o',items,n,(hs.2 a hne).trans ho',hc,hd',?_⟩
 generalize items.toList=vs at hi
 induction hi with
 | nil=>exact .nil
 | cons h1 _ ih=>exact .cons (h1.keeps ho hd hs) ih
def Wt (prog:Program)(w:World):NK->Int
 | .inl k=>(Bi prog w).hash k
 | .inr ks=>tupleKeyHash (Bi prog w) ks
def gd:NK->Nat
 | .inl _=>1
 | .inr ks=>ks.length+1
def Ss (prog:Program)(w:World)(ks:List NK):Int:=reduceHash (Builtin.Tuple.tupleHashOf (ks.map (Wt prog w)))
def Oo (ks:List NK):Nat:=(ks.map gd).sum+1
variable {A:Around}{E:Value->Shared->Prop}{s:Shared}
theorem gh {k:NK}{v:Value}{Q:Int->Shared->Prop}(hu:A.units<cLine)(hk:NItem prog w s.heap k v)(h:Q (Wt prog w k) {s with toks:=s.toks+gd k}):wpAny (model prog w) A (pyHash v) Q E s:=by
 cases k with
 | inl k=>exact(Bi prog w).pyHash hk h
 | inr ks=>obtain⟨a,rfl,p⟩:=hk;exact wpAny_pyHash_tuple hu p h
theorem Xa {ks:List NK}{a:Addr}{Q:Int->Shared->Prop}(hu:A.units+1<cLine)(hk:IsNest prog w s.heap ks a)(h:Q (Ss prog w ks) {s with toks:=s.toks+Oo ks}):
  wpAny (model prog w) A (pyHash (.ref a)) Q E s:=by
 have hT:=hk.typeIs
 obtain⟨o,items,n,ho,_,hd,hi⟩:=hk
 unfold pyHash
 first|unfold pyHashByItsType|skip
 first|refine Ac1 (wpAny_cRoomFor_or (.inr (by lia)) ?_)|skip
 refine Ac1 (Ahu hT F.slot_tuple_hash.lookup ?_)
 show wpAny _ _ (if(some (Value.builtin "tuple.__hash__")==some Value.none)=true then _ else _) Q E s
 rw[if_neg (by rw[beq_builtin_none];exact Adf)]
 refine Ac1 (Ahu hT F.slot_tuple_hash.lookup ?_)
 show wpAny _ _ (callSpecialIfBoundUnlessNone? (.ref a) "__hash__" _>>=_) Q E s
 refine Ac1 (wpAny_callSpecialIfBoundUnlessNone?_slot hT F.slot_tuple_hash (Aew F.slot_tuple_hash hT F.entry_tuple_hash ?_ (F.args_tuple_hash_1 _)))
 show wpAny _ _ (Builtin.Tuple.tupleItemsOf (.ref a)>>=_) _ _ s
 refine Ac1 (Aft ho hd ?_)
 refine Ac1 ?_
 rw[←Aiu]
 refine Agz _
  (λrest(b:Array Int)s'=>∃done left,ks=done++left/\NItems prog w s.heap left rest/\b.toList=done.map (Wt prog w)/\s'={s with toks:=s.toks+(done.map gd).sum})
  _ ?_ ?_ _ _ ⟨[],ks,rfl,hi,rfl,rfl⟩
 ·
  rintro x rest b s' ⟨done,left,rfl,hl,hb,rfl⟩
  cases hl with
  |
   @cons k _ ks' _ h1 hl'=>
   refine Ac1 (gh hu h1 ?_)
   first
    | exact Ac4 ⟨done++[k],ks',by simp,hl',by simp[hb],by simp[Ags]⟩
    | exact Ac1 (Ac4 (Ac4 ⟨done++[k],ks',by simp,hl',by simp[hb],by simp[Ags]⟩))
 ·
  rintro b s' ⟨done,left,rfl,hl,hb,rfl⟩
  cases hl
  rw[Aet] at h
  show wpAny _ _ (retInt (Builtin.Tuple.tupleHashOf b.toList)) _ _ _
  rw[hb]
  refine wpAny_ret_mkInt ?_
  show wpAny _ _ (if(decide (-(2:Int) ^ 63<=Builtin.Tuple.tupleHashOf (done.map (Wt prog w)))&&decide (Builtin.Tuple.tupleHashOf (done.map (Wt prog w))<2 ^ 63))=true then _ else _) Q E _
  unfold Ss Oo reduceHash at h
  by_cases hr:(decide (-(2:Int) ^ 63<=Builtin.Tuple.tupleHashOf (done.map (Wt prog w)))&&decide (Builtin.Tuple.tupleHashOf (done.map (Wt prog w))<2 ^ 63))=true
  ·
   rw[if_pos hr]
   rw[if_pos hr] at h
   exact Ac4 (by simpa[Ags] using h)
  ·
   rw[if_neg hr]
   rw[if_neg hr] at h
   exact Ac1 (Af2 (Ac4 (by simpa[Ags] using h)))
theorem R7 {x y:NK}{u v:Value}(hu:A.units<cLine)(hx:NItem prog w s.heap x u)(hy:NItem prog w s.heap y v){Q:Bool->Shared->Prop}(h:Q (decide (x=y)) s):wpAny (model prog w) A (eqBool u v) Q E s:=by
 cases x with
 |
  inl x=>
  cases y with
  | inl y=>refine(Bi prog w).eqBool (a:=x) (b:=y) hx hy ?_;simpa using h
  |
   inr y=>
   obtain⟨b,rfl,o,its,n,ho,hc,hd,_⟩:=hy
   have ht:s.heap.IsTuple b its:=⟨o,ho,hc,n,hd⟩
   rw[Ac7 (λz=>nomatch z)] at h
   cases x with
   |
    inl i=>
    obtain⟨t,rfl⟩:=Afl (k:=i) (v:=u) hx
    exact EqAt.int_tuple i t ht hu prog w E Q h
   |
    inr z=>
    obtain⟨t,rfl⟩:=Afb (x:=z) (v:=u) hx
    exact EqAt.str_tuple z t ht hu prog w E Q h
 |
  inr x=>
  obtain⟨a,rfl,p⟩:=hx
  cases y with
  |
   inl y=>
   obtain⟨o,its,n,ho,hc,hd,_⟩:=p
   have ht:s.heap.IsTuple a its:=⟨o,ho,hc,n,hd⟩
   rw[Ac7 (λz=>nomatch z)] at h
   cases y with
   |
    inl i=>
    obtain⟨t,rfl⟩:=Afl (k:=i) (v:=v) hy
    exact EqAt.tuple_int i t ht hu prog w E Q h
   |
    inr z=>
    obtain⟨t,rfl⟩:=Afb (x:=z) (v:=v) hy
    exact EqAt.tuple_str z t ht hu prog w E Q h
  |
   inr y=>
   obtain⟨b,rfl,q⟩:=hy
   exact wpAny_eqBool_tuple hu p q (by simpa using h)
theorem Vk {x y:List NK}{a b:Addr}{P:PySem.Fin->Shared->Prop}(hu:A.units<cLine)(hx:IsNest prog w s.heap x a)(hy:IsNest prog w s.heap y b)(h:P (.done (.ret (.bool (decide (x=y))))) s):
  wpAny (model prog w) A (Builtin.«tuple.__eq__» ⟨[.ref a,.ref b],[]⟩) P E s:=by
 have hTb:=hy.typeIs
 obtain⟨oa,xs,na,hoa,_,hda,hia⟩:=hx
 obtain⟨ob,ys,nb,hob,_,hdb,hib⟩:=hy
 show wpAny _ _ (isInstance (.ref b) (.type "tuple")>>=_) _ _ s
 refine Ac1 (Agy hTb Agk ?_)
 simp only[Afr,Adz,Ae5]
 refine Ac1 (Aft hoa hda ?_)
 refine Ac1 (Aft hob hdb ?_)
 refine Ac1 ?_
 refine Agz _
  (λrest r s'=>r.1=none/\s'=s/\ ∃x' y' xs' ys',rest=List.zip xs' ys'/\NItems prog w s.heap x' xs'/\NItems prog w s.heap y' ys'/\decide (x'=y')=decide (x=y)/\(xs'.length==ys'.length)=(xs.size==ys.size))
  _ ?_ ?_ _ _ ⟨rfl,rfl,x,y,xs.toList,ys.toList,rfl,hia,hib,rfl,by simp⟩
 ·
  rintro⟨u,v⟩ rest r s' ⟨hr,rfl,x',y',xs',ys',hz,hx',hy',hdec,hlen⟩
  cases hx' with
  | nil=>simp at hz
  |
   @cons k1 u' x'' xs'' h1 hx''=>
   cases hy' with
   | nil=>simp at hz
   |
    @cons k2 v' y'' ys'' h2 hy''=>
    simp only[Afo,Agw,Ah1] at hz
    obtain⟨⟨rfl,rfl⟩,rfl⟩:=hz
    refine Ac1 (R7 hu h1 h2 ?_)
    by_cases hk:k1=k2
    ·
     subst hk
     rw[Ac3 rfl]
     simp only[Afr,Adz,Ae5]
     refine Ac4 ⟨rfl,rfl,x'',y'',xs'',ys'',rfl,hx'',hy'',?_,by simpa using hlen⟩
     rw[←hdec]
     by_cases hxy:x''=y''
     · simp[hxy]
     · simp[hxy]
    ·
     rw[Ac7 hk]
     simp only[Ain,Ahy]
     have hf:decide (x=y)=false:=by rw[←hdec];simp[hk]
     rw[hf] at h
     exact Ac1 (Ac4 (Ac4 (Ac4 h)))
 ·
  rintro⟨r1,r2⟩ s' ⟨hr,rfl,x',y',xs',ys',hz,hx',hy',hdec,hlen⟩
  simp only at hr
  subst hr
  refine Ac4 ?_
  have hfin:(xs.size==ys.size)=decide (x=y):=by
   rw[←hdec,←hlen]
   cases hx' with
   |
    nil=>
    cases hy' with
    | nil=>simp
    | cons _ _=>simp
   |
    cons _ _=>
    cases hy' with
    | nil=>simp
    | cons _ _=>simp at hz
  show P (.done (.ret (.bool (xs.size==ys.size)))) s'
  rw[hfin];exact h
theorem Oe {x y:List NK}{a b:Addr}{Q:Bool->Shared->Prop}(hu:A.units+1<cLine)(hx:IsNest prog w s.heap x a)(hy:IsNest prog w s.heap y b)(h:Q (decide (x=y)) s):
  wpAny (model prog w) A (eqBool (.ref a) (.ref b)) Q E s:=by
 unfold eqBool
 try with_reducible refine Ae6 ?_
 show wpAny _ _ (if(Value.ref a==Value.ref b)=true then _ else _) Q E s
 by_cases hab:(Value.ref a==Value.ref b)=true
 ·
  rw[if_pos hab]
  have e:a=b:=by have:=eq_of_beq hab;injection this
  subst e
  obtain rfl:=hx.inj hy
  exact Ac1 (Af2 (Ac4 (by simpa using h)))
 ·
  rw[if_neg hab]
  exact Ac1 (Ahv (op:=.Eq) hx.typeIs hy.typeIs F.slot_tuple_eq
   (Aew F.slot_tuple_eq hx.typeIs F.entry_tuple_eq (Vk hu hx hy ⟨_,rfl,(λe=>nomatch e),Ae2 h⟩) (F.args_tuple_eq_2 _ _)) (by lia))
theorem wa {ks:List Key}{a:Addr}{n:Nat}{Q:Bool->Shared->Prop}(hk:IsTupleKey (Bi prog w) s.heap ks a)(h:Q true s):wpAny (model prog w) A (eqIsQuiet (n+1) (.ref a)) Q E s:=by
 have hT:=hk.typeIs
 obtain⟨o,items,n,ho,_,hd,hi⟩:=hk
 unfold eqIsQuiet
 refine Ac1 (Ahu hT F.slot_tuple_eq.lookup ?_)
 show wpAny _ _ (isInstance (.ref a) (.type "tuple")>>=_) _ _ s
 refine Ac1 (Agy hT Agk ?_)
 simp only[Afr,Adz,Ae5]
 refine Ac1 (Ah8 ho hd ?_)
 refine Ac1 ?_
 show wpAny _ _ (forIn items _ _) _ _ s
 rw[←Aiu]
 refine Agz _ (λrest r s'=>r.1=none/\s'=s/\ ∀v∈rest,carriedByValue v=true) _ ?_ ?_ _ _ ⟨rfl,rfl,hi.byValue⟩
 ·
  rintro v rest r s' ⟨hr,rfl,hall⟩
  rw[eqIsQuiet_byValue _ (hall v Ac8)]
  refine Ac1 (Ac4 ?_)
  simp only[Afr,Adz,Ae5]
  exact Ac4 ⟨rfl,rfl,λu hu'=>hall u (Adi _ hu')⟩
 ·
  rintro⟨r1,r2⟩ s' ⟨hr,rfl,_⟩
  simp only at hr
  subst hr
  exact Ac4 h
theorem xj {ks:List NK}{a:Addr}{n:Nat}{Q:Bool->Shared->Prop}(hk:IsNest prog w s.heap ks a)(h:Q true s):wpAny (model prog w) A (eqIsQuiet (n+2) (.ref a)) Q E s:=by
 have hT:=hk.typeIs
 obtain⟨o,items,m,ho,_,hd,hi⟩:=hk
 unfold eqIsQuiet
 refine Ac1 (Ahu hT F.slot_tuple_eq.lookup ?_)
 show wpAny _ _ (isInstance (.ref a) (.type "tuple")>>=_) _ _ s
 refine Ac1 (Agy hT Agk ?_)
 simp only[Afr,Adz,Ae5]
 refine Ac1 (Ah8 ho hd ?_)
 refine Ac1 ?_
 show wpAny _ _ (forIn items _ _) _ _ s
 rw[←Aiu]
 refine Agz _ (λrest r s'=>r.1=none/\s'=s/\ ∃left,NItems prog w s.heap left rest) _ ?_ ?_ _ _ ⟨rfl,rfl,ks,hi⟩
 ·
  rintro v rest r s' ⟨hr,rfl,left,hl⟩
  cases hl with
  |
   @cons k _ ks' _ h1 hl'=>
   have go: ∀{R:Bool->Shared->Prop},R true s'->wpAny (model prog w) A (eqIsQuiet (n+1) v) R E s':=λhR=>by
    cases k with
    | inl k=>rw[eqIsQuiet_byValue _ ((Bi prog w).byValue _ _ h1)];exact Ac4 hR
    | inr ks=>obtain⟨b,rfl,p⟩:=h1;exact wa p hR
   refine Ac1 (go ?_)
   simp only[Afr,Adz,Ae5]
   exact Ac4 ⟨rfl,rfl,ks',hl'⟩
 ·
  rintro⟨r1,r2⟩ s' ⟨hr,rfl,_⟩
  simp only at hr
  subst hr
  exact Ac4 h
end
def Lw (prog:Program)(w:World):HeapKind prog w (List NK) where
 is:=IsNest prog w
 hash:=Ss prog w
 draws:=Oo
 room:=λA=>A.units+1<cLine
 inj:=λhx hy=>hx.inj hy
 keeps:=λx ho hd hs=>x.keeps ho hd hs
 pyHash:=λhu hk h=>Xa hu hk h
 eqBool:=λhu hx hy h=>Oe hu hx hy h
 quiet:=λhk h=>xj hk h
end L2
namespace DX
structure Lin {α:Type}(lt:α->α->Bool):Prop where
 irr: ∀a,lt a a=false
 tr: ∀a b c,lt a b=true->lt b c=true->lt a c=true
 tot: ∀a b,lt a b=false->lt b a=false->a=b
theorem Lin.asym {α:Type}{lt:α->α->Bool}(L:Lin lt){a b:α}(h:lt a b=true):lt b a=false:=by
 cases e:lt b a with
 | false=>rfl
 | true=>have:=L.tr a b a h e;rw[L.irr] at this;cases this
theorem Lin.neg {α:Type}{lt:α->α->Bool}(L:Lin lt){a b c:α}(h:lt a c=true):lt a b=true∨lt b c=true:=by
 cases e:lt a b with
 | true=>exact .inl rfl
 |
  false=>
  refine .inr ?_
  cases f:lt b a with
  | true=>exact L.tr b a c f h
  | false=>rw[←L.tot a b e f];exact h
def Hk {α:Type}[DecidableEq α](lt:α->α->Bool):List α->List α->Bool
 | [],[]=>false
 | [],_::_=>true
 | _::_,[]=>false
 | x::xs,y::ys=>if x=y then Hk lt xs ys else lt x y
theorem Mw {α:Type}[DecidableEq α]{lt:α->α->Bool}(L:Lin lt):Lin (Hk lt) where
 irr:=λa=>by
  induction a with
  | nil=>rfl
  | cons x xs ih=>unfold Hk;rw[if_pos rfl];exact ih
 tr:=λa=>by
  induction a with
  |
   nil=>
   intro b c h1 h2
   cases b with
   | nil=>cases h1
   |
    cons y ys=>
    cases c with
    | nil=>cases h2
    | cons z zs=>rfl
  |
   cons x xs ih=>
   intro b c h1 h2
   cases b with
   | nil=>cases h1
   |
    cons y ys=>
    cases c with
    | nil=>cases h2
    |
     cons z zs=>
     unfold Hk at h1 h2 ⊢
     by_cases e1:x=y
     ·
      subst e1
      rw[if_pos rfl] at h1
      by_cases e2:x=z
      ·
       rw[if_pos e2] at h2 ⊢
       exact ih ys zs h1 h2
      ·
       rw[if_neg e2] at h2 ⊢
       exact h2
     ·
      rw[if_neg e1] at h1
      by_cases e2:y=z
      ·
       subst e2
       rw[if_neg e1]
       exact h1
      ·
       rw[if_neg e2] at h2
       have h3:=L.tr _ _ _ h1 h2
       rw[if_neg (λe=>by subst e;rw[L.irr] at h3;cases h3)]
       exact h3
 tot:=λa=>by
  induction a with
  |
   nil=>
   intro b h1 h2
   cases b with
   | nil=>rfl
   | cons y ys=>cases h1
  |
   cons x xs ih=>
   intro b h1 h2
   cases b with
   | nil=>cases h2
   |
    cons y ys=>
    unfold Hk at h1 h2
    by_cases e:x=y
    ·
     subst e
     rw[if_pos rfl] at h1 h2
     rw[ih ys h1 h2]
    ·
     rw[if_neg e] at h1
     rw[if_neg (λz=>e z.symm)] at h2
     exact absurd (L.tot _ _ h1 h2) e
def zm {α β:Type}(l:α->α->Bool)(r:β->β->Bool):Sum α β->Sum α β->Bool
 | .inl a,.inl b=>l a b
 | .inr a,.inr b=>r a b
 | .inl _,.inr _=>true
 | .inr _,.inl _=>false
theorem gk {α β:Type}{l:α->α->Bool}{r:β->β->Bool}(L:Lin l)(R:Lin r):Lin (zm l r) where
 irr:=λa=>by cases a with
  | inl a=>exact L.irr a
  | inr a=>exact R.irr a
 tr:=λa b c h1 h2=>by
  cases a<;>cases b<;>cases c<;>first|exact L.tr _ _ _ h1 h2|exact R.tr _ _ _ h1 h2|rfl|exact absurd h1 Adf|exact absurd h2 Adf
 tot:=λa b h1 h2=>by
  cases a with
  |
   inl a=>cases b with
   | inl b=>rw[L.tot a b h1 h2]
   | inr b=>cases h1
  |
   inr a=>cases b with
   | inl b=>cases h2
   | inr b=>rw[R.tot a b h1 h2]
theorem o9:Lin (λa b:Int=>decide (a<b)) where
 irr:=λa=>Ac7 (by lia)
 tr:=λa b c h1 h2=>by rw[Ad1] at h1 h2 ⊢;lia
 tot:=λa b h1 h2=>by rw[Afy] at h1 h2;lia
theorem sf:Lin (λa b:Nat=>decide (a<b)) where
 irr:=λa=>Ac7 (by lia)
 tr:=λa b c h1 h2=>by rw[Ad1] at h1 h2 ⊢;lia
 tot:=λa b h1 h2=>by rw[Afy] at h1 h2;lia
theorem Li {α:Type}{lt:α->α->Bool}(L:Lin lt): ∀{a b:List α},a.Perm b->a.Pairwise (λx y=>lt y x=false)->b.Pairwise (λx y=>lt y x=false)->a=b
 | [],b,p,_,_=>(p.nil_eq)
 | x::xs,[],p,_,_=>absurd p.length_eq (by simp)
 |
  x::xs,y::ys,p,h1,h2=>by
  rw[Ait] at h1 h2
  have hx:x∈y::ys:=p.mem_iff.mp Ac8
  have hy:y∈x::xs:=p.mem_iff.mpr Ac8
  have e:x=y:=by
   rcases Ado.mp hx with e|hx
   · exact e
   rcases Ado.mp hy with e|hy
   · exact e.symm
   exact L.tot x y (h2.1 x hx) (h1.1 y hy)
  subst e
  rw[Li L (List.Perm.cons_inv p) h1.2 h2.2]
end DX
namespace L2
open PySem PySem.Spec PyProof.Rows PySem.SeqAt
def CmpAt (op:CmpOp)(A:Around)(s:Shared)(u v:Value)(b:Bool):Prop:=∀(prog:Program)(w:World)(E:Value->Shared->Prop)(Q:Value->Shared->Prop),Q (.bool b) s->wpAny (model prog w) A (richCompare op u v) Q E s
def szB:CmpOp->Nat->Nat->Bool
 | .Lt,m,n=>decide (m<n)
 | _,m,n=>decide (n<m)
inductive J7 (op:CmpOp)(A:Around)(s:Shared):List Value->List Value->Bool->Prop
 | fin {xs ys:List Value} (h:xs=[]∨ys=[]):J7 op A s xs ys (szB op xs.length ys.length)
 | eq {x y:Value} {xs ys:List Value} {b:Bool} (h:EqAt A s x y true) (r:J7 op A s xs ys b):J7 op A s (x::xs) (y::ys) b
 | ne {x y:Value} {xs ys:List Value} {b:Bool} (h:EqAt A s x y false) (r:CmpAt op A s x y b):J7 op A s (x::xs) (y::ys) b
section
variable {prog:Program}{w:World}{A:Around}{E:Value->Shared->Prop}{s:Shared}
theorem qp {a b:Addr}{xs ys:Array Value}{r:Bool}{P:PySem.Fin->Shared->Prop}(hx:s.heap.IsTuple a xs)(hy:s.heap.IsTuple b ys)(hl:J7 .Lt A s xs.toList ys.toList r)(h:P (.done (.ret (.bool r))) s):
  wpAny (model prog w) A (Builtin.«tuple.__lt__» ⟨[.ref a,.ref b],[]⟩) P E s:=by
 obtain⟨oa,hoa,hca,na,hda⟩:=hx
 obtain⟨ob,hob,hcb,nb,hdb⟩:=hy
 show wpAny _ _ (isInstance (.ref b) (.type "tuple")>>=_) _ _ s
 refine Ac1 (Agy ⟨ob,hob,hcb⟩ Agk ?_)
 simp only[Afr,Adz,Ae5]
 refine Ac1 (Aft hoa hda ?_)
 refine Ac1 (Aft hob hdb ?_)
 refine Ac1 ?_
 refine Agz _
  (λrest q s'=>q.1=none/\s'=s/\ ∃xs' ys' k,rest=List.zip xs' ys'/\J7 .Lt A s xs' ys' r/\xs.size=xs'.length+k/\ys.size=ys'.length+k)
  _ ?_ ?_ _ _ ⟨rfl,rfl,xs.toList,ys.toList,0,rfl,hl,by simp,by simp⟩
 ·
  rintro⟨u,v⟩ rest q s' ⟨hr,rfl,xs',ys',k,hz,hl',e1,e2⟩
  cases hl' with
  | fin hf=>rcases hf with rfl|rfl<;>simp at hz
  |
   @eq x y xs'' ys'' _ he hr'=>
   simp only[Afo,Agw,Ah1] at hz
   obtain⟨⟨rfl,rfl⟩,rfl⟩:=hz
   refine Ac1 (he prog w _ _ ?_)
   simp only[Afr,Adz,Ae5]
   exact Ac4 ⟨rfl,rfl,xs'',ys'',k+1,rfl,hr',by simp only[Ad2] at e1;lia,by simp only[Ad2] at e2;lia⟩
  |
   @ne x y xs'' ys'' _ he hc=>
   simp only[Afo,Agw,Ah1] at hz
   obtain⟨⟨rfl,rfl⟩,rfl⟩:=hz
   refine Ac1 (he prog w _ _ ?_)
   simp only[Ain,Ahy]
   refine Ac1 (Af2 (Ac1 (hc prog w _ _ ?_)))
   exact Ac1 (Ac4 (Ac4 (Ac4 h)))
 ·
  rintro⟨q1,q2⟩ s' ⟨hr,rfl,xs',ys',k,hz,hl',e1,e2⟩
  simp only at hr
  subst hr
  refine Ac4 ?_
  cases hl' with
  |
   fin h'=>
   show P (.done (.ret (.bool (decide (xs.size<ys.size))))) s'
   have e:decide (xs.size<ys.size)=szB .Lt xs'.length ys'.length:=by
    show _=decide (xs'.length<ys'.length)
    rw[e1,e2]
    exact Aej.mpr (by lia)
   rw[e]
   exact h
  | eq _ _=>simp at hz
  | ne _ _=>simp at hz
theorem um {a b:Addr}{xs ys:Array Value}{r:Bool}{P:PySem.Fin->Shared->Prop}(hx:s.heap.IsTuple a xs)(hy:s.heap.IsTuple b ys)(hl:J7 .Gt A s xs.toList ys.toList r)(h:P (.done (.ret (.bool r))) s):
  wpAny (model prog w) A (Builtin.«tuple.__gt__» ⟨[.ref a,.ref b],[]⟩) P E s:=by
 obtain⟨oa,hoa,hca,na,hda⟩:=hx
 obtain⟨ob,hob,hcb,nb,hdb⟩:=hy
 show wpAny _ _ (isInstance (.ref b) (.type "tuple")>>=_) _ _ s
 refine Ac1 (Agy ⟨ob,hob,hcb⟩ Agk ?_)
 simp only[Afr,Adz,Ae5]
 refine Ac1 (Aft hoa hda ?_)
 refine Ac1 (Aft hob hdb ?_)
 refine Ac1 ?_
 refine Agz _
  (λrest q s'=>q.1=none/\s'=s/\ ∃xs' ys' k,rest=List.zip xs' ys'/\J7 .Gt A s xs' ys' r/\xs.size=xs'.length+k/\ys.size=ys'.length+k)
  _ ?_ ?_ _ _ ⟨rfl,rfl,xs.toList,ys.toList,0,rfl,hl,by simp,by simp⟩
 ·
  rintro⟨u,v⟩ rest q s' ⟨hr,rfl,xs',ys',k,hz,hl',e1,e2⟩
  cases hl' with
  | fin hf=>rcases hf with rfl|rfl<;>simp at hz
  |
   @eq x y xs'' ys'' _ he hr'=>
   simp only[Afo,Agw,Ah1] at hz
   obtain⟨⟨rfl,rfl⟩,rfl⟩:=hz
   refine Ac1 (he prog w _ _ ?_)
   simp only[Afr,Adz,Ae5]
   exact Ac4 ⟨rfl,rfl,xs'',ys'',k+1,rfl,hr',by simp only[Ad2] at e1;lia,by simp only[Ad2] at e2;lia⟩
  |
   @ne x y xs'' ys'' _ he hc=>
   simp only[Afo,Agw,Ah1] at hz
   obtain⟨⟨rfl,rfl⟩,rfl⟩:=hz
   refine Ac1 (he prog w _ _ ?_)
   simp only[Ain,Ahy]
   refine Ac1 (Af2 (Ac1 (hc prog w _ _ ?_)))
   exact Ac1 (Ac4 (Ac4 (Ac4 h)))
 ·
  rintro⟨q1,q2⟩ s' ⟨hr,rfl,xs',ys',k,hz,hl',e1,e2⟩
  simp only at hr
  subst hr
  refine Ac4 ?_
  cases hl' with
  |
   fin h'=>
   show P (.done (.ret (.bool (decide (xs.size>ys.size))))) s'
   have e:decide (xs.size>ys.size)=szB .Gt xs'.length ys'.length:=by
    show _=decide (ys'.length<xs'.length)
    rw[e1,e2]
    exact Aej.mpr (by lia)
   rw[e]
   exact h
  | eq _ _=>simp at hz
  | ne _ _=>simp at hz
theorem CmpAt.ltT {a b:Addr}{xs ys:Array Value}{r:Bool}(hx:s.heap.IsTuple a xs)(hy:s.heap.IsTuple b ys)(hu:A.units<cLine)(hl:J7 .Lt A.in1 s xs.toList ys.toList r):CmpAt .Lt A s (.ref a) (.ref b) r:=λprog w E Q h=>
 have hxT:s.TypeIs (.ref a) "tuple":=let ⟨o,ho,hc,_⟩:=hx;⟨o,ho,hc⟩
 have hyT:s.TypeIs (.ref b) "tuple":=let ⟨o,ho,hc,_⟩:=hy;⟨o,ho,hc⟩
 Ahv (op:=.Lt) hxT hyT F.slot_tuple_lt (Aew F.slot_tuple_lt hxT F.entry_tuple_lt (qp hx hy hl ⟨_,rfl,(λe=>nomatch e),h⟩) (F.args_tuple_lt_2 _ _)) hu
theorem CmpAt.gtT {a b:Addr}{xs ys:Array Value}{r:Bool}(hx:s.heap.IsTuple a xs)(hy:s.heap.IsTuple b ys)(hu:A.units<cLine)(hl:J7 .Gt A.in1 s xs.toList ys.toList r):CmpAt .Gt A s (.ref a) (.ref b) r:=λprog w E Q h=>
 have hxT:s.TypeIs (.ref a) "tuple":=let ⟨o,ho,hc,_⟩:=hx;⟨o,ho,hc⟩
 have hyT:s.TypeIs (.ref b) "tuple":=let ⟨o,ho,hc,_⟩:=hy;⟨o,ho,hc⟩
 Ahv (op:=.Gt) hxT hyT F.slot_tuple_gt (Aew F.slot_tuple_gt hxT F.entry_tuple_gt (um hx hy hl ⟨_,rfl,(λe=>nomatch e),h⟩) (F.args_tuple_gt_2 _ _)) hu
end
def Hu (gt:V->V->Bool):V->List V->V
 | b,[]=>b
 | b,x::xs=>Hu gt (if gt x b then x else b) xs
theorem Pw {gt:V->V->Bool}: ∀{xs:List V}{b:V},Hu gt b xs=b∨Hu gt b xs∈xs
 | [],_=>.inl rfl
 |
  x::xs,b=>by
  unfold Hu
  rcases Pw (gt:=gt) (xs:=xs) (b:=if gt x b then x else b) with h|h
  ·
   rw[h]
   by_cases g:gt x b=true
   · rw[if_pos g];exact .inr (Ac8 ..)
   · rw[if_neg g];exact .inl rfl
  · exact .inr (Adi _ h)
def Xy (X:Cx)(H:Hp)(xs:List V)(G:V->Hp->V->Prop)(key:Value):Prop:=
 (key=.none/\ ∀x H',G x H' x)∨ ∃f,key=.ref f/\ ∀(pins:List (Addr×Obj))(s:Shared)(σ:St)(H':Hp)(x:V)(u:Value)(Q:VK)(E:Value->Shared->Prop),Inv X pins σ H' s->Same H H'->x∈xs->RelV x u->
  (∀v H'',Same H' H''->G x H'' v->Q v H'')->wpAny (model X.prog X.w) X.A.in1 (call (.ref f) [u]) (EP X pins σ Q) E s
structure Ym (X:Cx)(it:Addr)(xs:List V)(H:Hp)(tn:Nat->Heap->Prop):Prop where
 item: ∀(pins:List (Addr×Obj))(s:Shared)(σ:St)(H':Hp)(i:Nat)(x:V)(E:Value->Shared->Prop)(Q:Option Value->Shared->Prop),Inv X pins σ H' s->Same H H'->tn i s.heap->xs[i]?=some x->
  (∀u h',RelV x u->tn (i+1) h'->(∀b o,b≠it->s.heap.get? b=some o->h'.get? b=some o)->Q (some u) {s with heap:=h'})->wpAny (model X.prog X.w) X.A.in1 (pyNext (.ref it)) Q E s
 done: ∀(pins:List (Addr×Obj))(s:Shared)(σ:St)(H':Hp)(i:Nat)(E:Value->Shared->Prop)(Q:Option Value->Shared->Prop),Inv X pins σ H' s->Same H H'->tn i s.heap->xs.length<=i->
  (∀h',(∀b o,b≠it->s.heap.get? b=some o->h'.get? b=some o)->Q none {s with heap:=h'})->wpAny (model X.prog X.w) X.A.in1 (pyNext (.ref it)) Q E s
 obj: ∀i h,tn i h-> ∃o,h.get? it=some o/\(∀v,o.data≠ .cell v)/\ ∀h':Heap,h'.get? it=some o->tn i h'
theorem bp {X:Cx}{it l:Addr}{xs:List V}{H:Hp}(hc:X.calm=true)(hl:H l=some (.lst xs)):Ym X it xs H (λi h=>h.IsListIter it l i) where
 item:=λpins s σ H' i x E Q I sm st hx h=>by
  obtain⟨its,rvs,p,hz⟩:=I.list (SqL.of (K:=X.K) (sm _ _ hl))
  obtain⟨w,hw,rw⟩:=rvs.get hx
  exact wpAny_pyNext_list_item st p.isList (x:=w) (by simpa using hw) λh' st' sb=>h w h' rw st' λb o hb e=>(sb.2 b hb).trans e
 done:=λpins s σ H' i E Q I sm st hi h=>by
  obtain⟨its,rvs,p,hz⟩:=I.list (SqL.of (K:=X.K) (sm _ _ hl))
  have hlen:=rvs.length
  exact wpAny_pyNext_list_end (I.ok.hd hc) st p.isList (by simp;lia) λh' eb=>h h' eb
 obj:=λi h st=>by
  obtain⟨o,e,c,d⟩:=st
  exact⟨o,e,(λv z=>by rw[d] at z;cases z),λh' e'=>⟨o,e',c,d⟩⟩
theorem kh {X:Cx}{it l:Addr}{xs:List V}{H:Hp}(hc:X.calm=true)(hl:H l=some (.tup xs)):Ym X it xs H (λi h=>h.IsTupleIter it l i) where
 item:=λpins s σ H' i x E Q I sm st hx h=>by
  obtain⟨its,rvs,p,hz⟩:=I.tuple (SqT.of (K:=X.K) (sm _ _ hl))
  obtain⟨w,hw,rw⟩:=rvs.get hx
  exact wpAny_pyNext_tuple_item st p (x:=w) (by simpa using hw) λh' st' sb=>h w h' rw st' λb o hb e=>(sb.2 b hb).trans e
 done:=λpins s σ H' i E Q I sm st hi h=>by
  obtain⟨its,rvs,p,hz⟩:=I.tuple (SqT.of (K:=X.K) (sm _ _ hl))
  have hlen:=rvs.length
  exact wpAny_pyNext_tuple_end (I.ok.hd hc) st p (by simp;lia) λh' eb=>h h' eb
 obj:=λi h st=>by
  obtain⟨o,e,c,d⟩:=st
  exact⟨o,e,(λv z=>by rw[d] at z;cases z),λh' e'=>⟨o,e',c,d⟩⟩
section
variable {X:Cx}{pins:List (Addr×Obj)}{σ:St}{H:Hp}{it S:Addr}{xs:List V}{key:Value}{G:V->Hp->V->Prop}{gt:V->V->Bool}{R:Result->Shared->Prop}
theorem FpOk.same {b:Addr}{H H':Hp}(f:FpOk X pins H b)(h:H' b=none):FpOk X pins H' b:=⟨h,f.2⟩
theorem Yr {f:Addr}(g: ∀(pins:List (Addr×Obj))(s:Shared)(σ:St)(H':Hp)(x:V)(u:Value)(Q:VK)(E:Value->Shared->Prop),Inv X pins σ H' s->Same H H'->x∈xs->RelV x u->
   (∀v H'',Same H' H''->G x H'' v->Q v H'')->wpAny (model X.prog X.w) X.A.in1 (call (.ref f) [u]) (EP X pins σ Q) E s)
  {s:Shared} {H':Hp} {x:V} {u:Value} {oi oS:Obj} {Q:Value->Shared->Prop} {E:Value->Shared->Prop}
  (I:Inv X pins σ H' s) (sm:Same H H') (hx:x∈xs) (rx:RelV x u) (fi:FpOk X pins H' it) (fS:FpOk X pins H' S) (hi:s.heap.get? it=some oi) (hS:s.heap.get? S=some oS) (di: ∀v,oi.data≠ .cell v) (dS: ∀v,oS.data≠ .cell v)
  (h: ∀uv s' v H'',Inv X pins σ H'' s'->Same H' H''->FpOk X pins H'' it->FpOk X pins H'' S->s'.heap.get? it=some oi->s'.heap.get? S=some oS->RelV v uv->G x H'' v->Q uv s'):
  wpAny (model X.prog X.w) X.A.in1 (call (.ref f) [u]) Q E s:=by
 have I2:=I.pinned (fp:=[it,S]) (λb hb=>by
  rcases Ado.mp hb with rfl|hb
  · exact fi
  · rw[Ac9] at hb;rw[hb];exact fS) (λb hb=>by
  rcases Ado.mp hb with rfl|hb
  · exact⟨_,hi,di⟩
  · rw[Ac9] at hb;rw[hb];exact⟨_,hS,dS⟩)
 refine Afa (g _ s σ H' x u (λv H''=>Same H' H''/\G x H'' v) _ I2 sm hx rx λv H'' s1 g1=>⟨s1,g1⟩) ?_ λ_ _ z=>z
 rintro uv s' ⟨v,H'',I3,rv,s1,g1⟩
 have p1:=I3.pin (it,oi) (Adg _ (Adg _ (Ct (Ac8 ..) hi)))
 have p2:=I3.pin (S,oS) (Adg _ (Adg _ (Ct (Adi _ (Ac8 ..)) hS)))
 exact h uv s' v H'' I3.unpinned s1 (fi.same p1.2.1) (fS.same p2.2.1) p1.1 p2.1 rv g1
theorem jw {s:Shared}{w wv u uv:Value}{b:Bool}{c:Nat}{hdl:Value->Sem Bool}{k:Unit->Sem PySem.Fin}{Q:PySem.Fin->Shared->Prop}{E:Value->Shared->Prop}(hcmp:CmpAt .Gt X.A.in1 s wv uv b)(hS:s.heap.get? S=some {cls:=.type "list",data:=.seq #[u,uv] c})
  (h1:b=true-> ∀h' c',(∀a o,a≠S->s.heap.get? a=some o->h'.get? a=some o)->h'.get? S=some {cls:=.type "list",data:=.seq #[w,wv] c'}->wpAny (model X.prog X.w) X.A.in1 (k ()) Q E {s with heap:=h'})
  (h0:b=false->wpAny (model X.prog X.w) X.A.in1 (k ()) Q E s):
  wpAny (model X.prog X.w) X.A.in1 (tryCatch (holding [w,wv] (richCompare .Gt wv uv>>= λanswer=>holding [answer] (truthy answer)>>= λyes=>letGo [answer]>>= λ_=>pure yes)) hdl>>= λbetter=>
   if better=true then(updateSeq S (λ_=>#[w,wv])>>= λ_=>letGo [uv,u]>>=k) else(letGo [w,wv]>>=k)) Q E s:=by
 refine Ac1 (Ahk (Ae6 (Ac1 (hcmp X.prog X.w _ _ ?_))))
 refine Ac1 (Ae6 (Ae2 ?_))
 refine Ac1 (wpAny_letGo (Ac4 ?_))
 cases b with
 |
  true=>
  rw[if_pos rfl]
  refine Ac1 (wpAny_updateSeq hS rfl (Ac1 (wpAny_letGo ?_)))
  exact h1 rfl _ _ (λa o ha e=>(Afc _ _ _ _ ha).trans e) (Ahl _ hS rfl)
 |
  false=>
  rw[if_neg Adf]
  exact Ac1 (wpAny_letGo (h0 rfl))
theorem gw {tn:Nat->Heap->Prop}(N:Ym X it xs H tn)(hK:Xy X H xs G key)(hG: ∀x H1 H2 v,Same H1 H2->G x H1 v->G x H2 v)(hne:it≠S)
  (hcmp: ∀(pins:List (Addr×Obj))(s:Shared)(σ:St)(H':Hp)(x y v v':V)(u u':Value),Inv X pins σ H' s->Same H H'->x∈xs->y∈xs->G x H' v->G y H' v'->RelV v u->RelV v' u'->CmpAt .Gt X.A.in1 s u u' (gt x y)):
  ∀(rest:List V)(i:Nat)(b bv:V)(s:Shared)(H':Hp)(c:Nat)(u uv:Value),xs.drop i=rest->b∈xs->Inv X pins σ H' s->Same H H'->FpOk X pins H' it->FpOk X pins H' S->tn i s.heap->
   s.heap.get? S=some {cls:=.type "list",data:=.seq #[u,uv] c}->RelV b u->RelV bv uv->G b H' bv->(∀u s' H'',Inv X pins σ H'' s'->Same H H''->RelV (Hu gt b rest) u->R (.ok (.ret u)) s')->
   codeAny (model X.prog X.w) X.A (.builtin "max.loop" ⟨[.ref it,key,.ref S],[]⟩) R s:=by
 have hname:(toString "max"++toString ".loop":String)="max.loop":=by decide
 intro rest
 induction rest with
 |
  nil=>
  intro i b bv s H' c u uv hd hb I sm fi fS st hS rb rv gb hR
  have hi:xs.length<=i:=List.drop_eq_nil_iff.mp hd
  refine Ahx F.entry_max_loop ?_
  rw[Ahp Afs _]
  show wpAny _ X.A.in1 (seqItems? (.ref S)>>=_) _ _ s
  refine Ac1 (Ah8 hS rfl ?_)
  show wpAny _ X.A.in1 (tryCatch (pyNext (.ref it)) _>>=_) _ _ s
  obtain⟨f0,f1,f2,f3,f4,f5⟩:=id fi
  obtain⟨g0,g1,g2,g3,g4,g5⟩:=id fS
  refine Ac1 (Ahk (N.done pins s σ H' i _ _ I sm st hi λh' eb=>?_))
  have I1:Inv X pins σ H' {s with heap:=h'}:=I.turned (t':=s.toks) (λb o hb e=>eb b o hb e) f0 f1 f3 f4 f5
  have hS':h'.get? S=some {cls:=.type "list",data:=.seq #[u,uv] c}:=eb S _ (Ah3 hne) hS
  show wpAny _ X.A.in1 (updateSeq S (λ_=>#[])>>=_) _ _ _
  refine Ac1 (wpAny_updateSeq hS' rfl (Ac1 (wpAny_letGo (Ac4 ?_))))
  exact hR u _ H' (I1.turned (t':=s.toks) (λb o hb e=>(Afc _ _ _ _ hb).trans e) g0 g1 g3 g4 g5) sm rb
 |
  cons x rest ih=>
  intro i b bv s H' c u uv hd hb I sm fi fS st hS rb rv gb hR
  have hx:xs[i]?=some x:=by rw[←List.head?_drop,hd];rfl
  have hd':xs.drop (i+1)=rest:=by rw[←List.tail_drop,hd];rfl
  have hxm:=Ad6 hx
  refine Ahx F.entry_max_loop ?_
  rw[Ahp Afs _]
  show wpAny _ X.A.in1 (seqItems? (.ref S)>>=_) _ _ s
  refine Ac1 (Ah8 hS rfl ?_)
  show wpAny _ X.A.in1 (tryCatch (pyNext (.ref it)) _>>=_) _ _ s
  obtain⟨f0,f1,f2,f3,f4,f5⟩:=id fi
  obtain⟨g0,g1,g2,g3,g4,g5⟩:=id fS
  refine Ac1 (Ahk (N.item pins s σ H' i x _ _ I sm st hx λw h' rw st' sb=>?_))
  have I1:Inv X pins σ H' {s with heap:=h'}:=I.turned (t':=s.toks) sb f0 f1 f3 f4 f5
  have hS':h'.get? S=some {cls:=.type "list",data:=.seq #[u,uv] c}:=sb S _ (Ah3 hne) hS
  obtain⟨oi,hoi,di,kp0⟩:=N.obj _ _ st'
  have go: ∀(wv:Value)(s2:Shared)(v:V)(H2:Hp)(hdl:Value->Sem Bool),Inv X pins σ H2 s2->Same H' H2->FpOk X pins H2 it->FpOk X pins H2 S->s2.heap.get? it=some oi->
    s2.heap.get? S=some {cls:=.type "list",data:=.seq #[u,uv] c}->RelV v wv->G x H2 v->wpAny (model X.prog X.w) X.A.in1 (tryCatch (holding [w,wv] (richCompare .Gt wv uv>>= λanswer=>holding [answer] (truthy answer)>>= λyes=>letGo [answer]>>= λ_=>pure yes)) hdl>>= λbetter=>
     if better=true then(updateSeq S (λ_=>#[w,wv])>>= λ_=>letGo [uv,u]>>= λ_=>again (Code.builtin (toString "max"++toString ".loop") ⟨[.ref it,key,.ref S],[]⟩)) else(letGo [w,wv]>>= λ_=>again (Code.builtin (toString "max"++toString ".loop") ⟨[.ref it,key,.ref S],[]⟩))) (λfin s'=>match fin with| .done f=>R (.ok f) s'| .again c'=>c'.quiet=true/\codeAny (model X.prog X.w) X.A c' R s') (λe s'=>R (.error e) s') s2:=by
   intro wv s2 v H2 hdl I2 sm2 fi2 fS2 hi2 hS2 rv2 gv2
   have gb2:=hG b H' H2 bv sm2 gb
   obtain⟨g0,g1,g2,g3,g4,g5⟩:=id fS2
   refine jw (hcmp pins s2 σ H2 x b v bv wv uv I2 (sm.trans sm2) hxm hb gv2 gb2 rv2 rv) hS2 (λhg h' c' kp hS3=>?_) (λhg=>?_)
   ·
    rw[hname]
    refine Ac4 ⟨Aim Afs _,ih (i+1) x v _ H2 c' w wv hd' hxm (I2.turned (t':=s2.toks) (λb o hb e=>kp b o hb e) g0 g1 g3 g4 g5) (sm.trans sm2) fi2 fS2 (kp0 _ (kp _ _ hne hi2)) hS3 rw rv2 gv2 λu' s' H'' a1 a2 a3=>hR u' s' H'' a1 a2 ?_⟩
    unfold Hu
    rw[if_pos hg]
    exact a3
   ·
    rw[hname]
    refine Ac4 ⟨Aim Afs _,ih (i+1) b bv _ H2 c u uv hd' hb I2 (sm.trans sm2) fi2 fS2 (kp0 _ hi2) hS2 rb rv gb2 λu' s' H'' a1 a2 a3=>hR u' s' H'' a1 a2 ?_⟩
    unfold Hu
    rw[if_neg (by rw[hg];exact Adf)]
    exact a3
  rcases hK with⟨rfl,g⟩|⟨f,rfl,g⟩
  · exact go w _ x H' _ I1 (Same.refl _) fi fS hoi hS' rw (g x H')
  ·
   show wpAny _ X.A.in1 (tryCatch (holding [w] (call (.ref f) [w])) _>>=_) _ _ _
   refine Ac1 (Ahk (Ae6 (Yr g I1 sm hxm rw fi fS hoi hS' di (λv z=>nomatch z) λwv s2 v H2 I2 sm2 fi2 fS2 hi2 hS2 rv2 gv2=>?_)))
   exact go wv s2 v H2 _ I2 sm2 fi2 fS2 hi2 hS2 rv2 gv2
end
section
variable {X:Cx}{pins:List (Addr×Obj)}{σ:St}{H:Hp}{it S:Addr}{xs:List V}{key:Value}{G:V->Hp->V->Prop}{gt:V->V->Bool}{R:Result->Shared->Prop}
abbrev Vg (X:Cx)(H:Hp)(xs:List V)(G:V->Hp->V->Prop)(gt:V->V->Bool):Prop:=∀(pins:List (Addr×Obj))(s:Shared)(σ:St)(H':Hp)(x y v v':V)(u u':Value),Inv X pins σ H' s->Same H H'->x∈xs->y∈xs->G x H' v->G y H' v'->RelV v u->RelV v' u'->CmpAt .Gt X.A.in1 s u u' (gt x y)
theorem Qs {tn:Nat->Heap->Prop}{x:V}{ys:List V}(N:Ym X it (x::ys) H tn)(hK:Xy X H (x::ys) G key)(hG: ∀x H1 H2 v,Same H1 H2->G x H1 v->G x H2 v)(hne:it≠S)(hcmp:Vg X H (x::ys) G gt)
  {s:Shared} {H':Hp} {c:Nat} (I:Inv X pins σ H' s) (sm:Same H H') (fi:FpOk X pins H' it) (fS:FpOk X pins H' S) (st:tn 0 s.heap) (hS:s.heap.get? S=some {cls:=.type "list",data:=.seq #[] c})
  (hR: ∀u s' H'',Inv X pins σ H'' s'->Same H H''->RelV (Hu gt x ys) u->R (.ok (.ret u)) s'):codeAny (model X.prog X.w) X.A (.builtin "max.loop" ⟨[.ref it,key,.ref S],[]⟩) R s:=by
 have hname:(toString "max"++toString ".loop":String)="max.loop":=by decide
 refine Ahx F.entry_max_loop ?_
 rw[Ahp Afs _]
 show wpAny _ X.A.in1 (seqItems? (.ref S)>>=_) _ _ s
 refine Ac1 (Ah8 hS rfl ?_)
 show wpAny _ X.A.in1 (tryCatch (pyNext (.ref it)) _>>=_) _ _ s
 obtain⟨f0,f1,f2,f3,f4,f5⟩:=id fi
 refine Ac1 (Ahk (N.item pins s σ H' 0 x _ _ I sm st rfl λw h' rw st' sb=>?_))
 have I1:Inv X pins σ H' {s with heap:=h'}:=I.turned (t':=s.toks) sb f0 f1 f3 f4 f5
 have hS':h'.get? S=some {cls:=.type "list",data:=.seq #[] c}:=sb S _ (Ah3 hne) hS
 obtain⟨oi,hoi,di,kp0⟩:=N.obj _ _ st'
 have go: ∀(wv:Value)(s2:Shared)(v:V)(H2:Hp),Inv X pins σ H2 s2->Same H' H2->FpOk X pins H2 it->FpOk X pins H2 S->s2.heap.get? it=some oi->
   s2.heap.get? S=some {cls:=.type "list",data:=.seq #[] c}->RelV v wv->G x H2 v->wpAny (model X.prog X.w) X.A.in1 (updateSeq S (λ_=>#[w,wv])>>= λ_=>again (Code.builtin (toString "max"++toString ".loop") ⟨[.ref it,key,.ref S],[]⟩))
    (λfin s'=>match fin with| .done f=>R (.ok f) s'| .again c'=>c'.quiet=true/\codeAny (model X.prog X.w) X.A c' R s') (λe s'=>R (.error e) s') s2:=by
  intro wv s2 v H2 I2 sm2 fi2 fS2 hi2 hS2 rv2 gv2
  obtain⟨g0,g1,g2,g3,g4,g5⟩:=id fS2
  rw[hname]
  refine Ac1 (wpAny_updateSeq hS2 rfl (Ac4 ⟨Aim Afs _,gw N hK hG hne hcmp ys 1 x v _ H2 _ w wv rfl (Ac8 ..) (I2.turned (t':=s2.toks) (λb o hb e=>(Afc _ _ _ _ hb).trans e) g0 g1 g3 g4 g5) (sm.trans sm2) fi2 fS2
   (kp0 _ ((Afc _ _ _ _ hne).trans hi2)) (Ahl _ hS2 rfl) rw rv2 gv2 hR⟩))
 rcases hK with⟨rfl,g⟩|⟨f,rfl,g⟩
 · exact go w _ x H' I1 (Same.refl _) fi fS hoi hS' rw (g x H')
 ·
  show wpAny _ X.A.in1 (tryCatch (holding [w] (call (.ref f) [w])) _>>=_) _ _ _
  refine Ac1 (Ahk (Ae6 (Yr g I1 sm (Ac8 ..) rw fi fS hoi hS' di (λv z=>nomatch z) λwv s2 v H2 I2 sm2 fi2 fS2 hi2 hS2 rv2 gv2=>?_)))
  exact go wv s2 v H2 I2 sm2 fi2 fS2 hi2 hS2 rv2 gv2
end
end L2
namespace L2
open PySem PySem.W PyProof.Rows
structure SortsV (prog:Program)(w:World)(A:Around)(s:Shared)(κ:SortKind){O:KeyOrd}(key:Value->O.α)(vs:List Value):Prop where
 kind: ∀(E:Value->Shared->Prop)(Q:SortKind->Shared->Prop),Q κ s->wpAny (model prog w) A (keyKind' vs.toArray) Q E s
 cmp: ∀x∈vs,∀y∈vs,∀C:Bool->Shared->Prop,C (O.blt (key x) (key y)) s->wpAny (model prog w) A (keyLt' κ x y) C (λ_ _=>False) s
def P5 (vs:List Value)(p:Array Nat):List Value:=p.toList.map λi=>vs.getD i Value.none
section
variable {prog:Program}{w:World}{A:Around}{E:Value->Shared->Prop}{s:Shared}{vs:List Value}{O:KeyOrd}{key:Value->O.α}{κ:SortKind}
theorem getD_in {i:Nat}(hi:i<vs.length):vs.getD i Value.none∈vs:=by
 have e:vs.getD i Value.none=vs[i]:=by simp[hi]
 rw[e]
 exact Afh hi
theorem SortsV.asks (S:SortsV prog w A s κ key vs):l3 (O:=O) (λi=>key (vs.getD i Value.none)) vs.length (kas_ask prog w A κ vs) s:=by
 intro i j C hi hj h
 unfold kas_ask
 exact S.cmp _ (getD_in hi) _ (getD_in hj) C h
theorem Qp {p:Array Nat}(hp:Rg vs.length p):(P5 vs p).Perm vs:=by
 have h:=(Agi.mp hp).map λi=>vs.getD i Value.none
 have e:(List.range vs.length).map (λi=>vs.getD i Value.none)=vs:=by
  apply List.ext_getElem
  · simp
  ·
   intro i h1 h2
   simp[h2]
 rw[Af0,e] at h
 exact h
theorem jb {p:Array Nat}(hp:Rg vs.length p)(hu:Up (O:=O) (λi=>key (vs.getD i Value.none)) p vs.length):(P5 vs p).Pairwise λx y=>O.kle (key x) (key y):=by
 rw[List.pairwise_iff_getElem]
 intro i j hi hj hij
 have hz:=hp.size
 have hl:(P5 vs p).length=vs.length:=by unfold P5;rw[Ac0,Ac6,hz]
 have h:=hu i j (by lia) (by lia)
 have gi: ∀k(hk:k<(P5 vs p).length),(P5 vs p)[k]=vs.getD (p.getD k 0) Value.none:=by
  intro k hk
  have hk':k<p.size:=by lia
  have e:(P5 vs p)[k]?=some (vs.getD (p.getD k 0) Value.none):=by
   unfold P5
   rw[Adl,Aef,Aem hk',Array.getD,Aiw hk']
   rfl
  rw[Adh hk] at e
  exact Adt e
 rw[gi i hi,gi j hj]
 exact h
theorem Wn {a:Addr}{k:Nat}{P:PySem.Fin->Shared->Prop}(ho:s.heap.get? a=some (seqObj "list" vs.toArray k))(h64:vs.length<64)
  (hS:2<=vs.length-> ∀h':Heap,(∀b o,b≠a->s.heap.get? b=some o->h'.get? b=some o)->SortsV prog w A {s with heap:=h'} κ key vs)
  (h: ∀us:List Value,us.Perm vs->us.Pairwise (λx y=>O.kle (key x) (key y))->P (.done (.ret .none)) {s with heap:=sortedHeap s.heap a vs us.toArray}):wpAny (model prog w) A (Builtin.«list.sort» ⟨[.ref a],[]⟩) P E s:=by
 obtain⟨c1,g1⟩: ∃c,(s.heap.update a (Obj.mapSeq λ_=>(#[]:Array Value))).get? a=some (seqObj "list" #[] c):=⟨_,get?_update_seq ho λ_=>#[]⟩
 have g2:(((s.heap.update a (Obj.mapSeq λ_=>(#[]:Array Value))).push (seqObj "tuple" vs.toArray 0)).push (seqObj "list" #[] 0)).get? a=some (seqObj "list" #[] c1):=Ac5 _ (Ac5 _ g1)
 have kp: ∀b o,b≠a->s.heap.get? b=some o->(((s.heap.update a (Obj.mapSeq λ_=>(#[]:Array Value))).push (seqObj "tuple" vs.toArray 0)).push (seqObj "list" #[] 0)).get? b=some o:=λb o hb e=>
  Ac5 _ (Ac5 _ (by rw[Afc _ _ _ _ hb];exact e))
 rw[list_sort_plain]
 refine Ac1 (listItems_at ho rfl (Ac1 (Aia ho rfl (Ac1 (seqEpoch_at g1 rfl (Ac1 (wpAny_newTuple (Ac1 (Ag8 (Ae6 ?_) (Adw _))) (by rw[Aeh];show vs.length<=_;lia))))) (by rw[Adn,Aeh];lia) (Adw _))))
 show wpAny (model prog w) A _ P E {s with heap:=((s.heap.update a (Obj.mapSeq λ_=>(#[]:Array Value))).push (seqObj "tuple" vs.toArray 0)).push (seqObj "list" #[] 0)}
 dsimp only
 by_cases h2:vs.toArray.size<2
 ·
  have hl2:vs.length<2:=by rw[Adn] at h2;exact h2
  rw[if_pos h2,if_pos h2]
  refine Ac1 (Ac4 ?_)
  rw[StateT.run_pure]
  refine Ac1 (Ac4 ?_)
  dsimp only
  have e:(arrOf (SortSt.mk' general' (vs.toArray.zip vs.toArray) #[] 7 none)).map (·.2)=vs.toArray:=by
   show(vs.toArray.zip vs.toArray).map (·.2)=_
   apply Af3.mp
   simp
   rw[List.map_snd_zip]
   simp
  rw[e]
  refine Ac1 (seqEpoch_at g2 rfl (Ac1 (Aia g2 rfl ?_ (Adw _) (by rw[Adn,Aeh];lia))))
  simp only[Aht,Adz,Ae5]
  refine Ac4 (h vs (.refl _) ?_)
  match vs,hl2 with
  | [],_=>exact .nil
  | [_],_=>exact Aev _ _
 ·
  have hl2:2<=vs.length:=by rw[Adn] at h2;lia
  rw[if_neg h2,if_neg h2]
  have S:=hS hl2 _ kp
  refine Ac1 (S.kind _ _ ?_)
  have run:=kat_run (prog:=prog) (w:=w) (A:=A) (E:=E) (κ:=κ) (ks:=vs) (vs:=vs) (s:={s with heap:=((s.heap.update a (Obj.mapSeq λ_=>(#[]:Array Value))).push (seqObj "tuple" vs.toArray 0)).push (seqObj "list" #[] 0)})
   (Q:=λst' s'=>s'={s with heap:=((s.heap.update a (Obj.mapSeq λ_=>(#[]:Array Value))).push (seqObj "tuple" vs.toArray 0)).push (seqObj "list" #[] 0)}/\failedOf st'=none/\ ∃p,Rg vs.length p/\Up (O:=O) (λi=>key (vs.getD i Value.none)) p vs.length/\arrOf st'=p.map (kas_item (vs.toArray.zip vs.toArray)))
   (G:=λp s'=>s'={s with heap:=((s.heap.update a (Obj.mapSeq λ_=>(#[]:Array Value))).push (seqObj "tuple" vs.toArray 0)).push (seqObj "list" #[] 0)}/\Rg vs.length p/\Up (O:=O) (λi=>key (vs.getD i Value.none)) p vs.length)
   rfl hl2 h64 (λp st' s' a1 a2 a3 a4=>⟨a4.1,a3,p,a4.2.1,a4.2.2,a2⟩) (qr S.asks (by lia) λp hp hu=>⟨rfl,hp,hu⟩)
  refine Ac1 (Afa run ?_ λ_ _ z=>z)
  rintro⟨⟨⟩,st'⟩ s' ⟨rfl,hf,p,hp,hu,har⟩
  dsimp only
  rw[kat_snds rfl har]
  have hz:(P5 vs p).length=vs.length:=(Qp hp).length_eq
  refine Ac1 (seqEpoch_at g2 rfl (Ac1 (Aia g2 rfl ?_ (Adw _) (by rw[Adn];show(P5 vs p).length<=_;rw[hz,Aeh];lia))))
  rw[hf]
  simp only[Aht,Adz,Ae5]
  exact Ac4 (h _ (Qp hp) (jb hp hu))
theorem Ih {c:Value}{Q:Value->Shared->Prop}{G:List Value->Prop}
  (hcol: ∀(E':Value->Shared->Prop)(Q':List Value->Shared->Prop),(∀h' tk vs,(∀b o,s.heap.get? b=some o->h'.get? b=some o)->s.heap.objs.size<=h'.objs.size->G vs->Q' vs {s with heap:=h',toks:=tk})->wpAny (model prog w) A.in1 (collect c) Q' E' s)
  (hz: ∀vs,G vs->vs.length<64) (hS: ∀vs,G vs->2<=vs.length-> ∀(s':Shared),(∀b o,s.heap.get? b=some o->s'.heap.get? b=some o)->SortsV prog w A.in1.in1 s' κ key vs)
  (h: ∀(D:Addr)h' tk(vs us:List Value)(e:Nat),G vs->us.Perm vs->us.Pairwise (λx y=>O.kle (key x) (key y))->(∀b o,s.heap.get? b=some o->h'.get? b=some o)->s.heap.objs.size<=D->h'.get? D=some (seqObj "list" us.toArray e)->Q (.ref D) {s with heap:=h',toks:=tk}):
  wpAny (model prog w) A (call (.builtin "sorted") [c]) Q E s:=by
 refine Calls.call_function_entry kind_sorted plain_sorted entry_sorted (args_sorted1 _) ?_
 unfold Builtin.«sorted»
 refine Ac1 (m:=checkCount "sorted" 1 1 _) (Ac4 (Ac1 (hcol _ _ λh1 tk vs kp hge hg=>?_)))
 have h64:=hz vs hg
 refine Ac1 (Ag8 ?_ (by rw[Aeh];lia))
 have hoL:(h1.push (seqObj "list" vs.toArray 0)).get? h1.objs.size=some (seqObj "list" vs.toArray 0):=Adv _ rfl
 have keep: ∀b o,s.heap.get? b=some o->(h1.push (seqObj "list" vs.toArray 0)).get? b=some o:=λb o q=>Ac5 _ (kp b o q)
 have ne: ∀b o,s.heap.get? b=some o->b≠h1.objs.size:=λb o q=>Ad9 (Adm (kp b o q))
 show wpAny _ _ _ _ _ {s with heap:=h1.push (seqObj "list" vs.toArray 0),toks:=tk}
 refine Ac1 (Ae6 (Aew slot_list_sort ⟨_,hoL,rfl⟩ entry_list_sort (Wn (κ:=κ) (key:=key) hoL h64 (λh2 h' kp'=>hS vs hg h2 _ λb o q=>kp' b o (ne b o q) (keep b o q)) λus a1 a2=>⟨_,rfl,Ac4 ⟨_,rfl,?_⟩⟩) (args_list_sort _)))
 obtain⟨e,he⟩:=sortedHeap_at (out:=us.toArray) hoL
 refine h h1.objs.size _ tk vs us e hg a1 a2 (λb o q=>?_) hge he
 rw[sortedHeap_old (ne b o q) (Adm (keep b o q))]
 exact keep b o q
end
end L2
namespace L2
open PySem PySem.Spec PyProof.Rows PySem.SeqAt DX
def ltS (x y:Str):Bool:=decide (x.cps.toList<y.cps.toList)
theorem br: ∀(a b:List Nat),decide (a<b)=Hk (λx y:Nat=>decide (x<y)) a b
 | [],[]=>by simp[Hk]
 | [],_::_=>by simp[Hk]
 | _::_,[]=>by simp[Hk]
 |
  x::xs,y::ys=>by
  unfold Hk
  rw[←br xs ys]
  by_cases e:x=y
  ·
   subst e
   rw[if_pos rfl]
   exact Aej.mpr (by rw[List.cons_lt_cons_iff];simp)
  ·
   rw[if_neg e]
   exact Aej.mpr (by rw[List.cons_lt_cons_iff];simp[e])
theorem tw {a b:Str}(h:a.cps.toList=b.cps.toList):a=b:=by
 obtain⟨⟨a⟩⟩:=a
 obtain⟨⟨b⟩⟩:=b
 simp at h
 rw[h]
theorem bq:Lin ltS:=by
 have L:=Mw sf
 have e: ∀x y:Str,ltS x y=Hk (λx y:Nat=>decide (x<y)) x.cps.toList y.cps.toList:=λx y=>br _ _
 exact⟨λa=>by rw[e];exact L.irr _,λa b c h1 h2=>by rw[e] at h1 h2 ⊢;exact L.tr _ _ _ h1 h2,λa b h1 h2=>by rw[e] at h1 h2;exact tw (L.tot _ _ h1 h2)⟩
def ltK:Key->Key->Bool:=zm (λa b:Int=>decide (a<b)) ltS
def ltN:NK->NK->Bool:=zm ltK (Hk ltK)
def ltL:List NK->List NK->Bool:=Hk ltN
theorem O2:Lin ltK:=gk o9 bq
theorem Dn:Lin ltL:=Mw (gk O2 (Mw O2))
def okK:Key->Key->Bool
 | .inl _,.inl _=>true
 | .inr _,.inr _=>true
 | _,_=>false
def okT:List Key->List Key->Bool
 | x::xs,y::ys=>if x=y then okT xs ys else okK x y
 | _,_=>true
def okN:NK->NK->Bool
 | .inl a,.inl b=>okK a b
 | .inr a,.inr b=>okT a b
 | _,_=>false
def okL:List NK->List NK->Bool
 | x::xs,y::ys=>if x=y then okL xs ys else okN x y
 | _,_=>true
def fl {α:Type}(op:CmpOp)(lt:α->α->Bool)(x y:α):Bool:=
 match op with
 | .Lt=>lt x y
 | _=>lt y x
abbrev Two (op:CmpOp):Prop:=op=.Lt∨op=.Gt
theorem m9 {α:Type}[DecidableEq α]{op:CmpOp}(hop:Two op){lt:α->α->Bool}{x y:α}{xs ys:List α}:fl op (Hk lt) (x::xs) (y::ys)=if x=y then fl op (Hk lt) xs ys else fl op lt x y:=by
 rcases hop with rfl|rfl
 · rfl
 ·
  show Hk lt (y::ys) (x::xs)=if x=y then Hk lt ys xs else lt y x
  show(if y=x then Hk lt ys xs else lt y x)=_
  by_cases e:x=y
  · rw[if_pos e,if_pos e.symm]
  · rw[if_neg e,if_neg λz=>e z.symm]
theorem Qw {α:Type}[DecidableEq α]{op:CmpOp}(hop:Two op){lt:α->α->Bool}{xs ys:List α}(h:xs=[]∨ys=[]):szB op xs.length ys.length=fl op (Hk lt) xs ys:=by
 rcases hop with rfl|rfl<;>rcases h with rfl|rfl
 · cases ys<;>simp[szB,fl,Hk]
 · cases xs<;>simp[szB,fl,Hk]
 · cases ys<;>simp[szB,fl,Hk]
 · cases xs<;>simp[szB,fl,Hk]
section
variable {prog:Program}{w:World}{A:Around}{s:Shared}{op:CmpOp}
theorem CmpAt.tup (hop:Two op){a b:Addr}{xs ys:Array Value}{r:Bool}(hx:s.heap.IsTuple a xs)(hy:s.heap.IsTuple b ys)(hu:A.units<cLine)(hl:J7 op A.in1 s xs.toList ys.toList r):CmpAt op A s (.ref a) (.ref b) r:=by
 rcases hop with rfl|rfl
 · exact .ltT hx hy hu hl
 · exact .gtT hx hy hu hl
theorem ni {k k':Key}{u u':Value}(h:Qb k u=true)(h':Qb k' u'=true):EqAt A s u u' (decide (k=k')):=λprog w E Q q=>(Bi prog w).eqBool (a:=k) (b:=k') h h' q
theorem Wz (hop:Two op){k k':Key}{u u':Value}(h:Qb k u=true)(h':Qb k' u'=true)(ok:okK k k'=true):CmpAt op A s u u' (fl op ltK k k'):=by
 intro prog w E Q q
 cases k with
 |
  inl i=>
  obtain⟨t,rfl⟩:=Afl (k:=i) (v:=u) h
  cases k' with
  |
   inl j=>
   obtain⟨t',rfl⟩:=Afl (k:=j) (v:=u') h'
   rcases hop with rfl|rfl
   · exact PySem.P.lt_int q
   · exact PySem.P.gt_int q
  | inr y=>cases ok
 |
  inr x=>
  obtain⟨t,rfl⟩:=Afb (x:=x) (v:=u) h
  cases k' with
  | inl j=>cases ok
  |
   inr y=>
   obtain⟨t',rfl⟩:=Afb (x:=y) (v:=u') h'
   rcases hop with rfl|rfl
   · exact PySem.P.lt_str q
   · exact PySem.P.gt_str q
theorem Rf (hop:Two op): ∀{ks ks':List Key}{us us':List Value},ItemsAre (Bi prog w) ks us->ItemsAre (Bi prog w) ks' us'->okT ks ks'=true->J7 op A s us us' (fl op (Hk ltK) ks ks')
 |
  [],ks',_,us',.nil,h',_=>by
  have e:szB op ([]:List Value).length us'.length=fl op (Hk ltK) [] ks':=by rw[←h'.length];exact Qw hop (xs:=([]:List Key)) (.inl rfl)
  rw[←e]
  exact .fin (.inl rfl)
 |
  k::ks,[],us,_,h,.nil,_=>by
  have e:szB op us.length ([]:List Value).length=fl op (Hk ltK) (k::ks) []:=by rw[←h.length];exact Qw hop (ys:=([]:List Key)) (.inr rfl)
  rw[←e]
  exact .fin (.inr rfl)
 |
  k::ks,k'::ks',_,_,.cons h1 h2,.cons h1' h2',ok=>by
  rw[m9 hop]
  unfold okT at ok
  have he:=ni (A:=A) (s:=s) h1 h1'
  by_cases e:k=k'
  ·
   rw[if_pos e] at ok ⊢
   rw[Ac3 e] at he
   exact .eq he (Rf hop h2 h2' ok)
  ·
   rw[if_neg e] at ok ⊢
   rw[Ac7 e] at he
   exact .ne he (Wz hop h1 h1' ok)
theorem Sv {ks:List Key}{a:Addr}{h:Heap}(x:IsTupleKey (Bi prog w) h ks a): ∃its,h.IsTuple a its/\ItemsAre (Bi prog w) ks its.toList:=let ⟨o,its,n,ho,hc,hd,hi⟩:=x;⟨its,⟨o,ho,hc,n,hd⟩,hi⟩
theorem sh {prog':Program}{w':World}{ks:List Key}{a:Addr}{h:Heap}(x:IsTupleKey (Bi prog w) h ks a):IsTupleKey (Bi prog' w') h ks a:=by
 obtain⟨o,its,n,ho,hc,hd,hi⟩:=x
 refine⟨o,its,n,ho,hc,hd,?_⟩
 generalize its.toList=vs at hi
 induction hi with
 | nil=>exact .nil
 | cons h1 _ ih=>exact .cons h1 ih
theorem NItem.any {prog':Program}{w':World}{k:NK}{v:Value}{h:Heap}(x:NItem prog w h k v):NItem prog' w' h k v:=by
 cases k with
 | inl k=>exact x
 | inr ks=>obtain⟨a,e,p⟩:=x;exact⟨a,e,sh p⟩
theorem IsNest.any {prog':Program}{w':World}{ks:List NK}{a:Addr}{h:Heap}(x:IsNest prog w h ks a):IsNest prog' w' h ks a:=by
 obtain⟨o,its,n,ho,hc,hd,hi⟩:=x
 refine⟨o,its,n,ho,hc,hd,?_⟩
 generalize its.toList=vs at hi
 induction hi with
 | nil=>exact .nil
 | cons h1 _ ih=>exact .cons h1.any ih
theorem c8 {k k':NK}{u u':Value}(hu:A.units<cLine)(h:NItem prog w s.heap k u)(h':NItem prog w s.heap k' u'):EqAt A s u u' (decide (k=k')):=λprog' w' E Q q=>R7 hu h.any h'.any q
theorem Xl (hop:Two op){k k':NK}{u u':Value}(hu:A.units<cLine)(h:NItem prog w s.heap k u)(h':NItem prog w s.heap k' u')(ok:okN k k'=true):CmpAt op A s u u' (fl op ltN k k'):=by
 cases k with
 |
  inl k=>
  cases k' with
  |
   inl k'=>
   have e:fl op ltN (.inl k) (.inl k')=fl op ltK k k':=by rcases hop with rfl|rfl<;>rfl
   rw[e]
   exact Wz hop h h' ok
  | inr _=>cases ok
 |
  inr ks=>
  cases k' with
  | inl _=>cases ok
  |
   inr ks'=>
   obtain⟨a,rfl,p⟩:=h
   obtain⟨b,rfl,p'⟩:=h'
   obtain⟨xs,t1,i1⟩:=Sv p
   obtain⟨ys,t2,i2⟩:=Sv p'
   have e:fl op ltN (.inr ks) (.inr ks')=fl op (Hk ltK) ks ks':=by rcases hop with rfl|rfl<;>rfl
   rw[e]
   exact .tup hop t1 t2 hu (Rf hop i1 i2 ok)
theorem NItems.length {ks:List NK}{us:List Value}{h:Heap}(x:NItems prog w h ks us):ks.length=us.length:=by
 induction x with
 | nil=>rfl
 | cons _ _ ih=>simp[ih]
theorem Tx (hop:Two op)(hu:A.units<cLine): ∀{ks ks':List NK}{us us':List Value},NItems prog w s.heap ks us->NItems prog w s.heap ks' us'->okL ks ks'=true->J7 op A s us us' (fl op ltL ks ks')
 |
  [],ks',_,us',.nil,h',_=>by
  have e:szB op ([]:List Value).length us'.length=fl op (Hk ltN) [] ks':=by rw[←h'.length];exact Qw hop (xs:=([]:List NK)) (.inl rfl)
  show J7 op A s _ _ (fl op (Hk ltN) [] ks')
  rw[←e]
  exact .fin (.inl rfl)
 |
  k::ks,[],us,_,h,.nil,_=>by
  have e:szB op us.length ([]:List Value).length=fl op (Hk ltN) (k::ks) []:=by rw[←h.length];exact Qw hop (ys:=([]:List NK)) (.inr rfl)
  show J7 op A s _ _ (fl op (Hk ltN) (k::ks) [])
  rw[←e]
  exact .fin (.inr rfl)
 |
  k::ks,k'::ks',_,_,.cons h1 h2,.cons h1' h2',ok=>by
  show J7 op A s _ _ (fl op (Hk ltN) (k::ks) (k'::ks'))
  rw[m9 hop]
  unfold okL at ok
  have he:=c8 hu h1 h1'
  by_cases e:k=k'
  ·
   rw[if_pos e] at ok ⊢
   rw[Ac3 e] at he
   exact .eq he (Tx hop hu h2 h2' ok)
  ·
   rw[if_neg e] at ok ⊢
   rw[Ac7 e] at he
   exact .ne he (Xl hop hu h1 h1' ok)
theorem Wv {ks ks':List NK}{a b:Addr}(hu:A.units+1<cLine)(h:IsNest prog w s.heap ks a)(h':IsNest prog w s.heap ks' b):EqAt A s (.ref a) (.ref b) (decide (ks=ks')):=λprog' w' E Q q=>Oe hu h.any h'.any q
theorem Xj (hop:Two op){ks ks':List NK}{a b:Addr}(hu:A.units+1<cLine)(h:IsNest prog w s.heap ks a)(h':IsNest prog w s.heap ks' b)(ok:okL ks ks'=true):CmpAt op A s (.ref a) (.ref b) (fl op ltL ks ks'):=by
 obtain⟨xs,t1,i1⟩:=h.isTuple
 obtain⟨ys,t2,i2⟩:=h'.isTuple
 exact .tup hop t1 t2 (by lia) (Tx hop hu i1 i2 ok)
end
end L2
namespace L2
open PySem PySem.Spec PyProof.Rows PySem.SeqAt
theorem Zm {prog:Program}{w:World}{A:Around}{E:Value->Shared->Prop}{s:Shared}{id:String}{b:Builtin}{args:List Value}{kw:List (Str×Value)}{Q:Value->Shared->Prop}(hk:builtinKind id=none)(hp:plainId id=true)
  (hb:entryFor table id=some b) (ha:argsOk id ⟨args,kw⟩)
  (hc:wpAny (model prog w) A.in1 (b ⟨args,kw⟩) (λfin s'=>match fin with
   | .done f=>(match (Except.ok f:Result) with| .ok (.ret v)=>Q v s'| .ok _=>False| .error e=>E e s')
   | .again c'=>c'.quiet=true/\codeAny (model prog w) A c' (λr s'=>match r with| .ok (.ret v)=>Q v s'| .ok _=>False| .error e=>E e s') s') E s):
  wpAny (model prog w) A (call (.builtin id) args kw) Q E s:=by
 refine wpAny_call (codeAny_call_builtin hp hb ?_)
 simp only[checkBuiltinCall,hk]
 cases hsig:Manifest.signature? id with
 | none=>exact Ac4 hc
 |
  some sig=>
  simp only[argsOk,hsig] at ha
  have h2:Bind.checkArgs id sig ⟨args,kw⟩=pure ():=ha
  show wpAny _ A.in1 (Bind.checkArgs id sig ⟨args,kw⟩) _ _ s
  rw[h2];exact Ac4 hc
theorem Vc (a v:Value):argsOk "max" ⟨[a],[(Str.ofString "key",v)]⟩:=by unfold argsOk;kernel_rfl
section
variable {X:Cx}{pins:List (Addr×Obj)}{σ:St}{H:Hp}{key:Value}{G:V->Hp->V->Prop}{gt:V->V->Bool}
theorem Vb (hc:X.calm=true){p:Addr}{x:V}{ys:List V}(hl:H p=some (.lst (x::ys)))(hK:Xy X H (x::ys) G key)(hG: ∀x H1 H2 v,Same H1 H2->G x H1 v->G x H2 v)(hcmp:Vg X H (x::ys) G gt){s:Shared}(I:Inv X pins σ H s){R:Result->Shared->Prop}
  (q: ∀u s' H'',Inv X pins σ H'' s'->Same H H''->RelV (Hu gt x ys) u->R (.ok (.ret u)) s'):wpAny (model X.prog X.w) X.A.in1 (pyIter (.ref p)>>= λit=>newList []>>= λS=>again (.builtin (toString "max"++toString ".loop") ⟨[it,key,S],[]⟩))
   (λfin s'=>match fin with| .done f=>R (.ok f) s'| .again c'=>c'.quiet=true/\codeAny (model X.prog X.w) X.A c' R s') (λe s'=>R (.error e) s') s:=by
 have hname:(toString "max"++toString ".loop":String)="max.loop":=by decide
 obtain⟨its,rvs,pl,hz⟩:=I.list (SqL.of (K:=X.K) hl)
 refine Ac1 (wpAny_pyIter_list pl.isList (Ac1 (Ag8 ?_ (Adw _))))
 rw[hname]
 have I1:Inv X pins σ H {s with heap:=(s.heap.push {cls:=.type "list_iterator",data:=.fields #[.ref p,.int 0 0]}).push {cls:=.type "list",data:=.seq #[]}}:=
  I.kept (t':=s.toks) λb u e=>Ac5 _ (Ac5 _ e)
 have hs1:(s.heap.push {cls:=.type "list_iterator",data:=.fields #[.ref p,.int 0 0]}).objs.size=s.heap.objs.size+1:=Agr ..
 have n0:H s.heap.objs.size=none:=I.hok.fresh (Adb _)
 have n1:H (s.heap.objs.size+1)=none:=I.hok.fresh (Afz _)
 refine Ac4 ⟨Aim Afs _,?_⟩
 have hg0:((s.heap.push {cls:=.type "list_iterator",data:=.fields #[.ref p,.int 0 0]}).push {cls:=.type "list",data:=.seq #[]}).get? s.heap.objs.size=some {cls:=.type "list_iterator",data:=.fields #[.ref p,.int 0 0]}:=
  Ac5 _ (Adv _ rfl)
 exact Qs (bp hc hl) hK hG (by rw[hs1];exact Ad9 (Ah6 _)) hcmp I1 (Same.refl _) (I.fpOk (Adb _) n0) (I.fpOk (by rw[hs1];exact Afz _) (by rw[hs1];exact n1)) ⟨_,hg0,rfl,rfl⟩ (Adv _ rfl) q
theorem f9 (hc:X.calm=true){p:Addr}{x:V}{ys:List V}(hl:H p=some (.lst (x::ys)))(hcmp:Vg X H (x::ys) (λx _ v=>v=x) gt){s:Shared}(I:Inv X pins σ H s){Q:VK}(q: ∀H',Same H H'->Q (Hu gt x ys) H'):
  wpAny (model X.prog X.w) X.A (call (.builtin "max") [.ref p]) (EP X pins σ Q) X.xe s:=by
 refine call_function_tree F.kind_max F.plain_max F.entry_max (F.args_max1 _) ?_
 show wpAny _ X.A.in1 (Builtin.Builtins.bindParams "max" ["key","default"] 0 ⟨[],[]⟩>>=_) _ _ s
 refine Ac1 (wpAny_of_eq (show Builtin.Builtins.bindParams "max" ["key","default"] 0 ⟨[],[]⟩=pure [none,none] from rfl) ?_)
 refine Ac1 (Ac4 ?_)
 exact Vb (G:=λx _ v=>v=x) hc hl (.inl ⟨rfl,λ_ _=>rfl⟩) (λx H1 H2 v _ e=>e) hcmp I (R:=λr s'=>match r with| .ok (.ret v)=>EP X pins σ Q v s'| .ok _=>False| .error e=>X.xe e s') λu s' H'' I2 sm r=>⟨_,H'',I2,r,q H'' sm⟩
theorem h7 (hc:X.calm=true){p f:Addr}{x:V}{ys:List V}(hl:H p=some (.lst (x::ys)))(hK:Xy X H (x::ys) G (.ref f))(hG: ∀x H1 H2 v,Same H1 H2->G x H1 v->G x H2 v)(hcmp:Vg X H (x::ys) G gt){s:Shared}(I:Inv X pins σ H s){Q:VK}(q: ∀H',Same H H'->Q (Hu gt x ys) H'):
  wpAny (model X.prog X.w) X.A (call (.builtin "max") [.ref p] [(Str.ofString "key",.ref f)]) (EP X pins σ Q) X.xe s:=by
 refine Zm F.kind_max F.plain_max F.entry_max (Vc _ _) ?_
 show wpAny _ X.A.in1 (Builtin.Builtins.bindParams "max" ["key","default"] 0 ⟨[],[(Str.ofString "key",.ref f)]⟩>>=_) _ _ s
 refine Ac1 (wpAny_of_eq (show Builtin.Builtins.bindParams "max" ["key","default"] 0 ⟨[],[(Str.ofString "key",.ref f)]⟩=pure [some (.ref f),none] from by kernel_rfl) ?_)
 refine Ac1 (Ac4 ?_)
 exact Vb hc hl hK hG hcmp I (R:=λr s'=>match r with| .ok (.ret v)=>EP X pins σ Q v s'| .ok _=>False| .error e=>X.xe e s') λu s' H'' I2 sm r=>⟨_,H'',I2,r,q H'' sm⟩
theorem l0 (hc:X.calm=true){x y:V}{a b:Value}(ra:RelV x a)(rb:RelV y b)(hcmp: ∀H',Same H H'->Vg X H' [x,y] (λx _ v=>v=x) gt){s:Shared}(I:Inv X pins σ H s){Q:VK}(q: ∀H',Same H H'->Q (if gt y x then y else x) H'):
  wpAny (model X.prog X.w) X.A (call (.builtin "max") [a,b]) (EP X pins σ Q) X.xe s:=by
 have hname:(toString "max"++toString ".loop":String)="max.loop":=by decide
 refine call_function_tree F.kind_max F.plain_max F.entry_max (F.args_max2 _ _) ?_
 show wpAny _ X.A.in1 (Builtin.Builtins.bindParams "max" ["key","default"] 0 ⟨[],[]⟩>>=_) _ _ s
 refine Ac1 (wpAny_of_eq (show Builtin.Builtins.bindParams "max" ["key","default"] 0 ⟨[],[]⟩=pure [none,none] from rfl) ?_)
 show wpAny _ X.A.in1 (newTuple [a,b]>>=_) _ _ s
 refine Ac1 (wpAny_newTuple ?_ (by rw[Aeh];show 2<=_;lia))
 have n0:H s.heap.objs.size=none:=I.hok.fresh (Adb _)
 have I1:Inv X pins σ (upd H s.heap.objs.size (.tup [x,y])) {s with heap:=s.heap.push {cls:=.type "tuple",data:=.seq #[a,b]}}:=
  I.laid (t':=s.toks) (λb u e=>Ac5 _ e) (Adb _) ⟨by rw[Aeh];show 2<=_;lia,[a,b],.cons ra (.cons rb .nil),IsTup.new _ _⟩
 have sm1:Same H (upd H s.heap.objs.size (.tup [x,y])):=Ag n0
 have hl:upd H s.heap.objs.size (.tup [x,y]) s.heap.objs.size=some (.tup [x,y]):=Ad
 obtain⟨its,rvs,pl,hz⟩:=I1.tuple (SqT.of (K:=X.K) hl)
 refine Ac1 (wpAny_pyIter_tuple pl (Ac1 (Ag8 ?_ (Adw _))))
 rw[hname]
 have hs0:(s.heap.push {cls:=.type "tuple",data:=.seq #[a,b]}).objs.size=s.heap.objs.size+1:=Agr ..
 have hs1:((s.heap.push {cls:=.type "tuple",data:=.seq #[a,b]}).push {cls:=.type "tuple_iterator",data:=.fields #[.ref s.heap.objs.size,.int 0 0]}).objs.size=s.heap.objs.size+2:=by rw[Agr,hs0]
 have I2:Inv X pins σ (upd H s.heap.objs.size (.tup [x,y])) {s with heap:=((s.heap.push {cls:=.type "tuple",data:=.seq #[a,b]}).push {cls:=.type "tuple_iterator",data:=.fields #[.ref s.heap.objs.size,.int 0 0]}).push {cls:=.type "list",data:=.seq #[]}}:=
  I1.kept (t':=s.toks) λb u e=>Ac5 _ (Ac5 _ e)
 have m1:upd H s.heap.objs.size (.tup [x,y]) (s.heap.objs.size+1)=none:=I1.hok.fresh (by show(s.heap.push _).objs.size<=_;rw[hs0];exact Adb _)
 have m2:upd H s.heap.objs.size (.tup [x,y]) (s.heap.objs.size+2)=none:=I1.hok.fresh (by show(s.heap.push _).objs.size<=_;rw[hs0];exact Afz _)
 refine Ac4 ⟨Aim Afs _,?_⟩
 have hg0:(((s.heap.push {cls:=.type "tuple",data:=.seq #[a,b]}).push {cls:=.type "tuple_iterator",data:=.fields #[.ref s.heap.objs.size,.int 0 0]}).push {cls:=.type "list",data:=.seq #[]}).get? (s.heap.objs.size+1)=some {cls:=.type "tuple_iterator",data:=.fields #[.ref s.heap.objs.size,.int 0 0]}:=
  Ac5 _ (by rw[←hs0];exact Adv _ rfl)
 have hg1:(((s.heap.push {cls:=.type "tuple",data:=.seq #[a,b]}).push {cls:=.type "tuple_iterator",data:=.fields #[.ref s.heap.objs.size,.int 0 0]}).push {cls:=.type "list",data:=.seq #[]}).get? (s.heap.objs.size+2)=some {cls:=.type "list",data:=.seq #[]}:=by
  rw[←hs1];exact Adv _ rfl
 suffices e:codeAny (model X.prog X.w) X.A (.builtin "max.loop" ⟨[.ref (s.heap.objs.size+1),.none,.ref (s.heap.objs.size+2)],[]⟩) (λr s'=>match r with| .ok (.ret v)=>EP X pins σ Q v s'| .ok _=>False| .error e=>X.xe e s')
   {s with heap:=((s.heap.push {cls:=.type "tuple",data:=.seq #[a,b]}).push {cls:=.type "tuple_iterator",data:=.fields #[.ref s.heap.objs.size,.int 0 0]}).push {cls:=.type "list",data:=.seq #[]}} by
  rw[←hs0,←hs1] at e
  exact e
 refine Qs (G:=λx _ v=>v=x) (it:=s.heap.objs.size+1) (S:=s.heap.objs.size+2) (x:=x) (ys:=[y]) (kh hc hl) (.inl ⟨rfl,λ_ _=>rfl⟩) (λx H1 H2 v _ e=>e) (Ad9 (Ah6 _)) (hcmp _ sm1) I2 (Same.refl _) (I1.fpOk (by show(s.heap.push _).objs.size<=_;rw[hs0];exact Adb _) m1)
  (I1.fpOk (by show(s.heap.push _).objs.size<=_;rw[hs0];exact Afz _) m2) ⟨_,hg0,rfl,rfl⟩ hg1 λu s' H'' I3 sm r=>⟨_,H'',I3,r,q H'' (sm1.trans sm)⟩
end
def NkV (H:Hp):NK->V->Prop
 | .inl k,v=>v=kV k
 | .inr ks,v=>∃q,v=.ref q/\H q=some (.tup (ks.map kV))
inductive NkVs (H:Hp):List NK->List V->Prop
 | nil:NkVs H [] []
 | cons {k:NK} {v:V} {ks:List NK} {vs:List V}:NkV H k v->NkVs H ks vs->NkVs H (k::ks) (v::vs)
def NkAt (H:Hp)(ks:List NK)(p:Addr):Prop:=∃vs,H p=some (.tup vs)/\NkVs H ks vs
theorem NkV.up {H H':Hp}{k:NK}{v:V}(h:NkV H k v)(ht: ∀b xs,H b=some (.tup xs)->H' b=some (.tup xs)):NkV H' k v:=by
 cases k with
 | inl k=>exact h
 | inr ks=>obtain⟨q,e,h⟩:=h;exact⟨q,e,ht _ _ h⟩
theorem NkVs.up {H H':Hp}{ks:List NK}{vs:List V}(h:NkVs H ks vs)(ht: ∀b xs,H b=some (.tup xs)->H' b=some (.tup xs)):NkVs H' ks vs:=by
 induction h with
 | nil=>exact .nil
 | cons h1 _ ih=>exact .cons (h1.up ht) ih
theorem NkAt.upT {H H':Hp}{ks:List NK}{p:Addr}(h:NkAt H ks p)(ht: ∀b xs,H b=some (.tup xs)->H' b=some (.tup xs)):NkAt H' ks p:=let ⟨vs,h1,h2⟩:=h;⟨vs,ht _ _ h1,h2.up ht⟩
theorem NkAt.up {H H':Hp}{ks:List NK}{p:Addr}(h:NkAt H ks p)(s:Same H H'):NkAt H' ks p:=h.upT λb xs e=>s b _ e
theorem NkAt.upd {H:Hp}{ks:List NK}{p a:Addr}{o:HO}(h:NkAt H ks p)(na: ∀xs,H a≠some (.tup xs)):NkAt (upd H a o) ks p:=h.upT λb xs e=>by
 rw[Aq (λz=>na xs (by rw[←z];exact e))]
 exact e
section
variable {X:Cx}{pins:List (Addr×Obj)}{σ:St}{H:Hp}{s:Shared}
theorem i8 {P:Program}{w:World}{h:Heap}(ok:HOk P w H h){ks:List NK}{vs:List V}(r:NkVs H ks vs): ∀{us:List Value},Vals vs us->NItems P w h ks us:=by
 induction r with
 | nil=>intro us v;cases v;exact .nil
 |
  @cons k v ks vs h1 _ ih=>
  intro us v
  cases v with
  |
   cons v1 v2=>
   refine .cons ?_ (ih v2)
   cases k with
   | inl k=>cases (show _=kV k from h1);exact V6 v1
   |
    inr ks=>
    obtain⟨q,rfl,hq⟩:=h1
    cases v1
    exact⟨q,rfl,Kh ok hq⟩
theorem By {P:Program}{w:World}{h:Heap}(ok:HOk P w H h){ks:List NK}{p:Addr}(x:NkAt H ks p):IsNest P w h ks p:=by
 obtain⟨vs,hp,r⟩:=x
 obtain⟨_,its,rv,o,h1,h2,n,h3⟩:=(show ObjOk P w H h p (.tup vs) from ok p _ hp)
 exact⟨o,its.toArray,n,h1,h2,h3,by simpa using i8 ok r rv⟩
end
abbrev keysOf (xs:List (List NK×Addr)):List (List NK):=xs.map (·.1)
def Qu (xs:List (List NK×Addr))(ks:List NK):Bool:=xs.any λx=>decide (x.1=ks)
def K9 (P:Program)(w:World)(a:Addr)(xs:List (List NK×Addr)):HO:=.ext λh=>∃o es ep,h.get? a=some o/\o.ExactDict/\o.data=.dict es ep/\es.toList=(xs.map λx=>entryOfKey (Lw P w) (x.1,x.2,.bool true))/\(xs.map (·.1)).Nodup/\(a==sysModules)=false
structure KeptAt (P:Program)(w:World)(H:Hp)(a:Addr)(xs:List (List NK×Addr)):Prop where
 at_:H a=some (K9 P w a xs)∨(xs=[]/\H a=some (.dK []))
 ok: ∀x∈xs,NkAt H x.1 x.2
 few:xs.length<=1000
theorem KeptAt.notup {P:Program}{w:World}{H:Hp}{a:Addr}{xs:List (List NK×Addr)}(h:KeptAt P w H a xs)(ys:List V):H a≠some (.tup ys):=by
 rcases h.at_ with e|⟨_,e⟩<;>rw[e]<;>exact λz=>nomatch z
theorem KeptAt.up {P:Program}{w:World}{H H':Hp}{a:Addr}{xs:List (List NK×Addr)}(h:KeptAt P w H a xs)(s:Same H H'):KeptAt P w H' a xs:=
 ⟨h.at_.elim (λe=>.inl (s _ _ e)) λ⟨e1,e2⟩=>.inr ⟨e1,s _ _ e2⟩,λx hx=>(h.ok x hx).up s,h.few⟩
section
variable {P:Program}{w:World}{H:Hp}{h:Heap}{a:Addr}{xs:List (List NK×Addr)}
def L7 (xs:List (List NK×Addr)):List (List NK×Addr×Value):=xs.map λx=>(x.1,x.2,.bool true)
theorem Ow (ok:HOk P w H h)(k:KeptAt P w H a xs):(a==sysModules)=false/\h.DictOfH (Lw P w) a (L7 xs):=by
 rcases k.at_ with e|⟨rfl,e⟩
 ·
  obtain⟨⟨o,es,ep,h1,h2,h3,h4,h5,h6⟩,_⟩:=(show ObjOk P w H h a (K9 P w a xs) from ok a _ e)
  refine⟨h6,o,es,ep,h1,h2,h3,by rw[h4];unfold L7;rw[Adc];rfl,λx hx=>?_,by unfold L7;rw[Adc];exact h5⟩
  obtain⟨y,hy,rfl⟩:=Ac2.mp hx
  exact By ok (k.ok y hy)
 ·
  obtain⟨_,hs,vs,rel,o,es,ep,h1,h2,h3,_,h4,_⟩:=xh ok e
  cases rel
  have he:es.toList=[]:=Agu.mp h4.length
  exact⟨hs,o,es,ep,h1,h2,h3,he,(λx hx=>by cases hx),Agm⟩
theorem K4 (ks:List NK): ∀xs:List (List NK×Addr),(atKey (L7 xs) ks).isSome=Qu xs ks
 | []=>rfl
 |
  x::xs=>by
  have ih:=K4 ks xs
  unfold L7 atKey Qu at ih ⊢
  rw[Ad3,Af8,Ahj]
  by_cases e:x.1=ks
  · simp[e]
  ·
   simp only[e,decide_false,Agx]
   exact ih
end
section
variable {X:Cx}
theorem gg (hu:X.A.units+2<cLine):OpR X (compareOp .In) (λx y H Q=>∃(p a:Addr)(ks:List NK)(xs:List (List NK×Addr)),x=.ref p/\y=.ref a/\NkAt H ks p/\KeptAt X.prog X.w H a xs/\Q (.bl (Qu xs ks)) H):=by
 intro pins s σ H x y v u Q I rx ry h
 obtain⟨p,a,ks,xs,rfl,rfl,hp,hk,q⟩:=h
 cases rx
 cases ry
 obtain⟨hs,dd⟩:=Ow I.hok hk
 refine wpAny_in_heap (knd:=Lw X.prog X.w) hu (By I.hok hp) hs dd ?_
 rw[K4]
 exact⟨.bl _,H,I.tok _,rfl,q⟩
theorem jk {A:Around}{E:Value->Shared->Prop}{pins:List (Addr×Obj)}{σ:St}{H:Hp}{s:Shared}{p a:Addr}{ks:List NK}{xs:List (List NK×Addr)}{Q:Unit->Shared->Prop}(hu:A.units+2<cLine)(I:Inv X pins σ H s)(hp:NkAt H ks p)(hk:KeptAt X.prog X.w H a xs)(hn:Qu xs ks=false)(hl:xs.length<1000)
  (h: ∀s',Inv X pins σ (upd H a (K9 X.prog X.w a (xs++[(ks,p)]))) s'->Q () s'):wpAny (model X.prog X.w) A (setItem (.ref a) (.ref p) (.bool true)) Q E s:=by
 obtain⟨hs,dd⟩:=Ow I.hok hk
 have hz:(L7 xs).length<=sizeLine:=by unfold L7;rw[Ac0,Aeh];lia
 refine wpAny_setItem_heap (knd:=Lw X.prog X.w) (hsz:=hz) hu (By I.hok hp) dd λh' dd' hb=>h _ ?_
 obtain⟨q,es,ep,hq,h2,h3,h4,_,h5⟩:=dd'
 have hno:atKey (L7 xs) ks=none:=by
  cases e:atKey (L7 xs) ks with
  | none=>rfl
  |
   some z=>
   have:=K4 ks xs
   rw[e] at this
   rw[hn] at this;cases this
 rw[storedH_new hno] at h4 h5
 have mu:Mut (H a):=by rcases hk.at_ with e|⟨_,e⟩<;>rw[e]<;>exact True.intro
 refine Rh I mu hb ⟨q,hq⟩ ⟨⟨q,es,ep,hq,h2,h3,?_,?_,hs⟩,⟨q,hq⟩,?_⟩
 · rw[h4];unfold L7;rw[Adx,Adx,Adc];rfl
 · rw[show(L7 xs++[(ks,p,Value.bool true)]).map (·.1)=(xs++[(ks,p)]).map (·.1) from by unfold L7;rw[Adx,Adx,Adc];rfl] at h5;exact h5
 ·
  rintro h1 h2 ⟨o,es,ep,e1,e2⟩ kp
  exact⟨o,es,ep,kp _ e1,e2⟩
theorem KeptAt.put {P:Program}{w:World}{H:Hp}{p a:Addr}{ks:List NK}{xs:List (List NK×Addr)}(hk:KeptAt P w H a xs)(hp:NkAt H ks p)(hl:xs.length<1000):KeptAt P w (upd H a (K9 P w a (xs++[(ks,p)]))) a (xs++[(ks,p)]):=
 ⟨.inl Ad,λx hx=>by
  rcases Adq.mp hx with hx|hx
  · exact(hk.ok x hx).upd hk.notup
  · rw[Ac9] at hx;subst hx;exact hp.upd hk.notup,by rw[Ade];show _+1<=_;lia⟩
end
end L2
namespace L2
open PySem PySem.W PyProof.Rows
def RawD (h:Heap)(d:Addr)(es:Array DictEntry)(ep:Nat):Prop:=∃o,h.get? d=some o/\o.ExactDict/\o.data=.dict es ep
section
variable {prog:Program}{w:World}{A:Around}{E:Value->Shared->Prop}{s:Shared}{d it:Addr}{es:Array DictEntry}{ep i:Nat}
theorem RawD.typeIs (h:RawD s.heap d es ep):s.TypeIs (.ref d) "dict":=let ⟨o,ho,hc,_⟩:=h;⟨o,ho,hc.1⟩
theorem RawD.keep {h h':Heap}(x:RawD h d es ep)(k: ∀o,h.get? d=some o->h'.get? d=some o):RawD h' d es ep:=let ⟨o,ho,r⟩:=x;⟨o,k o ho,r⟩
theorem jz {Q:Value->Shared->Prop}(hd:(d==sysModules)=false)(hm:RawD s.heap d es ep)
  (hQ:Q (.ref s.heap.objs.size) {s with heap:=s.heap.push {cls:=.type "dict_keyiterator",data:=.fields #[.ref d,.int 0 0,.int es.size 0,.int ep 0]}}):wpAny (model prog w) A (pyIter (.ref d)) Q E s:=by
 have hT:=hm.typeIs
 obtain⟨o,ho,hc,hdat⟩:=id hm
 refine wpAny_pyIter_slot hT F.slot_dict_iter (Aew F.slot_dict_iter hT F.entry_dict_iter ?_ (F.args_dict_iter_1 _))
 unfold Builtin.«dict.__iter__»
 refine Ac1 ?_
 unfold Builtin.Dict.dictSlotNone
 refine Ac1 (wpAny_notOrdered_dict hT (Ac4 ?_))
 show wpAny _ _ (Builtin.Dict.showsAll d>>=_) _ _ s
 unfold Builtin.Dict.showsAll
 rw[if_neg (by rw[hd];exact Adf)]
 refine Ac1 (Ac4 (Ac1 (Aib ho hdat (Ac1 (wpAny_dictEpoch ho hdat ?_)))))
 refine Ac1 (Ae9 (Ac4 ⟨_,rfl,"dict_keyiterator",_,⟨_,Adv _ rfl,rfl⟩,F.slot_dict_keyiterator_next.lookup,?_⟩))
 simpa[rawInt] using hQ
theorem jg {Q:Option Value->Shared->Prop}(hit:s.heap.IsKeyIter it d i es.size ep)(hm:RawD s.heap d es ep)(hi:i<es.size)
  (hQ: ∀h',h'.IsKeyIter it d (i+1) es.size ep->Heap.SameBut it s.heap h'->Q (some es[i].key) {s with heap:=h'}):wpAny (model prog w) A (pyNext (.ref it)) Q E s:=by
 obtain⟨o,ho,hc,hd⟩:=id hit
 obtain⟨od,hod,hcd,hdd⟩:=id hm
 unfold pyNext
 refine Ac1 (wpAny_attempt (wpAny_callSpecial?_slot (name:=Str.ofString "__next__") hit.typeIs Agg
  (Aew Agg hit.typeIs F.entry_dict_keyiterator_next ?_ (F.args_dict_keyiterator_next_1 _))))
 refine Ac1 (Ac4 (Ac1 (Ac1 ?_)))
 first|refine Ac1 (Af7 hit.typeIs (Ac4 ?_))|refine Ac1 (Ag1 hit.typeIs (Ac4 ?_))
 refine Ac1 (wpAny_fieldsOf ho hd ?_)
 simp only[show Builtin.Dict_items.ownsTuple "dict_keyiterator"=false from by decide,Adz,Ae5]
 show wpAny _ _ (if(Value.ref d==Value.none)=true then _ else _) _ _ s
 rw[if_neg (show ¬((Value.ref d==Value.none)=true) from Adf)]
 refine Ac1 (Ac4 (Ac1 (Aib hod hdd ?_)))
 rw[if_neg (by simp)]
 refine Ac1 (Ac4 (Ac1 (wpAny_dictEpoch hod hdd ?_)))
 rw[if_neg (by simp)]
 refine Ac4 ?_
 simp only[show ¬((i:Int)<0) from by lia,Ae5,Agf,Aem hi]
 refine Ac1 ?_
 first|refine Ac1 (Af7 hit.typeIs (Ac4 ?_))|refine Ac1 (Ag1 hit.typeIs (Ac4 ?_))
 refine Ac1 (wpAny_isOneOf_keyiter hit.typeIs ?_)
 show wpAny _ _ (setField (.ref it) 1 (rawInt ((i:Int)+1))>>=_) _ _ s
 refine Ac1 (wpAny_setField ho hd (by simp) ?_)
 have hit':(s.heap.update it (Obj.mapFields (·.setIfInBounds 1 (rawInt ((i:Int)+1))))).IsKeyIter it d (i+1) es.size ep:=
  ⟨_,Ahl _ ho (Obj.isFreed_of_fields (Obj.data_mapFields hd _)),(Obj.cls_mapFields ..).trans hc,by rw[Obj.data_mapFields hd];simp[rawInt]⟩
 refine Ac1 (Ae6 (Ac1 (wpAny_isOneOf_keyiter (s:={s with heap:=s.heap.update it (Obj.mapFields (·.setIfInBounds 1 (rawInt ((i:Int)+1))))}) hit'.typeIs ?_)))
 exact Ac4 (Ac4 ⟨_,rfl,Ac4 (hQ _ hit' (Ag0 ..))⟩)
theorem rk {Q:Option Value->Shared->Prop}(hh:A.handled=none)(hit:s.heap.IsKeyIter it d i es.size ep)(hm:RawD s.heap d es ep)(hi:es.size<=i)
  (hQ: ∀h',Heap.ExtBut it s.heap h'->Q none {s with heap:=h'}):wpAny (model prog w) A (pyNext (.ref it)) Q E s:=by
 obtain⟨o,ho,hc,hd⟩:=id hit
 obtain⟨od,hod,hcd,hdd⟩:=id hm
 unfold pyNext
 refine Ac1 (wpAny_attempt (wpAny_callSpecial?_slot (name:=Str.ofString "__next__") hit.typeIs Agg
  (Aew Agg hit.typeIs F.entry_dict_keyiterator_next ?_ (F.args_dict_keyiterator_next_1 _))))
 refine Ac1 (Ac4 (Ac1 (Ac1 ?_)))
 first|refine Ac1 (Af7 hit.typeIs (Ac4 ?_))|refine Ac1 (Ag1 hit.typeIs (Ac4 ?_))
 refine Ac1 (wpAny_fieldsOf ho hd ?_)
 simp only[show Builtin.Dict_items.ownsTuple "dict_keyiterator"=false from by decide,Adz,Ae5]
 show wpAny _ _ (if(Value.ref d==Value.none)=true then _ else _) _ _ s
 rw[if_neg (show ¬((Value.ref d==Value.none)=true) from Adf)]
 refine Ac1 (Ac4 (Ac1 (Aib hod hdd ?_)))
 rw[if_neg (by simp)]
 refine Ac1 (Ac4 (Ac1 (wpAny_dictEpoch hod hdd ?_)))
 rw[if_neg (by simp)]
 refine Ac4 ?_
 simp only[show ¬((i:Int)<0) from by lia,Ae5,Agf,Ah9 hi]
 refine Ac1 ?_
 first|refine Ac1 (Af7 hit.typeIs (Ac4 ?_))|refine Ac1 (Ag1 hit.typeIs (Ac4 ?_))
 show wpAny _ _ (setField (.ref it) 0 .none>>=_) _ _ s
 refine Ac1 (wpAny_setField ho hd (by simp) (Ac1 ?_))
 simp only[newExc,newTuple]
 refine Ac1 (Ae9 ?_ (by size_fits))
 refine Ac1 (m:=firstArgMember _ _) (wpAny_of_eq (a:=Value.none) (by first|rfl|(simp only[firstArgMember];rfl)) ?_)
 refine Ae9 ?_ (by size_fits)
 simp only[raiseNew]
 refine Ac1 (wpAny_handled ?_)
 rw[show A.in1.handled=none from hh]
 refine Ac1 (Ac4 (wpAny_throw ?_))
 refine Ac1 (Agy (T:="StopIteration") (b:=true) ⟨_,Adv _ rfl,rfl⟩ isSubtype_stop ?_)
 exact Ac4 (hQ _ (((Ag0 ..).extBut.push _).push _))
theorem d7 (lo:(d==sysModules)=false):KdlSrc prog w "dict" d d es.size (λi v=>∃h:i<es.size,v=es[i].key) (λh=>RawD h d es ep) where
 type:=λ_ hm=>hm.typeIs
 there:=λh hm=>let ⟨_,ho,_⟩:=hm;⟨Adm ho,Adm ho⟩
 keep:=λ_ _ hm hk=>hm.keep λo e=>hk d (.inl rfl) o e
 notList:=by decide
 notTuple:=by decide
 hint:=λ_ _ _ _ hm hq=>kdl_hint_dict hm.typeIs hq
 iter:=λA s hh hm=>by
  have hne:d≠s.heap.objs.size:=by obtain⟨_,ho,_⟩:=id hm;exact Ad9 (Adm ho)
  refine⟨_,λi h=>h.IsKeyIter s.heap.objs.size d i es.size ep/\RawD h d es ep,(λ_ _ hq=>jz lo hm hq),?_,⟨⟨_,Adv _ rfl,rfl,rfl⟩,hm.keep λo e=>Ac5 _ e⟩⟩
  exact {
   sub:=λb hb=>by simp at hb;simp[hb]
   frame:=λ_ _ _ st hk=>⟨st.1.at λo e=>hk _ (by simp) o e,st.2.keep λo e=>hk d (by simp) o e⟩
   item:=λi s' Q E hi st hQ=>jg st.1 st.2 hi λh' hit' hs'=>hQ _ h' s'.toks ⟨hi,rfl⟩ ⟨hit',st.2.keep λo e=>(hs'.2 d hne).trans e⟩ λb o hb e=>(hs'.2 b (λh=>hb (by simp[h]))).trans e
   done:=λs' Q E st hQ=>rk hh st.1 st.2 (Adb _) λh' he'=>hQ h' s'.toks λb o hb e=>he' b o (λh=>hb (by simp[h])) e
   self:=λ_ _ _ _ st hQ=>wpAny_pyIter_keyiter st.1 hQ}
end
end L2
namespace L2
open PySem PySem.W PyProof.Rows PySem.SeqAt DX
def nkO:KeyOrd where
 α:=List NK
 blt:=ltL
 irrefl:=Dn.irr
 trans:=Dn.tr
 negTrans:=λa b c h=>Dn.neg h
 total:=Dn.tot
section
variable {prog:Program}{w:World}{A:Around}{s:Shared}
theorem Py {C:Bool->Shared->Prop}{fin:Bool}(hu:A.units<cLine): ∀{ks ks':List NK}{us us':List Value}(i:Nat),NItems prog w s.heap ks us->NItems prog w s.heap ks' us'->okL ks ks'=true->fin=decide (ks.length<ks'.length)->
  (i=0-> ∃t r t' r',ks=.inl (.inr t)::r/\ks'=.inl (.inr t')::r')->C (ltL ks ks') s->KatLex prog w A true fin C (us.zip us') i s
 |
  [],ks',_,us',i,.nil,h',_,hf,_,hC=>by
  have e:ltL [] ks'=fin:=by rw[hf];exact(Qw (op:=.Lt) (.inl rfl) (lt:=ltN) (xs:=[]) (.inl rfl)).symm
  rw[e] at hC
  exact kat_nil hC
 |
  k::ks,[],us,_,i,h,.nil,_,hf,_,hC=>by
  have e:ltL (k::ks) []=fin:=by rw[hf];exact(Qw (op:=.Lt) (.inl rfl) (lt:=ltN) (ys:=[]) (.inr rfl)).symm
  rw[e] at hC
  rw[List.zip_nil_right]
  exact kat_nil hC
 |
  k::ks,k'::ks',_,_,i,.cons (v:=u) (vs:=us) h1 h2,.cons (v:=u') (vs:=us') h1' h2',ok,hf,h0,hC=>by
  have e:ltL (k::ks) (k'::ks')=if k=k' then ltL ks ks' else ltN k k':=rfl
  rw[e] at hC
  unfold okL at ok
  rw[Afo]
  refine kat_cons (R7 hu h1 h1' ?_)
  by_cases ek:k=k'
  ·
   rw[if_pos ek] at ok hC
   rw[Ac3 ek]
   exact kat_yes (Py hu (i+1) h2 h2' ok (by rw[hf];exact Aej.mpr (by simp only[Ad2];lia)) (λz=>absurd z (Nat.succ_ne_zero _)) hC)
  ·
   rw[if_neg ek] at ok hC
   rw[Ac7 ek]
   refine kat_no ?_
   by_cases hi:i=0
   ·
    subst hi
    obtain⟨t,r,t',r',e1,e2⟩:=h0 rfl
    injection e1 with e1 _
    injection e2 with e2 _
    subst e1 e2
    obtain⟨tk,rfl⟩:=Afb (x:=t) (v:=u) h1
    obtain⟨tk',rfl⟩:=Afb (x:=t') (v:=u') h1'
    exact oneLt_str hC
   ·
    have ei:(true&&i==0)=false:=by rw[Aex];exact Afi.mpr hi
    rw[ei]
    exact kat_one _ _ (Xl (op:=.Lt) (.inl rfl) hu h1 h1' ok prog w _ _ hC)
abbrev Pz (ks:List NK):Prop:=∃t r,ks=.inl (.inr t)::r
theorem Xw {h:Heap}: ∀{ms:List (List NK×Addr)},(∀x∈ms,IsNest prog w h x.1 x.2/\Pz x.1)-> ∃fs,KatTups h (ms.map λx=>Value.ref x.2) fs/\fs.length=ms.length/\ ∀v∈fs,∃(t:Str)(k:Tok),v=.str t k
 | [],_=>⟨[],trivial,rfl,λ_ z=>nomatch z⟩
 |
  x::ms,H=>by
  obtain⟨fs,k,e,hv⟩:=Xw (ms:=ms) λy hy=>H y (Adi _ hy)
  obtain⟨⟨o,its,n,ho,hc,hd,hi⟩,t,r,ex⟩:=H x (Ac8 ..)
  rw[ex] at hi
  generalize hl:its.toList=l at hi
  cases hi with
  |
   cons h1 h2=>
   obtain⟨tk,rfl⟩:=Afb (x:=t) h1
   refine⟨.str t tk::fs,KatTups.cons ho hc hd (by rw[←Aef,hl];rfl) k,by rw[Ad2,Ad2,e],λv hm=>?_⟩
   rcases Ado.mp hm with rfl|hm
   · exact⟨_,_,rfl⟩
   · exact hv v hm
open Classical in
noncomputable def Nx (prog:Program)(w:World)(h:Heap):Value->List NK
 | .ref a=>if x: ∃ks,IsNest prog w h ks a then x.choose else[]
 | _=>[]
open Classical in
theorem Cq {h:Heap}{ks:List NK}{a:Addr}(x:IsNest prog w h ks a):Nx prog w h (.ref a)=ks:=by
 unfold Nx
 have y: ∃ks,IsNest prog w h ks a:=⟨ks,x⟩
 show(if x: ∃ks,IsNest prog w h ks a then x.choose else[])=ks
 rw[Aiw y]
 exact y.choose_spec.inj x
theorem IsNest.kept {h h':Heap}{ks:List NK}{a:Addr}(x:IsNest prog w h ks a)(kp: ∀b o,h.get? b=some o->h'.get? b=some o):IsNest prog w h' ks a:=by
 obtain⟨o,its,n,ho,hc,hd,hi⟩:=x
 refine⟨o,its,n,kp _ _ ho,hc,hd,?_⟩
 generalize its.toList=vs at hi
 induction hi with
 | nil=>exact .nil
 |
  @cons k v ks vs h1 _ ih=>
  refine .cons ?_ ih
  cases k with
  | inl k=>exact h1
  | inr ks=>obtain⟨b,e,o,its,n,ho,r⟩:=h1;exact⟨b,e,o,its,n,kp _ _ ho,r⟩
theorem Km {h₀:Heap}{ms:List (List NK×Addr)}(hu:A.units<cLine)(h1:1<=ms.length)(kp: ∀b o,h₀.get? b=some o->s.heap.get? b=some o)(H: ∀x∈ms,IsNest prog w h₀ x.1 x.2/\Pz x.1)(ok: ∀x∈ms,∀y∈ms,okL x.1 y.1=true):
  SortsV prog w A s (tuples' true) (O:=nkO) (Nx prog w h₀) (ms.map λx=>Value.ref x.2) where
 kind:=λE Q hq=>by
  obtain⟨fs,k,e,hv⟩:=Xw (h:=s.heap) (ms:=ms) λx hx=>⟨(H x hx).1.kept kp,(H x hx).2⟩
  refine kat_kind (T:=.type "str") k (by lia) (λv hm=>?_) rfl hq
  obtain⟨i,t,rfl⟩:=hv v hm
  exact W.Looks.now
 cmp:=λu hu' v hv C hC=>by
  obtain⟨x,hx,rfl⟩:=Ac2.mp hu'
  obtain⟨y,hy,rfl⟩:=Ac2.mp hv
  have ax:=H x hx
  have ay:=H y hy
  have hC':C (ltL (Nx prog w h₀ (.ref x.2)) (Nx prog w h₀ (.ref y.2))) s:=hC
  rw[Cq ax.1,Cq ay.1] at hC'
  obtain⟨o,its,n,ho,hc,hd,hi⟩:=ax.1.kept kp
  obtain⟨o',its',n',ho',hc',hd',hi'⟩:=ay.1.kept kp
  refine kat_lt ho hd ho' hd' (Py hu 0 hi hi' (ok x hx y hy) ?_ (λ_=>?_) hC')
  · rw[hi.length,hi'.length,Ac6,Ac6]
  ·
   obtain⟨t,r,e⟩:=ax.2
   obtain⟨t',r',e'⟩:=ay.2
   exact⟨t,r,t',r',e,e'⟩
end
section
variable {X:Cx}
theorem Oa (hc:X.calm=true)(hu:X.A.units+2<cLine):Gn X (.builtin "sorted") (λxs H Q=>∃(a:Addr)(ms:List (List NK×Addr)),xs=[.ref a]/\KeptAt X.prog X.w H a ms/\ms.length<64/\(∀x∈ms,Pz x.1)/\(∀x∈ms,∀y∈ms,okL x.1 y.1=true)/\
  ∀(D:Addr)(qs:List (List NK×Addr)),H D=none->qs.Perm ms->(keysOf qs).Pairwise (λx y=>ltL y x=false)->Q (.ref D) (upd H D (.lst (qs.map λx=>V.ref x.2)))):=by
 intro pins s σ H xs us Q I r h
 obtain⟨a,ms,rfl,hk,h64,hs,ok,q⟩:=h
 obtain⟨u,rfl,ru⟩:=vals1 r
 cases ru
 obtain⟨lo,o,es,ep,ho,hex,hdat,hes,hall,hnd⟩:=Ow I.hok hk
 have hn: ∀x∈ms,IsNest X.prog X.w s.heap x.1 x.2:=λx hx=>By I.hok (hk.ok x hx)
 have hz:es.size=ms.length:=by
  have:=Aea List.length hes
  rw[Ac6,Ac0] at this
  unfold L7 at this
  rw[Ac0] at this
  exact this
 have raw:RawD s.heap a es ep:=⟨o,ho,hex,hdat⟩
 refine Ih (G:=λvs=>vs=ms.map λx=>Value.ref x.2) (O:=nkO) (key:=Nx X.prog X.w s.heap) (κ:=tuples' true)
  (λE' Q' hq=>Pa (d7 (ep:=ep) lo) (I.ok.hd hc) raw (by rw[hz,Aeh];lia) λh' tk acc kp hge ia=>hq h' tk _ kp hge ?_) ?_ (λvs e h2 s' kp=>?_) λD h' tk vs us e hg a1 a2 kp hge he=>?_
 ·
  refine Agd λj=>?_
  rw[Aef]
  by_cases hj:j<ms.length
  ·
   obtain⟨v,hv⟩: ∃v,acc[j]?=some v:=⟨acc[j]'(by rw[ia.1,hz];exact hj),Aem _⟩
   obtain⟨hlt,ev⟩:=ia.2 j v hv
   rw[hv,ev,Adl,Adh hj]
   have e2:es[j]?=some (entryOfKey (Lw X.prog X.w) ((ms[j]).1,(ms[j]).2,Value.bool true)):=by
    rw[←Aef,hes]
    unfold L7
    rw[Adl,Adl,Adh hj]
    rfl
   rw[Aem hlt] at e2
   rw[Adt e2]
   rfl
  · rw[Afp (by rw[Ac0];lia),Ah9 (by rw[ia.1,hz];lia)]
 ·
  rintro vs rfl
  rw[Ac0]
  exact h64
 ·
  subst e
  exact Km (A:=X.A.in1.in1) hu (by rw[Ac0] at h2;lia) kp (λx hx=>⟨hn x hx,hs x hx⟩) ok
 ·
  subst hg
  obtain⟨qs,p1,rfl⟩:=B6 (f:=λ(x:List NK×Addr)=>Value.ref x.2) a1 ms rfl
  refine⟨.ref D,_,I.laid (t':=tk) (o:=.lst (qs.map λx=>V.ref x.2)) kp hge ?_,rfl,q _ qs (I.hok.fresh hge) p1 ?_⟩
  ·
   refine⟨by rw[Ac0,p1.length_eq,Aeh];lia,_,e,?_,he⟩
   clear a1 a2 p1 he
   induction qs with
   | nil=>exact .nil
   | cons x qs ih=>exact .cons rfl ih
  ·
   rw[Ae1] at a2 ⊢
   refine a2.imp_of_mem λ{x y}hx hy z=>?_
   have z':ltL (Nx X.prog X.w s.heap (.ref y.2)) (Nx X.prog X.w s.heap (.ref x.2))=false:=z
   rw[Cq (hn _ (p1.mem_iff.mp hx)),Cq (hn _ (p1.mem_iff.mp hy))] at z'
   exact z'
end
end L2
namespace L2
open PySem PySem.Spec PySem.Calls PyProof.Rows
section
variable {X:Cx}{m:Str}{apos pos:Pos}{o:Expr}{ta:TE}
def xm (m:Str)(D:Addr->(V->List V->Hp->VK->Prop)->Prop)(ta:TE):TE:=λσ H Q=>ta σ H λx H1=>∃a C dx fs R,x=.ref a/\H1 a=some (.ins C dx fs)/\fs.lookup m=none/\D C R/\R x [] H1 Q
theorem dj {pl:Sem Bool}{D:Addr->(V->List V->Hp->VK->Prop)->Prop}(he:PE X o ta)(hD: ∀C R,D C R->Ans X m 0 C R)
  (ht:eval (.Call (.Attribute o m apos) [] [] pos) X.env=(do
   let ov ←eval o X.env
   standAt apos.atName
   let (f,first) ←holding [ov] (getMethod ov m pl)
   callWith pos f first (backTo pos (starEach [] X.env)) (backToKw pos (keywordEach [] X.env))):=by rfl):
  PE X (.Call (.Attribute o m apos) [] [] pos) (xm m D ta):=by
 intro pins s σ H Q I h
 refine W.methodCall_KW (pl:=pl) (thn (he pins s σ H _ I h) λu s1 ⟨x,H1,I1,rx,a,C,dx,fs,R,ex,ea,l,d,q⟩=>?_) ht
 subst ex
 obtain rfl:u=Value.ref a:=rx
 obtain⟨c,f,fd,ps,ds,dvs,CX,cm,k,sp,E,hm,F,hr,hb,hd,hx,hR⟩:=hD C R d
 refine Q3 I1 ea c hm l ?_
 refine W.callWith_K0 (first:=[.ref a]) (Inv.kIn (I1.tok _)) hm.kp ?_
 exact fm (us:=[.ref a]) (vs:=[.ref a]) F hr hb hd hx (I1.tok _) (.cons rfl .nil) (hR _ _ _ _ rfl q)
end
def asV (o:Option (Option V))(k:V->Prop):Prop:=match o with|some (some v)=>k v|_=>False
def asI (x:V)(k:Int->Prop):Prop:=match x with| .int i=>k i|_=>False
def asB (x:V)(k:Bool->Prop):Prop:=match x with| .bl i=>k i|_=>False
def asR (x:V)(k:Addr->Prop):Prop:=match x with| .ref i=>k i|_=>False
def asN (x:V)(k:Prop):Prop:=match x with| .non=>k|_=>False
def as2 (xs:List V)(k:V->V->Prop):Prop:=match xs with|[x,y]=>k x y|_=>False
def zh (j:Int)(k:Prop):Prop:=match j with| .ofNat (n+1)=>cond (Nat.ble (n+1) 1073741823) k False|_=>False
def Abi (j:Int)(k:Prop):Prop:=match j with| .ofNat (_+1)=>k|_=>False
def tupQ (n:Nat)(k:Prop):Prop:=cond (Nat.ble n 1000) k False
def Aba (vs:List V)(n:Nat)(k:Prop):Prop:=cond (Nat.beq vs.length n) k False
theorem vn {o:Option (Option V)}{k:V->Prop}(h:asV o k): ∃v,o=some (some v)/\k v:=match o,h with|some (some v),h=>⟨v,rfl,h⟩|some none,h=>h.elim|none,h=>h.elim
theorem Kg {x:V}{k:Int->Prop}(h:asI x k): ∃i,x=.int i/\k i:=by cases x<;>first|exact⟨_,rfl,h⟩|exact h.elim
theorem Ux {x:V}{k:Bool->Prop}(h:asB x k): ∃i,x=.bl i/\k i:=by cases x<;>first|exact⟨_,rfl,h⟩|exact h.elim
theorem Tw {x:V}{k:Addr->Prop}(h:asR x k): ∃i,x=.ref i/\k i:=by cases x<;>first|exact⟨_,rfl,h⟩|exact h.elim
theorem mw {x:V}{k:Prop}(h:asN x k):x=.non/\k:=by cases x<;>first|exact⟨rfl,h⟩|exact h.elim
theorem xf {xs:List V}{k:V->V->Prop}(h:as2 xs k): ∃x y,xs=[x,y]/\k x y:=match xs,h with|[x,y],h=>⟨x,y,rfl,h⟩|[],h=>h.elim|[_],h=>h.elim|_::_::_::_,h=>h.elim
theorem cond_of {b:Bool}{k:Prop}(h:cond b k False):b=true/\k:=by cases b with|true=>exact⟨rfl,h⟩|false=>exact h.elim
theorem oz {j:Int}{k:Prop}(h:zh j k):(0<j/\j<1073741824)/\k:=by
 match j,h with
 |
  .ofNat (n+1),h=>
  obtain⟨e,q⟩:=cond_of h
  have:=Nat.le_of_ble_eq_true e
  refine⟨⟨?_,?_⟩,q⟩<;>simp only[Int.ofNat_eq_natCast]<;>lia
theorem p9 {j:Int}{k:Prop}(h:Abi j k):0<j/\k:=by
 match j,h with
 | .ofNat (n+1),h=>exact⟨by simp only[Int.ofNat_eq_natCast];lia,h⟩
theorem dw {n:Nat}{k:Prop}(h:tupQ n k):n<=sizeLine/\k:=by
 obtain⟨e,q⟩:=cond_of h
 exact⟨Ady (Nat.le_of_ble_eq_true e) (by decide),q⟩
theorem qq {vs:List V}{n:Nat}{k:Prop}(h:Aba vs n k):vs.length=n/\k:=by
 obtain⟨e,q⟩:=cond_of h
 exact⟨Nat.eq_of_beq_eq_true e,q⟩
structure Br (b:Bool)(A B:Prop):Prop where
 t:b=true->A
 f: ¬b=true->B
theorem Br.of {b:Bool}{A B:Prop}(h:Br b A B):if b=true then A else B:=by cases b with|true=>exact h.t rfl|false=>exact h.f (by decide)
theorem Lj {A B:Prop}(h:A):Br true A B:=⟨λ_=>h,λe=>absurd rfl e⟩
theorem Gk {A B:Prop}(h:B):Br false A B:=⟨λe=>(nomatch e),λ_=>h⟩
noncomputable def slot (σ:St)(i:Nat):Option (Option V):=List.rec (motive:=λ_=>Nat->Option (Option V)) (λ_=>none) (λa _ ih i=>Nat.rec (some a) (λj _=>ih j) i) σ i
theorem ah: ∀(σ:St)(i:Nat),slot σ i=σ[i]?
 | [],_=>rfl
 | _::_,0=>rfl
 | _::σ,i+1=>by rw[List.getElem?_cons_succ];exact ah σ i
noncomputable def Abf (i:Nat):TE:=λσ H Q=>asV (slot σ i) λv=>Q v H
def zi:R2:=λx y H Q=>asI x λi=>asI y λj=>Q (.int (i+j)) H
def Aal:R2:=λx y H Q=>asI x λi=>asI y λj=>Q (.int (i-j)) H
def Acb:R2:=λx y H Q=>asI x λi=>asI y λj=>Q (.bl (decide (i<j))) H
def Ab6:R2:=λx y H Q=>asI x λi=>asI y λj=>Q (.bl (decide (j<i))) H
def Acv:R2:=λx y H Q=>asI x λi=>asI y λj=>Q (.bl (decide (j<=i))) H
def Aa7:R2:=λx y H Q=>asI x λi=>asI y λj=>Abi j (Q (.int (i%j)) H)
def Aa2:R2:=λx y H Q=>asI x λi=>asI y λj=>zh j (Q (.int (i/j)) H)
def Aav:V->Hp->VK->Prop:=λx H Q=>asI x λi=>Q (.int (-i)) H
def Acp:R2:=λx y H Q=>cond (zd x y) (Q (.bl (decide (x=y))) H) False
def Ab8:R2:=λx y H Q=>cond (zd x y) (Q (.bl (!decide (x=y))) H) False
def Acm:R2:=λx y H Q=>asN y (Q (.bl (decide (x=.non))) H)
def Acf:R2:=λx y H Q=>asN y (Q (.bl (!decide (x=.non))) H)
def vj (t:TE):TT:=λσ H Q=>t σ H λx H'=>asB x λk=>Q k H'
def Aae (ta tb:TE):TE:=λσ H Q=>ta σ H λx H1=>asB x λc=>Br c (tb σ H1 Q) (Q (.bl false) H1)
def Ack (ta tb:TE):TE:=λσ H Q=>ta σ H λx H1=>asB x λc=>Br c (Q (.bl true) H1) (tb σ H1 Q)
def qIf (t:TT)(ta tb:TE):TE:=λσ H Q=>t σ H λc H1=>Br c (ta σ H1 Q) (tb σ H1 Q)
def Aci (c:TT)(t u:TS):TS:=λD σ H=>c σ H λb H1=>Br b (t D σ H1) (u D σ H1)
def Ab4 (t u:TT):TT:=λσ H Q=>t σ H λc H1=>Br c (u σ H1 Q) (Q false H1)
def qOr (t u:TT):TT:=λσ H Q=>t σ H λc H1=>Br c (Q true H1) (u σ H1 Q)
def Aa1 (ta:TE):TE:=λσ H Q=>ta σ H λx H1=>asB x λc=>Q (.bl (!c)) H1
def Acn (t:TA):TE:=λσ H Q=>t σ H λxs H1=>tupQ xs.length (∀p,H1 p=none->Q (.ref p) (upd H1 p (.tup xs)))
def Ab1 (t:TA):TE:=λσ H Q=>t σ H λxs H1=>tupQ xs.length (∀p,H1 p=none->Q (.ref p) (upd H1 p (.lst xs)))
def Aa3:List V->Hp->VK->Prop:=λxs H Q=>as2 xs λx y=>asI x λi=>asI y λj=>Q (.int (if j<i then j else i)) H
inductive IxT (K:W.Frag)(H:Hp)(p:Addr)(i:Int)(k:V->Prop):Prop where
 | mk {xs:List V} {v:V} (h:SqT K H p xs) (e:atI xs i=some v) (q:k v):IxT K H p i k
inductive IxL (K:W.Frag)(H:Hp)(p:Addr)(i:Int)(k:V->Prop):Prop where
 | mk {xs:List V} {v:V} (h:SqL K H p xs) (e:atI xs i=some v) (q:k v):IxL K H p i k
def rQT (K:W.Frag):R2:=λx y H Q=>asR x λp=>asI y λi=>IxT K H p i λv=>Q v H
def rQL (K:W.Frag):R2:=λx y H Q=>asR x λp=>asI y λi=>IxL K H p i λv=>Q v H
inductive FdQ (K:W.Frag)(H:Hp)(a:Addr)(f:Str)(k:V->Prop):Prop where
 | mk {C dx:Addr} {fs:List (Str×V)} {v:V} (h:H a=some (.ins C dx fs)) (c:Cls K C) (n:NoAttr K C f) (e:fs.lookup f=some v) (q:k v):FdQ K H a f k
def Acz (K:W.Frag)(ta:TE)(f:Str):TE:=λσ H Q=>ta σ H λx H1=>asR x λa=>FdQ K H1 a f λv=>Q v H1
inductive MtQ (H:Hp)(a:Addr)(m:Str)(D:Addr->(V->List V->Hp->VK->Prop)->Prop)(k:(V->List V->Hp->VK->Prop)->Prop):Prop where
 | mk {C dx:Addr} {fs:List (Str×V)} {R:V->List V->Hp->VK->Prop} (h:H a=some (.ins C dx fs)) (e:fs.lookup m=none) (d:D C R) (q:k R):MtQ H a m D k
def ye (m:Str)(n:Nat)(D:Addr->(V->List V->Hp->VK->Prop)->Prop)(ta:TE)(t:TA):TE:=λσ H Q=>ta σ H λx H1=>asR x λa=>MtQ H1 a m D λR=>t σ H1 λvs H2=>Aba vs n (R x vs H2 Q)
def vo (m:Str)(D:Addr->(V->List V->Hp->VK->Prop)->Prop)(ta:TE):TE:=λσ H Q=>ta σ H λx H1=>asR x λa=>MtQ H1 a m D λR=>R x [] H1 Q
section
variable {X:Cx}{a b c e:Expr}{ta tb tc te:TE}{pos:Pos}
theorem OpR.mono {f:Value->Value->Sem Value}{r r':R2}(h:OpR X f r)(m: ∀x y H Q,r' x y H Q->r x y H Q):OpR X f r':=λp s σ H x y v u Q I rx ry q=>h p s σ H x y v u Q I rx ry (m x y H Q q)
theorem PE.mono {t t':TE}(h:PE X e t)(m: ∀σ H Q,t' σ H Q->t σ H Q):PE X e t':=λp s σ H Q I q=>h p s σ H Q I (m σ H Q q)
theorem PT.mono {t t':TT}(h:PT X e t)(m: ∀σ H Q,t' σ H Q->t σ H Q):PT X e t':=λp s σ H Q I q=>h p s σ H Q I (m σ H Q q)
theorem wo {f:Value->Value->Sem Value}{g:Int->Int->V}(h:OpR X f (rI0 g)):OpR X f (λx y H Q=>asI x λi=>asI y λj=>Q (g i j) H):=h.mono λx y H Q q=>by
 obtain⟨i,rfl,q1⟩:=Kg q
 obtain⟨j,rfl,q2⟩:=Kg q1
 exact⟨i,j,rfl,rfl,q2⟩
theorem Abv {f:Value->Value->Sem Value}{C:Int->Int->Prop}{g:Int->Int->V}(h:OpR X f (rI C g))(hc: ∀i j:Int,0<j->j<1073741824->C i j):OpR X f (λx y H Q=>asI x λi=>asI y λj=>zh j (Q (g i j) H)):=h.mono λx y H Q q=>by
 obtain⟨i,rfl,q1⟩:=Kg q
 obtain⟨j,rfl,q2⟩:=Kg q1
 obtain⟨⟨l,u⟩,q⟩:=oz q2
 exact⟨i,j,rfl,rfl,hc i j l u,q⟩
theorem Ck:OpR X (binaryOp .Add) zi:=wo ib
theorem oj:OpR X (binaryOp .Sub) Aal:=wo iz
theorem Zf:OpR X (compareOp .Lt) Acb:=wo Aah
theorem Yv:OpR X (compareOp .Gt) Ab6:=wo wx
theorem Aam:OpR X (compareOp .GtE) Acv:=wo Aaf
theorem Gi:OpR X (binaryOp .Mod) Aa7:=V1.mono λx y H Q q=>by
 obtain⟨i,rfl,q1⟩:=Kg q
 obtain⟨j,rfl,q2⟩:=Kg q1
 exact⟨i,j,rfl,rfl,p9 q2⟩
theorem Ki:OpR X (binaryOp .FloorDiv) Aa2:=Abv cc λ_ _ h g=>⟨h,g⟩
theorem Ec:OpR X (compareOp .Eq) Acp:=Qj.mono λ_ _ _ _ q=>cond_of q
theorem gf:OpR X (compareOp .NotEq) Ab8:=jf.mono λ_ _ _ _ q=>cond_of q
theorem xy:OpR X (compareOp .Is) Acm:=Yj.mono λ_ _ _ _ q=>mw q
theorem rq:OpR X (compareOp .IsNot) Acf:=ox.mono λ_ _ _ _ q=>mw q
theorem vp:UnR X (unaryOp .USub) Aav:=λp s σ H x v Q I rx q=>nc p s σ H x v Q I rx (Kg q)
theorem qv (i:Nat){x:Str}{pos:Pos}(hN:X.N[i]?=some x:=by rfl)(hv:Vis X.env.scope x:=by first|exact Or.inl rfl|exact Or.inr (Or.inl rfl)|exact Or.inr (Or.inr rfl))(hd:(x==("__debug__":Str))=false:=by decide)
 (hcd:(x==("__classdict__":Str))=false:=by decide):PE X (.Name x pos) (Abf i):=(m5 hN hv hd hcd).mono λσ _ _ q=>by rw[Abf,ah] at q;exact vn q
def clo (t:TE):TE:=λσ H Q=>∃R,t σ H R/\ ∀x H1,R x H1->Q x H1
def Ace (t:TA):TA:=λσ H Q=>∃R,t σ H R/\ ∀x H1,R x H1->Q x H1
theorem PE.clo {t:TE}(h:PE X e t):PE X e (clo t):=λp s σ H _ I ⟨R,q,m⟩=>thn (h p s σ H R I q) λ_ _ ⟨v,H1,I1,r,q⟩=>⟨v,H1,I1,r,m v H1 q⟩
theorem PA.clo {es:List Expr}{t:TA}(h:PA X es t):PA X es (Ace t):=λo p s σ H _ I ⟨R,q,m⟩=>thn (h o p s σ H R I q) λ_ _ ⟨v,H1,I1,r,q⟩=>⟨v,H1,I1,r,m v H1 q⟩
theorem OpR.clo {f:Value->Value->Sem Value}{r:R2}(h:OpR X f r):OpR X f (λx y H Q=>∃R,r x y H R/\ ∀x H1,R x H1->Q x H1):=λp s σ H x y v u _ I rx ry ⟨R,q,m⟩=>thn (h p s σ H x y v u R I rx ry q) λ_ _ ⟨v,H1,I1,r,q⟩=>⟨v,H1,I1,r,m v H1 q⟩
def Ab5 (t:TT):TT:=λσ H Q=>∃R,t σ H R/\ ∀x H1,R x H1->Q x H1
theorem PT.clo {t:TT}(h:PT X e t):PT X e (Ab5 t):=λp s σ H _ I ⟨R,q,m⟩=>thn (h p s σ H R I q) λ_ _ ⟨H1,I1,q⟩=>⟨H1,I1,m _ H1 q⟩
theorem Au {op:CmpOp}{r:R2}(ho:OpR X (compareOp op) r)(ha:PE X a ta)(hb:PE X b tb)(hm:behindInMarks op b=false):PT X (.Compare a [op] [b] pos) (vj (tOp r ta tb)):=
 (Cz ho.clo ha.clo hb.clo hm).mono λ_ _ _ q=>⟨_,q,λ_ _ q=>⟨_,q,λ_ _ q=>⟨_,q,λ_ _ q=>Ux q⟩⟩⟩
theorem Cu {t:TE}(h:PE X e t)(he: ∀whole,isTrue e X.env whole=(do let v ←whole;standAt e.pos;holding [v] (truthy v)):=by intro _;rfl):PT X e (vj t):=
 (X9 h.clo he).mono λ_ _ _ q=>⟨_,q,λ_ _ q=>Ux q⟩
variable {rest es:List Expr}{t:TA}{K:W.Frag}{f m:Str}{o value:Expr}{tv:TE}{pos' apos:Pos}
theorem Gp (ha:PE X a ta)(hb:PE X (.BoolOp .And (b::rest) pos) tb):PE X (.BoolOp .And (a::b::rest) pos) (Aae ta tb):=(Xr ha.clo hb).mono λ_ _ _ q=>⟨_,q,λ_ _ q=>(Ux q).elim λc q=>⟨c,q.1,q.2.of⟩⟩
theorem k3 (ha:PE X a ta)(hb:PE X (.BoolOp .Or (b::rest) pos) tb):PE X (.BoolOp .Or (a::b::rest) pos) (Ack ta tb):=(zr ha.clo hb).mono λ_ _ _ q=>⟨_,q,λ_ _ q=>(Ux q).elim λc q=>⟨c,q.1,q.2.of⟩⟩
theorem M3 {tA tB':TT}(ha:PT X a tA)(hb:PW X (.BoolOp .And (b::rest) pos) tB'):PW X (.BoolOp .And (a::b::rest) pos) (Ab4 tA tB'):=λwh p s σ H Q I q=>Tp ha.clo hb wh p s σ H Q I ⟨_,q,λ_ _ q=>q.of⟩
theorem Ph {tA tB':TT}(ha:PT X a tA)(hb:PW X (.BoolOp .Or (b::rest) pos) tB'):PW X (.BoolOp .Or (a::b::rest) pos) (qOr tA tB'):=λwh p s σ H Q I q=>su ha.clo hb wh p s σ H Q I ⟨_,q,λ_ _ q=>q.of⟩
theorem md {tA:TT}(hc:PT X c tA)(ha:PE X a ta)(hb:PE X b tb):PE X (.IfExp c a b pos) (qIf tA ta tb):=(jx hc.clo ha hb).mono λ_ _ _ q=>⟨_,q,λ_ _ q=>q.of⟩
theorem B3 {sa sb:List Stmt}{tc:TT}{t u:TS}(hc:PT X c tc)(ha:PSs X sa t)(hb:PSs X sb u):PS X (.If c sa sb pos) (Aci tc t u):=λp s σ H D I q=>P0 hc.clo ha hb p s σ H D I ⟨_,q,λ_ _ q=>q.of⟩
theorem vx (ha:PE X a ta):PE X (.UnaryOp .Not a pos) (Aa1 ta):=(nu ha.clo).mono λ_ _ _ q=>⟨_,q,λ_ _ q=>Ux q⟩
theorem Bu {x1}(h:PA X es t):PE X (.Tuple es x1 pos) (Acn t):=(U6 h.clo).mono λ_ _ _ q=>⟨_,q,λ_ _ q=>dw q⟩
theorem Jv (h:PA X es t):PE X (.List es pos) (Ab1 t):=(Yc h.clo).mono λ_ _ _ q=>⟨_,q,λ_ _ q=>dw q⟩
theorem qt (hc:X.calm=true):Gn X (.builtin "min") Aa3:=λp s σ H xs us Q I r q=>dm hc p s σ H xs us Q I r (by
 obtain⟨x,y,rfl,q0⟩:=xf q
 obtain⟨i,rfl,q1⟩:=Kg q0
 obtain⟨j,rfl,q2⟩:=Kg q1
 exact⟨i,j,rfl,q2⟩)
theorem IxR.mono {r r':R2}(h:IxR X r)(m: ∀x y H Q,r' x y H Q->r x y H Q):IxR X r':=λa b p s σ H x y v u Q I rx ry q=>h a b p s σ H x y v u Q I rx ry (m x y H Q q)
theorem Am (hK:X.K=K):IxR X (rQT K):=(Ek hK).mono λx y H Q q=>by
 obtain⟨p,rfl,q0⟩:=Tw q
 obtain⟨i,rfl,h,e,q⟩:=Kg q0
 exact⟨p,_,i,_,rfl,rfl,h,e,q⟩
theorem Bq (hK:X.K=K):IxR X (rQL K):=(Yh hK).mono λx y H Q q=>by
 obtain⟨p,rfl,q0⟩:=Tw q
 obtain⟨i,rfl,h,e,q⟩:=Kg q0
 exact⟨p,_,i,_,rfl,rfl,h,e,q⟩
theorem Mi (hK:X.K=K)(he:PE X e ta)(hb:attributeBase e f X.env (eval e X.env)=eval e X.env:=by rfl):PE X (.Attribute e f pos) (Acz K ta f):=(r8 hK he.clo hb).mono λ_ _ _ q=>⟨_,q,λ_ _ q=>by
 obtain⟨p,rfl,h,c,n,e,q⟩:=Tw q
 exact⟨p,_,_,_,_,rfl,h,c,n,e,q⟩⟩
theorem Ly {pl:Sem Bool}{n:Nat}{D:Addr->(V->List V->Hp->VK->Prop)->Prop}(he:PE X o ta)(hD: ∀C R,D C R->Ans X m n C R)(ha:PA X (e::es) t)
  (hst:starEach (e::es) X.env=(false,eval e X.env)::starEach es X.env:=by rfl) (hpl:(backTo pos (starEach es X.env)).any (·.1)=false:=by rfl)
  (ht:eval (.Call (.Attribute o m apos) (e::es) [] pos) X.env=(do
   let ov ←eval o X.env
   standAt apos.atName
   let (f,first) ←holding [ov] (getMethod ov m pl)
   callWith pos f first (backTo pos (starEach (e::es) X.env)) (backToKw pos (keywordEach [] X.env))):=by rfl):
  PE X (.Call (.Attribute o m apos) (e::es) [] pos) (ye m n D ta t):=(kj he.clo hD ha.clo hst hpl ht).mono λ_ _ _ q=>⟨_,q,λ_ _ q=>by
 obtain⟨p,rfl,h,e,d,q⟩:=Tw q
 exact⟨p,_,_,_,_,rfl,h,e,d,_,q,λ_ _ q=>qq q⟩⟩
theorem C4 {pl:Sem Bool}{D:Addr->(V->List V->Hp->VK->Prop)->Prop}(he:PE X o ta)(hD: ∀C R,D C R->Ans X m 0 C R)
  (ht:eval (.Call (.Attribute o m apos) [] [] pos) X.env=(do
   let ov ←eval o X.env
   standAt apos.atName
   let (f,first) ←holding [ov] (getMethod ov m pl)
   callWith pos f first (backTo pos (starEach [] X.env)) (backToKw pos (keywordEach [] X.env))):=by rfl):
  PE X (.Call (.Attribute o m apos) [] [] pos) (vo m D ta):=(dj he.clo hD ht).mono λ_ _ _ q=>⟨_,q,λ_ _ q=>by
 obtain⟨p,rfl,h,e,d,q⟩:=Tw q
 exact⟨p,_,_,_,_,rfl,h,e,d,q⟩⟩
end
section
variable {X:Cx}{K:W.Frag}{a b e value:Expr}{es:List Expr}{ta tb tv te:TE}{t:TA}{pos p pos':Pos}{x f':Str}
end
section
variable {X:Cx}{e:Expr}{es:List Expr}{t:TA}{pos p:Pos}{x m:Str}{n j k:Nat}{cm:Bool}{C f:Addr}{fd:FuncData}{ps:List Str}{sp:Sp}
end
end L2
namespace L2
open PySem PySem.Spec PyProof.Rows PySem.SeqAt
def GtV (X:Cx)(H:Hp)(v v':V)(b:Bool):Prop:=∀(pins:List (Addr×Obj))(s:Shared)(σ:St)(u u':Value),Inv X pins σ H s->RelV v u->RelV v' u'->CmpAt .Gt X.A.in1 s u u' b
section
variable {X:Cx}{cm:Bool}{k:Nat}{f:Addr}{fd:FuncData}{pn x fx:Str}{sp:Sp}{e:Expr}{te:TE}{p p2 kpos pos:Pos}
def qe (X:Cx)(sp:Sp)(te:TE):TE:=λσ H Q=>te σ H λv H1=>∃(l:Addr)(y:V)(ys:List V)(G:V->Hp->V->Prop)(gt:V->V->Bool),v=.ref l/\H1 l=some (.lst (y::ys))/\
 (∀z∈y::ys,∀H',Same H1 H'->sp [z] H' (λw H2=>Same H' H2/\G z H2 w) E0)/\(∀z H1 H2 w,Same H1 H2->G z H1 w->G z H2 w)/\
 (∀z∈y::ys,∀z'∈y::ys,∀H' w w',Same H1 H'->G z H' w->G z' H' w'->GtV X H' w w' (gt z z'))/\ ∀H',Same H1 H'->Q (Hu gt y ys) H'
def Abq (X:Cx)(sp:Sp)(Q:VK)(v:V)(H1:Hp):Prop:=∃(l:Addr)(y:V)(ys:List V)(G:V->Hp->V->Prop)(gt:V->V->Bool),v=.ref l/\H1 l=some (.lst (y::ys))/\
 (∀z∈y::ys,∀H',Same H1 H'->sp [z] H' (λw H2=>Same H' H2/\G z H2 w) E0)/\(∀z H1 H2 w,Same H1 H2->G z H1 w->G z H2 w)/\
 (∀z∈y::ys,∀z'∈y::ys,∀H' w w',Same H1 H'->G z H' w->G z' H' w'->GtV X H' w w' (gt z z'))/\ ∀H',Same H1 H'->Q (Hu gt y ys) H'
def Aa8 (P:V->Hp->Prop):List V->Hp->Prop
 | [v],H=>P v H
 | _,_=>False
theorem de (hc:X.calm=true)(F:FnOk X.prog X.w X.K X.mg X.base CX0 cm k f fd [pn] sp)(hr:Room cm (k+1) X.A)(hb:Binds X.K fd [pn] [])(hg:Gl X "max")(hm:X.mg "max"=none)(hgf:Gl X fx)(hmf:X.mg fx=some (.ref f))(he:PE X e te)
  (hdb:(fx==("__debug__":Str))=false:=by decide)
  (hst:starEach [e] X.env=(false,eval e X.env)::starEach [] X.env:=by rfl)
  (hall:(backToKw pos (keywordEach [⟨some "key",.Name fx p2,kpos⟩] X.env)).all (·.1.isSome)=true:=by rfl) (hks:(backToKw pos (keywordEach [⟨some "key",.Name fx p2,kpos⟩] X.env)).filterMap (·.1)=[Str.ofString "key"]:=by rfl)
  (hpl:((backTo pos (starEach [e] X.env)).any (·.1)||(backToKw pos (keywordEach [⟨some "key",.Name fx p2,kpos⟩] X.env)).any (·.1.isNone))=false:=by rfl):PE X (.Call (.Name "max" p) [e] [⟨some "key",.Name fx p2,kpos⟩] pos) (qe X sp te):=by
 intro pins s σ H Q I h
 refine Ag9 (Qo I hg hm boot_max ?_)
 have ha:PA X [e] (kq te w8):=Aa he Ac hst
 have hf:PE X (.Name fx p2) (λσ H Q=>Q (.ref f) H):=λpins s σ H Q I h=>Tf I hgf hmf ⟨.ref f,H,I,rfl,h⟩ hdb
 have hkw:PK X [⟨some "key",.Name fx p2,kpos⟩] (kq (λσ H Q=>Q (.ref f) H) w8):=qm hf yt
 refine W.callWith_of (P:=λ_=>True) hpl (λh _=>⟨.machine,.inr (.inl rfl),W.Looks.now⟩) (evalArgs_kw2 hall (thn (ha pos pins s σ H (Aa8 (Abq X sp Q)) I h) λus s1 ⟨vs,H1,I1,r,q⟩=>?_) hst)
 match vs,q with
 |
  [v],q=>
  refine thn (hkw pos pins s1 σ H1 (λzs H2=>zs=[V.ref f]/\Abq X sp Q v H2) I1 ⟨rfl,q⟩) λws s2 ⟨zs,H2,I2,rz,ez,q2⟩=>⟨True.intro,?_⟩
  subst ez
  obtain⟨u,rfl,ru⟩:=vals1 r
  obtain⟨w,rfl,rw⟩:=vals1 rz
  cases rw
  rw[hks]
  obtain⟨l,y,ys,G,gt,rfl,hl,g1,g2,g3,g4⟩:=q2
  cases ru
  refine h7 hc hl (.inr ⟨f,rfl,λpins s σ H' x u Q' E I' sm hx rx hq=>?_⟩) g2 (λpins s σ H' x y v v' u u' I' sm hx hy gx gy rv rv'=>g3 x hx y hy H' v v' sm gx gy pins s σ u u' I' rv rv') I2 g4
  have r2:Vals [x] [u]:=.cons rx .nil
  refine wpAny_call (Ais (F.run X.A.in1 X.stack s H' ⟨[u],[]⟩ [u] [x] (λw H2=>Same H' H2/\G x H2 w) E0 hr.in1 I'.env0.in1 (by have:=hb s [u] I'.kIn rfl;simpa using this) r2 (g1 x hx H' sm)) λr s' hq'=>?_)
  cases r with
  | error e=>exact False.elim hq'
  |
   ok fl=>
   cases fl with
   | ret u=>obtain⟨v,H3,I3,rv,s3,g3⟩:=I'.after hq';exact⟨v,H3,I3,rv,hq v H3 s3 g3⟩
   | next=>exact False.elim hq'
   | brk=>exact False.elim hq'
   | cont=>exact False.elim hq'
end
theorem Pl: ∀{ts:List Str}{us:List Value},Vals (ts.map V.str) us->StrsAre us ts
 | [],_,.nil=>.nil
 |
  _::_,_,.cons r1 r2=>by
  obtain⟨t,rfl⟩:=r1
  exact .cons _ t (Pl r2)
theorem Ud: ∀{ts:List Str}{us:List Value},StrsAre us ts->Vals (ts.map V.str) us
 | _,_,.nil=>.nil
 | _,_,.cons y t h=>.cons ⟨t,rfl⟩ (Ud h)
section
variable {X:Cx}
theorem Vy:Gn X (.builtin "sorted") (λxs H Q=>∃(p:Addr)(ts:List Str),xs=[.ref p]/\H p=some (.lst (ts.map V.str))/\ts.length<64/\
  ∀(D:Addr)(ms:List Str),H D=none->ms.Perm ts->sortedS ms=true->Q (.ref D) (upd H D (.lst (ms.map V.str)))):=by
 intro pins s σ H xs us Q I r h
 obtain⟨p,ts,rfl,hp,h64,q⟩:=h
 obtain⟨u,rfl,ru⟩:=vals1 r
 cases ru
 obtain⟨its,rv,pl,hz⟩:=I.list (SqL.of (K:=X.K) hp)
 have hi:=Pl rv
 have hl:=rv.length
 rw[Ac0] at hl
 refine sorted_strs (vs:=its) pl.isList hi (by lia) λout ms a1 a2 a3=>?_
 obtain⟨c,hc⟩:=sortedAll_at s.heap its out
 have hn:H (s.heap.objs.size+1)=none:=I.hok.fresh (Afz _)
 refine⟨.ref (s.heap.objs.size+1),_,I.laid (t':=s.toks) (o:=.lst (ms.map V.str)) (λb o=>sortedAll_old) (Afz _) ?_,rfl,q _ ms hn a2 a3⟩
 exact⟨by rw[Ac0,a2.length_eq,Aeh];lia,out.toList,c,Ud a1,by rw[Array.toArray_toList];exact hc⟩
theorem Kz (hu:X.A.units+1<cLine):OpR X (compareOp .Eq) (λx y H Q=>∃t,y=.str t/\((rEq x y H Q)∨ ∃a xs,x=.ref a/\H a=some (.tup xs)/\Q (.bl false) H)):=by
 intro pins s σ H x y v u Q I rx ry h
 obtain⟨t,rfl,h|⟨a,xs,rfl,ha,q⟩⟩:=h
 · exact Qj pins s σ H _ _ v u Q I rx ry h
 ·
  cases rx
  obtain⟨tk,rfl⟩:=ry
  obtain⟨its,r1,p1,_⟩:=I.tuple (SqT.of (K:=X.K) ha)
  exact RcAt.tuple_str t tk p1 (by lia) X.prog X.w X.xe _ ⟨.bl false,H,I,rfl,q⟩
end
end L2
namespace HT
open PySem PySem.Spec PyProof.Rows
section
variable {prog:Program}{w:World}{A:Around}{E:Value->Shared->Prop}{s:Shared}
theorem Lg {t sl:Addr}{items:Array Value}{vl vu:Value}{lo hi:Option Int}{Q:Value->Shared->Prop}(ht:IsTup s.heap t items)(hs:s.heap.IsSliceOf sl vl vu .none)(pl:IsPart vl lo)(pu:IsPart vu hi)
  (hw:sIx items.size 0 lo=0/\sIx items.size items.size hi=items.size) (h:Q (.ref t) s):wpAny (model prog w) A (getItem (.ref t) (.ref sl)) Q E s:=by
 obtain⟨os,hos,hcs,hds⟩:=id hs
 have hTs:s.TypeIs (.ref sl) "slice":=⟨os,hos,hcs⟩
 unfold getItem
 try with_reducible refine Ae6 ?_
 first|refine Ac1 (Ac4 ?_)|skip
 refine Ac1 (wpAny_sequenceKey ht.typeIs (by decide) ?_)
 refine Ac1 (wpAny_callSpecial?_slot (name:=Str.ofString "__getitem__") ht.typeIs Afv
  (Aew Afv ht.typeIs entry_tuple_getitem ?_ (args_tuple_getitem _ _)))
 show wpAny _ _ (Builtin.Tuple.tupleItemsOf (.ref t)>>=_) _ _ s
 refine Ac1 (tupleItemsOf_ ht ?_)
 refine Ac1 (wpAny_typeOf hTs ?_)
 rw[if_pos (by decide)]
 refine Ac1 (Js hs pl pu ?_)
 have hyes:(((sIx items.size 0 lo:Nat):Int)==0&&(1:Int)==1&&(sIx items.size items.size hi-sIx items.size 0 lo)==items.size)=true:=by
  rw[hw.1,hw.2,Nat.sub_zero]
  simp
 show wpAny _ _ (if(((sIx items.size 0 lo:Nat):Int)==0&&(1:Int)==1&&(sIx items.size items.size hi-sIx items.size 0 lo)==items.size)=true then _ else _) _ _ s
 rw[if_pos hyes]
 unfold Builtin.Tuple.tupleIsExact
 refine Ac1 (Ac1 (wpAny_typeOf ht.typeIs (Ac4 ?_)))
 rw[if_pos (by decide)]
 first
  | exact Ac1 (Ac4 (Ac4 ⟨_,rfl,Ac4 h⟩))
  | exact Ac1 (Af2 (Ac4 ⟨_,rfl,Ac4 h⟩))
  | exact Ac4 ⟨_,rfl,Ac4 h⟩
end
end HT
namespace L2
open PySem PySem.Spec PyProof.Rows PySem.SeqAt
theorem lr {xs:List V}{lo hi:Option Int}(hw:HT.sIx xs.length 0 lo=0/\HT.sIx xs.length xs.length hi=xs.length):N8 xs lo hi=xs:=by
 unfold N8
 rw[hw.1,hw.2,List.drop_zero,Nat.sub_zero,Afd]
section
variable {X:Cx}
theorem Pe:SlR X (λx lo hi H Q=>∃(a:Addr)(xs:List V),x=.ref a/\H a=some (.tup xs)/\ ∀p H',Same H H'->H' p=some (.tup (N8 xs lo hi))->Q (.ref p) H'):=by
 intro pins s σ H x v vl vu lo hi sl Q I rx hs pl pu h
 obtain⟨a,xs,rfl,ha,q⟩:=h
 by_cases hw:HT.sIx xs.length 0 lo=0/\HT.sIx xs.length xs.length hi=xs.length
 ·
  cases rx
  obtain⟨its,r,ht,hz⟩:=I.tuple (SqT.of (K:=X.K) ha)
  have hlen:its.toArray.size=xs.length:=by rw[Adn];exact r.length.symm
  refine⟨"tuple",_,PyProof.Rows.slot_tuple_getitem.lookup,ht.typeIs,?_⟩
  refine HT.Lg ht hs pl pu (by rw[hlen];exact hw) ⟨.ref a,H,I,rfl,q a H (Same.refl _) ?_⟩
  rw[lr hw]
  exact ha
 · exact wz pins s σ H _ v vl vu lo hi sl Q I rx hs pl pu ⟨a,xs,rfl,SqT.of ha,hw,λp hp=>q p _ (Ag hp) Ad⟩
end
end L2
namespace HT
open PySem PySem.Spec PyProof.Rows
section
variable {prog:Program}{w:World}{A:Around}{E:Value->Shared->Prop}{s:Shared}
end
end HT
namespace L2
open PySem PySem.Spec PyProof.Rows PySem.SeqAt
section
variable {X:Cx}
end
end L2
namespace L2
open PySem PySem.Spec PyProof.Rows
end L2
namespace DW
open PySem PySem.Spec L2
inductive W where
 | n
 | b (x:Bool)
 | i (z:Int)
 | s (t:Str)
 | ts (l:List Str)
 | ti (z:Int)
section
variable (nm:Str->Bool)
def kz:W->Bool
 | .i _=>true
 | _=>false
def Jm:W->Int->Bool
 | .i z,k=>decide (k<=z)
 | _,_=>false
def Qh:W->Bool
 | .s t=>nm t
 | _=>false
def eqS:W->Str->Bool
 | .s t,u=>decide (t=u)
 | _,_=>false
def Hf:List Str->Bool
 | x::y::r=>decide (x.cps.toList<y.cps.toList)&&Hf (y::r)
 | _=>true
def Cb:W->Str->Nat->Bool
 | .ts l,a,k=>decide (k<=l.length)&&decide (l.length<=20)&&l.all nm&&Hf l&&!decide (a∈l)
 | _,_,_=>false
def vm:W->W->Bool
 | .i x,.i y=>decide (x<y)
 | _,_=>false
def yv:W->Str
 | .s t=>t
 | _=>""
def at_ (ws:List W)(j:Nat):W:=ws.getD j .n
def jo (ws:List W):Bool:=decide (ws.length=7)&&(Jm (at_ ws 3) 1&&(kz (at_ ws 4)&&(kz (at_ ws 5)&&(vm (at_ ws 4) (at_ ws 5)&&Cb nm (at_ ws 6) (yv (at_ ws 1)) 1))))
def uz (ws:List W):Bool:=decide (ws.length=4)&&Jm (at_ ws 3) 2
def Nb (ws:List W):Bool:=decide (ws.length=5)&&(Jm (at_ ws 3) 1&&Cb nm (at_ ws 4) (yv (at_ ws 1)) 0)
def i3 (ws:List W):Bool:=decide (ws.length=7)&&(Jm (at_ ws 3) 1&&(Qh nm (at_ ws 4)&&(!eqS (at_ ws 4) (yv (at_ ws 1))&&(Jm (at_ ws 5) 0&&(eqS (at_ ws 6) "yes"||eqS (at_ ws 6) "no")))))
def Mu (ws:List W):Bool:=if eqS (at_ ws 0) "bid" then jo nm ws else if eqS (at_ ws 0) "off" then uz ws else if eqS (at_ ws 0) "close" then Nb nm ws else(eqS (at_ ws 0) "answer"&&i3 nm ws)
def isL (ws:List W):Bool:=decide (4<=ws.length)&&(Qh nm (at_ ws 1)&&(Jm (at_ ws 2) 0&&Mu nm ws))
end
section
variable {nm:Str->Bool}{ws:List W}
theorem sy (h: ¬4<=ws.length):isL nm ws=false:=by unfold isL;rw[Ac7 h,Adp]
theorem jh (h:Qh nm (at_ ws 1)=false):isL nm ws=false:=by unfold isL;rw[h,Adp,Aeu]
theorem rh (h:Jm (at_ ws 2) 0=false):isL nm ws=false:=by unfold isL;rw[h,Adp,Aeu,Aeu]
theorem xx (h1:4<=ws.length)(h2:Qh nm (at_ ws 1)=true)(h3:Jm (at_ ws 2) 0=true):isL nm ws=Mu nm ws:=by unfold isL;rw[Ac3 h1,h2,h3];rfl
theorem ji (h:eqS (at_ ws 0) "bid"=true):Mu nm ws=jo nm ws:=by unfold Mu;rw[if_pos h]
theorem Rc {w:W}{t u:Str}(h:eqS w t=true)(n:t≠u):eqS w u=false:=by
 cases w<;>simp only[eqS,Adz,Ad1] at h ⊢
 subst h
 exact Ac7 n
theorem jc (h:eqS (at_ ws 0) "off"=true):Mu nm ws=uz ws:=by unfold Mu;rw[if_neg (by rw[Rc h (by decide)];decide),if_pos h]
theorem Y4 (h:eqS (at_ ws 0) "close"=true):Mu nm ws=Nb nm ws:=by unfold Mu;rw[if_neg (by rw[Rc h (by decide)];decide),if_neg (by rw[Rc h (by decide)];decide),if_pos h]
theorem l9 (h:eqS (at_ ws 0) "answer"=true):Mu nm ws=i3 nm ws:=by unfold Mu;rw[if_neg (by rw[Rc h (by decide)];decide),if_neg (by rw[Rc h (by decide)];decide),if_neg (by rw[Rc h (by decide)];decide),h,Aex]
theorem bb (h1:eqS (at_ ws 0) "bid"=false∨ws.length≠7)(h2:eqS (at_ ws 0) "off"=false)(h3:eqS (at_ ws 0) "close"=false∨ws.length≠5)(h4:eqS (at_ ws 0) "answer"=false∨ws.length≠7):Mu nm ws=false:=by
 unfold Mu
 rw[h2]
 by_cases z1:eqS (at_ ws 0) "bid"=true
 ·
  rw[if_pos z1]
  unfold jo
  rw[Ac7 (h1.resolve_left (by rw[z1];decide)),Adp]
 ·
  rw[if_neg z1,if_neg (by decide)]
  by_cases z3:eqS (at_ ws 0) "close"=true
  ·
   rw[if_pos z3]
   unfold Nb
   rw[Ac7 (h3.resolve_left (by rw[z3];decide)),Adp]
  ·
   rw[if_neg z3]
   rcases h4 with h4|h4
   · rw[h4,Adp]
   ·
    unfold i3
    rw[Ac7 h4,Adp,Aeu]
theorem wt {w:W}(h:kz w=true): ∃z,w=.i z:=by cases w<;>simp only[kz,Adz] at h;exact⟨_,rfl⟩
theorem mi {w:W}(h:Qh nm w=true): ∃t,w=.s t/\nm t=true:=by cases w<;>simp only[Qh,Adz] at h;exact⟨_,rfl,h⟩
end
theorem og: ∀{a b:List Nat},ltCps b a=false->a≠b->ltCps a b=true
 | [],[],_,h=>absurd rfl h
 | [],_::_,_,_=>rfl
 | _::_,[],h,_=>by cases h
 |
  x::a,y::b,h,hn=>by
  simp only[ltCps,Bool.or_eq_false_iff,Afy,Bool.and_eq_false_iff,beq_eq_false_iff_ne] at h
  simp only[ltCps,Aik,Ad1,Adu,beq_iff_eq]
  by_cases e:x=y
  ·
   subst e
   refine .inr ⟨rfl,og (h.2.resolve_left (λz=>z rfl)) (λz=>hn (by rw[z]))⟩
  · exact .inl (by have:=h.1;lia)
theorem wm {a b:Str}(h:a≠b):a.cps.toList≠b.cps.toList:=λz=>h (by
 obtain⟨⟨a⟩⟩:=a
 obtain⟨⟨b⟩⟩:=b
 simp at z
 rw[z])
theorem ip: ∀{l:List Str},PyProof.Rows.sortedS l=true->l.Nodup->Hf l=true
 | [],_,_=>rfl
 | [_],_,_=>rfl
 |
  x::y::r,h,hn=>by
  simp only[PyProof.Rows.sortedS,PyProof.Rows.risingS,Adu,Bool.not_eq_true'] at h
  have hn2:=(Agt.mp hn)
  have hxy:x≠y:=λe=>hn2.1 (by rw[e];exact Ac8 ..)
  have ih:=ip (l:=y::r) (by simp only[PyProof.Rows.sortedS];exact h.2) hn2.2
  have h1:=og h.1 (wm hxy)
  rw[PyProof.Rows.ltCps_eq] at h1
  show(decide (x.cps.toList<y.cps.toList)&&Hf (y::r))=true
  rw[h1,ih]
  rfl
theorem Xz: ∀(l:List Str),((List.range (l.length-1)).all λj=>decide ((l.getD j "").cps.toList<(l.getD (j+1) "").cps.toList))=Hf l
 | []=>rfl
 | [x]=>rfl
 |
  x::y::r=>by
  have ih:=Xz (y::r)
  show((List.range (r.length+1)).all λj=>decide (((x::y::r).getD j "").cps.toList<((x::y::r).getD (j+1) "").cps.toList))=_
  rw[List.range_succ_eq_map,List.all_cons,Aii]
  show(decide (x.cps.toList<y.cps.toList)&&_)=(decide (x.cps.toList<y.cps.toList)&&Hf (y::r))
  rw[←ih]
  rfl
def WV (H:Hp):W->V->Prop
 | .n,v=>v=.non
 | .b x,v=>v=.bl x
 | .i z,v=>v=.int z
 | .s t,v=>v=.str t/\t.length<=10000
 | .ts l,v=>∃r,v=.ref r/\H r=some (.tup (l.map V.str))/\l.length<=1000/\ ∀t∈l,t.length<=10000
 | .ti z,v=>∃r,v=.ref r/\H r=some (.tup [.int z])
theorem WV.up {H H':Hp}{w:W}{v:V}(h:WV H w v)(s:Same H H'):WV H' w v:=by
 cases w with
 | n=>exact h
 | b x=>exact h
 | i z=>exact h
 | s t=>exact h
 | ts l=>obtain⟨r,e,h1,h2⟩:=h;exact⟨r,e,s _ _ h1,h2⟩
 | ti z=>obtain⟨r,e,h1⟩:=h;exact⟨r,e,s _ _ h1⟩
abbrev PW_:=V×W
def ws (ps:List PW_):List W:=ps.map (·.2)
def vs (ps:List PW_):List V:=ps.map (·.1)
theorem Uw (ps:List PW_):(ws ps).length=ps.length:=Ac0 ..
theorem U9 (ps:List PW_):(vs ps).length=ps.length:=Ac0 ..
structure LetAt (H:Hp)(p:Addr)(ps:List PW_):Prop where
 at_:H p=some (.tup (vs ps))
 ok: ∀q∈ps,WV H q.2 q.1
 few:ps.length<=1000
theorem LetAt.up {H H':Hp}{p:Addr}{ps:List PW_}(h:LetAt H p ps)(s:Same H H'):LetAt H' p ps:=⟨s _ _ h.at_,λq hq=>(h.ok q hq).up s,h.few⟩
theorem v7 {ps:List PW_}{j:Nat}(hj:j<ps.length): ∃q∈ps,ps[j]?=some q/\L2.atI (vs ps) (j:Int)=some q.1/\DW.at_ (ws ps) j=q.2:=by
 refine⟨ps[j],Afh hj,Adh hj,?_,?_⟩
 ·
  refine A8 ?_
  unfold vs
  rw[Adl,Adh hj]
  rfl
 ·
  unfold DW.at_ ws
  rw[Agh,Adl,Adh hj]
  rfl
theorem LetAt.get {H:Hp}{p:Addr}{ps:List PW_}(h:LetAt H p ps){j:Nat}(hj:j<ps.length): ∃v,L2.atI (vs ps) (j:Int)=some v/\WV H (DW.at_ (ws ps) j) v:=by
 obtain⟨q,hq,_,e1,e2⟩:=v7 hj
 exact⟨q.1,e1,by rw[e2];exact h.ok q hq⟩
theorem Dk (l:List Str):(l.map V.str).all So=true:=by rw[Aii];exact List.all_eq_true.mpr λ_ _=>rfl
theorem Gv (a:Str)(l:List Str):inV (.str a) (l.map V.str)=decide (a∈l):=by
 unfold inV
 rw[List.any_map,Afw,Ahf,Ad1]
 constructor
 ·
  rintro⟨x,hx,e⟩
  have e':eqV (.str x) (.str a)=true:=e
  simp only[eqV,beq_iff_eq] at e'
  rw[←e']
  exact hx
 ·
  intro h
  exact⟨a,h,by show eqV (.str a) (.str a)=true;simp[eqV]⟩
theorem Iw {nm:Str->Bool}{l:List Str}{a:Str}{m:Nat}:Cb nm (.ts l) a m=(decide (m<=l.length)&&decide (l.length<=20)&&l.all nm&&Hf l&&!decide (a∈l)):=rfl
theorem fe {nm:Str->Bool}{l:List Str}{a:Str}{m:Nat}(h:l.length<m):false=Cb nm (.ts l) a m:=by rw[Iw,Ac7 (by lia),Adp,Adp,Adp,Adp]
theorem Zd {nm:Str->Bool}{l:List Str}{a:Str}{m:Nat}(h:20<l.length):false=Cb nm (.ts l) a m:=by rw[Iw,Ac7 (p:=l.length<=20) (by lia),Aeu,Adp,Adp,Adp]
theorem j6 {nm:Str->Bool}{l:List Str}{a:Str}{m:Nat}(h:l.all nm=false):false=Cb nm (.ts l) a m:=by rw[Iw,h,Aeu,Adp,Adp]
theorem Y7 {nm:Str->Bool}{l:List Str}{a:Str}{m:Nat}(h:Hf l=false):false=Cb nm (.ts l) a m:=by rw[Iw,h,Aeu,Adp]
theorem je {nm:Str->Bool}{l:List Str}{a:Str}{m:Nat}(h1:m<=l.length)(h2:l.length<=20)(h3:l.all nm=true)(h4:Hf l=true):Cb nm (.ts l) a m=(!decide (a∈l)):=by rw[Iw,Ac3 h1,Ac3 h2,h3,h4,Bool.and_self,Bool.and_self,Bool.and_self,Aex]
def neF (a:Str):V->Bool
 | .str t=>!decide (t=a)
 | _=>false
theorem Yk (ns:List Str)(a:Str):(((ns.map V.str).filter (neF a)).map λv=>v)=(ns.filter λt=>!decide (t=a)).map V.str:=by
 rw[List.map_id',Af9]
 rfl
theorem Xe {ns:List Str}(h2:2<=ns.length)(hn:ns.Nodup)(a:Str):0<(ns.filter λt=>!decide (t=a)).length:=by
 match ns,h2,hn with
 |
  x::y::r,_,hn=>
  have hxy:x≠y:=λe=>(Agt.mp hn).1 (by rw[e];exact Ac8 ..)
  apply List.length_pos_of_mem (a:=if x=a then y else x)
  rw[Aeb]
  by_cases e:x=a
  ·
   rw[if_pos e]
   exact⟨by simp,by simp;exact λz=>hxy (e.trans z.symm)⟩
  ·
   rw[if_neg e]
   exact⟨by simp,by simp[e]⟩
def TS (H:Hp)(r:Addr):Prop:=∃l:List Str,H r=some (.tup (l.map V.str))/\l.length<=100/\ ∀t∈l,t.length<=10000
end DW
namespace L2
open PySem PySem.Spec PyProof.Rows PySem.SeqAt DX DW
inductive Lt where
 | bid (a:Str) (n t b e:Int) (hs:List Str)
 | off (a:Str) (n t:Int)
 | close (a:Str) (n t:Int) (hs:List Str)
 | ans (a:Str) (n t:Int) (h:Str) (g:Int) (w:Str)
abbrev nS (x:Str):NK:=.inl (.inr x)
abbrev nI (i:Int):NK:=.inl (.inl i)
abbrev nT (l:List Str):NK:=.inr (l.map Sum.inr)
def Lt.nk:Lt->List NK
 | .bid a n t b e hs=>[nS "bid",nS a,nI n,nI t,nI b,nI e,nT hs]
 | .off a n t=>[nS "off",nS a,nI n,nI t]
 | .close a n t hs=>[nS "close",nS a,nI n,nI t,nT hs]
 | .ans a n t h g w=>[nS "answer",nS a,nI n,nI t,nS h,nI g,nS w]
def Lt.ws:Lt->List W
 | .bid a n t b e hs=>[.s "bid",.s a,.i n,.i t,.i b,.i e,.ts hs]
 | .off a n t=>[.s "off",.s a,.i n,.i t]
 | .close a n t hs=>[.s "close",.s a,.i n,.i t,.ts hs]
 | .ans a n t h g w=>[.s "answer",.s a,.i n,.i t,.s h,.i g,.s w]
def Lt.asker:Lt->Str
 | .bid a .. =>a
 | .off a .. =>a
 | .close a .. =>a
 | .ans a .. =>a
def Lt.number:Lt->Int
 | .bid _ n .. =>n
 | .off _ n _=>n
 | .close _ n .. =>n
 | .ans _ n .. =>n
def Lt.turn:Lt->Int
 | .bid _ _ t .. =>t
 | .off _ _ t=>t
 | .close _ _ t _=>t
 | .ans _ _ t .. =>t
def Lt.kind:Lt->Str
 | .bid .. =>"bid"
 | .off .. =>"off"
 | .close .. =>"close"
 | .ans .. =>"answer"
def LtVs (H:Hp):Lt->List V->Prop
 | .bid a n t b e hs,vs=>∃q,vs=[.str "bid",.str a,.int n,.int t,.int b,.int e,.ref q]/\H q=some (.tup (hs.map V.str))
 | .off a n t,vs=>vs=[.str "off",.str a,.int n,.int t]
 | .close a n t hs,vs=>∃q,vs=[.str "close",.str a,.int n,.int t,.ref q]/\H q=some (.tup (hs.map V.str))
 | .ans a n t h g w,vs=>vs=[.str "answer",.str a,.int n,.int t,.str h,.int g,.str w]
def LtAt (H:Hp)(l:Lt)(p:Addr):Prop:=∃vs,H p=some (.tup vs)/\LtVs H l vs
theorem LtAt.up {H H':Hp}{l:Lt}{p:Addr}(h:LtAt H l p)(s:Same H H'):LtAt H' l p:=by
 obtain⟨vs,hp,r⟩:=h
 refine⟨vs,s _ _ hp,?_⟩
 cases l with
 | bid=>obtain⟨q,e,h⟩:=r;exact⟨q,e,s _ _ h⟩
 | off=>exact r
 | close=>obtain⟨q,e,h⟩:=r;exact⟨q,e,s _ _ h⟩
 | ans=>exact r
theorem oe (hs:List Str):(hs.map (Sum.inr:Str->Key)).map kV=hs.map V.str:=by rw[Adc];rfl
theorem LtAt.nk {H:Hp}{l:Lt}{p:Addr}(h:LtAt H l p):NkAt H l.nk p:=by
 obtain⟨vs,hp,r⟩:=h
 cases l with
 | bid a n t b e hs=>obtain⟨q,rfl,h⟩:=r;exact⟨_,hp,.cons rfl (.cons rfl (.cons rfl (.cons rfl (.cons rfl (.cons rfl (.cons ⟨q,rfl,by rw[oe];exact h⟩ .nil))))))⟩
 | off a n t=>cases r;exact⟨_,hp,.cons rfl (.cons rfl (.cons rfl (.cons rfl .nil)))⟩
 | close a n t hs=>obtain⟨q,rfl,h⟩:=r;exact⟨_,hp,.cons rfl (.cons rfl (.cons rfl (.cons rfl (.cons ⟨q,rfl,by rw[oe];exact h⟩ .nil))))⟩
 | ans a n t h g w=>cases r;exact⟨_,hp,.cons rfl (.cons rfl (.cons rfl (.cons rfl (.cons rfl (.cons rfl (.cons rfl .nil))))))⟩
theorem Z7 {a b:List Str}(h:nT a=nT b):a=b:=by
 have h':a.map (Sum.inr:Str->Key)=b.map Sum.inr:=Afj h
 exact Af6 (λx y e=>Afj e) |>.mp h'
theorem Lt.nk_inj {l l':Lt}(h:l.nk=l'.nk):l=l':=by
 cases l<;>cases l'<;>simp only[Lt.nk,Agw,Sum.inl.injEq,Sum.inr.injEq,and_true,reduceCtorEq,and_false,List.nil_eq,false_and] at h
 ·
  obtain⟨_,rfl,rfl,rfl,rfl,rfl,e⟩:=h
  rw[Z7 (Aea Sum.inr e)]
 · obtain⟨_,rfl,rfl,rfl⟩:=h;rfl
 ·
  obtain⟨_,rfl,rfl,rfl,e⟩:=h
  rw[Z7 (Aea Sum.inr e)]
 · obtain⟨_,rfl,rfl,rfl,rfl,rfl,rfl⟩:=h;rfl
theorem R6: ∀(a b:List Str),okT (a.map Sum.inr) (b.map Sum.inr)=true
 | [],_=>rfl
 | _::_,[]=>rfl
 |
  x::a,y::b=>by
  show(if(Sum.inr x:Key)=Sum.inr y then okT (a.map Sum.inr) (b.map Sum.inr) else okK (.inr x) (.inr y))=true
  split
  · exact R6 a b
  · rfl
theorem A7 {x y:NK}{xs ys:List NK}(h1:okN x y=true)(h2:okL xs ys=true):okL (x::xs) (y::ys)=true:=by
 show(if x=y then okL xs ys else okN x y)=true
 split
 · exact h2
 · exact h1
theorem yk {x y:NK}{xs ys:List NK}(h1:okN x y=true)(h2:x≠y):okL (x::xs) (y::ys)=true:=by
 show(if x=y then okL xs ys else okN x y)=true
 rw[if_neg h2]
 exact h1
theorem Lt.ok (l l':Lt):okL l.nk l'.nk=true:=by
 cases l<;>cases l'<;>first
  | exact yk rfl (by decide)
  | exact A7 rfl (A7 rfl (A7 rfl (A7 rfl rfl)))
  | exact A7 rfl (A7 rfl (A7 rfl (A7 rfl (A7 (R6 _ _) rfl))))
  | exact A7 rfl (A7 rfl (A7 rfl (A7 rfl (A7 rfl (A7 rfl (A7 rfl rfl))))))
  | exact A7 rfl (A7 rfl (A7 rfl (A7 rfl (A7 rfl (A7 rfl (A7 (R6 _ _) rfl))))))
theorem Lt.fst (l:Lt):Pz l.nk:=by cases l<;>exact⟨_,_,rfl⟩
def Z5:Lt->Prop
 | .bid a _ _ _ _ hs=>a.length<=10000/\hs.length<=1000/\ ∀t∈hs,t.length<=10000
 | .off a _ _=>a.length<=10000
 | .close a _ _ hs=>a.length<=10000/\hs.length<=1000/\ ∀t∈hs,t.length<=10000
 | .ans a _ _ h _ w=>a.length<=10000/\h.length<=10000/\w.length<=10000
theorem LtAt.letAt {H:Hp}{l:Lt}{p:Addr}(h:LtAt H l p)(z:Z5 l): ∃ps,LetAt H p ps/\DW.ws ps=l.ws:=by
 obtain⟨vs,hp,r⟩:=h
 have all: ∀{ps:List PW_}(h:DW.vs ps=vs),(∀q∈ps,WV H q.2 q.1)->ps.length<=1000->LetAt H p ps:=λe h1 h2=>⟨by rw[e];exact hp,h1,h2⟩
 cases l with
 |
  bid a n t b e hs=>
  obtain⟨q,rfl,h⟩:=r
  refine⟨[(.str "bid",.s "bid"),(.str a,.s a),(.int n,.i n),(.int t,.i t),(.int b,.i b),(.int e,.i e),(.ref q,.ts hs)],all rfl ?_ (by show 7<=1000;decide),rfl⟩
  simp only[Ado,Agn,or_false,Ah4,forall_eq]
  exact⟨⟨rfl,by decide+kernel⟩,⟨rfl,z.1⟩,rfl,rfl,rfl,rfl,q,rfl,h,z.2⟩
 |
  off a n t=>
  cases r
  refine⟨[(.str "off",.s "off"),(.str a,.s a),(.int n,.i n),(.int t,.i t)],all rfl ?_ (by show 4<=1000;decide),rfl⟩
  simp only[Ado,Agn,or_false,Ah4,forall_eq]
  exact⟨⟨rfl,by decide+kernel⟩,⟨rfl,z⟩,rfl,rfl⟩
 |
  close a n t hs=>
  obtain⟨q,rfl,h⟩:=r
  refine⟨[(.str "close",.s "close"),(.str a,.s a),(.int n,.i n),(.int t,.i t),(.ref q,.ts hs)],all rfl ?_ (by show 5<=1000;decide),rfl⟩
  simp only[Ado,Agn,or_false,Ah4,forall_eq]
  exact⟨⟨rfl,by decide+kernel⟩,⟨rfl,z.1⟩,rfl,rfl,q,rfl,h,z.2⟩
 |
  ans a n t h g w=>
  cases r
  refine⟨[(.str "answer",.s "answer"),(.str a,.s a),(.int n,.i n),(.int t,.i t),(.str h,.s h),(.int g,.i g),(.str w,.s w)],all rfl ?_ (by show 7<=1000;decide),rfl⟩
  simp only[Ado,Agn,or_false,Ah4,forall_eq]
  exact⟨⟨rfl,by decide+kernel⟩,⟨rfl,z.1⟩,rfl,rfl,⟨rfl,z.2.1⟩,rfl,⟨rfl,z.2.2⟩⟩
theorem LtVs.four {H:Hp}{l:Lt}{vs:List V}(h:LtVs H l vs): ∃r,vs=.str l.kind:: .str l.asker:: .int l.number:: .int l.turn::r:=by
 cases l with
 | bid=>obtain⟨q,rfl,_⟩:=h;exact⟨_,rfl⟩
 | off=>cases h;exact⟨_,rfl⟩
 | close=>obtain⟨q,rfl,_⟩:=h;exact⟨_,rfl⟩
 | ans=>cases h;exact⟨_,rfl⟩
structure LtsAt (H:Hp)(l:Addr)(ms:List (Lt×Addr)):Prop where
 at_:H l=some (.lst (ms.map λx=>V.ref x.2))
 ok: ∀x∈ms,LtAt H x.1 x.2
 few:ms.length<=1000
def nks (ms:List (Lt×Addr)):List (List NK×Addr):=ms.map λx=>(x.1.nk,x.2)
theorem Sx (ms:List (Lt×Addr)):((nks ms).map λx=>V.ref x.2)=ms.map λx=>V.ref x.2:=by unfold nks;rw[Adc];rfl
theorem ff {H:Hp}{ms:List (Lt×Addr)}(h: ∀x∈ms,LtAt H x.1 x.2): ∀x∈nks ms,NkAt H x.1 x.2:=λx hx=>by
 obtain⟨y,hy,rfl⟩:=Ac2.mp hx
 exact(h y hy).nk
theorem Hr: ∀{ms:List (List NK×Addr)}{us:List Value},Vals (ms.map λx=>V.ref x.2) us->us=ms.map λx=>Value.ref x.2
 | [],_,.nil=>rfl
 | _::_,_,.cons r1 r2=>by rw[show _=Value.ref _ from r1,Hr r2];rfl
section
variable {X:Cx}
theorem me {A:Around}{pins:List (Addr×Obj)}{σ:St}{H:Hp}{s:Shared}{p l:Addr}{ks:List NK}{ms:List (List NK×Addr)}(hu:A.units+2<cLine)(I:Inv X pins σ H s)(hp:NkAt H ks p)(hl:H l=some (.lst (ms.map λx=>V.ref x.2)))(ok: ∀x∈ms,NkAt H x.1 x.2):
  ∃(items:Array Value)(e:Value->Bool),s.heap.IsList l items/\(∀y,y∈items->EqAt A.in1 s y (.ref p) (e y))/\items.any e=Qu ms ks:=by
 obtain⟨its,rv,pl,hz⟩:=I.list (SqL.of (K:=X.K) hl)
 have e:=Hr rv
 subst e
 refine⟨_,λv=>decide (Nx X.prog X.w s.heap v=ks),pl.isList,λy hy=>?_,?_⟩
 ·
  obtain⟨x,hx,rfl⟩:=Ac2.mp (show y∈ms.map λx=>Value.ref x.2 by simpa using hy)
  have:=Wv (A:=A.in1) (s:=s) (by show A.units+1+1<cLine;lia) (By I.hok (ok x hx)) (By I.hok hp)
  show EqAt A.in1 s _ _ (decide (Nx X.prog X.w s.heap (.ref x.2)=ks))
  rw[Cq (By I.hok (ok x hx))]
  exact this
 ·
  rw[List.any_toArray,List.any_map]
  unfold Qu
  refine Bool.eq_iff_iff.mpr ?_
  rw[Ahf,Ahf]
  constructor
  ·
   rintro⟨x,hx,z⟩
   exact⟨x,hx,by have z':decide (Nx X.prog X.w s.heap (.ref x.2)=ks)=true:=z;rw[Cq (By I.hok (ok x hx))] at z';exact z'⟩
  ·
   rintro⟨x,hx,z⟩
   refine⟨x,hx,?_⟩
   show decide (Nx X.prog X.w s.heap (.ref x.2)=ks)=true
   rw[Cq (By I.hok (ok x hx))]
   exact z
abbrev Ab7 (b:Bool)(x y:V)(H:Hp)(Q:VK):Prop:=∃(p l:Addr)(ks:List NK)(ms:List (List NK×Addr)),x=.ref p/\y=.ref l/\NkAt H ks p/\H l=some (.lst (ms.map λx=>V.ref x.2))/\(∀x∈ms,NkAt H x.1 x.2)/\Q (.bl (b != Qu ms ks)) H
theorem d4 (hu:X.A.units+2<cLine):OpR X (compareOp .NotIn) (Ab7 true):=by
 intro pins s σ H x y v u Q I rx ry h
 obtain⟨p,l,ks,ms,rfl,rfl,hp,hl,ok,q⟩:=h
 cases rx
 cases ry
 obtain⟨items,e,h1,h2,h3⟩:=me hu I hp hl ok
 refine notIn_listAt e h1 h2 ⟨.bl _,H,I,rfl,?_⟩
 rw[h3]
 cases hk:Qu ms ks<;>rw[hk] at q<;>exact q
theorem mf {H:Hp}{ks ks':List NK}{p q:Addr}(hu:X.A.units+2<cLine)(h:NkAt H ks p)(h':NkAt H ks' q)(ok:okL ks ks'=true):GtV X H (.ref p) (.ref q) (ltL ks' ks):=by
 intro pins s σ u u' I r r'
 cases r
 cases r'
 exact Xj (op:=.Gt) (.inr rfl) (A:=X.A.in1) hu (By I.hok h) (By I.hok h') ok
def Fd (a b:Int×List NK):Bool:=decide (b.1<a.1)||(decide (a.1=b.1)&&ltL b.2 a.2)
theorem lj {H:Hp}{t t':Int}{ks ks':List NK}{p q p0 q0:Addr}(hu:X.A.units+3<cLine)(hp:H p0=some (.tup [.int t,.ref p]))(hq:H q0=some (.tup [.int t',.ref q]))(h:NkAt H ks p)(h':NkAt H ks' q)(ok:okL ks ks'=true):GtV X H (.ref p0) (.ref q0) (Fd (t,ks) (t',ks')):=by
 intro pins s σ u u' I r r'
 cases r
 cases r'
 obtain⟨its,rv,tp,_⟩:=I.tuple (SqT.of (K:=X.K) hp)
 obtain⟨its',rv',tq,_⟩:=I.tuple (SqT.of (K:=X.K) hq)
 cases rv with
 | cons r1 rv=>
 cases rv with
 | cons r2 rv=>
 cases rv
 cases rv' with
 | cons r1' rv'=>
 cases rv' with
 | cons r2' rv'=>
 cases rv'
 obtain⟨tk,rfl⟩:=r1
 obtain⟨tk',rfl⟩:=r1'
 cases r2
 cases r2'
 refine CmpAt.gtT tp tq (by show X.A.units+1<cLine;lia) ?_
 show J7 .Gt X.A.in1.in1 s [.int t tk,.ref p] [.int t' tk',.ref q] (decide (t'<t)||(decide (t=t')&&ltL ks' ks))
 have he:=ni (A:=X.A.in1.in1) (s:=s) (k:=.inl t) (k':=.inl t') (u:=.int t tk) (u':=.int t' tk') (Ke t tk) (Ke t' tk')
 by_cases e:t=t'
 ·
  subst e
  rw[Ac3 rfl] at he
  rw[Ac7 (Int.lt_irrefl _),Ac3 rfl,Agx,Aex]
  refine .eq he ?_
  have hn:=Wv (A:=X.A.in1.in1) (s:=s) hu (By I.hok h) (By I.hok h')
  by_cases ek:ks=ks'
  ·
   subst ek
   rw[Ac3 rfl] at hn
   rw[Dn.irr]
   exact .eq hn (.fin (.inl rfl))
  ·
   rw[Ac7 ek] at hn
   exact .ne hn (Xj (op:=.Gt) (.inr rfl) (A:=X.A.in1.in1) hu (By I.hok h) (By I.hok h') ok)
 ·
  rw[Ac7 (λz=>e (Aee z))] at he
  rw[Ac7 e,Adp,Bool.or_false]
  exact .ne he (Wz (op:=.Gt) (.inr rfl) (k:=.inl t) (k':=.inl t') (Ke t tk) (Ke t' tk') rfl)
theorem qx {H:Hp}{ks ks':List Key}{p q:Addr}(hu:X.A.units+2<cLine)(hp:H p=some (.tup (ks.map kV)))(hq:H q=some (.tup (ks'.map kV)))(ok:okT ks ks'=true):GtV X H (.ref p) (.ref q) (Hk ltK ks' ks):=by
 intro pins s σ u u' I r r'
 cases r
 cases r'
 obtain⟨xs,t1,i1⟩:=Sv (Kh I.hok hp)
 obtain⟨ys,t2,i2⟩:=Sv (Kh I.hok hq)
 exact CmpAt.gtT t1 t2 (by show X.A.units+1<cLine;lia) (Rf (op:=.Gt) (.inr rfl) i1 i2 ok)
theorem ie (hc:X.calm=true):Gn X (.builtin "max") (λxs H Q=>∃(l:Addr)(y:V)(ys:List V)(gt:V->V->Bool),xs=[.ref l]/\H l=some (.lst (y::ys))/\(∀z∈y::ys,∀z'∈y::ys,∀H',Same H H'->GtV X H' z z' (gt z z'))/\ ∀H',Same H H'->Q (Hu gt y ys) H'):=by
 intro pins s σ H xs us Q I r h
 obtain⟨l,y,ys,gt,rfl,hl,g,q⟩:=h
 obtain⟨u,rfl,ru⟩:=vals1 r
 cases ru
 exact f9 hc hl (λpins s σ H' x y v v' u u' I' sm hx hy e1 e2 r1 r2=>by subst e1 e2;exact g _ hx _ hy H' sm pins s σ u u' I' r1 r2) I q
theorem Zi (hc:X.calm=true):Gn X (.builtin "max") (λxs H Q=>∃(x y:V)(gt:V->V->Bool),xs=[x,y]/\(∀z∈[x,y],∀z'∈[x,y],∀H',Same H H'->GtV X H' z z' (gt z z'))/\ ∀H',Same H H'->Q (if gt y x then y else x) H'):=by
 intro pins s σ H xs us Q I r h
 obtain⟨x,y,gt,rfl,g,q⟩:=h
 cases r with
 | cons r1 r=>
 cases r with
 | cons r2 r=>
 cases r
 exact l0 hc r1 r2 (λH1 s1 pins s σ H' x y v v' u u' I' sm hx hy e1 e2 ra rb=>by subst e1 e2;exact g _ hx _ hy H' (s1.trans sm) pins s σ u u' I' ra rb) I q
end
end L2
namespace L2
open PySem PySem.Spec PyProof.Rows
section
variable {prog:Program}{w:World}{K:Type}[DecidableEq K]{knd:HeapKind prog w K}{A:Around}{E:Value->Shared->Prop}{s:Shared}
theorem O7 {d a:Addr}{xs:List (K×Addr×Value)}{k:K}{v:Value}{Q:Value->Shared->Prop}(hu:knd.room A)(hkey:knd.is s.heap k a)(hm:s.heap.DictOfH knd d xs)(hsz:xs.length<=sizeLine)
  (h1: ∀p,atKey xs k=some p->Q p.2 {s with toks:=s.toks+knd.draws k})
  (h2:atKey xs k=none-> ∀h',h'.DictOfH knd d (xs++[(k,a,v)])->Heap.SameBut d s.heap h'->Q v {s with heap:=h',toks:=s.toks+knd.draws k}):
  wpAny (model prog w) A (dictSetDefault d (.ref a) v) Q E s:=by
 obtain⟨o,es,ep,ho,hc,hd,he,his,hn⟩:=hm
 unfold dictSetDefault
 try with_reducible refine Ae6 ?_
 refine Ac1 (knd.pyHash hu hkey (Ac1 (wpAny_dictFind_heap (s:={s with toks:=s.toks+knd.draws k}) hu hkey ho hd he his hn ?_ ?_)))
 ·
  intro hno
  have hnot:k∉xs.map (·.1):=not_mem_keys_of_get hno
  refine Ac1 (Af2 (Ac1 (wpAny_updateDictKeys (hz:=by have e:=size_of_entries he;lia) (s:={s with toks:=s.toks+knd.draws k}) ho hd (Ac4 (h2 (atKey_none_of_get hno) _ ⟨_,_,ep+1,Ahl _ ho (Obj.isFreed_of_dict (Obj.data_mapDictKeys hd _)),
   hc.mapDictKeys _,Obj.data_mapDictKeys hd _,by simp[he,entryOfKey],λx hx=>?_,?_⟩ (Ag0 ..))))))
  ·
   rcases Adq.mp hx with hx|hx
   · exact knd.keeps (his x hx) ho hd (Ag0 ..)
   ·
    rw[Ac9] at hx
    subst hx
    exact knd.keeps hkey ho hd (Ag0 ..)
  ·
   rw[Adx,Agc]
   refine⟨hn,by simp,λx hx y hy=>?_⟩
   simp only[Ad3,Aih,Ac9] at hy
   subst hy
   exact λe=>hnot (e▸hx)
 ·
  intro j p hj
  refine Ac1 (Aib (s:={s with toks:=s.toks+knd.draws k}) ho hd ?_)
  rw[entry_at he j,hj]
  exact Ac1 (Af2 (Ac4 (h1 p (atKey_of_get hn hj))))
end
section
variable {X:Cx}
theorem bt (hu:X.A.units+1<cLine):MtR X "dict.setdefault" (λx xs H Q=>∃(a b:Addr)(kvs:List (List Key×V))(k:List Key)(v:V),x=.ref a/\xs=[.ref b,v]/\H a=some (.dT kvs)/\H b=some (.tup (k.map kV))/\kvs.length<sizeLine/\
  ((∃w,Fe kvs k=some w/\Q w H)∨(Fe kvs k=none/\Q v (upd H a (.dT (putK kvs k v)))))):=by
 intro pins s σ H x xs v us Q I rx r h
 obtain⟨a,b,kvs,k,v0,rfl,rfl,ha,hb,hl,h⟩:=h
 cases rx
 cases r with
 | cons r1 r=>
 cases r with
 | @cons _ u2 _ _ r2 r=>
 cases r
 cases r1
 obtain⟨z,hd,ys,rel,dd⟩:=uc I.hok ha
 have hz:ys.length<=sizeLine:=by rw[←Ahb rel];exact z
 refine Aew PySem.F.slot_dict_setdefault dd.typeIs PySem.F.entry_dict_setdefault ?_ (PySem.F.args_dict_setdefault_3 _ _ _)
 unfold Builtin.«dict.setdefault»
 refine Ac1 ?_
 unfold Builtin.Dict.keyAndDefault
 refine Ac1 (wpAny_notOrdered_dict dd.typeIs ?_)
 show wpAny _ _ (pure (a,Value.ref b,some u2)) _ _ s
 refine Ac4 ?_
 show wpAny _ _ (if(a==sysModules)=true then _ else(dictSetDefault a (.ref b) u2>>=_)) _ _ s
 rw[if_neg (by rw[hd];exact Adf)]
 refine Ac1 (O7 (knd:=tupleKind (Bi X.prog X.w)) (Afu hu) (Kh I.hok hb) dd hz (λp hp=>?_) λhno h' dd' hs=>?_)
 ·
  have rv:=rel.val k
  rw[hp] at rv
  rcases h with⟨w,e,q⟩|⟨e,_⟩
  ·
   rw[e] at rv
   exact Ac4 ⟨_,rfl,w,H,I.tok _,rv,q⟩
  ·
   rw[e] at rv
   exact rv.elim
 ·
  have rv:=rel.val k
  rw[hno] at rv
  rcases h with⟨w,e,q⟩|⟨e,q⟩
  ·
   rw[e] at rv
   exact rv.elim
  ·
   obtain⟨o,es,ep,hq,h2,h3,h4,_,h5⟩:=dd'
   have st:storedH ys k b u2=ys++[(k,b,u2)]:=storedH_new hno b u2
   have hl':(putK kvs k v0).length<=sizeLine:=by have:=Eo kvs k v0;lia
   refine Ac4 ⟨_,rfl,v0,_,Rh (ob:=.dT (putK kvs k v0)) I (by rw[ha];exact True.intro) hs ⟨o,hq⟩ ⟨hl',hd,_,(rel.put k hb r2).keeps λc zs ec=>?_,o,es,ep,hq,h2,h3,by rw[st];exact h4,by rw[st];exact h5⟩,r2,q⟩
   rw[Aq (Ff ec ha (λz=>nomatch z))]
   exact ec
end
section
variable {X:Cx}{o i value:Expr}{td ty tv:TE}{pos pos':Pos}
def i6 (P:Program)(w:World)(td ty tv:TE):TS:=λD σ H=>tv σ H λv H1=>td σ H1 λx H2=>ty σ H2 λy H3=>∃(a p:Addr)(ks:List NK)(xs:List (List NK×Addr)),x=.ref a/\y=.ref p/\v=.bl true/\NkAt H3 ks p/\KeptAt P w H3 a xs/\Qu xs ks=false/\xs.length<1000/\
 D.nx σ (upd H3 a (K9 P w a (xs++[(ks,p)])))
theorem Z4 (hu:X.A.units+2<cLine)(ho:PE X o td)(hi:PE X i ty)(hv:PE X value tv)(hs:swapsWith value (some (.Subscript o i pos')) pos.line X.env=pure false):PS X (.Assign [.Subscript o i pos'] value pos) (i6 X.prog X.w td ty tv):=by
 intro pins s σ H D I h
 refine wpAny_Assign_Subscript (thn (hv pins s σ H _ I h) λr s1 ⟨v,H1,I1,rv,q1⟩=>thn (ho pins s1 σ H1 _ I1 q1) λu s2 ⟨x,H2,I2,rx,q2⟩=>thn (hi pins s2 σ H2 _ I2 q2) λiv s3 ⟨y,H3,I3,ry,a,p,ks,xs,ex,ey,ev,hp,hk,hn,hl,q3⟩=>?_) hs
 subst ex ey ev
 cases rx
 cases ry
 cases rv
 exact jk hu I3 hp hk hn hl λs4 I4=>⟨σ,_,I4,q3⟩
end
abbrev MBs:=List ((Str×Int)×Addr×List (Lt×Addr))
def bsK (bs:MBs):List (List Key×V):=bs.map λb=>([.inr b.1.1,.inl b.1.2],.ref b.2.1)
def Lt.mk (l:Lt):Str×Int:=(l.asker,l.number)
def ofM (k:Str×Int)(ms:List (Lt×Addr)):List (Lt×Addr):=ms.filter λy=>decide (y.1.mk=k)
theorem cz (k:Str×Int)(ms:List (Lt×Addr))(y:Lt×Addr):ofM k (ms++[y])=ofM k ms++(if y.1.mk=k then[y] else[]):=by
 unfold ofM
 rw[Afq,Ahd]
 by_cases e:y.1.mk=k
 · rw[Ac3 e,if_pos rfl,if_pos e];rfl
 · rw[Ac7 e,if_neg Adf,if_neg e];rfl
theorem ic {α β:Type}{f:α->β}: ∀{l:List α},(l.map f).Nodup-> ∀{x y:α},x∈l->y∈l->f x=f y->x=y
 | [],_,_,_,h,_,_=>nomatch h
 |
  a::l,nd,x,y,hx,hy,e=>by
  rw[Ad3,List.nodup_cons] at nd
  rcases Ado.mp hx with hx1|hx1
  ·
   subst hx1
   rcases Ado.mp hy with rfl|hy
   · rfl
   · exact absurd (by rw[e];exact Ada hy) nd.1
  ·
   rcases Ado.mp hy with hy1|hy1
   ·
    subst hy1
    exact absurd (by rw[←e];exact Ada hx1) nd.1
   · exact ic nd.2 hx1 hy1 e
structure BsOk (H:Hp)(ms:List (Lt×Addr))(bs:MBs):Prop where
 at_: ∀b∈bs,H b.2.1=some (.lst (b.2.2.map λx=>V.ref x.2))
 is_: ∀b∈bs,b.2.2=ofM b.1 ms
 nd:(bs.map (·.2.1)).Nodup
 kd:(bs.map (·.1)).Nodup
 all: ∀y∈ms,y.1.mk∈bs.map (·.1)
theorem BsOk.up {H H':Hp}{ms:List (Lt×Addr)}{bs:MBs}(h:BsOk H ms bs)(e: ∀b∈bs,∀o,H b.2.1=some o->H' b.2.1=some o):BsOk H' ms bs:=⟨λb hb=>e b hb _ (h.at_ b hb),h.is_,h.nd,h.kd,h.all⟩
theorem qg {bs:MBs}{k:Str×Int}{v:V}(h:Fe (bsK bs) [.inr k.1,.inl k.2]=some v): ∃b∈bs,b.1=k/\v=.ref b.2.1:=by
 unfold Fe at h
 obtain⟨x,hx,rfl⟩:=Aen.mp h
 obtain⟨b,hb,rfl⟩:=Ac2.mp (Ae8 hx)
 have e:=Agv hx
 have e':=Adk e
 injection e' with e1 e2
 injection e2 with e2 _
 exact⟨b,hb,Ah2 (Afj e1) (Aee e2),rfl⟩
theorem lx {bs:MBs}{k:Str×Int}(h:Fe (bsK bs) [.inr k.1,.inl k.2]=none):k∉bs.map (·.1):=λz=>by
 obtain⟨b,hb,rfl⟩:=Ac2.mp z
 unfold Fe at h
 rw[Option.map_eq_none_iff,List.find?_eq_none] at h
 exact h _ (Ada (f:=λb:(Str×Int)×Addr×List (Lt×Addr)=>(([.inr b.1.1,.inl b.1.2],.ref b.2.1):List Key×V)) hb) (Ac3 rfl)
def za (l:Lt)(p:Addr)(y:(Str×Int)×Addr×List (Lt×Addr)):(Str×Int)×Addr×List (Lt×Addr):=(y.1,y.2.1,y.2.2++(if l.mk=y.1 then[(l,p)] else[]))
theorem iy (l:Lt)(p:Addr)(bs:MBs):bsK (bs.map (za l p))=bsK bs:=by unfold bsK;rw[Adc];rfl
theorem BsOk.putS {H H':Hp}{ms:List (Lt×Addr)}{bs:MBs}{l:Lt}{p:Addr}{b:(Str×Int)×Addr×List (Lt×Addr)}(h:BsOk H ms bs)(hb:b∈bs)(hk:b.1=l.mk)
  (e1:H' b.2.1=some (.lst ((b.2.2.map λx=>V.ref x.2)++[.ref p]))) (e2: ∀y∈bs,y.2.1≠b.2.1->H' y.2.1=H y.2.1):BsOk H' (ms++[(l,p)]) (bs.map (za l p)) where
 at_:=λy' hy'=>by
  obtain⟨y,hy,rfl⟩:=Ac2.mp hy'
  show H' y.2.1=some (.lst ((y.2.2++(if l.mk=y.1 then[(l,p)] else[])).map λx=>V.ref x.2))
  by_cases e:y.1=l.mk
  ·
   have:y=b:=ic h.kd hy hb (e.trans hk.symm)
   subst this
   rw[e1,if_pos e.symm,Adx]
   rfl
  ·
   have ne:y.2.1≠b.2.1:=λz=>e (by rw[ic h.nd hy hb z];exact hk)
   rw[e2 y hy ne,if_neg (λz=>e z.symm),Aet]
   exact h.at_ y hy
 is_:=λy' hy'=>by
  obtain⟨y,hy,rfl⟩:=Ac2.mp hy'
  show y.2.2++_=ofM y.1 (ms++[(l,p)])
  rw[cz,←h.is_ y hy]
 nd:=by
  rw[Adc]
  exact h.nd
 kd:=by
  rw[Adc]
  exact h.kd
 all:=λy hy=>by
  rw[Adc]
  show y.1.mk∈bs.map (·.1)
  rcases Adq.mp hy with hy|hy
  · exact h.all y hy
  ·
   rw[Ac9] at hy
   subst hy
   rw[←hk]
   exact Ada hb
theorem jd {k:Str×Int}{ms:List (Lt×Addr)}(h: ∀y∈ms,y.1.mk≠k):ofM k ms=[]:=by
 unfold ofM
 rw[List.filter_eq_nil_iff]
 intro y hy z
 exact h y hy (Adk z)
theorem BsOk.putN {H H':Hp}{ms:List (Lt×Addr)}{bs:MBs}{l:Lt}{p N:Addr}(h:BsOk H ms bs)(hk:l.mk∉bs.map (·.1))(hN: ∀y∈bs,y.2.1≠N)
  (e1:H' N=some (.lst [.ref p])) (e2: ∀y∈bs,H' y.2.1=H y.2.1):BsOk H' (ms++[(l,p)]) (bs++[(l.mk,N,[(l,p)])]) where
 at_:=λy hy=>by
  rcases Adq.mp hy with hy|hy
  · rw[e2 y hy];exact h.at_ y hy
  ·
   rw[Ac9] at hy
   subst hy
   exact e1
 is_:=λy hy=>by
  rw[cz]
  rcases Adq.mp hy with hy|hy
  · rw[←h.is_ y hy,if_neg (λz=>hk (by rw[show l.mk=y.1 from z];exact Ada hy)),Aet]
  ·
   rw[Ac9] at hy
   subst hy
   rw[jd (λz hz e=>hk ((show z.1.mk=l.mk from e)▸h.all z hz)),if_pos rfl]
   rfl
 nd:=by
  rw[Adx,Agc]
  refine⟨h.nd,Aev _ _,λx hx y hy=>?_⟩
  obtain⟨z,hz,rfl⟩:=Ac2.mp hx
  rw[Ahr,Ac9] at hy
  subst hy
  exact hN z hz
 kd:=by
  rw[Adx,Agc]
  refine⟨h.kd,Aev _ _,λx hx y hy=>?_⟩
  rw[Ahr,Ac9] at hy
  subst hy
  exact λe=>hk ((show x=l.mk from e)▸hx)
 all:=λy hy=>by
  rw[Adx,Adq]
  rcases Adq.mp hy with hy|hy
  · exact .inl (h.all y hy)
  ·
   rw[Ac9] at hy
   subst hy
   exact .inr (Ac9.mpr rfl)
theorem LtAt.upT {H H':Hp}{l:Lt}{p:Addr}(h:LtAt H l p)(ht: ∀b xs,H b=some (.tup xs)->H' b=some (.tup xs)):LtAt H' l p:=by
 obtain⟨vs,hp,r⟩:=h
 refine⟨vs,ht _ _ hp,?_⟩
 cases l with
 | bid=>obtain⟨q,e,h⟩:=r;exact⟨q,e,ht _ _ h⟩
 | off=>exact r
 | close=>obtain⟨q,e,h⟩:=r;exact⟨q,e,ht _ _ h⟩
 | ans=>exact r
structure TabAt (P:Program)(w:World)(C:Addr)(H:Hp)(x k m t:Addr)(ms:List (Lt×Addr))(bs:MBs)(ts:List (List Key×V)):Prop where
 ins: ∃dx,H x=some (.ins C dx [("kept",.ref k),("by_meeting",.ref m),("tellings",.ref t)])
 kept:KeptAt P w H k (nks ms)
 ok: ∀y∈ms,LtAt H y.1 y.2
 sz: ∀y∈ms,Z5 y.1
 byM:H m=some (.dT (bsK bs))
 told:H t=some (.dT ts)
 ne:m≠t
 by_:BsOk H ms bs
 few:ms.length<=900/\bs.length<=ms.length/\ts.length<=ms.length
theorem vt {H:Hp}{ms:List (Lt×Addr)}{bs:MBs}(h:BsOk H ms bs)(ok: ∀y∈ms,LtAt H y.1 y.2)(hf:ms.length<=901){b:(Str×Int)×Addr×List (Lt×Addr)}(hb:b∈bs):LtsAt H b.2.1 b.2.2:=by
 refine⟨h.at_ b hb,λy hy=>ok y ?_,?_⟩
 ·
  rw[h.is_ b hb] at hy
  exact(Aeb.mp hy).1
 ·
  rw[h.is_ b hb]
  exact Ady (Ael _ _) (by lia)
def Sz (k m t:Addr)(bs:MBs)(b:Addr):Prop:=b=k∨b=m∨b=t∨ ∃y∈bs,y.2.1=b
theorem TabAt.up {P:Program}{w:World}{C:Addr}{H H':Hp}{x k m t:Addr}{ms:List (Lt×Addr)}{bs:MBs}{ts:List (List Key×V)}(h:TabAt P w C H x k m t ms bs ts)(s:Same H H'):TabAt P w C H' x k m t ms bs ts:=
 ⟨let ⟨dx,e⟩:=h.ins;⟨dx,s _ _ e⟩,h.kept.up s,λy hy=>(h.ok y hy).up s,h.sz,s _ _ h.byM,s _ _ h.told,h.ne,h.by_.up λ_ _ o e=>s _ o e,h.few⟩
theorem TabAt.own {P:Program}{w:World}{C:Addr}{H:Hp}{x k m t:Addr}{ms:List (Lt×Addr)}{bs:MBs}{ts:List (List Key×V)}(h:TabAt P w C H x k m t ms bs ts){b:Addr}(o:Sz k m t bs b):H b≠none:=by
 rcases o with rfl|rfl|rfl|⟨y,hy,rfl⟩
 · rcases h.kept.at_ with e|⟨_,e⟩<;>rw[e]<;>exact λz=>nomatch z
 · rw[h.byM];exact λz=>nomatch z
 · rw[h.told];exact λz=>nomatch z
 · rw[h.by_.at_ y hy];exact λz=>nomatch z
noncomputable def Frm (M:Addr->Prop)(H:Hp):Hp:=λb=>open Classical in if M b then none else H b
theorem Frm.iff {M:Addr->Prop}{H:Hp}{b:Addr}{o:HO}:Frm M H b=some o↔ ¬M b/\H b=some o:=by
 unfold Frm
 by_cases h:M b
 · rw[if_pos h];exact⟨(λz=>nomatch z),(λz=>absurd h z.1)⟩
 · rw[if_neg h];exact⟨λz=>⟨h,z⟩,λz=>z.2⟩
theorem Frm.same {M:Addr->Prop}{H:Hp}:Same (Frm M H) H:=λ_ _ e=>(Frm.iff.mp e).2
theorem Frm.step {M M':Addr->Prop}{H H':Hp}(h: ∀b o,H b=some o-> ¬M b->H' b=some o)(hm: ∀b,M' b->M b∨H b=none):Same (Frm M H) (Frm M' H'):=λb o e=>by
 obtain⟨h1,h2⟩:=Frm.iff.mp e
 exact Frm.iff.mpr ⟨(λz=>(hm b z).elim h1 (λy=>by rw[h2] at y;cases y)),h b o h2 h1⟩
theorem Frm.grow {M:Addr->Prop}{H H':Hp}(s:Same H H'):Same (Frm M H) (Frm M H'):=Frm.step (λb o e _=>s b o e) λ_ h=>.inl h
theorem Frm.put {M:Addr->Prop}{H:Hp}{a:Addr}{o:HO}(ha:M a):Same (Frm M H) (Frm M (upd H a o)):=Frm.step (λb u e n=>by rw[Aq (λz=>n (by rw[z];exact ha))];exact e) λ_ h=>.inl h
theorem Frm.laid {M:Addr->Prop}{H:Hp}{a:Addr}{o:HO}(hM: ∀b,M b->H b≠none)(ha:H a=none):Frm M (upd H a o) a=some o:=Frm.iff.mpr ⟨λz=>hM a z ha,Ad⟩
theorem TabAt.frame {P:Program}{w:World}{C:Addr}{H H':Hp}{x k m t:Addr}{ms:List (Lt×Addr)}{bs:MBs}{ts:List (List Key×V)}(h:TabAt P w C H x k m t ms bs ts)(e: ∀b o,H b=some o->Sz k m t bs b∨b=x->H' b=some o)(ht: ∀y∈ms,LtAt H' y.1 y.2):TabAt P w C H' x k m t ms bs ts:=
 ⟨let ⟨dx,e1⟩:=h.ins;⟨dx,e _ _ e1 (.inr rfl)⟩,⟨h.kept.at_.elim (λz=>.inl (e _ _ z (.inl (.inl rfl)))) (λz=>.inr ⟨z.1,e _ _ z.2 (.inl (.inl rfl))⟩),ff ht,h.kept.few⟩,ht,h.sz,e _ _ h.byM (.inl (.inr (.inl rfl))),e _ _ h.told (.inl (.inr (.inr (.inl rfl)))),h.ne,h.by_.up λb hb o z=>e _ _ z (.inl (.inr (.inr (.inr ⟨b,hb,rfl⟩)))),h.few⟩
section
variable {P:Program}{w:World}{C:Addr}{H H3 H4 H5:Hp}{x dx k m t q L N p:Addr}{l:Lt}{ms:List (Lt×Addr)}{bs bs':MBs}{ts:List (List Key×V)}
theorem KeptAt.upL {H':Hp}{xs:List (List NK×Addr)}(hk:KeptAt P w H k xs)(ht: ∀b ys,H b=some (.tup ys)->H' b=some (.tup ys))(e:H' k=H k):KeptAt P w H' k xs:=⟨by rw[e];exact hk.at_,λx hx=>(hk.ok x hx).upT ht,hk.few⟩
theorem KeptAt.ne_lst {xs:List (List NK×Addr)}{a:Addr}{ys:List V}(hk:KeptAt P w H k xs)(ha:H a=some (.lst ys)):k≠a:=by
 rcases hk.at_ with e|⟨_,e⟩
 · exact Ff e ha (λz=>nomatch z)
 · exact Ff e ha (λz=>nomatch z)
theorem KeptAt.ne_dT {xs:List (List NK×Addr)}{a:Addr}{ys:List (List Key×V)}(hk:KeptAt P w H k xs)(ha:H a=some (.dT ys)):k≠a:=by
 rcases hk.at_ with e|⟨_,e⟩
 · exact Ff e ha (λz=>nomatch z)
 · exact Ff e ha (λz=>nomatch z)
structure MidT (P:Program)(w:World)(C:Addr)(H H4:Hp)(x dx k m t q L:Addr)(l:Lt)(p:Addr)(ms:List (Lt×Addr))(bs bs':MBs)(ts:List (List Key×V)):Prop where
 fr: ∀b o,H b=some o-> ¬Sz k m t bs b->H4 b=some o
 new: ∀y∈bs',(∃z∈bs,z.2.1=y.2.1)∨H y.2.1=none
 q_:H4 q=some (.tup [.str l.asker,.int l.number])
 ins:H4 x=some (.ins C dx [("kept",.ref k),("by_meeting",.ref m),("tellings",.ref t)])
 kept:KeptAt P w H4 k (nks (ms++[(l,p)]))
 ok: ∀y∈ms++[(l,p)],LtAt H4 y.1 y.2
 byM:H4 m=some (.dT (bsK bs'))
 told:H4 t=some (.dT ts)
 by_:BsOk H4 (ms++[(l,p)]) bs'
 few:bs'.length<=bs.length+1
 at_: ∃b∈bs',b.1=l.mk/\b.2.1=L
 val:Fe (bsK bs') [.inr l.asker,.inl l.number]=some (.ref L)
theorem ma {b:(Str×Int)×Addr×List (Lt×Addr)}(fr: ∀b o,H b=some o->b≠k->H3 b=some o)(hq:H3 q=some (.tup [.str l.asker,.int l.number]))(hx:H3 x=some (.ins C dx [("kept",.ref k),("by_meeting",.ref m),("tellings",.ref t)]))
  (hk:KeptAt P w H3 k (nks (ms++[(l,p)]))) (hok: ∀y∈ms++[(l,p)],LtAt H3 y.1 y.2) (hm:H3 m=some (.dT (bsK bs))) (ht:H3 t=some (.dT ts)) (hb:BsOk H3 ms bs) (hN:H3 N=none) (hv:Fe (bsK bs) [.inr l.asker,.inl l.number]=some (.ref b.2.1)) (hbm:b∈bs) (hbk:b.1=l.mk):
  MidT P w C H (upd (upd H3 N (.lst [])) b.2.1 (.lst ((b.2.2.map λx=>V.ref x.2)++[.ref p]))) x dx k m t q b.2.1 l p ms bs (bs.map (za l p)) ts:=by
 have hL:=hb.at_ b hbm
 have go: ∀{c:Addr}{o:HO},H3 c=some o->c≠b.2.1->(upd (upd H3 N (.lst [])) b.2.1 (.lst ((b.2.2.map λx=>V.ref x.2)++[.ref p]))) c=some o:=λ{c o}e ne=>by rw[Aq ne,Aq (As e hN)];exact e
 have tp: ∀c ys,H3 c=some (.tup ys)->(upd (upd H3 N (.lst [])) b.2.1 (.lst ((b.2.2.map λx=>V.ref x.2)++[.ref p]))) c=some (.tup ys):=λc ys e=>go e (Ff e hL (λz=>nomatch z))
 refine⟨λc o e n=>?_,λy hy=>?_,tp _ _ hq,go hx (Ff hx hL (λz=>nomatch z)),hk.upL tp ?_,λy hy=>(hok y hy).upT tp,?_,go ht (Ff ht hL (λz=>nomatch z)),hb.putS hbm hbk Ad (λy hy ne=>?_),by rw[Ac0];exact Afz _,⟨za l p b,Ada hbm,hbk,rfl⟩,by rw[iy];exact hv⟩
 · exact go (fr c o e λz=>n (.inl z)) λz=>n (.inr (.inr (.inr ⟨b,hbm,z.symm⟩)))
 ·
  obtain⟨z,hz,rfl⟩:=Ac2.mp hy
  exact .inl ⟨z,hz,rfl⟩
 ·
  rw[Aq (hk.ne_lst hL),Aq]
  rintro rfl
  rcases hk.at_ with e|⟨_,e⟩<;>rw[e] at hN<;>cases hN
 ·
  rw[iy]
  exact go hm (Ff hm hL (λz=>nomatch z))
 · rw[Aq ne,Aq (As (hb.at_ y hy) hN)]
theorem j5 (fr: ∀b o,H b=some o->b≠k->H3 b=some o)(hq:H3 q=some (.tup [.str l.asker,.int l.number]))(hx:H3 x=some (.ins C dx [("kept",.ref k),("by_meeting",.ref m),("tellings",.ref t)]))
  (hk:KeptAt P w H3 k (nks (ms++[(l,p)]))) (hk0:H k≠none) (hok: ∀y∈ms++[(l,p)],LtAt H3 y.1 y.2) (hm:H3 m=some (.dT (bsK bs))) (ht:H3 t=some (.dT ts)) (ne:m≠t) (hb:BsOk H3 ms bs) (hN:H3 N=none) (hv:Fe (bsK bs) [.inr l.asker,.inl l.number]=none):
  MidT P w C H (upd (upd (upd H3 N (.lst [])) m (.dT (putK (bsK bs) [.inr l.asker,.inl l.number] (.ref N)))) N (.lst ([]++[.ref p]))) x dx k m t q N l p ms bs (bs++[(l.mk,N,[(l,p)])]) ts:=by
 have hkN:k≠N:=by
  rintro rfl
  rcases hk.at_ with e|⟨_,e⟩<;>rw[e] at hN<;>cases hN
 have hmN:m≠N:=As hm hN
 have go: ∀{c:Addr}{o:HO},H3 c=some o->c≠m->(upd (upd (upd H3 N (.lst [])) m (.dT (putK (bsK bs) [.inr l.asker,.inl l.number] (.ref N)))) N (.lst ([]++[.ref p]))) c=some o:=λ{c o}e n=>by
  have nN:=As e hN
  rw[Aq nN,Aq n,Aq nN];exact e
 have tp: ∀c ys,H3 c=some (.tup ys)->(upd (upd (upd H3 N (.lst [])) m (.dT (putK (bsK bs) [.inr l.asker,.inl l.number] (.ref N)))) N (.lst ([]++[.ref p]))) c=some (.tup ys):=λc ys e=>go e (Ff e hm (λz=>nomatch z))
 have eK:putK (bsK bs) [.inr l.asker,.inl l.number] (.ref N)=bsK (bs++[(l.mk,N,[(l,p)])]):=by
  rw[lz _ hv]
  unfold bsK
  rw[Adx]
  rfl
 have lN: ∀y∈bs,y.2.1≠N:=λy hy=>As (hb.at_ y hy) hN
 refine⟨λc o e n=>?_,λy hy=>?_,tp _ _ hq,go hx (Ff hx hm (λz=>nomatch z)),hk.upL tp ?_,λy hy=>(hok y hy).upT tp,?_,go ht (λz=>ne z.symm),hb.putN (lx (k:=l.mk) hv) lN Ad (λy hy=>?_),by rw[Ade];exact Adb _,⟨_,Adg _ (Ac9.mpr rfl),rfl,rfl⟩,?_⟩
 · exact go (fr c o e λz=>n (.inl z)) λz=>n (.inr (.inl z))
 ·
  rcases Adq.mp hy with hy|hy
  · exact .inl ⟨y,hy,rfl⟩
  ·
   rw[Ac9] at hy
   subst hy
   right
   show H N=none
   cases e:H N with
   | none=>rfl
   | some o=>rw[fr N o e (λz=>hkN z.symm)] at hN;cases hN
 · rw[Aq hkN,Aq (hk.ne_dT hm),Aq hkN]
 ·
  rw[←eK,Aq hmN]
  exact Ad
 · rw[Aq (lN y hy),Aq (Ff (hb.at_ y hy) hm (λz=>nomatch z)),Aq (lN y hy)]
 ·
  rw[←eK]
  rw[Mb,if_pos rfl]
theorem MidT.tab (M:MidT P w C H H4 x dx k m t q L l p ms bs bs' ts)(hsz: ∀y∈ms,Z5 y.1)(sl:Z5 l)(f1:ms.length<900)(f2:bs.length<=ms.length)(f3:ts.length<=ms.length)(ne:m≠t)(s:Same H4 H5):TabAt P w C H5 x k m t (ms++[(l,p)]) bs' ts:=
 TabAt.up (H:=H4) ⟨⟨dx,M.ins⟩,M.kept,M.ok,λy hy=>(Adq.mp hy).elim (hsz y) λz=>by rw[Ac9] at z;subst z;exact sl,M.byM,M.told,ne,M.by_,by rw[Ade];show _+1<=_;lia,by rw[Ade];exact Ady M.few (Nat.succ_le_succ f2),by rw[Ade];exact Nat.le_succ_of_le f3⟩ s
theorem TabAt.tell {ts':List (List Key×V)}(h:TabAt P w C H x k m t ms bs ts)(hl:ts'.length<=ms.length):TabAt P w C (upd H t (.dT ts')) x k m t ms bs ts':=by
 have go: ∀{c:Addr}{o:HO},H c=some o->o≠ .dT ts->(upd H t (.dT ts')) c=some o:=λ{c o}e n=>by rw[Aq (Ff e h.told n)];exact e
 have tp: ∀c ys,H c=some (.tup ys)->(upd H t (.dT ts')) c=some (.tup ys):=λc ys e=>go e (λz=>nomatch z)
 refine⟨let ⟨dx,e⟩:=h.ins;⟨dx,go e (λz=>nomatch z)⟩,h.kept.upL tp (by rw[Aq (h.kept.ne_dT h.told)]),λy hy=>(h.ok y hy).upT tp,h.sz,by rw[Aq h.ne];exact h.byM,Ad,h.ne,h.by_.up λb hb o e=>?_,h.few.1,h.few.2.1,hl⟩
 rw[h.by_.at_ b hb] at e
 cases e
 exact go (h.by_.at_ b hb) (λz=>nomatch z)
end
theorem TabAt.notup {P:Program}{w:World}{C:Addr}{H:Hp}{x k m t:Addr}{ms:List (Lt×Addr)}{bs:MBs}{ts:List (List Key×V)}(T:TabAt P w C H x k m t ms bs ts){b:Addr}{xs:List V}(h:H b=some (.tup xs)): ¬Sz k m t bs b:=by
 rintro(z|z|z|⟨y,hy,z⟩)
 · rw[z] at h;exact T.kept.notup _ h
 · rw[z,T.byM] at h;cases h
 · rw[z,T.told] at h;cases h
 · rw[←z,T.by_.at_ y hy] at h;cases h
def Atm:V->Prop
 | .int _=>True
 | .str _=>True
 | .non=>True
 | _=>False
def AlH (H:Hp):Nat->V->V->Prop
 | 0,_,_=>False
 | n+1,v,u=>(v=u/\Atm v)∨ ∃(p q:Addr)(xs ys:List V),v=.ref p/\u=.ref q/\((H p=some (.tup xs)/\H q=some (.tup ys))∨(H p=some (.lst xs)/\H q=some (.lst ys)))/\xs.length=ys.length/\ys.length<=1000/\ ∀(i:Nat)(x y:V),xs[i]?=some x->ys[i]?=some y->AlH H n x y
theorem AlH.up {H H':Hp}(s:Same H H'): ∀{n:Nat}{v u:V},AlH H n v u->AlH H' n v u
 | 0,_,_,h=>h
 | n+1,_,_,h=>h.imp id λ⟨p,q,xs,ys,e1,e2,e3,e4,e5,e6⟩=>⟨p,q,xs,ys,e1,e2,e3.imp (λz=>⟨s _ _ z.1,s _ _ z.2⟩) (λz=>⟨s _ _ z.1,s _ _ z.2⟩),e4,e5,λi x y h1 h2=>AlH.up s (e6 i x y h1 h2)⟩
theorem dc {A:V->V->Prop}: ∀(i:Nat)(x y:V),([]:List V)[i]?=some x->([]:List V)[i]?=some y->A x y:=λi x y h=>by cases h
theorem Cj {A:V->V->Prop}{x y:V}{xs ys:List V}(h:A x y)(t: ∀(i:Nat)(x y:V),xs[i]?=some x->ys[i]?=some y->A x y): ∀(i:Nat)(a b:V),(x::xs)[i]?=some a->(y::ys)[i]?=some b->A a b
 | 0,a,b,e,f=>by cases e;cases f;exact h
 | i+1,a,b,e,f=>t i a b (by simpa using e) (by simpa using f)
theorem ny {α:Type}{A:V->V->Prop}{f g:α->V}: ∀{l:List α},(∀z∈l,A (f z) (g z))-> ∀(i:Nat)(x y:V),(l.map f)[i]?=some x->(l.map g)[i]?=some y->A x y
 | [],_=>dc
 | z::l,h=>Cj (h z (Ac8 ..)) (ny λz hz=>h z (Adi _ hz))
theorem Pr {H:Hp}{n:Nat}{p q:Addr}{l:List Str}(hp:H p=some (.tup (l.map V.str)))(hq:H q=some (.tup (l.map V.str)))(hl:l.length<=1000):AlH H (n+2) (.ref p) (.ref q):=
 .inr ⟨p,q,_,_,rfl,rfl,.inl ⟨hp,hq⟩,rfl,by rw[Ac0];exact hl,ny λz _=>.inl ⟨rfl,True.intro⟩⟩
theorem ri {H:Hp}{n:Nat}{i:Int}:AlH H (n+1) (.int i) (.int i):=.inl ⟨rfl,True.intro⟩
theorem Aa9 {H:Hp}{n:Nat}{x:Str}:AlH H (n+1) (.str x) (.str x):=.inl ⟨rfl,True.intro⟩
theorem Aas {H:Hp}{n:Nat}:AlH H (n+1) .non .non:=.inl ⟨rfl,True.intro⟩
theorem dq {X:Cx}{K:W.Frag}(hK:X.K=K):IxR X (rIx K):=by subst hK;exact xo
def MK (k m t:Addr)(bs:MBs)(Kp Hd:Addr)(b:Addr):Prop:=Sz k m t bs b∨b=Kp∨b=Hd
def HeldAt (H:Hp)(h:Addr):Prop:=∃v u,H h=some (.tup [v,u])/\AlH H 6 v u
theorem HeldAt.up {H H':Hp}{h:Addr}(x:HeldAt H h)(s:Same H H'):HeldAt H' h:=let ⟨v,u,e,q⟩:=x;⟨v,u,s _ _ e,q.up s⟩
structure LI (F:Lt->Prop)(P:Program)(w:World)(C:Addr)(H0 H:Hp)(x k m t Kp Hd:Addr)(ms:List (Lt×Addr))(bs:MBs)(ts:List (List Key×V))(hs:List Addr):Prop where
 base:Same H0 (Frm (MK k m t bs Kp Hd) H)
 tab:TabAt P w C H x k m t ms bs ts
 lok: ∀y∈ms,F y.1
 nd:(ms.map λy=>y.1.nk).Nodup
 kp:H Kp=some (.lst (ms.map λy=>V.ref y.2))
 hd:H Hd=some (.lst (hs.map V.ref))
 held: ∀h∈hs,HeldAt (Frm (MK k m t bs Kp Hd) H) h
 sep: ∀y∈bs,y.2.1≠Kp/\y.2.1≠Hd
 ne:Kp≠Hd
section
variable {F:Lt->Prop}{P:Program}{w:World}{C:Addr}{H0 H H':Hp}{x k m t Kp Hd:Addr}{ms:List (Lt×Addr)}{bs bs':MBs}{ts ts':List (List Key×V)}{hs:List Addr}{l:Lt}{p:Addr}
theorem dk {a:Addr}{ys:List V}(T:TabAt P w C H x k m t ms bs ts)(ha:H a=some (.lst ys))(hn: ∀y∈bs,y.2.1≠a): ¬Sz k m t bs a/\a≠x:=by
 obtain⟨dx,hx⟩:=T.ins
 refine⟨?_,Ff ha hx (λz=>nomatch z)⟩
 rintro(z|z|z|⟨y,hy,z⟩)
 · exact T.kept.ne_lst ha z.symm
 · exact Ff ha T.byM (λz=>nomatch z) z
 · exact Ff ha T.told (λz=>nomatch z) z
 · exact hn y hy z
theorem qw {a:Addr}{ys zs:List V}(T:TabAt P w C H x k m t ms bs ts)(ha:H a=some (.lst ys))(hn: ∀y∈bs,y.2.1≠a):TabAt P w C (upd H a (.lst zs)) x k m t ms bs ts:=by
 obtain⟨h1,h2⟩:=dk T ha hn
 refine T.frame (λb o e z=>?_) (λy hy=>(T.ok y hy).upT λb xs e=>?_)
 ·
  rw[Aq]
  · exact e
  ·
   rintro rfl
   exact z.elim h1 h2
 ·
  rw[Aq (Ff e ha (λz=>nomatch z))]
  exact e
theorem jt {l:Lt}(h:Qu (nks ms) l.nk=false):l.nk∉ms.map λy=>y.1.nk:=λz=>by
 obtain⟨y,hy,e⟩:=Ac2.mp z
 have:Qu (nks ms) l.nk=true:=by
  unfold Qu nks
  rw[Ahf]
  exact⟨(y.1.nk,y.2),Ada (f:=λx:Lt×Addr=>(x.1.nk,x.2)) hy,Ac3 e⟩
 rw[h] at this
 cases this
theorem LI.mk_ (I:LI F P w C H0 H x k m t Kp Hd ms bs ts hs){b:Addr}(h:MK k m t bs Kp Hd b):H b≠none:=by
 rcases h with h|rfl|rfl
 · exact I.tab.own h
 · rw[I.kp];exact λz=>nomatch z
 · rw[I.hd];exact λz=>nomatch z
end
theorem U0 {H:Hp}: ∀{hs:List Addr},(∀h∈hs,HeldAt H h)-> ∃rs:List (Addr×V×V),hs=rs.map (·.1)/\ ∀r∈rs,H r.1=some (.tup [r.2.1,r.2.2])/\AlH H 6 r.2.1 r.2.2
 | [],_=>⟨[],rfl,λ_ z=>nomatch z⟩
 |
  h::hs,k=>by
  obtain⟨rs,e,q⟩:=U0 λx hx=>k x (Adi _ hx)
  obtain⟨v,u,e1,e2⟩:=k h (Ac8 ..)
  refine⟨(h,v,u)::rs,by rw[e];rfl,λr hr=>?_⟩
  rcases Ado.mp hr with rfl|hr
  · exact⟨e1,e2⟩
  · exact q r hr
theorem Paired.snoc {α β:Type}{F:α->β->Prop}: ∀{l:List α}{m:List β},Paired F l m-> ∀{x:α}{y:β},F x y->Paired F (l++[x]) (m++[y])
 | _,_,.nil,_,_,h=>.cons h .nil
 | _,_,.cons r t,_,_,h=>.cons r (Paired.snoc t h)
theorem E5 {J:It}{cap:List (Option Nat)}{tt:TT}{te:TE}{σ:St}{H1:Hp}{Q:VK}{xs:List V}(hJ:Seq J H1 xs)(p:V->Bool)(Rl:Hp->V->V->Prop)(hup: ∀H H' x y,(∀b ys,H b=some (.tup ys)->H' b=some (.tup ys))->Rl H x y->Rl H' x y)(hsz:xs.length<=100000)
  (hp: ∀x∈xs,∀H',Same H1 H'-> ∀R:Bool->Hp->Prop,(∀H'',Same H' H''->R (p x) H'')->tt ((N2 cap σ).set 0 (some x)) H' R)
  (he: ∀x∈xs,p x=true-> ∀H',Same H1 H'-> ∀R:VK,(∀y H'',Same H' H''->Rl H'' x y->R y H'')->te ((N2 cap σ).set 0 (some x)) H' R)
  (k: ∀D H' ys,Same H1 H'->H1 D=none->H' D=some (.lst ys)->Paired (Rl H') (xs.filter p) ys->Q (.ref D) H'):
  Ls J H1 cap (Tv 0) tt te σ Q:=by
 intro D hD
 refine⟨λi m ys σ' H'=>m=xs.length-i/\i<=xs.length/\(∀v,σ'.set 0 v=(N2 cap σ).set 0 v)/\H' D=some (.lst ys)/\Same H1 H'/\Paired (Rl H') ((xs.take i).filter p) ys,
  ⟨xs.length,by simp,Adw _,λ_=>rfl,Ad,Ag hD,by rw[Ahs];exact .nil⟩,?_⟩
 rintro i m ys σ' H' ⟨rfl,hi,hσ,hl,sm,hG⟩
 refine⟨hl,?_⟩
 obtain⟨q1,q2⟩:=hJ H' sm
 have hle:ys.length<=i:=by
  rw[←Ahb hG]
  exact Ady (Ael _ _) (by rw[Aek];lia)
 by_cases hlt:i<xs.length
 ·
  have e:xs[i]?=some xs[i]:=by simp[hlt]
  obtain⟨go,y⟩:=q1 i _ e
  refine .inr ⟨go,λx H2 hy=>?_⟩
  obtain⟨rfl,rfl⟩:=y x H2 hy
  have hm:xs[i]∈xs:=Afh hlt
  have hss: ∀v,((N2 cap σ).set 0 (some xs[i])).set 0 v=(N2 cap σ).set 0 v:=λv=>by rw[List.set_set]
  have et:xs.take (i+1)=xs.take i++[xs[i]]:=by rw[Agb,e];rfl
  show tt (σ'.set 0 (some xs[i])) _ _
  rw[hσ]
  refine hp _ hm _ sm _ λH3 s3=>?_
  cases hb:p xs[i] with
  |
   true=>
   refine x6 ?_
   refine he _ hm hb _ (sm.trans s3) _ λy H4 s4 hy=>?_
   have hl4:=s4 _ _ (s3 _ _ hl)
   have tp: ∀b zs,H4 b=some (.tup zs)->(upd H4 D (.lst (ys++[y]))) b=some (.tup zs):=λb zs eb=>by rw[Aq (Ff eb hl4 (λz=>nomatch z))];exact eb
   refine⟨hl4,Afn (by lia:ys.length<=100000) (by decide),xs.length-(i+1),by lia,rfl,hlt,hss,Ad,λc o ec=>?_,?_⟩
   ·
    rw[Aq (As ec hD)]
    exact s4 _ _ (s3 _ _ (sm _ _ ec))
   ·
    rw[et,Afq,Ahd,if_pos hb]
    exact Paired.snoc (Paired.mapP hG λa b h=>hup _ _ a b (λc zs ec=>tp _ _ (s4 _ _ (s3 _ _ ec))) h) (hup _ _ _ _ tp hy)
  |
   false=>
   refine uw ?_
   refine⟨xs.length-(i+1),by lia,rfl,hlt,hss,s3 _ _ hl,sm.trans s3,?_⟩
   rw[et,Afq,Ahd,if_neg (by rw[hb];exact Adf),List.filter_nil,Aet]
   exact Paired.mapP hG λa b h=>hup _ _ a b (λc zs ec=>s3 _ _ ec) h
 ·
  have e:i=xs.length:=by lia
  subst e
  rw[Afd] at hG
  exact .inl ⟨q2,k D _ ys sm hD hl hG⟩
end L2
namespace L2
open PySem PySem.Spec PyProof.Rows PySem.SeqAt
def yx (ts:List Str)(t:Str):Nat:=ts.findIdx λy=>decide (y=t)
section
variable {X:Cx}
theorem V5:MtR X "list.index" (λx xs H Q=>∃(l:Addr)(ts:List Str)(t:Str),x=.ref l/\xs=[.str t]/\SqL X.K H l (ts.map V.str)/\t∈ts/\Q (.int (yx ts t:Nat)) H):=by
 intro pins s σ H x xs v us Q I rx r h
 obtain⟨l,ts,t,rfl,rfl,hl,hm,q⟩:=h
 cases rx
 obtain⟨u,rfl,ru⟩:=r.one
 obtain⟨tk,rfl⟩:=ru
 obtain⟨its,rv,pl,hz⟩:=I.list hl
 have hs:=Pl rv
 obtain⟨⟨c0,d0,t0,s0⟩,ho,hc,n,hd⟩:=pl.isList
 simp only at hc hd
 subst hc hd
 have hlen:its.length=ts.length:=by rw[←rv.length,Ac0]
 obtain⟨j,hj,e1,e2,e3⟩: ∃j,∃(hj:j<its.toArray.size),(match its.toArray[j] with| .str y _=>y==t|_=>false)=true/\(∀m(hm:m<its.toArray.size),m<j->(match its.toArray[m] with| .str y _=>y==t|_=>false)=false)/\j=yx ts t:=by
  clear ho pl hz rv q hl
  unfold yx
  induction hs with
  | nil=>exact nomatch hm
  |
   @cons y ty vs ys hs ih=>
   by_cases hy:y=t
   · exact⟨0,by simp,by simp[hy],λm _ h=>absurd h (Aid _),by rw[List.findIdx_cons,Ac3 hy];rfl⟩
   ·
    obtain⟨j,hj,e1,e2,e3⟩:=ih ((Ado.mp hm).resolve_left λz=>hy z.symm) (by simpa using hlen)
    refine⟨j+1,by simpa using hj,by simpa using e1,λm hm' hlt=>?_,by rw[List.findIdx_cons,Ac7 hy,e3];rfl⟩
    cases m with
    | zero=>simp[hy]
    | succ m=>have:=e2 m (by simpa using hm') (by lia);simpa using this
 have hj':j<ts.length:=by rw[Adn,hlen] at hj;exact hj
 have hsm:(j:Int)<2 ^ 63-1:=by
  have h2:ts.length<=sizeLine:=by rw[Ac0] at hz;exact hz
  have h3:(sizeLine:Nat)<2 ^ 62:=by decide
  lia
 refine call_meets Ahz ⟨_,ho,rfl⟩ PySem.F.entry_list_index (PySem.F.args_list_index_2 _ _) (PySem.SeqAt.list_indexAt l _ n d0 s0 (.str t tk) (λy=>match y with| .str y _=>y==t|_=>false) j hj hsm e1 e2) ⟨ho,λy hy=>?_,?_⟩
 ·
  obtain⟨x,tx,rfl⟩:=hs.all y (by simpa using hy)
  exact PySem.SeqAt.EqAt.str_str x tx t tk
 ·
  rw[←e3] at q
  exact⟨.int j,H,I.tok _,⟨_,rfl⟩,q⟩
end
end L2
namespace L2
open PySem PySem.Spec PyProof.Rows DX
def Lt.bo:Lt->Bool
 | .bid .. =>true
 | .off .. =>true
 | _=>false
structure Td where
 a:Str
 n:Int
 t:Int
 st:Str
 be:Option (Int×Int)
 yes:List Str
 no:List Str
 sil:List Str
 come:List Str
 late:List Str
section
variable (ltP:Int×Str->Int×Str->Bool)(S:Lt->Prop)
def Of (t:Int)(h:Str)(g:Int)(w:Str):Prop:=(∃a n,S (.ans a n t h g w))/\ ∀a n g' w',S (.ans a n t h g' w')->ltP (g,w) (g',w')=false
def WordIs (t:Int)(h:Str):Option Str->Prop
 | none=>∀a n g w,¬S (.ans a n t h g w)
 | some w=>∃g,Of ltP S t h g w
def Mm (wf:Str->Option Str)(o:Option Str)(hs:List Str):List Str:=hs.filter λh=>decide (wf h=o)
def ToldOf:Lt->Td->Prop
 | .off a n t,td=>td=⟨a,n,t,"off",none,[],[],[],[],[]⟩
 | .bid a n t b e hs,td=>∃wf:Str->Option Str,(∀h∈hs,WordIs ltP S t h (wf h))/\
  (
   ((∀a' n' hs',¬S (.close a' n' t hs'))/\td=⟨a,n,t,"open",some (b,e),Mm wf (some (Str.ofString "yes")) hs,Mm wf (some (Str.ofString "no")) hs,Mm wf none hs,[],[]⟩)∨
   ∃a' n' hs',S (.close a' n' t hs')/\td=⟨a,n,t,"closed",some (b,e),Mm wf (some (Str.ofString "yes")) hs,Mm wf (some (Str.ofString "no")) hs,Mm wf none hs,hs',(Mm wf (some (Str.ofString "yes")) hs).filter λh=>!decide (h∈hs')⟩)
 | _,_=>False
def IsLast (x:Lt):Prop:=S x/\x.bo=true/\ ∀y,S y->y.bo=true->y.turn<=x.turn
def IsTold:Option Td->Prop
 | none=>∀x,S x->x.bo=false
 | some td=>∃x,IsLast S x/\ToldOf ltP S x td
end
structure lu (S:Lt->Prop):Prop where
 bo: ∀x y,S x->S y->x.bo=true->y.bo=true->x.turn=y.turn->x=y
 cl: ∀a n t hs a' n' hs',S (.close a n t hs)->S (.close a' n' t hs')->hs=hs'
section
variable {ltP:Int×Str->Int×Str->Bool}{S:Lt->Prop}
theorem IsLast.uniq (U:lu S){x y:Lt}(h:IsLast S x)(h':IsLast S y):x=y:=
 U.bo x y h.1 h'.1 h.2.1 h'.2.1 (Int.le_antisymm (h'.2.2 x h.1 h.2.1) (h.2.2 y h'.1 h'.2.1))
theorem WordIs.uniq (L:DX.Lin ltP){t:Int}{h:Str}{o o':Option Str}(k:WordIs ltP S t h o)(k':WordIs ltP S t h o'):o=o':=by
 cases o with
 |
  none=>
  cases o' with
  | none=>rfl
  | some w=>obtain⟨g,⟨a,n,e⟩,_⟩:=k';exact absurd e (k a n g w)
 |
  some w=>
  obtain⟨g,⟨a,n,e⟩,m⟩:=k
  cases o' with
  | none=>exact absurd e (k' a n g w)
  |
   some w'=>
   obtain⟨g',⟨a',n',e'⟩,m'⟩:=k'
   have:=L.tot (g,w) (g',w') (m _ _ _ _ e') (m' _ _ _ _ e)
   injection this with _ e2
   rw[e2]
theorem Ms {wf wf':Str->Option Str}{hs:List Str}(h: ∀x∈hs,wf x=wf' x)(o:Option Str):Mm wf o hs=Mm wf' o hs:=by
 unfold Mm
 refine List.filter_congr λx hx=>?_
 rw[h x hx]
theorem ToldOf.uniq (L:DX.Lin ltP)(U:lu S){x:Lt}{d d':Td}(h:ToldOf ltP S x d)(h':ToldOf ltP S x d'):d=d':=by
 cases x with
 | off a n t=>exact h.trans h'.symm
 | close=>exact h.elim
 | ans=>exact h.elim
 |
  bid a n t b e hs=>
  obtain⟨wf,hw,r⟩:=h
  obtain⟨wf',hw',r'⟩:=h'
  have ew: ∀z∈hs,wf z=wf' z:=λz hz=>(hw z hz).uniq L (hw' z hz)
  have e1:=Ms ew (some (Str.ofString "yes"))
  have e2:=Ms ew (some (Str.ofString "no"))
  have e3:=Ms ew none
  rcases r with⟨c,rfl⟩|⟨a1,n1,h1,c,rfl⟩
  ·
   rcases r' with⟨c',rfl⟩|⟨a2,n2,h2,c',rfl⟩
   · rw[e1,e2,e3]
   · exact absurd c' (c _ _ _)
  ·
   rcases r' with⟨c',rfl⟩|⟨a2,n2,h2,c',rfl⟩
   · exact absurd c (c' _ _ _)
   · rw[e1,e2,e3,U.cl _ _ _ _ _ _ _ c c']
theorem IsTold.uniq (L:DX.Lin ltP)(U:lu S){o o':Option Td}(h:IsTold ltP S o)(h':IsTold ltP S o'):o=o':=by
 cases o with
 |
  none=>
  cases o' with
  | none=>rfl
  | some d=>obtain⟨x,hx,_⟩:=h';have:=h x hx.1;rw[hx.2.1] at this;cases this
 |
  some d=>
  obtain⟨x,hx,k⟩:=h
  cases o' with
  | none=>have:=h' x hx.1;rw[hx.2.1] at this;cases this
  |
   some d'=>
   obtain⟨y,hy,k'⟩:=h'
   have e:=hx.uniq U hy
   subst e
   rw[k.uniq L U k']
end
def pk (x:Int×Str):List Key:=[.inl x.1,.inr x.2]
def ltP (a b:Int×Str):Bool:=Hk ltK (pk a) (pk b)
theorem xp {a b:Int×Str}(h:pk a=pk b):a=b:=by
 injection h with h1 h2
 injection h2 with h2 _
 exact Ah2 (Aee h1) (Afj h2)
theorem M0:Lin ltP where
 irr:=λa=>(Mw O2).irr (pk a)
 tr:=λa b c=>(Mw O2).tr (pk a) (pk b) (pk c)
 tot:=λa b h1 h2=>xp ((Mw O2).tot _ _ h1 h2)
theorem qf {a b:Int×Str}(h:a.1<b.1):ltP a b=true:=by
 show Hk ltK [.inl a.1,.inr a.2] [.inl b.1,.inr b.2]=true
 unfold Hk
 rw[if_neg (λz=>by have:=Aee z;lia)]
 exact Ac3 h
theorem T9 {gt:V->V->Bool}(irr: ∀a,gt a a=false)(neg: ∀a b c,gt a c=true->gt a b=true∨gt b c=true)(asym: ∀a b,gt a b=true->gt b a=false): ∀{xs:List V}{b:V},∀z∈b::xs,gt z (Hu gt b xs)=false
 |
  [],b,z,hz=>by
  rw[Ac9] at hz
  subst hz
  exact irr _
 |
  x::xs,b,z,hz=>by
  have ih:=T9 irr neg asym (xs:=xs) (b:=if gt x b then x else b)
  have e:Hu gt b (x::xs)=Hu gt (if gt x b then x else b) xs:=rfl
  rw[e]
  generalize Hu gt (if gt x b then x else b) xs=M at*
  have two: ∀u v,gt u v=false->gt v M=false->gt u M=false:=λu v h1 h2=>by
   cases h:gt u M with
   | false=>rfl
   | true=>
     rcases neg u v M h with h|h
     · rw[h1] at h;cases h
     · rw[h2] at h;cases h
  rcases Ado.mp hz with rfl|hz
  ·
   cases hg:gt x z with
   | false=>rw[hg] at ih;exact ih z (Ac8 ..)
   | true=>rw[hg] at ih;exact two z x (asym _ _ hg) (ih x (Ac8 ..))
  ·
   rcases Ado.mp hz with rfl|hz
   ·
    cases hg:gt z b with
    | false=>rw[hg] at ih;exact two z b hg (ih b (Ac8 ..))
    | true=>rw[hg] at ih;exact ih z (Ac8 ..)
   · exact ih z (Adi _ hz)
theorem tu (a:Int×List NK):Fd a a=false:=by
 unfold Fd
 rw[Dn.irr,Ac7 (Int.lt_irrefl _),Aeu,Bool.or_false]
theorem Mv {a b:Int×List NK}:Fd a b=true↔b.1<a.1∨(a.1=b.1/\ltL b.2 a.2=true):=by
 unfold Fd
 rw[Aik,Adu,Ad1,Ad1]
theorem r9 (a b c:Int×List NK)(h:Fd a c=true):Fd a b=true∨Fd b c=true:=by
 rw[Mv,Mv]
 rcases Mv.mp h with h|⟨h1,h2⟩
 ·
  by_cases e:b.1<a.1
  · exact .inl (.inl e)
  · exact .inr (.inl (by lia))
 ·
  by_cases e:b.1<a.1
  · exact .inl (.inl e)
  ·
   by_cases e2:a.1<b.1
   · exact .inr (.inl (by lia))
   ·
    rcases Dn.neg (b:=b.2) h2 with z|z
    · exact .inr (.inr ⟨by lia,z⟩)
    · exact .inl (.inr ⟨by lia,z⟩)
theorem k6 (a b:Int×List NK)(h:Fd a b=true):Fd b a=false:=by
 cases e:Fd b a with
 | false=>rfl
 |
  true=>
  rcases Mv.mp h with h|⟨h1,h2⟩<;>rcases Mv.mp e with e|⟨e1,e2⟩
  · lia
  · lia
  · lia
  · rw[Dn.asym h2] at e2;cases e2
theorem ym {a b:Int×List NK}(h:Fd a b=false):a.1<=b.1:=by
 rcases Int.lt_or_le b.1 a.1 with z|z
 · rw[Mv.mpr (.inl z)] at h;cases h
 · exact z
def AnsB (H:Hp)(S:Lt->Prop)(t:Int)(kvs:List (Key×V)):Prop:=∀h:Str,(Fe kvs (.inr h)=none/\ ∀a n g w,¬S (.ans a n t h g w))∨ ∃(q:Addr)(g:Int)(w:Str),Fe kvs (.inr h)=some (.ref q)/\H q=some (.tup [.int g,.str w])/\Of ltP S t h g w
def KnowW (H:Hp)(kvs:List (Key×V))(h:Str)(o:Option Str):Prop:=(Fe kvs (.inr h)=none/\o=none)∨ ∃(q:Addr)(g:Int)(w:Str),Fe kvs (.inr h)=some (.ref q)/\H q=some (.tup [.int g,.str w])/\o=some w
theorem KnowW.up {H H':Hp}{kvs:List (Key×V)}{h:Str}{o:Option Str}(k:KnowW H kvs h o)(s:Same H H'):KnowW H' kvs h o:=k.imp id λ⟨q,g,w,e1,e2,e3⟩=>⟨q,g,w,e1,s _ _ e2,e3⟩
theorem AnsB.up {H H':Hp}{S:Lt->Prop}{t:Int}{kvs:List (Key×V)}(h:AnsB H S t kvs)(ht: ∀b xs,H b=some (.tup xs)->H' b=some (.tup xs)):AnsB H' S t kvs:=λx=>(h x).imp id λ⟨q,g,w,e1,e2,e3⟩=>⟨q,g,w,e1,ht _ _ e2,e3⟩
theorem AnsB.know {H:Hp}{S:Lt->Prop}{t:Int}{kvs:List (Key×V)}(h:AnsB H S t kvs): ∃wf:Str->Option Str,∀x,KnowW H kvs x (wf x)/\WordIs ltP S t x (wf x):=by
 refine⟨λx=>Classical.choose (show ∃o,KnowW H kvs x o/\WordIs ltP S t x o from ?_),λx=>Classical.choose_spec (p:=λo=>KnowW H kvs x o/\WordIs ltP S t x o) _⟩
 rcases h x with⟨e,k⟩|⟨q,g,w,e1,e2,e3⟩
 · exact⟨none,.inl ⟨e,rfl⟩,k⟩
 · exact⟨some w,.inr ⟨q,g,w,e1,e2,rfl⟩,g,e3⟩
theorem AnsB.skip {H:Hp}{S S':Lt->Prop}{t:Int}{kvs:List (Key×V)}(h:AnsB H S t kvs)(e: ∀a n x g w,S' (.ans a n t x g w)↔S (.ans a n t x g w)):AnsB H S' t kvs:=λx=>(h x).imp (λ⟨e1,e2⟩=>⟨e1,λa n g w z=>e2 a n g w ((e a n x g w).mp z)⟩) λ⟨q,g,w,e1,e2,⟨a,n,e3⟩,e4⟩=>⟨q,g,w,e1,e2,⟨a,n,(e a n x g w).mpr e3⟩,λa' n' g' w' z=>e4 a' n' g' w' ((e a' n' x g' w').mp z)⟩
theorem AnsB.put {H:Hp}{S S':Lt->Prop}{t g0:Int}{w0 x0 a0:Str}{n0:Int}{kvs:List (Key×V)}{q:Addr}{g:Int}{w:Str}(h:AnsB H S t kvs)(e: ∀a n x g w,S' (.ans a n t x g w)↔S (.ans a n t x g w)∨Lt.ans a n t x g w=.ans a0 n0 t x0 g0 w0)
  (hq:H q=some (.tup [.int g,.str w])) (hb:Of ltP S' t x0 g w):AnsB H S' t (putK kvs (.inr x0) (.ref q)):=λx=>by
 by_cases ex:x=x0
 ·
  subst ex
  exact .inr ⟨q,g,w,by rw[Mb,if_pos rfl],hq,hb⟩
 ·
  have ev:Fe (putK kvs (.inr x0) (.ref q)) (.inr x)=Fe kvs (.inr x):=by rw[Mb,if_neg (λz=>ex (Afj z))]
  rw[ev]
  have e': ∀a n g w,S' (.ans a n t x g w)↔S (.ans a n t x g w):=λa n g w=>by
   rw[e]
   exact⟨λz=>z.elim id λy=>absurd (by injection y) ex,.inl⟩
  exact(h x).imp (λ⟨e1,e2⟩=>⟨e1,λa n g w z=>e2 a n g w ((e' a n g w).mp z)⟩) λ⟨q,g,w,e1,e2,⟨a,n,e3⟩,e4⟩=>⟨q,g,w,e1,e2,⟨a,n,(e' a n g w).mpr e3⟩,λa' n' g' w' z=>e4 a' n' g' w' ((e' a' n' g' w').mp z)⟩
theorem km {S S':Lt->Prop}{t g0:Int}{w0 x0 a0:Str}{n0:Int}(e: ∀a n x g w,S' (.ans a n t x g w)↔S (.ans a n t x g w)∨Lt.ans a n t x g w=.ans a0 n0 t x0 g0 w0)(h: ∀a n g w,S (.ans a n t x0 g w)->ltP (g0,w0) (g,w)=false):Of ltP S' t x0 g0 w0:=by
 refine⟨⟨a0,n0,(e _ _ _ _ _).mpr (.inr rfl)⟩,λa n g' w' z=>?_⟩
 rcases(e _ _ _ _ _).mp z with z|z
 · exact h a n g' w' z
 ·
  injection z with _ _ _ _ z1 z2
  subst z1 z2
  exact M0.irr _
theorem kg {S S':Lt->Prop}{t g0 g:Int}{w0 w x0 a0:Str}{n0:Int}(e: ∀a n x g w,S' (.ans a n t x g w)↔S (.ans a n t x g w)∨Lt.ans a n t x g w=.ans a0 n0 t x0 g0 w0)(h:Of ltP S t x0 g w)(hn:ltP (g,w) (g0,w0)=false):Of ltP S' t x0 g w:=by
 obtain⟨⟨a,n,h1⟩,h2⟩:=h
 refine⟨⟨a,n,(e _ _ _ _ _).mpr (.inl h1)⟩,λa' n' g' w' z=>?_⟩
 rcases(e _ _ _ _ _).mp z with z|z
 · exact h2 a' n' g' w' z
 ·
  injection z with _ _ _ _ z1 z2
  subst z1 z2
  exact hn
def beV:Option (Int×Int)->V×V
 | none=>(.non,.non)
 | some (b,e)=>(.int b,.int e)
structure TdAt (H:Hp)(d:Td)(r:Addr):Prop where
 at_: ∃q1 q2 q3 q4 q5:Addr,H r=some (.tup [.str d.a,.int d.n,.int d.t,.str d.st,(beV d.be).1,(beV d.be).2,.ref q1,.ref q2,.ref q3,.ref q4,.ref q5])/\H q1=some (.tup (d.yes.map V.str))/\H q2=some (.tup (d.no.map V.str))/\H q3=some (.tup (d.sil.map V.str))/\H q4=some (.tup (d.come.map V.str))/\H q5=some (.tup (d.late.map V.str))
 few:d.yes.length<=1000/\d.no.length<=1000/\d.sil.length<=1000/\d.come.length<=1000/\d.late.length<=1000
theorem TdAt.upT {H H':Hp}{d:Td}{r:Addr}(h:TdAt H d r)(s: ∀b xs,H b=some (.tup xs)->H' b=some (.tup xs)):TdAt H' d r:=⟨let ⟨q1,q2,q3,q4,q5,e0,e1,e2,e3,e4,e5⟩:=h.at_;⟨q1,q2,q3,q4,q5,s _ _ e0,s _ _ e1,s _ _ e2,s _ _ e3,s _ _ e4,s _ _ e5⟩,h.few⟩
theorem TdAt.up {H H':Hp}{d:Td}{r:Addr}(h:TdAt H d r)(s:Same H H'):TdAt H' d r:=h.upT λb _ e=>s b _ e
def mkK (k:Str×Int):List Key:=[.inr k.1,.inl k.2]
theorem W2 {k k':Str×Int}(h:mkK k=mkK k'):k=k':=by
 injection h with h1 h2
 injection h2 with h2 _
 exact Ah2 (Afj h1) (Aee h2)
def inM (ms:List (Lt×Addr))(x:Lt):Prop:=x∈ms.map (·.1)
def inK (ms:List (Lt×Addr))(k:Str×Int)(x:Lt):Prop:=inM ms x/\x.mk=k
theorem vz (k:Str×Int)(ms:List (Lt×Addr)):inM (ofM k ms)=inK ms k:=by
 funext x
 refine propext ⟨λh=>?_,λh=>?_⟩
 ·
  obtain⟨y,hy,rfl⟩:=Ac2.mp h
  obtain⟨h1,h2⟩:=Aeb.mp hy
  exact⟨Ada h1,Adk h2⟩
 ·
  obtain⟨h1,h2⟩:=h
  obtain⟨y,hy,rfl⟩:=Ac2.mp h1
  exact Ada (Aeb.mpr ⟨hy,Ac3 h2⟩)
theorem fo {ms:List (Lt×Addr)}{l:Lt}{p:Addr}{k:Str×Int}(h:k≠l.mk):inK (ms++[(l,p)]) k=inK ms k:=by
 funext x
 unfold inK inM
 rw[Adx,Adq]
 refine propext ⟨λz=>⟨z.1.elim id λy=>?_,z.2⟩,λz=>⟨.inl z.1,z.2⟩⟩
 have e:x=l:=Ac9.mp y
 exact absurd (by rw[←z.2,e]) h
theorem px {ms:List (Lt×Addr)}{l:Lt}{p:Addr}{k:Str×Int}{x:Lt}(h:inK ms k x):inK (ms++[(l,p)]) k x:=by
 unfold inK inM at h ⊢
 rw[Adx,Adq]
 exact⟨.inl h.1,h.2⟩
structure TlOk (H:Hp)(ms:List (Lt×Addr))(ts:List (List Key×V)):Prop where
 val: ∀k:Str×Int,(Fe ts (mkK k)=none/\IsTold ltP (inK ms k) none)∨ ∃(r:Addr)(d:Td),Fe ts (mkK k)=some (.ref r)/\TdAt H d r/\IsTold ltP (inK ms k) (some d)
 keys: ∀kv∈ts,∃k:Str×Int,kv.1=mkK k
 nd:(ts.map (·.1)).Nodup
theorem TlOk.upT {H H':Hp}{ms:List (Lt×Addr)}{ts:List (List Key×V)}(h:TlOk H ms ts)(s: ∀b xs,H b=some (.tup xs)->H' b=some (.tup xs)):TlOk H' ms ts:=⟨λk=>(h.val k).imp id λ⟨r,d,e1,e2,e3⟩=>⟨r,d,e1,e2.upT s,e3⟩,h.keys,h.nd⟩
theorem TlOk.up {H H':Hp}{ms:List (Lt×Addr)}{ts:List (List Key×V)}(h:TlOk H ms ts)(s:Same H H'):TlOk H' ms ts:=h.upT λb _ e=>s b _ e
theorem TlOk.non {H:Hp}{ms:List (Lt×Addr)}{ts:List (List Key×V)}{l:Lt}{p:Addr}(h:TlOk H ms ts)(hn:IsTold ltP (inK (ms++[(l,p)]) l.mk) none):TlOk H (ms++[(l,p)]) ts:=⟨λk=>by
 by_cases e:k=l.mk
 ·
  subst e
  rcases h.val l.mk with⟨h1,_⟩|⟨r,d,h1,h2,x,hx,_⟩
  · exact .inl ⟨h1,hn⟩
  ·
   have:=hn x (px hx.1)
   rw[hx.2.1] at this
   cases this
 ·
  rw[fo e]
  exact h.val k,h.keys,h.nd⟩
theorem TlOk.put {H:Hp}{ms:List (Lt×Addr)}{ts:List (List Key×V)}{l:Lt}{p r:Addr}{d:Td}(h:TlOk H ms ts)(ht:TdAt H d r)(hd:IsTold ltP (inK (ms++[(l,p)]) l.mk) (some d)):TlOk H (ms++[(l,p)]) (putK ts (mkK l.mk) (.ref r)):=⟨λk=>by
 rw[Mb]
 by_cases e:k=l.mk
 ·
  subst e
  rw[if_pos rfl]
  exact .inr ⟨r,d,rfl,ht,hd⟩
 ·
  rw[if_neg (λz=>e (W2 z)),fo e]
  exact h.val k,λkv hkv=>by
 unfold putK at hkv
 split at hkv
 ·
  obtain⟨y,hy,rfl⟩:=Ac2.mp hkv
  split
  · exact h.keys y hy
  · exact h.keys y hy
 ·
  rcases Adq.mp hkv with hkv|hkv
  · exact h.keys kv hkv
  ·
   rw[Ac9] at hkv
   subst hkv
   exact⟨l.mk,rfl⟩,by
 unfold putK
 split
 ·
  rw[Adc]
  have e:(ts.map λkv=>(if kv.1=mkK l.mk then(kv.1,V.ref r) else kv).1)=ts.map (·.1):=Agp λkv _=>by split<;>rfl
  exact e▸h.nd
 ·
  rename_i hn
  rw[Adx,Agc]
  refine⟨h.nd,Aev _ _,λx hx y hy e=>?_⟩
  rw[Ahr,Ac9] at hy
  obtain⟨kv,hkv,rfl⟩:=Ac2.mp hx
  exact hn (List.any_eq_true.mpr ⟨kv,hkv,Ac3 (e.trans hy)⟩)⟩
theorem xt {H:Hp}{n:Nat}{d:Td}{r r':Addr}(h:TdAt H d r)(h':TdAt H d r'):AlH H (n+3) (.ref r) (.ref r'):=by
 obtain⟨q1,q2,q3,q4,q5,e0,e1,e2,e3,e4,e5⟩:=h.at_
 obtain⟨p1,p2,p3,p4,p5,f0,f1,f2,f3,f4,f5⟩:=h'.at_
 obtain⟨z1,z2,z3,z4,z5⟩:=h.few
 have hb:AlH H (n+2) (beV d.be).1 (beV d.be).1/\AlH H (n+2) (beV d.be).2 (beV d.be).2:=by
  cases d.be with
  | none=>exact⟨Aas,Aas⟩
  | some x=>exact⟨ri,ri⟩
 exact .inr ⟨r,r',_,_,rfl,rfl,.inl ⟨e0,f0⟩,rfl,by show 11<=1000;decide,Cj Aa9 (Cj ri (Cj ri (Cj Aa9 (Cj hb.1 (Cj hb.2 (Cj (Pr e1 f1 z1) (Cj (Pr e2 f2 z2) (Cj (Pr e3 f3 z3) (Cj (Pr e4 f4 z4) (Cj (Pr e5 f5 z5) dc))))))))))⟩
theorem Zp {H:Hp}{ms:List (Lt×Addr)}{ts:List (List Key×V)}{k:Str×Int}{v:V}(tl:TlOk H ms ts)(U:lu (inK ms k))(hv:(v=.non/\IsTold ltP (inK ms k) none)∨ ∃(r:Addr)(d:Td),v=.ref r/\TdAt H d r/\IsTold ltP (inK ms k) (some d)):AlH H 6 ((Fe ts (mkK k)).getD .non) v:=by
 rcases tl.val k with⟨e1,h1⟩|⟨r,d,e1,t1,h1⟩
 ·
  rcases hv with⟨rfl,_⟩|⟨r',d',rfl,t2,h2⟩
  · rw[e1];exact Aas
  · cases IsTold.uniq M0 U h1 h2
 ·
  rcases hv with⟨rfl,h2⟩|⟨r',d',rfl,t2,h2⟩
  · cases IsTold.uniq M0 U h1 h2
  ·
   have e:=Adt (IsTold.uniq M0 U h1 h2)
   subst e
   rw[e1]
   exact xt t1 t2
end L2
namespace L2
open PySem PySem.W PyProof.Rows PySem.SeqAt DX
abbrev Q4 (ks:List NK):Prop:=∃i r,ks=.inl (.inl i)::r
section
variable {prog:Program}{w:World}{A:Around}{s:Shared}
theorem Zw {C:Bool->Shared->Prop}{fin:Bool}(hu:A.units<cLine){ks ks':List NK}{us us':List Value}(h:NItems prog w s.heap ks us)(h':NItems prog w s.heap ks' us')(ok:okL ks ks'=true)(hf:fin=decide (ks.length<ks'.length))
  (i1:Q4 ks) (i2:Q4 ks') (hC:C (ltL ks ks') s):KatLex prog w A true fin C (us.zip us') 0 s:=by
 obtain⟨i,r,rfl⟩:=i1
 obtain⟨j,r',rfl⟩:=i2
 cases h with
 | @cons _ u _ us h1 h2=>
 cases h' with
 | @cons _ u' _ us' h1' h2'=>
 have e:ltL (.inl (.inl i)::r) (.inl (.inl j)::r')=if(Sum.inl (Sum.inl i):NK)=.inl (.inl j) then ltL r r' else ltN (.inl (.inl i)) (.inl (.inl j)):=rfl
 rw[e] at hC
 unfold okL at ok
 rw[Afo]
 refine kat_cons (R7 hu h1 h1' ?_)
 by_cases ek:(Sum.inl (Sum.inl i):NK)=.inl (.inl j)
 ·
  rw[if_pos ek] at ok hC
  rw[Ac3 ek]
  exact kat_yes (Py hu 1 h2 h2' ok (by rw[hf];exact Aej.mpr (by simp only[Ad2];lia)) (λz=>absurd z (by decide)) hC)
 ·
  rw[if_neg ek] at ok hC
  rw[Ac7 ek]
  refine kat_no ?_
  obtain⟨tk,rfl⟩:=Afl (k:=i) (v:=u) h1
  obtain⟨tk',rfl⟩:=Afl (k:=j) (v:=u') h1'
  exact oneLt_int hC
theorem Vx {h:Heap}: ∀{ms:List (List NK×Addr)},(∀x∈ms,IsNest prog w h x.1 x.2/\Q4 x.1)-> ∃fs,KatTups h (ms.map λx=>Value.ref x.2) fs/\fs.length=ms.length/\ ∀v∈fs,∃(t:Int)(k:Tok),v=.int t k
 | [],_=>⟨[],trivial,rfl,λ_ z=>nomatch z⟩
 |
  x::ms,H=>by
  obtain⟨fs,k,e,hv⟩:=Vx (ms:=ms) λy hy=>H y (Adi _ hy)
  obtain⟨⟨o,its,n,ho,hc,hd,hi⟩,t,r,ex⟩:=H x (Ac8 ..)
  rw[ex] at hi
  generalize hl:its.toList=l at hi
  cases hi with
  |
   cons h1 h2=>
   obtain⟨tk,rfl⟩:=Afl (k:=t) h1
   refine⟨.int t tk::fs,KatTups.cons ho hc hd (by rw[←Aef,hl];rfl) k,by rw[Ad2,Ad2,e],λv hm=>?_⟩
   rcases Ado.mp hm with rfl|hm
   · exact⟨_,_,rfl⟩
   · exact hv v hm
theorem O8 {h₀:Heap}{ms:List (List NK×Addr)}(hu:A.units<cLine)(h1:1<=ms.length)(kp: ∀b o,h₀.get? b=some o->s.heap.get? b=some o)(H: ∀x∈ms,IsNest prog w h₀ x.1 x.2/\Q4 x.1)(ok: ∀x∈ms,∀y∈ms,okL x.1 y.1=true):
  SortsV prog w A s (tuples' true) (O:=nkO) (Nx prog w h₀) (ms.map λx=>Value.ref x.2) where
 kind:=λE Q hq=>by
  obtain⟨fs,k,e,hv⟩:=Vx (h:=s.heap) (ms:=ms) λx hx=>⟨(H x hx).1.kept kp,(H x hx).2⟩
  refine kat_kind (T:=.type "int") k (by lia) (λv hm=>?_) rfl hq
  obtain⟨i,t,rfl⟩:=hv v hm
  exact W.Looks.now
 cmp:=λu hu' v hv C hC=>by
  obtain⟨x,hx,rfl⟩:=Ac2.mp hu'
  obtain⟨y,hy,rfl⟩:=Ac2.mp hv
  have ax:=H x hx
  have ay:=H y hy
  have hC':C (ltL (Nx prog w h₀ (.ref x.2)) (Nx prog w h₀ (.ref y.2))) s:=hC
  rw[Cq ax.1,Cq ay.1] at hC'
  obtain⟨o,its,n,ho,hc,hd,hi⟩:=ax.1.kept kp
  obtain⟨o',its',n',ho',hc',hd',hi'⟩:=ay.1.kept kp
  refine kat_lt ho hd ho' hd' (Zw hu hi hi' (ok x hx y hy) ?_ ax.2 ay.2 hC')
  rw[hi.length,hi'.length,Ac6,Ac6]
end
section
variable {X:Cx}
theorem Ut (hu:X.A.units+2<cLine):Gn X (.builtin "sorted") (λxs H Q=>∃(l:Addr)(ms:List (List NK×Addr)),xs=[.ref l]/\H l=some (.lst (ms.map λx=>V.ref x.2))/\(∀x∈ms,NkAt H x.1 x.2)/\ms.length<64/\((∀x∈ms,Pz x.1)∨(∀x∈ms,Q4 x.1))/\(∀x∈ms,∀y∈ms,okL x.1 y.1=true)/\
  ∀(D:Addr)(qs:List (List NK×Addr)),H D=none->qs.Perm ms->(keysOf qs).Pairwise (λx y=>ltL y x=false)->Q (.ref D) (upd H D (.lst (qs.map λx=>V.ref x.2)))):=by
 intro pins s σ H xs us Q I r h
 obtain⟨l,ms,rfl,hl,hk,h64,hs,ok,q⟩:=h
 obtain⟨u,rfl,ru⟩:=vals1 r
 cases ru
 obtain⟨its,rv,pl,hz⟩:=I.list (SqL.of (K:=X.K) hl)
 have e:=Hr rv
 subst e
 have hn: ∀x∈ms,IsNest X.prog X.w s.heap x.1 x.2:=λx hx=>By I.hok (hk x hx)
 refine Ih (G:=λvs=>vs=ms.map λx=>Value.ref x.2) (O:=nkO) (key:=Nx X.prog X.w s.heap) (κ:=tuples' true)
  (λE' Q' hq=>collect_list pl.isList (hq _ s.toks _ (λb o q=>by rw[Afc _ _ _ _ (Ad9 (Adm q)),Heap.get?_push_ne _ _ _ (Ad9 (Adm q))];exact q) (by rw[Heap.size_update,size_push'];exact Afz _) rfl) (by rw[Ac0,Aeh];lia)) ?_ (λvs e h2 s' kp=>?_) λD h' tk vs us e hg a1 a2 kp hge he=>?_
 ·
  rintro vs rfl
  rw[Ac0]
  exact h64
 ·
  subst e
  rw[Ac0] at h2
  rcases hs with hs|hs
  · exact Km (A:=X.A.in1.in1) hu (by lia) kp (λx hx=>⟨hn x hx,hs x hx⟩) ok
  · exact O8 (A:=X.A.in1.in1) hu (by lia) kp (λx hx=>⟨hn x hx,hs x hx⟩) ok
 ·
  subst hg
  obtain⟨qs,p1,rfl⟩:=B6 (f:=λ(x:List NK×Addr)=>Value.ref x.2) a1 ms rfl
  refine⟨.ref D,_,I.laid (t':=tk) (o:=.lst (qs.map λx=>V.ref x.2)) kp hge ?_,rfl,q _ qs (I.hok.fresh hge) p1 ?_⟩
  ·
   refine⟨by rw[Ac0,p1.length_eq,Aeh];lia,_,e,?_,he⟩
   clear a1 a2 p1 he
   induction qs with
   | nil=>exact .nil
   | cons x qs ih=>exact .cons rfl ih
  ·
   rw[Ae1] at a2 ⊢
   refine a2.imp_of_mem λ{x y}hx hy z=>?_
   have z':ltL (Nx X.prog X.w s.heap (.ref y.2)) (Nx X.prog X.w s.heap (.ref x.2))=false:=z
   rw[Cq (hn _ (p1.mem_iff.mp hx)),Cq (hn _ (p1.mem_iff.mp hy))] at z'
   exact z'
theorem NItems.get {prog:Program}{w:World}{h:Heap}: ∀{ks:List NK}{us:List Value},NItems prog w h ks us-> ∀(j:Nat)(hj:j<us.length),∃k,ks[j]?=some k/\NItem prog w h k us[j]
 | _,_,.nil,j,hj=>absurd hj (Aid _)
 | _,_,.cons h1 _,0,_=>⟨_,rfl,h1⟩
 |
  _,_,.cons _ h2,j+1,hj=>by
  obtain⟨k,e,q⟩:=NItems.get h2 j (by simpa using hj)
  exact⟨k,by simpa using e,by simpa using q⟩
theorem all_eq {ks ks':List NK}:((List.range (min ks.length ks'.length)).all (λj=>decide (ks[j]?=ks'[j]?))&&ks.length==ks'.length)=decide (ks=ks'):=by
 rw[Afw,Adu,Ah7,beq_iff_eq,Ad1]
 constructor
 ·
  rintro⟨h,e⟩
  refine Agd λj=>?_
  by_cases hj:j<ks.length
  · exact Adk (h j (Aeo.mpr (by lia)))
  · rw[Afp (by lia),Afp (by lia)]
 ·
  rintro rfl
  exact⟨λ_ _=>Ac3 rfl,rfl⟩
theorem my (hu:X.A.units+2<cLine):OpR X (compareOp .Eq) (λx y H Q=>∃(p q:Addr)(ks ks':List NK),x=.ref p/\y=.ref q/\NkAt H ks p/\NkAt H ks' q/\Q (.bl (decide (ks=ks'))) H):=by
 intro pins s σ H x y v u Q I rx ry h
 obtain⟨p,q0,ks,ks',rfl,rfl,hp,hq,q⟩:=h
 cases rx
 cases ry
 obtain⟨xs,t1,i1⟩:=(By I.hok hp).isTuple
 obtain⟨ys,t2,i2⟩:=(By I.hok hq).isTuple
 have l1:ks.length=xs.size:=by rw[i1.length,Ac6]
 have l2:ks'.length=ys.size:=by rw[i2.length,Ac6]
 refine eq_tupleAt (e:=λj=>decide (ks[j]?=ks'[j]?)) t1 t2 (by lia) (λj h1 h2=>?_) ?_
 ·
  obtain⟨k,e1,n1⟩:=i1.get j (by rw[Ac6];exact h1)
  obtain⟨k',e2,n2⟩:=i2.get j (by rw[Ac6];exact h2)
  rw[Array.getElem_toList] at n1 n2
  rw[show decide (ks[j]?=ks'[j]?)=decide (k=k') from Aej.mpr (by rw[e1,e2,Aiy])]
  exact c8 (A:=X.A.in1) (by show X.A.units+1<cLine;lia) n1 n2
 ·
  rw[←l1,←l2,all_eq]
  exact⟨.bl _,H,I,rfl,q⟩
end
end L2
namespace L2
open PySem PySem.Spec PyProof.Rows
theorem j3 {K:W.Frag}{J:It}{cap:List (Option Nat)}{tt:TT}{te:TE}{σ:St}{H1:Hp}{Q:VK}{rs:List (Addr×V×V)}(hJ:Seq J H1 (rs.map λr=>V.ref r.1))(ok: ∀r∈rs,H1 r.1=some (.tup [r.2.1,r.2.2]))(f:V×V->V)(hsz:rs.length<=100000)(htt: ∀σ H R,R true H->tt σ H R)
  (he: ∀r∈rs,∀H',Same H1 H'-> ∀R:VK,(∀H'',Same H' H''->R (f r.2) H'')->te (((N2 cap σ).set 0 (some r.2.1)).set 1 (some r.2.2)) H' R)
  (k: ∀D H',Same H1 H'->H1 D=none->H' D=some (.lst (rs.map λr=>f r.2))->Q (.ref D) H'):
  Ls J H1 cap (zq K 2 (oy (Tv 0) (oy (Tv 1) Abd))) tt te σ Q:=by
 intro D hD
 refine⟨λi m ys σ' H'=>m=rs.length-i/\i<=rs.length/\(∀v w,(σ'.set 0 v).set 1 w=((N2 cap σ).set 0 v).set 1 w)/\H' D=some (.lst ys)/\Same H1 H'/\ys=(rs.take i).map λr=>f r.2,
  ⟨rs.length,by simp,Adw _,λ_ _=>rfl,Ad,Ag hD,by simp⟩,?_⟩
 rintro i m ys σ' H' ⟨rfl,hi,hσ,hl,sm,hys⟩
 refine⟨hl,?_⟩
 obtain⟨q1,q2⟩:=hJ H' sm
 by_cases hlt:i<rs.length
 ·
  have e:(rs.map λr=>V.ref r.1)[i]?=some (.ref (rs[i]).1):=by simp[hlt]
  obtain⟨go,y⟩:=q1 i _ e
  refine .inr ⟨go,λx H2 hy=>?_⟩
  obtain⟨rfl,rfl⟩:=y x H2 hy
  have hm:rs[i]∈rs:=Afh hlt
  have etake:rs.take (i+1)=rs.take i++[rs[i]]:=by rw[Agb,Adh hlt];rfl
  refine⟨(rs[i]).1,_,rfl,SqT.of (sm _ _ (ok _ hm)),rfl,_,_,rfl,_,_,rfl,rfl,?_⟩
  have hss: ∀v w,((((N2 cap σ).set 0 (some (rs[i]).2.1)).set 1 (some (rs[i]).2.2)).set 0 v).set 1 w=((N2 cap σ).set 0 v).set 1 w:=λv w=>by
   rw[List.set_comm _ _ (by decide:(1:Nat)≠0),List.set_set,List.set_set]
  show tt ((σ'.set 0 (some (rs[i]).2.1)).set 1 (some (rs[i]).2.2)) _ _
  rw[hσ]
  refine htt _ _ _ (x6 ?_)
  refine he _ hm _ sm _ λH5 s5=>?_
  have hl5:=s5 _ _ hl
  refine⟨hl5,?_,rs.length-(i+1),by lia,rfl,hlt,hss,Ad,λb o eb=>?_,?_⟩
  ·
   have h1:ys.length<=rs.length:=by
    rw[hys,Ac0,Aek]
    exact Nat.min_le_right _ _
   have h2:(100000:Nat)<sizeLine:=by decide
   lia
  ·
   rw[Aq (As eb hD)]
   exact s5 _ _ (sm _ _ eb)
  ·
   rw[etake,Adx,hys]
   rfl
 ·
  have e:i=rs.length:=by lia
  subst e
  rw[Ac0] at q2
  refine .inl ⟨q2,k D _ sm hD ?_⟩
  rw[hl,hys,Afd]
end L2
namespace L2
open PySem PySem.W PyProof.Rows PySem.SeqAt DX
theorem cu {H:Hp}{p:Addr}: ∀{ks:List Key}{vs:List V},vs=ks.map kV->NkVs H (ks.map Sum.inl) vs
 | [],_,rfl=>.nil
 | _::_,_,rfl=>.cons rfl (cu (p:=p) rfl)
theorem Yg {H:Hp}{p:Addr}{ks:List Key}(h:H p=some (.tup (ks.map kV))):NkAt H (ks.map Sum.inl) p:=⟨_,h,cu (p:=p) rfl⟩
theorem KT.mem {H:Hp}: ∀{kvs:List (List Key×V)}{ys:List (List Key×Addr×Value)},KT H kvs ys-> ∀y∈ys,H y.2.1=some (.tup (y.1.map kV))
 | _,_,.nil,_,h=>nomatch h
 |
  _,_,.cons r t,y,h=>by
  rcases Ado.mp h with rfl|h
  · rw[←r.1];exact r.2.1
  · exact KT.mem t y h
theorem KT.keys {H:Hp}: ∀{kvs:List (List Key×V)}{ys:List (List Key×Addr×Value)},KT H kvs ys->ys.map (·.1)=kvs.map (·.1)
 | _,_,.nil=>rfl
 | _,_,.cons r t=>by rw[Ad3,Ad3,KT.keys t,r.1]
section
variable {X:Cx}
theorem Rv (hc:X.calm=true)(hu:X.A.units+2<cLine):Gn X (.builtin "sorted") (λxs H Q=>∃(a:Addr)(kvs:List (List Key×V)),xs=[.ref a]/\H a=some (.dT kvs)/\kvs.length<64/\(∀k∈kvs.map (·.1),Pz (k.map Sum.inl))/\(∀x∈kvs.map (·.1),∀y∈kvs.map (·.1),okL (x.map Sum.inl) (y.map Sum.inl)=true)/\
  ∀(D:Addr)(qs:List (List Key×Addr)),H D=none->(qs.map (·.1)).Perm (kvs.map (·.1))->(∀q∈qs,H q.2=some (.tup (q.1.map kV)))->(qs.map λq=>(q.1.map Sum.inl:List NK)).Pairwise (λx y=>ltL y x=false)->Q (.ref D) (upd H D (.lst (qs.map λx=>V.ref x.2)))):=by
 intro pins s σ H xs us Q I r h
 obtain⟨a,kvs,rfl,hk,h64,hs,ok,q⟩:=h
 obtain⟨u,rfl,ru⟩:=vals1 r
 cases ru
 obtain⟨_,lo,ys,kt,o,es,ep,ho,hex,hdat,hes,hall,hnd⟩:=uc I.hok hk
 have hyl:ys.length=kvs.length:=(Ahb kt).symm
 have hym: ∀y∈ys,y.1∈kvs.map (·.1):=λy hy=>by rw[←kt.keys];exact Ada hy
 have hn: ∀y∈ys,IsNest X.prog X.w s.heap (y.1.map Sum.inl) y.2.1:=λy hy=>By I.hok (Yg (kt.mem y hy))
 have hms: ∀x∈ys.map (λy=>((y.1.map Sum.inl:List NK),y.2.1)),∃y∈ys,x=(y.1.map Sum.inl,y.2.1):=λx hx=>by obtain⟨y,hy,rfl⟩:=Ac2.mp hx;exact⟨y,hy,rfl⟩
 have hz:es.size=ys.length:=by
  have:=Aea List.length hes
  rw[Ac6,Ac0] at this
  exact this
 have raw:RawD s.heap a es ep:=⟨o,ho,hex,hdat⟩
 refine Ih (G:=λvs=>vs=ys.map λx=>Value.ref x.2.1) (O:=nkO) (key:=Nx X.prog X.w s.heap) (κ:=tuples' true)
  (λE' Q' hq=>Pa (d7 (ep:=ep) lo) (I.ok.hd hc) raw (by rw[hz,Aeh];lia) λh' tk acc kp hge ia=>hq h' tk _ kp hge ?_) ?_ (λvs e h2 s' kp=>?_) λD h' tk vs us e hg a1 a2 kp hge he=>?_
 ·
  refine Agd λj=>?_
  rw[Aef]
  by_cases hj:j<ys.length
  ·
   obtain⟨v,hv⟩: ∃v,acc[j]?=some v:=⟨acc[j]'(by rw[ia.1,hz];exact hj),Aem _⟩
   obtain⟨hlt,ev⟩:=ia.2 j v hv
   rw[hv,ev,Adl,Adh hj]
   have e2:es[j]?=some (entryOfKey (tupleKind (Bi X.prog X.w)) ys[j]):=by
    rw[←Aef,hes,Adl,Adh hj]
    rfl
   rw[Aem hlt] at e2
   rw[Adt e2]
   rfl
  · rw[Afp (by rw[Ac0];lia),Ah9 (by rw[ia.1,hz];lia)]
 ·
  rintro vs rfl
  rw[Ac0]
  lia
 ·
  subst e
  have hS:=Km (prog:=X.prog) (w:=X.w) (s:=s') (A:=X.A.in1.in1) (h₀:=s.heap) (ms:=ys.map λy=>((y.1.map Sum.inl:List NK),y.2.1)) hu (by rw[Ac0] at h2 ⊢;lia) kp (λx hx=>by obtain⟨y,hy,rfl⟩:=hms x hx;exact⟨hn y hy,hs _ (hym y hy)⟩) (λx hx x' hx'=>by obtain⟨y,hy,rfl⟩:=hms x hx;obtain⟨y',hy',rfl⟩:=hms x' hx';exact ok _ (hym y hy) _ (hym y' hy'))
  rw[Adc] at hS
  exact hS
 ·
  subst hg
  obtain⟨qs,p1,rfl⟩:=B6 (f:=λ(x:List Key×Addr×Value)=>Value.ref x.2.1) a1 ys rfl
  have ql:(qs.map λy=>((y.1,y.2.1):List Key×Addr)).map (λx=>V.ref x.2)=qs.map λy=>V.ref y.2.1:=by rw[Adc];rfl
  have hq:=q D (qs.map λy=>(y.1,y.2.1)) (I.hok.fresh hge) (by rw[Adc,←kt.keys];exact p1.map (·.1)) (λx hx=>by obtain⟨y,hy,rfl⟩:=Ac2.mp hx;exact kt.mem y (p1.mem_iff.mp hy)) (by
   rw[Adc]
   rw[Ae1] at a2 ⊢
   refine a2.imp_of_mem λ{x y}hx hy z=>?_
   have z':ltL (Nx X.prog X.w s.heap (.ref y.2.1)) (Nx X.prog X.w s.heap (.ref x.2.1))=false:=z
   rw[Cq (hn _ (p1.mem_iff.mp hx)),Cq (hn _ (p1.mem_iff.mp hy))] at z'
   exact z')
  rw[ql] at hq
  refine⟨.ref D,_,I.laid (t':=tk) (o:=.lst (qs.map λx=>V.ref x.2.1)) kp hge ?_,rfl,hq⟩
  refine⟨by rw[Ac0,p1.length_eq,Aeh];lia,_,e,?_,he⟩
  clear a1 a2 p1 he hq ql
  induction qs with
  | nil=>exact .nil
  | cons x qs ih=>exact .cons rfl ih
end
section
variable {prog:Program}{w:World}{A:Around}{E:Value->Shared->Prop}{s:Shared}{O:KeyOrd}{key:Value->O.α}{κ:SortKind}
theorem Wj {c:Value}{Q:Value->Shared->Prop}{G:List Value->Prop}
  (hcol: ∀(E':Value->Shared->Prop)(Q':List Value->Shared->Prop),(∀h' tk vs,(∀b o,s.heap.get? b=some o->h'.get? b=some o)->s.heap.objs.size<=h'.objs.size->G vs->Q' vs {s with heap:=h',toks:=tk})->wpAny (model prog w) A.in1 (collect c) Q' E' s)
  (hz: ∀vs,G vs->vs.length<=sizeLine) (hS: ∀vs,G vs->2<=vs.length-> ∀(s':Shared),(∀b o,s.heap.get? b=some o->s'.heap.get? b=some o)->SortsV prog w A.in1.in1 s' κ key vs)
  (h: ∀(D:Addr)h' tk(vs us:List Value)(e:Nat),G vs->us.Perm vs->us.Pairwise (λx y=>O.kle (key x) (key y))->(∀b o,s.heap.get? b=some o->h'.get? b=some o)->s.heap.objs.size<=D->h'.get? D=some (seqObj "list" us.toArray e)->Q (.ref D) {s with heap:=h',toks:=tk}):
  wpAny (model prog w) A (call (.builtin "sorted") [c]) Q E s:=by
 refine Calls.call_function_entry kind_sorted plain_sorted entry_sorted (args_sorted1 _) ?_
 unfold Builtin.«sorted»
 refine Ac1 (m:=checkCount "sorted" 1 1 _) (Ac4 (Ac1 (hcol _ _ λh1 tk vs kp hge hg=>?_)))
 refine Ac1 (Ag8 ?_ (hz vs hg))
 have hoL:(h1.push (seqObj "list" vs.toArray 0)).get? h1.objs.size=some (seqObj "list" vs.toArray 0):=Adv _ rfl
 have keep: ∀b o,s.heap.get? b=some o->(h1.push (seqObj "list" vs.toArray 0)).get? b=some o:=λb o q=>Ac5 _ (kp b o q)
 have ne: ∀b o,s.heap.get? b=some o->b≠h1.objs.size:=λb o q=>Ad9 (Adm (kp b o q))
 show wpAny _ _ _ _ _ {s with heap:=h1.push (seqObj "list" vs.toArray 0),toks:=tk}
 refine Ac1 (Ae6 (Aew slot_list_sort ⟨_,hoL,rfl⟩ entry_list_sort (Zo (κ:=κ) (key:=key) hoL (hz vs hg) (λh2 h' kp'=>let S:=hS vs hg h2 _ λb o q=>kp' b o (ne b o q) (keep b o q);⟨S.kind,S.cmp⟩) λus a1 a2=>⟨_,rfl,Ac4 ⟨_,rfl,?_⟩⟩) (args_list_sort _)))
 obtain⟨e,he⟩:=sortedHeap_at (out:=us.toArray) hoL
 refine h h1.objs.size _ tk vs us e hg a1 a2 (λb o q=>?_) hge he
 rw[sortedHeap_old (ne b o q) (Adm (keep b o q))]
 exact keep b o q
end
section
variable {X:Cx}
theorem Dl (hu:X.A.units+2<cLine):Gn X (.builtin "sorted") (λxs H Q=>∃(l:Addr)(ms:List (List NK×Addr)),xs=[.ref l]/\H l=some (.lst (ms.map λx=>V.ref x.2))/\(∀x∈ms,NkAt H x.1 x.2)/\ms.length<=100000/\((∀x∈ms,Pz x.1)∨(∀x∈ms,Q4 x.1))/\(∀x∈ms,∀y∈ms,okL x.1 y.1=true)/\
  ∀(D:Addr)(qs:List (List NK×Addr)),H D=none->qs.Perm ms->(keysOf qs).Pairwise (λx y=>ltL y x=false)->Q (.ref D) (upd H D (.lst (qs.map λx=>V.ref x.2)))):=by
 intro pins s σ H xs us Q I r h
 obtain⟨l,ms,rfl,hl,hk,h64,hs,ok,q⟩:=h
 obtain⟨u,rfl,ru⟩:=vals1 r
 cases ru
 obtain⟨its,rv,pl,hz⟩:=I.list (SqL.of (K:=X.K) hl)
 have e:=Hr rv
 subst e
 have hzz:(100000:Nat)<=sizeLine:=by decide
 have hn: ∀x∈ms,IsNest X.prog X.w s.heap x.1 x.2:=λx hx=>By I.hok (hk x hx)
 refine Wj (G:=λvs=>vs=ms.map λx=>Value.ref x.2) (O:=nkO) (key:=Nx X.prog X.w s.heap) (κ:=tuples' true)
  (λE' Q' hq=>collect_list pl.isList (hq _ s.toks _ (λb o q=>by rw[Afc _ _ _ _ (Ad9 (Adm q)),Heap.get?_push_ne _ _ _ (Ad9 (Adm q))];exact q) (by rw[Heap.size_update,size_push'];exact Afz _) rfl) (by rw[Ac0];lia)) ?_ (λvs e h2 s' kp=>?_) λD h' tk vs us e hg a1 a2 kp hge he=>?_
 ·
  rintro vs rfl
  rw[Ac0]
  lia
 ·
  subst e
  rw[Ac0] at h2
  rcases hs with hs|hs
  · exact Km (A:=X.A.in1.in1) hu (by lia) kp (λx hx=>⟨hn x hx,hs x hx⟩) ok
  · exact O8 (A:=X.A.in1.in1) hu (by lia) kp (λx hx=>⟨hn x hx,hs x hx⟩) ok
 ·
  subst hg
  obtain⟨qs,p1,rfl⟩:=B6 (f:=λ(x:List NK×Addr)=>Value.ref x.2) a1 ms rfl
  refine⟨.ref D,_,I.laid (t':=tk) (o:=.lst (qs.map λx=>V.ref x.2)) kp hge ?_,rfl,q _ qs (I.hok.fresh hge) p1 ?_⟩
  ·
   refine⟨by rw[Ac0,p1.length_eq];lia,_,e,?_,he⟩
   clear a1 a2 p1 he
   induction qs with
   | nil=>exact .nil
   | cons x qs ih=>exact .cons rfl ih
  ·
   rw[Ae1] at a2 ⊢
   refine a2.imp_of_mem λ{x y}hx hy z=>?_
   have z':ltL (Nx X.prog X.w s.heap (.ref y.2)) (Nx X.prog X.w s.heap (.ref x.2))=false:=z
   rw[Cq (hn _ (p1.mem_iff.mp hx)),Cq (hn _ (p1.mem_iff.mp hy))] at z'
   exact z'
theorem ug (hu:X.A.units+2<cLine):OpR X (compareOp .Eq) (λx y H Q=>∃(p q:Addr)(ms ms':List (List NK×Addr)),x=.ref p/\y=.ref q/\H p=some (.lst (ms.map λx=>V.ref x.2))/\H q=some (.lst (ms'.map λx=>V.ref x.2))/\(∀x∈ms,NkAt H x.1 x.2)/\(∀x∈ms',NkAt H x.1 x.2)/\ms.map (·.1)=ms'.map (·.1)/\Q (.bl true) H):=by
 intro pins s σ H x y v u Q I rx ry h
 obtain⟨p,q0,ms,ms',rfl,rfl,hp,hq,h1,h2,e,q⟩:=h
 cases rx
 cases ry
 obtain⟨its,rv,pl,hz⟩:=I.list (SqL.of (K:=X.K) hp)
 obtain⟨its2,rv2,pl2,hz2⟩:=I.list (SqL.of (K:=X.K) hq)
 have e1:=Hr rv
 have e2:=Hr rv2
 subst e1 e2
 have l1:ms.length=ms'.length:=by have:=Aea List.length e;rw[Ac0,Ac0] at this;exact this
 refine eq_listAt (e:=λ_=>true) pl.isList pl2.isList (by simp[l1]) (by lia) (λj g1 g2=>?_) ?_
 ·
  have j1:j<ms.length:=by simpa using g1
  have j2:j<ms'.length:=by simpa using g2
  have ek:(ms[j]).1=(ms'[j]).1:=by
   have:=Aea (λl=>l[j]?) e
   simp only[Adl,Adh j1,Adh j2] at this
   exact Adt this
  have:=Wv (A:=X.A.in1) (s:=s) (by show X.A.units+1+1<cLine;lia) (By I.hok (h1 _ (Afh j1))) (By I.hok (h2 _ (Afh j2)))
  rw[Ac3 ek] at this
  simpa using this
 ·
  have es:(List.range (ms.map λx=>Value.ref x.2).toArray.size).all (λ_=>true)=true:=by rw[Ah7];intros;rfl
  rw[es]
  exact⟨.bl _,H,I,rfl,q⟩
end
end L2
namespace L2
open PySem PySem.Spec PyProof.Rows DX
theorem N6 {α:Type}{lt:α->α->Bool}(L:Lin lt): ∀{a b:List α},a.Pairwise (λx y=>lt x y=true)->b.Pairwise (λx y=>lt x y=true)->(∀z,z∈a↔z∈b)->a=b
 | [],[],_,_,_=>rfl
 | [],y::ys,_,_,h=>nomatch (h y).mpr (Ac8 ..)
 | x::xs,[],_,_,h=>nomatch (h x).mp (Ac8 ..)
 |
  x::xs,y::ys,h1,h2,h=>by
  rw[Ait] at h1 h2
  have e:x=y:=by
   rcases Ado.mp ((h x).mp (Ac8 ..)) with e|hx
   · exact e
   rcases Ado.mp ((h y).mpr (Ac8 ..)) with e|hy
   · exact e.symm
   have:=L.asym (h2.1 x hx)
   rw[h1.1 y hy] at this
   cases this
  subst e
  refine Aea _ (N6 L h1.2 h2.2 λz=>?_)
  have ne: ∀{l:List α},(∀u∈l,lt x u=true)->x∉l:=λk hx=>by have:=k x hx;rw[L.irr] at this;cases this
  constructor
  ·
   intro hz
   rcases Ado.mp ((h z).mp (Adi _ hz)) with e|e
   · subst e;exact absurd hz (ne h1.1)
   · exact e
  ·
   intro hz
   rcases Ado.mp ((h z).mpr (Adi _ hz)) with e|e
   · subst e;exact absurd hz (ne h2.1)
   · exact e
def tk (d:Td):Str×Int:=(d.a,d.n)
def mkN (k:Str×Int):List NK:=[nS k.1,nI k.2]
theorem Sh {k k':Str×Int}(h:mkN k=mkN k'):k=k':=by
 injection h with h1 h2
 injection h2 with h2 _
 exact Ah2 (Afj (Aee h1)) (Aee (Aee h2))
section
variable {ms:List (Lt×Addr)}{k:Str×Int}{d:Td}
theorem jm (h:IsTold ltP (inK ms k) (some d)):tk d=k:=by
 obtain⟨x,hx,t⟩:=h
 have e:=hx.1.2
 cases x with
 | off a n t'=>cases (show d=_ from t);exact e
 |
  bid a n t' b e' hs=>
  obtain⟨wf,_,r⟩:=t
  rcases r with⟨_,rfl⟩|⟨_,_,_,_,rfl⟩
  · exact e
  · exact e
 | close=>exact t.elim
 | ans=>exact t.elim
theorem rg (h:IsTold ltP (inK ms k) (some d)):(d.st="off"/\d.be=none)∨(d.st≠"off"/\ ∃b e,d.be=some (b,e)):=by
 obtain⟨x,hx,t⟩:=h
 cases x with
 | off a n t'=>cases (show d=_ from t);exact .inl ⟨rfl,rfl⟩
 |
  bid a n t' b e' hs=>
  obtain⟨wf,_,r⟩:=t
  rcases r with⟨_,rfl⟩|⟨_,_,_,_,rfl⟩
  · exact .inr ⟨(by decide:(Str.ofString "open")≠Str.ofString "off"),b,e',rfl⟩
  · exact .inr ⟨(by decide:(Str.ofString "closed")≠Str.ofString "off"),b,e',rfl⟩
 | close=>exact t.elim
 | ans=>exact t.elim
end
structure TdsOk (ms:List (Lt×Addr))(ds:List Td):Prop where
 is_: ∀d∈ds,IsTold ltP (inK ms (tk d)) (some d)
 all: ∀x,inM ms x->x.bo=true->x.mk∈ds.map tk
 up:(ds.map λd=>mkN (tk d)).Pairwise (λx y=>ltL x y=true)
theorem TdsOk.keys {ms:List (Lt×Addr)}{ds:List Td}(h:TdsOk ms ds)(k:Str×Int):k∈ds.map tk↔ ∃x,inM ms x/\x.bo=true/\x.mk=k:=by
 constructor
 ·
  intro hk
  obtain⟨d,hd,rfl⟩:=Ac2.mp hk
  obtain⟨x,hx,_⟩:=h.is_ d hd
  exact⟨x,hx.1.1,hx.2.1,hx.1.2⟩
 ·
  rintro⟨x,h1,h2,rfl⟩
  exact h.all x h1 h2
theorem TdsOk.uniq {ms:List (Lt×Addr)}{ds ds':List Td}(U: ∀k,lu (inK ms k))(h:TdsOk ms ds)(h':TdsOk ms ds'):ds=ds':=by
 have e:(ds.map λd=>mkN (tk d))=ds'.map λd=>mkN (tk d):=by
  refine N6 Dn h.up h'.up λz=>?_
  have two: ∀{l:List Td},(z∈l.map λd=>mkN (tk d))↔ ∃k∈l.map tk,mkN k=z:=λ{l}=>by
   constructor
   ·
    intro hz
    obtain⟨d,hd,rfl⟩:=Ac2.mp hz
    exact⟨tk d,Ada hd,rfl⟩
   ·
    rintro⟨k,hk,rfl⟩
    obtain⟨d,hd,rfl⟩:=Ac2.mp hk
    exact Ada (f:=λd=>mkN (tk d)) hd
  rw[two,two]
  constructor
  ·
   rintro⟨k,hk,rfl⟩
   exact⟨k,(h'.keys k).mpr ((h.keys k).mp hk),rfl⟩
  ·
   rintro⟨k,hk,rfl⟩
   exact⟨k,(h.keys k).mpr ((h'.keys k).mp hk),rfl⟩
 refine Agd λi=>?_
 have ei:=Aea (λl=>l[i]?) e
 simp only[Adl] at ei
 cases e1:ds[i]? with
 |
  none=>
  rw[e1] at ei
  cases e2:ds'[i]? with
  | none=>rfl
  | some d'=>rw[e2] at ei;cases ei
 |
  some d=>
  rw[e1] at ei
  cases e2:ds'[i]? with
  | none=>rw[e2] at ei;cases ei
  |
   some d'=>
   rw[e2] at ei
   have ek:tk d=tk d':=Sh (Adt ei)
   have a1:=h.is_ d (Ad6 e1)
   have a2:=h'.is_ d' (Ad6 e2)
   rw[←ek] at a2
   exact Aea some (Adt (IsTold.uniq M0 (U _) a1 a2))
abbrev Qd:=Int×Int×Str×Int
def qn (q:Qd):List NK:=[nI q.1,nI q.2.1,nS q.2.2.1,nI q.2.2.2]
theorem xr {q q':Qd}(h:qn q=qn q'):q=q':=by
 injection h with h1 h
 injection h with h2 h
 injection h with h3 h
 injection h with h4 _
 exact Ah2 (Aee (Aee h1)) (Ah2 (Aee (Aee h2)) (Ah2 (Afj (Aee h3)) (Aee (Aee h4))))
def Jw (h:Str)(d:Td):Bool:=!decide (d.st="off")&&(decide (d.a=h)||(decide (h∈d.yes)&&(decide (d.st="open")||decide (h∈d.come))))
def Rr (d:Td):Qd:=((d.be.getD (0,0)).1,(d.be.getD (0,0)).2,d.a,d.n)
structure Acx (ds:List Td)(h:Str)(qs:List Qd):Prop where
 perm:qs.Perm ((ds.filter (Jw h)).map Rr)
 up:(qs.map qn).Pairwise (λx y=>ltL y x=false)
def HoldsIs (ms:List (Lt×Addr))(h:Str)(qs:List Qd):Prop:=∃ds,TdsOk ms ds/\Acx ds h qs
theorem HoldsIs.uniq {ms:List (Lt×Addr)}{h:Str}{qs qs':List Qd}(U: ∀k,lu (inK ms k))(a:HoldsIs ms h qs)(b:HoldsIs ms h qs'):qs=qs':=by
 obtain⟨ds,t1,h1⟩:=a
 obtain⟨ds',t2,h2⟩:=b
 have e:=t1.uniq U t2
 subst e
 have e2:qs.map qn=qs'.map qn:=DX.Li Dn ((h1.perm.trans h2.perm.symm).map qn) h1.up h2.up
 exact(Af6 λx y z=>xr z).mp e2
def ng (H:Hp)(q:Qd)(r:Addr):Prop:=H r=some (.tup [.int q.1,.int q.2.1,.str q.2.2.1,.int q.2.2.2])
theorem ou {H:Hp}{n:Nat}{p q:Addr}{rs rs':List (Qd×Addr)}(hp:H p=some (.lst (rs.map λr=>V.ref r.2)))(hq:H q=some (.lst (rs'.map λr=>V.ref r.2)))(e:rs.map (·.1)=rs'.map (·.1))(h: ∀y∈rs,ng H y.1 y.2)(h': ∀y∈rs',ng H y.1 y.2)(hl:rs.length<=1000):AlH H (n+3) (.ref p) (.ref q):=by
 have e2:rs.length=rs'.length:=by have:=Aea List.length e;rw[Ac0,Ac0] at this;exact this
 refine .inr ⟨p,q,_,_,rfl,rfl,.inr ⟨hp,hq⟩,by rw[Ac0,Ac0];exact e2,by rw[Ac0];lia,?_⟩
 intro i x y hx hy
 rw[Adl] at hx hy
 obtain⟨a,ha,rfl⟩:=Aen.mp hx
 obtain⟨b,hb,rfl⟩:=Aen.mp hy
 have e3:(rs.map (·.1))[i]?=(rs'.map (·.1))[i]?:=by rw[e]
 rw[Adl,Adl,ha,hb] at e3
 have e4:a.1=b.1:=Adt e3
 have h1:=h a (Ad6 ha)
 have h2:=h' b (Ad6 hb)
 rw[←e4] at h2
 exact .inr ⟨a.2,b.2,_,_,rfl,rfl,.inl ⟨h1,h2⟩,rfl,by show 4<=1000;decide,Cj ri (Cj ri (Cj Aa9 (Cj ri dc)))⟩
theorem om {H:Hp}{n:Nat}{p q:Addr}{rs rs':List (Td×Addr)}(hp:H p=some (.lst (rs.map λr=>V.ref r.2)))(hq:H q=some (.lst (rs'.map λr=>V.ref r.2)))(e:rs.map (·.1)=rs'.map (·.1))(h: ∀y∈rs,TdAt H y.1 y.2)(h': ∀y∈rs',TdAt H y.1 y.2)(hl:rs.length<=1000):AlH H (n+4) (.ref p) (.ref q):=by
 have e2:rs.length=rs'.length:=by have:=Aea List.length e;rw[Ac0,Ac0] at this;exact this
 refine .inr ⟨p,q,_,_,rfl,rfl,.inr ⟨hp,hq⟩,by rw[Ac0,Ac0];exact e2,by rw[Ac0];lia,?_⟩
 intro i x y hx hy
 rw[Adl] at hx hy
 obtain⟨a,ha,rfl⟩:=Aen.mp hx
 obtain⟨b,hb,rfl⟩:=Aen.mp hy
 have e3:(rs.map (·.1))[i]?=(rs'.map (·.1))[i]?:=by rw[e]
 rw[Adl,Adl,ha,hb] at e3
 have e4:a.1=b.1:=Adt e3
 have h1:=h a (Ad6 ha)
 have h2:=h' b (Ad6 hb)
 rw[←e4] at h2
 exact xt h1 h2
end L2
namespace L2
open PySem PySem.Spec PyProof.Rows
def setB {α:Type}(f:Bool->α)(s:Bool)(v:α):Bool->α:=λr=>if r=s then v else f r
theorem B7 {α:Type}{f:Bool->α}{s:Bool}{v:α}:setB f s v s=v:=if_pos rfl
theorem El {α:Type}{f:Bool->α}{s r:Bool}{v:α}(h:r≠s):setB f s v r=f r:=if_neg h
theorem Vz {α:Type}[DecidableEq α]: ∀{l m:List α},l.Nodup->(∀x∈l,x∈m)->l.length<=m.length
 | [],_,_,_=>Adw _
 |
  a::l,m,nd,h=>by
  rw[List.nodup_cons] at nd
  have ha:=h a (Ac8 ..)
  have ih:=Vz (m:=m.erase a) nd.2 λx hx=>(List.mem_erase_of_ne (λ(e:x=a)=>nd.1 (by rw[←e];exact hx))).mpr (h x (Adi _ hx))
  rw[List.length_erase_of_mem ha] at ih
  have:=List.length_pos_of_mem ha
  show l.length+1<=_
  lia
section
variable {F:Lt->Prop}{P:Program}{w:World}{C:Addr}{H0 H H':Hp}
theorem TabAt.noins {x k m t:Addr}{ms:List (Lt×Addr)}{bs:MBs}{ts:List (List Key×V)}(T:TabAt P w C H x k m t ms bs ts){b C' dx:Addr}{fs:List (Str×V)}(h:H b=some (.ins C' dx fs)): ¬Sz k m t bs b:=by
 rintro(z|z|z|⟨y,hy,z⟩)
 · rw[z] at h;rcases T.kept.at_ with e|⟨_,e⟩<;>rw[e] at h<;>cases h
 · rw[z,T.byM] at h;cases h
 · rw[z,T.told] at h;cases h
 · rw[←z,T.by_.at_ y hy] at h;cases h
def MDb (k m t:Bool->Addr)(bs:Bool->MBs)(Hd b:Addr):Prop:=(∃s,Sz (k s) (m s) (t s) (bs s) b)∨b=Hd
structure DI (F:Lt->Prop)(P:Program)(w:World)(C:Addr)(H0 H:Hp)(x k m t:Bool->Addr)(Hd:Addr)(ms:Bool->List (Lt×Addr))(bs:Bool->MBs)(ts:Bool->List (List Key×V))(hs:List Addr):Prop where
 base:Same H0 (Frm (MDb k m t bs Hd) H)
 tab: ∀s,TabAt P w C H (x s) (k s) (m s) (t s) (ms s) (bs s) (ts s)
 tl: ∀s,TlOk H (ms s) (ts s)
 lok: ∀s,∀y∈ms s,F y.1
 nd: ∀s,((ms s).map λy=>y.1.nk).Nodup
 hd:H Hd=some (.lst (hs.map V.ref))
 held: ∀h∈hs,HeldAt (Frm (MDb k m t bs Hd) H) h
 sep: ∀s,∀y∈bs s,y.2.1≠Hd
 dis: ∀s r,s≠r-> ∀b,Sz (k s) (m s) (t s) (bs s) b->Sz (k r) (m r) (t r) (bs r) b->False
variable {x k m t:Bool->Addr}{Hd:Addr}{ms:Bool->List (Lt×Addr)}{bs:Bool->MBs}{ts:Bool->List (List Key×V)}{hs:List Addr}{l:Lt}{p:Addr}{bs':MBs}{ts':List (List Key×V)}
theorem DI.up (I:DI F P w C H0 H x k m t Hd ms bs ts hs)(s:Same H H'):DI F P w C H0 H' x k m t Hd ms bs ts hs:=
 ⟨I.base.trans (Frm.grow s),λr=>(I.tab r).up s,λr=>(I.tl r).up s,I.lok,I.nd,s _ _ I.hd,λh hh=>(I.held h hh).up (Frm.grow s),I.sep,I.dis⟩
theorem DI.mk_ (I:DI F P w C H0 H x k m t Hd ms bs ts hs){b:Addr}(h:MDb k m t bs Hd b):H b≠none:=by
 rcases h with⟨s,h⟩|rfl
 · exact(I.tab s).own h
 · rw[I.hd];exact λz=>nomatch z
theorem DI.tupF (I:DI F P w C H0 H x k m t Hd ms bs ts hs)(b:Addr)(xs:List V)(h:H b=some (.tup xs)):Frm (MDb k m t bs Hd) H b=some (.tup xs):=by
 refine Frm.iff.mpr ⟨?_,h⟩
 rintro(⟨s,z⟩|z)
 · exact(I.tab s).notup h z
 · rw[z,I.hd] at h;cases h
theorem DI.hdn (I:DI F P w C H0 H x k m t Hd ms bs ts hs)(s:Bool): ¬Sz (k s) (m s) (t s) (bs s) Hd:=(dk (I.tab s) I.hd λy hy=>I.sep s y hy).1
theorem DI.took (I:DI F P w C H0 H x k m t Hd ms bs ts hs)(s:Bool)(fr: ∀b o,H b=some o-> ¬Sz (k s) (m s) (t s) (bs s) b->H' b=some o)(new: ∀y∈bs',(∃z∈bs s,z.2.1=y.2.1)∨H y.2.1=none)
  (T':TabAt P w C H' (x s) (k s) (m s) (t s) (ms s++[(l,p)]) bs' ts') (tl':TlOk H' (ms s++[(l,p)]) ts') (hok:F l) (hn:Qu (nks (ms s)) l.nk=false):
  DI F P w C H0 H' x k m t Hd (setB ms s (ms s++[(l,p)])) (setB bs s bs') (setB ts s ts') hs:=by
 have tups: ∀b xs,H b=some (.tup xs)->H' b=some (.tup xs):=λb xs e=>fr b _ e ((I.tab s).notup e)
 have old: ∀{b:Addr},Sz (k s) (m s) (t s) bs' b->Sz (k s) (m s) (t s) (bs s) b∨H b=none:=by
  rintro b (z|z|z|⟨y,hy,z⟩)
  · exact .inl (.inl z)
  · exact .inl (.inr (.inl z))
  · exact .inl (.inr (.inr (.inl z)))
  ·
   rcases new y hy with⟨u,hu,e⟩|e
   · exact .inl (.inr (.inr (.inr ⟨u,hu,e.trans z⟩)))
   · exact .inr (by rw[←z];exact e)
 have st:Same (Frm (MDb k m t bs Hd) H) (Frm (MDb k m t (setB bs s bs') Hd) H'):=by
  refine Frm.step (λb o e n=>fr b o e λz=>n (.inl ⟨s,z⟩)) ?_
  rintro b (⟨r,z⟩|z)
  ·
   by_cases hr:r=s
   ·
    subst hr
    rw[B7] at z
    exact(old z).imp (λy=>.inl ⟨r,y⟩) id
   ·
    rw[El hr] at z
    exact .inl (.inl ⟨r,z⟩)
  · exact .inl (.inr z)
 refine⟨I.base.trans st,λr=>?_,λr=>?_,λr y hy=>?_,λr=>?_,fr _ _ I.hd (I.hdn s),λh hh=>(I.held h hh).up st,λr y hy=>?_,λr q hrq b z1 z2=>?_⟩
 ·
  by_cases hr:r=s
  ·
   subst hr
   rw[B7,B7,B7]
   exact T'
  ·
   rw[El hr,El hr,El hr]
   refine(I.tab r).frame (λb o e z=>fr b o e λy=>?_) (λy hy=>((I.tab r).ok y hy).upT tups)
   rcases z with z|z
   · exact I.dis r s hr b z y
   ·
    obtain⟨dx,hx⟩:=(I.tab r).ins
    rw[z] at y
    exact(I.tab s).noins hx y
 ·
  by_cases hr:r=s
  ·
   subst hr
   rw[B7,B7]
   exact tl'
  ·
   rw[El hr,El hr]
   exact(I.tl r).upT tups
 ·
  by_cases hr:r=s
  ·
   subst hr
   rw[B7] at hy
   rcases Adq.mp hy with hy|hy
   · exact I.lok r y hy
   · rw[Ac9] at hy;subst hy;exact hok
  ·
   rw[El hr] at hy
   exact I.lok r y hy
 ·
  by_cases hr:r=s
  ·
   subst hr
   rw[B7,Adx,Agc]
   refine⟨I.nd r,Aev _ _,λa ha b hb=>?_⟩
   rw[Ahr,Ac9] at hb
   subst hb
   exact λe=>jt hn ((show a=l.nk from e)▸ha)
  ·
   rw[El hr]
   exact I.nd r
 ·
  by_cases hr:r=s
  ·
   subst hr
   rw[B7] at hy
   rcases new y hy with⟨z,hz,e⟩|e
   · rw[←e];exact I.sep r z hz
   · intro z;rw[z,I.hd] at e;cases e
  ·
   rw[El hr] at hy
   exact I.sep r y hy
 ·
  by_cases hr:r=s
  ·
   subst hr
   rw[B7] at z1
   rw[El (λe=>hrq e.symm)] at z2
   rcases old z1 with z|z
   · exact I.dis r q hrq b z z2
   · exact(I.tab q).own z2 z
  ·
   rw[El hr] at z1
   by_cases hq:q=s
   ·
    subst hq
    rw[B7] at z2
    rcases old z2 with z|z
    · exact I.dis r q hrq b z1 z
    · exact(I.tab r).own z1 z
   ·
    rw[El hq] at z2
    exact I.dis r q hrq b z1 z2
theorem DI.keep (I:DI F P w C H0 H x k m t Hd ms bs ts hs){h:Addr}(hh:HeldAt (Frm (MDb k m t bs Hd) H) h):DI F P w C H0 (upd H Hd (.lst (hs.map V.ref++[.ref h]))) x k m t Hd ms bs ts (hs++[h]):=by
 have st:Same (Frm (MDb k m t bs Hd) H) (Frm (MDb k m t bs Hd) (upd H Hd (.lst (hs.map V.ref++[.ref h])))):=Frm.put (.inr rfl)
 refine⟨I.base.trans st,λs=>qw (I.tab s) I.hd λy hy=>I.sep s y hy,λs=>(I.tl s).upT λb xs e=>by rw[Aq (Ff e I.hd (λz=>nomatch z))];exact e,I.lok,I.nd,by rw[Adx];exact Ad,λg hg=>?_,I.sep,I.dis⟩
 rcases Adq.mp hg with hg|hg
 · exact(I.held g hg).up st
 · rw[Ac9] at hg;subst hg;exact hh.up st
end
abbrev AtM (K:W.Frag)(n:Str)(f:Addr):Prop:=W.nsIn K mainGlobals n=some (some (.ref f))
abbrev AtC (K:W.Frag)(x:Addr)(n:Str)(f:Addr):Prop:=W.findIn K (.ref x) n=some (some (.ref f))
abbrev NoA (K:W.Frag)(x:Addr)(n:Str):Prop:=W.findIn K (.ref x) n=some none
abbrev IsF (K:W.Frag)(f:Addr):Prop:=W.isFn K (.ref f)=true
abbrev NoM (K:W.Frag)(n:Str):Prop:=W.nsIn K mainGlobals n=some none
section
variable {K:W.Frag}{x qual:Str}{st:Stmt}{f:Addr}{fd:FuncData}
theorem Fun.b1 {p1:Str}(F:Fun K x qual st f fd)(h: ∀(u1:Value)(kV doc pm:Value)(an:Option Addr)(cdv ct:Value),bindArgs (W.fnOf x qual (Gf st) (Fi st) (Af st) .none kV doc pm an cdv ct) ⟨[u1],[]⟩=pure [(p1,u1)]):Binds K fd [p1] []:=F.binds λa b c d e g us hl=>match us,hl with|[u1],_=>h u1 a b c d e g
theorem Fun.b2 {p1 p2:Str}(F:Fun K x qual st f fd)(h: ∀(u1 u2:Value)(kV doc pm:Value)(an:Option Addr)(cdv ct:Value),bindArgs (W.fnOf x qual (Gf st) (Fi st) (Af st) .none kV doc pm an cdv ct) ⟨[u1,u2],[]⟩=pure [(p1,u1),(p2,u2)]):Binds K fd [p1,p2] []:=F.binds λa b c d e g us hl=>match us,hl with|[u1,u2],_=>h u1 u2 a b c d e g
theorem Fun.b3 {p1 p2 p3:Str}(F:Fun K x qual st f fd)(h: ∀(u1 u2 u3:Value)(kV doc pm:Value)(an:Option Addr)(cdv ct:Value),bindArgs (W.fnOf x qual (Gf st) (Fi st) (Af st) .none kV doc pm an cdv ct) ⟨[u1,u2,u3],[]⟩=pure [(p1,u1),(p2,u2),(p3,u3)]):Binds K fd [p1,p2,p3] []:=F.binds λa b c d e g us hl=>match us,hl with|[u1,u2,u3],_=>h u1 u2 u3 a b c d e g
theorem Fun.b4 {p1 p2 p3 p4:Str}(F:Fun K x qual st f fd)(h: ∀(u1 u2 u3 u4:Value)(kV doc pm:Value)(an:Option Addr)(cdv ct:Value),bindArgs (W.fnOf x qual (Gf st) (Fi st) (Af st) .none kV doc pm an cdv ct) ⟨[u1,u2,u3,u4],[]⟩=pure [(p1,u1),(p2,u2),(p3,u3),(p4,u4)]):Binds K fd [p1,p2,p3,p4] []:=F.binds λa b c d e g us hl=>match us,hl with|[u1,u2,u3,u4],_=>h u1 u2 u3 u4 a b c d e g
theorem Fun.b5 {p1 p2 p3 p4 p5:Str}(F:Fun K x qual st f fd)(h: ∀(u1 u2 u3 u4 u5:Value)(kV doc pm:Value)(an:Option Addr)(cdv ct:Value),bindArgs (W.fnOf x qual (Gf st) (Fi st) (Af st) .none kV doc pm an cdv ct) ⟨[u1,u2,u3,u4,u5],[]⟩=pure [(p1,u1),(p2,u2),(p3,u3),(p4,u4),(p5,u5)]):Binds K fd [p1,p2,p3,p4,p5] []:=F.binds λa b c d e g us hl=>match us,hl with|[u1,u2,u3,u4,u5],_=>h u1 u2 u3 u4 u5 a b c d e g
theorem Fun.b6 {p1 p2 p3 p4 p5 p6:Str}(F:Fun K x qual st f fd)(h: ∀(u1 u2 u3 u4 u5 u6:Value)(kV doc pm:Value)(an:Option Addr)(cdv ct:Value),bindArgs (W.fnOf x qual (Gf st) (Fi st) (Af st) .none kV doc pm an cdv ct) ⟨[u1,u2,u3,u4,u5,u6],[]⟩=pure [(p1,u1),(p2,u2),(p3,u3),(p4,u4),(p5,u5),(p6,u6)]):Binds K fd [p1,p2,p3,p4,p5,p6] []:=F.binds λa b c d e g us hl=>match us,hl with|[u1,u2,u3,u4,u5,u6],_=>h u1 u2 u3 u4 u5 u6 a b c d e g
end
end L2
set_option smartUnfolding false
namespace K65
open PySem L2
def top (i:Nat):Stmt:=PySem.Challenge.pw_hourhouse_k65_whole_in_whatever_order.main.body.getD i (.Pass ⟨0,0,0,0⟩)
abbrev Ha:Stmt:=top 7
abbrev N7:Stmt:=top 10
abbrev Le:Stmt:=top 13
abbrev Jb:Stmt:=top 16
abbrev Kb:Stmt:=top 24
abbrev J9:Stmt:=top 26
abbrev Gh:Stmt:=top 27
abbrev Ot:Stmt:=top 30
abbrev Hh:Stmt:=inClass (top 31) 0
abbrev Gg:Stmt:=inClass (top 31) 2
abbrev F6:Stmt:=inClass (top 31) 4
abbrev Gz:Stmt:=inClass (top 31) 3
abbrev Jg:Stmt:=top 33
abbrev Lh:Stmt:=top 34
abbrev Ij:Stmt:=top 35
abbrev Pd:Stmt:=top 38
abbrev Bd:Stmt:=top 43
abbrev P1:Stmt:=top 8
abbrev Ov:Stmt:=top 14
abbrev C5:Stmt:=top 28
abbrev C8:Stmt:=inClass (top 31) 5
abbrev E3:Stmt:=top 36
abbrev Hq:Stmt:=top 37
abbrev Du:Stmt:=top 41
abbrev Fz:Stmt:=top 44
abbrev B9:Stmt:=top 47
abbrev Lo:Stmt:=top 15
abbrev Sa:Stmt:=top 19
abbrev Jj:Stmt:=top 25
abbrev Jz:Stmt:=top 39
abbrev Hj:Stmt:=top 40
abbrev Hg:Stmt:=top 46
abbrev Iy:Stmt:=top 17
abbrev Lc:Stmt:=top 21
abbrev O1:Stmt:=top 29
abbrev F7:Stmt:=top 42
abbrev Sl:Stmt:=top 18
abbrev Mz:Stmt:=top 20
abbrev La:Stmt:=top 22
abbrev Kj:Stmt:=inClass (top 31) 1
abbrev Kn:Stmt:=top 45
abbrev Gb:Stmt:=top 48
abbrev P8:Stmt:=top 49
set_option genInjectivity false
set_option genSizeOf false
structure Adr where
 G9:Addr
 Gy:FuncData
 L5:Addr
 L4:FuncData
 Jq:Addr
 Ja:FuncData
 Ig:Addr
 Iz:FuncData
 Hc:Addr
 Gq:FuncData
 Gs:Addr
 G5:FuncData
 Iv:Addr
 Hy:FuncData
 Mf:Addr
 Mc:FuncData
 Ex:Addr
 E4:FuncData
 C1:Addr
 C7:FuncData
 Dp:Addr
 Dy:FuncData
 G3:Addr
 G2:FuncData
 Fp:Addr
 Fq:FuncData
 I0:Addr
 Ir:FuncData
 Fy:Addr
 Fm:FuncData
 Mh:Addr
 L0:FuncData
 Cp:Addr
 Cn:FuncData
 Ma:Addr
 L1:FuncData
 L6:Addr
 L9:FuncData
 Fw:Addr
 Fo:FuncData
 Fv:Addr
 Fx:FuncData
 Es:Addr
 Ew:FuncData
 Ko:Addr
 Ks:FuncData
 Dc:Addr
 Dm:FuncData
 Fn:Addr
 F0:FuncData
 Gx:Addr
 Hb:FuncData
 Ip:Addr
 Ji:FuncData
 Nz:Addr
 N3:FuncData
 Ib:Addr
 Im:FuncData
 G6:Addr
 Gr:FuncData
 E8:Addr
 E7:FuncData
 Ey:Addr
 Eu:FuncData
 Jf:Addr
 Hz:FuncData
 Iu:Addr
 Hx:FuncData
 Mj:Addr
 Md:FuncData
 Dr:Addr
 Di:FuncData
 N5:Addr
 N1:FuncData
 Kl:Addr
 Kq:FuncData
 Ii:Addr
 Jo:FuncData
 G7:Addr
 G8:FuncData
 Eg:Addr
 Ei:FuncData
 C2:Addr
 Dj:FuncData
 Y3:Addr
 Ww:FuncData
 Aj:Addr
structure Txt (K:W.Frag)(mg:Str->Option Value)(a:Adr):Prop where
 Nf:Fun K "is_made_of" "is_made_of" Ha a.G9 a.Gy
 Ti:mg "is_made_of"=some (.ref a.G9)
 Tz:Binds K a.Gy ["text","signs"] []
 U1:Fun K "is_span" "is_span" N7 a.L5 a.L4
 av:mg "is_span"=some (.ref a.L5)
 e9:Binds K a.L4 ["begin","end"] []
 Jn:Fun K "is_number" "is_number" Le a.Jq a.Ja
 Ll:mg "is_number"=some (.ref a.Jq)
 Lb:Binds K a.Ja ["value"] []
 Pu:Fun K "is_rising" "is_rising" Jb a.Ig a.Iz
 Wm:mg "is_rising"=some (.ref a.Ig)
 Wk:Binds K a.Iz ["hands"] []
 Vl:Fun K "turn_first" "turn_first" Kb a.Hc a.Gq
 Vt:mg "turn_first"=some (.ref a.Hc)
 Va:Binds K a.Gq ["letter"] []
 M5:Fun K "answers_of" "answers_of" J9 a.Gs a.G5
 Uj:mg "answers_of"=some (.ref a.Gs)
 Vv:Binds K a.G5 ["letters","turn"] []
 Jd:Fun K "with_word" "with_word" Gh a.Iv a.Hy
 Lq:mg "with_word"=some (.ref a.Iv)
 K8:Binds K a.Hy ["asked","answers","word"] []
 Vu:Fun K "is_held" "is_held" Ot a.Mf a.Mc
 bf:mg "is_held"=some (.ref a.Mf)
 fk:Binds K a.Mc ["told","hand"] []
 Qn:Fun K "__init__" "Table.__init__" Hh a.Ex a.E4
 Et:Binds K a.E4 ["self"] []
 Oz:Fun K "letters" "Table.letters" Gg a.C1 a.C7
 Ga:Binds K a.C7 ["self"] []
 P4:Fun K "meeting" "Table.meeting" F6 a.Dp a.Dy
 O0:Binds K a.Dy ["self","asker","number"] []
 Ur:Fun K "told" "Table.told" Gz a.G3 a.G2
 Cv:Binds K a.G2 ["self"] []
 Cg:Fun K "_law_cell_at" "_law_cell_at" Jg a.Fp a.Fq
 C6:mg "_law_cell_at"=some (.ref a.Fp)
 C9:Binds K a.Fq ["_law_script","_law_k"] []
 Be:Fun K "_law_mixed" "_law_mixed" Lh a.I0 a.Ir
 Bg:mg "_law_mixed"=some (.ref a.I0)
 Bh:Binds K a.Ir ["_law_cell","_law_k","_law_many"] []
 Lx:Fun K "_law_name_by" "_law_name_by" Ij a.Fy a.Fm
 R0:mg "_law_name_by"=some (.ref a.Fy)
 Sr:Binds K a.Fm ["_law_k","_law_cell"] []
 Mg:Fun K "_law_key" "_law_key" Pd a.Mh a.L0
 Oi:mg "_law_key"=some (.ref a.Mh)
 Pj:Binds K a.L0 ["_law_seed","_law_names","_law_asker","_law_number","_law_turn"] []
 Ju:Fun K "_law_meeting_by" "_law_meeting_by" Bd a.Cp a.Cn
 Nu:mg "_law_meeting_by"=some (.ref a.Cp)
 Nk:Binds K a.Cn ["_law_letters","_law_asker","_law_number"] []
 Uu:Fun K "is_name" "is_name" P1 a.Ma a.L1
 Z6:mg "is_name"=some (.ref a.Ma)
 cq:Binds K a.L1 ["text"] []
 Gd:Fun K "is_from" "is_from" Ov a.L6 a.L9
 Ht:mg "is_from"=some (.ref a.L6)
 Hw:Binds K a.L9 ["value","least"] []
 L3:Fun K "told_of_bid" "told_of_bid" C5 a.Fw a.Fo
 Rw:mg "told_of_bid"=some (.ref a.Fw)
 Sq:Binds K a.Fo ["letters","bid"] []
 Rj:Fun K "holds" "Table.holds" C8 a.Fv a.Fx
 Ia:Binds K a.Fx ["self","hand"] []
 K3:Fun K "_law_names_by" "_law_names_by" E3 a.Es a.Ew
 P7:mg "_law_names_by"=some (.ref a.Es)
 Qm:Binds K a.Ew ["_law_cell"] []
 Mr:Fun K "_law_some" "_law_some" Hq a.Ko a.Ks
 Qt:mg "_law_some"=some (.ref a.Ko)
 Q1:Binds K a.Ks ["_law_names","_law_asker","_law_seed","_law_k","_law_least"] []
 J3:Fun K "_law_answer_of" "_law_answer_of" Du a.Dc a.Dm
 Ox:mg "_law_answer_of"=some (.ref a.Dc)
 O6:Binds K a.Dm ["_law_seed","_law_names","_law_asker","_law_number","_law_turn","_law_cell"] []
 C3:Fun K "_law_told_by" "_law_told_by" Fz a.Fn a.F0
 F2:mg "_law_told_by"=some (.ref a.Fn)
 Fu:Binds K a.F0 ["_law_letters"] []
 M6:Fun K "_law_orders" "_law_orders" B9 a.Gx a.Hb
 Ve:mg "_law_orders"=some (.ref a.Gx)
 Tr:Binds K a.Hb ["_law_letters","_law_cell"] []
 Il:Fun K "is_called" "is_called" Lo a.Ip a.Ji
 Ld:mg "is_called"=some (.ref a.Ip)
 Lr:Binds K a.Ji ["value"] []
 Xg:Fun K "is_off" "is_off" Sa a.Nz a.N3
 kf:mg "is_off"=some (.ref a.Nz)
 ly:Binds K a.N3 ["letter"] []
 O9:Fun K "latest_of" "latest_of" Jj a.Ib a.Im
 Wy:mg "latest_of"=some (.ref a.Ib)
 Xc:Binds K a.Im ["letters"] []
 M4:Fun K "_law_bid_of" "_law_bid_of" Jz a.G6 a.Gr
 V2:mg "_law_bid_of"=some (.ref a.G6)
 T7:Binds K a.Gr ["_law_seed","_law_names","_law_asker","_law_number","_law_turn"] []
 Kx:Fun K "_law_close_of" "_law_close_of" Hj a.E8 a.E7
 Qa:mg "_law_close_of"=some (.ref a.E8)
 Qe:Binds K a.E7 ["_law_seed","_law_names","_law_asker","_law_number","_law_turn"] []
 Hl:Fun K "_law_holds_by" "_law_holds_by" Hg a.Ey a.Eu
 Ku:mg "_law_holds_by"=some (.ref a.Ey)
 K0:Binds K a.Eu ["_law_letters","_law_hand"] []
 Lp:Fun K "are_hands" "are_hands" Iy a.Jf a.Hz
 Pf:mg "are_hands"=some (.ref a.Jf)
 P2:Binds K a.Hz ["value","asker","least"] []
 O3:Fun K "is_answer" "is_answer" Lc a.Iu a.Hx
 W5:mg "is_answer"=some (.ref a.Iu)
 Xb:Binds K a.Hx ["letter"] []
 U8:Fun K "told_of" "told_of" O1 a.Mj a.Md
 f7:mg "told_of"=some (.ref a.Mj)
 d8:Binds K a.Md ["letters"] []
 Kc:Fun K "_law_letter_by" "_law_letter_by" F7 a.Dr a.Di
 Om:mg "_law_letter_by"=some (.ref a.Dr)
 Oy:Binds K a.Di ["_law_cell","_law_seed","_law_names"] []
 Xk:Fun K "is_bid" "is_bid" Sl a.N5 a.N1
 j4:mg "is_bid"=some (.ref a.N5)
 kc:Binds K a.N1 ["letter"] []
 Q9:Fun K "is_close" "is_close" Mz a.Kl a.Kq
 Yt:mg "is_close"=some (.ref a.Kl)
 Ys:Binds K a.Kq ["letter"] []
 Px:Fun K "is_letter" "is_letter" La a.Ii a.Jo
 Wr:mg "is_letter"=some (.ref a.Ii)
 W3:Binds K a.Jo ["letter"] []
 Uv:Fun K "take" "Table.take" Kj a.G7 a.G8
 Ua:Binds K a.G8 ["self","letter"] []
 Cs:Fun K "_law_like" "_law_like" Kn a.Eg a.Ei
 Eh:mg "_law_like"=some (.ref a.Eg)
 En:Binds K a.Ei ["_law_found","_law_due"] []
 Kd:Fun K "_law_told_well" "_law_told_well" Gb a.C2 a.Dj
 Pp:mg "_law_told_well"=some (.ref a.C2)
 Ou:Binds K a.Dj ["_law_table","_law_letters","_law_names","_law_cell"] []
 zz:Fun K "law" "law" P8 a.Y3 a.Ww
 Aan:mg "law"=some (.ref a.Y3)
 Acl:Binds K a.Ww ["_law_script"] []
 J4: ∃t,mg "FIGURES"=some (.str "0123456789" t)
 Hn: ∃t,mg "LETTERS"=some (.str "abcdefghijklmnopqrstuvwxyz" t)
 Fb: ∃t,mg "MOST_HANDS"=some (.int 20 t)
 E9: ∃t,mg "NAME_SIGNS"=some (.int 8 t)
 R1:mg "Table"=some (.ref a.Aj)
 Bl:Cls K a.Aj
 G1:Mk K a.Aj a.Ex
 G4:NoAttr K a.Aj "kept"
 Dz:NoAttr K a.Aj "by_meeting"
 B8:NoAttr K a.Aj "tellings"
 Hi:Meth K a.Aj "holds" a.Fv
 Fl:Meth K a.Aj "letters" a.C1
 Nj:Meth K a.Aj "meeting" a.Dp
 R9:Meth K a.Aj "take" a.G7
 Cf:Meth K a.Aj "told" a.G3
 Oj:mg "all"=none
 Q6:mg "bool"=none
 Wl:mg "int"=none
 Ba:mg "isinstance"=none
 Cy:mg "len"=none
 Ob:mg "list"=none
 Ui:mg "max"=none
 az:mg "min"=none
 Fh:mg "range"=none
 Ci:mg "sorted"=none
 W0:mg "str"=none
 Cd:mg "tuple"=none
def LT:List Nat:=(Str.ofString "abcdefghijklmnopqrstuvwxyz").cps.toList
def AL:List Nat:=(Str.ofString "abcdefghijklmnopqrstuvwxyz0123456789").cps.toList
def Lv (l:List Nat):Bool:=if l.length<1∨8<l.length then false else decide (l.headD 0∈LT)&&l.all λc=>decide (c∈AL)
theorem We {l:List Nat}(h:l.length<1):Lv l=false:=by unfold Lv;rw[if_pos (.inl h)]
theorem Zr {l:List Nat}(h:8<l.length):Lv l=false:=by unfold Lv;rw[if_pos (.inr h)]
theorem gu {l:List Nat}{c:Nat}(h1: ¬l.length<1)(h2: ¬8<l.length)(e:l[0]?=some c):Lv l=(decide (c∈LT)&&l.all λc=>decide (c∈AL)):=by
 unfold Lv
 rw[if_neg (by intro h;rcases h with h|h<;>lia)]
 cases l with
 | nil=>simp at e
 | cons x r=>simp at e;subst e;rfl
theorem len_app (x y:Str):(x++y).length=x.length+y.length:=Ag7
theorem v9:(10000:Nat)<sizeLine:=by decide
def R8:Sp:=λvs H Q _=>∃t g:Str,vs=[.str t,.str g]/\t.length<=10000/\ ∀H',Same H H'->Q (.bl (t.cps.toList.all λc=>decide (c∈g.cps.toList))) H'
def Zv:Sp:=λvs H Q _=>∃t:Str,vs=[.str t]/\t.length<=10000/\ ∀H',Same H H'->Q (.bl (Lv t.cps.toList)) H'
theorem Se {ts:List Int}{i:Int}(lo hi:Int)(h0:0<=i)(h1:i<ts.length)(hb: ∀t∈ts,lo<=t/\t<=hi): ∃t,lo<=t/\t<=hi/\atI (ts.map V.int) i=some (.int t):=by
 obtain⟨t,ht,e⟩:=i9 (ts:=ts) h0 h1
 exact⟨t,(hb t ht).1,(hb t ht).2,e⟩
def Zb (ns:List Int)(k:Int):Int:=if k<ns.length then ns.getD k.toNat 0 else 0
def Qf (K:W.Frag):Sp:=λvs H Q _=>∃(p:Addr)(ns:List Int)(k:Int),vs=[.ref p,.int k]/\SqL K H p (ns.map V.int)/\0<=k/\Q (.int (Zb ns k)) H
def Acj (b k m:Int):Int:=b%2147483647*(b%2147483647+2*k+1)%1000000007%m
def Y0 (c k m:Int):Int:=Acj (c*48271+7919*k*k+31*k+5) k m
def mj (s:Int)(ns:List Str)(a:Str)(n t:Int):Int:=s+1009*(yx ns a:Nat)+10007*(n%100003)+1000003*(t%100019)
def zf (ns:List Str)(a:Str):List Str:=ns.filter λt=>!decide (t=a)
def k5 (os:List Str)(s k:Int):List Str:=((List.range os.length).filter λ(j:Nat)=>decide (0<Y0 s (k+50+3*(j:Int)) 3)).map λ(j:Nat)=>os.getD j ""
def qy (ns:List Str)(a:Str)(s k m:Int):List Str:=(if((k5 (zf ns a) s k).length:Int)<m then zf ns a else k5 (zf ns a) s k).take 20
def vg (i:Int):Int:=if i=0 then 1 else if i=1 then 30 else 3000
def xk (k:Int):Int:=if Y0 k 3 5=1 then(Y0 k 2 4001-2000)*10 ^ (12:Int).toNat else Y0 k 2 4001-2000
def tj (k:Int)(ns:List Str)(a:Str)(n t:Int):Lt:=if 1<t/\Y0 k 1 6=1 then .off a n t else .bid a n t (xk k) (xk k+1+Y0 k 4 (vg (Y0 k 5 3))) (qy ns a k 6 1)
def Uq (k:Int)(ns:List Str)(a:Str):List Str:=if Y0 k 8 4=1 then[] else qy ns a k 7 0
def Det (s:Int)(ns:List Str):Lt->Prop
 | .bid a n t b e hs=>Lt.bid a n t b e hs=tj (mj s ns a n t) ns a n t
 | .off a n t=>Lt.off a n t=tj (mj s ns a n t) ns a n t
 | .close a n t hs=>hs=Uq (mj s ns a n t) ns a
 | .ans .. =>True
theorem jn {s:Int}{ns:List Str}{S:Lt->Prop}{k:Str×Int}(h: ∀x,S x->Det s ns x/\x.mk=k):lu S where
 bo:=λx y hx hy bx by_ e=>by
  obtain⟨dx,kx⟩:=h x hx
  obtain⟨dy,ky⟩:=h y hy
  have e1: ∀z:Lt,z.bo=true->Det s ns z->z=tj (mj s ns z.asker z.number z.turn) ns z.asker z.number z.turn:=λz hz dz=>by
   cases z with
   | bid=>exact dz
   | off=>exact dz
   | close=>cases hz
   | ans=>cases hz
  have ea:x.asker=y.asker:=Aea Prod.fst (kx.trans ky.symm)
  have en:x.number=y.number:=Aea Prod.snd (kx.trans ky.symm)
  rw[e1 x bx dx,e1 y by_ dy,ea,en,e]
 cl:=λa n t hs a' n' hs' h1 h2=>by
  obtain⟨d1,k1⟩:=h _ h1
  obtain⟨d2,k2⟩:=h _ h2
  have e:=k1.trans k2.symm
  have ea:a=a':=Aea Prod.fst e
  have en:n=n':=Aea Prod.snd e
  subst ea en
  exact d1.trans d2.symm
def Vq:Sp:=λvs H Q _=>∃c k m:Int,vs=[.int c,.int k,.int m]/\0<=k/\k<=100000/\0<m/\ ∀v:Int,0<=v->v<m->v=Y0 c k m->Q (.int v) H
def Xt (K:W.Frag):Sp:=λvs H Q _=>∃(a:Addr)(ns:List Int),vs=[.ref a]/\SqL K H a (ns.map V.int)/\ns.length<=63/\ ∀H',Q (.bl true) H'
theorem i4 {i j:Int}:decide (V.int i=V.int j)=decide (i=j):=Aej.mpr (by rw[V.int.injEq])
open DW
abbrev NM:Str->Bool:=λt=>Lv t.cps.toList
def Zj:Sp:=λvs H Q _=>∃b e:Int,vs=[.int b,.int e]/\Q (.bl (decide (b<e))) H
def U3:Sp:=λvs H Q _=>∃(v:V)(w:W),vs=[v]/\WV H w v/\Q (.bl (kz w)) H
def Yz:Sp:=λvs H Q _=>∃(v:V)(w:W)(k:Int),vs=[v,.int k]/\WV H w v/\Q (.bl (Jm w k)) H
def Vm:Sp:=λvs H Q _=>∃(v:V)(w:W),vs=[v]/\WV H w v/\ ∀H',Same H H'->Q (.bl (Qh NM w)) H'
def Vr:Sp:=λvs H Q _=>∃(r:Addr)(l:List Str),vs=[.ref r]/\H r=some (.tup (l.map V.str))/\l.length<=1000/\ ∀H',Same H H'->Q (.bl (Hf l)) H'
def Vp:Sp:=λvs H Q _=>∃(v:V)(w:W)(a:Str)(k:Nat),vs=[v,.str a,.int (k:Int)]/\WV H w v/\ ∀H',Same H H'->Q (.bl (Cb NM w a k)) H'
def yy (f:List W->Bool):Sp:=λvs H Q _=>∃(p:Addr)(ps:List PW_)(a:Str),vs=[.ref p]/\LetAt H p ps/\4<=ps.length/\at_ (ws ps) 1=.s a/\ ∀H',Same H H'->Q (.bl (f (ws ps))) H'
def Vi:Sp:=λvs H Q _=>∃(p:Addr)(ps:List PW_),vs=[.ref p]/\LetAt H p ps/\ ∀H',Same H H'->Q (.bl (isL NM (ws ps))) H'
theorem getD_at {l:List Str}{j:Nat}(h:j<l.length):atI (l.map V.str) (j:Int)=some (.str (l.getD j "")):=by
 refine A8 ?_
 rw[Adl,Agh,Adh h]
 rfl
def ltF (l:List Str):V->V
 | .int i=>.bl (decide ((l.getD (i-1).toNat "").cps.toList<(l.getD i.toNat "").cps.toList))
 | _=>.non
theorem qd (l:List Str)(n:Nat):(((List.range n).map λ(i:Nat)=>V.int (1+(i:Int))).map (ltF l))=((List.range n).map λj=>decide ((l.getD j "").cps.toList<(l.getD (j+1) "").cps.toList)).map V.bl:=by
 rw[Adc,Adc]
 refine Agp λi _=>?_
 show V.bl (decide ((l.getD ((1+(i:Int))-1).toNat "").cps.toList<(l.getD (1+(i:Int)).toNat "").cps.toList))=V.bl _
 rw[show((1+(i:Int))-1).toNat=i by lia,show(1+(i:Int)).toNat=i+1 by lia]
def nmF:V->V
 | .str t=>.bl (Lv t.cps.toList)
 | _=>.bl false
theorem dt {w:W}{a:Str}(h:w=.s a):yv w=a:=by subst h;rfl
theorem Qy {H:Hp}{w:W}{v:V}{t:Str}{Q:VK}(hw:WV H w v)(q:Q (.bl (eqS w t)) H): ∃u,V.str t=.str u/\((rEq v (.str t) H Q)∨ ∃a xs,v=.ref a/\H a=some (.tup xs)/\Q (.bl false) H):=by
 refine⟨t,rfl,?_⟩
 cases w with
 | n=>cases hw;exact .inl ⟨rfl,by rw[show decide (V.non=V.str t)=false from Ac7 (λe=>nomatch e)];exact q⟩
 | b x=>cases hw;exact .inl ⟨rfl,by rw[show decide (V.bl x=V.str t)=false from Ac7 (λe=>nomatch e)];exact q⟩
 | i z=>cases hw;exact .inl ⟨rfl,by rw[show decide (V.int z=V.str t)=false from Ac7 (λe=>nomatch e)];exact q⟩
 | s u=>obtain⟨rfl,_⟩:=hw;exact .inl ⟨rfl,by rw[show decide (V.str u=V.str t)=decide (u=t) from Aej.mpr (by rw[V.str.injEq])];exact q⟩
 | ts l=>obtain⟨r,rfl,h,_⟩:=hw;exact .inr ⟨r,_,rfl,h,q⟩
 | ti z=>obtain⟨r,rfl,h⟩:=hw;exact .inr ⟨r,_,rfl,h,q⟩
theorem c7: ∀{l:List Str},Hf l=true->l.Pairwise (λx y=>ltS x y=true)
 | [],_=>.nil
 | [x],_=>Aev _ _
 |
  x::y::r,h=>by
  simp only[Hf,Adu] at h
  have ih:=c7 (l:=y::r) h.2
  refine List.Pairwise.cons (λz hz=>?_) ih
  rcases Ado.mp hz with rfl|hz
  · exact h.1
  · exact bq.tr _ _ _ h.1 ((List.pairwise_cons.mp ih).1 z hz)
theorem gc: ∀{l:List Str},l.Pairwise (λx y=>ltS x y=true)->Hf l=true
 | [],_=>rfl
 | [x],_=>rfl
 |
  x::y::r,h=>by
  rw[Ait] at h
  simp only[Hf,Adu]
  exact⟨h.1 y (Ac8 ..),gc h.2⟩
theorem Yf {l l':List Str}(h:Hf l=true)(s:l'.Sublist l):Hf l'=true:=gc ((c7 h).sublist s)
theorem zj (gs:List Str):N8 (gs.map V.str) none (some 20)=(gs.take 20).map V.str:=by
 unfold N8
 have e0:HT.sIx (gs.map V.str).length 0 none=0:=rfl
 have e1:HT.sIx (gs.map V.str).length (gs.map V.str).length (some 20)=min 20 (gs.map V.str).length:=by
  unfold HT.sIx
  simp
 rw[e0,e1,List.drop_zero,Nat.sub_zero,←List.map_take,Ac0]
 congr 1
 by_cases h:gs.length<=20
 · rw[Nat.min_eq_right h,Afd,Af5 h]
 · rw[Aie (by lia)]
def Th (l:Lt):Prop:=isL NM l.ws=true
theorem wq {a:Str}{n t b e:Int}{hs:List Str}(ha:NM a=true)(n0:0<=n)(t0:1<=t)(be:b<e)(hh:Cb NM (.ts hs) a 1=true):Th (.bid a n t b e hs):=by
 have e1:decide (0<=n)=true:=Ac3 n0
 have e2:decide (1<=t)=true:=Ac3 t0
 have e3:decide (b<e)=true:=Ac3 be
 show(true&&(NM a&&(decide (0<=n)&&(true&&(decide (1<=t)&&(true&&(true&&(decide (b<e)&&Cb NM (.ts hs) a 1))))))))=true
 rw[ha,e1,e2,e3,hh]
 rfl
theorem vf {a:Str}{n t:Int}(ha:NM a=true)(n0:0<=n)(t0:2<=t):Th (.off a n t):=by
 have e1:decide (0<=n)=true:=Ac3 n0
 have e2:decide (2<=t)=true:=Ac3 t0
 show(true&&(NM a&&(decide (0<=n)&&(true&&decide (2<=t)))))=true
 rw[ha,e1,e2]
 rfl
theorem js {a:Str}{n t:Int}{hs:List Str}(ha:NM a=true)(n0:0<=n)(t0:1<=t)(hh:Cb NM (.ts hs) a 0=true):Th (.close a n t hs):=by
 have e1:decide (0<=n)=true:=Ac3 n0
 have e2:decide (1<=t)=true:=Ac3 t0
 show(true&&(NM a&&(decide (0<=n)&&(true&&(decide (1<=t)&&Cb NM (.ts hs) a 0)))))=true
 rw[ha,e1,e2,hh]
 rfl
theorem vy {a h w:Str}{n t g:Int}(ha:NM a=true)(n0:0<=n)(t0:1<=t)(hh:NM h=true)(hne:h≠a)(g0:0<=g)(hw:w="yes"∨w="no"):Th (.ans a n t h g w):=by
 have e1:decide (0<=n)=true:=Ac3 n0
 have e2:decide (1<=t)=true:=Ac3 t0
 have e3:decide (0<=g)=true:=Ac3 g0
 have e4:decide (h=a)=false:=Ac7 hne
 show(true&&(NM a&&(decide (0<=n)&&(true&&(true&&(decide (1<=t)&&(NM h&&(!decide (h=a)&&(decide (0<=g)&&(decide (w="yes")||decide (w="no")))))))))))=true
 rw[ha,e1,e2,e3,e4,hh]
 rcases hw with rfl|rfl<;>decide+kernel
theorem Ya {l:List Str}{a:Str}{m:Nat}(h1:m<=l.length)(h2:l.length<=20)(h3: ∀t∈l,NM t=true)(h4:Hf l=true)(h5: ¬a∈l):Cb NM (.ts l) a m=true:=by
 rw[Iw,Ac3 h1,Ac3 h2,List.all_eq_true.mpr h3,h4,Ac7 h5]
 rfl
def t3 (i:Int):Str:=if i=0 then "t" else if i=1 then "ab" else "x9a"
def nmO (i:Int)(n:Nat):Str:=(t3 i++(⟨#[98+n]⟩:Str))++(⟨#[97]⟩:Str)
def nmE (i:Int)(n:Nat):Str:=((Txt.mul "a" i++(⟨#[98+n]⟩:Str))++(⟨#[97]⟩:Str))++Txt.mul "a" (6-i)
def nmT (c:Int)(n:Nat):Str:=if c%2=1 then nmO (c/2%3) n else nmE (c/2%7) n
def va (t:Str):Nat:=t.cps.toList.foldl (· + ·) 0
theorem yo: ∀(i:Fin 3)(n:Fin 24),(Lv (nmO (i.val:Int) n.val).cps.toList&&!decide (nmO (i.val:Int) n.val="nobody")&&decide (va (nmO (i.val:Int) n.val)=va (nmO (i.val:Int) 0)+n.val))=true:=by decide+kernel
theorem xn: ∀(i:Fin 7)(n:Fin 24),(Lv (nmE (i.val:Int) n.val).cps.toList&&!decide (nmE (i.val:Int) n.val="nobody")&&decide (va (nmE (i.val:Int) n.val)=va (nmE (i.val:Int) 0)+n.val))=true:=by decide+kernel
theorem Wd (c:Int): ∀n:Nat,n<24->Lv (nmT c n).cps.toList=true/\nmT c n≠"nobody"/\va (nmT c n)=va (nmT c 0)+n:=by
 intro n hn
 unfold nmT
 by_cases h:c%2=1
 ·
  rw[if_pos h,if_pos h]
  have a0:0<=c/2%3:=Ae3 _ (by decide)
  have a1:c/2%3<3:=Aes _ (by decide)
  have z:=yo ⟨(c/2%3).toNat,by lia⟩ ⟨n,hn⟩
  simp only[Int.toNat_of_nonneg a0,Adu,Bool.not_eq_true',Ad1,Afy] at z
  exact⟨z.1.1,z.1.2,z.2⟩
 ·
  rw[if_neg h,if_neg h]
  have a0:0<=c/2%7:=Ae3 _ (by decide)
  have a1:c/2%7<7:=Aes _ (by decide)
  have z:=xn ⟨(c/2%7).toNat,by lia⟩ ⟨n,hn⟩
  simp only[Int.toNat_of_nonneg a0,Adu,Bool.not_eq_true',Ad1,Afy] at z
  exact⟨z.1.1,z.1.2,z.2⟩
theorem uo {c:Int}{n m:Nat}(hn:n<24)(hm:m<24)(e:nmT c n=nmT c m):n=m:=by
 have h1:=(Wd c n hn).2.2
 have h2:=(Wd c m hm).2.2
 rw[e] at h1
 lia
theorem ro {t:Str}(h:Lv t.cps.toList=true):(∀c∈t.cps.toList,c∈AL)/\t.length<=8:=by
 have el:t.cps.toList.length=t.length:=Ac6
 unfold Lv at h
 by_cases z:t.cps.toList.length<1∨8<t.cps.toList.length
 · rw[if_pos z] at h;cases h
 ·
  rw[if_neg z,Adu,Ah7] at h
  exact⟨λc hc=>Adk (h.2 c hc),by lia⟩
structure Nms (ns:List Str):Prop where
 lo:2<=ns.length
 hi:ns.length<=22
 nd:ns.Nodup
 nm: ∀t∈ns,NM t=true
 rise:Hf ns=true
def nmG (c:Int):V->V
 | .int k=>.str (nmT c k.toNat)
 | _=>.non
theorem jq (c:Int)(n:Nat):(((List.range n).map λ(i:Nat)=>V.int (0+(i:Int))).map (nmG c))=((List.range n).map (nmT c)).map V.str:=by
 rw[Adc,Adc]
 refine Agp λi _=>?_
 show V.str (nmT c (0+(i:Int)).toNat)=V.str (nmT c i)
 rw[show(0+(i:Int)).toNat=i by lia]
theorem qu {c:Int}{n:Nat}{ms:List Str}(h2:2<=n)(hn:n<=22)(hp:ms.Perm ((List.range n).map (nmT c)))(hs:PyProof.Rows.sortedS ms=true):Nms ms:=by
 have hl:ms.length=n:=by rw[hp.length_eq,Ac0,Ad7]
 have nd:ms.Nodup:=hp.nodup_iff.mpr ?_
 ·
  refine⟨by lia,by lia,nd,λt ht=>?_,ip hs nd⟩
  obtain⟨i,hi,rfl⟩:=Ac2.mp (hp.mem_iff.mp ht)
  exact(Wd c i (by have:=Aeo.mp hi;lia)).1
 ·
  rw[Aho,Ae1]
  exact List.Pairwise.imp_of_mem (λ{a b}ha hb hab e=>hab (uo (by have:=Aeo.mp ha;lia) (by have:=Aeo.mp hb;lia) e)) (List.nodup_iff_pairwise_ne.mp List.nodup_range)
def P6:Sp:=λvs H Q _=>∃(n:Nat)(c:Int),vs=[.int (n:Int),.int c]/\n<24/\ ∀H',Same H H'->Q (.str (nmT c n)) H'
def Pc:Sp:=λvs H Q _=>∃c:Int,vs=[.int c]/\ ∀(D:Addr)(ns:List Str)H',Same H H'->H' D=some (.lst (ns.map V.str))->Nms ns->Q (.ref D) H'
def W4:Sp:=λvs H Q _=>∃(L:Addr)(ns:List Str)(a:Str)(s k m:Int),vs=[.ref L,.str a,.int s,.int k,.int m]/\H L=some (.lst (ns.map V.str))/\Nms ns/\0<=k/\k<=1000/\0<=m/\m<=1/\ ∀(r:Addr)(l:List Str)H',Same H H'->H' r=some (.tup (l.map V.str))->Cb NM (.ts l) a m.toNat=true->l=qy ns a s k m->Q (.ref r) H'
def Zu:Sp:=λvs H Q _=>∃(L:Addr)(ns:List Str)(a:Str)(s n t:Int),vs=[.int s,.ref L,.str a,.int n,.int t]/\H L=some (.lst (ns.map V.str))/\Nms ns/\a∈ns/\ ∀v:Int,v=mj s ns a n t->Q (.int v) H
def sj (more:List V->Prop):Sp:=λvs H Q _=>∃(L:Addr)(ns:List Str)(a:Str)(s n t:Int)(r:List V),vs=[.int s,.ref L,.str a,.int n,.int t]++r/\more r/\H L=some (.lst (ns.map V.str))/\Nms ns/\a∈ns/\0<=n/\n<=10 ^ 9/\1<=t/\t<=10 ^ 10/\ ∀(p:Addr)(l:Lt)H',Same H H'->LtAt H' l p->Th l->Det s ns l->l.mk=(a,n)->Q (.ref p) H'
def Ni:Sp:=λvs H Q _=>∃(L:Addr)(ns:List Str)(c s:Int),vs=[.int c,.int s,.ref L]/\H L=some (.lst (ns.map V.str))/\Nms ns/\ ∀(p:Addr)(l:Lt)H',Same H H'->LtAt H' l p->Th l->Det s ns l->Q (.ref p) H'
theorem s24: ∀n:Fin 24,(Str.ofString "bcdefghijklmnopqrstuvwxy").cps.toList[n.val]?=some (98+n.val):=by decide+kernel
theorem zw {i:Int}(h0:0<=i)(h1:i<3):atI [V.str "t",V.str "ab",V.str "x9a"] i=some (.str (t3 i)):=by
 have h:i=0∨i=1∨i=2:=by lia
 rcases h with h|h|h<;>subst h<;>rfl
theorem mn (i:Int):(t3 i).length<=3:=by
 unfold t3
 split
 · decide+kernel
 · split<;>decide+kernel
theorem Abg {i:Int}(h0:0<=i)(h1:i<=6):MulOk "a" i/\(Txt.mul "a" i).length<=6:=by
 have h:i=0∨i=1∨i=2∨i=3∨i=4∨i=5∨i=6:=by lia
 rcases h with h|h|h|h|h|h|h<;>subst h<;>(unfold MulOk;decide+kernel)
theorem sz2 {x y:Str}(m n:Nat)(h1:x.length<=m)(h2:y.length<=n)(h:m+n<=20000:=by decide):x.length+y.length<=sizeLine:=Ady (by lia:x.length+y.length<=20000) (by decide)
theorem ap2 {x y:Str}(m n:Nat)(h1:x.length<=m)(h2:y.length<=n):(x++y).length<=m+n:=by rw[len_app];lia
theorem nq (c:Nat):(⟨#[c]⟩:Str).length<=1:=Adb _
theorem zp: ∀t∈(["yes","no","yes"]:List Str),(∀c∈t.cps.toList,c∈AL)/\t.length<=8:=by decide+kernel
theorem cell_in {ns:List Int}{k:Int}(h0:0<=k)(h:k<ns.length):atI (ns.map V.int) k=some (.int (Zb ns k)):=by
 obtain⟨j,rfl⟩: ∃j:Nat,k=j:=⟨k.toNat,by lia⟩
 have hj:j<ns.length:=by lia
 refine A8 ?_
 unfold Zb
 rw[if_pos h,Adl,Adh hj,Agf,Agh,Adh hj]
 rfl
theorem cell_out {ns:List Int}{k:Int}(h: ¬k<ns.length):Zb ns k=0:=by unfold Zb;rw[if_neg h]
theorem jv (os:List Str):(List.range os.length).map (λj=>os.getD j "")=os:=by
 refine Agd λi=>?_
 rw[Adl]
 by_cases hi:i<os.length
 ·
  rw[Ahn hi,Adh hi]
  show some (os.getD i "")=some os[i]
  rw[Agh,Adh hi]
  rfl
 ·
  rw[Afp (by rw[Ad7];lia),Afp (by lia)]
  rfl
theorem sr (os:List Str)(s k:Int):(k5 os s k).Sublist os:=by
 have h:(k5 os s k).Sublist ((List.range os.length).map λj=>os.getD j ""):=(List.filter_sublist).map _
 rw[jv] at h
 exact h
def Aao (s k:Int):V->Bool
 | .int i=>decide (0<Y0 s (k+50+3*i) 3)
 | _=>false
def Abe (os:List Str):V->V
 | .int i=>.str (os.getD i.toNat "")
 | _=>.non
theorem kl (os:List Str)(s k:Int):((((List.range (Int.toNat (os.length:Int))).map λ(i:Nat)=>V.int (0+(i:Int))).filter (Aao s k)).map (Abe os))=(k5 os s k).map V.str:=by
 rw[show Int.toNat (os.length:Int)=os.length by lia]
 unfold k5
 rw[Af9,Adc,Adc]
 have e:(Aao s k∘ λ(i:Nat)=>V.int (0+(i:Int)))= λj:Nat=>decide (0<Y0 s (k+50+3*(j:Int)) 3):=by
  funext j
  show decide (0<Y0 s (k+50+3*(0+(j:Int))) 3)=_
  rw[Int.zero_add]
 rw[e]
 refine Agp λj _=>?_
 show V.str (os.getD (0+(j:Int)).toNat "")=V.str (os.getD j "")
 rw[show(0+(j:Int)).toNat=j by lia]
theorem k4 {v wd:Int}(v0:0<=v)(v1:v<3)(h:atI [V.int 1,V.int 30,V.int 3000] v=some (.int wd)):wd=vg v:=by
 have hv:v=0∨v=1∨v=2:=by lia
 rcases hv with rfl|rfl|rfl
 · exact V.int.inj (Adt h).symm
 · exact V.int.inj (Adt h).symm
 · exact V.int.inj (Adt h).symm
theorem LtAt.inj {H:Hp}{l l':Lt}{p:Addr}(h:LtAt H l p)(h':LtAt H l' p):l=l':=by
 obtain⟨vs,hp,r⟩:=h
 obtain⟨vs',hp',r'⟩:=h'
 rw[hp] at hp'
 cases hp'
 have hs: ∀{a b:List Str}{q:Addr},H q=some (.tup (a.map V.str))->H q=some (.tup (b.map V.str))->a=b:=λ{a b q}h1 h2=>by
  rw[h1] at h2
  injection h2 with h2
  injection h2 with h2
  exact(Af6 λx y e=>V.str.inj e).mp h2
 cases l<;>cases l'<;>simp only[LtVs] at r r'
 · obtain⟨q,rfl,h1⟩:=r;obtain⟨q',e,h2⟩:=r';cases e;rw[hs h1 h2]
 · obtain⟨q,rfl,h1⟩:=r;cases r'
 · obtain⟨q,rfl,h1⟩:=r;obtain⟨q',e,h2⟩:=r';cases e
 · obtain⟨q,rfl,h1⟩:=r;exact absurd (show(Str.ofString "bid")=Str.ofString "answer" by injection r' with e _;exact V.str.inj e) (by decide)
 · subst r;obtain⟨q',e,h2⟩:=r';cases e
 · subst r;cases r';rfl
 · subst r;obtain⟨q',e,h2⟩:=r';cases e
 · subst r;cases r'
 · obtain⟨q,rfl,h1⟩:=r;obtain⟨q',e,h2⟩:=r';cases e
 · obtain⟨q,rfl,h1⟩:=r;cases r'
 · obtain⟨q,rfl,h1⟩:=r;obtain⟨q',e,h2⟩:=r';cases e;rw[hs h1 h2]
 · obtain⟨q,rfl,h1⟩:=r;cases r'
 · subst r;obtain⟨q',e,h2⟩:=r';exact absurd (show(Str.ofString "answer")=Str.ofString "bid" by injection e with e _;exact V.str.inj e) (by decide)
 · subst r;cases r'
 · subst r;obtain⟨q',e,h2⟩:=r';cases e
 · subst r;cases r';rfl
def codeOf (ms:List (Lt×Addr)):V->Int×List NK
 |
  .ref p=>match ms.find? λx=>decide (x.2=p) with
  | some x=>(x.1.turn,x.1.nk)
  | none=>(0,[])
 | _=>(0,[])
theorem code_at {ms:List (Lt×Addr)}{x:Lt×Addr}(hx:x∈ms): ∃y∈ms,y.2=x.2/\codeOf ms (.ref x.2)=(y.1.turn,y.1.nk):=by
 have h:(ms.find? λy=>decide (y.2=x.2)).isSome=true:=Ag5.mpr ⟨x,hx,Ac3 rfl⟩
 obtain⟨y,hy⟩:=Ae0.mp h
 refine⟨y,Ae8 hy,Adk (show decide (y.2=x.2)=true from Agv (p:=λ(y:Lt×Addr)=>decide (y.2=x.2)) hy),?_⟩
 unfold codeOf
 simp only
 rw[hy]
theorem Kv {x:V}{r:List V}:atI (x::r) 0=some x:=A8 (j:=0) rfl
theorem Za {x y:V}{r:List V}:atI (x::y::r) 1=some y:=A8 (j:=1) rfl
theorem wc {x y z:V}{r:List V}:atI (x::y::z::r) 2=some z:=A8 (j:=2) rfl
theorem bj {x y z u:V}{r:List V}:atI (x::y::z::u::r) 3=some u:=A8 (j:=3) rfl
theorem hu3 {cm:Bool}{k:Nat}{A:Around}(hr:Room cm k A):A.units+3<cLine:=Afn (Aiq (by decide:3<=64) _) hr.units
def Sm:Sp:=λvs H Q _=>∃(p:Addr)(l:Lt),vs=[.ref p]/\LtAt H l p/\ ∀q,H q=none->Q (.ref q) (upd H q (.tup [.int l.turn,.ref p]))
theorem _root_.L2.LtsAt.up {H H':Hp}{l:Addr}{ms:List (Lt×Addr)}(h:LtsAt H l ms)(s:Same H H'):LtsAt H' l ms:=⟨s _ _ h.at_,λx hx=>(h.ok x hx).up s,h.few⟩
theorem Mt {H:Hp}{ms:List (Lt×Addr)}{x:Lt×Addr}(ok: ∀x∈ms,LtAt H x.1 x.2)(hx:x∈ms):codeOf ms (.ref x.2)=(x.1.turn,x.1.nk):=by
 obtain⟨c,hc,ec,h⟩:=code_at hx
 have e:c.1=x.1:=LtAt.inj (by rw[←ec];exact ok c hc) (ok x hx)
 rw[h,e]
def boF (ms:List (Lt×Addr)):V->Bool
 |
  .ref p=>match ms.find? λx=>decide (x.2=p) with
  | some x=>x.1.bo
  | none=>false
 | _=>false
theorem dr {H:Hp}{ms:List (Lt×Addr)}{x:Lt×Addr}(ok: ∀x∈ms,LtAt H x.1 x.2)(hx:x∈ms):boF ms (.ref x.2)=x.1.bo:=by
 have h:(ms.find? λy=>decide (y.2=x.2)).isSome=true:=Ag5.mpr ⟨x,hx,Ac3 rfl⟩
 obtain⟨y,hy⟩:=Ae0.mp h
 have e2:y.2=x.2:=Adk (show decide (y.2=x.2)=true from Agv (p:=λ(y:Lt×Addr)=>decide (y.2=x.2)) hy)
 have e1:y.1=x.1:=LtAt.inj (by rw[←e2];exact ok y (Ae8 hy)) (ok x hx)
 unfold boF
 simp only
 rw[hy]
 simp only
 rw[e1]
theorem cx (x:Lt):x.bo=(decide (x.kind="bid")||decide (x.kind="off")):=by
 cases x with
 | bid=>exact(by decide+kernel:true=(decide ((Str.ofString "bid")=Str.ofString "bid")||decide ((Str.ofString "bid")=Str.ofString "off")))
 | off=>exact(by decide+kernel:true=(decide ((Str.ofString "off")=Str.ofString "bid")||decide ((Str.ofString "off")=Str.ofString "off")))
 | close=>exact(by decide+kernel:false=(decide ((Str.ofString "close")=Str.ofString "bid")||decide ((Str.ofString "close")=Str.ofString "off")))
 | ans=>exact(by decide+kernel:false=(decide ((Str.ofString "answer")=Str.ofString "bid")||decide ((Str.ofString "answer")=Str.ofString "off")))
theorem Ik (x y:Str):decide (V.str x=V.str y)=decide (x=y):=Aej.mpr (by rw[V.str.injEq])
def Uz:Sp:=λvs H Q _=>∃(L:Addr)(ms:List (Lt×Addr)),vs=[.ref L]/\LtsAt H L ms/\ ∀v H',Same H H'->((v=.non/\ ∀x,inM ms x->x.bo=false)∨ ∃x∈ms,v=.ref x.2/\IsLast (inM ms) x.1)->Q v H'
def Si (ms:List (Lt×Addr))(i:Nat)(x:Lt):Prop:=inM (ms.take i) x
theorem W6 {ms:List (Lt×Addr)}{i:Nat}{y:Lt×Addr}(h:ms[i]?=some y)(x:Lt):Si ms (i+1) x↔Si ms i x∨x=y.1:=by
 unfold Si inM
 rw[List.take_succ,h,Adx,Adq]
 exact or_congr Iff.rfl Ac9
theorem nj {ms:List (Lt×Addr)}:Si ms ms.length=inM ms:=by
 funext x
 unfold Si
 rw[Afd]
def LtG:Lt->Prop
 | .ans _ _ _ _ g _=>0<=g
 | _=>True
def Rn:Sp:=λvs H Q _=>∃(L:Addr)(ms:List (Lt×Addr))(t:Int),vs=[.ref L,.int t]/\LtsAt H L ms/\(∀x∈ms,LtG x.1)/\ ∀(D:Addr)(kvs:List (Key×V))H',Same H H'->H' D=some (.dK kvs)->AnsB H' (inM ms) t kvs->Q (.ref D) H'
def Aab (L:Addr)(xs:List V):Hp:=λb=>if b=L then some (.lst xs) else none
theorem Wg {L:Addr}{xs:List V}:Aab L xs L=some (.lst xs):=if_pos rfl
theorem N9 {L:Addr}{xs:List V}{H:Hp}(h:H L=some (.lst xs)):Same (Aab L xs) H:=λb o e=>by
 unfold Aab at e
 by_cases hb:b=L
 · rw[if_pos hb] at e;rw[hb,h];exact e
 · rw[if_neg hb] at e;cases e
theorem Abt {a b:Int}{x y:Str}:okT [.inl a,.inr x] [.inl b,.inr y]=true:=by
 unfold okT
 split
 · unfold okT;split<;>rfl
 · rfl
def oV:Option Str->V
 | none=>.non
 | some t=>.str t
def Vn:Sp:=λvs H Q _=>∃(A D:Addr)(l:List Str)(kvs:List (Key×V))(o:Option Str)(wf:Str->Option Str),vs=[.ref A,.ref D,oV o]/\H A=some (.tup (l.map V.str))/\l.length<=1000/\H D=some (.dK kvs)/\(∀h,KnowW H kvs h (wf h))/\ ∀(r:Addr)H',Same H H'->H' r=some (.tup ((Mm wf o l).map V.str))->Q (.ref r) H'
def wP (wf:Str->Option Str)(o:Option Str):V->Bool
 | .str h=>decide (wf h=o)
 | _=>false
theorem Xf (wf:Str->Option Str)(o:Option Str)(l:List Str):(((l.map V.str).filter (wP wf o)).map λv=>v)=(Mm wf o l).map V.str:=by
 rw[Ahi (λ_=>rfl),Af9]
 rfl
def clF (ms:List (Lt×Addr))(t:Int):V->Bool
 |
  .ref p=>match ms.find? λx=>decide (x.2=p) with
  | some x=>decide (x.1.kind="close")&&decide (x.1.turn=t)
  | none=>false
 | _=>false
theorem ft {H:Hp}{ms:List (Lt×Addr)}{t:Int}{x:Lt×Addr}(ok: ∀x∈ms,LtAt H x.1 x.2)(hx:x∈ms):clF ms t (.ref x.2)=(decide (x.1.kind="close")&&decide (x.1.turn=t)):=by
 have h:(ms.find? λy=>decide (y.2=x.2)).isSome=true:=Ag5.mpr ⟨x,hx,Ac3 rfl⟩
 obtain⟨y,hy⟩:=Ae0.mp h
 have e2:y.2=x.2:=Adk (show decide (y.2=x.2)=true from Agv (p:=λ(y:Lt×Addr)=>decide (y.2=x.2)) hy)
 have e1:y.1=x.1:=LtAt.inj (by rw[←e2];exact ok y (Ae8 hy)) (ok x hx)
 unfold clF
 simp only
 rw[hy]
 simp only
 rw[e1]
def Qc:Sp:=λvs H Q _=>∃(L B:Addr)(ms:List (Lt×Addr))(a0:Str)(n t b e:Int)(hs:List Str),vs=[.ref L,.ref B]/\LtsAt H L ms/\(∀x∈ms,Z5 x.1)/\(∀x∈ms,LtG x.1)/\LtAt H (.bid a0 n t b e hs) B/\hs.length<=1000/\ ∀(r:Addr)(d:Td)H',Same H H'->TdAt H' d r->ToldOf ltP (inM ms) (.bid a0 n t b e hs) d->Q (.ref r) H'
theorem Ft (wf:Str->Option Str)(o:Option Str)(l:List Str):(Mm wf o l).length<=l.length:=Ael _ _
def p8 (hs:List Str):V->Bool
 | .str h=>!decide (h∈hs)
 | _=>false
theorem Yl (hs l:List Str):(((l.map V.str).filter (p8 hs)).map λv=>v)=(l.filter λh=>!decide (h∈hs)).map V.str:=by
 rw[Ahi (λ_=>rfl),Af9]
 rfl
def Zc:Sp:=λvs H Q _=>∃(L:Addr)(ms:List (Lt×Addr)),vs=[.ref L]/\LtsAt H L ms/\(∀x∈ms,Z5 x.1)/\(∀x∈ms,LtG x.1)/\ ∀v H',Same H H'->((v=.non/\IsTold ltP (inM ms) none)∨ ∃(r:Addr)(d:Td),v=.ref r/\TdAt H' d r/\IsTold ltP (inM ms) (some d))->Q v H'
def Rq (P:Program)(w:World)(C:Addr):Sp:=λvs H Q _=>∃(x dx:Addr),vs=[.ref x]/\H x=some (.ins C dx [])/\ ∀(k m t:Addr)(H':Hp),(∀b o,H b=some o->b≠x->H' b=some o)->H k=none->H m=none->H t=none->TabAt P w C H' x k m t [] [] []->Q .non H'
def Me (P:Program)(w:World)(C:Addr):Sp:=λvs H Q E=>∃(x k m t p:Addr)(ms:List (Lt×Addr))(bs:MBs)(ts:List (List Key×V))(l:Lt),vs=[.ref x,.ref p]/\TabAt P w C H x k m t ms bs ts/\TlOk H ms ts/\(∀y∈ms,LtG y.1)/\LtAt H l p/\Th l/\Z5 l/\LtG l/\ms.length<900/\
 (Qu (nks ms) l.nk=true-> ∀H',Same H H'->Q (.bl false) H')/\
 (Qu (nks ms) l.nk=false-> ∀(bs':MBs)(ts':List (List Key×V))(H':Hp),(∀b o,H b=some o-> ¬Sz k m t bs b->H' b=some o)->(∀y∈bs',(∃z∈bs,z.2.1=y.2.1)∨H y.2.1=none)->TabAt P w C H' x k m t (ms++[(l,p)]) bs' ts'->TlOk H' (ms++[(l,p)]) ts'->Q (.bl true) H')
def Jt (P:Program)(w:World)(C:Addr):Sp:=λvs H Q _=>∃(x k m t:Addr)(ms:List (Lt×Addr))(bs:MBs)(ts:List (List Key×V))(a:Str)(n:Int),vs=[.ref x,.str a,.int n]/\TabAt P w C H x k m t ms bs ts/\ ∀H',Same H H'->Q ((Fe ts (mkK (a,n))).getD .non) H'
def lqF (P:Lt->Bool)(ms:List (Lt×Addr)):V->Bool
 |
  .ref p=>match ms.find? λx=>decide (x.2=p) with
  | some x=>P x.1
  | none=>false
 | _=>false
theorem Wf {H:Hp}{ms:List (Lt×Addr)}{x:Lt×Addr}(ok: ∀x∈ms,LtAt H x.1 x.2)(hx:x∈ms): ∃y,(ms.find? λy=>decide (y.2=x.2))=some y/\y.1=x.1:=by
 have h:(ms.find? λy=>decide (y.2=x.2)).isSome=true:=Ag5.mpr ⟨x,hx,Ac3 rfl⟩
 obtain⟨y,hy⟩:=Ae0.mp h
 have e2:y.2=x.2:=Adk (show decide (y.2=x.2)=true from Agv (p:=λ(y:Lt×Addr)=>decide (y.2=x.2)) hy)
 exact⟨y,hy,LtAt.inj (by rw[←e2];exact ok y (Ae8 hy)) (ok x hx)⟩
theorem Oc {H:Hp}{P:Lt->Bool}{ms:List (Lt×Addr)}{x:Lt×Addr}(ok: ∀x∈ms,LtAt H x.1 x.2)(hx:x∈ms):lqF P ms (.ref x.2)=P x.1:=by
 obtain⟨y,hy,e⟩:=Wf ok hx
 unfold lqF
 simp only
 rw[hy]
 simp only
 rw[e]
theorem Rm {H:Hp}{P:Lt->Bool}{ms ls:List (Lt×Addr)}(ok: ∀x∈ms,LtAt H x.1 x.2)(hs: ∀x∈ls,x∈ms):(ls.map λx=>V.ref x.2).filter (lqF P ms)=(ls.filter λx=>P x.1).map λx=>V.ref x.2:=by
 rw[Af9]
 congr 1
 refine List.filter_congr λx hx=>?_
 exact Oc ok (hs x hx)
theorem Ug {H:Hp}{P:Lt->Bool}{ms ls:List (Lt×Addr)}(ok: ∀x∈ms,LtAt H x.1 x.2)(hs: ∀x∈ls,x∈ms):(((ls.map λx=>V.ref x.2).filter (lqF P ms)).map λv=>v)=(ls.filter λx=>P x.1).map λx=>V.ref x.2:=by
 rw[Ahi (λ_=>rfl),Rm ok hs]
def bnP (a:Str)(n:Int)(x:Lt):Bool:=x.bo&&(decide (x.asker=a)&&decide (x.number=n))
theorem x4 (x:Lt):inV (.str x.kind) ((["bid","off"]:List Str).map V.str)=x.bo:=by
 rw[Gv,cx,Afw,Aik,Ad1,Ad1,Ad1,Ado,Ac9]
def anP (a:Str)(n t:Int)(h:Str):Lt->Bool
 | .ans a' n' t' h' _ _=>decide (([.inl (.inr a'),.inl (.inl n'),.inl (.inl t'),.inl (.inr h')]:List NK)=[.inl (.inr a),.inl (.inl n),.inl (.inl t),.inl (.inr h)])
 | _=>false
theorem gr {a:Str}{n t:Int}{h:Str}{x:Lt}:anP a n t h x=true↔ ∃g w,x=.ans a n t h g w:=by
 cases x with
 |
  ans a' n' t' h' g w=>
  show decide _=true↔_
  rw[Ad1]
  constructor
  ·
   intro e
   injection e with e1 e
   injection e with e2 e
   injection e with e3 e
   injection e with e4 e
   rw[Afj (Aee e1),Aee (Aee e2),Aee (Aee e3),Afj (Aee e4)]
   exact⟨g,w,rfl⟩
  ·
   rintro⟨g',w',e⟩
   injection e with e1 e2 e3 e4
   rw[e1,e2,e3,e4]
 | bid=>exact⟨(λz=>nomatch z),(λ⟨_,_,z⟩=>nomatch z)⟩
 | off=>exact⟨(λz=>nomatch z),(λ⟨_,_,z⟩=>nomatch z)⟩
 | close=>exact⟨(λz=>nomatch z),(λ⟨_,_,z⟩=>nomatch z)⟩
def clP (a:Str)(n t:Int):Lt->Bool
 | .close a' n' t' _=>decide (([.inl (.inr a'),.inl (.inl n'),.inl (.inl t')]:List NK)=[.inl (.inr a),.inl (.inl n),.inl (.inl t)])
 | _=>false
theorem gv {a:Str}{n t:Int}{x:Lt}:clP a n t x=true↔ ∃hs,x=.close a n t hs:=by
 cases x with
 |
  close a' n' t' hs=>
  show decide _=true↔_
  rw[Ad1]
  constructor
  ·
   intro e
   injection e with e1 e
   injection e with e2 e
   injection e with e3 e
   rw[Afj (Aee e1),Aee (Aee e2),Aee (Aee e3)]
   exact⟨hs,rfl⟩
  ·
   rintro⟨hs',e⟩
   injection e with e1 e2 e3
   rw[e1,e2,e3]
 | bid=>exact⟨(λz=>nomatch z),(λ⟨_,z⟩=>nomatch z)⟩
 | off=>exact⟨(λz=>nomatch z),(λ⟨_,z⟩=>nomatch z)⟩
 | ans=>exact⟨(λz=>nomatch z),(λ⟨_,z⟩=>nomatch z)⟩
def ag:Lt->Int×Str
 | .ans _ _ _ _ g w=>(g,w)
 | _=>(0,"")
def zb (ms:List (Lt×Addr)):V->Int×Str
 |
  .ref p=>match ms.find? λx=>decide (x.2=p) with
  | some x=>ag x.1
  | none=>(0,"")
 | _=>(0,"")
theorem ik {H:Hp}{ms:List (Lt×Addr)}{x:Lt×Addr}(ok: ∀x∈ms,LtAt H x.1 x.2)(hx:x∈ms):zb ms (.ref x.2)=ag x.1:=by
 obtain⟨y,hy,e⟩:=Wf ok hx
 unfold zb
 simp only
 rw[hy]
 simp only
 rw[e]
def RlA (ms:List (Lt×Addr))(H:Hp)(v y:V):Prop:=∃q:Addr,y=.ref q/\H q=some (.tup [.int (zb ms v).1,.str (zb ms v).2])
theorem dv {ms:List (Lt×Addr)}{H H0:Hp}(ok: ∀x∈ms,LtAt H0 x.1 x.2): ∀{al:List (Lt×Addr)}{ys:List V},(∀x∈al,x∈ms)->Paired (RlA ms H) (al.map λx=>V.ref x.2) ys-> ∃zs:List ((Int×Str)×Addr),ys=(zs.map λz=>V.ref z.2)/\(∀z∈zs,H z.2=some (.tup [.int z.1.1,.str z.1.2]))/\zs.map (·.1)=al.map λx=>ag x.1
 | [],_,_,.nil=>⟨[],rfl,(λ_ z=>nomatch z),rfl⟩
 |
  x::al,_,hs,.cons ⟨q,e,hq⟩ r=>by
  obtain⟨zs,e1,e2,e3⟩:=dv ok (λx hx=>hs x (Adi _ hx)) r
  rw[ik ok (hs x (Ac8 ..))] at hq
  refine⟨(ag x.1,q)::zs,by rw[e,e1];rfl,λz hz=>?_,by rw[Ad3,e3];rfl⟩
  rcases Ado.mp hz with rfl|hz
  · exact hq
  · exact e2 z hz
def pn (x:Int×Str):List NK:=(pk x).map Sum.inl
theorem Ye: ∀a b:List Key,ltL (a.map Sum.inl) (b.map Sum.inl)=DX.Hk ltK a b
 | [],[]=>rfl
 | [],_::_=>rfl
 | _::_,[]=>rfl
 |
  x::a,y::b=>by
  show(if(Sum.inl x:NK)=.inl y then ltL (a.map Sum.inl) (b.map Sum.inl) else ltN (.inl x) (.inl y))=if x=y then DX.Hk ltK a b else ltK x y
  by_cases e:x=y
  · rw[if_pos e,if_pos (Aea Sum.inl e),Ye a b]
  ·
   rw[if_neg e,if_neg (λz=>e (Aee z))]
   rfl
theorem zu (a b:Int×Str):ltL (pn a) (pn b)=ltP a b:=Ye _ _
theorem Aac (a b:Int×Str):okL (pn a) (pn b)=true:=A7 rfl (A7 rfl rfl)
def WdOk (S:Lt->Prop)(t:Int)(hs:List Str)(i:Nat)(kvs:List (Key×V)):Prop:=∀h,(Fe kvs (.inr h)=none/\(h∈hs.take i->WordIs ltP S t h none))∨ ∃w,Fe kvs (.inr h)=some (.str w)/\WordIs ltP S t h (some w)
theorem WdOk.skip {S:Lt->Prop}{t:Int}{hs:List Str}{i:Nat}{kvs:List (Key×V)}{h:Str}(k:WdOk S t hs i kvs)(e:hs[i]?=some h)(n:WordIs ltP S t h none):WdOk S t hs (i+1) kvs:=λx=>(k x).imp (λ⟨e1,e2⟩=>⟨e1,λz=>by
 rw[Agb,e,Adq] at z
 rcases z with z|z
 · exact e2 z
 · rw[show x=h from Ac9.mp z];exact n⟩) id
theorem WdOk.put {S:Lt->Prop}{t:Int}{hs:List Str}{i:Nat}{kvs:List (Key×V)}{h w:Str}(k:WdOk S t hs i kvs)(e:hs[i]?=some h)(n:WordIs ltP S t h (some w)):WdOk S t hs (i+1) (putK kvs (.inr h) (.str w)):=λx=>by
 rw[Mb]
 by_cases ex:x=h
 ·
  subst ex
  rw[if_pos rfl]
  exact .inr ⟨w,rfl,n⟩
 ·
  rw[if_neg (λz=>ex (Afj z))]
  refine(k x).imp (λ⟨e1,e2⟩=>⟨e1,λz=>?_⟩) id
  rw[Agb,e,Adq] at z
  rcases z with z|z
  · exact e2 z
  · exact absurd (Ac9.mp z) ex
theorem aa {ms al:List (Lt×Addr)}{a0 h0:Str}{n M:Int}{zs:List ((Int×Str)×Addr)}{qs:List (List NK×Addr)}{q:List NK×Addr}(ha: ∀x,x∈al↔x∈ms/\ ∃g w,x.1=.ans a0 n M h0 g w)(hz:zs.map (·.1)=al.map λx=>ag x.1)
  (hp:(qs++[q]).Perm (zs.map λz=>(pn z.1,z.2))) (hs:(keysOf (qs++[q])).Pairwise (λx y=>ltL y x=false)): ∃z∈zs,q=(pn z.1,z.2)/\WordIs ltP (inK ms (a0,n)) M h0 (some z.1.2):=by
 obtain⟨z,hzm,rfl⟩:=Ac2.mp (hp.mem_iff.mp (Adg _ (Ac9.mpr rfl)))
 refine⟨z,hzm,rfl,z.1.1,?_,?_⟩
 ·
  have h1:z.1∈al.map λx=>ag x.1:=by rw[←hz];exact Ada hzm
  obtain⟨x,hx,ex⟩:=Ac2.mp h1
  obtain⟨hm,g,w,e⟩:=(ha x).mp hx
  rw[e] at ex
  refine⟨a0,n,?_,rfl⟩
  rw[←ex]
  exact Ac2.mpr ⟨x,hm,e⟩
 ·
  rintro a' n' g' w' ⟨h1,h2⟩
  obtain⟨x,hx,ex⟩:=Ac2.mp h1
  have e1:a'=a0:=Aea Prod.fst h2
  have e2:n'=n:=Aea Prod.snd h2
  subst e1 e2
  have hxa:x∈al:=(ha x).mpr ⟨hx,g',w',ex⟩
  have h3:(g',w')∈zs.map (·.1):=by rw[hz];exact Ac2.mpr ⟨x,hxa,by rw[ex];rfl⟩
  obtain⟨u,hu,eu⟩:=Ac2.mp h3
  have h4:(pn u.1,u.2)∈qs++[(pn z.1,z.2)]:=hp.mem_iff.mpr (Ada (f:=λz:(Int×Str)×Addr=>(pn z.1,z.2)) hu)
  show ltP z.1 (g',w')=false
  rw[←eu,←zu]
  rcases Adq.mp h4 with h4|h4
  ·
   unfold keysOf at hs
   rw[Adx,Aer] at hs
   exact hs.2.2 _ (Ada (f:=λx:List NK×Addr=>x.1) h4) _ (Ac9.mpr rfl)
  ·
   have e5:=Ac9.mp h4
   have e6:pn u.1=pn z.1:=Aea Prod.fst e5
   rw[e6]
   exact Dn.irr _
def wfS (kvs:List (Key×V))(h:Str):Option Str:=match Fe kvs (.inr h) with
 | some (.str w)=>some w
 | _=>none
theorem Qx {kvs:List (Key×V)}{h:Str}:(Fe kvs (.inr h)=none->wfS kvs h=none)/\ ∀w,Fe kvs (.inr h)=some (.str w)->wfS kvs h=some w:=by
 unfold wfS
 exact⟨λe=>by rw[e],λw e=>by rw[e]⟩
theorem WdOk.word {S:Lt->Prop}{t:Int}{hs:List Str}{kvs:List (Key×V)}(k:WdOk S t hs hs.length kvs)(h:Str)(hh:h∈hs):WordIs ltP S t h (wfS kvs h):=by
 rcases k h with⟨e,n⟩|⟨w,e,n⟩
 ·
  rw[Qx.1 e]
  exact n (by rw[Afd];exact hh)
 ·
  rw[Qx.2 w e]
  exact n
theorem WdOk.get {S:Lt->Prop}{t:Int}{hs:List Str}{i:Nat}{kvs:List (Key×V)}{h x:Str}(k:WdOk S t hs i kvs)(hx:(Str.ofString "")≠x):decide ((Fe kvs (.inr h)).getD (.str "")=.str x)=decide (wfS kvs h=some x):=by
 refine Aej.mpr ?_
 rcases k h with⟨e,n⟩|⟨w,e,n⟩
 ·
  rw[Qx.1 e,e]
  exact⟨(λz=>absurd (V.str.inj z) hx),(λz=>nomatch z)⟩
 ·
  rw[Qx.2 w e,e]
  show V.str w=V.str x↔_
  rw[V.str.injEq,Aiy]
theorem WdOk.mem {S:Lt->Prop}{t:Int}{hs:List Str}{i:Nat}{kvs:List (Key×V)}{h:Str}(k:WdOk S t hs i kvs):(!(Fe kvs (.inr h)).isSome)=decide (wfS kvs h=none):=by
 rcases k h with⟨e,n⟩|⟨w,e,n⟩
 ·
  rw[Qx.1 e,e]
  rfl
 ·
  rw[Qx.2 w e,e]
  rfl
def clH:Lt->List Str
 | .close _ _ _ hs=>hs
 | _=>[]
def Qr (ms:List (Lt×Addr)):V->List Str
 |
  .ref p=>match ms.find? λx=>decide (x.2=p) with
  | some x=>clH x.1
  | none=>[]
 | _=>[]
theorem fw {H:Hp}{ms:List (Lt×Addr)}{x:Lt×Addr}(ok: ∀x∈ms,LtAt H x.1 x.2)(hx:x∈ms):Qr ms (.ref x.2)=clH x.1:=by
 obtain⟨y,hy,e⟩:=Wf ok hx
 unfold Qr
 simp only
 rw[hy]
 simp only
 rw[e]
def RlC (ms:List (Lt×Addr))(H:Hp)(v y:V):Prop:=∃q:Addr,y=.ref q/\H q=some (.tup ((Qr ms v).map V.str))
def Mo:Sp:=λvs H Q _=>∃(L:Addr)(ms:List (Lt×Addr))(a:Str)(n:Int),vs=[.ref L,.str a,.int n]/\LtsAt H L ms/\(∀x∈ms,Z5 x.1)/\ms.length<=200/\ ∀v H',Same H H'->((v=.non/\IsTold ltP (inK ms (a,n)) none)∨ ∃(r:Addr)(d:Td),v=.ref r/\TdAt H' d r/\IsTold ltP (inK ms (a,n)) (some d))->Q v H'
theorem Aar {l:Lt}(h:Th l):NM l.asker=true:=by
 have h':isL NM l.ws=true:=h
 unfold isL at h'
 rw[Adu,Adu] at h'
 have h2:=h'.2.1
 cases l<;>exact h2
theorem Xx {l:List Str}{a:Str}{n:Nat}(h:Cb NM (.ts l) a n=true):l.length<=1000/\ ∀t∈l,t.length<=10000:=by
 rw[Iw] at h
 simp only[Adu,Ad1] at h
 exact⟨by lia,λt ht=>by have:=(ro (List.all_eq_true.mp h.1.1.2 t ht)).2;lia⟩
theorem lq {l:Lt}(h:Th l):Z5 l:=by
 have ha:l.asker.length<=10000:=by have:=(ro (Aar h)).2;lia
 have h':isL NM l.ws=true:=h
 cases l with
 |
  bid a n t b e hs=>
  have h2:(true&&(NM a&&(decide (0<=n)&&(true&&(decide (1<=t)&&(true&&(true&&(decide (b<e)&&Cb NM (.ts hs) a 1))))))))=true:=h'
  simp only[Adu] at h2
  exact⟨ha,Xx h2.2.2.2.2.2.2.2.2⟩
 | off a n t=>exact ha
 |
  close a n t hs=>
  have h2:(true&&(NM a&&(decide (0<=n)&&(true&&(decide (1<=t)&&Cb NM (.ts hs) a 0)))))=true:=h'
  simp only[Adu] at h2
  exact⟨ha,Xx h2.2.2.2.2.2⟩
 |
  ans a n t hd g w=>
  have h2:(true&&(NM a&&(decide (0<=n)&&(true&&(true&&(decide (1<=t)&&(NM hd&&(!decide (hd=a)&&(decide (0<=g)&&(decide (w="yes")||decide (w="no")))))))))))=true:=h'
  simp only[Adu,Aik,Ad1] at h2
  have h3:=(ro h2.2.2.2.2.2.2.1).2
  refine⟨ha,by lia,?_⟩
  rcases h2.2.2.2.2.2.2.2.2.2 with e|e<;>rw[e]<;>decide+kernel
theorem cp (n:Nat):(((List.range n).map λ(i:Nat)=>V.int (0+(i:Int))).map λ_=>V.bl true)=(List.replicate n true).map V.bl:=by
 rw[Adc,List.map_replicate]
 exact List.eq_replicate_iff.mpr ⟨by rw[Ac0,Ad7],λb hb=>by obtain⟨_,_,rfl⟩:=Ac2.mp hb;rfl⟩
theorem jl {α:Type}(xs:List α):(xs.map λ_=>V.bl true)=(List.replicate xs.length true).map V.bl:=by
 rw[List.map_replicate]
 exact List.eq_replicate_iff.mpr ⟨by rw[Ac0],λb hb=>by obtain⟨_,_,rfl⟩:=Ac2.mp hb;rfl⟩
theorem Xd (n:Nat):(List.replicate n true).all id=true:=by rw[Ah7];intro x hx;exact(List.mem_replicate.mp hx).2
def Jc (n:Nat):Sp:=λvs H Q _=>∃v u,vs=[v,u]/\AlH H n v u/\ ∀H',Same H H'->Q (.bl true) H'
theorem Abp {l:Lt}(h:Th l):LtG l:=by
 cases l with
 | bid=>exact True.intro
 | off=>exact True.intro
 | close=>exact True.intro
 |
  ans a n t hd g w=>
  have h2:(true&&(NM a&&(decide (0<=n)&&(true&&(true&&(decide (1<=t)&&(NM hd&&(!decide (hd=a)&&(decide (0<=g)&&(decide (w="yes")||decide (w="no")))))))))))=true:=h
  simp only[Adu,Ad1] at h2
  exact h2.2.2.2.2.2.2.2.2.1
def Yx:Sp:=λvs H Q _=>∃(p:Addr)(d:Td)(h:Str),vs=[.ref p,.str h]/\TdAt H d p/\ ∀H',Same H H'->Q (.bl (Jw h d)) H'
def RlT (ms:List (Lt×Addr))(H:Hp)(v y:V):Prop:=∃(q:Addr)(k:Str×Int)(r:Addr)(d:Td),v=.ref q/\H q=some (.tup ((mkK k).map kV))/\y=.ref r/\TdAt H d r/\IsTold ltP (inK ms k) (some d)
theorem mv: ∀{x y:Key},kV x=kV y->x=y
 | .inl _,.inl _,h=>Aea Sum.inl (V.int.inj h)
 | .inr _,.inr _,h=>Aea Sum.inr (V.str.inj h)
 | .inl _,.inr _,h=>nomatch h
 | .inr _,.inl _,h=>nomatch h
theorem t9 {H:Hp}{q:Addr}{k k':List Key}(h:H q=some (.tup (k.map kV)))(h':H q=some (.tup (k'.map kV))):k=k':=by
 rw[h] at h'
 injection h' with h'
 injection h' with h'
 exact(Af6 λx y e=>mv e).mp h'
theorem d6 {ms:List (Lt×Addr)}{H:Hp}: ∀{qs:List (List Key×Addr)}{ys:List V},(∀q∈qs,H q.2=some (.tup (q.1.map kV)))->Paired (RlT ms H) (qs.map λq=>V.ref q.2) ys-> ∃rs:List (Td×Addr),ys=(rs.map λr=>V.ref r.2)/\(∀r∈rs,TdAt H r.1 r.2/\IsTold ltP (inK ms (tk r.1)) (some r.1))/\(rs.map λr=>mkK (tk r.1))=qs.map (·.1)
 | [],_,_,.nil=>⟨[],rfl,(λ_ z=>nomatch z),rfl⟩
 |
  q::qs,_,hs,.cons ⟨q0,k,r,d,e1,e2,e3,e4,e5⟩ rr=>by
  obtain⟨rs,f1,f2,f3⟩:=d6 (λx hx=>hs x (Adi _ hx)) rr
  have ek:=jm e5
  refine⟨(d,r)::rs,by rw[e3,f1];rfl,λx hx=>?_,?_⟩
  ·
   rcases Ado.mp hx with rfl|hx
   · exact⟨e4,by rw[ek];exact e5⟩
   · exact f2 x hx
  ·
   rw[Ad3,Ad3,f3]
   cases e1
   rw[t9 (hs q (Ac8 ..)) e2]
   show mkK (tk d)::_=_
   rw[ek]
def B4 (P:Program)(w:World)(C:Addr):Sp:=λvs H Q _=>∃(x k m t:Addr)(ms:List (Lt×Addr))(bs:MBs)(ts:List (List Key×V)),vs=[.ref x]/\TabAt P w C H x k m t ms bs ts/\TlOk H ms ts/\ms.length<64/\
 ∀(D:Addr)(rs:List (Td×Addr))H',Same H H'->H D=none->H' D=some (.lst (rs.map λr=>V.ref r.2))->(∀r∈rs,TdAt H' r.1 r.2)->TdsOk ms (rs.map (·.1))->rs.length<64->Q (.ref D) H'
theorem Sk {H H':Hp}{D:Addr}(s:Same H H')(h:H' D=none):H D=none:=by
 cases e:H D with
 | none=>rfl
 | some o=>rw[s _ _ e] at h;cases h
theorem wk {ms:List (Lt×Addr)}{H:Hp}{ts:List (List Key×V)}{rs:List (Td×Addr)}{qs:List (List Key×Addr)}(tl:TlOk H ms ts)(hp:(qs.map (·.1)).Perm (ts.map (·.1)))(hs:(qs.map λq=>(q.1.map Sum.inl:List NK)).Pairwise (λx y=>ltL y x=false))
  (h1: ∀r∈rs,IsTold ltP (inK ms (tk r.1)) (some r.1)) (h2:(rs.map λr=>mkK (tk r.1))=qs.map (·.1)):TdsOk ms (rs.map (·.1)) where
 is_:=λd hd=>by
  obtain⟨r,hr,rfl⟩:=Ac2.mp hd
  exact h1 r hr
 all:=λx hx bx=>by
  have hk:mkK x.mk∈ts.map (·.1):=by
   rcases tl.val x.mk with⟨_,n⟩|⟨r,d,e,_,_⟩
   · have:=n x ⟨hx,rfl⟩;rw[bx] at this;cases this
   · exact rm e
  rw[←hp.mem_iff,←h2] at hk
  obtain⟨r,hr,e⟩:=Ac2.mp hk
  rw[Adc]
  exact Ac2.mpr ⟨r,hr,W2 e⟩
 up:=by
  have nd:((rs.map λr=>mkK (tk r.1))).Nodup:=by rw[h2];exact hp.nodup_iff.mpr tl.nd
  have hs2:(rs.map λr=>mkN (tk r.1)).Pairwise (λx y=>ltL y x=false):=by
   have e:(rs.map λr=>mkN (tk r.1))=qs.map λq=>(q.1.map Sum.inl:List NK):=by
    have e1:(rs.map λr=>mkN (tk r.1))=(rs.map λr=>mkK (tk r.1)).map λk=>(k.map Sum.inl:List NK):=by rw[Adc];rfl
    rw[e1,h2,Adc]
    rfl
   rw[e]
   exact hs
  rw[Adc]
  rw[Aho,Ae1] at nd
  rw[Ae1] at hs2 ⊢
  refine(nd.and hs2).imp λ{x y}z=>?_
  show ltL (mkN (tk x.1)) (mkN (tk y.1))=true
  cases e:ltL (mkN (tk x.1)) (mkN (tk y.1)) with
  | true=>rfl
  | false=>exact absurd (by rw[Sh (Dn.tot _ _ e z.2)]) z.1
theorem Jy {H:Hp}{q:Addr}{a b:List Str}(h1:H q=some (.tup (a.map V.str)))(h2:H q=some (.tup (b.map V.str))):a=b:=by
 rw[h1] at h2
 injection h2 with h2
 injection h2 with h2
 exact(Af6 λx y e=>V.str.inj e).mp h2
theorem rp: ∀{x y:Option (Int×Int)},(beV x).1=(beV y).1->(beV x).2=(beV y).2->x=y
 | none,none,_,_=>rfl
 | none,some _,h,_=>nomatch h
 | some _,none,h,_=>nomatch h
 | some (a,b),some (c,d),h1,h2=>by rw[V.int.inj h1,V.int.inj h2]
theorem TdAt.inj {H:Hp}{d d':Td}{r:Addr}(h:TdAt H d r)(h':TdAt H d' r):d=d':=by
 obtain⟨q1,q2,q3,q4,q5,e0,e1,e2,e3,e4,e5⟩:=h.at_
 obtain⟨p1,p2,p3,p4,p5,f0,f1,f2,f3,f4,f5⟩:=h'.at_
 rw[e0] at f0
 injection f0 with f0
 injection f0 with f0
 injection f0 with g1 f0
 injection f0 with g2 f0
 injection f0 with g3 f0
 injection f0 with g4 f0
 injection f0 with g5 f0
 injection f0 with g6 f0
 injection f0 with g7 f0
 injection f0 with g8 f0
 injection f0 with g9 f0
 injection f0 with g10 f0
 injection f0 with g11 f0
 have k7:=V.ref.inj g7
 have k8:=V.ref.inj g8
 have k9:=V.ref.inj g9
 have k10:=V.ref.inj g10
 have k11:=V.ref.inj g11
 subst k7 k8 k9 k10 k11
 have a1:=V.str.inj g1
 have a2:=V.int.inj g2
 have a3:=V.int.inj g3
 have a4:=V.str.inj g4
 have a5:=rp g5 g6
 have a6:=Jy e1 f1
 have a7:=Jy e2 f2
 have a8:=Jy e3 f3
 have a9:=Jy e4 f4
 have a10:=Jy e5 f5
 cases d
 cases d'
 simp only at a1 a2 a3 a4 a5 a6 a7 a8 a9 a10
 subst a1 a2 a3 a4 a5 a6 a7 a8 a9 a10
 rfl
def tdG {α:Type}(dflt:α)(P:Td->α)(rs:List (Td×Addr)):V->α
 |
  .ref p=>match rs.find? λx=>decide (x.2=p) with
  | some x=>P x.1
  | none=>dflt
 | _=>dflt
theorem Yq {H:Hp}{α:Type}{dflt:α}{P:Td->α}{rs:List (Td×Addr)}{x:Td×Addr}(ok: ∀x∈rs,TdAt H x.1 x.2)(hx:x∈rs):tdG dflt P rs (.ref x.2)=P x.1:=by
 have h:(rs.find? λy=>decide (y.2=x.2)).isSome=true:=Ag5.mpr ⟨x,hx,Ac3 rfl⟩
 obtain⟨y,hy⟩:=Ae0.mp h
 have e2:y.2=x.2:=Adk (show decide (y.2=x.2)=true from Agv (p:=λ(y:Td×Addr)=>decide (y.2=x.2)) hy)
 have e1:y.1=x.1:=TdAt.inj (by rw[←e2];exact ok y (Ae8 hy)) (ok x hx)
 unfold tdG
 simp only
 rw[hy]
 simp only
 rw[e1]
theorem sx {H:Hp}{P:Td->Bool}{rs:List (Td×Addr)}(ok: ∀x∈rs,TdAt H x.1 x.2):(((rs.map λx=>V.ref x.2).filter (tdG false P rs)).map λv=>v)=(rs.filter λx=>P x.1).map λx=>V.ref x.2:=by
 rw[Ahi (λ_=>rfl),Af9]
 congr 1
 refine List.filter_congr λx hx=>?_
 exact Yq ok hx
def RlQ (rs:List (Td×Addr))(H:Hp)(v y:V):Prop:=∃q:Addr,y=.ref q/\ng H (tdG (0,0,"",0) Rr rs v) q
theorem nr {rs:List (Td×Addr)}{H H0:Hp}(ok: ∀x∈rs,TdAt H0 x.1 x.2): ∀{al:List (Td×Addr)}{ys:List V},(∀x∈al,x∈rs)->Paired (RlQ rs H) (al.map λx=>V.ref x.2) ys-> ∃zs:List (Qd×Addr),ys=(zs.map λz=>V.ref z.2)/\(∀z∈zs,ng H z.1 z.2)/\zs.map (·.1)=al.map λx=>Rr x.1
 | [],_,_,.nil=>⟨[],rfl,(λ_ z=>nomatch z),rfl⟩
 |
  x::al,_,hs,.cons ⟨q,e,hq⟩ r=>by
  obtain⟨zs,e1,e2,e3⟩:=nr ok (λx hx=>hs x (Adi _ hx)) r
  rw[Yq ok (hs x (Ac8 ..))] at hq
  refine⟨(Rr x.1,q)::zs,by rw[e,e1];rfl,λz hz=>?_,by rw[Ad3,e3];rfl⟩
  rcases Ado.mp hz with rfl|hz
  · exact hq
  · exact e2 z hz
theorem ix {ms:List (Lt×Addr)}{k:Str×Int}{d:Td}{h:Str}(t:IsTold ltP (inK ms k) (some d))(b:Jw h d=true):beV d.be=(.int (Rr d).1,.int (Rr d).2.1):=by
 rcases rg t with⟨e,_⟩|⟨_,b0,e0,e⟩
 ·
  unfold Jw at b
  rw[Ac3 e] at b
  cases b
 ·
  unfold Rr
  rw[e]
  rfl
theorem vi (a b:Qd):okL (qn a) (qn b)=true:=A7 rfl (A7 rfl (A7 rfl (A7 rfl rfl)))
theorem ya {H:Hp}{q:Qd}{r:Addr}(h:ng H q r):NkAt H (qn q) r:=⟨_,h,.cons rfl (.cons rfl (.cons rfl (.cons rfl .nil)))⟩
theorem holds_of {ms:List (Lt×Addr)}{ds:List Td}{h:Str}{zs:List (Qd×Addr)}{qs:List (List NK×Addr)}(t:TdsOk ms ds)(e:zs.map (·.1)=(ds.filter (Jw h)).map Rr)(hp:qs.Perm (zs.map λz=>(qn z.1,z.2)))(hs:(keysOf qs).Pairwise (λx y=>ltL y x=false)):
  ∃zs':List (Qd×Addr),zs'.Perm zs/\qs=(zs'.map λz=>(qn z.1,z.2))/\HoldsIs ms h (zs'.map (·.1)):=by
 obtain⟨zs',p,e2⟩:=B6 (f:=λ(z:Qd×Addr)=>(qn z.1,z.2)) hp zs rfl
 refine⟨zs',p,e2,ds,t,⟨by rw[←e];exact p.map (·.1),?_⟩⟩
 rw[e2] at hs
 unfold keysOf at hs
 rw[Adc] at hs ⊢
 exact hs
def Ez (P:Program)(w:World)(C:Addr):Sp:=λvs H Q _=>∃(x k m t:Addr)(ms:List (Lt×Addr))(bs:MBs)(ts:List (List Key×V))(h:Str),vs=[.ref x,.str h]/\TabAt P w C H x k m t ms bs ts/\TlOk H ms ts/\ms.length<64/\
 ∀(D:Addr)(zs:List (Qd×Addr))H',Same H H'->H D=none->H' D=some (.lst (zs.map λz=>V.ref z.2))->(∀z∈zs,ng H' z.1 z.2)->HoldsIs ms h (zs.map (·.1))->zs.length<64->Q (.ref D) H'
theorem zo {H:Hp}{l:Lt}{vs:List V}(h:LtVs H l vs)(b:l.bo=true):N8 vs (some 1) (some 3)=(mkK l.mk).map kV:=by
 cases l with
 | bid=>obtain⟨q,rfl,_⟩:=h;rfl
 | off=>cases h;rfl
 | close=>cases b
 | ans=>cases b
structure NmOk (ms:List (Lt×Addr))(i:Nat)(ks:List (Str×Int)):Prop where
 nd:ks.Nodup
 all: ∀x,Si ms i x->x.bo=true->x.mk∈ks
 has: ∀k∈ks,∃x,inM ms x/\x.bo=true/\x.mk=k
theorem NmOk.skip {ms:List (Lt×Addr)}{i:Nat}{ks:List (Str×Int)}{y:Lt×Addr}(k:NmOk ms i ks)(e:ms[i]?=some y)(h:y.1.bo=true->y.1.mk∈ks):NmOk ms (i+1) ks:=⟨k.nd,λx hx bx=>by
 rcases(W6 e x).mp hx with hx|rfl
 · exact k.all x hx bx
 · exact h bx,k.has⟩
theorem NmOk.add {ms:List (Lt×Addr)}{i:Nat}{ks:List (Str×Int)}{y:Lt×Addr}(k:NmOk ms i ks)(e:ms[i]?=some y)(b:y.1.bo=true)(h:y.1.mk∉ks):NmOk ms (i+1) (ks++[y.1.mk]):=⟨by
 rw[Agc]
 refine⟨k.nd,Aev _ _,λx hx z hz e=>?_⟩
 rw[Ac9] at hz
 exact h (by rw[←hz,←e];exact hx),λx hx bx=>by
 rcases(W6 e x).mp hx with hx|rfl
 · exact Ae4 _ (k.all x hx bx)
 · exact Adg _ (Ac9.mpr rfl),λz hz=>by
 rcases Adq.mp hz with hz|hz
 · exact k.has z hz
 ·
  rw[Ac9] at hz
  exact⟨y.1,Ada (Ad6 e),b,hz.symm⟩⟩
abbrev KA:=(Str×Int)×Addr
def kns (ks:List KA):List (List NK×Addr):=ks.map λq=>(mkN q.1,q.2)
theorem X0 (ks:List KA):((kns ks).map λx=>V.ref x.2)=ks.map λq=>V.ref q.2:=by unfold kns;rw[Adc];rfl
theorem qc {ks:List KA}{k:Str×Int}:Qu (kns ks) (mkN k)=decide (k∈ks.map (·.1)):=by
 rw[Afw,Ad1]
 unfold Qu kns
 rw[Ahf]
 constructor
 ·
  rintro⟨x,hx,e⟩
  obtain⟨q,hq,rfl⟩:=Ac2.mp hx
  rw[←Sh (Adk e)]
  exact Ada hq
 ·
  intro h
  obtain⟨q,hq,rfl⟩:=Ac2.mp h
  exact⟨_,Ada (f:=λq:KA=>(mkN q.1,q.2)) hq,Ac3 rfl⟩
theorem xq (a b:Str×Int):okL (mkN a) (mkN b)=true:=A7 rfl (A7 rfl rfl)
theorem pj {ms:List (Lt×Addr)}{rs:List (Td×Addr)}{ks:List KA}(nm:NmOk ms ms.length (ks.map (·.1)))(hs:(ks.map λq=>mkN q.1).Pairwise (λx y=>ltL y x=false))
  (h1: ∀r∈rs,IsTold ltP (inK ms (tk r.1)) (some r.1)) (h2:(rs.map λr=>tk r.1)=ks.map (·.1)):TdsOk ms (rs.map (·.1)) where
 is_:=λd hd=>by
  obtain⟨r,hr,rfl⟩:=Ac2.mp hd
  exact h1 r hr
 all:=λx hx bx=>by
  rw[Adc]
  show x.mk∈rs.map λr=>tk r.1
  rw[h2]
  exact nm.all x (by rw[nj];exact hx) bx
 up:=by
  have nd:(rs.map λr=>tk r.1).Nodup:=by rw[h2];exact nm.nd
  have hs2:(rs.map λr=>mkN (tk r.1)).Pairwise (λx y=>ltL y x=false):=by
   have e:(rs.map λr=>mkN (tk r.1))=ks.map λq=>mkN q.1:=by
    have e1:(rs.map λr=>mkN (tk r.1))=(rs.map λr=>tk r.1).map mkN:=by rw[Adc];rfl
    rw[e1,h2,Adc]
    rfl
   rw[e]
   exact hs
  rw[Adc]
  rw[Aho,Ae1] at nd
  rw[Ae1] at hs2 ⊢
  refine(nd.and hs2).imp λ{x y}z=>?_
  show ltL (mkN (tk x.1)) (mkN (tk y.1))=true
  cases e:ltL (mkN (tk x.1)) (mkN (tk y.1)) with
  | true=>rfl
  | false=>exact absurd (Sh (Dn.tot _ _ e z.2)) z.1
def Qi:Sp:=λvs H Q _=>∃(L:Addr)(ms:List (Lt×Addr)),vs=[.ref L]/\LtsAt H L ms/\(∀x∈ms,Z5 x.1)/\ms.length<=200/\
 ∀(D:Addr)(rs:List (Td×Addr))H',Same H H'->H D=none->H' D=some (.lst (rs.map λr=>V.ref r.2))->(∀r∈rs,TdAt H' r.1 r.2)->TdsOk ms (rs.map (·.1))->rs.length<=200->Q (.ref D) H'
def Pk:Sp:=λvs H Q _=>∃(L:Addr)(ms:List (Lt×Addr))(h:Str),vs=[.ref L,.str h]/\LtsAt H L ms/\(∀x∈ms,Z5 x.1)/\ms.length<=200/\
 ∀(D:Addr)(zs:List (Qd×Addr))H',Same H H'->H D=none->H' D=some (.lst (zs.map λz=>V.ref z.2))->(∀z∈zs,ng H' z.1 z.2)->HoldsIs ms h (zs.map (·.1))->zs.length<=200->Q (.ref D) H'
def cw (h:Str)(d:Td):Bool:=decide (d.a=h)||(decide (h∈d.yes)&&(decide (d.st="open")||decide (h∈d.come)))
theorem Yu {ms:List (Lt×Addr)}{qs:List (List NK×Addr)}(p:qs.Perm (nks ms)): ∃rs:List (Lt×Addr),rs.Perm ms/\qs=nks rs:=B6 (f:=λ(x:Lt×Addr)=>(x.1.nk,x.2)) p ms rfl
def Co (P:Program)(w:World)(C:Addr):Sp:=λvs H Q _=>∃(x k m t:Addr)(ms:List (Lt×Addr))(bs:MBs)(ts:List (List Key×V)),vs=[.ref x]/\TabAt P w C H x k m t ms bs ts/\ms.length<64/\
 ∀(D:Addr)(rs:List (Lt×Addr)),H D=none->rs.Perm ms->(rs.map λr=>r.1.nk).Pairwise (λx y=>ltL y x=false)->Q (.ref D) (upd H D (.lst (rs.map λr=>V.ref r.2)))
def RlP (H:Hp)(v y:V):Prop:=∃(q:Addr)(w k:Int),v=.int k/\y=.ref q/\H q=some (.tup [.int w,.int k])
def pnn (x:Int×Int):List NK:=[nI x.1,nI x.2]
theorem ot (a b:Int×Int):okL (pnn a) (pnn b)=true:=A7 rfl (A7 rfl rfl)
theorem gp {H:Hp}: ∀{ks:List Int}{ys:List V},Paired (RlP H) (ks.map V.int) ys-> ∃zs:List ((Int×Int)×Addr),ys=(zs.map λz=>V.ref z.2)/\(∀z∈zs,H z.2=some (.tup [.int z.1.1,.int z.1.2]))/\(zs.map λz=>z.1.2)=ks
 | [],_,.nil=>⟨[],rfl,(λ_ z=>nomatch z),rfl⟩
 |
  k::ks,_,.cons ⟨q,w,k',e1,e2,e3⟩ r=>by
  obtain⟨zs,f1,f2,f3⟩:=gp r
  cases e1
  refine⟨((w,k),q)::zs,by rw[e2,f1];rfl,λz hz=>?_,by rw[Ad3,f3]⟩
  rcases Ado.mp hz with rfl|hz
  · exact e3
  · exact f2 z hz
def RlO (g:Int->Int)(ms:List (Lt×Addr))(H:Hp)(v y:V):Prop:=∃(q:Addr)(w k:Int)(m:Lt×Addr),v=.ref q/\H q=some (.tup [.int w,.int k])/\y=.ref m.2/\ms[(g k).toNat]?=some m
theorem gn {g:Int->Int}{ms:List (Lt×Addr)}{H:Hp}: ∀{zs:List ((Int×Int)×Addr)}{ys:List V},(∀z∈zs,H z.2=some (.tup [.int z.1.1,.int z.1.2]))->Paired (RlO g ms H) (zs.map λz=>V.ref z.2) ys-> ∃os:List (Lt×Addr),ys=(os.map λy=>V.ref y.2)/\os.map some=zs.map λz=>ms[(g z.1.2).toNat]?
 | [],_,_,.nil=>⟨[],rfl,rfl⟩
 |
  z::zs,_,hz,.cons ⟨q,w,k,m,e1,e2,e3,e4⟩ r=>by
  obtain⟨os,f1,f2⟩:=gn (λu hu=>hz u (Adi _ hu)) r
  cases e1
  have e5:=hz z (Ac8 ..)
  rw[e5] at e2
  injection e2 with e2
  injection e2 with e2
  injection e2 with _ e2
  injection e2 with e2 _
  have ek:=V.int.inj e2
  refine⟨m::os,by rw[e3,f1];rfl,?_⟩
  rw[Ad3,Ad3,f2,ek,e4]
theorem f6 {g:Int->Int}{ms os:List (Lt×Addr)}{zs:List ((Int×Int)×Addr)}{n:Nat}(e:os.map some=zs.map λz=>ms[(g z.1.2).toNat]?)(hp:(zs.map λz=>z.1.2).Perm ((List.range n).map λ(i:Nat)=>(0+(i:Int))))(hg: ∀j<ms.length,∃i<n,(g (0+(i:Int))).toNat=j): ∀y,y∈os↔y∈ms:=by
 intro y
 constructor
 ·
  intro hy
  have h1:some y∈os.map some:=Ada hy
  rw[e] at h1
  obtain⟨z,_,ez⟩:=Ac2.mp h1
  exact Ad6 ez
 ·
  intro hy
  obtain⟨j,hj,ej⟩:=List.mem_iff_getElem.mp hy
  obtain⟨i,hi,eg⟩:=hg j hj
  have h1:(0+(i:Int))∈zs.map λz=>z.1.2:=hp.mem_iff.mpr (Ada (f:=λ(i:Nat)=>(0+(i:Int))) (Aeo.mpr hi))
  obtain⟨z,hz,ez⟩:=Ac2.mp h1
  have h2:some y∈os.map some:=by
   rw[e]
   refine Ac2.mpr ⟨z,hz,?_⟩
   rw[ez,eg,Adh hj,ej]
  obtain⟨y',hy',e3⟩:=Ac2.mp h2
  cases e3
  exact hy'
theorem Xi (n:Nat):((List.range n).map λ(i:Nat)=>V.int (0+(i:Int)))=((List.range n).map λ(i:Nat)=>(0+(i:Int))).map V.int:=by rw[Adc];rfl
def R5:Sp:=λvs H Q _=>∃(L:Addr)(ms:List (Lt×Addr))(c:Int),vs=[.ref L,.int c]/\H L=some (.lst (ms.map λy=>V.ref y.2))/\0<ms.length/\ms.length<=63/\
 ∀(O D1 D2:Addr)(os1 os2:List (Lt×Addr))H',Same H H'->H' O=some (.lst [.ref D1,.ref D2])->H' D1=some (.lst (os1.map λy=>V.ref y.2))->H' D2=some (.lst (os2.map λy=>V.ref y.2))->(∀y,y∈os1↔y∈ms)->(∀y,y∈os2↔y∈ms)->os1.length<=200->os2.length<=200->Q (.ref O) H'
theorem Sy {ms ml:List (Lt×Addr)}(e:inM ms=inM ml)(k:Str×Int):inK ms k=inK ml k:=by unfold inK;rw[e]
theorem TdsOk.move {ms ml:List (Lt×Addr)}{ds:List Td}(e:inM ms=inM ml)(h:TdsOk ms ds):TdsOk ml ds:=⟨λd hd=>by rw[←Sy e];exact h.is_ d hd,λx hx bx=>h.all x (by rw[e];exact hx) bx,h.up⟩
theorem HoldsIs.move {ms ml:List (Lt×Addr)}{h:Str}{qs:List Qd}(e:inM ms=inM ml)(k:HoldsIs ms h qs):HoldsIs ml h qs:=let ⟨ds,t,o⟩:=k;⟨ds,TdsOk.move e t,o⟩
theorem Oh {H H1:Hp}{D p:Addr}{o u:HO}(s:Same H H1)(n:H D=none)(hp:H1 p=none):Same H (upd (upd H1 p o) D u):=λb x e=>by
 rw[Aq (As e n)]
 exact(s.trans (Ag hp)) _ _ e
def Nq (P:Program)(w:World)(C:Addr):Sp:=λvs H Q _=>∃(x k m t:Addr)(ms:List (Lt×Addr))(bs:MBs)(ts:List (List Key×V))(L:Addr)(ml:List (Lt×Addr))(Ln:Addr)(nl:List Str)(c:Int),vs=[.ref x,.ref L,.ref Ln,.int c]/\TabAt P w C H x k m t ms bs ts/\TlOk H ms ts/\ms.length<64/\LtsAt H L ml/\(∀y∈ml,Z5 y.1)/\ml.length<=200/\H Ln=some (.lst (nl.map V.str))/\0<nl.length/\nl.length<=100/\inM ms=inM ml/\(∀k,lu (inK ml k))/\ ∀H',Same H H'->Q (.bl true) H'
def RlL (F:Lt->Prop)(H:Hp)(v y:V):Prop:=∃(p:Addr)(l:Lt),y=.ref p/\LtAt H l p/\F l
theorem n9 {F:Lt->Prop}{H:Hp}: ∀{vs ys:List V},Paired (RlL F H) vs ys-> ∃ml:List (Lt×Addr),ys=(ml.map λy=>V.ref y.2)/\(∀y∈ml,LtAt H y.1 y.2/\F y.1)/\ml.length=vs.length
 | _,_,.nil=>⟨[],rfl,(λ_ z=>nomatch z),rfl⟩
 |
  _,_,.cons ⟨p,l,e1,e2,e3⟩ r=>by
  obtain⟨ml,f1,f2,f3⟩:=n9 r
  refine⟨(l,p)::ml,by rw[e1,f1];rfl,λy hy=>?_,by rw[Ad2,Ad2,f3]⟩
  rcases Ado.mp hy with rfl|hy
  · exact⟨e2,e3⟩
  · exact f2 y hy
theorem rn {ds:List Td}(h:TdsOk [] ds):ds=[]:=by
 cases ds with
 | nil=>rfl
 | cons d r=>obtain⟨x,hx,_⟩:=h.is_ d (Ac8 ..);exact nomatch hx.1.1
theorem made {H H2:Hp}{x dx k m t C:Addr}(nx:H x=none)(ndx:H dx=none)(fr: ∀b u,upd (upd H dx (.own x)) x (.ins C dx []) b=some u->b≠x->H2 b=some u)(hk:upd (upd H dx (.own x)) x (.ins C dx []) k=none)(hm:upd (upd H dx (.own x)) x (.ins C dx []) m=none)(ht:upd (upd H dx (.own x)) x (.ins C dx []) t=none):Same H H2/\ ∀b,Sz k m t [] b->H b=none:=by
 have up1: ∀b u,H b=some u->(upd (upd H dx (.own x)) x (.ins C dx [])) b=some u:=λb u e=>by rw[Aq (As e nx),Aq (As e ndx)];exact e
 have f1: ∀b,(upd (upd H dx (.own x)) x (.ins C dx [])) b=none->H b=none:=λb e=>by
  cases e2:H b with
  | none=>rfl
  | some o=>rw[up1 b o e2] at e;cases e
 refine⟨λb u e=>fr b u (up1 b u e) (As e nx),?_⟩
 rintro b (z|z|z|⟨y,hy,z⟩)
 · rw[z];exact f1 _ hk
 · rw[z];exact f1 _ hm
 · rw[z];exact f1 _ ht
 · cases hy
theorem m6 (H:Hp):TlOk H [] []:=⟨λk=>.inl ⟨rfl,λx h=>nomatch h.1⟩,(λ_ h=>nomatch h),Agm⟩
theorem qi {ms os:List (Lt×Addr)}{j:Nat}{l:Lt}{p:Addr}(e:inM ms=inM (os.take j))(hy:os[j]?=some (l,p))(h:Qu (nks ms) l.nk=true):inM ms=inM (os.take (j+1)):=by
 have hl:inM ms l:=by
  unfold Qu nks at h
  obtain⟨z,hz,ez⟩:=List.any_eq_true.mp h
  obtain⟨y,hy,rfl⟩:=Ac2.mp hz
  exact Ac2.mpr ⟨y,hy,Lt.nk_inj (Adk ez)⟩
 funext x
 refine propext ⟨λh=>?_,λh=>?_⟩
 ·
  rw[e] at h
  obtain⟨y,hy,e⟩:=Ac2.mp h
  exact Ac2.mpr ⟨y,Ahh (i:=j) (by rw[List.take_take,Aie (Afz j)];exact hy),e⟩
 ·
  obtain⟨y,hy',e'⟩:=Ac2.mp h
  rw[List.take_succ,hy] at hy'
  rcases Adq.mp hy' with z|z
  · rw[e];exact Ac2.mpr ⟨y,z,e'⟩
  ·
   have:y=(l,p):=by simpa using z
   rw[←e',this];exact hl
theorem rj {ms os:List (Lt×Addr)}{j:Nat}{l:Lt}{p:Addr}(e:inM ms=inM (os.take j))(hy:os[j]?=some (l,p)):inM (ms++[(l,p)])=inM (os.take (j+1)):=by
 unfold inM at*
 funext x
 have e:=congrFun e x
 rw[List.take_succ,hy,Adx,Adx,Adq,Adq,e]
 rfl
theorem xi {F:Lt->Prop}{P:Program}{w:World}{C:Addr}{H:Hp}{x1 k1 m1 t1 x2 k2 m2 t2 Hd:Addr}(T1:TabAt P w C H x1 k1 m1 t1 [] [] [])(T2:TabAt P w C H x2 k2 m2 t2 [] [] [])(hd:H Hd=some (.lst []))(ds: ∀b,Sz k1 m1 t1 [] b->Sz k2 m2 t2 [] b->False):
  DI F P w C (Frm (MDb (λr=>cond r k2 k1) (λr=>cond r m2 m1) (λr=>cond r t2 t1) (λ_=>[]) Hd) H) H (λr=>cond r x2 x1) (λr=>cond r k2 k1) (λr=>cond r m2 m1) (λr=>cond r t2 t1) Hd (λ_=>[]) (λ_=>[]) (λ_=>[]) []:=
 ⟨Same.refl _,(λs=>by cases s;exact T1;exact T2),λ_=>m6 _,(λ_ _ h=>nomatch h),λ_=>Agm,hd,(λ_ h=>nomatch h),(λ_ _ h=>nomatch h),λs r hn b h1 h2=>by
  cases s<;>cases r
  · exact hn rfl
  · exact ds b h1 h2
  · exact ds b h2 h1
  · exact hn rfl⟩
theorem Yb {F:Lt->Prop}{P:Program}{w:World}{C:Addr}{H0 H:Hp}{x k m t:Bool->Addr}{Hd:Addr}{ms:Bool->List (Lt×Addr)}{ts:Bool->List (List Key×V)}{hs:List Addr}(I:DI F P w C H0 H x k m t Hd ms (λ_=>[]) ts hs){b:Addr}{xs:List V}(h:H b=some (.lst xs))(n:b≠Hd):Frm (MDb k m t (λ_=>[]) Hd) H b=some (.lst xs):=by
 refine Frm.iff.mpr ⟨?_,h⟩
 rintro(⟨s,z⟩|z)
 · exact(dk (I.tab s) h (λ_ h=>nomatch h)).1 z
 · exact n z
theorem Lk {f:Bool->Addr}(s:Bool):atI [V.ref (f false),V.ref (f true)] (cond s 1 0)=some (.ref (f s)):=by cases s<;>rfl
theorem Xn (s:Bool):(cond s 1 0:Nat)<=1:=by cases s<;>decide
theorem t8 {s r:Bool}(h:r≠s):(cond r 1 0:Nat)≠cond s 1 0:=by cases s<;>cases r<;>first|exact absurd rfl h|decide
end K65
namespace K65
open PySem L2 DW
section
variable {P:Program}{w:World}{K:W.Frag}{mg:Str->Option Value}{base:Heap}{a:Adr}
theorem Sf:Ay ["text","signs"] ["text","signs"] (Af Ha):=⟨rfl,rfl,rfl,by decide+kernel,rfl,by decide+kernel,by decide+kernel⟩
theorem Ri (T:Txt K mg a):FnOk P w K mg base CX0 true 1 a.G9 a.Gy ["text","signs"] (R8):=by
 refine T.Nf.ok Sf (λvs H Q E h=>?_) (λcdv A outer s H vs Q E hr h=>?_)
 · obtain⟨t,g,rfl,_⟩:=h;rfl
 ·
  obtain⟨t,g,rfl,hl,k⟩:=h
  refine⟨_,(Ah (Ao (Ak (Ge (K:=K) rfl rfl) rfl T.Oj (by decide+kernel) (Aa (Bt (N:=["sign","signs"]) (cap:=[none,some 1]) (by show Ar (Af Ha) _ ["text","signs"] _ _;exact⟨rfl,by decide+kernel,by decide+kernel,by decide+kernel,by decide+kernel,rfl,by decide+kernel⟩) rfl (x8 (qv 0)) (λC s H fp=>⟨(Bc (i:=0) (by show(["sign","signs"]:List Str).Nodup;decide+kernel) rfl (Or.inl rfl) (.inr rfl)),Cc,(Bv U7 (qv 0) (qv 1) (by with_unfolding_all rfl))⟩)) Ac)))),?_⟩
  refine⟨t,rfl,?_⟩
  refine Bj (qo t H) (λ_=>true) (λv=>V.bl (match v with| .str y=>decide (y.cps.toList.headD 0∈g.cps.toList)|_=>false)) ?_ ?_ ?_ ?_
  ·
   rw[Ac0,Ac6]
   exact Ady hl (by decide)
  · exact λx _ H' _ R hR=>hR H' (Same.refl _)
  ·
   intro x hx _ H' _ R hR
   obtain⟨c,_,rfl⟩:=Ac2.mp hx
   exact⟨c,g,rfl,rfl,hR H' (Same.refl _)⟩
  ·
   intro D H' sm _ hD
   refine⟨D,t.cps.toList.map λc=>decide (c∈g.cps.toList),rfl,SqL.of ?_,?_⟩
   ·
    rw[hD,Aec.mpr (λ_ _=>rfl),Adc,Adc]
    rfl
   ·
    have:=k H' sm
    rw[Aii]
    exact this
theorem Zt:Ay ["begin","end"] ["begin","end"] (Af N7):=⟨rfl,rfl,rfl,by decide+kernel,rfl,by decide+kernel,by decide+kernel⟩
theorem Zn (T:Txt K mg a):FnOk P w K mg base CX0 true 1 a.L5 a.L4 ["begin","end"] (Zj):=by
 refine T.U1.ok Zt (λvs H Q E h=>?_) (λcdv A outer s H vs Q E hr h=>?_)
 · obtain⟨b,e,rfl,_⟩:=h;rfl
 ·
  obtain⟨b,e,rfl,k⟩:=h
  refine⟨_,(Ah (Ao (Bv Yv (qv 1) (qv 0) (Ap _)))),?_⟩
  exact k
theorem T8:Ay ["value"] ["value"] (Af Le):=⟨rfl,rfl,rfl,by decide+kernel,rfl,by decide+kernel,by decide+kernel⟩
theorem Kf (T:Txt K mg a):FnOk P w K mg base CX0 true 1 a.Jq a.Ja ["value"] (U3):=by
 refine T.Jn.ok T8 (λvs H Q E h=>?_) (λcdv A outer s H vs Q E hr h=>?_)
 · obtain⟨v,w,rfl,_⟩:=h;rfl
 ·
  obtain⟨v,w,rfl,hw,k⟩:=h
  refine⟨_,(Ah (Ao (Gp (Ak (Bk (K:=K) rfl) rfl T.Ba (by decide+kernel) (Aa (qv 0) (Aa (Cr (v:=.ty "int") rfl T.Wl (by decide+kernel) rfl) Ac))) (Dv (vx (Ak (Bk (K:=K) rfl) rfl T.Ba (by decide+kernel) (Aa (qv 0) (Aa (Cr (v:=.ty "bool") rfl T.Q6 (by decide+kernel) rfl) Ac)))))))),?_⟩
  cases w with
  | n=>cases hw;exact⟨_,_,_,_,rfl,Ed.non,rfl,Gk k⟩
  | b x=>cases hw;exact⟨_,_,_,_,rfl,Ed.bl _,rfl,Lj ⟨_,_,_,_,rfl,Ed.bl _,rfl,k⟩⟩
  | i z=>cases hw;exact⟨_,_,_,_,rfl,Ed.int _,rfl,Lj ⟨_,_,_,_,rfl,Ed.int _,rfl,k⟩⟩
  | s t=>obtain⟨rfl,ht⟩:=hw;exact⟨_,_,_,_,rfl,Ed.str _,rfl,Gk k⟩
  | ts l=>obtain⟨r,rfl,hr0,hl0,hl1⟩:=hw;exact⟨_,_,_,_,rfl,Ed.tup hr0,rfl,Gk k⟩
  | ti z=>obtain⟨r,rfl,hr0⟩:=hw;exact⟨_,_,_,_,rfl,Ed.tup hr0,rfl,Gk k⟩
theorem Uc:Ay ["hands"] ["hands"] (Af Jb):=⟨rfl,rfl,rfl,by decide+kernel,rfl,by decide+kernel,by decide+kernel⟩
theorem Uo (T:Txt K mg a):FnOk P w K mg base CX0 true 1 a.Ig a.Iz ["hands"] (Vr):=by
 refine T.Pu.ok Uc (λvs H Q E h=>?_) (λcdv A outer s H vs Q E hr h=>?_)
 · obtain⟨r,l,rfl,_⟩:=h;rfl
 ·
  obtain⟨r,l,rfl,hr0,hl,k⟩:=h
  refine⟨_,(Ah (Ao (Ak (Ge (K:=K) rfl rfl) rfl T.Oj (by decide+kernel) (Aa (Bt (N:=["place","hands"]) (cap:=[none,some 0]) (by show Ar (Af Jb) _ ["hands"] _ _;exact⟨rfl,by decide+kernel,by decide+kernel,by decide+kernel,by decide+kernel,rfl,by decide+kernel⟩) rfl (ak rfl T.Fh (Aa Ab (Aa (Ak (An (K:=K) rfl) rfl T.Cy (by decide+kernel) (Aa (pv 0) Ac)) Ac))) (λC s H fp=>⟨(Bc (i:=0) (by show(["place","hands"]:List Str).Nodup;decide+kernel) rfl (Or.inl rfl) (.inr rfl)),Cc,(Bv Z8 (Al (Ek (K:=K) rfl) (pv 1) (Bb iz (pv 0) Ab) (λ_ _=>rfl)) (Al (Ek (K:=K) rfl) (pv 1) (pv 0) (λ_ _=>rfl)) (Ap _))⟩)) Ac)))),?_⟩
  refine⟨_,rfl,r,_,rfl,.inr (SqT.of hr0),_,_,rfl,⟨by decide,by decide,by lia,by rw[Ac0];lia⟩,?_⟩
  rw[Ac0]
  have en:((l.length:Int)-1).toNat=l.length-1:=by lia
  rw[en]
  refine Bj (C0 1 (l.length-1) H) (λ_=>true) (ltF l) ?_ (λx _ H' _ R hR=>hR H' (Same.refl _)) ?_ (λD H1 s1 hD0 hD=>?_)
  ·
   rw[Ac0,Ad7]
   lia
  ·
   intro x hx _ H' sm R hR
   obtain⟨j,hj,rfl⟩:=Ac2.mp hx
   have hj2:=Aeo.mp hj
   have A1:atI (l.map V.str) (1+(j:Int)-1)=some (.str (l.getD ((1+(j:Int))-1).toNat "")):=by rw[show((1+(j:Int))-1).toNat=j by lia,show(1+(j:Int)-1)=((j:Nat):Int) by lia];exact getD_at (by lia)
   have A2:atI (l.map V.str) (1+(j:Int))=some (.str (l.getD (1+(j:Int)).toNat "")):=by rw[show(1+(j:Int)).toNat=j+1 by lia,show(1+(j:Int))=((j+1:Nat):Int) by lia];exact getD_at (by lia)
   exact⟨_,rfl,_,rfl,_,_,rfl,rfl,r,_,_,_,rfl,rfl,SqT.of (sm _ _ hr0),A1,_,rfl,_,rfl,r,_,_,_,rfl,rfl,SqT.of (sm _ _ hr0),A2,_,_,rfl,rfl,hR H' (Same.refl _)⟩
  rw[Aec.mpr (λ_ _=>rfl),qd] at hD
  refine⟨D,_,rfl,SqL.of hD,?_⟩
  rw[Aii]
  have ea:=Xz l
  have eb:((List.range (l.length-1)).all (id∘ λj=>decide ((l.getD j "").cps.toList<(l.getD (j+1) "").cps.toList)))=Hf l:=ea
  rw[eb]
  exact k H1 s1
theorem Sj:Ay ["letter"] ["letter"] (Af Kb):=⟨rfl,rfl,rfl,by decide+kernel,rfl,by decide+kernel,by decide+kernel⟩
theorem Ta (T:Txt K mg a):FnOk P w K mg base CX0 true 1 a.Hc a.Gq ["letter"] (Sm):=by
 refine T.Vl.ok Sj (λvs H Q E h=>?_) (λcdv A outer s H vs Q E hr h=>?_)
 · obtain⟨p,l,rfl,_⟩:=h;rfl
 ·
  obtain⟨p,l,rfl,⟨ys,hp,hv⟩,k⟩:=h
  refine⟨_,(Ah (Ao (Bu (Aa (Al (Am (K:=K) rfl) (qv 0) Ab (λ_ _=>rfl)) (Aa (qv 0) Ac))))),?_⟩
  obtain⟨r,rfl⟩:=hv.four
  exact⟨SqT.of hp,bj,λq hq=>k q hq⟩
theorem Io:Ay ["letters","turn","last","letter"] ["letters","turn"] (Af J9):=⟨rfl,rfl,rfl,by decide+kernel,rfl,by decide+kernel,by decide+kernel⟩
theorem R4 (
      T:Txt K mg a):FnOk P w K mg base CX0 true 1 a.Gs a.G5 ["letters","turn"] (Rn):=by
 refine T.M5.ok Io (λvs H Q E h=>?_) (λcdv A outer s H vs Q E hr h=>?_)
 · obtain⟨L,ms,t,rfl,_⟩:=h;rfl
 ·
  obtain⟨L,ms,t,rfl,hL,hG,k⟩:=h
  refine⟨_,(Ae (Ax (i:=2) Io.nd rfl (Or.inl rfl) Sd)
   (Ae (Pn Agl rfl (Bn (K:=K) rfl (pv 0)) (Bc (i:=3) Io.nd rfl (Or.inl rfl)) (Ah (P0 (PW.pt (Tp (Cz (Kz (Fs hr)) (Al (Ek (K:=K) rfl) (pv 3) Ab (λ_ _=>rfl)) Bo (Ap _)) (F8 (Cz Qj (Al (Ek (K:=K) rfl) (pv 3) Ab (λ_ _=>rfl)) (pv 1) (Ap _))))) (Ah (Wu (Fs hr) (pv 2) (Al (Ek (K:=K) rfl) (pv 3) Ab (λ_ _=>rfl)) (Ak (Zi rfl) rfl T.Ui (by decide+kernel) (Aa (Tg (Fs hr) (pv 2) (Al (Ek (K:=K) rfl) (pv 3) Ab (λ_ _=>rfl)) (U6 (Ic [.int (-1),.str ""] (by decide+kernel))) ⟨rfl,rfl,rfl,rfl⟩) (Aa (U6 (Aa (Al (Ek (K:=K) rfl) (pv 3) Ab (λ_ _=>rfl)) (Aa (Al (Ek (K:=K) rfl) (pv 3) Ab (λ_ _=>rfl)) Ac))) Ac))) rfl)) Av)))
   (Ah (Ao (pv 2))))),?_⟩
  refine λD hD=>?_
  refine⟨_,rfl,L,rfl,⟨_,SqL.of ((Ag hD) _ _ hL.at_)⟩,?_⟩
  refine Lf (Bp (K:=K) (SqL.of Wg)) (λi σ H'=>Same H H'/\ ∃(kvs:List (Key×V))(y:Option V),H' D=some (.dK kvs)/\AnsB H' (Si ms i) t kvs/\kvs.length<=i/\σ=[some (.ref L),some (.int t),some (.ref D),y]) ⟨Ag hD,[],_,Ad,(λx=>.inl ⟨rfl,λ_ _ _ _ z=>nomatch z⟩),Adb _,rfl⟩ (λ_ _ _ _ h=>N9 (h.1 _ _ hL.at_)) ?_ ?_
  ·
   rintro i v σ H1 hv ⟨s1,kvs,y,h1,hA,hl,rfl⟩
   have hi:i<1000:=by have h1:=(Aed.mp hv).1;rw[Ac0] at h1;have:=hL.few;lia
   rw[Adl] at hv
   obtain⟨m,hmi,rfl⟩:=Aen.mp hv
   have hm:=Ad6 hmi
   obtain⟨lt,p⟩:=m
   have hS:=W6 hmi
   have nx:(∀a n x g w,Lt.ans a n t x g w≠lt)->Same H H1/\ ∃(kvs:List (Key×V))(y':Option V),H1 D=some (.dK kvs)/\AnsB H1 (Si ms (i+1)) t kvs/\kvs.length<=i+1/\([some (V.ref L),some (V.int t),some (V.ref D),y].set 3 (some (V.ref p)))=[some (.ref L),some (.int t),some (.ref D),y']:=λne=>⟨s1,kvs,_,h1,hA.skip (λa n x g w=>by rw[hS];exact⟨λz=>z.elim id λy=>absurd y (ne a n x g w),.inl⟩),Nat.le_succ_of_le hl,rfl⟩
   obtain⟨zs,hp,hv'⟩:=(hL.ok _ hm).up s1
   cases lt with
   | bid a0 n t0 b e hs=>obtain⟨q,rfl,_⟩:=hv';exact⟨_,rfl,p,_,_,_,rfl,rfl,SqT.of hp,Kv,_,rfl,.inl ⟨rfl,_,rfl,Kw (λz=>absurd z (by decide+kernel)) (λ_=>nx (λ_ _ _ _ _ z=>nomatch z))⟩⟩
   | off a0 n t0=>cases hv';exact⟨_,rfl,p,_,_,_,rfl,rfl,SqT.of hp,Kv,_,rfl,.inl ⟨rfl,_,rfl,Kw (λz=>absurd z (by decide+kernel)) (λ_=>nx (λ_ _ _ _ _ z=>nomatch z))⟩⟩
   | close a0 n t0 hs=>obtain⟨q,rfl,_⟩:=hv';exact⟨_,rfl,p,_,_,_,rfl,rfl,SqT.of hp,Kv,_,rfl,.inl ⟨rfl,_,rfl,Kw (λz=>absurd z (by decide+kernel)) (λ_=>nx (λ_ _ _ _ _ z=>nomatch z))⟩⟩
   | ans a0 nn t0 h g w0=>
   cases hv'
   have hg:0<=g:=hG _ hm
   refine⟨_,rfl,p,_,_,_,rfl,rfl,SqT.of hp,Kv,_,rfl,.inl ⟨rfl,_,rfl,Kw (λ_=>?_) (λz=>absurd (by decide+kernel) z)⟩⟩
   refine⟨_,rfl,p,_,_,_,rfl,rfl,SqT.of hp,bj,_,rfl,rfl,_,rfl,Kw (λzt=>?_) (λz=>nx (λ_ _ _ _ _ e=>z (by injection e with _ _ e _ _ _;rw[e];exact Ac3 rfl)))⟩
   obtain rfl:t0=t:=V.int.inj (Adk zt)
   clear zt nx
   refine⟨_,rfl,D,rfl,.inl ⟨kvs,.inl h1⟩,_,rfl,p,_,_,_,rfl,rfl,SqT.of hp,A8 (j:=4) rfl,(by show 2<=sizeLine;decide),λq0 hq0=>?_⟩
   have u0:=Ag (o:=.tup [.int (-1),.str ""]) hq0
   have e0:(upd H1 q0 (.tup [.int (-1),.str ""])) q0=some (.tup [.int (-1),.str ""]):=Ad
   replace hp:=u0 _ _ hp
   replace h1:=u0 _ _ h1
   replace hA:=hA.up λb xs e=>u0 b _ e
   replace s1:=s1.trans u0
   clear hv
   generalize upd H1 q0 (.tup [.int (-1),.str ""])=H2 at*
   refine⟨_,DGet.k (k:=.inr h) h1,_,rfl,p,_,_,_,rfl,rfl,SqT.of hp,A8 (j:=5) rfl,_,rfl,p,_,_,_,rfl,rfl,SqT.of hp,A8 (j:=6) rfl,(by show 2<=sizeLine;decide),λq1 hq1=>?_⟩
   have u1:=Ag (o:=.tup [.int g,.str w0]) hq1
   have e1:(upd H2 q1 (.tup [.int g,.str w0])) q1=some (.tup [.int g,.str w0]):=Ad
   replace hp:=u1 _ _ hp
   replace h1:=u1 _ _ h1
   replace e0:=u1 _ _ e0
   replace hA:=hA.up λb xs e=>u1 b _ e
   replace s1:=s1.trans u1
   generalize upd H2 q1 (.tup [.int g,.str w0])=H3 at*
   have hS': ∀a n x g' w',Si ms (i+1) (.ans a n t0 x g' w')↔Si ms i (.ans a n t0 x g' w')∨Lt.ans a n t0 x g' w'=.ans a0 nn t0 h g w0:=λa n x g' w'=>hS _
   have hold: ∃(q2:Addr)(g2:Int)(w2:Str),((Fe kvs (.inr h)).getD (.ref q0))=.ref q2/\H3 q2=some (.tup [.int g2,.str w2])/\(∀a n g' w',Si ms i (.ans a n t0 h g' w')->ltP (g2,w2) (g',w')=false)/\(ltP (g2,w2) (g,w0)=false->Of ltP (Si ms i) t0 h g2 w2):=by
    rcases hA h with⟨e,no⟩|⟨q2,g2,w2,e,e2,best⟩
    · exact⟨q0, -1,"",by rw[e];rfl,e0,λa n g' w' z=>absurd z (no a n g' w'),λz=>by rw[qf (a:=(-1,"")) (b:=(g,w0)) (by show(-1:Int)<g;lia)] at z;cases z⟩
    · exact⟨q2,g2,w2,by rw[e];rfl,e2,best.2,λ_=>best⟩
   obtain⟨q2,g2,w2,eq2,hq2,low,keep⟩:=hold
   rw[eq2]
   let c:V->List Key:=λz=>if z=.ref q2 then[.inl g2,.inr w2] else[.inl g,.inr w0]
   have hc: ∀z∈[V.ref q2,V.ref q1],∀H4,Same H3 H4-> ∃q,z=.ref q/\H4 q=some (.tup ((c z).map kV))/\ ∃a b,c z=[.inl a,.inr b]:=by
    intro z hz H4 s4
    by_cases ez:z=.ref q2
    · exact⟨q2,ez,by show H4 q2=some (.tup ((if z=.ref q2 then _ else _:List Key).map kV));rw[if_pos ez];exact s4 _ _ hq2,g2,w2,if_pos ez⟩
    ·
     have e1':z=.ref q1:=by
      rcases Ado.mp hz with h|h
      · exact absurd h ez
      · exact Ac9.mp h
     exact⟨q1,e1',by show H4 q1=some (.tup ((if z=.ref q2 then _ else _:List Key).map kV));rw[if_neg ez];exact s4 _ _ e1,g,w0,if_neg ez⟩
   have c2:c (.ref q2)=pk (g2,w2):=if_pos rfl
   have c1:c (.ref q1)=pk (g,w0):=by
    by_cases ez:V.ref q1=.ref q2
    ·
     have e3:=e1
     rw[V.ref.inj ez,hq2] at e3
     show(if V.ref q1=.ref q2 then _ else _)=_
     rw[if_pos ez]
     injection e3 with e3
     injection e3 with e3
     injection e3 with e4 e5
     injection e5 with e5 _
     rw[V.int.inj e4,V.str.inj e5]
     rfl
    · exact if_neg ez
   refine⟨.ref q2,.ref q1,λz z'=>DX.Hk ltK (c z') (c z),rfl,λz hz z' hz' H4 s4=>?_,λH4 s4=>?_⟩
   ·
    obtain⟨qa,ea,ha,a1,b1,ca⟩:=hc z hz H4 s4
    obtain⟨qb,eb,hb,a2,b2,cb⟩:=hc z' hz' H4 s4
    subst ea eb
    exact qx (hu2 hr) ha hb (by rw[ca,cb];exact Abt)
   ·
    have hD4: ∀xs,H4 D≠some (.tup xs):=λxs z=>by rw[s4 _ _ h1] at z;cases z
    have hz:kvs.length<sizeLine:=by rw[PySem.sizeLine_eq];lia
    refine⟨_,rfl,_,rfl,p,_,_,_,rfl,rfl,SqT.of (s4 _ _ hp),A8 (j:=4) rfl,D,_,rfl,DPut.k (k:=.inr h) (s4 _ _ h1) hz,λb o e=>?_,_,_,Ad,?_,Ady (Eo _ _ _) (by lia),rfl⟩
    ·
     rw[Aq (As e hD)]
     exact s4 _ _ (s1 _ _ e)
    ·
     have tp: ∀b xs,H3 b=some (.tup xs)->(upd H4 D (.dK (putK kvs (.inr h) (if DX.Hk ltK (c (.ref q2)) (c (.ref q1)) then .ref q1 else .ref q2)))) b=some (.tup xs):=λb xs e=>by
      rw[Aq (λz=>hD4 xs (by rw[←z];exact s4 _ _ e))]
      exact s4 _ _ e
     have eg:DX.Hk ltK (c (.ref q2)) (c (.ref q1))=ltP (g2,w2) (g,w0):=by rw[c1,c2];rfl
     show AnsB (upd H4 D (.dK (putK kvs (.inr h) (if DX.Hk ltK (c (.ref q2)) (c (.ref q1))=true then .ref q1 else .ref q2)))) (Si ms (i+1)) t0 (putK kvs (.inr h) (if DX.Hk ltK (c (.ref q2)) (c (.ref q1))=true then .ref q1 else .ref q2))
     rw[eg] at tp ⊢
     cases hlt:ltP (g2,w2) (g,w0) with
     |
      true=>
      rw[hlt] at tp
      exact(hA.up tp).put hS' (tp _ _ e1) (km hS' λa n g' w' z=>by
       cases hx:ltP (g,w0) (g',w') with
       | false=>rfl
       | true=>have:=M0.tr _ _ _ hlt hx;rw[low a n g' w' z] at this;cases this)
     |
      false=>
      rw[hlt] at tp
      exact(hA.up tp).put hS' (tp _ _ hq2) (kg hS' (keep hlt) hlt)
  rintro σ H1 ⟨s1,kvs,y,h1,hA,hl,rfl⟩
  rw[Ac0,nj] at hA
  exact⟨_,rfl,k D kvs H1 s1 h1 hA⟩
theorem Vo:Ay ["asked","answers","word"] ["asked","answers","word"] (Af Gh):=⟨rfl,rfl,rfl,by decide+kernel,rfl,by decide+kernel,by decide+kernel⟩
theorem J8 (T:Txt K mg a):FnOk P w K mg base CX0 true 1 a.Iv a.Hy ["asked","answers","word"] (Vn):=by
 refine T.Jd.ok Vo (λvs H Q E h=>?_) (λcdv A outer s H vs Q E hr h=>?_)
 · obtain⟨A0,D,l,kvs,o,wf,rfl,_⟩:=h;rfl
 ·
  obtain⟨A0,D,l,kvs,o,wf,rfl,hA0,hl,hD,hW,k⟩:=h
  refine⟨_,(Ae (P0 (Cz Yj (pv 2) Gu (Ap _)) (Ah (Ao (Dg (Bx (K:=K) rfl) rfl T.Cd (by decide+kernel) (Aa (Bt (N:=["hand","answers"]) (cap:=[none,some 1]) (by show Ar (Af Gh) _ ["asked","answers","word"] _ _;exact⟨rfl,by decide+kernel,by decide+kernel,by decide+kernel,by decide+kernel,rfl,by decide+kernel⟩) rfl (Jk (K:=K) rfl (pv 0)) (λC s H fp=>⟨(Bc (i:=0) (by show(["hand","answers"]:List Str).Nodup;decide+kernel) rfl (Or.inl rfl) (.inr rfl)),(Fc (af (Vj (Fs hr) (pv 0) (pv 1)) (by with_unfolding_all rfl))),(pv 0)⟩)) Ac)))) Av)
   (Ah (Ao (Dg (Bx (K:=K) rfl) rfl T.Cd (by decide+kernel) (Aa (Bt (N:=["hand","answers","word"]) (cap:=[none,some 1,some 2]) (by show Ar (Af Gh) _ ["asked","answers","word"] _ _;exact⟨rfl,by decide+kernel,by decide+kernel,by decide+kernel,by decide+kernel,rfl,by decide+kernel⟩) rfl (Jk (K:=K) rfl (pv 0)) (λC s H fp=>⟨(Bc (i:=0) (by show(["hand","answers","word"]:List Str).Nodup;decide+kernel) rfl (Or.inl rfl) (.inr rfl)),(Fc (PW.pt (Tp (af (yd (Fs hr) (pv 0) (pv 1)) (by with_unfolding_all rfl)) (F8 (Cz Qj (Al (Ek (K:=K) rfl) (Wa (Fs hr) (pv 1) (pv 0) (λ_ _=>rfl)) Ab (λ_ _=>rfl)) (pv 2) (Ap _)))))),(pv 0)⟩)) Ac))))),?_⟩
  have fin: ∀{σ:St}{cap:List (Option Nat)}{tt:TT},(∀t∈l,∀H',Same H H'-> ∀R:Bool->Hp->Prop,(∀H'',Same H' H''->R (decide (wf t=o)) H'')->tt ((N2 cap σ).set 0 (some (V.str t))) H' R)->
    (∀t∈l,((N2 cap σ).set 0 (some (V.str t)))[0]?=some (some (V.str t)))-> ∀{Q':VK},(∀(D2:Addr)H',Same H H'->H' D2=some (.lst ((Mm wf o l).map V.str))->Q' (.ref D2) H')->Ls (Itt K A0) H cap (Tv 0) tt (Aai 0) σ Q':=by
   intro σ cap tt h1 h2 Q' h3
   refine Bj (Ie (SqT.of hA0)) (wP wf o) (λv=>v) (by rw[Ac0];lia) (λx hx=>?_) (λx hx _ H' sm R hR=>?_) (λD2 H2 s2 hD20 hD2=>?_)
   ·
    obtain⟨t,ht,rfl⟩:=Ac2.mp hx
    exact h1 t ht
   ·
    obtain⟨t,ht,rfl⟩:=Ac2.mp hx
    exact⟨_,h2 t ht,hR H' (Same.refl _)⟩
   ·
    rw[Xf] at hD2
    exact h3 D2 H2 s2 hD2
  cases o with
  |
   none=>
   refine⟨_,rfl,rfl,_,rfl,Kw (λ_=>?_) (λz=>absurd rfl z)⟩
   refine⟨_,rfl,A0,rfl,⟨_,SqT.of hA0⟩,fin (λt ht H' sm R hR=>?_) (λ_ _=>rfl) λD2 H2 s2 hD2=>⟨D2,_,rfl,.inl ⟨SqL.of hD2,λr hr0=>k r _ (s2.trans (Ag hr0)) Ad⟩⟩⟩
   refine⟨_,rfl,_,rfl,D,_,rfl,DGet.k (k:=.inr t) (sm _ _ hD),_,rfl,?_⟩
   have q:=hR H' (Same.refl _)
   rcases hW t with⟨e1,e2⟩|⟨q2,g2,w2,e1,e2,e3⟩
   ·
    rw[e2,Ac3 rfl] at q
    rw[e1]
    exact q
   ·
    rw[e3,Ac7 (λz=>nomatch z)] at q
    rw[e1]
    exact q
  |
   some t0=>
   refine⟨_,rfl,rfl,_,rfl,Kw (λz=>absurd z (by simp[oV])) (λ_=>?_)⟩
   refine⟨_,rfl,A0,rfl,⟨_,SqT.of hA0⟩,fin (λt ht H' sm R hR=>?_) (λ_ _=>rfl) λD2 H2 s2 hD2=>⟨D2,_,rfl,.inl ⟨SqL.of hD2,λr hr0=>k r _ (s2.trans (Ag hr0)) Ad⟩⟩⟩
   refine⟨_,rfl,_,rfl,D,_,rfl,DGet.k (k:=.inr t) (sm _ _ hD),_,rfl,?_⟩
   have q:=hR H' (Same.refl _)
   rcases hW t with⟨e1,e2⟩|⟨q2,g2,w2,e1,e2,e3⟩
   ·
    rw[e2,Ac7 (λz=>nomatch z)] at q
    rw[e1]
    exact uw q
   ·
    rw[e3] at q
    rw[e1]
    refine x6 ⟨_,rfl,_,rfl,D,_,rfl,e1▸DGet.k (k:=.inr t) (sm _ _ hD),q2,_,_,_,rfl,rfl,SqT.of (sm _ _ e2),rfl,_,rfl,rfl,_,rfl,?_⟩
    rw[show decide (V.str w2=oV (some t0))=decide (some w2=some t0) from Aej.mpr (by show V.str w2=V.str t0↔_;rw[V.str.injEq,Aiy])]
    exact q
theorem Y8:Ay ["told","hand"] ["told","hand"] (Af Ot):=⟨rfl,rfl,rfl,by decide+kernel,rfl,by decide+kernel,by decide+kernel⟩
theorem Zg (T:Txt K mg a):FnOk P w K mg base CX0 true 1 a.Mf a.Mc ["told","hand"] (Yx):=by
 refine T.Vu.ok Y8 (λvs H Q E h=>?_) (λcdv A outer s H vs Q E hr h=>?_)
 · obtain⟨p,d,h0,rfl,_⟩:=h;rfl
 ·
  obtain⟨p,d,h0,rfl,hT,k⟩:=h
  refine⟨_,(Ae (B3 (Au Ec (Al (Am (K:=K) rfl) (qv 0) Ab (λ_ _=>rfl)) Bo (Ap _)) (Ah (Ao Gm)) Av)
   (Ae (B3 (Au Ec (Al (Am (K:=K) rfl) (qv 0) Ab (λ_ _=>rfl)) (qv 1) (Ap _)) (Ah (Ao Gm)) Av)
   (Ah (Ao (Gp (Bv (F3 (K:=K) rfl) (qv 1) (Al (Am (K:=K) rfl) (qv 0) Ab (λ_ _=>rfl)) (by with_unfolding_all rfl)) (Dv (k3 (Bv Ec (Al (Am (K:=K) rfl) (qv 0) Ab (λ_ _=>rfl)) Bo (Ap _)) (Dv (Bv (F3 (K:=K) rfl) (qv 1) (Al (Am (K:=K) rfl) (qv 0) Ab (λ_ _=>rfl)) (by with_unfolding_all rfl)))))))))),?_⟩
  obtain⟨q1,q2,q3,q4,q5,e0,e1,e2,e3,e4,e5⟩:=hT.at_
  have q:=k H (Same.refl _)
  unfold Jw at q
  refine⟨SqT.of e0,bj,?_⟩
  conv=>whnf
  rw[Ik]
  refine⟨λz=>?_,λz=>?_⟩
  ·
   rw[z] at q
   exact q
  rw[Ad8.mpr z,Ain,Aex] at q
  refine⟨SqT.of e0,Kv,?_⟩
  conv=>whnf
  rw[Ik]
  refine⟨λz=>?_,λz=>?_⟩
  ·
   rw[z,Aij] at q
   exact q
  rw[Ad8.mpr z,Agx] at q
  refine⟨SqT.of e0,A8 (j:=6) rfl,q1,_,rfl,.inr (SqT.of e1),rfl,Dk d.yes,?_⟩
  conv=>whnf
  show Br (inV (.str h0) (d.yes.map V.str)) _ _
  rw[Gv]
  refine⟨λz=>?_,λz=>?_⟩
  ·
   rw[z,Aex] at q
   refine⟨SqT.of e0,bj,?_⟩
   conv=>whnf
   rw[Ik]
   refine⟨λz=>?_,λz=>?_⟩
   ·
    rw[z,Aij] at q
    exact q
   rw[Ad8.mpr z,Agx] at q
   refine⟨SqT.of e0,A8 (j:=9) rfl,q4,_,rfl,.inr (SqT.of e4),rfl,Dk d.come,?_⟩
   conv=>whnf
   show Q (.bl (inV (.str h0) (d.come.map V.str))) H
   rw[Gv]
   exact q
  ·
   rw[Ad8.mpr z,Adp] at q
   exact q
theorem Od:Ay ["self"] ["self"] (Af Hh):=⟨rfl,rfl,rfl,by decide+kernel,rfl,by decide+kernel,by decide+kernel⟩
theorem De (T:Txt K mg a):FnOk P w K mg base CX0 true 1 a.Ex a.E4 ["self"] (Rq P w a.Aj):=by
 refine T.Qn.ok Od (λvs H Q E h=>?_) (λcdv A outer s H vs Q E hr h=>?_)
 · obtain⟨x,dx,rfl,_⟩:=h;rfl
 ·
  obtain⟨x,dx,rfl,hx,kk⟩:=h
  refine⟨_,(Ae (Wq (K:=K) rfl (pv 0) Sd)
   (Ae (Wq (K:=K) rfl (pv 0) Xv)
   (Ah (Wq (K:=K) rfl (pv 0) Xv)))),?_⟩
  refine λk0 hk0=>?_
  have nk:x≠k0:=As hx hk0
  refine⟨_,rfl,x,_,dx,_,rfl,(by rw[Aq nk];exact hx),T.Bl,T.G4,by decide,λm0 hm0=>?_⟩
  have a1: ∀{b:Addr}{o:HO},H b=some o->b≠x->(upd (upd H k0 (.dK [])) x (.ins a.Aj dx (Nl "kept" (.ref k0) []))) b=some o:=λ{b o}e nb=>by rw[Aq nb,Aq (As e hk0)];exact e
  have x1:(upd (upd H k0 (.dK [])) x (.ins a.Aj dx (Nl "kept" (.ref k0) []))) x=some (.ins a.Aj dx [("kept",.ref k0)]):=Ad
  have k1:(upd (upd H k0 (.dK [])) x (.ins a.Aj dx (Nl "kept" (.ref k0) []))) k0=some (.dK []):=by rw[Aq nk.symm];exact Ad
  generalize upd (upd H k0 (.dK [])) x (.ins a.Aj dx (Nl "kept" (.ref k0) []))=H1 at*
  have nm:x≠m0:=As x1 hm0
  have hm:H m0=none:=by
   cases e:H m0 with
   | none=>rfl
   | some o=>have:=a1 e nm.symm;rw[hm0] at this;cases this
  refine⟨_,rfl,x,_,dx,_,rfl,(by rw[Aq nm];exact x1),T.Bl,T.Dz,(by show 1<1000;decide),λt0 ht0=>?_⟩
  have a2: ∀{b:Addr}{o:HO},H1 b=some o->b≠x->(upd (upd H1 m0 (.dT [])) x (.ins a.Aj dx (Nl "by_meeting" (.ref m0) [("kept",.ref k0)]))) b=some o:=λ{b o}e nb=>by rw[Aq nb,Aq (As e hm0)];exact e
  have x2:(upd (upd H1 m0 (.dT [])) x (.ins a.Aj dx (Nl "by_meeting" (.ref m0) [("kept",.ref k0)]))) x=some (.ins a.Aj dx [("kept",.ref k0),("by_meeting",.ref m0)]):=Ad
  have m2:(upd (upd H1 m0 (.dT [])) x (.ins a.Aj dx (Nl "by_meeting" (.ref m0) [("kept",.ref k0)]))) m0=some (.dT []):=by rw[Aq nm.symm];exact Ad
  generalize upd (upd H1 m0 (.dT [])) x (.ins a.Aj dx (Nl "by_meeting" (.ref m0) [("kept",.ref k0)]))=H2 at*
  have nt:x≠t0:=As x2 ht0
  have ht:H t0=none:=by
   cases e:H t0 with
   | none=>rfl
   | some o=>have:=a2 (a1 e nt.symm) nt.symm;rw[ht0] at this;cases this
  refine⟨_,rfl,x,_,dx,_,rfl,(by rw[Aq nt];exact x2),T.Bl,T.B8,(by show 2<1000;decide),?_⟩
  have a3: ∀{b:Addr}{o:HO},H2 b=some o->b≠x->(upd (upd H2 t0 (.dT [])) x (.ins a.Aj dx (Nl "tellings" (.ref t0) [("kept",.ref k0),("by_meeting",.ref m0)]))) b=some o:=λ{b o}e nb=>by rw[Aq nb,Aq (As e ht0)];exact e
  refine kk k0 m0 t0 _ (λb o e nb=>a3 (a2 (a1 e nb) nb) nb) hk0 hm ht ⟨⟨dx,Ad⟩,⟨.inr ⟨rfl,a3 (a2 k1 nk.symm) nk.symm⟩,(λ_ z=>nomatch z),Adw _⟩,(λ_ z=>nomatch z),(λ_ z=>nomatch z),a3 m2 nm.symm,(by rw[Aq nt.symm];exact Ad),As m2 ht0,⟨(λ_ z=>nomatch z),(λ_ z=>nomatch z),Agm,Agm,(λ_ z=>nomatch z)⟩,Adw _,Adb _,Adb _⟩
theorem Nn:Ay ["self"] ["self"] (Af Gg):=⟨rfl,rfl,rfl,by decide+kernel,rfl,by decide+kernel,by decide+kernel⟩
theorem Fg (T:Txt K mg a):FnOk P w K mg base CX0 true 1 a.C1 a.C7 ["self"] (Co P w a.Aj):=by
 refine T.Oz.ok Nn (λvs H Q E h=>?_) (λcdv A outer s H vs Q E hr h=>?_)
 · obtain⟨x,k0,m0,t0,ms,bs,ts,rfl,_⟩:=h;rfl
 ·
  obtain⟨x,k0,m0,t0,ms,bs,ts,rfl,hT,h64,k⟩:=h
  refine⟨_,(Ah (Ao (Ak (Oa rfl (hu2 hr)) rfl T.Ci (by decide+kernel) (Aa (Mi (K:=K) rfl (qv 0)) Ac)))),?_⟩
  obtain⟨dx,hx⟩:=hT.ins
  refine⟨hx,T.Bl,T.G4,rfl,k0,nks ms,rfl,hT.kept,(by unfold nks;rw[Ac0];exact h64),?_,?_,λD qs hD hp hs=>?_⟩
  ·
   intro y hy
   obtain⟨z,_,rfl⟩:=Ac2.mp hy
   exact z.1.fst
  ·
   intro y hy y' hy'
   obtain⟨z,_,rfl⟩:=Ac2.mp hy
   obtain⟨z',_,rfl⟩:=Ac2.mp hy'
   exact Lt.ok _ _
  obtain⟨rs,hr1,rfl⟩:=Yu hp
  have q:=k D rs hD hr1 (by unfold keysOf nks at hs;rw[Adc] at hs;exact hs)
  rw[Sx]
  exact q
theorem Nt:Ay ["self","asker","number"] ["self","asker","number"] (Af F6):=⟨rfl,rfl,rfl,by decide+kernel,rfl,by decide+kernel,by decide+kernel⟩
theorem Nr (T:Txt K mg a):FnOk P w K mg base CX0 true 1 a.Dp a.Dy ["self","asker","number"] (Jt P w a.Aj):=by
 refine T.P4.ok Nt (λvs H Q E h=>?_) (λcdv A outer s H vs Q E hr h=>?_)
 · obtain⟨x,k0,m0,t0,ms,bs,ts,a0,n,rfl,_⟩:=h;rfl
 ·
  obtain⟨x,k0,m0,t0,ms,bs,ts,a0,n,rfl,hT,k⟩:=h
  refine⟨_,(Ah (Ao (i5 (Fs hr) (Mi (K:=K) rfl (qv 0)) (Bu (Aa (qv 1) (Aa (qv 2) Ac))) ⟨rfl,rfl,rfl,rfl⟩))),?_⟩
  obtain⟨dx,hx⟩:=hT.ins
  exact⟨hx,T.Bl,T.B8,rfl,t0,rfl,.inr ⟨_,.inl hT.told⟩,λq hq=>⟨_,DGet.t (k:=mkK (a0,n)) ((Ag hq) _ _ hT.told) Ad,k _ (Ag hq)⟩⟩
theorem Sw:Ay ["self"] ["self"] (Af Gz):=⟨rfl,rfl,rfl,by decide+kernel,rfl,by decide+kernel,by decide+kernel⟩
theorem Ce (T:Txt K mg a):FnOk P w K mg base CX0 true 1 a.G3 a.G2 ["self"] (B4 P w a.Aj):=by
 refine T.Ur.ok Sw (λvs H Q E h=>?_) (λcdv A outer s H vs Q E hr h=>?_)
 · obtain⟨x,k0,m0,t0,ms,bs,ts,rfl,_⟩:=h;rfl
 ·
  obtain⟨x,k0,m0,t0,ms,bs,ts,rfl,hT,tl,h64,k⟩:=h
  refine⟨_,(Ah (Ao (Bt (N:=["meeting","self"]) (cap:=[none,some 0]) (by show Ar (Af Gz) _ ["self"] _ _;exact⟨rfl,by decide+kernel,by decide+kernel,by decide+kernel,by decide+kernel,rfl,by decide+kernel⟩) rfl (Bn (K:=K) rfl (Ak (Rv rfl (hu2 hr)) rfl T.Ci (by decide+kernel) (Aa (Mi (K:=K) rfl (qv 0)) Ac))) (λC s H fp=>⟨(Bc (i:=0) (by show(["meeting","self"]:List Str).Nodup;decide+kernel) rfl (Or.inl rfl) (.inr rfl)),Cc,(Wa (Fs hr) (Mi (K:=K) rfl (qv 1)) (qv 0) (λ_ _=>rfl))⟩)))),?_⟩
  obtain⟨dx,hx⟩:=hT.ins
  have hkey: ∀q∈ts.map (·.1),∃k:Str×Int,q=mkK k:=λq hq=>by
   obtain⟨kv,hkv,rfl⟩:=Ac2.mp hq
   exact tl.keys kv hkv
  have hfew:=hT.few
  refine⟨hx,T.Bl,T.B8,rfl,t0,ts,rfl,hT.told,by lia,λq hq=>?_,λq hq q' hq'=>?_,λD0 qs hD0 hpm htu hso=>⟨D0,rfl,⟨_,SqL.of Ad⟩,?_⟩⟩
  ·
   obtain⟨k,rfl⟩:=hkey q hq
   exact⟨_,_,rfl⟩
  ·
   obtain⟨k,rfl⟩:=hkey q hq
   obtain⟨k',rfl⟩:=hkey q' hq'
   exact A7 rfl (A7 rfl rfl)
  have u0:=Ag (o:=.lst (qs.map λx=>V.ref x.2)) hD0
  have hql:qs.length=ts.length:=by have:=hpm.length_eq;rw[Ac0,Ac0] at this;exact this
  refine E5 (Bp (K:=K) (SqL.of Ad)) (λ_=>true) (RlT ms) (λ_ _ _ _ tp ⟨q,k,r,d,e1,e2,e3,e4,e5⟩=>⟨q,k,r,d,e1,tp _ _ e2,e3,e4.upT tp,e5⟩) (by rw[Ac0];lia) (λx _ H' _ R hR=>hR H' (Same.refl _)) ?_ (λD H2 ys s2 hD1 hD hP=>?_)
  ·
   intro v hv _ H' sm R hR
   obtain⟨q,hq,rfl⟩:=Ac2.mp hv
   have hin:q.1∈ts.map (·.1):=hpm.mem_iff.mp (Ada hq)
   obtain⟨k,ek⟩:=hkey q.1 hin
   have ht:=htu q hq
   rw[ek] at ht
   have S:=u0.trans sm
   rcases tl.val k with⟨e,_⟩|⟨r,d,e1,e2,e3⟩
   · exact absurd (by rw[←ek];exact hin) (jr e)
   · exact⟨S _ _ hx,T.Bl,T.B8,rfl,t0,_,rfl,e1▸DGet.t (k:=mkK k) (S _ _ hT.told) (S _ _ ht),hR _ H' (Same.refl _) ⟨q.2,k,r,d,rfl,S _ _ ht,rfl,e2.up S,e3⟩⟩
  rw[Aec.mpr (λ_ _=>rfl)] at hP
  have S2:=u0.trans s2
  obtain⟨rs,rfl,h1,h2⟩:=d6 (λq hq=>S2 _ _ (htu q hq)) hP
  have hrl:rs.length=qs.length:=by have:=Aea List.length h2;rw[Ac0,Ac0] at this;exact this
  exact k D rs H2 S2 (Sk u0 hD1) hD (λr hr=>(h1 r hr).1) (wk tl hpm hso (λr hr=>(h1 r hr).2) h2) (by lia)
theorem Qg:Ay ["_law_script","_law_k"] ["_law_script","_law_k"] (Af Jg):=⟨rfl,rfl,rfl,by decide+kernel,rfl,by decide+kernel,by decide+kernel⟩
theorem Cm (T:Txt K mg a):FnOk P w K mg base CX0 true 1 a.Fp a.Fq ["_law_script","_law_k"] (Qf K):=by
 refine T.Cg.ok Qg (λvs H Q E h=>?_) (λcdv A outer s H vs Q E hr h=>?_)
 · obtain⟨p,ns,i,rfl,_⟩:=h;rfl
 ·
  obtain⟨p,ns,i,rfl,hS,h0,k⟩:=h
  refine⟨_,(Ae (B3 (Au Zf (qv 1) (Ak (An (K:=K) rfl) rfl T.Cy (by decide+kernel) (Aa (qv 0) Ac)) (Ap _)) (Ah (Ao (Al (Bq (K:=K) rfl) (qv 0) (qv 1) (λ_ _=>rfl)))) Av)
   (Ah (Ao Ab))),?_⟩
  refine⟨p,_,rfl,.inl hS,?_⟩
  conv=>whnf
  rw[Ac0]
  refine⟨λe1=>?_,λe1=>?_⟩
  · exact⟨hS,cell_in h0 (Adk e1),k⟩
  ·
   rw[cell_out (λz=>e1 (Ac3 z))] at k
   exact k
theorem M8:Ay ["_law_cell","_law_k","_law_many","_law_made"] ["_law_cell","_law_k","_law_many"] (Af Lh):=⟨rfl,rfl,rfl,by decide+kernel,rfl,by decide+kernel,by decide+kernel⟩
theorem A9 (T:Txt K mg a):FnOk P w K mg base CX0 true 1 a.I0 a.Ir ["_law_cell","_law_k","_law_many"] (Vq):=by
 refine T.Be.ok M8 (λvs H Q E h=>?_) (λcdv A outer s H vs Q E hr h=>?_)
 · obtain⟨c,k,m,rfl,_⟩:=h;rfl
 ·
  obtain⟨c,q,m,rfl,q0,q1,hm,k⟩:=h
  refine⟨_,(Ae (Ax (i:=3) M8.nd rfl (Or.inl rfl) (Bb Gi (Bb Ck (Bb Ck (Bb Ck (Bb Ee (qv 0) Ab) (Bb Ee (Bb Ee Ab (qv 1)) (qv 1))) (Bb Ee Ab (qv 1))) Ab) Ab))
   (Ah (Ao (Bb V1 (Bb Gi (Bb Ee (qv 3) (Bb Ck (Bb Ck (qv 3) (Bb Ee Ab (qv 1))) Ab)) Ab) (qv 2))))),?_⟩
  refine⟨_,_,rfl,rfl,.inr ⟨by decide,by decide⟩,_,_,rfl,rfl,.inl ⟨by decide,by decide⟩,_,_,rfl,rfl,.inr ⟨by lia,by lia⟩,_,_,rfl,rfl,.inl ⟨by decide,by decide⟩,?_⟩
  conv=>whnf
  generalize hbig:(c*48271+7919*q*q+31*q+5)=big
  have b0:0<=big%2147483647:=Ae3 _ (by decide)
  have b1:big%2147483647<2147483647:=Aes _ (by decide)
  refine⟨_,_,rfl,rfl,.inl ⟨by decide,by decide⟩,_,_,rfl,rfl,.inl ⟨by lia,by lia⟩,_,_,rfl,rfl,hm,?_⟩
  exact k _ (Ae3 _ (by lia)) (Aes _ hm) (by subst hbig;rfl)
theorem Er:Ay ["_law_k","_law_cell","_law_one","_law_other","_law_place"] ["_law_k","_law_cell"] (Af Ij):=⟨rfl,rfl,rfl,by decide+kernel,rfl,by decide+kernel,by decide+kernel⟩
theorem Ql (T:Txt K mg a):FnOk P w K mg base CX0 true 1 a.Fy a.Fm ["_law_k","_law_cell"] (P6):=by
 refine T.Lx.ok Er (λvs H Q E h=>?_) (λcdv A outer s H vs Q E hr h=>?_)
 · obtain⟨n,c,rfl,_⟩:=h;rfl
 ·
  obtain⟨n,c,rfl,hn,k⟩:=h
  refine⟨_,(Ae (Ax (i:=2) Er.nd rfl (Or.inl rfl) (Al Yo Bo (Bb Gi (qv 0) Ab) (λ_ _=>rfl)))
   (Ae (Ax (i:=3) Er.nd rfl (Or.inl rfl) (Al Yo Bo (Bb Gi (Bb Ki (qv 0) Ab) Ab) (λ_ _=>rfl)))
   (Ae (B3 (Au Ec (Bb Gi (qv 1) Ab) Ab (Ap _)) (Ah (Ao (Bb F5 (Bb F5 (Al (Bq (K:=K) rfl) (Jv (Ic [.str "t",.str "ab",.str "x9a"] (by decide+kernel))) (Bb Gi (Bb Ki (qv 1) Ab) Ab) (λ_ _=>rfl)) (qv 2)) (qv 3)))) Av)
   (Ae (Ax (i:=4) Er.nd rfl (Or.inl rfl) (Bb Gi (Bb Ki (qv 1) Ab) Ab))
   (Ah (Ao (Bb F5 (Bb F5 (Bb F5 (Bb Q5 Bo (qv 4)) (qv 2)) (qv 3)) (Bb Q5 Bo (Bb oj Ab (qv 4)))))))))),?_⟩
  have e0:atI (Str.ofString "bcdefghijklmnopqrstuvwxy").cps.toList ((n:Int)%24)=some (98+n):=by
   rw[show((n:Int)%24)=((n:Nat):Int) by lia]
   exact A8 (s24 ⟨n,hn⟩)
  refine⟨_,_,_,rfl,rfl,by decide+kernel,e0,?_⟩
  conv=>whnf
  have e1:atI (Str.ofString "a0z").cps.toList ((n:Int)/24%3)=some 97:=by
   rw[show((n:Int)/24%3)=0 by lia]
   decide+kernel
  refine⟨_,_,_,rfl,rfl,by decide+kernel,e1,?_⟩
  conv=>whnf
  rw[i4]
  by_cases hc:c%2=1
  ·
   rw[Ac3 hc]
   refine Lj ?_
   have a0:0<=c/2%3:=Ae3 _ (by decide)
   have a1:c/2%3<3:=Aes _ (by decide)
   refine λl hl=>⟨SqL.of Ad,zw a0 a1,_,_,rfl,rfl,sz2 3 1 (mn _) (nq _),_,_,rfl,rfl,sz2 4 1 (ap2 3 1 (mn _) (nq _)) (nq _),?_⟩
   have q:=k _ (Ag (o:=.lst [.str "t",.str "ab",.str "x9a"]) hl)
   unfold nmT at q
   rw[if_pos hc] at q
   exact q
  ·
   rw[Ac7 hc]
   refine Gk ?_
   have a0:0<=c/2%7:=Ae3 _ (by decide)
   have a1:c/2%7<7:=Aes _ (by decide)
   have m1:=Abg (i:=c/2%7) a0 (by lia)
   have m2:=Abg (i:=6-c/2%7) (by lia) (by lia)
   refine⟨_,_,rfl,rfl,m1.1,_,_,rfl,rfl,sz2 6 1 m1.2 (nq _),_,_,rfl,rfl,sz2 7 1 (ap2 6 1 m1.2 (nq _)) (nq _),_,_,rfl,rfl,m2.1,_,_,rfl,rfl,sz2 8 6 (ap2 7 1 (ap2 6 1 m1.2 (nq _)) (nq _)) m2.2,?_⟩
   have q:=k H (Same.refl _)
   unfold nmT at q
   rw[if_neg hc] at q
   exact q
theorem Qq:Ay ["_law_seed","_law_names","_law_asker","_law_number","_law_turn","_law_key_here"] ["_law_seed","_law_names","_law_asker","_law_number","_law_turn"] (Af Pd):=⟨rfl,rfl,rfl,by decide+kernel,rfl,by decide+kernel,by decide+kernel⟩
theorem Mp (T:Txt K mg a):FnOk P w K mg base CX0 true 1 a.Mh a.L0 ["_law_seed","_law_names","_law_asker","_law_number","_law_turn"] (Zu):=by
 refine T.Mg.ok Qq (λvs H Q E h=>?_) (λcdv A outer s H vs Q E hr h=>?_)
 · obtain⟨L,ns,a,s,n,t,rfl,_⟩:=h;rfl
 ·
  obtain⟨L,ns,a0,sd,n,t,rfl,hL,hN,ha,k⟩:=h
  refine⟨_,(Ae (Ax (i:=5) Qq.nd rfl (Or.inl rfl) (Bb Ck (qv 0) (Bb Ee Ab (Qk Aep Ahz PySem.F.type_list_index V5 (qv 1) (Aa (qv 2) Ac)))))
   (Ah (Ao (Bb Ck (Bb Ck (qv 5) (Bb Ee Ab (Bb Gi (qv 3) Ab))) (Bb Ee Ab (Bb Gi (qv 4) Ab)))))),?_⟩
  refine⟨.inl ⟨rfl,_,SqL.of hL⟩,L,ns,a0,rfl,rfl,SqL.of hL,ha,⟨_,_,rfl,rfl,.inl ⟨by decide,by decide⟩,?_⟩⟩
  exact⟨_,_,rfl,rfl,.inl ⟨by decide,by decide⟩,_,_,rfl,rfl,.inl ⟨by decide,by decide⟩,k _ rfl⟩
theorem Az:Ay ["_law_letters","_law_asker","_law_number","_law_bids","_law_turn","_law_latest","_law_words","_law_hand","_law_said","_law_yes","_law_no","_law_silent","_law_closes","_law_late"] ["_law_letters","_law_asker","_law_number"] (Af Bd):=⟨rfl,rfl,rfl,by decide+kernel,rfl,by decide+kernel,by decide+kernel⟩
theorem Mx (T:Txt K mg a):FnOk P w K mg base CX0 true 1 a.Cp a.Cn ["_law_letters","_law_asker","_law_number"] (Mo):=by
 refine T.Ju.ok Az (λvs H Q E h=>?_) (λcdv A outer s H vs Q E hr h=>?_)
 · obtain⟨L,ms,a0,n,rfl,_⟩:=h;rfl
 ·
  obtain⟨L,ms,a0,n,rfl,hL,hz,h64,k⟩:=h
  refine⟨_,(Ae (Ep (i0:=3) Az.nd rfl rfl (N:=["_law_one","_law_asker","_law_number"]) (cap:=[none,some 1,some 2]) (by show Ar (Af Bd) _ ["_law_letters","_law_asker","_law_number","_law_bids","_law_turn","_law_latest","_law_words","_law_hand","_law_said","_law_yes","_law_no","_law_silent","_law_closes","_law_late"] _ _;exact⟨rfl,by decide+kernel,by decide+kernel,by decide+kernel,by decide+kernel,rfl,by decide+kernel⟩) rfl (Bn (K:=K) rfl (qv 0)) (λC s H fp=>⟨(Bc (i:=0) (by show(["_law_one","_law_asker","_law_number"]:List Str).Nodup;decide+kernel) rfl (Or.inl rfl) (.inr rfl)),(Fc (PW.pt (M3 (Au (F3 (K:=K) rfl) (Al (Am (K:=K) rfl) (qv 0) Ab (λ_ _=>rfl)) (Jv (Ic [.str "bid",.str "off"] (by decide+kernel))) (by with_unfolding_all rfl)) (M3 (Au Ec (Al (Am (K:=K) rfl) (qv 0) Ab (λ_ _=>rfl)) (qv 1) (Ap _)) (F8 (Au Ec (Al (Am (K:=K) rfl) (qv 0) Ab (λ_ _=>rfl)) (qv 2) (Ap _))))))),(qv 0)⟩))
   (Ae (B3 (Au Ec (Ak (An (K:=K) rfl) rfl T.Cy (by decide+kernel) (Aa (qv 3) Ac)) Ab (Ap _)) (Ah (Ao Gu)) Av)
   (Ae (Ax (i:=4) Az.nd rfl (Or.inr rfl) (Ak (d9 rfl) rfl T.Ui (by decide+kernel) (Aa (Bt (N:=["_law_one"]) (cap:=[none]) (by show Ar (Af Bd) _ ["_law_letters","_law_asker","_law_number","_law_bids","_law_turn","_law_latest","_law_words","_law_hand","_law_said","_law_yes","_law_no","_law_silent","_law_closes","_law_late"] _ _;exact⟨rfl,by decide+kernel,by decide+kernel,by decide+kernel,by decide+kernel,rfl,by decide+kernel⟩) rfl (Bn (K:=K) rfl (qv 3)) (λC s H fp=>⟨(Bc (i:=0) (by show(["_law_one"]:List Str).Nodup;decide+kernel) rfl (Or.inl rfl) (.inr rfl)),Cc,(Al (Am (K:=K) rfl) (qv 0) Ab (λ_ _=>rfl))⟩)) Ac)))
   (Ae (Ax (i:=5) Az.nd rfl (Or.inl rfl) (Al (Bq (K:=K) rfl) (Bt (N:=["_law_one","_law_turn"]) (cap:=[none,some 4]) (by show Ar (Af Bd) _ ["_law_letters","_law_asker","_law_number","_law_bids","_law_turn","_law_latest","_law_words","_law_hand","_law_said","_law_yes","_law_no","_law_silent","_law_closes","_law_late"] _ _;exact⟨rfl,by decide+kernel,by decide+kernel,by decide+kernel,by decide+kernel,rfl,by decide+kernel⟩) rfl (Bn (K:=K) rfl (qv 3)) (λC s H fp=>⟨(Bc (i:=0) (by show(["_law_one","_law_turn"]:List Str).Nodup;decide+kernel) rfl (Or.inl rfl) (.inr rfl)),(Fc (Au Ec (Al (Am (K:=K) rfl) (qv 0) Ab (λ_ _=>rfl)) (qv 1) (Ap _))),(qv 0)⟩)) Ab (λ_ _=>rfl)))
   (Ae (B3 (Au Ec (Al (Am (K:=K) rfl) (qv 5) Ab (λ_ _=>rfl)) Bo (Ap _)) (Ah (Ao (Bu (Aa (qv 1) (Aa (qv 2) (Aa (qv 4) (Aa Bo (Aa Gu (Aa Gu (Aa (Bu Ac) (Aa (Bu Ac) (Aa (Bu Ac) (Aa (Bu Ac) (Aa (Bu Ac) Ac)))))))))))))) Av)
   (Ae (Ax (i:=6) Az.nd rfl (Or.inr rfl) Sd)
   (Ae (Pn Agl rfl (Jk (K:=K) rfl (Al (Am (K:=K) rfl) (qv 5) Ab (λ_ _=>rfl))) (Bc (i:=7) Az.nd rfl (Or.inr rfl)) (Ae (Ep (i0:=8) Az.nd rfl rfl (N:=["_law_one","_law_asker","_law_number","_law_turn","_law_hand"]) (cap:=[none,some 1,some 2,some 4,some 7]) (by show Ar (Af Bd) _ ["_law_letters","_law_asker","_law_number","_law_bids","_law_turn","_law_latest","_law_words","_law_hand","_law_said","_law_yes","_law_no","_law_silent","_law_closes","_law_late"] _ _;exact⟨rfl,by decide+kernel,by decide+kernel,by decide+kernel,by decide+kernel,rfl,by decide+kernel⟩) rfl (Bn (K:=K) rfl (qv 0)) (λC s H fp=>⟨(Bc (i:=0) (by show(["_law_one","_law_asker","_law_number","_law_turn","_law_hand"]:List Str).Nodup;decide+kernel) rfl (Or.inl rfl) (.inr rfl)),(Fc (PW.pt (M3 (Au Ec (Al (Am (K:=K) rfl) (qv 0) Ab (λ_ _=>rfl)) Bo (Ap _)) (F8 (Au (my (hu2 hr)) (G0 Pe (qv 0) (Em Ab) (Em Ab)) (Bu (Aa (qv 1) (Aa (qv 2) (Aa (qv 3) (Aa (qv 4) Ac))))) (Ap _)))))),(G0 Pe (qv 0) (Em Ab) Wc)⟩))
   (Ah (B3 (Au Yv (Ak (An (K:=K) rfl) rfl T.Cy (by decide+kernel) (Aa (qv 8) Ac)) Ab (Ap _)) (Ah (Wu (Fs hr) (qv 6) (qv 7) (Al (Am (K:=K) rfl) (Al (Bq (K:=K) rfl) (Ak (Dl (hu2 hr)) rfl T.Ci (by decide+kernel) (Aa (qv 8) Ac)) (yc vp Ab) (λ_ _=>rfl)) Ab (λ_ _=>rfl)) rfl)) Av))))
   (Ae (Ax (i:=9) Az.nd rfl (Or.inl rfl) (Dg (Bx (K:=K) rfl) rfl T.Cd (by decide+kernel) (Aa (Bt (N:=["_law_hand","_law_words"]) (cap:=[none,some 6]) (by show Ar (Af Bd) _ ["_law_letters","_law_asker","_law_number","_law_bids","_law_turn","_law_latest","_law_words","_law_hand","_law_said","_law_yes","_law_no","_law_silent","_law_closes","_law_late"] _ _;exact⟨rfl,by decide+kernel,by decide+kernel,by decide+kernel,by decide+kernel,rfl,by decide+kernel⟩) rfl (Jk (K:=K) rfl (Al (Am (K:=K) rfl) (qv 5) Ab (λ_ _=>rfl))) (λC s H fp=>⟨(Bc (i:=0) (by show(["_law_hand","_law_words"]:List Str).Nodup;decide+kernel) rfl (Or.inl rfl) (.inr rfl)),(Fc (Au Qj (Tg (Fs hr) (qv 1) (qv 0) Bo ⟨rfl,rfl,rfl,rfl⟩) Bo (Ap _))),(qv 0)⟩)) Ac)))
   (Ae (Ax (i:=10) Az.nd rfl (Or.inl rfl) (Dg (Bx (K:=K) rfl) rfl T.Cd (by decide+kernel) (Aa (Bt (N:=["_law_hand","_law_words"]) (cap:=[none,some 6]) (by show Ar (Af Bd) _ ["_law_letters","_law_asker","_law_number","_law_bids","_law_turn","_law_latest","_law_words","_law_hand","_law_said","_law_yes","_law_no","_law_silent","_law_closes","_law_late"] _ _;exact⟨rfl,by decide+kernel,by decide+kernel,by decide+kernel,by decide+kernel,rfl,by decide+kernel⟩) rfl (Jk (K:=K) rfl (Al (Am (K:=K) rfl) (qv 5) Ab (λ_ _=>rfl))) (λC s H fp=>⟨(Bc (i:=0) (by show(["_law_hand","_law_words"]:List Str).Nodup;decide+kernel) rfl (Or.inl rfl) (.inr rfl)),(Fc (Au Qj (Tg (Fs hr) (qv 1) (qv 0) Bo ⟨rfl,rfl,rfl,rfl⟩) Bo (Ap _))),(qv 0)⟩)) Ac)))
   (Ae (Ax (i:=11) Az.nd rfl (Or.inl rfl) (Dg (Bx (K:=K) rfl) rfl T.Cd (by decide+kernel) (Aa (Bt (N:=["_law_hand","_law_words"]) (cap:=[none,some 6]) (by show Ar (Af Bd) _ ["_law_letters","_law_asker","_law_number","_law_bids","_law_turn","_law_latest","_law_words","_law_hand","_law_said","_law_yes","_law_no","_law_silent","_law_closes","_law_late"] _ _;exact⟨rfl,by decide+kernel,by decide+kernel,by decide+kernel,by decide+kernel,rfl,by decide+kernel⟩) rfl (Jk (K:=K) rfl (Al (Am (K:=K) rfl) (qv 5) Ab (λ_ _=>rfl))) (λC s H fp=>⟨(Bc (i:=0) (by show(["_law_hand","_law_words"]:List Str).Nodup;decide+kernel) rfl (Or.inl rfl) (.inr rfl)),(Fc (af (Vj (Fs hr) (qv 0) (qv 1)) (by with_unfolding_all rfl))),(qv 0)⟩)) Ac)))
   (Ae (Ax (i:=12) Az.nd rfl (Or.inr rfl) (Bt (N:=["_law_one","_law_asker","_law_number","_law_turn"]) (cap:=[none,some 1,some 2,some 4]) (by show Ar (Af Bd) _ ["_law_letters","_law_asker","_law_number","_law_bids","_law_turn","_law_latest","_law_words","_law_hand","_law_said","_law_yes","_law_no","_law_silent","_law_closes","_law_late"] _ _;exact⟨rfl,by decide+kernel,by decide+kernel,by decide+kernel,by decide+kernel,rfl,by decide+kernel⟩) rfl (Bn (K:=K) rfl (qv 0)) (λC s H fp=>⟨(Bc (i:=0) (by show(["_law_one","_law_asker","_law_number","_law_turn"]:List Str).Nodup;decide+kernel) rfl (Or.inl rfl) (.inr rfl)),(Fc (PW.pt (M3 (Au Ec (Al (Am (K:=K) rfl) (qv 0) Ab (λ_ _=>rfl)) Bo (Ap _)) (F8 (Au (my (hu2 hr)) (G0 Pe (qv 0) (Em Ab) (Em Ab)) (Bu (Aa (qv 1) (Aa (qv 2) (Aa (qv 3) Ac)))) (Ap _)))))),(Al (Am (K:=K) rfl) (qv 0) Ab (λ_ _=>rfl))⟩)))
   (Ae (B3 (Au Ec (Ak (An (K:=K) rfl) rfl T.Cy (by decide+kernel) (Aa (qv 12) Ac)) Ab (Ap _)) (Ah (Ao (Bu (Aa (qv 1) (Aa (qv 2) (Aa (qv 4) (Aa Bo (Aa (Al (Am (K:=K) rfl) (qv 5) Ab (λ_ _=>rfl)) (Aa (Al (Am (K:=K) rfl) (qv 5) Ab (λ_ _=>rfl)) (Aa (qv 9) (Aa (qv 10) (Aa (qv 11) (Aa (Bu Ac) (Aa (Bu Ac) Ac)))))))))))))) Av)
   (Ae (Ax (i:=13) Az.nd rfl (Or.inl rfl) (Dg (Bx (K:=K) rfl) rfl T.Cd (by decide+kernel) (Aa (Bt (N:=["_law_hand","_law_closes"]) (cap:=[none,some 12]) (by show Ar (Af Bd) _ ["_law_letters","_law_asker","_law_number","_law_bids","_law_turn","_law_latest","_law_words","_law_hand","_law_said","_law_yes","_law_no","_law_silent","_law_closes","_law_late"] _ _;exact⟨rfl,by decide+kernel,by decide+kernel,by decide+kernel,by decide+kernel,rfl,by decide+kernel⟩) rfl (Jk (K:=K) rfl (qv 9)) (λC s H fp=>⟨(Bc (i:=0) (by show(["_law_hand","_law_closes"]:List Str).Nodup;decide+kernel) rfl (Or.inl rfl) (.inr rfl)),(Fc (Au (Iq (K:=K) rfl) (qv 0) (Al (Bq (K:=K) rfl) (qv 1) Ab (λ_ _=>rfl)) (by with_unfolding_all rfl))),(qv 0)⟩)) Ac)))
   (Ah (Ao (Bu (Aa (qv 1) (Aa (qv 2) (Aa (qv 4) (Aa Bo (Aa (Al (Am (K:=K) rfl) (qv 5) Ab (λ_ _=>rfl)) (Aa (Al (Am (K:=K) rfl) (qv 5) Ab (λ_ _=>rfl)) (Aa (qv 9) (Aa (qv 10) (Aa (qv 11) (Aa (Al (Bq (K:=K) rfl) (qv 12) Ab (λ_ _=>rfl)) (Aa (qv 13) Ac))))))))))))))))))))))))))),?_⟩
  refine⟨L,rfl,⟨_,SqL.of hL.at_⟩,?_⟩
  refine Bj (Bp (K:=K) (SqL.of hL.at_)) (lqF (bnP a0 n) ms) (λv=>v) (by rw[Ac0];lia) ?_ (λx _ _ H' _ R hR=>hR H' (Same.refl _)) (λD H1 s1 hD0 hD=>?_)
  ·
   intro x hx H' sm R hR
   obtain⟨m,hm,rfl⟩:=Ac2.mp hx
   rw[Oc hL.ok hm] at hR
   obtain⟨zs,hp,hv⟩:=(hL.ok m hm).up sm
   obtain⟨r,rfl⟩:=hv.four
   refine⟨SqT.of hp,Kv,λl hl=>?_⟩
   have ul:=Ag (o:=.lst [.str "bid",.str "off"]) hl
   refine⟨l,_,rfl,.inl (SqL.of Ad),rfl,Dk ["bid","off"],?_⟩
   conv=>whnf
   show Br (inV (.str m.1.kind) ((["bid","off"]:List Str).map V.str)) _ _
   rw[x4]
   have q:=hR _ ul
   refine⟨λz=>?_,λz=>?_⟩
   ·
    refine⟨SqT.of (ul _ _ hp),Za,?_⟩
    conv=>whnf
    rw[Ik]
    refine⟨λz1=>?_,λz1=>?_⟩
    ·
     refine⟨SqT.of (ul _ _ hp),wc,?_⟩
     conv=>whnf
     rw[i4]
     rw[show bnP a0 n m.1=decide (m.1.number=n) from by unfold bnP;rw[z,z1];rfl] at q
     exact q
    ·
     rw[show bnP a0 n m.1=false from by unfold bnP;rw[Ad8.mpr z1,Adp,Aeu]] at q
     exact q
   ·
    rw[show bnP a0 n m.1=false from by unfold bnP;rw[Ad8.mpr z,Adp]] at q
    exact q
  rw[Ug hL.ok (λx hx=>hx)] at hD
  have hb: ∀x∈ms.filter λx=>bnP a0 n x.1,x∈ms/\bnP a0 n x.1=true:=λx hx=>Aeb.mp hx
  have hA: ∀x,inK ms (a0,n) x->x.bo=true-> ∃y∈ms.filter λx=>bnP a0 n x.1,y.1=x:=λx hx bx=>by
   obtain⟨y,hy,rfl⟩:=Ac2.mp hx.1
   have e1:y.1.asker=a0:=Aea Prod.fst hx.2
   have e2:y.1.number=n:=Aea Prod.snd hx.2
   exact⟨y,Aeb.mpr ⟨hy,by unfold bnP;rw[bx,Ac3 e1,Ac3 e2];rfl⟩,rfl⟩
  have hbl:(ms.filter λx=>bnP a0 n x.1).length<=200:=Ady (Ael _ _) h64
  generalize (ms.filter λx=>bnP a0 n x.1)=bl at hD hb hA hbl
  refine⟨D,_,rfl,.inl (SqL.of hD),?_⟩
  conv=>whnf
  rw[Ac0,i4]
  refine⟨λz=>?_,λz=>?_⟩
  ·
   have e0:bl=[]:=Agu.mp (by have:=Adk z;lia)
   refine k _ H1 s1 (.inl ⟨rfl,λx hx=>?_⟩)
   conv=>whnf
   cases bx:x.bo with
   | false=>rfl
   | true=>obtain⟨y,hy,_⟩:=hA x hx bx;rw[e0] at hy;cases hy
  have hpos:0<bl.length:=by
   rcases Nat.eq_zero_or_pos bl.length with e|e
   · exact absurd (Ac3 (by lia)) z
   · exact e
  have hL1:=hL.up s1
  refine⟨D,rfl,⟨_,SqL.of hD⟩,?_⟩
  refine Bj (Bp (K:=K) (SqL.of hD)) (λ_=>true) (λv=>.int (codeOf ms v).1) (by rw[Ac0];lia) (λx _ H' _ R hR=>hR H' (Same.refl _)) ?_ (λD2 H2 s2 hD20 hD2=>?_)
  ·
   intro x hx _ H' sm R hR
   obtain⟨m,hm,rfl⟩:=Ac2.mp hx
   obtain⟨zs,hp,hv⟩:=(hL1.ok m (hb m hm).1).up sm
   obtain⟨r,rfl⟩:=hv.four
   have q:=hR H' (Same.refl _)
   rw[Mt hL.ok (hb m hm).1] at q
   exact⟨SqT.of hp,bj,q⟩
  rw[Aec.mpr (λ_ _=>rfl),show((bl.map λx=>V.ref x.2).map λv=>V.int (codeOf ms v).1)=(bl.map λx=>x.1.turn).map V.int from by
   rw[Adc,Adc]
   refine Agp λx hx=>?_
   conv=>whnf
   show V.int (codeOf ms (.ref x.2)).1=_
   rw[Mt hL.ok (hb x hx).1]
   rfl] at hD2
  refine⟨D2,_,rfl,hD2,by rw[Ac0];exact hpos,λM hM hmax=>?_⟩
  have hL2:=hL1.up s2
  replace hD:=s2 _ _ hD
  refine⟨D,rfl,⟨_,SqL.of hD⟩,?_⟩
  refine Bj (Bp (K:=K) (SqL.of hD)) (lqF (λx=>decide (x.turn=M)) ms) (λv=>v) (by rw[Ac0];lia) ?_ (λx _ _ H' _ R hR=>hR H' (Same.refl _)) (λD3 H3 s3 hD30 hD3=>?_)
  ·
   intro x hx H' sm R hR
   obtain⟨m,hm,rfl⟩:=Ac2.mp hx
   obtain⟨zs,hp,hv⟩:=(hL2.ok m (hb m hm).1).up sm
   obtain⟨r,rfl⟩:=hv.four
   have q:=hR H' (Same.refl _)
   rw[Oc hL.ok (hb m hm).1] at q
   refine⟨SqT.of hp,bj,?_⟩
   conv=>whnf
   rw[i4]
   exact q
  rw[Ug hL.ok (λx hx=>(hb x hx).1)] at hD3
  have h3: ∃x0 r,(bl.filter λx=>decide (x.1.turn=M))=x0::r:=by
   obtain⟨x,hx,e⟩:=Ac2.mp hM
   cases e2:bl.filter λx=>decide (x.1.turn=M) with
   | nil=>exact absurd (Ac3 e) (List.filter_eq_nil_iff.mp e2 x hx)
   | cons x0 r=>exact⟨x0,r,rfl⟩
  obtain⟨x0,r0,e3⟩:=h3
  have hx0:=Aeb.mp (show x0∈bl.filter λx=>decide (x.1.turn=M) by rw[e3];exact Ac8 ..)
  rw[e3] at hD3
  have hx1:=hb x0 hx0.1
  have tM:x0.1.turn=M:=Adk hx0.2
  have bP:=hx1.2
  unfold bnP at bP
  rw[Adu,Adu,Ad1,Ad1] at bP
  have hlast:IsLast (inK ms (a0,n)) x0.1:=⟨⟨Ada hx1.1,Ah2 bP.2.1 bP.2.2⟩,bP.1,λy hy by_=>by
   obtain⟨u,hu,rfl⟩:=hA y hy by_
   rw[tM]
   exact hmax _ (Ada (f:=λx:Lt×Addr=>x.1.turn) hu)⟩
  refine⟨SqL.of hD3,Kv,?_⟩
  have S3:=(s1.trans s2).trans s3
  have hL3:=hL2.up s3
  clear hD3 e3 hx0 hmax hM hD2 hD20 hD30 hD0 hpos z hD hL1 hL2 hA hbl
  obtain⟨lt,p0⟩:=x0
  have hlt:=hL3.ok _ hx1.1
  have z0:(0:Nat)<=sizeLine:=Adw _
  cases lt with
  | close=>exact absurd hlast.2.1 Adf
  | ans=>exact absurd hlast.2.1 Adf
  |
   off a1 n1 t1=>
   obtain⟨zs,hp,rfl⟩:=hlt
   obtain rfl:a1=a0:=bP.2.1
   obtain rfl:n1=n:=bP.2.2
   obtain rfl:t1=M:=tM
   refine⟨SqT.of hp,Kv,⟨λ_=>?_,λz=>absurd (Ac3 rfl) z⟩⟩
   refine λe1 h1=>λe2 h2=>λe3 h3=>λe4 h4=>λe5 h5=>λq hq=>?_
   have u1:=Ag (o:=.tup []) h1
   have u2:=Ag (o:=.tup []) h2
   have u3:=Ag (o:=.tup []) h3
   have u4:=Ag (o:=.tup []) h4
   have u5:=Ag (o:=.tup []) h5
   have u6:=Ag (o:=.tup [.str a1,.int n1,.int t1,.str "off",.non,.non,.ref e1,.ref e2,.ref e3,.ref e4,.ref e5]) hq
   exact k _ _ (((((S3.trans u1).trans u2).trans u3).trans u4).trans (u5.trans u6)) (.inr ⟨q,⟨a1,n1,t1,"off",none,[],[],[],[],[]⟩,rfl,⟨⟨e1,e2,e3,e4,e5,Ad,u6 _ _ (u5 _ _ (u4 _ _ (u3 _ _ (u2 _ _ Ad)))),u6 _ _ (u5 _ _ (u4 _ _ (u3 _ _ Ad))),u6 _ _ (u5 _ _ (u4 _ _ Ad)),u6 _ _ (u5 _ _ Ad),u6 _ _ Ad⟩,Adw _,Adw _,Adw _,Adw _,Adw _⟩,_,hlast,rfl⟩)
  | bid a1 n1 t1 b e hs=>
  obtain⟨zs,hp,q0,rfl,hq⟩:=hlt
  obtain rfl:a1=a0:=bP.2.1
  obtain rfl:n1=n:=bP.2.2
  obtain rfl:t1=M:=tM
  have hhs:hs.length<=1000:=(hz _ hx1.1).2.1
  refine⟨SqT.of hp,Kv,⟨λz=>absurd z (by decide),λ_=>?_⟩⟩
  refine λW hW=>?_
  have uW:=Ag (o:=.dK []) hW
  refine⟨SqT.of (uW _ _ hp),A8 (j:=6) rfl,q0,rfl,⟨_,SqT.of (uW _ _ hq)⟩,?_⟩
  clear bP
  refine Lf (H0:=H3) (Ie (SqT.of hq)) (λi σ H'=>Same H3 H'/\ ∃(kvs:List (Key×V))(y7 y8:Option V),H' W=some (.dK kvs)/\WdOk (inK ms (a1,n1)) t1 hs i kvs/\kvs.length<=i/\σ=[some (.ref L),some (.str a1),some (.int n1),some (.ref D),some (.int t1),some (.ref p0),some (.ref W),y7,y8,none,none,none,none,none]) ⟨uW,[],_,_,Ad,(λx=>.inl ⟨rfl,λz=>nomatch z⟩),Adb _,rfl⟩ (λ_ _ _ _ h=>h.1) ?_ ?_
  ·
   rintro i v σ H4 hv ⟨s4,kvs,y7,y8,hW4,hO,hl4,rfl⟩
   rw[Adl] at hv
   obtain⟨h0,hi0,rfl⟩:=Aen.mp hv
   have hi:i<1000:=by have:=(Aed.mp hi0).1;lia
   have hL4:=hL3.up s4
   refine⟨L,rfl,⟨_,SqL.of hL4.at_⟩,?_⟩
   refine E5 (Bp (K:=K) (SqL.of hL4.at_)) (lqF (anP a1 n1 t1 h0) ms) (RlA ms) (λ_ _ _ _ tp ⟨q,e1,e2⟩=>⟨q,e1,tp _ _ e2⟩) (by rw[Ac0];lia) ?_ ?_ (λD5 H5 ys s5 hD50 hD5 hP=>?_)
   ·
    intro x hx H' sm R hR
    obtain⟨m,hm,rfl⟩:=Ac2.mp hx
    rw[Oc hL.ok hm] at hR
    obtain⟨lt,pm⟩:=m
    obtain⟨zs,hpm,hv⟩:=(hL4.ok _ hm).up sm
    cases lt with
    | bid=>obtain⟨_,rfl,_⟩:=hv;exact⟨SqT.of hpm,Kv,⟨λz=>absurd z (by decide),λ_=>hR H' (Same.refl _)⟩⟩
    | off=>cases hv;exact⟨SqT.of hpm,Kv,⟨λz=>absurd z (by decide),λ_=>hR H' (Same.refl _)⟩⟩
    | close=>obtain⟨_,rfl,_⟩:=hv;exact⟨SqT.of hpm,Kv,⟨λz=>absurd z (by decide),λ_=>hR H' (Same.refl _)⟩⟩
    | ans a' n' t' h' g w0=>
    cases hv
    refine⟨SqT.of hpm,Kv,⟨λ_=>?_,λz=>absurd (Ac3 rfl) z⟩⟩
    refine⟨_,rfl,_,rfl,pm,_,rfl,hpm,λp1 H6 s6 h6=>?_⟩
    refine λp2 hp2=>?_
    have u6:=Ag (o:=.tup [.str a1,.int n1,.int t1,.str h0]) hp2
    exact⟨p1,p2,[.inl (.inr a'),.inl (.inl n'),.inl (.inl t'),.inl (.inr h')],[.inl (.inr a1),.inl (.inl n1),.inl (.inl t1),.inl (.inr h0)],rfl,rfl,⟨_,u6 _ _ h6,.cons rfl (.cons rfl (.cons rfl (.cons rfl .nil)))⟩,⟨_,Ad,.cons rfl (.cons rfl (.cons rfl (.cons rfl .nil)))⟩,hR _ (s6.trans u6)⟩
   ·
    intro x hx hP H' sm R hR
    obtain⟨m,hm,rfl⟩:=Ac2.mp hx
    rw[Oc hL.ok hm] at hP
    obtain⟨g,w0,em⟩:=gr.mp hP
    obtain⟨zs,hpm,hv⟩:=(hL4.ok _ hm).up sm
    rw[em] at hv
    cases hv
    refine⟨_,rfl,m.2,_,rfl,hpm,λp1 H6 s6 h6=>hR (.ref p1) H6 s6 ⟨p1,rfl,?_⟩⟩
    conv=>whnf
    rw[ik hL.ok hm,em]
    exact h6
   rw[Rm hL.ok (λx hx=>hx)] at hP
   have hal: ∀x,x∈(ms.filter λx=>anP a1 n1 t1 h0 x.1)↔x∈ms/\ ∃g w,x.1=.ans a1 n1 t1 h0 g w:=λx=>by rw[Aeb,gr]
   have hll:(ms.filter λx=>anP a1 n1 t1 h0 x.1).length<=200:=Ady (Ael _ _) h64
   generalize (ms.filter λx=>anP a1 n1 t1 h0 x.1)=al at hP hal hll
   obtain⟨zs,rfl,hzs,hza⟩:=dv hL.ok (λx hx=>((hal x).mp hx).1) hP
   have hzl:zs.length=al.length:=by have:=Aea List.length hza;rw[Ac0,Ac0] at this;exact this
   refine⟨D5,_,rfl,.inl (SqL.of hD5),?_⟩
   conv=>whnf
   rw[Ac0]
   refine⟨λz=>?_,λz=>?_⟩
   ·
    have hpos:0<zs.length:=by have:=Adk z;lia
    have hI: ∀x∈zs.map (λz=>(pn z.1,z.2)),∃z∈zs,x=(pn z.1,z.2):=λx hx=>by obtain⟨z,hz,rfl⟩:=Ac2.mp hx;exact⟨z,hz,rfl⟩
    refine⟨D5,zs.map (λz=>(pn z.1,z.2)),rfl,by rw[Adc];exact hD5,λx hx=>?_,by rw[Ac0];lia,.inr λx hx=>?_,λx hx y hy=>?_,λD6 qs hD6 hpm hso=>?_⟩
    ·
     obtain⟨z,hz,rfl⟩:=hI x hx
     exact⟨_,hzs z hz,.cons rfl (.cons rfl .nil)⟩
    ·
     obtain⟨z,hz,rfl⟩:=hI x hx
     exact⟨_,_,rfl⟩
    ·
     obtain⟨z,hz,rfl⟩:=hI x hx
     obtain⟨u,hu,rfl⟩:=hI y hy
     exact Aac _ _
    have hql:0<qs.length:=by rw[hpm.length_eq,Ac0];exact hpos
    obtain⟨qs',q,rfl⟩: ∃qs' q,qs=qs'++[q]:=⟨_,_,(List.dropLast_concat_getLast (List.ne_nil_of_length_pos hql)).symm⟩
    obtain⟨z1,hz1,rfl,hw⟩:=aa hal hza hpm hso
    have u6:=Ag (o:=.lst ((qs'++[(pn z1.1,z1.2)]).map λx=>V.ref x.2)) hD6
    refine⟨SqL.of Ad,(show atI _ _=some (V.ref z1.2) by rw[Adx];exact kn _ _),SqT.of (u6 _ _ (hzs z1 hz1)),Za,?_⟩
    have hW6:=u6 _ _ (s5 _ _ hW4)
    refine⟨W,_,rfl,DPut.k (k:=.inr h0) hW6 (by rw[Aeh];lia),λb o e=>?_,_,_,_,Ad,hO.put hi0 hw,Ady (Eo _ _ _) (by lia),rfl⟩
    rw[Aq (As e hW)]
    exact u6 _ _ (s5 _ _ (s4 _ _ e))
   ·
    have e0:zs=[]:=Agu.mp (by
     rcases Nat.eq_zero_or_pos zs.length with e|e
     · exact e
     · exact absurd (Ac3 (by lia)) z)
    refine⟨s4.trans s5,kvs,_,_,s5 _ _ hW4,hO.skip hi0 ?_,by lia,rfl⟩
    rintro a' n' g' w' ⟨h1,h2⟩
    obtain⟨x,hx,ex⟩:=Ac2.mp h1
    have e1:a'=a1:=Aea Prod.fst h2
    have e2:n'=n1:=Aea Prod.snd h2
    subst e1 e2
    have hxa:=(hal x).mpr ⟨hx,g',w',ex⟩
    have:al.length=0:=by rw[←hzl,e0];rfl
    rw[Agu.mp this] at hxa
    cases hxa
  rintro σ H4 ⟨s4,kvs,y7,y8,hW4,hO,hl4,rfl⟩
  rw[Ac0] at hO
  have hwf:=hO.word
  have ITX: ∀{H':Hp},Same H3 H'->H' p0=some (.tup [.str "bid",.str a1,.int n1,.int t1,.int b,.int e,.ref q0]):=λs=>s _ _ hp
  refine⟨SqT.of (ITX s4),A8 (j:=6) rfl,q0,rfl,⟨_,SqT.of (s4 _ _ hq)⟩,?_⟩
  refine Bj (Ie (SqT.of (s4 _ _ hq))) (wP (wfS kvs) (some (Str.ofString "yes"))) (λv=>v) (by rw[Ac0];lia) (λx hx H' sm R hR=>?_) (λx hx _ H' sm R hR=>hR H' (Same.refl _)) (λD5 H5 s5 hD50 hD5=>?_)
  ·
   obtain⟨tx,htx,rfl⟩:=Ac2.mp hx
   have q:R (decide (wfS kvs tx=(some (Str.ofString "yes")))) H':=hR H' (Same.refl _)
   rw[←hO.get (by decide)] at q
   exact⟨W,rfl,.inl ⟨kvs,.inl (sm _ _ hW4)⟩,_,DGet.k (k:=.inr tx) (sm _ _ hW4),(by rcases hO tx with⟨e,_⟩|⟨w,e,_⟩<;>rw[e]<;>rfl),q⟩
  rw[Xf] at hD5
  refine⟨D5,_,rfl,.inl ⟨SqL.of hD5,λr5 hr5=>?_⟩⟩
  conv=>whnf
  have u5:=Ag (o:=.tup ((Mm (wfS kvs) (some (Str.ofString "yes")) hs).map V.str)) hr5
  have S5:=s4.trans (s5.trans u5)
  have e5:(upd H5 r5 (.tup ((Mm (wfS kvs) (some (Str.ofString "yes")) hs).map V.str))) r5=some (.tup ((Mm (wfS kvs) (some (Str.ofString "yes")) hs).map V.str)):=Ad
  have t5:=s5.trans u5
  generalize upd H5 r5 (.tup ((Mm (wfS kvs) (some (Str.ofString "yes")) hs).map V.str))=K5 at*
  have hW5:=t5 _ _ hW4
  clear hr5 u5 hD5
  refine⟨SqT.of (ITX S5),A8 (j:=6) rfl,q0,rfl,⟨_,SqT.of (S5 _ _ hq)⟩,?_⟩
  refine Bj (Ie (SqT.of (S5 _ _ hq))) (wP (wfS kvs) (some (Str.ofString "no"))) (λv=>v) (by rw[Ac0];lia) (λx hx H' sm R hR=>?_) (λx hx _ H' sm R hR=>hR H' (Same.refl _)) (λD6 H6 s6 hD60 hD6=>?_)
  ·
   obtain⟨tx,htx,rfl⟩:=Ac2.mp hx
   have q:R (decide (wfS kvs tx=(some (Str.ofString "no")))) H':=hR H' (Same.refl _)
   rw[←hO.get (by decide)] at q
   exact⟨W,rfl,.inl ⟨kvs,.inl (sm _ _ hW5)⟩,_,DGet.k (k:=.inr tx) (sm _ _ hW5),(by rcases hO tx with⟨e,_⟩|⟨w,e,_⟩<;>rw[e]<;>rfl),q⟩
  rw[Xf] at hD6
  refine⟨D6,_,rfl,.inl ⟨SqL.of hD6,λr6 hr6=>?_⟩⟩
  conv=>whnf
  have u6:=Ag (o:=.tup ((Mm (wfS kvs) (some (Str.ofString "no")) hs).map V.str)) hr6
  have S6:=S5.trans (s6.trans u6)
  have e6:(upd H6 r6 (.tup ((Mm (wfS kvs) (some (Str.ofString "no")) hs).map V.str))) r6=some (.tup ((Mm (wfS kvs) (some (Str.ofString "no")) hs).map V.str)):=Ad
  have t6:=s6.trans u6
  generalize upd H6 r6 (.tup ((Mm (wfS kvs) (some (Str.ofString "no")) hs).map V.str))=K6 at*
  have hW6:=t6 _ _ hW5
  clear hr6 u6 hD6
  refine⟨SqT.of (ITX S6),A8 (j:=6) rfl,q0,rfl,⟨_,SqT.of (S6 _ _ hq)⟩,?_⟩
  refine Bj (Ie (SqT.of (S6 _ _ hq))) (wP (wfS kvs) none) (λv=>v) (by rw[Ac0];lia) (λx hx H' sm R hR=>?_) (λx hx _ H' sm R hR=>hR H' (Same.refl _)) (λD7 H7 s7 hD70 hD7=>?_)
  ·
   obtain⟨tx,htx,rfl⟩:=Ac2.mp hx
   have q:R (decide (wfS kvs tx=none)) H':=hR H' (Same.refl _)
   rw[←hO.mem] at q
   exact⟨W,_,rfl,DGet.k (k:=.inr tx) (sm _ _ hW6),_,rfl,q⟩
  rw[Xf] at hD7
  refine⟨D7,_,rfl,.inl ⟨SqL.of hD7,λr7 hr7=>?_⟩⟩
  conv=>whnf
  have u7:=Ag (o:=.tup ((Mm (wfS kvs) none hs).map V.str)) hr7
  have S7:=S6.trans (s7.trans u7)
  have e7:(upd H7 r7 (.tup ((Mm (wfS kvs) none hs).map V.str))) r7=some (.tup ((Mm (wfS kvs) none hs).map V.str)):=Ad
  have t7:=s7.trans u7
  generalize upd H7 r7 (.tup ((Mm (wfS kvs) none hs).map V.str))=K7 at*
  have hW7:=t7 _ _ hW6
  clear hr7 u7 hD7
  have hL7:=hL3.up S7
  replace e5:=t7 _ _ (t6 _ _ e5)
  replace e6:=t7 _ _ e6
  refine⟨L,rfl,⟨_,SqL.of hL7.at_⟩,?_⟩
  refine E5 (Bp (K:=K) (SqL.of hL7.at_)) (lqF (clP a1 n1 t1) ms) (RlC ms) (λ_ _ _ _ tp ⟨q,e1,e2⟩=>⟨q,e1,tp _ _ e2⟩) (by rw[Ac0];lia) ?_ ?_ (λD8 H8 ys s8 hD80 hD8 hP=>?_)
  ·
   intro x hx H' sm R hR
   obtain⟨m,hm,rfl⟩:=Ac2.mp hx
   rw[Oc hL.ok hm] at hR
   obtain⟨lt,pm⟩:=m
   obtain⟨zs,hpm,hv⟩:=(hL7.ok _ hm).up sm
   cases lt with
   | bid=>obtain⟨_,rfl,_⟩:=hv;exact⟨SqT.of hpm,Kv,⟨λz=>absurd z (by decide),λ_=>hR H' (Same.refl _)⟩⟩
   | off=>cases hv;exact⟨SqT.of hpm,Kv,⟨λz=>absurd z (by decide),λ_=>hR H' (Same.refl _)⟩⟩
   | ans=>cases hv;exact⟨SqT.of hpm,Kv,⟨λz=>absurd z (by decide),λ_=>hR H' (Same.refl _)⟩⟩
   | close a' n' t' hs'=>
   obtain⟨qh,rfl,hqh⟩:=hv
   refine⟨SqT.of hpm,Kv,⟨λ_=>?_,λz=>absurd (Ac3 rfl) z⟩⟩
   refine⟨_,rfl,_,rfl,pm,_,rfl,hpm,λp1 H9 s9 h9=>?_⟩
   refine λp2 hp2=>?_
   have u9:=Ag (o:=.tup [.str a1,.int n1,.int t1]) hp2
   exact⟨p1,p2,[.inl (.inr a'),.inl (.inl n'),.inl (.inl t')],[.inl (.inr a1),.inl (.inl n1),.inl (.inl t1)],rfl,rfl,⟨_,u9 _ _ h9,.cons rfl (.cons rfl (.cons rfl .nil))⟩,⟨_,Ad,.cons rfl (.cons rfl (.cons rfl .nil))⟩,hR _ (s9.trans u9)⟩
  ·
   intro x hx hP H' sm R hR
   obtain⟨m,hm,rfl⟩:=Ac2.mp hx
   rw[Oc hL.ok hm] at hP
   obtain⟨hs',em⟩:=gv.mp hP
   obtain⟨zs,hpm,hv⟩:=(hL7.ok _ hm).up sm
   rw[em] at hv
   obtain⟨qh,rfl,hqh⟩:=hv
   refine⟨SqT.of hpm,A8 (j:=4) rfl,hR _ H' (Same.refl _) ⟨qh,rfl,?_⟩⟩
   conv=>whnf
   rw[fw hL.ok hm,em]
   exact hqh
  rw[Rm hL.ok (λx hx=>hx)] at hP
  have hcl: ∀x,x∈(ms.filter λx=>clP a1 n1 t1 x.1)↔x∈ms/\ ∃hs,x.1=.close a1 n1 t1 hs:=λx=>by rw[Aeb,gv]
  generalize (ms.filter λx=>clP a1 n1 t1 x.1)=cl at hP hcl
  have S8:=S7.trans s8
  replace e5:=s8 _ _ e5
  replace e6:=s8 _ _ e6
  replace e7:=s8 _ _ e7
  have wl:=λo=>Ady (Ft (wfS kvs) o hs) hhs
  refine⟨D8,_,rfl,.inl (SqL.of hD8),?_⟩
  conv=>whnf
  rw[i4]
  cases cl with
  |
   nil=>
   rw[Aih] at hP
   cases hP
   refine⟨λ_=>?_,λz=>absurd (Ac3 rfl) z⟩
   refine⟨SqT.of (ITX S8),A8 (j:=4) rfl,SqT.of (ITX S8),A8 (j:=5) rfl,λf1 h1=>λf2 h2=>λq hq'=>?_⟩
   have u1:=Ag (o:=.tup []) h1
   have u2:=Ag (o:=.tup []) h2
   have u3:=Ag (o:=.tup [.str a1,.int n1,.int t1,.str "open",.int b,.int e,.ref r5,.ref r6,.ref r7,.ref f1,.ref f2]) hq'
   have U:=(u1.trans u2).trans u3
   refine k _ _ ((S3.trans S8).trans U) (.inr ⟨q,⟨a1,n1,t1,"open",some (b,e),_,_,_,[],[]⟩,rfl,⟨⟨r5,r6,r7,f1,f2,Ad,U _ _ e5,U _ _ e6,U _ _ e7,u3 _ _ (u2 _ _ Ad),u3 _ _ Ad⟩,wl _,wl _,wl _,Adw _,Adw _⟩,_,hlast,wfS kvs,hwf,.inl ⟨?_,rfl⟩⟩)
   rintro a' n' hs' ⟨g1,g2⟩
   obtain⟨x,hx,ex⟩:=Ac2.mp g1
   have e1:a'=a1:=Aea Prod.fst g2
   have e2:n'=n1:=Aea Prod.snd g2
   subst e1 e2
   exact nomatch (hcl x).mpr ⟨hx,hs',ex⟩
  | cons x1 cl=>
  rw[Ad3] at hP
  cases hP with
  | cons r1 rs=>
  obtain⟨q1,rfl,hq1⟩:=r1
  obtain⟨hm1,hs1,ex1⟩:=(hcl x1).mp (Ac8 ..)
  rw[fw hL.ok hm1,ex1] at hq1
  refine⟨λz=>absurd z (by rw[Ad2];intro z;have:=Adk z;lia),λ_=>?_⟩
  refine⟨r5,rfl,⟨_,SqT.of e5⟩,?_⟩
  refine Bj (Ie (SqT.of e5)) (p8 hs1) (λv=>v) (by rw[Ac0];exact Ady (wl _) (by decide)) (λx hx H' sm R hR=>?_) (λx hx _ H' sm R hR=>hR H' (Same.refl _)) (λD9 H9 s9 hD90 hD9=>?_)
  ·
   obtain⟨tx,htx,rfl⟩:=Ac2.mp hx
   refine⟨SqL.of (sm _ _ hD8),Kv,q1,_,rfl,.inr (SqT.of (sm _ _ hq1)),rfl,Dk hs1,?_⟩
   conv=>whnf
   rw[Gv]
   exact hR _ (Same.refl _)
  rw[Yl] at hD9
  refine⟨D9,_,rfl,.inl ⟨SqL.of hD9,λrl hrl=>?_⟩⟩
  have url:=Ag (o:=.tup (((Mm (wfS kvs) (some (Str.ofString "yes")) hs).filter λh=>!decide (h∈hs1)).map V.str)) hrl
  have S9:=S8.trans (s9.trans url)
  have hD9':=url _ _ (s9 _ _ hD8)
  refine⟨SqT.of (ITX S9),A8 (j:=4) rfl,SqT.of (ITX S9),A8 (j:=5) rfl,SqL.of hD9',Kv,λq hq'=>?_⟩
  have u3:=Ag (o:=.tup [.str a1,.int n1,.int t1,.str "closed",.int b,.int e,.ref r5,.ref r6,.ref r7,.ref q1,.ref rl]) hq'
  have U:=(s9.trans url).trans u3
  exact k _ _ ((S3.trans S8).trans U) (.inr ⟨q,⟨a1,n1,t1,"closed",some (b,e),_,_,_,hs1,_⟩,rfl,⟨⟨r5,r6,r7,q1,rl,Ad,U _ _ e5,U _ _ e6,U _ _ e7,U _ _ hq1,u3 _ _ Ad⟩,wl _,wl _,wl _,(by have:=hz _ hm1;rw[ex1] at this;exact this.2.1),Ady (Ael _ _) (wl _)⟩,_,hlast,wfS kvs,hwf,.inr ⟨a1,n1,hs1,⟨Ac2.mpr ⟨x1,hm1,ex1⟩,rfl⟩,rfl⟩⟩)
theorem Y9:Ay ["text"] ["text"] (Af P1):=⟨rfl,rfl,rfl,by decide+kernel,rfl,by decide+kernel,by decide+kernel⟩
theorem Zh (T:Txt K mg a):FnOk P w K mg base CX0 true 2 a.Ma a.L1 ["text"] (Zv):=by
 refine T.Uu.ok Y9 (λvs H Q E h=>?_) (λcdv A outer s H vs Q E hr h=>?_)
 · obtain⟨t,rfl,_⟩:=h;rfl
 ·
  obtain⟨t,rfl,hl,k⟩:=h
  refine⟨_,(Ae (B3 (PW.pt (Ph (Au Zf (Ak M7 rfl T.Cy (by decide+kernel) (Aa (qv 0) Ac)) Ab (Ap _)) (Ka (Au Yv (Ak M7 rfl T.Cy (by decide+kernel) (Aa (qv 0) Ac)) (Xu rfl T.E9) (Ap _))))) (Ah (Ao Gm)) Av)
   (Ah (Ao (Gp (Bv U7 (Al Yo (qv 0) Ab (λ_ _=>rfl)) (Ro rfl T.Hn) (by with_unfolding_all rfl)) (Dv (Ai ((Ri T).mono (by decide)) hr rfl T.Ti T.Nf.kp T.Tz .nil Aw (Aa (qv 0) (Aa (Bb F5 (Ro rfl T.Hn) (Ro rfl T.J4)) Ac)))))))),?_⟩
  have hz:t.length<=sizeLine:=Aif (Afn hl v9)
  have el:t.cps.toList.length=t.length:=Ac6
  refine⟨t,rfl,hz,?_⟩
  refine⟨λh1=>?_,λh1=>?_⟩
  ·
   refine Lj ?_
   have q:=k H (Same.refl _)
   rw[We (by rw[el];have:=Adk h1;lia)] at q
   exact q
  ·
   have h1': ¬((t.length:Int)<1):=λz=>h1 (Ac3 z)
   refine⟨t,rfl,hz,?_⟩
   refine⟨λh2=>?_,λh2=>?_⟩
   ·
    have q:=k H (Same.refl _)
    rw[Zr (by rw[el];have:=Adk h2;lia)] at q
    exact q
   ·
    have h2': ¬((8:Int)<t.length):=λz=>h2 (Ac3 z)
    obtain⟨c0,e0⟩: ∃c,t.cps.toList[0]?=some c:=⟨t.cps.toList[0]'(by rw[el];lia),by simp⟩
    refine⟨t,0,c0,rfl,rfl,hz,A8 e0,c0,_,rfl,rfl,?_⟩
    have en:=gu (l:=t.cps.toList) (by rw[el];lia) (by rw[el];lia) e0
    refine⟨λh3=>?_,λh3=>?_⟩
    ·
     refine⟨_,_,rfl,rfl,by decide+kernel,t,_,rfl,hl,λH' sm=>?_⟩
     have q:=k H' sm
     rw[en,show decide (c0∈LT)=true from h3,Aex] at q
     exact q
    ·
     have q:=k H (Same.refl _)
     rw[en,show decide (c0∈LT)=false from Ac7 (λz=>h3 (Ac3 z)),Adp] at q
     exact q
theorem Yy:Ay ["value","least"] ["value","least"] (Af Ov):=⟨rfl,rfl,rfl,by decide+kernel,rfl,by decide+kernel,by decide+kernel⟩
theorem F4 (T:Txt K mg a):FnOk P w K mg base CX0 true 2 a.L6 a.L9 ["value","least"] (Yz):=by
 refine T.Gd.ok Yy (λvs H Q E h=>?_) (λcdv A outer s H vs Q E hr h=>?_)
 · obtain⟨v,w,j,rfl,_⟩:=h;rfl
 ·
  obtain⟨v,w,j,rfl,hw,k⟩:=h
  refine⟨_,(Ah (Ao (Gp (Ai ((Kf T).mono (by decide)) hr rfl T.Ll T.Jn.kp T.Lb .nil Aw (Aa (qv 0) Ac)) (Dv (Bv Aam (qv 0) (qv 1) (Ap _)))))),?_⟩
  refine⟨v,w,rfl,hw,?_⟩
  cases w with
  | i z=>cases hw;exact Lj (k)
  | n=>exact Gk k
  | b x=>exact Gk k
  | s t=>exact Gk k
  | ts l=>exact Gk k
  | ti z=>exact Gk k
theorem Bm:Ay ["letters","bid","turn","asked","answers","yes","no","silent","closes","come","late"] ["letters","bid"] (Af C5):=⟨rfl,rfl,rfl,by decide+kernel,rfl,by decide+kernel,by decide+kernel⟩
theorem P9 (T:Txt K mg a):FnOk P w K mg base CX0 true 2 a.Fw a.Fo ["letters","bid"] (Qc):=by
 refine T.L3.ok Bm (λvs H Q E h=>?_) (λcdv A outer s H vs Q E hr h=>?_)
 · obtain⟨L,B,ms,a0,n,t,b,e,hs,rfl,_⟩:=h;rfl
 ·
  obtain⟨L,B,ms,a0,n,t,b,e,hs,rfl,hL,hz,hG,hB,hhs,k⟩:=h
  refine⟨_,(Ae (Ax (i:=2) Bm.nd rfl (Or.inr rfl) (Al (Am (K:=K) rfl) (qv 1) Ab (λ_ _=>rfl)))
   (Ae (Ax (i:=3) Bm.nd rfl (Or.inl rfl) (Al (Am (K:=K) rfl) (qv 1) Ab (λ_ _=>rfl)))
   (Ae (Ax (i:=4) Bm.nd rfl (Or.inl rfl) (Ai ((R4 T).mono (by decide)) hr rfl T.Uj T.M5.kp T.Vv .nil Aw (Aa (qv 0) (Aa (qv 2) Ac))))
   (Ae (Ax (i:=5) Bm.nd rfl (Or.inl rfl) (Ai ((J8 T).mono (by decide)) hr rfl T.Lq T.Jd.kp T.K8 .nil Aw (Aa (qv 3) (Aa (qv 4) (Aa Bo Ac)))))
   (Ae (Ax (i:=6) Bm.nd rfl (Or.inl rfl) (Ai ((J8 T).mono (by decide)) hr rfl T.Lq T.Jd.kp T.K8 .nil Aw (Aa (qv 3) (Aa (qv 4) (Aa Bo Ac)))))
   (Ae (Ax (i:=7) Bm.nd rfl (Or.inl rfl) (Ai ((J8 T).mono (by decide)) hr rfl T.Lq T.Jd.kp T.K8 .nil Aw (Aa (qv 3) (Aa (qv 4) (Aa Gu Ac)))))
   (Ae (Ep (i0:=8) Bm.nd rfl rfl (N:=["letter","turn"]) (cap:=[none,some 2]) (by show Ar (Af C5) _ ["letters","bid","turn","asked","answers","yes","no","silent","closes","come","late"] _ _;exact⟨rfl,by decide+kernel,by decide+kernel,by decide+kernel,by decide+kernel,rfl,by decide+kernel⟩) rfl (Bn (K:=K) rfl (qv 0)) (λC s H fp=>⟨(Bc (i:=0) (by show(["letter","turn"]:List Str).Nodup;decide+kernel) rfl (Or.inl rfl) (.inr rfl)),(Fc (PW.pt (M3 (Au (Kz (Fs hr)) (Al (Am (K:=K) rfl) (qv 0) Ab (λ_ _=>rfl)) Bo (Ap _)) (F8 (Au Ec (Al (Am (K:=K) rfl) (qv 0) Ab (λ_ _=>rfl)) (qv 1) (Ap _)))))),(qv 0)⟩))
   (Ae (B3 (Ef (X7 (qv 8) (λ_=>rfl))) (Ah (Ao (Bu (Aa (Al (Am (K:=K) rfl) (qv 1) Ab (λ_ _=>rfl)) (Aa (Al (Am (K:=K) rfl) (qv 1) Ab (λ_ _=>rfl)) (Aa (qv 2) (Aa Bo (Aa (Al (Am (K:=K) rfl) (qv 1) Ab (λ_ _=>rfl)) (Aa (Al (Am (K:=K) rfl) (qv 1) Ab (λ_ _=>rfl)) (Aa (qv 5) (Aa (qv 6) (Aa (qv 7) (Aa (Bu Ac) (Aa (Bu Ac) Ac)))))))))))))) Av)
   (Ae (Ax (i:=9) Bm.nd rfl (Or.inr rfl) (Al (Am (K:=K) rfl) (Ak (ie rfl) rfl T.Ui (by decide+kernel) (Aa (qv 8) Ac)) Ab (λ_ _=>rfl)))
   (Ae (Ax (i:=10) Bm.nd rfl (Or.inl rfl) (Dg (Bx (K:=K) rfl) rfl T.Cd (by decide+kernel) (Aa (Bt (N:=["hand","come"]) (cap:=[none,some 9]) (by show Ar (Af C5) _ ["letters","bid","turn","asked","answers","yes","no","silent","closes","come","late"] _ _;exact⟨rfl,by decide+kernel,by decide+kernel,by decide+kernel,by decide+kernel,rfl,by decide+kernel⟩) rfl (Jk (K:=K) rfl (qv 5)) (λC s H fp=>⟨(Bc (i:=0) (by show(["hand","come"]:List Str).Nodup;decide+kernel) rfl (Or.inl rfl) (.inr rfl)),(Fc (Au (Iq (K:=K) rfl) (qv 0) (qv 1) (by with_unfolding_all rfl))),(qv 0)⟩)) Ac)))
   (Ah (Ao (Bu (Aa (Al (Am (K:=K) rfl) (qv 1) Ab (λ_ _=>rfl)) (Aa (Al (Am (K:=K) rfl) (qv 1) Ab (λ_ _=>rfl)) (Aa (qv 2) (Aa Bo (Aa (Al (Am (K:=K) rfl) (qv 1) Ab (λ_ _=>rfl)) (Aa (Al (Am (K:=K) rfl) (qv 1) Ab (λ_ _=>rfl)) (Aa (qv 5) (Aa (qv 6) (Aa (qv 7) (Aa (qv 9) (Aa (qv 10) Ac)))))))))))))))))))))))),?_⟩
  obtain⟨zs,hB,q0,rfl,hq⟩:=hB
  refine⟨SqT.of hB,bj,?_⟩
  refine⟨SqT.of hB,A8 (j:=6) rfl,?_⟩
  refine⟨L,ms,t,rfl,hL,hG,λD kvs H1 s1 hD hA=>?_⟩
  obtain⟨wf,hwf⟩:=hA.know
  have hK:=λh=>(hwf h).1
  refine⟨q0,D,hs,kvs,some (Str.ofString "yes"),wf,rfl,s1 _ _ hq,hhs,hD,hK,λr1 H2 s2 h2=>?_⟩
  refine⟨q0,D,hs,kvs,some (Str.ofString "no"),wf,rfl,s2 _ _ (s1 _ _ hq),hhs,s2 _ _ hD,λh=>(hK h).up s2,λr2 H3 s3 h3=>?_⟩
  refine⟨q0,D,hs,kvs,none,wf,rfl,s3 _ _ (s2 _ _ (s1 _ _ hq)),hhs,s3 _ _ (s2 _ _ hD),λh=>((hK h).up s2).up s3,λr3 H4 s4 h4=>?_⟩
  have S4:=((s1.trans s2).trans s3).trans s4
  have hL4:=hL.up S4
  refine⟨L,rfl,⟨_,SqL.of hL4.at_⟩,?_⟩
  refine Bj (Bp (K:=K) (SqL.of hL4.at_)) (clF ms t) (λv=>v) (by rw[Ac0];have:=hL.few;lia) ?_ (λx _ _ H' _ R hR=>hR H' (Same.refl _)) (λC H5 s5 hC0 hC=>?_)
  ·
   intro x hx H' sm R hR
   obtain⟨m,hm,rfl⟩:=Ac2.mp hx
   have hq:=hR H' (Same.refl _)
   rw[ft (t:=t) hL.ok hm] at hq
   obtain⟨ws,hp,hv⟩:=(hL4.ok m hm).up sm
   obtain⟨r,rfl⟩:=hv.four
   refine⟨SqT.of hp,Kv,_,rfl,.inl ⟨rfl,?_⟩⟩
   conv=>whnf
   have e1:decide (V.str m.1.kind=V.str "close")=decide (m.1.kind="close"):=Aej.mpr (by rw[V.str.injEq])
   rw[e1]
   refine⟨λz=>?_,λz=>?_⟩
   ·
    refine⟨SqT.of hp,bj,?_⟩
    conv=>whnf
    rw[z,Aex] at hq
    rw[i4]
    exact hq
   ·
    rw[Ad8.mpr z,Adp] at hq
    exact hq
  have hS5:=S4.trans s5
  have hB5:=hS5 _ _ hB
  have hcs: ∀z∈(((ms.map λx=>V.ref x.2).filter (clF ms t)).map λv=>v),∃x∈ms,z=V.ref x.2/\x.1.kind="close"/\x.1.turn=t:=by
   intro z hz
   obtain⟨y,hy,rfl⟩:=Ac2.mp hz
   obtain⟨hy1,hy2⟩:=Aeb.mp hy
   obtain⟨x,hx,rfl⟩:=Ac2.mp hy1
   rw[ft (t:=t) hL.ok hx,Adu] at hy2
   exact⟨x,hx,rfl,Adk hy2.1,Adk hy2.2⟩
  have hno:(((ms.map λx=>V.ref x.2).filter (clF ms t)).map λv=>v)=[]-> ∀a' n' hs',¬inM ms (.close a' n' t hs'):=λe a' n' hs' z=>by
   obtain⟨x,hx,ex⟩:=Ac2.mp z
   rw[Ahi (λ_=>rfl),List.filter_eq_nil_iff] at e
   refine e _ (Ada (f:=λx:Lt×Addr=>V.ref x.2) hx) ?_
   conv=>whnf
   rw[ft (t:=t) hL.ok hx,show x.1=.close a' n' t hs' from ex]
   show(decide ((Str.ofString "close")=Str.ofString "close")&&decide (t=t))=true
   rw[Ac3 rfl,Ac3 rfl]
   rfl
  generalize (((ms.map λx=>V.ref x.2).filter (clF ms t)).map λv=>v)=cs at hC hcs hno
  have g1:=λ(H':Hp)(s':Same H5 H')=>s' _ _ hB5
  cases cs with
  |
   nil=>
   refine⟨_,.inl ⟨_,SqL.of hC,rfl⟩,Lj ?_⟩
   refine⟨SqT.of hB5,Za,SqT.of hB5,wc,SqT.of hB5,A8 (j:=4) rfl,SqT.of hB5,A8 (j:=5) rfl,λe1 he1=>λe2 he2=>λr hr=>?_⟩
   have u1:=Ag (o:=.tup []) he1
   have u2:=Ag (o:=.tup []) he2
   have u3:=Ag (o:=.tup [.str a0,.int n,.int t,.str "open",.int b,.int e,.ref r1,.ref r2,.ref r3,.ref e1,.ref e2]) hr
   have S8:=(s5.trans u1).trans (u2.trans u3)
   exact k r ⟨a0,n,t,"open",some (b,e),_,_,_,[],[]⟩ _ (S4.trans S8) ⟨⟨r1,r2,r3,e1,e2,Ad,S8 _ _ (s4 _ _ (s3 _ _ h2)),S8 _ _ (s4 _ _ h3),S8 _ _ h4,u3 _ _ (u2 _ _ Ad),u3 _ _ Ad⟩,Ady (Ft _ _ _) hhs,Ady (Ft _ _ _) hhs,Ady (Ft _ _ _) hhs,Adw _,Adw _⟩ ⟨wf,λh _=>(hwf h).2,.inl ⟨hno rfl,rfl⟩⟩
  |
   cons c cs=>
   refine⟨_,.inl ⟨_,SqL.of hC,rfl⟩,Gk ?_⟩
   have hL5:=hL.up hS5
   refine⟨C,c,cs,λz z'=>ltL (codeOf ms z').2 (codeOf ms z).2,rfl,hC,?_,λH6 s6=>?_⟩
   ·
    intro z hz z' hz' H' s'
    obtain⟨x,hx,rfl,_,_⟩:=hcs z hz
    obtain⟨x',hx',rfl,_,_⟩:=hcs z' hz'
    obtain⟨y,hy,ey,hcode⟩:=code_at hx
    obtain⟨y',hy',ey',hcode'⟩:=code_at hx'
    have e1:y.1=x.1:=LtAt.inj (by rw[←ey];exact hL.ok y hy) (hL.ok x hx)
    have e2:y'.1=x'.1:=LtAt.inj (by rw[←ey'];exact hL.ok y' hy') (hL.ok x' hx')
    show GtV _ H' _ _ (ltL (codeOf ms (.ref x'.2)).2 (codeOf ms (.ref x.2)).2)
    rw[hcode,hcode',e1,e2]
    exact mf (hu2 hr) ((hL5.ok x hx).up s').nk ((hL5.ok x' hx').up s').nk (Lt.ok _ _)
   ·
    have hmx: ∃x∈ms,Hu (λz z'=>ltL (codeOf ms z').2 (codeOf ms z).2) c cs=V.ref x.2/\x.1.kind="close"/\x.1.turn=t:=by
     rcases Pw (gt:=λz z'=>ltL (codeOf ms z').2 (codeOf ms z).2) (xs:=cs) (b:=c) with e|e
     · rw[e];exact hcs c (Ac8 ..)
     · exact hcs _ (Adi _ e)
    obtain⟨⟨lt,p⟩,hx,emx,hk,htn⟩:=hmx
    rw[emx]
    have hlt:=(hL5.ok _ hx).up s6
    cases lt with
    | bid=>exact absurd (show Str.ofString "bid"=Str.ofString "close" from hk) (by decide)
    | off=>exact absurd (show Str.ofString "off"=Str.ofString "close" from hk) (by decide)
    | ans=>exact absurd (show Str.ofString "answer"=Str.ofString "close" from hk) (by decide)
    | close a1 n1 t1 hs1=>
    obtain⟨zs,hp,q1,rfl,hq1⟩:=hlt
    refine⟨SqT.of hp,A8 (j:=4) rfl,?_⟩
    have h26:=s6 _ _ (s5 _ _ (s4 _ _ (s3 _ _ h2)))
    refine⟨r1,rfl,⟨_,SqT.of h26⟩,Bj (Ie (SqT.of h26)) (p8 hs1) (λv=>v) (by rw[Ac0];exact Ady (Ady (Ft _ _ _) hhs) (by decide)) (λx hx H' sm R hR=>?_) (λx hx _ H' sm R hR=>hR H' (Same.refl _)) (λD2 H7 s7 hD20 hD2=>?_)⟩
    ·
     obtain⟨tx,htx,rfl⟩:=Ac2.mp hx
     refine⟨q1,_,rfl,.inr (SqT.of (sm _ _ hq1)),rfl,Dk hs1,?_⟩
     conv=>whnf
     rw[Gv]
     exact hR _ (Same.refl _)
    refine⟨D2,_,rfl,.inl ⟨SqL.of hD2,λrl hrl=>?_⟩⟩
    rw[Yl] at hD2 ⊢
    have url:=Ag (o:=.tup (((Mm wf (some (Str.ofString "yes")) hs).filter λh=>!decide (h∈hs1)).map V.str)) hrl
    have hB8:=url _ _ (s7 _ _ (s6 _ _ hB5))
    refine⟨SqT.of hB8,Za,SqT.of hB8,wc,SqT.of hB8,A8 (j:=4) rfl,SqT.of hB8,A8 (j:=5) rfl,λr hr=>?_⟩
    have ur:=Ag (o:=.tup [.str a0,.int n,.int t,.str "closed",.int b,.int e,.ref r1,.ref r2,.ref r3,.ref q1,.ref rl]) hr
    have S9:=((s5.trans s6).trans s7).trans (url.trans ur)
    obtain rfl:t1=t:=htn
    exact k r ⟨a0,n,_,"closed",some (b,e),_,_,_,hs1,_⟩ _ (S4.trans S9) ⟨⟨r1,r2,r3,q1,rl,Ad,S9 _ _ (s4 _ _ (s3 _ _ h2)),S9 _ _ (s4 _ _ h3),S9 _ _ h4,ur _ _ (url _ _ (s7 _ _ hq1)),ur _ _ Ad⟩,Ady (Ft _ _ _) hhs,Ady (Ft _ _ _) hhs,Ady (Ft _ _ _) hhs,(hz _ hx).2.1,Ady (Ael _ _) (Ady (Ft _ _ _) hhs)⟩ ⟨wf,λh _=>(hwf h).2,.inr ⟨a1,n1,hs1,Ada (f:=λx:Lt×Addr=>x.1) hx,rfl⟩⟩
theorem Ky:Ay ["self","hand","held"] ["self","hand"] (Af C8):=⟨rfl,rfl,rfl,by decide+kernel,rfl,by decide+kernel,by decide+kernel⟩
theorem Hm (T:Txt K mg a):FnOk P w K mg base CX0 true 2 a.Fv a.Fx ["self","hand"] (Ez P w a.Aj):=by
 refine T.Rj.ok Ky (λvs H Q E h=>?_) (λcdv A outer s H vs Q E hr h=>?_)
 · obtain⟨x,k0,m0,t0,ms,bs,ts,h0,rfl,_⟩:=h;rfl
 ·
  obtain⟨x,k0,m0,t0,ms,bs,ts,h0,rfl,hT,tl,h64,k⟩:=h
  refine⟨_,(Ae (Ep (i0:=2) Ky.nd rfl rfl (N:=["told","hand"]) (cap:=[none,some 1]) (by show Ar (Af C8) _ ["self","hand","held"] _ _;exact⟨rfl,by decide+kernel,by decide+kernel,by decide+kernel,by decide+kernel,rfl,by decide+kernel⟩) rfl (Bn (K:=K) rfl (C4 (D:=λC R=>(C=a.Aj/\R= λx vs H Q=>(B4 P w a.Aj) (x::(vs++([]:List V))) H Q E0)) (qv 0) (by rintro C R ⟨rfl,rfl⟩<;>first|exact⟨T.Bl,_,_,_,_,_,_,_,_,_,_,T.Cf,(Ce T).mono (by decide),hr,T.Cv,.nil,Aw,λ_ _ _ _ _ h=>h⟩))) (λC s H fp=>⟨(Bc (i:=0) (by show(["told","hand"]:List Str).Nodup;decide+kernel) rfl (Or.inl rfl) (.inr rfl)),(Fc (Cu (Ai ((Zg T).mono (by decide)) hr rfl T.bf T.Vu.kp T.fk .nil Aw (Aa (qv 0) (Aa (qv 1) Ac))))),(qv 0)⟩))
   (Ah (Ao (Ak (Ut (hu2 hr)) rfl T.Ci (by decide+kernel) (Aa (Bt (N:=["told"]) (cap:=[none]) (by show Ar (Af C8) _ ["self","hand","held"] _ _;exact⟨rfl,by decide+kernel,by decide+kernel,by decide+kernel,by decide+kernel,rfl,by decide+kernel⟩) rfl (Bn (K:=K) rfl (qv 2)) (λC s H fp=>⟨(Bc (i:=0) (by show(["told"]:List Str).Nodup;decide+kernel) rfl (Or.inl rfl) (.inr rfl)),Cc,(Bu (Aa (Al (Am (K:=K) rfl) (qv 0) Ab (λ_ _=>rfl)) (Aa (Al (Am (K:=K) rfl) (qv 0) Ab (λ_ _=>rfl)) (Aa (Al (Am (K:=K) rfl) (qv 0) Ab (λ_ _=>rfl)) (Aa (Al (Am (K:=K) rfl) (qv 0) Ab (λ_ _=>rfl)) Ac)))))⟩)) Ac))))),?_⟩
  obtain⟨dx,hx⟩:=hT.ins
  refine⟨hx,rfl,⟨rfl,rfl⟩,x,k0,m0,t0,ms,bs,ts,rfl,hT,tl,h64,λD rs H1 s1 hD0 hD htd hto hrl=>⟨D,rfl,⟨_,SqL.of hD⟩,?_⟩⟩
  refine Bj (Bp (K:=K) (SqL.of hD)) (tdG false (Jw h0) rs) (λv=>v) (by rw[Ac0];lia) ?_ (λx _ _ H' _ R hR=>hR H' (Same.refl _)) (λD2 H2 s2 hD20 hD2=>?_)
  ·
   intro v hv H' sm R hR
   obtain⟨r,hr,rfl⟩:=Ac2.mp hv
   rw[Yq htd hr] at hR
   exact⟨r.2,r.1,h0,rfl,(htd r hr).up sm,λH'' s''=>hR H'' s''⟩
  rw[sx htd] at hD2
  have hfl:(rs.filter λx=>Jw h0 x.1).length<64:=Afn (Ael _ _) hrl
  have hin: ∀x∈rs.filter (λx=>Jw h0 x.1),x∈rs/\Jw h0 x.1=true:=λx hx=>Aeb.mp hx
  have hfe:((rs.filter λx=>Jw h0 x.1).map λx=>Rr x.1)=((rs.map (·.1)).filter (Jw h0)).map Rr:=by
   rw[Af9,Adc]
   rfl
  generalize (rs.filter λx=>Jw h0 x.1)=al at hD2 hfl hin hfe
  refine⟨D2,rfl,⟨_,SqL.of hD2⟩,?_⟩
  refine E5 (Bp (K:=K) (SqL.of hD2)) (λ_=>true) (RlQ rs) (λ_ _ _ _ tp ⟨q,e1,e2⟩=>⟨q,e1,tp _ _ e2⟩) (by rw[Ac0];lia) (λx _ H' _ R hR=>hR H' (Same.refl _)) ?_ (λD3 H3 ys s3 hD30 hD3 hP=>?_)
  ·
   intro v hv _ H' sm R hR
   obtain⟨r,hr,rfl⟩:=Ac2.mp hv
   obtain⟨hr1,hb⟩:=hin r hr
   have hbe:=ix (hto.is_ r.1 (Ada hr1)) hb
   obtain⟨q1,q2,q3,q4,q5,e0,_⟩:=((htd r hr1).up (s2.trans sm)).at_
   rw[hbe] at e0
   refine⟨SqT.of e0,A8 (j:=4) rfl,SqT.of e0,A8 (j:=5) rfl,SqT.of e0,Kv,SqT.of e0,Za,λq hq=>hR (.ref q) _ (Ag hq) ⟨q,rfl,?_⟩⟩
   conv=>whnf
   rw[Yq htd hr1]
   exact Ad
  rw[Aec.mpr (λ_ _=>rfl)] at hP
  obtain⟨zs,rfl,hzq,hze⟩:=nr htd (λx hx=>(hin x hx).1) hP
  have hzl:zs.length=al.length:=by have:=Aea List.length hze;rw[Ac0,Ac0] at this;exact this
  rw[hfe] at hze
  have SS:=(s1.trans s2).trans s3
  refine⟨D3,zs.map (λz=>(qn z.1,z.2)),rfl,by rw[Adc];exact hD3,λx hx=>?_,by rw[Ac0];lia,.inr λx hx=>?_,λx hx y hy=>?_,λD4 qs hD4 hpm hso=>?_⟩
  ·
   obtain⟨z,hz,rfl⟩:=Ac2.mp hx
   exact ya (hzq z hz)
  ·
   obtain⟨z,hz,rfl⟩:=Ac2.mp hx
   exact⟨_,_,rfl⟩
  ·
   obtain⟨z,hz,rfl⟩:=Ac2.mp hx
   obtain⟨u,hu,rfl⟩:=Ac2.mp hy
   exact vi _ _
  obtain⟨zs',pz,rfl,hho⟩:=holds_of hto hze hpm hso
  have hzl':=pz.length_eq
  have u4:=Ag (o:=.lst (zs'.map λz=>V.ref z.2)) hD4
  have eL:((zs'.map λz=>(qn z.1,z.2)).map λx=>V.ref x.2)=zs'.map λz=>V.ref z.2:=by rw[Adc];rfl
  rw[eL]
  exact k D4 zs' _ (SS.trans u4) (Sk SS hD4) Ad (λz hz=>u4 _ _ (hzq z (pz.mem_iff.mp hz))) hho (by lia)
theorem F9:Ay ["_law_cell","_law_many"] ["_law_cell"] (Af E3):=⟨rfl,rfl,rfl,by decide+kernel,rfl,by decide+kernel,by decide+kernel⟩
theorem Po (T:Txt K mg a):FnOk P w K mg base CX0 true 2 a.Es a.Ew ["_law_cell"] (Pc):=by
 refine T.K3.ok F9 (λvs H Q E h=>?_) (λcdv A outer s H vs Q E hr h=>?_)
 · obtain⟨c,rfl,_⟩:=h;rfl
 ·
  obtain⟨c,rfl,k⟩:=h
  refine⟨_,(Ae (Ax (i:=1) F9.nd rfl (Or.inl rfl) (Bb Ck Ab (Bb Gi (qv 0) Ab)))
   (Fj (B3 (Au Ec (Bb Gi (Bb Ki (qv 0) Ab) Ab) Ab (Ap _)) (Ah (Ax (i:=1) F9.nd rfl (Or.inl rfl) (Bb Ck Ab (Bb Gi (Bb Ki (qv 0) Ab) Ab)))) Av)
   (Ah (Ao (Ak Vy rfl T.Ci (by decide+kernel) (Aa (Bt (N:=["_law_k","_law_cell"]) (cap:=[none,some 0]) (by show Ar (Af E3) _ ["_law_cell","_law_many"] _ _;exact⟨rfl,by decide+kernel,by decide+kernel,by decide+kernel,by decide+kernel,rfl,by decide+kernel⟩) rfl (Gj rfl T.Fh (Aa (qv 1) Ac)) (λC s H fp=>⟨(Bc (i:=0) (by show(["_law_k","_law_cell"]:List Str).Nodup;decide+kernel) rfl (Or.inl rfl) (.inr rfl)),Cc,(Ai ((Ql T).mono (by decide)) hr rfl T.R0 T.Lx.kp T.Sr .nil Aw (Aa (qv 0) (Aa (Bb Ki (qv 1) Ab) Ac)))⟩)) Ac)))))),?_⟩
  have b0:0<=c%6:=Ae3 _ (by decide)
  have b1:c%6<6:=Aes _ (by decide)
  refine⟨λσ H'=>H'=H/\ ∃n:Int,2<=n/\n<=22/\σ=[some (.int c),some (.int n)],?_,?_⟩
  ·
   conv=>whnf
   refine⟨λ_=>?_,λ_=>⟨rfl,_,by lia,by lia,rfl⟩⟩
   have d0:0<=c/36%2:=Ae3 _ (by decide)
   have d1:c/36%2<2:=Aes _ (by decide)
   exact⟨rfl,_,by lia,by lia,rfl⟩
  rintro _ H1 ⟨e1,n,n0,n1,rfl⟩
  obtain rfl:=e1.symm
  refine⟨n,rfl,by lia,by lia,?_⟩
  refine Bj (C0 0 n.toNat H) (λ_=>true) (nmG (c/6)) ?_ (λx _ H' _ R hR=>hR H' (Same.refl _)) ?_ (λD H2 s2 hD0 hD=>?_)
  ·
   rw[Ac0,Ad7]
   lia
  ·
   intro x hx _ H' sm R hR
   obtain⟨j,hj,rfl⟩:=Ac2.mp hx
   have hj2:=Aeo.mp hj
   refine⟨j,_,(by rw[show(0+(j:Int))=(j:Int) by lia];rfl),by lia,λH3 s3=>?_⟩
   have q:=hR H3 s3
   rw[show nmG ((c/6)) (V.int (0+(j:Int)))=.str (nmT ((c/6)) j) from by show V.str (nmT ((c/6)) (0+(j:Int)).toNat)=_;rw[show(0+(j:Int)).toNat=j by lia]] at q
   exact q
  rw[Aec.mpr (λ_ _=>rfl),jq] at hD
  refine⟨D,_,rfl,hD,by rw[Ac0,Ad7];lia,λD2 ms hD2 hpm hsr=>?_⟩
  exact k D2 ms _ (s2.trans (Ag hD2)) Ad (qu (n:=n.toNat) (by lia) (by lia) hpm hsr)
theorem Jl:Ay ["_law_names","_law_asker","_law_seed","_law_k","_law_least","_law_others","_law_found"] ["_law_names","_law_asker","_law_seed","_law_k","_law_least"] (Af Hq):=⟨rfl,rfl,rfl,by decide+kernel,rfl,by decide+kernel,by decide+kernel⟩
theorem Ol (T:Txt K mg a):FnOk P w K mg base CX0 true 2 a.Ko a.Ks ["_law_names","_law_asker","_law_seed","_law_k","_law_least"] (W4):=by
 refine T.Mr.ok Jl (λvs H Q E h=>?_) (λcdv A outer s H vs Q E hr h=>?_)
 · obtain⟨L,ns,a,s,k,m,rfl,_⟩:=h;rfl
 ·
  obtain⟨L,ns,a0,sd,kk,m,rfl,hL,hN,k0,k1,m0,m1,k⟩:=h
  refine⟨_,(Ae (Ax (i:=5) Jl.nd rfl (Or.inr rfl) (Bt (N:=["_law_name","_law_asker"]) (cap:=[none,some 1]) (by show Ar (Af Hq) _ ["_law_names","_law_asker","_law_seed","_law_k","_law_least","_law_others","_law_found"] _ _;exact⟨rfl,by decide+kernel,by decide+kernel,by decide+kernel,by decide+kernel,rfl,by decide+kernel⟩) rfl (Bn (K:=K) rfl (qv 0)) (λC s H fp=>⟨(Bc (i:=0) (by show(["_law_name","_law_asker"]:List Str).Nodup;decide+kernel) rfl (Or.inl rfl) (.inr rfl)),(Fc (Au gf (qv 0) (qv 1) (Ap _))),(qv 0)⟩)))
   (Ae (Ep (i0:=6) Jl.nd rfl rfl (N:=["_law_at","_law_others","_law_seed","_law_k"]) (cap:=[none,some 5,some 2,some 3]) (by show Ar (Af Hq) _ ["_law_names","_law_asker","_law_seed","_law_k","_law_least","_law_others","_law_found"] _ _;exact⟨rfl,by decide+kernel,by decide+kernel,by decide+kernel,by decide+kernel,rfl,by decide+kernel⟩) rfl (Gj rfl T.Fh (Aa (Ak (An (K:=K) rfl) rfl T.Cy (by decide+kernel) (Aa (qv 5) Ac)) Ac)) (λC s H fp=>⟨(Bc (i:=0) (by show(["_law_at","_law_others","_law_seed","_law_k"]:List Str).Nodup;decide+kernel) rfl (Or.inl rfl) (.inr rfl)),(Fc (Au Yv (Ai ((A9 T).mono (by decide)) hr rfl T.Bg T.Be.kp T.Bh .nil Aw (Aa (qv 2) (Aa (Bb Ck (Bb Ck (qv 3) Ab) (Bb Ee Ab (qv 0))) (Aa Ab Ac)))) Ab (Ap _))),(Al (Bq (K:=K) rfl) (qv 1) (qv 0) (λ_ _=>rfl))⟩))
   (Fj (B3 (Au Zf (Ak (An (K:=K) rfl) rfl T.Cy (by decide+kernel) (Aa (qv 6) Ac)) (qv 4) (Ap _)) (Ah (Ax (i:=6) Jl.nd rfl (Or.inl rfl) (qv 5))) Av)
   (Ah (Ao (Dg (Bx (K:=K) rfl) rfl T.Cd (by decide+kernel) (Aa (G0 (Rz (K:=K) rfl) (qv 6) Wc (Em Ab)) Ac))))))),?_⟩
  refine⟨L,rfl,⟨_,SqL.of hL⟩,?_⟩
  refine Bj (Bp (K:=K) (SqL.of hL)) (neF a0) (λv=>v) (by rw[Ac0];have:=hN.hi;lia) ?_ (λx _ _ H' _ R hR=>hR H' (Same.refl _)) (λD H1 s1 hD0 hD=>?_)
  ·
   intro x hx H' sm R hR
   obtain⟨t,ht,rfl⟩:=Ac2.mp hx
   conv=>whnf
   have q:=hR H' (Same.refl _)
   rw[show neF a0 (V.str t)=(!decide (t=a0)) from rfl] at q
   rw[show(!decide (V.str t=V.str a0))=(!decide (t=a0)) from Aea _ (Aej.mpr (by rw[V.str.injEq]))]
   exact q
  rw[Yk] at hD
  obtain⟨os,hos⟩: ∃os:List Str,os=ns.filter λt=>!decide (t=a0):=⟨_,rfl⟩
  rw[←hos] at hD
  have hon: ∀t∈os,NM t=true:=λt ht=>hN.nm t (by rw[hos] at ht;exact(Aeb.mp ht).1)
  have hor:Hf os=true:=Yf hN.rise (by rw[hos];exact List.filter_sublist)
  have hoa: ¬a0∈os:=λz=>by rw[hos] at z;have:=(Aeb.mp z).2;simp at this
  have hpos:=Xe hN.lo hN.nd a0
  rw[←hos] at hpos
  have hol:os.length<=22:=Ady (by rw[hos];exact Ael _ _) hN.hi
  refine⟨D,_,rfl,.inl (SqL.of hD),(os.length:Int),by rw[Ac0],by lia,by lia,?_⟩
  refine Bj (C0 0 _ H1) (Aao sd kk) (Abe os) (by rw[Ac0,Ad7];lia) ?_ ?_ (λD2 H2 s2 hD20 hD2=>?_)
  ·
   intro x hx H' sm R hR
   obtain⟨j,hj,rfl⟩:=Ac2.mp hx
   have hj2:=Aeo.mp hj
   refine⟨_,_,rfl,rfl,.inl ⟨by decide,by decide⟩,_,_,_,rfl,by lia,by lia,by decide,λv _ _ hv=>?_⟩
   conv=>whnf
   have q:=hR H' (Same.refl _)
   rw[hv]
   exact q
  ·
   intro x hx _ H' sm R hR
   obtain⟨j,hj,rfl⟩:=Ac2.mp hx
   have hj2:=Aeo.mp hj
   have hj3:j<os.length:=by lia
   have et:atI (os.map V.str) (0+(j:Int))=some (.str (os.getD (0+(j:Int)).toNat "")):=by rw[show(0+(j:Int)).toNat=j by lia,show(0+(j:Int))=((j:Nat):Int) by lia];exact getD_at hj3
   exact⟨SqL.of (sm _ _ hD),et,hR _ (Same.refl _)⟩
  have hfs:=sr os sd kk
  rw[kl] at hD2
  refine⟨λσ H'=>H'=H2/\ ∃(F:Addr)(gs:List Str),H2 F=some (.lst (gs.map V.str))/\gs.Sublist os/\m<=gs.length/\gs=(if((k5 os sd kk).length:Int)<m then os else k5 os sd kk)/\σ=[some (.ref L),some (.str a0),some (.int sd),some (.int kk),some (.int m),some (.ref D),some (.ref F)],?_,?_⟩
  ·
   refine⟨D2,_,rfl,.inl (SqL.of hD2),?_⟩
   conv=>whnf
   rw[Ac0]
   refine⟨λz=>⟨rfl,D,os,s2 _ _ hD,List.Sublist.refl _,by lia,by rw[if_pos (Adk z)],rfl⟩,λz=>⟨rfl,D2,_,hD2,hfs,by have z': ¬(((k5 os sd kk).length:Nat):Int)<m:=λy=>z (Ac3 y);lia,by rw[if_neg (λy=>z (Ac3 y))],rfl⟩⟩
  rintro _ H3 ⟨e3,F,gs,hF,hgs,hgm,hge,rfl⟩
  obtain rfl:=e3.symm
  refine⟨_,rfl,F,_,rfl,SqL.of hF,λl hl=>?_⟩
  conv=>whnf
  have el:N8 (gs.map V.str) none (some 20)=(gs.take 20).map V.str:=zj gs
  rw[el]
  refine⟨l,_,rfl,.inl ⟨SqL.of Ad,λr hr0=>?_⟩⟩
  have hsub:(gs.take 20).Sublist os:=(List.take_sublist _ _).trans hgs
  exact k r _ _ (((s1.trans s2).trans (Ag hl)).trans (Ag hr0)) Ad (Ya (by rw[Aek];lia) (by rw[Aek];lia) (λt ht=>hon t (hsub.subset ht)) (Yf hor hsub) (λz=>hoa (hsub.subset z))) (by rw[hge,hos];rfl)
theorem Bz:Ay ["_law_seed","_law_names","_law_asker","_law_number","_law_turn","_law_cell","_law_others","_law_hand","_law_again","_law_key_here"] ["_law_seed","_law_names","_law_asker","_law_number","_law_turn","_law_cell"] (Af Du):=⟨rfl,rfl,rfl,by decide+kernel,rfl,by decide+kernel,by decide+kernel⟩
theorem Np (T:Txt K mg a):FnOk P w K mg base CX0 true 2 a.Dc a.Dm ["_law_seed","_law_names","_law_asker","_law_number","_law_turn","_law_cell"] (sj (λr=>∃c:Int,r=[.int c])):=by
 refine T.J3.ok Bz (λvs H Q E h=>?_) (λcdv A outer s H vs Q E hr h=>?_)
 · obtain⟨L,ns,a0,sd,n,t,r,rfl,⟨c,rfl⟩,_⟩:=h;rfl
 ·
  obtain⟨L,ns,a0,sd,n,t,r,rfl,⟨c,rfl⟩,hL,hN,ha,n0,n1,t0,t1,k⟩:=h
  refine⟨_,(Ae (Ep (i0:=6) Bz.nd rfl rfl (N:=["_law_name","_law_asker"]) (cap:=[none,some 2]) (by show Ar (Af Du) _ ["_law_seed","_law_names","_law_asker","_law_number","_law_turn","_law_cell","_law_others","_law_hand","_law_again","_law_key_here"] _ _;exact⟨rfl,by decide+kernel,by decide+kernel,by decide+kernel,by decide+kernel,rfl,by decide+kernel⟩) rfl (Bn (K:=K) rfl (qv 1)) (λC s H fp=>⟨(Bc (i:=0) (by show(["_law_name","_law_asker"]:List Str).Nodup;decide+kernel) rfl (Or.inl rfl) (.inr rfl)),(Fc (Au gf (qv 0) (qv 1) (Ap _))),(qv 0)⟩))
   (Ae (Ax (i:=7) Bz.nd rfl (Or.inl rfl) (Al (Bq (K:=K) rfl) (qv 6) (Ai ((A9 T).mono (by decide)) hr rfl T.Bg T.Be.kp T.Bh .nil Aw (Aa (qv 5) (Aa Ab (Aa (Ak (An (K:=K) rfl) rfl T.Cy (by decide+kernel) (Aa (qv 6) Ac)) Ac)))) (λ_ _=>rfl)))
   (Ae (Ax (i:=8) Bz.nd rfl (Or.inl rfl) (Ai ((A9 T).mono (by decide)) hr rfl T.Bg T.Be.kp T.Bh .nil Aw (Aa (qv 5) (Aa Ab (Aa Ab Ac)))))
   (Fj (B3 (Au Ec (Ai ((A9 T).mono (by decide)) hr rfl T.Bg T.Be.kp T.Bh .nil Aw (Aa (qv 5) (Aa Ab (Aa Ab Ac)))) Ab (Ap _)) (Ah (Ax (i:=8) Bz.nd rfl (Or.inl rfl) (Bb Ck (Bb Yd Ab Ab) (qv 8)))) Av)
   (Ae (Ax (i:=9) Bz.nd rfl (Or.inl rfl) (Bb Ck (Bb Ck (Ai ((Mp T).mono (by decide)) hr rfl T.Oi T.Mg.kp T.Pj .nil Aw (Aa (qv 0) (Aa (qv 1) (Aa (qv 2) (Aa (qv 3) (Aa (qv 4) Ac)))))) (Bb Ee Ab (Qk Aep Ahz PySem.F.type_list_index V5 (qv 1) (Aa (qv 7) Ac)))) (Bb Ee (qv 8) Ab)))
   (Ah (Ao (Bu (Aa Bo (Aa (qv 2) (Aa (qv 3) (Aa (qv 4) (Aa (qv 7) (Aa (qv 8) (Aa (Al (Bq (K:=K) rfl) (Jv (Ic [.str "yes",.str "no",.str "yes"] (by decide+kernel))) (Ai ((A9 T).mono (by decide)) hr rfl T.Bg T.Be.kp T.Bh .nil Aw (Aa (qv 9) (Aa Ab (Aa Ab Ac)))) (λ_ _=>rfl)) Ac))))))))))))))),?_⟩
  have hna:=hN.nm a0 ha
  refine⟨L,rfl,⟨_,SqL.of hL⟩,?_⟩
  refine Bj (Bp (K:=K) (SqL.of hL)) (neF a0) (λv=>v) (by rw[Ac0];have:=hN.hi;lia) ?_ (λx _ _ H' _ R hR=>hR H' (Same.refl _)) (λD H1 s1 hD0 hD=>?_)
  ·
   intro x hx H' sm R hR
   obtain⟨t,ht,rfl⟩:=Ac2.mp hx
   conv=>whnf
   have q:=hR H' (Same.refl _)
   rw[show neF a0 (V.str t)=(!decide (t=a0)) from rfl] at q
   rw[show(!decide (V.str t=V.str a0))=(!decide (t=a0)) from Aea _ (Aej.mpr (by rw[V.str.injEq]))]
   exact q
  rw[Yk] at hD
  obtain⟨os,hos⟩: ∃os:List Str,os=ns.filter λt=>!decide (t=a0):=⟨_,rfl⟩
  have hpos:=Xe hN.lo hN.nd a0
  rw[←hos] at hD hpos
  have hon: ∀t∈os,t∈ns:=λt ht=>by rw[hos] at ht;exact(Aeb.mp ht).1
  replace hL:=s1 _ _ hL
  refine⟨D,_,rfl,.inl (SqL.of hD),_,_,_,rfl,by decide,by decide,(by rw[Ac0];lia),λv v0 v1 _=>?_⟩
  rw[Ac0] at v1
  obtain⟨hd,hhd,et⟩:=Ny (ts:=os) v0 v1
  have hnd:=hN.nm hd (hon hd hhd)
  have hne:hd≠a0:=λz=>by rw[hos] at hhd;have:=(Aeb.mp hhd).2;simp[z] at this
  refine⟨SqL.of hD,et,?_⟩
  refine⟨_,_,_,rfl,by decide,by decide,by decide,λg g0 g1 _=>?_⟩
  refine⟨λσ H'=>H'=H1/\ ∃g:Int,0<=g/\g<=10 ^ 10/\σ=[some (.int sd),some (.ref L),some (.str a0),some (.int n),some (.int t),some (.int c),some (.ref D),some (.str hd),some (.int g),none],?_,?_⟩
  ·
   refine⟨_,_,_,rfl,by decide,by decide,by decide,λu _ _ _=>⟨λ_=>?_,λ_=>⟨rfl,g,g0,by lia,rfl⟩⟩⟩
   refine⟨_,_,rfl,rfl,⟨by decide,by decide,by decide⟩,rfl,_,?_,?_,rfl⟩
   ·
    have:(10:Int) ^ (9:Int).toNat=1000000000:=by decide
    rw[this]
    lia
   ·
    have:(10:Int) ^ (9:Int).toNat=1000000000:=by decide
    rw[this]
    lia
  rintro _ H2 ⟨e2,g,g0,g1,rfl⟩
  obtain rfl:=e2.symm
  refine⟨L,ns,a0,sd,n,t,rfl,hL,hN,ha,λkey _=>⟨.inl ⟨rfl,_,SqL.of hL⟩,L,ns,hd,rfl,rfl,SqL.of hL,hon hd hhd,⟨_,_,rfl,rfl,.inl ⟨by decide,by decide⟩,_,_,rfl,rfl,.inr ⟨by decide,by decide⟩,?_⟩⟩⟩
  refine λl hl=>⟨_,_,_,rfl,by decide,by decide,by decide,λy y0 y1 _=>?_⟩
  obtain⟨yn,hyn,ey⟩:=Ny (ts:=["yes","no","yes"]) y0 y1
  refine⟨SqL.of Ad,ey,λp hp=>?_⟩
  have big:(10:Int) ^ 10<=10 ^ 18:=by decide
  have hyo:=zp yn hyn
  exact k p (.ans a0 n t hd g yn) _ ((s1.trans (Ag hl)).trans (Ag hp)) ⟨_,Ad,rfl⟩ (vy hna n0 t0 hnd hne g0 (by simp only[Ado,Agn,or_false] at hyn;rcases hyn with h|h|h<;>first|exact .inl h|exact .inr h)) True.intro rfl
theorem He:Ay ["_law_letters","_law_named","_law_one"] ["_law_letters"] (Af Fz):=⟨rfl,rfl,rfl,by decide+kernel,rfl,by decide+kernel,by decide+kernel⟩
theorem E6 (
      T:Txt K mg a):FnOk P w K mg base CX0 true 2 a.Fn a.F0 ["_law_letters"] (Qi):=by
 refine T.C3.ok He (λvs H Q E h=>?_) (λcdv A outer s H vs Q E hr h=>?_)
 · obtain⟨L,ms,rfl,_⟩:=h;rfl
 ·
  obtain⟨L,ms,rfl,hL,hz,h64,k⟩:=h
  refine⟨_,(Ae (Ax (i:=1) He.nd rfl (Or.inl rfl) (Yc Ac))
   (Ae (Pn Agl rfl (Bn (K:=K) rfl (pv 0)) (Bc (i:=2) He.nd rfl (Or.inl rfl)) (Ah (P0 (PW.pt (Tp (Cz (F3 (K:=K) rfl) (Al (Ek (K:=K) rfl) (pv 2) Ab (λ_ _=>rfl)) (Yc (Ic [.str "bid",.str "off"] (by decide+kernel))) (by with_unfolding_all rfl)) (F8 (Cz (d4 (hu2 hr)) (G0 Pe (pv 2) (Em Ab) (Em Ab)) (pv 1) (by with_unfolding_all rfl))))) (Ah (J0 (Qk Aep Aez Aey Dq (pv 1) (Aa (G0 Pe (pv 2) (Em Ab) (Em Ab)) Ac)))) Av)))
   (Ah (Ao (Bt (N:=["_law_pair","_law_letters"]) (cap:=[none,some 0]) (by show Ar (Af Fz) _ ["_law_letters","_law_named","_law_one"] _ _;exact⟨rfl,by decide+kernel,by decide+kernel,by decide+kernel,by decide+kernel,rfl,by decide+kernel⟩) rfl (Bn (K:=K) rfl (Ak (Dl (hu2 hr)) rfl T.Ci (by decide+kernel) (Aa (pv 1) Ac))) (λC s H fp=>⟨(Bc (i:=0) (by show(["_law_pair","_law_letters"]:List Str).Nodup;decide+kernel) rfl (Or.inl rfl) (.inr rfl)),Cc,(Ai ((Mx T).mono (by decide)) hr rfl T.Nu T.Ju.kp T.Nk .nil Aw (Aa (pv 1) (Aa (Al (Ek (K:=K) rfl) (pv 0) Ab (λ_ _=>rfl)) (Aa (Al (Ek (K:=K) rfl) (pv 0) Ab (λ_ _=>rfl)) Ac))))⟩)))))),?_⟩
  refine⟨(by show 0<=sizeLine;decide),λNm hNm=>?_⟩
  have uN:=Ag (o:=.lst []) hNm
  refine⟨_,rfl,L,rfl,⟨_,SqL.of (uN _ _ hL.at_)⟩,?_⟩
  refine Lf (Bp (K:=K) (SqL.of Wg)) (λi σ H'=>Same H H'/\ ∃(ks:List KA)(y2:Option V),H' Nm=some (.lst (ks.map λq=>V.ref q.2))/\(∀q∈ks,H' q.2=some (.tup ((mkK q.1).map kV)))/\NmOk ms i (ks.map (·.1))/\ks.length<=i/\σ=[some (.ref L),some (.ref Nm),y2]) ⟨uN,[],_,Ad,(λ_ z=>nomatch z),⟨Agm,(λx hx=>nomatch hx),(λ_ z=>nomatch z)⟩,Adb _,rfl⟩ (λ_ _ _ _ h=>N9 (h.1 _ _ hL.at_)) ?_ ?_
  ·
   rintro i v σ H1 hv ⟨s1,ks,y2,hN,hq,ok,hl,rfl⟩
   have hi:i<200:=by have h1:=(Aed.mp hv).1;rw[Ac0] at h1;lia
   rw[Adl] at hv
   obtain⟨m,hmi,rfl⟩:=Aen.mp hv
   have hm:=Ad6 hmi
   obtain⟨zs,hp,hv⟩:=(hL.ok m hm).up s1
   have h13:=zo hv
   obtain⟨r,rfl⟩:=hv.four
   refine⟨_,rfl,m.2,_,_,_,rfl,rfl,SqT.of hp,Kv,(by show 2<=sizeLine;decide),λl hl0=>?_⟩
   have ul:=Ag (o:=.lst [.str "bid",.str "off"]) hl0
   refine⟨l,_,rfl,.inl (SqL.of Ad),rfl,Dk ["bid","off"],_,rfl,?_⟩
   show(if inV (.str m.1.kind) ((["bid","off"]:List Str).map V.str)=true then _ else _)
   rw[x4]
   have s2:=s1.trans ul
   replace hp:=ul _ _ hp
   replace hN:=ul _ _ hN
   replace hq:=λq hh=>ul _ _ (hq q hh)
   clear hl0 s1
   generalize upd H1 l (.lst [.str "bid",.str "off"])=H2 at*
   refine Kw (λbz=>?_) (λbz=>⟨s2,ks,_,hN,hq,ok.skip hmi (λz=>absurd z bz),by lia,rfl⟩)
   refine⟨_,rfl,_,rfl,_,rfl,m.2,_,rfl,hp,λp1 H3 s3 h3=>?_⟩
   rw[h13 bz] at h3
   refine⟨_,rfl,p1,Nm,mkN m.1.mk,kns ks,rfl,rfl,Yg h3,(by rw[X0];exact s3 _ _ hN),λx hx=>?_,_,rfl,?_⟩
   ·
    obtain⟨q,hqq,rfl⟩:=Ac2.mp hx
    exact Yg (s3 _ _ (hq q hqq))
   rw[qc]
   by_cases hin:m.1.mk∈ks.map (·.1)
   ·
    rw[Ac3 hin]
    exact uw ⟨s2.trans s3,ks,_,s3 _ _ hN,λq hh=>s3 _ _ (hq q hh),ok.skip hmi (λ_=>hin),by lia,rfl⟩
   ·
    rw[Ac7 hin]
    refine x6 ⟨_,rfl,.inl ⟨rfl,_,SqL.of (s3 _ _ hN)⟩,_,rfl,_,rfl,_,rfl,m.2,_,rfl,s3 _ _ hp,λp2 H4 s4 h4=>?_⟩
    rw[h13 bz] at h4
    have hN4:=s4 _ _ (s3 _ _ hN)
    refine⟨Nm,_,_,rfl,rfl,hN4,(by rw[Ac0,Aeh];lia),λb o e=>?_,ks++[(m.1.mk,p2)],_,by rw[Adx];exact Ad,λq hh=>?_,by rw[Adx];exact ok.add hmi bz hin,by rw[Ade];show _+1<=_;lia,rfl⟩
    ·
     rw[Aq (As e hNm)]
     exact s4 _ _ (s3 _ _ (s2 _ _ e))
    ·
     have ht:H4 q.2=some (.tup ((mkK q.1).map kV)):=by
      rcases Adq.mp hh with hh|hh
      · exact s4 _ _ (s3 _ _ (hq q hh))
      · rw[Ac9] at hh;subst hh;exact h4
     rw[Aq (Ff ht hN4 (λz=>nomatch z))]
     exact ht
  rintro σ H1 ⟨s1,ks,y2,hN,hq,ok,hl,rfl⟩
  rw[Ac0] at ok hl
  refine⟨_,rfl,Nm,kns ks,rfl,by rw[X0];exact hN,λx hx=>?_,by unfold kns;rw[Ac0];lia,.inl λx hx=>?_,λx hx y hy=>?_,λD0 qs hD0 hpm hso=>⟨D0,rfl,⟨_,SqL.of Ad⟩,?_⟩⟩
  ·
   obtain⟨q,hqq,rfl⟩:=Ac2.mp hx
   exact Yg (hq q hqq)
  ·
   obtain⟨q,hqq,rfl⟩:=Ac2.mp hx
   exact⟨_,_,rfl⟩
  ·
   obtain⟨q,hqq,rfl⟩:=Ac2.mp hx
   obtain⟨q',hqq',rfl⟩:=Ac2.mp hy
   exact xq _ _
  obtain⟨ks',pk',rfl⟩:=B6 (f:=λ(q:KA)=>(mkN q.1,q.2)) hpm ks rfl
  have hkl:=pk'.length_eq
  have eL:((ks'.map λq=>(mkN q.1,q.2)).map λx=>V.ref x.2)=ks'.map λq=>V.ref q.2:=by rw[Adc];rfl
  have hso2:(ks'.map λq=>mkN q.1).Pairwise (λx y=>ltL y x=false):=by unfold keysOf at hso;rw[Adc] at hso;exact hso
  have ok2:NmOk ms ms.length (ks'.map (·.1)):=⟨(pk'.map (·.1)).nodup_iff.mpr ok.nd,λx hx bx=>(pk'.map (·.1)).mem_iff.mpr (ok.all x hx bx),λz hz=>ok.has z ((pk'.map (·.1)).mem_iff.mp hz)⟩
  have u0:=Ag (o:=.lst ((ks'.map λq=>(mkN q.1,q.2)).map λx=>V.ref x.2)) hD0
  have hq2: ∀q∈ks',(upd H1 D0 (.lst ((ks'.map λq=>(mkN q.1,q.2)).map λx=>V.ref x.2))) q.2=some (.tup ((mkK q.1).map kV)):=λq hh=>u0 _ _ (hq q (pk'.mem_iff.mp hh))
  have hD00:(upd H1 D0 (.lst ((ks'.map λq=>(mkN q.1,q.2)).map λx=>V.ref x.2))) D0=some (.lst (ks'.map λq=>V.ref q.2)):=by rw[Ad,eL]
  rw[eL]
  rw[eL] at u0 hq2 hD00
  have S0:=s1.trans u0
  generalize upd H1 D0 (.lst (ks'.map λq=>V.ref q.2))=H2 at*
  have hL2:=hL.up S0
  refine E5 (Bp (K:=K) (SqL.of hD00)) (λ_=>true) (RlT ms) (λ_ _ _ _ tp ⟨q,k,r,d,e1,e2,e3,e4,e5⟩=>⟨q,k,r,d,e1,tp _ _ e2,e3,e4.upT tp,e5⟩) (by rw[Ac0];lia) (λx _ H' _ R hR=>hR H' (Same.refl _)) ?_ (λD H3 ys s3 hD1 hD hP=>?_)
  ·
   intro v hv _ H' sm R hR
   obtain⟨q,hqq,rfl⟩:=Ac2.mp hv
   have ht:H' q.2=some (.tup [.str q.1.1,.int q.1.2]):=sm _ _ (hq2 q hqq)
   refine⟨_,rfl,_,rfl,q.2,_,_,_,rfl,rfl,SqT.of ht,Kv,_,rfl,q.2,_,_,_,rfl,rfl,SqT.of ht,Za,L,ms,q.1.1,q.1.2,rfl,hL2.up sm,hz,h64,λv H'' s'' hv'=>?_⟩
   rcases hv' with⟨_,hno⟩|⟨r,d,rfl,t1,t2⟩
   ·
    obtain⟨x,hx,bx,ex⟩:=ok2.has q.1 (Ada hqq)
    have:=hno x ⟨hx,ex⟩
    rw[bx] at this
    cases this
   · exact hR (.ref r) H'' s'' ⟨q.2,q.1,r,d,rfl,s'' _ _ ht,rfl,t1,t2⟩
  rw[Aec.mpr (λ_ _=>rfl)] at hP
  have eQ:(ks'.map λq=>V.ref q.2)=(ks'.map λq=>((mkK q.1,q.2):List Key×Addr)).map λq=>V.ref q.2:=by rw[Adc];rfl
  rw[eQ] at hP
  obtain⟨rs,rfl,h1,h2⟩:=d6 (λq hh=>by obtain⟨q',hh',rfl⟩:=Ac2.mp hh;exact s3 _ _ (hq2 q' hh')) hP
  have h3:(rs.map λr=>tk r.1)=ks'.map (·.1):=by
   rw[Adc] at h2
   refine(Af6 (f:=mkK) λx y e=>W2 e).mp ?_
   rw[Adc,Adc]
   exact h2
  have hrl:rs.length=ks'.length:=by have:=Aea List.length h3;rw[Ac0,Ac0] at this;exact this
  exact k D rs H3 (S0.trans s3) (Sk S0 hD1) hD (λr hr=>(h1 r hr).1) (pj ok2 hso2 (λr hr=>(h1 r hr).2) h3) (by lia)
theorem F1:Ay ["_law_letters","_law_cell","_law_many","_law_one","_law_other"] ["_law_letters","_law_cell"] (Af B9):=⟨rfl,rfl,rfl,by decide+kernel,rfl,by decide+kernel,by decide+kernel⟩
theorem Rt (T:Txt K mg a):FnOk P w K mg base CX0 true 2 a.Gx a.Hb ["_law_letters","_law_cell"] (R5):=by
 refine T.M6.ok F1 (λvs H Q E h=>?_) (λcdv A outer s H vs Q E hr h=>?_)
 · obtain⟨L,ms,c,rfl,_⟩:=h;rfl
 ·
  obtain⟨L,ms,c,rfl,hL,hpos,hfew,k⟩:=h
  refine⟨_,(Ae (Ax (i:=2) F1.nd rfl (Or.inr rfl) (Ak (An (K:=K) rfl) rfl T.Cy (by decide+kernel) (Aa (qv 0) Ac)))
   (Ae (Ax (i:=3) F1.nd rfl (Or.inl rfl) (Ak (Dl (hu2 hr)) rfl T.Ci (by decide+kernel) (Aa (Bt (N:=["_law_k","_law_cell"]) (cap:=[none,some 1]) (by show Ar (Af B9) _ ["_law_letters","_law_cell","_law_many","_law_one","_law_other"] _ _;exact⟨rfl,by decide+kernel,by decide+kernel,by decide+kernel,by decide+kernel,rfl,by decide+kernel⟩) rfl (Gj rfl T.Fh (Aa (qv 2) Ac)) (λC s H fp=>⟨(Bc (i:=0) (by show(["_law_k","_law_cell"]:List Str).Nodup;decide+kernel) rfl (Or.inl rfl) (.inr rfl)),Cc,(Bu (Aa (Ai ((A9 T).mono (by decide)) hr rfl T.Bg T.Be.kp T.Bh .nil Aw (Aa (qv 1) (Aa (Bb Ck Ab (Bb Ee Ab (qv 0))) (Aa Ab Ac)))) (Aa (qv 0) Ac)))⟩)) Ac)))
   (Ae (Ax (i:=4) F1.nd rfl (Or.inl rfl) (Ak (Dl (hu2 hr)) rfl T.Ci (by decide+kernel) (Aa (Bt (N:=["_law_k","_law_cell","_law_many"]) (cap:=[none,some 1,some 2]) (by show Ar (Af B9) _ ["_law_letters","_law_cell","_law_many","_law_one","_law_other"] _ _;exact⟨rfl,by decide+kernel,by decide+kernel,by decide+kernel,by decide+kernel,rfl,by decide+kernel⟩) rfl (Gj rfl T.Fh (Aa (Bb Ee Ab (qv 2)) Ac)) (λC s H fp=>⟨(Bc (i:=0) (by show(["_law_k","_law_cell","_law_many"]:List Str).Nodup;decide+kernel) rfl (Or.inl rfl) (.inr rfl)),Cc,(Bu (Aa (Ai ((A9 T).mono (by decide)) hr rfl T.Bg T.Be.kp T.Bh .nil Aw (Aa (qv 1) (Aa (Bb Ck (Bb Ck Ab (Bb Ee Ab (Bb V1 (qv 0) (qv 2)))) (Bb Ee Ab (Bb cc (qv 0) (qv 2)))) (Aa Ab Ac)))) (Aa (qv 0) Ac)))⟩)) Ac)))
   (Ah (Ao (Jv (Aa (Bt (N:=["_law_pair","_law_letters"]) (cap:=[none,some 0]) (by show Ar (Af B9) _ ["_law_letters","_law_cell","_law_many","_law_one","_law_other"] _ _;exact⟨rfl,by decide+kernel,by decide+kernel,by decide+kernel,by decide+kernel,rfl,by decide+kernel⟩) rfl (Bn (K:=K) rfl (qv 3)) (λC s H fp=>⟨(Bc (i:=0) (by show(["_law_pair","_law_letters"]:List Str).Nodup;decide+kernel) rfl (Or.inl rfl) (.inr rfl)),Cc,(Al (Bq (K:=K) rfl) (qv 1) (Al (Am (K:=K) rfl) (qv 0) Ab (λ_ _=>rfl)) (λ_ _=>rfl))⟩)) (Aa (Bt (N:=["_law_pair","_law_letters","_law_many"]) (cap:=[none,some 0,some 2]) (by show Ar (Af B9) _ ["_law_letters","_law_cell","_law_many","_law_one","_law_other"] _ _;exact⟨rfl,by decide+kernel,by decide+kernel,by decide+kernel,by decide+kernel,rfl,by decide+kernel⟩) rfl (Bn (K:=K) rfl (qv 4)) (λC s H fp=>⟨(Bc (i:=0) (by show(["_law_pair","_law_letters","_law_many"]:List Str).Nodup;decide+kernel) rfl (Or.inl rfl) (.inr rfl)),Cc,(Al (Bq (K:=K) rfl) (qv 1) (Bb V1 (Al (Am (K:=K) rfl) (qv 0) Ab (λ_ _=>rfl)) (qv 2)) (λ_ _=>rfl))⟩)) Ac)))))))),?_⟩
  refine⟨L,_,rfl,.inl (SqL.of hL),?_⟩
  conv=>whnf
  rw[Ac0]
  have s0:=Same.refl H
  refine⟨(ms.length:Int),rfl,by lia,by lia,?_⟩
  refine E5 (C0 0 _ H) (λ_=>true) RlP (λ_ _ _ _ tp ⟨q,w,k,e1,e2,e3⟩=>⟨q,w,k,e1,e2,tp _ _ e3⟩) (by rw[Ac0,Ad7];lia) (λx _ H' _ R hR=>hR H' (Same.refl _)) ?_ (λA1 H1 ys1 s1 hA10 hA1 hP1=>?_)
  ·
   intro v hv _ H' sm R hR
   obtain⟨j,hj,rfl⟩:=Ac2.mp hv
   have hj2:=Aeo.mp hj
   exact⟨_,_,rfl,rfl,.inl ⟨by decide,by decide⟩,_,_,_,rfl,by lia,by lia,by decide,λv v0 v1 _=>λq hq=>hR (.ref q) _ (Ag hq) ⟨q,v,_,rfl,rfl,Ad⟩⟩
  rw[Aec.mpr (λ_ _=>rfl),Xi] at hP1
  obtain⟨z1,rfl,hz1,hk1⟩:=gp hP1
  have hl1:z1.length=Int.toNat (ms.length:Int):=by have:=Aea List.length hk1;rw[Ac0,Ac0,Ad7] at this;exact this
  refine⟨A1,z1.map (λz=>(pnn z.1,z.2)),rfl,by rw[Adc];exact hA1,λx hx=>?_,by rw[Ac0];lia,.inr λx hx=>?_,λx hx y hy=>?_,λB1 qs1 hB1 hpm1 hso1=>?_⟩
  ·
   obtain⟨z,hz,rfl⟩:=Ac2.mp hx
   exact⟨_,hz1 z hz,.cons rfl (.cons rfl .nil)⟩
  ·
   obtain⟨z,hz,rfl⟩:=Ac2.mp hx
   exact⟨_,_,rfl⟩
  ·
   obtain⟨z,hz,rfl⟩:=Ac2.mp hx
   obtain⟨u,hu,rfl⟩:=Ac2.mp hy
   exact ot _ _
  obtain⟨w1,pw1,rfl⟩:=B6 (f:=λ(z:(Int×Int)×Addr)=>(pnn z.1,z.2)) hpm1 z1 rfl
  have hw1:=pw1.length_eq
  have eB1:((w1.map λz=>(pnn z.1,z.2)).map λx=>V.ref x.2)=w1.map λz=>V.ref z.2:=by rw[Adc];rfl
  rw[eB1]
  have u1:=Ag (o:=.lst (w1.map λz=>V.ref z.2)) hB1
  have S1:=s0.trans (s1.trans u1)
  have hT1: ∀z∈w1,(upd H1 B1 (.lst (w1.map λz=>V.ref z.2))) z.2=some (.tup [.int z.1.1,.int z.1.2]):=λz hz=>u1 _ _ (hz1 z (pw1.mem_iff.mp hz))
  have hK1:(w1.map λz=>z.1.2).Perm ((List.range (Int.toNat (ms.length:Int))).map λ(i:Nat)=>(0+(i:Int))):=by rw[←hk1];exact pw1.map _
  have hb1:(upd H1 B1 (.lst (w1.map λz=>V.ref z.2))) B1=some (.lst (w1.map λz=>V.ref z.2)):=Ad
  generalize upd H1 B1 (.lst (w1.map λz=>V.ref z.2))=K1 at*
  clear hso1 hB1 hP1 hA1 hA10 hpm1 hz1 hk1
  refine⟨_,_,rfl,rfl,.inl ⟨by decide,by decide⟩,(2*ms.length:Int),rfl,by lia,by lia,?_⟩
  refine E5 (C0 0 _ K1) (λ_=>true) RlP (λ_ _ _ _ tp ⟨q,w,k,e1,e2,e3⟩=>⟨q,w,k,e1,e2,tp _ _ e3⟩) (by rw[Ac0,Ad7];lia) (λx _ H' _ R hR=>hR H' (Same.refl _)) ?_ (λA2 H2 ys2 s2 hA20 hA2 hP2=>?_)
  ·
   intro v hv _ H' sm R hR
   obtain⟨j,hj,rfl⟩:=Ac2.mp hv
   have hj2:=Aeo.mp hj
   have hm0:(0:Int)<(ms.length:Int):=by lia
   have d0:(0+(j:Int))%(ms.length:Int)<(ms.length:Int):=Aes _ hm0
   have d1:0<=(0+(j:Int))%(ms.length:Int):=Ae3 _ (by lia)
   have d2:0<=(0+(j:Int))/(ms.length:Int):=Int.ediv_nonneg (by lia) (by lia)
   have d3:(0+(j:Int))/(ms.length:Int)<2:=Int.ediv_lt_of_lt_mul hm0 (by lia)
   exact⟨_,_,rfl,rfl,hm0,_,_,rfl,rfl,.inl ⟨by decide,by decide⟩,_,_,rfl,rfl,⟨hm0,by lia⟩,_,_,rfl,rfl,.inl ⟨by decide,by decide⟩,_,_,_,rfl,by lia,by lia,by decide,λv v0 v1 _=>λq hq=>hR (.ref q) _ (Ag hq) ⟨q,v,_,rfl,rfl,Ad⟩⟩
  rw[Aec.mpr (λ_ _=>rfl),Xi] at hP2
  obtain⟨z2,rfl,hz2,hk2⟩:=gp hP2
  have hl2:z2.length=Int.toNat (2*(ms.length:Int)):=by have:=Aea List.length hk2;rw[Ac0,Ac0,Ad7] at this;exact this
  refine⟨A2,z2.map (λz=>(pnn z.1,z.2)),rfl,by rw[Adc];exact hA2,λx hx=>?_,by rw[Ac0];lia,.inr λx hx=>?_,λx hx y hy=>?_,λB2 qs2 hB2 hpm2 hso2=>?_⟩
  ·
   obtain⟨z,hz,rfl⟩:=Ac2.mp hx
   exact⟨_,hz2 z hz,.cons rfl (.cons rfl .nil)⟩
  ·
   obtain⟨z,hz,rfl⟩:=Ac2.mp hx
   exact⟨_,_,rfl⟩
  ·
   obtain⟨z,hz,rfl⟩:=Ac2.mp hx
   obtain⟨u,hu,rfl⟩:=Ac2.mp hy
   exact ot _ _
  obtain⟨w2,pw2,rfl⟩:=B6 (f:=λ(z:(Int×Int)×Addr)=>(pnn z.1,z.2)) hpm2 z2 rfl
  have hw2:=pw2.length_eq
  have eB2:((w2.map λz=>(pnn z.1,z.2)).map λx=>V.ref x.2)=w2.map λz=>V.ref z.2:=by rw[Adc];rfl
  rw[eB2]
  have u2:=Ag (o:=.lst (w2.map λz=>V.ref z.2)) hB2
  have S2:=S1.trans (s2.trans u2)
  have U2:=s2.trans u2
  have hT2: ∀z∈w2,(upd H2 B2 (.lst (w2.map λz=>V.ref z.2))) z.2=some (.tup [.int z.1.1,.int z.1.2]):=λz hz=>u2 _ _ (hz2 z (pw2.mem_iff.mp hz))
  have hK2:(w2.map λz=>z.1.2).Perm ((List.range (Int.toNat (2*(ms.length:Int)))).map λ(i:Nat)=>(0+(i:Int))):=by rw[←hk2];exact pw2.map _
  have hb2:(upd H2 B2 (.lst (w2.map λz=>V.ref z.2))) B2=some (.lst (w2.map λz=>V.ref z.2)):=Ad
  generalize upd H2 B2 (.lst (w2.map λz=>V.ref z.2))=K2 at*
  clear hso2 hB2 hP2 hA2 hA20 hpm2 hz2 hk2
  have hL2:=S2 _ _ hL
  refine⟨B1,rfl,⟨_,SqL.of (U2 _ _ hb1)⟩,?_⟩
  refine E5 (Bp (K:=K) (SqL.of (U2 _ _ hb1))) (λ_=>true) (RlO (λk=>k) ms) (λ_ _ _ _ tp ⟨q,w,k,m,e1,e2,e3,e4⟩=>⟨q,w,k,m,e1,tp _ _ e2,e3,e4⟩) (by rw[Ac0];lia) (λx _ H' _ R hR=>hR H' (Same.refl _)) ?_ (λE1 J1 yo1 r1 hE10 hE1 hO1=>?_)
  ·
   intro v hv _ H' sm R hR
   obtain⟨z,hz,rfl⟩:=Ac2.mp hv
   have ht:=sm _ _ (U2 _ _ (hT1 z hz))
   obtain⟨i,hi,ei⟩:=Ac2.mp (hK1.mem_iff.mp (Ada (f:=λz:(Int×Int)×Addr=>z.1.2) hz))
   have hi2:=Aeo.mp hi
   have hlt:i<ms.length:=by lia
   have e2:z.1.2=(i:Int):=by rw[←ei];lia
   have e3:ms[i]?=some ms[i]:=Adh hlt
   refine⟨SqT.of ht,Za,SqL.of (sm _ _ hL2),(by rw[e2];exact A8 (by rw[Adl,e3];rfl)),hR _ H' (Same.refl _) ⟨z.2,_,_,ms[i],rfl,ht,rfl,?_⟩⟩
   rw[e2]
   exact e3
  rw[Aec.mpr (λ_ _=>rfl)] at hO1
  obtain⟨os1,rfl,ho1⟩:=gn (λz hz=>r1 _ _ (U2 _ _ (hT1 z hz))) hO1
  have m1:=f6 (g:=λk=>k) (ms:=ms) ho1 hK1 (λj hj=>⟨j,by lia,by show(0+(j:Int)).toNat=j;lia⟩)
  have q1:os1.length=w1.length:=by have:=Aea List.length ho1;rw[Ac0,Ac0] at this;exact this
  refine⟨B2,rfl,⟨_,SqL.of (r1 _ _ hb2)⟩,?_⟩
  refine E5 (Bp (K:=K) (SqL.of (r1 _ _ hb2))) (λ_=>true) (RlO (λk=>k%(ms.length:Int)) ms) (λ_ _ _ _ tp ⟨q,w,k,m,e1,e2,e3,e4⟩=>⟨q,w,k,m,e1,tp _ _ e2,e3,e4⟩) (by rw[Ac0];lia) (λx _ H' _ R hR=>hR H' (Same.refl _)) ?_ (λE2 J2 yo2 r2 hE20 hE2 hO2=>?_)
  ·
   intro v hv _ H' sm R hR
   obtain⟨z,hz,rfl⟩:=Ac2.mp hv
   have ht:=sm _ _ (r1 _ _ (hT2 z hz))
   obtain⟨i,hi,ei⟩:=Ac2.mp (hK2.mem_iff.mp (Ada (f:=λz:(Int×Int)×Addr=>z.1.2) hz))
   have hi2:=Aeo.mp hi
   have hm0:(0:Int)<(ms.length:Int):=by lia
   have d0:z.1.2%(ms.length:Int)<(ms.length:Int):=Aes _ hm0
   have d1:0<=z.1.2%(ms.length:Int):=Ae3 _ (by lia)
   have hlt:(z.1.2%(ms.length:Int)).toNat<ms.length:=by lia
   have e3:ms[(z.1.2%(ms.length:Int)).toNat]?=some ms[(z.1.2%(ms.length:Int)).toNat]:=Adh hlt
   have e2:atI (ms.map λy=>V.ref y.2) (z.1.2%(ms.length:Int))=some (.ref (ms[(z.1.2%(ms.length:Int)).toNat]).2):=by
    have:=A8 (xs:=ms.map λy=>V.ref y.2) (j:=(z.1.2%(ms.length:Int)).toNat) (v:=.ref (ms[(z.1.2%(ms.length:Int)).toNat]).2) (by rw[Adl,e3];rfl)
    rw[show(((z.1.2%(ms.length:Int)).toNat:Nat):Int)=z.1.2%(ms.length:Int) by lia] at this
    exact this
   exact⟨SqT.of ht,Za,_,_,rfl,rfl,hm0,SqL.of (sm _ _ (r1 _ _ hL2)),e2,hR _ H' (Same.refl _) ⟨z.2,_,_,_,rfl,ht,rfl,e3⟩⟩
  rw[Aec.mpr (λ_ _=>rfl)] at hO2
  obtain⟨os2,rfl,ho2⟩:=gn (λz hz=>r2 _ _ (r1 _ _ (hT2 z hz))) hO2
  have m2:=f6 (g:=λk=>k%(ms.length:Int)) (ms:=ms) ho2 hK2 (λj hj=>⟨j,by lia,by show((0+(j:Int))%(ms.length:Int)).toNat=j;rw[Int.zero_add,Int.emod_eq_of_lt (by lia) (by lia)];lia⟩)
  have q2:os2.length=w2.length:=by have:=Aea List.length ho2;rw[Ac0,Ac0] at this;exact this
  refine λO hO=>?_
  have uO:=Ag (o:=.lst [.ref E1,.ref E2]) hO
  exact k O E1 E2 os1 os2 _ ((S2.trans r1).trans (r2.trans uO)) Ad (uO _ _ (r2 _ _ hE1)) (uO _ _ hE2) m1 m2 (by lia) (by lia)
theorem U4:Ay ["value"] ["value"] (Af Lo):=⟨rfl,rfl,rfl,by decide+kernel,rfl,by decide+kernel,by decide+kernel⟩
theorem J5 (T:Txt K mg a):FnOk P w K mg base CX0 true 3 a.Ip a.Ji ["value"] (Vm):=by
 refine T.Il.ok U4 (λvs H Q E h=>?_) (λcdv A outer s H vs Q E hr h=>?_)
 · obtain⟨v,w,rfl,_⟩:=h;rfl
 ·
  obtain⟨v,w,rfl,hw,k⟩:=h
  refine⟨_,(Ah (Ao (Gp (Ak (Bk (K:=K) rfl) rfl T.Ba (by decide+kernel) (Aa (qv 0) (Aa (Cr (v:=.ty "str") rfl T.W0 (by decide+kernel) rfl) Ac))) (Dv (Ai ((Zh T).mono (by decide)) hr rfl T.Z6 T.Uu.kp T.cq .nil Aw (Aa (qv 0) Ac)))))),?_⟩
  cases w with
  | n=>cases hw;exact⟨_,_,_,_,rfl,Ed.non,rfl,Gk (k H (Same.refl _))⟩
  | b x=>cases hw;exact⟨_,_,_,_,rfl,Ed.bl _,rfl,Gk (k H (Same.refl _))⟩
  | i z=>cases hw;exact⟨_,_,_,_,rfl,Ed.int _,rfl,Gk (k H (Same.refl _))⟩
  | s t=>obtain⟨rfl,ht⟩:=hw;exact⟨_,_,_,_,rfl,Ed.str _,rfl,Lj ⟨t,rfl,ht,k⟩⟩
  | ts l=>obtain⟨r,rfl,hr0,hl0,hl1⟩:=hw;exact⟨_,_,_,_,rfl,Ed.tup hr0,rfl,Gk (k H (Same.refl _))⟩
  | ti z=>obtain⟨r,rfl,hr0⟩:=hw;exact⟨_,_,_,_,rfl,Ed.tup hr0,rfl,Gk (k H (Same.refl _))⟩
theorem cy:Ay ["letter"] ["letter"] (Af Sa):=⟨rfl,rfl,rfl,by decide+kernel,rfl,by decide+kernel,by decide+kernel⟩
theorem ef (T:Txt K mg a):FnOk P w K mg base CX0 true 3 a.Nz a.N3 ["letter"] (yy uz):=by
 refine T.Xg.ok cy (λvs H Q E h=>?_) (λcdv A outer s H vs Q E hr h=>?_)
 · obtain⟨p,ps,a0,rfl,_⟩:=h;rfl
 ·
  obtain⟨p,ps,a0,rfl,hp,h4,h1,k⟩:=h
  refine⟨_,(Ah (Ao (Gp (Bv Ec (Ak (An (K:=K) rfl) rfl T.Cy (by decide+kernel) (Aa (qv 0) Ac)) Ab (Ap _)) (Dv (Ai ((F4 T).mono (by decide)) hr rfl T.Ht T.Gd.kp T.Hw .nil Aw (Aa (Al (Am (K:=K) rfl) (qv 0) Ab (λ_ _=>rfl)) (Aa Ab Ac))))))),?_⟩
  have fin: ∀b,b=uz (ws ps)-> ∀H',Same H H'->Q (.bl b) H':=λb e=>by rw[e];exact k
  have wl:=Uw ps
  obtain⟨v3,A3,w3⟩:=hp.get (j:=3) (by lia)
  refine⟨p,_,rfl,.inr (SqT.of hp.at_),?_⟩
  conv=>whnf
  rw[i4,U9]
  by_cases h:ps.length=4
  case neg=>rw[Ac7 (by lia)];exact Gk (fin _ (by unfold uz;rw[Ac7 (by lia),Adp]) H (Same.refl _))
  rw[Ac3 (by lia)]
  exact Lj ⟨SqT.of hp.at_,A3,v3,_,2,rfl,w3,fin _ (by unfold uz;rw[Ac3 (by lia),Aex]) H (Same.refl _)⟩
theorem Na:Ay ["letters","found"] ["letters"] (Af Jj):=⟨rfl,rfl,rfl,by decide+kernel,rfl,by decide+kernel,by decide+kernel⟩
theorem Tj (T:Txt K mg a):FnOk P w K mg base CX0 true 3 a.Ib a.Im ["letters"] (Uz):=by
 refine T.O9.ok Na (λvs H Q E h=>?_) (λcdv A outer s H vs Q E hr h=>?_)
 · obtain⟨L,ms,rfl,_⟩:=h;rfl
 ·
  obtain⟨L,ms,rfl,hL,k⟩:=h
  refine⟨_,(Ae (Ep (i0:=1) Na.nd rfl rfl (N:=["letter"]) (cap:=[none]) (by show Ar (Af Jj) _ ["letters","found"] _ _;exact⟨rfl,by decide+kernel,by decide+kernel,by decide+kernel,by decide+kernel,rfl,by decide+kernel⟩) rfl (Bn (K:=K) rfl (qv 0)) (λC s H fp=>⟨(Bc (i:=0) (by show(["letter"]:List Str).Nodup;decide+kernel) rfl (Or.inl rfl) (.inr rfl)),(Fc (PW.pt (Ph (Au (Kz (Fs hr)) (Al (Am (K:=K) rfl) (qv 0) Ab (λ_ _=>rfl)) Bo (Ap _)) (Ka (Au (Kz (Fs hr)) (Al (Am (K:=K) rfl) (qv 0) Ab (λ_ _=>rfl)) Bo (Ap _)))))),(qv 0)⟩))
   (Ah (Ao (md (X7 (qv 1) (λ_=>rfl)) (de rfl (Ta T) (hr.mono (by decide)) T.Va rfl T.Ui rfl T.Vt (qv 1)) Gu)))),?_⟩
  refine⟨L,rfl,⟨_,SqL.of hL.at_⟩,?_⟩
  refine Bj (Bp (K:=K) (SqL.of hL.at_)) (boF ms) (λv=>v) (by rw[Ac0];have:=hL.few;lia) ?_ (λx _ _ H' _ R hR=>hR H' (Same.refl _)) (λD H1 s1 hD0 hD=>?_)
  ·
   intro x hx H' sm R hR
   obtain⟨m,hm,rfl⟩:=Ac2.mp hx
   have hq:=hR H' (Same.refl _)
   rw[dr hL.ok hm,cx] at hq
   obtain⟨zs,hp,hv⟩:=(hL.ok m hm).up sm
   obtain⟨r,rfl⟩:=hv.four
   refine⟨SqT.of hp,Kv,_,rfl,.inl ⟨rfl,?_⟩⟩
   conv=>whnf
   rw[Ik]
   refine⟨λz=>?_,λz=>?_⟩
   ·
    rw[z,Aij] at hq
    exact hq
   ·
    rw[Ad8.mpr z,Agx] at hq
    refine⟨SqT.of hp,Kv,_,rfl,.inl ⟨rfl,?_⟩⟩
    conv=>whnf
    rw[Ik]
    exact hq
  have hG: ∀z∈((ms.map λx=>V.ref x.2).filter (boF ms)).map λv=>v,∃x∈ms,z=V.ref x.2/\x.1.bo=true:=λz hz=>by
   obtain⟨y,hy,rfl⟩:=Ac2.mp hz
   obtain⟨h1,h2⟩:=Aeb.mp hy
   obtain⟨x,hx,rfl⟩:=Ac2.mp h1
   rw[dr hL.ok hx] at h2
   exact⟨x,hx,rfl,h2⟩
  have hA: ∀x∈ms,x.1.bo=true->V.ref x.2∈((ms.map λx=>V.ref x.2).filter (boF ms)).map λv=>v:=λx hx e=>by
   rw[Ahi (λ_=>rfl)]
   exact Aeb.mpr ⟨Ada (f:=λx:Lt×Addr=>V.ref x.2) hx,by rw[dr hL.ok hx];exact e⟩
  generalize (((ms.map λx=>V.ref x.2).filter (boF ms)).map λv=>v)=ys at hD hG hA
  cases ys with
  |
   nil=>
   refine⟨_,.inl ⟨_,SqL.of hD,rfl⟩,Gk (k _ H1 s1 (.inl ⟨rfl,λx hx=>?_⟩))⟩
   conv=>whnf
   obtain⟨y,hy,rfl⟩:=Ac2.mp hx
   cases e:y.1.bo with
   | false=>rfl
   | true=>exact nomatch hA y hy e
  | cons y ys=>
  refine⟨_,.inl ⟨_,SqL.of hD,rfl⟩,Lj ?_⟩
  have hG': ∀H',Same H1 H'-> ∀z∈y::ys,∃x∈ms,z=V.ref x.2/\LtAt H' x.1 x.2:=λH' s' z hz=>by
   obtain⟨x,hx,e,_⟩:=hG z hz
   exact⟨x,hx,e,(hL.ok x hx).up (s1.trans s')⟩
  refine⟨D,y,ys,λz H' w=>∃(p q:Addr)(l:Lt),z=.ref p/\w=.ref q/\LtAt H' l p/\H' q=some (.tup [.int l.turn,.ref p]),λz z'=>Fd (codeOf ms z) (codeOf ms z'),rfl,hD,?_,?_,?_,?_⟩
  ·
   intro z hz H' s'
   obtain⟨x,hx,rfl,hl⟩:=hG' H' s' z hz
   exact⟨x.2,x.1,rfl,hl,λq hq=>⟨Ag hq,x.2,q,x.1,rfl,rfl,hl.up (Ag hq),Ad⟩⟩
  ·
   rintro z H2 H3 w s' ⟨p,q,l,rfl,rfl,h1,h2⟩
   exact⟨p,q,l,rfl,rfl,h1.up s',s' _ _ h2⟩
  ·
   rintro z hz z' hz' H' w w' s' ⟨p,q,l,rfl,rfl,h1,h2⟩ ⟨p',q',l',rfl,rfl,h1',h2'⟩
   obtain⟨x,hx,e,hl⟩:=hG' H' s' _ hz
   obtain⟨x',hx',e',hl'⟩:=hG' H' s' _ hz'
   cases e
   cases e'
   have e1:x.1=l:=LtAt.inj hl h1
   have e2:x'.1=l':=LtAt.inj hl' h1'
   show GtV _ H' _ _ (Fd (codeOf ms (.ref x.2)) (codeOf ms (.ref x'.2)))
   rw[Mt hL.ok hx,Mt hL.ok hx',e1,e2]
   exact lj (hu3 hr) h2 h2' h1.nk h1'.nk (Lt.ok _ _)
  ·
   intro H' s'
   have top:=T9 (gt:=λz z'=>Fd (codeOf ms z) (codeOf ms z')) (λ_=>tu _) (λ_ _ _=>r9 _ _ _) (λ_ _=>k6 _ _) (xs:=ys) (b:=y)
   have hmx: ∃x∈ms,Hu (λz z'=>Fd (codeOf ms z) (codeOf ms z')) y ys=V.ref x.2/\x.1.bo=true:=by
    rcases Pw (gt:=λz z'=>Fd (codeOf ms z) (codeOf ms z')) (xs:=ys) (b:=y) with e|e
    · rw[e];exact hG y (Ac8 ..)
    · exact hG _ (Adi _ e)
   obtain⟨x,hx,ex,bx⟩:=hmx
   refine k _ _ (s1.trans s') (.inr ⟨x,hx,ex,Ada hx,bx,λu hu bu=>?_⟩)
   obtain⟨v,hv,rfl⟩:=Ac2.mp hu
   have:=top _ (hA v hv bu)
   rw[ex] at this
   have t:=ym this
   rw[Mt hL.ok hx,Mt hL.ok hv] at t
   exact t
theorem Dh:Ay ["_law_seed","_law_names","_law_asker","_law_number","_law_turn","_law_key_here","_law_begin","_law_end"] ["_law_seed","_law_names","_law_asker","_law_number","_law_turn"] (Af Jz):=⟨rfl,rfl,rfl,by decide+kernel,rfl,by decide+kernel,by decide+kernel⟩
theorem Tc (T:Txt K mg a):FnOk P w K mg base CX0 true 3 a.G6 a.Gr ["_law_seed","_law_names","_law_asker","_law_number","_law_turn"] (sj (λr=>r=[])):=by
 refine T.M4.ok Dh (λvs H Q E h=>?_) (λcdv A outer s H vs Q E hr h=>?_)
 · obtain⟨L,ns,a0,sd,n,t,r,rfl,rfl,_⟩:=h;rfl
 ·
  obtain⟨L,ns,a0,sd,n,t,r,rfl,rfl,hL,hN,ha,n0,n1,t0,t1,k⟩:=h
  refine⟨_,(Ae (Ax (i:=5) Dh.nd rfl (Or.inl rfl) (Ai ((Mp T).mono (by decide)) hr rfl T.Oi T.Mg.kp T.Pj .nil Aw (Aa (pv 0) (Aa (pv 1) (Aa (pv 2) (Aa (pv 3) (Aa (pv 4) Ac)))))))
   (Fj (P0 (PW.pt (Tp (Cz wx (pv 4) Ab (Ap _)) (F8 (Cz Qj (Ai ((A9 T).mono (by decide)) hr rfl T.Bg T.Be.kp T.Bh .nil Aw (Aa (pv 5) (Aa Ab (Aa Ab Ac)))) Ab (Ap _))))) (Ah (Ao (U6 (Aa Bo (Aa (pv 2) (Aa (pv 3) (Aa (pv 4) Ac))))))) Av)
   (Ae (Ax (i:=6) Dh.nd rfl (Or.inl rfl) (Bb iz (Ai ((A9 T).mono (by decide)) hr rfl T.Bg T.Be.kp T.Bh .nil Aw (Aa (pv 5) (Aa Ab (Aa Ab Ac)))) Ab))
   (Fj (P0 (Cz Qj (Ai ((A9 T).mono (by decide)) hr rfl T.Bg T.Be.kp T.Bh .nil Aw (Aa (pv 5) (Aa Ab (Aa Ab Ac)))) Ab (Ap _)) (Ah (Ax (i:=6) Dh.nd rfl (Or.inl rfl) (Bb Ee (pv 6) (Bb Yd Ab Ab)))) Av)
   (Ae (Ax (i:=7) Dh.nd rfl (Or.inl rfl) (Bb ib (Bb ib (pv 6) Ab) (Ai ((A9 T).mono (by decide)) hr rfl T.Bg T.Be.kp T.Bh .nil Aw (Aa (pv 5) (Aa Ab (Aa (Al (Yh (K:=K) rfl) (Yc (Ic [.int 1,.int 30,.int 3000] (by decide+kernel))) (Ai ((A9 T).mono (by decide)) hr rfl T.Bg T.Be.kp T.Bh .nil Aw (Aa (pv 5) (Aa Ab (Aa Ab Ac)))) (λ_ _=>rfl)) Ac))))))
   (Ah (Ao (U6 (Aa Bo (Aa (pv 2) (Aa (pv 3) (Aa (pv 4) (Aa (pv 6) (Aa (pv 7) (Aa (Ai ((Ol T).mono (by decide)) hr rfl T.Qt T.Mr.kp T.Q1 .nil Aw (Aa (pv 1) (Aa (pv 2) (Aa (pv 5) (Aa Ab (Aa Ab Ac)))))) Ac))))))))))))))),?_⟩
  have hna:=hN.nm a0 ha
  refine⟨_,rfl,_,rfl,_,rfl,_,rfl,_,rfl,L,ns,a0,sd,n,t,rfl,hL,hN,ha,λkey hkey=>?_⟩
  refine⟨λσ H'=>H'=H/\ ¬(1<t/\Y0 key 1 6=1)/\σ=[some (.int sd),some (.ref L),some (.str a0),some (.int n),some (.int t),some (.int key),none,none],?_,?_⟩
  ·
   refine⟨_,rfl,_,_,rfl,rfl,_,rfl,Kw (λz1=>?_) (λz1=>uw ⟨rfl,λz=>z1 (Ac3 z.1),rfl⟩)⟩
   have z2:1<t:=Adk z1
   refine⟨_,rfl,_,_,_,rfl,by decide,by decide,by decide,λv _ _ hv=>⟨rfl,_,rfl,Kw (λz3=>?_) (λz3=>⟨rfl,λz=>z3 (Ac3 (by rw[hv,z.2])),rfl⟩)⟩⟩
   exact⟨_,rfl,_,rfl,_,rfl,(by show 4<=sizeLine;decide),λp hp=>k p (.off a0 n t) _ (Ag hp) ⟨_,Ad,rfl⟩ (vf hna n0 (by lia)) (by show Lt.off a0 n t=tj (mj sd ns a0 n t) ns a0 n t;unfold tj;rw[←hkey,if_pos ⟨z2,by rw[←hv];exact V.int.inj (Adk z3)⟩]) rfl⟩
  rintro _ H1 ⟨e1,hno,rfl⟩
  obtain rfl:=e1.symm
  refine⟨_,rfl,_,_,_,rfl,by decide,by decide,by decide,λv v0 v1 hv=>⟨_,_,rfl,rfl,?_⟩⟩
  refine⟨λσ H'=>H'=H/\ ∃b:Int, -(10 ^ 16)<=b/\b<=10 ^ 16/\b=xk key/\σ=[some (.int sd),some (.ref L),some (.str a0),some (.int n),some (.int t),some (.int key),some (.int b),none],?_,?_⟩
  ·
   refine⟨_,rfl,_,_,_,rfl,by decide,by decide,by decide,λu _ _ hu=>⟨rfl,_,rfl,Kw (λz=>?_) (λz=>⟨rfl,_,by lia,by lia,by unfold xk;rw[if_neg (λy=>z (Ac3 (by rw[hu,y]))),hv],rfl⟩)⟩⟩
   refine⟨_,rfl,_,_,rfl,rfl,⟨by decide,by decide,by decide⟩,_,_,rfl,rfl,.inl ⟨by lia,by lia⟩,rfl,_,?_,?_,(by unfold xk;rw[if_pos (by rw[←hu];exact V.int.inj (Adk z)),hv]),rfl⟩
   ·
    have:(10:Int) ^ (12:Int).toNat=1000000000000:=by decide
    rw[this]
    lia
   ·
    have:(10:Int) ^ (12:Int).toNat=1000000000000:=by decide
    rw[this]
    lia
  rintro _ H1 ⟨e1,b,b0,b1,hb,rfl⟩
  obtain rfl:=e1.symm
  clear v0 v1 hv v
  refine⟨_,rfl,_,_,rfl,rfl,_,rfl,(by show 3<=sizeLine;decide),λl hl=>⟨_,rfl,_,_,_,rfl,by decide,by decide,by decide,λv v0 v1 hv=>?_⟩⟩
  obtain⟨wd,w0,w1,we⟩:=Se (ts:=[1,30,3000]) (i:=v) 1 3000 v0 v1 (by decide)
  refine⟨l,_,_,_,rfl,rfl,SqL.of Ad,we,_,_,_,rfl,by decide,by decide,by lia,λe e0 e1 he=>⟨_,_,rfl,rfl,?_⟩⟩
  have s1:=Ag (o:=.lst [.int 1,.int 30,.int 3000]) hl
  replace hL:=s1 _ _ hL
  generalize upd H l (.lst [.int 1,.int 30,.int 3000])=H1 at*
  refine⟨_,rfl,_,rfl,_,rfl,_,rfl,_,rfl,_,rfl,_,rfl,_,rfl,L,ns,a0,_,_,_,rfl,hL,hN,by decide,by decide,by decide,by decide,λr l H2 s2 hr hl hso=>⟨(by show 7<=sizeLine;decide),λp hp=>?_⟩⟩
  have s3:=Ag (o:=.tup [.str "bid",.str a0,.int n,.int t,.int b,.int (b+1+e),.ref r]) hp
  have big:(10:Int) ^ 16+4000<=10 ^ 18:=by decide
  exact k p (.bid a0 n t b (b+1+e) l) _ ((s1.trans s2).trans s3) ⟨_,Ad,r,rfl,s3 _ _ hr⟩ (wq hna n0 t0 (by lia) hl) (by show Lt.bid a0 n t b (b+1+e) l=tj (mj sd ns a0 n t) ns a0 n t;unfold tj;rw[←hkey,if_neg hno,←hb,he,k4 v0 v1 we,hv,hso]) rfl
theorem Dw:Ay ["_law_seed","_law_names","_law_asker","_law_number","_law_turn","_law_key_here","_law_hands"] ["_law_seed","_law_names","_law_asker","_law_number","_law_turn"] (Af Hj):=⟨rfl,rfl,rfl,by decide+kernel,rfl,by decide+kernel,by decide+kernel⟩
theorem O5 (T:Txt K mg a):FnOk P w K mg base CX0 true 3 a.E8 a.E7 ["_law_seed","_law_names","_law_asker","_law_number","_law_turn"] (sj (λr=>r=[])):=by
 refine T.Kx.ok Dw (λvs H Q E h=>?_) (λcdv A outer s H vs Q E hr h=>?_)
 · obtain⟨L,ns,a0,sd,n,t,r,rfl,rfl,_⟩:=h;rfl
 ·
  obtain⟨L,ns,a0,sd,n,t,r,rfl,rfl,hL,hN,ha,n0,n1,t0,t1,k⟩:=h
  refine⟨_,(Ae (Ax (i:=5) Dw.nd rfl (Or.inl rfl) (Ai ((Mp T).mono (by decide)) hr rfl T.Oi T.Mg.kp T.Pj .nil Aw (Aa (qv 0) (Aa (qv 1) (Aa (qv 2) (Aa (qv 3) (Aa (qv 4) Ac)))))))
   (Ae (Ax (i:=6) Dw.nd rfl (Or.inl rfl) (Ai ((Ol T).mono (by decide)) hr rfl T.Qt T.Mr.kp T.Q1 .nil Aw (Aa (qv 1) (Aa (qv 2) (Aa (qv 5) (Aa Ab (Aa Ab Ac)))))))
   (Fj (B3 (Au Ec (Ai ((A9 T).mono (by decide)) hr rfl T.Bg T.Be.kp T.Bh .nil Aw (Aa (qv 5) (Aa Ab (Aa Ab Ac)))) Ab (Ap _)) (Ah (Ax (i:=6) Dw.nd rfl (Or.inl rfl) (Bu Ac))) Av)
   (Ah (Ao (Bu (Aa Bo (Aa (qv 2) (Aa (qv 3) (Aa (qv 4) (Aa (qv 6) Ac))))))))))),?_⟩
  have hna:=hN.nm a0 ha
  refine⟨L,ns,a0,sd,n,t,rfl,hL,hN,ha,λkey hkey=>?_⟩
  refine⟨L,ns,a0,_,_,_,rfl,hL,hN,by decide,by decide,by decide,by decide,λr l H1 s1 hr hl hso=>?_⟩
  refine⟨λσ H'=>Same H H'/\ ∃(r:Addr)(l:List Str),H' r=some (.tup (l.map V.str))/\Cb NM (.ts l) a0 0=true/\l=Uq key ns a0/\σ=[some (.int sd),some (.ref L),some (.str a0),some (.int n),some (.int t),some (.int key),some (.ref r)],?_,?_⟩
  ·
   refine⟨_,_,_,rfl,by decide,by decide,by decide,λu _ _ hu=>⟨λz=>?_,λz=>⟨s1,r,l,hr,hl,by unfold Uq;rw[if_neg (λy=>z (Ac3 (by rw[hu,y])))];exact hso,rfl⟩⟩⟩
   exact λq hq=>⟨s1.trans (Ag hq),q,[],Ad,Ya (by decide) (by decide) (λ_ z=>nomatch z) rfl (λz=>nomatch z),(by unfold Uq;rw[if_pos (by rw[←hu];exact V.int.inj (Adk z))]),rfl⟩
  rintro _ H2 ⟨s2,r,l,hr,hl,hcl,rfl⟩
  refine λp hp=>?_
  have s3:=Ag (o:=.tup [.str "close",.str a0,.int n,.int t,.ref r]) hp
  exact k p (.close a0 n t l) _ (s2.trans s3) ⟨_,Ad,r,rfl,s3 _ _ hr⟩ (js hna n0 t0 hl) (by show l=Uq (mj sd ns a0 n t) ns a0;rw[←hkey];exact hcl) rfl
theorem Dx:Ay ["_law_letters","_law_hand","_law_found","_law_one","_law_held"] ["_law_letters","_law_hand"] (Af Hg):=⟨rfl,rfl,rfl,by decide+kernel,rfl,by decide+kernel,by decide+kernel⟩
theorem Jx (T:Txt K mg a):FnOk P w K mg base CX0 true 3 a.Ey a.Eu ["_law_letters","_law_hand"] (Pk):=by
 refine T.Hl.ok Dx (λvs H Q E h=>?_) (λcdv A outer s H vs Q E hr h=>?_)
 · obtain⟨L,ms,h0,rfl,_⟩:=h;rfl
 ·
  obtain⟨L,ms,h0,rfl,hL,hz,h64,k⟩:=h
  refine⟨_,(Ae (Ax (i:=2) Dx.nd rfl (Or.inl rfl) (Jv Ac))
   (Ae (Pn Agl rfl (Bn (K:=K) rfl (Ai ((E6 T).mono (by decide)) hr rfl T.F2 T.C3.kp T.Fu .nil Aw (Aa (qv 0) Ac))) (Bc (i:=3) Dx.nd rfl (Or.inl rfl)) (Fj (Ax (i:=4) Dx.nd rfl (Or.inl rfl) (k3 (Bv Ec (Al (Am (K:=K) rfl) (qv 3) Ab (λ_ _=>rfl)) (qv 1) (Ap _)) (Dv (Gp (Bv (F3 (K:=K) rfl) (qv 1) (Al (Am (K:=K) rfl) (qv 3) Ab (λ_ _=>rfl)) (by with_unfolding_all rfl)) (Dv (k3 (Bv Ec (Al (Am (K:=K) rfl) (qv 3) Ab (λ_ _=>rfl)) Bo (Ap _)) (Dv (Bv (F3 (K:=K) rfl) (qv 1) (Al (Am (K:=K) rfl) (qv 3) Ab (λ_ _=>rfl)) (by with_unfolding_all rfl)))))))))
   (Ah (B3 (PW.pt (M3 (Au gf (Al (Am (K:=K) rfl) (qv 3) Ab (λ_ _=>rfl)) Bo (Ap _)) (F8 (Cu (qv 4))))) (Ah (J0 (Qk Aep Aez Aey Dq (qv 2) (Aa (Bu (Aa (Al (Am (K:=K) rfl) (qv 3) Ab (λ_ _=>rfl)) (Aa (Al (Am (K:=K) rfl) (qv 3) Ab (λ_ _=>rfl)) (Aa (Al (Am (K:=K) rfl) (qv 3) Ab (λ_ _=>rfl)) (Aa (Al (Am (K:=K) rfl) (qv 3) Ab (λ_ _=>rfl)) Ac))))) Ac)))) Av))))
   (Ah (Ao (Ak (Dl (hu2 hr)) rfl T.Ci (by decide+kernel) (Aa (qv 2) Ac)))))),?_⟩
  refine λF hF=>?_
  have uF:=Ag (o:=.lst []) hF
  refine⟨L,ms,rfl,hL.up uF,hz,h64,λD rs H1 s1 hD0 hD htd hto hrl=>⟨D,rfl,⟨_,SqL.of hD⟩,?_⟩⟩
  have nFD:F≠D:=λz=>by rw[←z,Ad] at hD0;cases hD0
  refine Lf (Bp (K:=K) (SqL.of Wg)) (λi σ H'=>Same H H'/\H' D=some (.lst (rs.map λr=>V.ref r.2))/\(∀r∈rs,TdAt H' r.1 r.2)/\ ∃(zs:List (Qd×Addr))(y3 y4:Option V),H' F=some (.lst (zs.map λz=>V.ref z.2))/\(∀z∈zs,ng H' z.1 z.2)/\zs.map (·.1)=(((rs.take i).map (·.1)).filter (Jw h0)).map Rr/\zs.length<=i/\σ=[some (.ref L),some (.str h0),some (.ref F),y3,y4]) ⟨uF.trans s1,hD,htd,[],_,_,s1 _ _ Ad,(λ_ z=>nomatch z),rfl,Adb _,rfl⟩ (λ_ _ _ _ h=>N9 h.2.1) ?_ ?_
  ·
   rintro i v σ H2 hv ⟨s2,hD2,ht2,zs,y3,y4,hF2,hzq,hze,hzl,rfl⟩
   have hi:i<200:=by have h1:=(Aed.mp hv).1;rw[Ac0] at h1;lia
   rw[Adl] at hv
   obtain⟨r,hri,rfl⟩:=Aen.mp hv
   have hr:=Ad6 hri
   obtain⟨d,p⟩:=r
   obtain⟨q1,q2,q3,q4,q5,e0,e1,e2,e3,e4,e5⟩:=(ht2 _ hr).at_
   have hT:=hto.is_ d (Ada hr)
   have etk:((rs.take (i+1)).map (·.1))=(rs.take i).map (·.1)++[d]:=by rw[Agb,hri,Adx];rfl
   refine⟨λσ H'=>H'=H2/\σ=[some (.ref L),some (.str h0),some (.ref F),some (.ref p),some (.bl (cw h0 d))],?_,?_⟩
   ·
    have fin: ∀b,b=cw h0 d->(H2=H2/\[some (V.ref L),some (V.str h0),some (V.ref F),some (V.ref p),some (V.bl b)]=[some (.ref L),some (.str h0),some (.ref F),some (.ref p),some (.bl (cw h0 d))]):=λb e=>⟨rfl,by rw[e]⟩
    unfold cw at fin
    refine⟨SqT.of e0,Kv,?_⟩
    conv=>whnf
    show Br (decide (V.str d.a=V.str h0)) _ _
    rw[Ik]
    refine⟨λz=>fin true (by rw[z];rfl),λnz=>?_⟩
    replace nz:=Ad8.mpr nz
    refine⟨SqT.of e0,A8 (j:=6) rfl,q1,_,rfl,.inr (SqT.of e1),rfl,Dk d.yes,?_⟩
    conv=>whnf
    show Br (inV (.str h0) (d.yes.map V.str)) _ _
    rw[Gv]
    refine⟨λz1=>?_,λz1=>fin false (by rw[nz,Ad8.mpr z1];rfl)⟩
    refine⟨SqT.of e0,bj,?_⟩
    conv=>whnf
    show Br (decide (V.str d.st=V.str "open")) _ _
    rw[Ik]
    refine⟨λz2=>fin true (by rw[nz,z1,z2];rfl),λz2=>?_⟩
    exact⟨SqT.of e0,A8 (j:=9) rfl,q4,_,rfl,.inr (SqT.of e4),rfl,Dk d.come,fin (inV (.str h0) (d.come.map V.str)) (by rw[nz,z1,Ad8.mpr z2,Gv];rfl)⟩
   rintro _ H2' ⟨eH,rfl⟩
   obtain rfl:=eH.symm
   have hB:Jw h0 d=(!decide (d.st="off")&&cw h0 d):=rfl
   have skip:Jw h0 d=false->zs.map (·.1)=((((rs.take (i+1)).map (·.1)).filter (Jw h0)).map Rr):=λe=>by rw[etk,Afq,Ahd,if_neg (by rw[e];exact Adf),List.filter_nil,Aet];exact hze
   refine⟨SqT.of e0,bj,?_⟩
   conv=>whnf
   show Br ((!decide (V.str d.st=V.str "off"))) _ _
   rw[Ik]
   refine⟨λz1=>?_,λz1=>Gk ⟨s2,hD2,ht2,zs,_,_,hF2,hzq,skip (by rw[hB,Ad8.mpr z1,Adp]),by lia,rfl⟩⟩
   refine⟨λz2=>?_,λz2=>⟨s2,hD2,ht2,zs,_,_,hF2,hzq,skip (by rw[hB,Ad8.mpr z2,Aeu]),by lia,rfl⟩⟩
   have hb:Jw h0 d=true:=by rw[hB,z1,z2];rfl
   have hbe:=ix hT hb
   rw[hbe] at e0
   refine⟨.inl ⟨rfl,_,SqL.of hF2⟩,SqT.of e0,A8 (j:=4) rfl,SqT.of e0,A8 (j:=5) rfl,SqT.of e0,Kv,SqT.of e0,Za,λq hq=>?_⟩
   have uq:=Ag (o:=.tup [.int (Rr d).1,.int (Rr d).2.1,.str d.a,.int d.n]) hq
   have hFq:=uq _ _ hF2
   have tp: ∀b xs,(upd H2 q (.tup [.int (Rr d).1,.int (Rr d).2.1,.str d.a,.int d.n])) b=some (.tup xs)->(upd (upd H2 q (.tup [.int (Rr d).1,.int (Rr d).2.1,.str d.a,.int d.n])) F (.lst (zs.map (λz=>V.ref z.2)++[.ref q]))) b=some (.tup xs):=λb xs e=>by rw[Aq (Ff e hFq (λz=>nomatch z))];exact e
   refine⟨F,_,_,rfl,rfl,hFq,(by rw[Ac0,Aeh];lia),λb o e=>?_,?_,λr hr=>((ht2 r hr).up uq).upT tp,zs++[(Rr d,q)],_,_,by rw[Adx];exact Ad,λz hzz=>?_,?_,by rw[Ade];show _+1<=_;lia,rfl⟩
   ·
    rw[Aq (As e hF)]
    exact uq _ _ (s2 _ _ e)
   ·
    rw[Aq nFD.symm]
    exact uq _ _ hD2
   ·
    rcases Adq.mp hzz with hzz|hzz
    · exact tp _ _ (uq _ _ (hzq z hzz))
    ·
     rw[Ac9] at hzz
     subst hzz
     exact tp _ _ Ad
   ·
    rw[Adx,etk,Afq,Adx,hze,Ahd,if_pos hb]
    rfl
  rintro σ H2 ⟨s2,hD2,ht2,zs,y3,y4,hF2,hzq,hze,hzl,rfl⟩
  rw[Ac0] at hzl hze
  rw[Afd] at hze
  have SS:=s2
  refine⟨F,zs.map (λz=>(qn z.1,z.2)),rfl,by rw[Adc];exact hF2,λx hx=>?_,by rw[Ac0];lia,.inr λx hx=>?_,λx hx y hy=>?_,λD4 qs hD4 hpm hso=>?_⟩
  ·
   obtain⟨z,hz,rfl⟩:=Ac2.mp hx
   exact ya (hzq z hz)
  ·
   obtain⟨z,hz,rfl⟩:=Ac2.mp hx
   exact⟨_,_,rfl⟩
  ·
   obtain⟨z,hz,rfl⟩:=Ac2.mp hx
   obtain⟨u,hu,rfl⟩:=Ac2.mp hy
   exact vi _ _
  obtain⟨zs',pz,rfl,hho⟩:=holds_of hto hze hpm hso
  have hzl':=pz.length_eq
  have u4:=Ag (o:=.lst (zs'.map λz=>V.ref z.2)) hD4
  have eL:((zs'.map λz=>(qn z.1,z.2)).map λx=>V.ref x.2)=zs'.map λz=>V.ref z.2:=by rw[Adc];rfl
  rw[eL]
  exact k D4 zs' _ (SS.trans u4) (Sk SS hD4) Ad (λz hz=>u4 _ _ (hzq z (pz.mem_iff.mp hz))) hho (by lia)
theorem Vf:Ay ["value","asker","least"] ["value","asker","least"] (Af Iy):=⟨rfl,rfl,rfl,by decide+kernel,rfl,by decide+kernel,by decide+kernel⟩
theorem M9 (T:Txt K mg a):FnOk P w K mg base CX0 true 4 a.Jf a.Hz ["value","asker","least"] (Vp):=by
 refine T.Lp.ok Vf (λvs H Q E h=>?_) (λcdv A outer s H vs Q E hr h=>?_)
 · obtain⟨v,w,a0,m,rfl,_⟩:=h;rfl
 ·
  obtain⟨v,w,a0,m,rfl,hw,k⟩:=h
  refine⟨_,(Ae (B3 (PW.pt (Ph (Ef (Cu (Ak (Bk (K:=K) rfl) rfl T.Ba (by decide+kernel) (Aa (qv 0) (Aa (Cr (v:=.ty "tuple") rfl T.Cd (by decide+kernel) rfl) Ac))))) (Ph (Au Zf (Ak (An (K:=K) rfl) rfl T.Cy (by decide+kernel) (Aa (qv 0) Ac)) (qv 2) (Ap _)) (Ka (Au Yv (Ak (An (K:=K) rfl) rfl T.Cy (by decide+kernel) (Aa (qv 0) Ac)) (Xu rfl T.Fb) (Ap _)))))) (Ah (Ao Gm)) Av)
   (Ae (B3 (Ef (Cu (Ak (Ge (K:=K) rfl rfl) rfl T.Oj (by decide+kernel) (Aa (Bt (N:=["hand"]) (cap:=[none]) (by show Ar (Af Iy) _ ["value","asker","least"] _ _;exact⟨rfl,by decide+kernel,by decide+kernel,by decide+kernel,by decide+kernel,rfl,by decide+kernel⟩) rfl (Jk (K:=K) rfl (qv 0)) (λC s H fp=>⟨(Bc (i:=0) (by show(["hand"]:List Str).Nodup;decide+kernel) rfl (Or.inl rfl) (.inr rfl)),Cc,(Ai ((J5 T).mono (by decide)) hr rfl T.Ld T.Il.kp T.Lr .nil Aw (Aa (qv 0) Ac))⟩)) Ac)))) (Ah (Ao Gm)) Av)
   (Ah (Ao (Gp (Ai ((Uo T).mono (by decide)) hr rfl T.Wm T.Pu.kp T.Wk .nil Aw (Aa (qv 0) Ac)) (Dv (Bv (Iq (K:=K) rfl) (qv 1) (qv 0) (by with_unfolding_all rfl)))))))),?_⟩
  cases w with
  | n=>cases hw;exact⟨_,_,_,_,rfl,Ed.non,rfl,⟨λ_=>Lj (k H (Same.refl _)),λz=>absurd rfl z⟩⟩
  | b x=>cases hw;exact⟨_,_,_,_,rfl,Ed.bl _,rfl,⟨λ_=>Lj (k H (Same.refl _)),λz=>absurd rfl z⟩⟩
  | i z=>cases hw;exact⟨_,_,_,_,rfl,Ed.int _,rfl,⟨λ_=>Lj (k H (Same.refl _)),λz=>absurd rfl z⟩⟩
  | s t=>obtain⟨rfl,ht⟩:=hw;exact⟨_,_,_,_,rfl,Ed.str _,rfl,⟨λ_=>Lj (k H (Same.refl _)),λz=>absurd rfl z⟩⟩
  |
   ti z=>
   obtain⟨r,rfl,hr0⟩:=hw
   refine⟨_,_,_,_,rfl,Ed.tup hr0,rfl,⟨λz=>absurd z (by decide),λ_=>?_⟩⟩
   refine⟨r,_,rfl,.inr (SqT.of hr0),⟨λ_=>Lj (k H (Same.refl _)),λ_=>?_⟩⟩
   refine⟨r,_,rfl,.inr (SqT.of hr0),⟨λ_=>(k H (Same.refl _)),λ_=>?_⟩⟩
   refine⟨r,rfl,⟨_,SqT.of hr0⟩,?_⟩
   refine Bj (Ie (SqT.of hr0)) (λ_=>true) nmF (by show 1<=100000;decide) (λx _ H' _ R hR=>hR H' (Same.refl _)) ?_ (λD H1 s1 hD0 hD=>?_)
   ·
    intro x hx _ H' sm R hR
    rw[Ac9] at hx
    subst hx
    exact⟨_,.i z,rfl,rfl,λH2 s2=>hR H2 s2⟩
   refine⟨D,[false],rfl,SqL.of hD,⟨λ_=>k H1 s1,λz=>absurd rfl z⟩⟩
  |
   ts l=>
   obtain⟨r,rfl,hr0,hl0,hl1⟩:=hw
   refine⟨_,_,_,_,rfl,Ed.tup hr0,rfl,⟨λz=>absurd z (by decide),λ_=>?_⟩⟩
   refine⟨r,_,rfl,.inr (SqT.of hr0),?_⟩
   conv=>whnf
   rw[Ac0]
   have fin: ∀b,b=Cb NM (.ts l) a0 m-> ∀H',Same H H'->Q (.bl b) H':=λb e=>by rw[e];exact k
   refine⟨λz=>Lj ?_,λz=>?_⟩
   ·
    have z':(l.length:Int)<(m:Int):=Adk z
    exact fin _ (fe (by lia)) H (Same.refl _)
   have z1: ¬(l.length:Int)<(m:Int):=λw=>z (Ac3 w)
   refine⟨r,_,rfl,.inr (SqT.of hr0),?_⟩
   conv=>whnf
   rw[Ac0]
   refine⟨λz=>?_,λz=>?_⟩
   ·
    have z':(20:Int)<(l.length:Int):=Adk z
    exact fin _ (Zd (by lia)) H (Same.refl _)
   have z2: ¬(20:Int)<(l.length:Int):=λw=>z (Ac3 w)
   refine⟨r,rfl,⟨_,SqT.of hr0⟩,?_⟩
   refine Bj (Ie (SqT.of hr0)) (λ_=>true) nmF (by rw[Ac0];lia) (λx _ H' _ R hR=>hR H' (Same.refl _)) ?_ (λD H1 s1 hD0 hD=>?_)
   ·
    intro x hx _ H' sm R hR
    obtain⟨t,ht,rfl⟩:=Ac2.mp hx
    exact⟨_,.s t,rfl,⟨rfl,hl1 t ht⟩,λH2 s2=>hR H2 s2⟩
   have hD':H1 D=some (.lst ((l.map NM).map V.bl)):=by rw[hD,Aec.mpr (λ_ _=>rfl),Adc,Adc];rfl
   refine⟨D,_,rfl,SqL.of hD',?_⟩
   conv=>whnf
   rw[Aii]
   by_cases hn:l.all NM=true
   case neg=>exact⟨λ_=>fin _ (j6 (Ad8.mpr hn)) H1 s1,λz=>absurd (by rw[show l.all (id∘NM)=false from Ad8.mpr hn];rfl) z⟩
   rw[show l.all (id∘NM)=true from hn]
   refine Gk ?_
   refine⟨r,l,rfl,s1 _ _ hr0,hl0,λH2 s2=>?_⟩
   conv=>whnf
   cases hr1:Hf l with
   | false=>exact Gk (fin false (Y7 hr1) H2 (s1.trans s2))
   | true=>
   refine Lj ?_
   refine⟨r,_,rfl,.inr (SqT.of (s2 _ _ (s1 _ _ hr0))),rfl,Dk l,?_⟩
   conv=>whnf
   rw[Gv]
   exact fin _ (je (by lia) (by lia) hn hr1).symm H2 (s1.trans s2)
theorem V4:Ay ["letter"] ["letter"] (Af Lc):=⟨rfl,rfl,rfl,by decide+kernel,rfl,by decide+kernel,by decide+kernel⟩
theorem Vw (T:Txt K mg a):FnOk P w K mg base CX0 true 4 a.Iu a.Hx ["letter"] (yy (i3 NM)):=by
 refine T.O3.ok V4 (λvs H Q E h=>?_) (λcdv A outer s H vs Q E hr h=>?_)
 · obtain⟨p,ps,a0,rfl,_⟩:=h;rfl
 ·
  obtain⟨p,ps,a0,rfl,hp,h4,h1,k⟩:=h
  refine⟨_,(Ae (B3 (PW.pt (Ph (Au gf (Ak (An (K:=K) rfl) rfl T.Cy (by decide+kernel) (Aa (qv 0) Ac)) Ab (Ap _)) (Ka (Ef (Cu (Ai ((F4 T).mono (by decide)) hr rfl T.Ht T.Gd.kp T.Hw .nil Aw (Aa (Al (Am (K:=K) rfl) (qv 0) Ab (λ_ _=>rfl)) (Aa Ab Ac)))))))) (Ah (Ao Gm)) Av)
   (Ae (B3 (PW.pt (Ph (Ef (Cu (Ai ((J5 T).mono (by decide)) hr rfl T.Ld T.Il.kp T.Lr .nil Aw (Aa (Al (Am (K:=K) rfl) (qv 0) Ab (λ_ _=>rfl)) Ac)))) (Ph (Au Ec (Al (Am (K:=K) rfl) (qv 0) Ab (λ_ _=>rfl)) (Al (Am (K:=K) rfl) (qv 0) Ab (λ_ _=>rfl)) (Ap _)) (Ka (Ef (Cu (Ai ((F4 T).mono (by decide)) hr rfl T.Ht T.Gd.kp T.Hw .nil Aw (Aa (Al (Am (K:=K) rfl) (qv 0) Ab (λ_ _=>rfl)) (Aa Ab Ac))))))))) (Ah (Ao Gm)) Av)
   (Ah (Ao (k3 (Bv (Kz (Fs hr)) (Al (Am (K:=K) rfl) (qv 0) Ab (λ_ _=>rfl)) Bo (Ap _)) (Dv (Bv (Kz (Fs hr)) (Al (Am (K:=K) rfl) (qv 0) Ab (λ_ _=>rfl)) Bo (Ap _)))))))),?_⟩
  have fin: ∀b,b=i3 NM (ws ps)-> ∀H',Same H H'->Q (.bl b) H':=λb e=>by rw[e];exact k
  have wl:=Uw ps
  obtain⟨v1,A1,w1⟩:=hp.get (j:=1) (by lia)
  obtain⟨v3,A3,w3⟩:=hp.get (j:=3) (by lia)
  rw[h1] at w1
  obtain⟨rfl,_⟩:=w1
  refine⟨p,_,rfl,.inr (SqT.of hp.at_),?_⟩
  conv=>whnf
  rw[i4,U9]
  by_cases hl:ps.length=7
  case neg=>exact⟨λ_=>Lj (fin _ (by unfold i3;rw[Ac7 (by lia),Adp]) H (Same.refl _)),λz=>absurd (by rw[Ac7 (by lia)];rfl) z⟩
  rw[Ac3 (by lia)]
  refine Gk ?_
  obtain⟨v4,A4,w4⟩:=hp.get (j:=4) (by lia)
  obtain⟨v5,A5,w5⟩:=hp.get (j:=5) (by lia)
  obtain⟨v6,A6,w6⟩:=hp.get (j:=6) (by lia)
  have e1:i3 NM (ws ps)=(Jm (at_ (ws ps) 3) 1&&(Qh NM (at_ (ws ps) 4)&&(!eqS (at_ (ws ps) 4) a0&&(Jm (at_ (ws ps) 5) 0&&(eqS (at_ (ws ps) 6) "yes"||eqS (at_ (ws ps) 6) "no"))))):=by unfold i3;rw[Ac3 (by lia),Aex,dt h1]
  refine⟨SqT.of hp.at_,A3,v3,_,1,rfl,w3,?_⟩
  conv=>whnf
  cases hf:Jm (at_ (ws ps) 3) 1 with
  | false=>exact⟨λ_=>fin _ (by rw[e1,hf,Adp]) H (Same.refl _),λz=>absurd rfl z⟩
  | true=>
  refine Gk ?_
  refine⟨SqT.of hp.at_,A4,v4,_,rfl,w4,λH1 s1=>?_⟩
  conv=>whnf
  replace hp:=hp.up s1
  replace w6:=w6.up s1
  replace w5:=w5.up s1
  cases hc:Qh NM (at_ (ws ps) 4) with
  | false=>exact⟨λ_=>Lj (fin _ (by rw[e1,hf,hc,Adp,Aeu]) H1 s1),λz=>absurd rfl z⟩
  | true=>
  refine Gk ?_
  obtain⟨t,et,_⟩:=mi hc
  rw[et] at w4
  obtain⟨rfl,_⟩:=w4
  have e2:i3 NM (ws ps)=(!decide (t=a0)&&(Jm (at_ (ws ps) 5) 0&&(eqS (at_ (ws ps) 6) "yes"||eqS (at_ (ws ps) 6) "no"))):=by rw[e1,hf,hc,et];rfl
  refine⟨SqT.of hp.at_,A4,SqT.of hp.at_,A1,?_⟩
  conv=>whnf
  rw[show decide (V.str t=V.str a0)=decide (t=a0) from Aej.mpr (by rw[V.str.injEq])]
  by_cases ha:t=a0
  case pos=>rw[Ac3 ha];exact Lj (Lj (fin _ (by rw[e2,Ac3 ha];rfl) H1 s1))
  rw[Ac7 ha]
  refine Gk ?_
  refine⟨SqT.of hp.at_,A5,v5,_,0,rfl,w5,?_⟩
  conv=>whnf
  cases h5:Jm (at_ (ws ps) 5) 0 with
  | false=>exact⟨λ_=>fin _ (by rw[e2,h5,Ac7 ha];rfl) H1 s1,λz=>absurd rfl z⟩
  | true=>
  refine Gk ?_
  have e3:i3 NM (ws ps)=(eqS (at_ (ws ps) 6) "yes"||eqS (at_ (ws ps) 6) "no"):=by rw[e2,h5,Ac7 ha];rfl
  refine⟨SqT.of hp.at_,A6,Qy w6 ?_⟩
  conv=>whnf
  cases h6:eqS (at_ (ws ps) 6) "yes" with
  | true=>exact Lj (fin _ (by rw[e3,h6,Aij]) H1 s1)
  | false=>exact Gk ⟨SqT.of hp.at_,A6,Qy w6 (fin _ (by rw[e3,h6,Agx]) H1 s1)⟩
theorem Q2:Ay ["letters","latest"] ["letters"] (Af O1):=⟨rfl,rfl,rfl,by decide+kernel,rfl,by decide+kernel,by decide+kernel⟩
theorem Zq (T:Txt K mg a):FnOk P w K mg base CX0 true 4 a.Mj a.Md ["letters"] (Zc):=by
 refine T.U8.ok Q2 (λvs H Q E h=>?_) (λcdv A outer s H vs Q E hr h=>?_)
 · obtain⟨L,ms,rfl,_⟩:=h;rfl
 ·
  obtain⟨L,ms,rfl,hL,hz,hG,k⟩:=h
  refine⟨_,(Ae (Ax (i:=1) Q2.nd rfl (Or.inl rfl) (Ai ((Tj T).mono (by decide)) hr rfl T.Wy T.O9.kp T.Xc .nil Aw (Aa (qv 0) Ac)))
   (Ae (B3 (Au xy (qv 1) Gu (Ap _)) (Ah (Ao Gu)) Av)
   (Ae (B3 (Au Ec (Al (Am (K:=K) rfl) (qv 1) Ab (λ_ _=>rfl)) Bo (Ap _)) (Ah (Ao (Ai ((P9 T).mono (by decide)) hr rfl T.Rw T.L3.kp T.Sq .nil Aw (Aa (qv 0) (Aa (qv 1) Ac))))) Av)
   (Ah (Ao (Bu (Aa (Al (Am (K:=K) rfl) (qv 1) Ab (λ_ _=>rfl)) (Aa (Al (Am (K:=K) rfl) (qv 1) Ab (λ_ _=>rfl)) (Aa (Al (Am (K:=K) rfl) (qv 1) Ab (λ_ _=>rfl)) (Aa Bo (Aa Gu (Aa Gu (Aa (Bu Ac) (Aa (Bu Ac) (Aa (Bu Ac) (Aa (Bu Ac) (Aa (Bu Ac) Ac))))))))))))))))),?_⟩
  refine⟨L,ms,rfl,hL,λv H1 s1 hv=>?_⟩
  rcases hv with⟨rfl,hno⟩|⟨⟨lt,p⟩,hx,rfl,hlast⟩
  · exact⟨λ_=>k _ H1 s1 (.inl ⟨rfl,hno⟩),λz=>absurd rfl z⟩
  refine⟨λz=>absurd z (by simp),λ_=>?_⟩
  have hl1:=(hL.ok _ hx).up s1
  obtain⟨ys,hp,hv⟩:=id hl1
  obtain⟨r,er⟩:=hv.four
  subst er
  refine⟨SqT.of hp,Kv,?_⟩
  refine⟨λz=>?_,λzk=>?_⟩
  ·
   have hk:lt.kind="bid":=V.str.inj (Adk z)
   cases lt with
   | off=>exact absurd (show Str.ofString "off"=Str.ofString "bid" from hk) (by decide)
   | close=>exact absurd (show Str.ofString "close"=Str.ofString "bid" from hk) (by decide)
   | ans=>exact absurd (show Str.ofString "answer"=Str.ofString "bid" from hk) (by decide)
   | bid a0 n t b e hs=>
   exact⟨L,p,ms,a0,n,t,b,e,hs,rfl,hL.up s1,hz,hG,hl1,(hz _ hx).2.1,λr d H2 s2 h2 h3=>k _ H2 (s1.trans s2) (.inr ⟨r,d,rfl,h2,_,hlast,h3⟩)⟩
  have z0:(0:Nat)<=sizeLine:=Adw _
  obtain⟨a0,n,t,rfl⟩: ∃a0 n t,lt=.off a0 n t:=by
   have hb:=hlast.2.1
   cases lt with
   | off a0 n t=>exact⟨a0,n,t,rfl⟩
   | bid=>exact absurd (Ac3 rfl) zk
   | close=>cases hb
   | ans=>cases hb
  refine⟨SqT.of hp,Za,SqT.of hp,wc,SqT.of hp,bj,λe1 h1=>λe2 h2=>λe3 h3=>λe4 h4=>λe5 h5=>λq hq=>?_⟩
  have u1:=Ag (o:=.tup []) h1
  have u2:=Ag (o:=.tup []) h2
  have u3:=Ag (o:=.tup []) h3
  have u4:=Ag (o:=.tup []) h4
  have u5:=Ag (o:=.tup []) h5
  have u6:=Ag (o:=.tup [.str a0,.int n,.int t,.str "off",.non,.non,.ref e1,.ref e2,.ref e3,.ref e4,.ref e5]) hq
  exact k _ _ (((((s1.trans u1).trans u2).trans u3).trans u4).trans (u5.trans u6)) (.inr ⟨q,⟨a0,n,t,"off",none,[],[],[],[],[]⟩,rfl,⟨⟨e1,e2,e3,e4,e5,Ad,u6 _ _ (u5 _ _ (u4 _ _ (u3 _ _ (u2 _ _ Ad)))),u6 _ _ (u5 _ _ (u4 _ _ (u3 _ _ Ad))),u6 _ _ (u5 _ _ (u4 _ _ Ad)),u6 _ _ (u5 _ _ Ad),u6 _ _ Ad⟩,Adw _,Adw _,Adw _,Adw _,Adw _⟩,_,hlast,rfl⟩)
theorem B0:Ay ["_law_cell","_law_seed","_law_names","_law_asker","_law_number","_law_turn","_law_way"] ["_law_cell","_law_seed","_law_names"] (Af F7):=⟨rfl,rfl,rfl,by decide+kernel,rfl,by decide+kernel,by decide+kernel⟩
theorem Nh (T:Txt K mg a):FnOk P w K mg base CX0 true 4 a.Dr a.Di ["_law_cell","_law_seed","_law_names"] (Ni):=by
 refine T.Kc.ok B0 (λvs H Q E h=>?_) (λcdv A outer s H vs Q E hr h=>?_)
 · obtain⟨L,ns,c,s,rfl,_⟩:=h;rfl
 ·
  obtain⟨L,ns,c,sd,rfl,hL,hN,k⟩:=h
  refine⟨_,(Ae (Ax (i:=3) B0.nd rfl (Or.inl rfl) (Al (Bq (K:=K) rfl) (qv 2) (Ai ((A9 T).mono (by decide)) hr rfl T.Bg T.Be.kp T.Bh .nil Aw (Aa (qv 0) (Aa Ab (Aa (Ak (qt rfl) rfl T.az (by decide+kernel) (Aa Ab (Aa (Ak (An (K:=K) rfl) rfl T.Cy (by decide+kernel) (Aa (qv 2) Ac)) Ac))) Ac)))) (λ_ _=>rfl)))
   (Ae (Ax (i:=4) B0.nd rfl (Or.inl rfl) (Al (Bq (K:=K) rfl) (Jv (Aa Ab (Aa Ab (Aa Ab (Aa Ab (Aa (Bb Yd Ab Ab) Ac)))))) (Ai ((A9 T).mono (by decide)) hr rfl T.Bg T.Be.kp T.Bh .nil Aw (Aa (qv 0) (Aa Ab (Aa Ab Ac)))) (λ_ _=>rfl)))
   (Ae (Ax (i:=5) B0.nd rfl (Or.inl rfl) (Bb Ck Ab (Ai ((A9 T).mono (by decide)) hr rfl T.Bg T.Be.kp T.Bh .nil Aw (Aa (qv 0) (Aa Ab (Aa (Al (Bq (K:=K) rfl) (Jv (Ic [.int 1,.int 2,.int 3] (by decide+kernel))) (Ai ((A9 T).mono (by decide)) hr rfl T.Bg T.Be.kp T.Bh .nil Aw (Aa (qv 0) (Aa Ab (Aa Ab Ac)))) (λ_ _=>rfl)) Ac))))))
   (Fj (B3 (Au Ec (Ai ((A9 T).mono (by decide)) hr rfl T.Bg T.Be.kp T.Bh .nil Aw (Aa (qv 0) (Aa Ab (Aa Ab Ac)))) Ab (Ap _)) (Ah (Ax (i:=5) B0.nd rfl (Or.inl rfl) (Bb Ck (Bb Yd Ab Ab) (qv 5)))) Av)
   (Ae (Ax (i:=6) B0.nd rfl (Or.inl rfl) (Ai ((A9 T).mono (by decide)) hr rfl T.Bg T.Be.kp T.Bh .nil Aw (Aa (qv 0) (Aa Ab (Aa Ab Ac)))))
   (Ae (B3 (Au Zf (qv 6) Ab (Ap _)) (Ah (Ao (Ai ((Tc T).mono (by decide)) hr rfl T.V2 T.M4.kp T.T7 .nil Aw (Aa (qv 1) (Aa (qv 2) (Aa (qv 3) (Aa (qv 4) (Aa (qv 5) Ac)))))))) Av)
   (Ae (B3 (Au Ec (qv 6) Ab (Ap _)) (Ah (Ao (Ai ((O5 T).mono (by decide)) hr rfl T.Qa T.Kx.kp T.Qe .nil Aw (Aa (qv 1) (Aa (qv 2) (Aa (qv 3) (Aa (qv 4) (Aa (qv 5) Ac)))))))) Av)
   (Ah (Ao (Ai ((Np T).mono (by decide)) hr rfl T.Ox T.J3.kp T.O6 .nil Aw (Aa (qv 1) (Aa (qv 2) (Aa (qv 3) (Aa (qv 4) (Aa (qv 5) (Aa (qv 0) Ac)))))))))))))))),?_⟩
  have hlo:=hN.lo
  refine⟨L,_,rfl,.inl (SqL.of hL),_,_,_,rfl,by decide,by decide,(by rw[Ac0];split<;>lia),λv v0 v1 _=>?_⟩
  rw[Ac0] at v1
  obtain⟨a0,ha,ea⟩:=Ny (ts:=ns) (i:=v) v0 (by split at v1<;>lia)
  refine⟨SqL.of hL,ea,?_⟩
  refine⟨_,_,rfl,rfl,⟨by decide,by decide,by decide⟩,λl hl=>⟨_,_,_,rfl,by decide,by decide,by decide,λv2 x0 x1 _=>?_⟩⟩
  obtain⟨n,n0,n1,en⟩:=Se (ts:=[0,0,1,2,10 ^ (9:Int).toNat]) (i:=v2) 0 (10 ^ 9) x0 x1 (by decide)
  refine⟨SqL.of Ad,en,?_⟩
  conv=>whnf
  have s1:=Ag (o:=.lst [.int 0,.int 0,.int 1,.int 2,.int (10 ^ (9:Int).toNat)]) hl
  replace hL:=s1 _ _ hL
  generalize upd H l (.lst [.int 0,.int 0,.int 1,.int 2,.int (10 ^ (9:Int).toNat)])=H1 at*
  refine λl2 hl2=>⟨_,_,_,rfl,by decide,by decide,by decide,λv3 y0 y1 _=>?_⟩
  obtain⟨wd,w0,w1,we⟩:=Se (ts:=[1,2,3]) (i:=v3) 1 3 y0 y1 (by decide)
  refine⟨SqL.of Ad,we,_,_,_,rfl,by decide,by decide,by lia,λv4 z0 z1 _=>?_⟩
  conv=>whnf
  have s2:=s1.trans (Ag (o:=.lst [.int 1,.int 2,.int 3]) hl2)
  replace hL:=Ag (o:=.lst [.int 1,.int 2,.int 3]) hl2 _ _ hL
  generalize upd H1 l2 (.lst [.int 1,.int 2,.int 3])=H2 at*
  refine⟨λσ H'=>H'=H2/\ ∃t:Int,1<=t/\t<=10 ^ 10/\σ=[some (.int c),some (.int sd),some (.ref L),some (.str a0),some (.int n),some (.int t),none],?_,?_⟩
  ·
   refine⟨_,_,_,rfl,by decide,by decide,by decide,λu _ _ _=>⟨λ_=>?_,λ_=>⟨rfl,_,by lia,by lia,rfl⟩⟩⟩
   refine⟨_,_,rfl,rfl,⟨by decide,by decide,by decide⟩,rfl,_,?_,?_,rfl⟩
   ·
    have:(10:Int) ^ (9:Int).toNat=1000000000:=by decide
    rw[this]
    lia
   ·
    have:(10:Int) ^ (9:Int).toNat=1000000000:=by decide
    rw[this]
    lia
  rintro _ H3 ⟨e3,t,t0,t1,rfl⟩
  obtain rfl:=e3.symm
  refine⟨_,_,_,rfl,by decide,by decide,by decide,λwy _ _ _=>?_⟩
  have go: ∀(p:Addr)(l:Lt)H',Same H2 H'->LtAt H' l p->Th l->Det sd ns l->l.mk=(a0,n)->Q (.ref p) H':=λp l H' s' h h' h'' _=>k p l H' (s2.trans s') h h' h''
  refine⟨λ_=>⟨L,ns,a0,sd,n,t,[],rfl,rfl,hL,hN,ha,n0,n1,t0,t1,go⟩,λ_=>?_⟩
  refine⟨λ_=>⟨L,ns,a0,sd,n,t,[],rfl,rfl,hL,hN,ha,n0,n1,t0,t1,go⟩,λ_=>?_⟩
  exact⟨L,ns,a0,sd,n,t,[.int c],rfl,⟨c,rfl⟩,hL,hN,ha,n0,n1,t0,t1,go⟩
theorem cn:Ay ["letter"] ["letter"] (Af Sl):=⟨rfl,rfl,rfl,by decide+kernel,rfl,by decide+kernel,by decide+kernel⟩
theorem au (T:Txt K mg a):FnOk P w K mg base CX0 true 5 a.N5 a.N1 ["letter"] (yy (jo NM)):=by
 refine T.Xk.ok cn (λvs H Q E h=>?_) (λcdv A outer s H vs Q E hr h=>?_)
 · obtain⟨p,ps,a0,rfl,_⟩:=h;rfl
 ·
  obtain⟨p,ps,a0,rfl,hp,h4,h1,k⟩:=h
  refine⟨_,(Ae (B3 (PW.pt (Ph (Au gf (Ak (An (K:=K) rfl) rfl T.Cy (by decide+kernel) (Aa (qv 0) Ac)) Ab (Ap _)) (Ka (Ef (Cu (Ai ((F4 T).mono (by decide)) hr rfl T.Ht T.Gd.kp T.Hw .nil Aw (Aa (Al (Am (K:=K) rfl) (qv 0) Ab (λ_ _=>rfl)) (Aa Ab Ac)))))))) (Ah (Ao Gm)) Av)
   (Ae (B3 (PW.pt (Ph (Ef (Cu (Ai ((Kf T).mono (by decide)) hr rfl T.Ll T.Jn.kp T.Lb .nil Aw (Aa (Al (Am (K:=K) rfl) (qv 0) Ab (λ_ _=>rfl)) Ac)))) (Ka (Ef (Cu (Ai ((Kf T).mono (by decide)) hr rfl T.Ll T.Jn.kp T.Lb .nil Aw (Aa (Al (Am (K:=K) rfl) (qv 0) Ab (λ_ _=>rfl)) Ac))))))) (Ah (Ao Gm)) Av)
   (Ah (Ao (Gp (Ai ((Zn T).mono (by decide)) hr rfl T.av T.U1.kp T.e9 .nil Aw (Aa (Al (Am (K:=K) rfl) (qv 0) Ab (λ_ _=>rfl)) (Aa (Al (Am (K:=K) rfl) (qv 0) Ab (λ_ _=>rfl)) Ac))) (Dv (Ai ((M9 T).mono (by decide)) hr rfl T.Pf T.Lp.kp T.P2 .nil Aw (Aa (Al (Am (K:=K) rfl) (qv 0) Ab (λ_ _=>rfl)) (Aa (Al (Am (K:=K) rfl) (qv 0) Ab (λ_ _=>rfl)) (Aa Ab Ac)))))))))),?_⟩
  have fin: ∀b,b=jo NM (ws ps)-> ∀H',Same H H'->Q (.bl b) H':=λb e=>by rw[e];exact k
  have wl:=Uw ps
  obtain⟨v1,A1,w1⟩:=hp.get (j:=1) (by lia)
  obtain⟨v3,A3,w3⟩:=hp.get (j:=3) (by lia)
  rw[h1] at w1
  obtain⟨rfl,_⟩:=w1
  refine⟨p,_,rfl,.inr (SqT.of hp.at_),?_⟩
  conv=>whnf
  rw[i4,U9]
  by_cases hl:ps.length=7
  case neg=>exact⟨λ_=>Lj (fin _ (by unfold jo;rw[Ac7 (by lia),Adp]) H (Same.refl _)),λz=>absurd (by rw[Ac7 (by lia)];rfl) z⟩
  rw[Ac3 (by lia)]
  refine Gk ?_
  obtain⟨v4,A4,w4⟩:=hp.get (j:=4) (by lia)
  obtain⟨v5,A5,w5⟩:=hp.get (j:=5) (by lia)
  obtain⟨v6,A6,w6⟩:=hp.get (j:=6) (by lia)
  have e1:jo NM (ws ps)=(Jm (at_ (ws ps) 3) 1&&(kz (at_ (ws ps) 4)&&(kz (at_ (ws ps) 5)&&(vm (at_ (ws ps) 4) (at_ (ws ps) 5)&&Cb NM (at_ (ws ps) 6) a0 1)))):=by unfold jo;rw[Ac3 (by lia),Aex,dt h1]
  refine⟨SqT.of hp.at_,A3,v3,_,1,rfl,w3,?_⟩
  conv=>whnf
  cases hf:Jm (at_ (ws ps) 3) 1 with
  | false=>exact⟨λ_=>fin _ (by rw[e1,hf,Adp]) H (Same.refl _),λz=>absurd rfl z⟩
  | true=>
  refine Gk ?_
  refine⟨SqT.of hp.at_,A4,v4,_,rfl,w4,?_⟩
  conv=>whnf
  cases h4n:kz (at_ (ws ps) 4) with
  | false=>exact⟨λ_=>Lj (fin _ (by rw[e1,hf,h4n,Adp,Aeu]) H (Same.refl _)),λz=>absurd rfl z⟩
  | true=>
  refine Gk ?_
  refine⟨SqT.of hp.at_,A5,v5,_,rfl,w5,?_⟩
  conv=>whnf
  cases h5n:kz (at_ (ws ps) 5) with
  | false=>exact⟨λ_=>fin _ (by rw[e1,hf,h4n,h5n,Adp,Aeu,Aeu]) H (Same.refl _),λz=>absurd rfl z⟩
  | true=>
  refine Gk ?_
  obtain⟨b,eb⟩:=wt h4n
  obtain⟨e,ee⟩:=wt h5n
  rw[eb] at w4
  rw[ee] at w5
  cases w4
  cases w5
  have e2:jo NM (ws ps)=(decide (b<e)&&Cb NM (at_ (ws ps) 6) a0 1):=by rw[e1,hf,h4n,h5n,eb,ee];rfl
  refine⟨SqT.of hp.at_,A4,SqT.of hp.at_,A5,b,e,rfl,?_⟩
  conv=>whnf
  by_cases hbe:b<e
  ·
   rw[Ac3 hbe]
   exact Lj ⟨SqT.of hp.at_,A6,SqT.of hp.at_,A1,v6,_,a0,1,rfl,w6,fin _ (by rw[e2,Ac3 hbe,Aex])⟩
  ·
   rw[Ac7 hbe]
   exact Gk (fin _ (by rw[e2,Ac7 hbe,Adp]) H (Same.refl _))
theorem V7:Ay ["letter"] ["letter"] (Af Mz):=⟨rfl,rfl,rfl,by decide+kernel,rfl,by decide+kernel,by decide+kernel⟩
theorem V8 (T:Txt K mg a):FnOk P w K mg base CX0 true 5 a.Kl a.Kq ["letter"] (yy (Nb NM)):=by
 refine T.Q9.ok V7 (λvs H Q E h=>?_) (λcdv A outer s H vs Q E hr h=>?_)
 · obtain⟨p,ps,a0,rfl,_⟩:=h;rfl
 ·
  obtain⟨p,ps,a0,rfl,hp,h4,h1,k⟩:=h
  refine⟨_,(Ah (Ao (Gp (Bv Ec (Ak (An (K:=K) rfl) rfl T.Cy (by decide+kernel) (Aa (qv 0) Ac)) Ab (Ap _)) (Gp (Ai ((F4 T).mono (by decide)) hr rfl T.Ht T.Gd.kp T.Hw .nil Aw (Aa (Al (Am (K:=K) rfl) (qv 0) Ab (λ_ _=>rfl)) (Aa Ab Ac))) (Dv (Ai ((M9 T).mono (by decide)) hr rfl T.Pf T.Lp.kp T.P2 .nil Aw (Aa (Al (Am (K:=K) rfl) (qv 0) Ab (λ_ _=>rfl)) (Aa (Al (Am (K:=K) rfl) (qv 0) Ab (λ_ _=>rfl)) (Aa Ab Ac))))))))),?_⟩
  have fin: ∀b,b=Nb NM (ws ps)-> ∀H',Same H H'->Q (.bl b) H':=λb e=>by rw[e];exact k
  have wl:=Uw ps
  obtain⟨v1,A1,w1⟩:=hp.get (j:=1) (by lia)
  obtain⟨v3,A3,w3⟩:=hp.get (j:=3) (by lia)
  rw[h1] at w1
  obtain⟨rfl,_⟩:=w1
  refine⟨p,_,rfl,.inr (SqT.of hp.at_),?_⟩
  conv=>whnf
  rw[i4,U9]
  by_cases h:ps.length=5
  case neg=>rw[Ac7 (by lia)];exact Gk (fin _ (by unfold Nb;rw[Ac7 (by lia),Adp]) H (Same.refl _))
  obtain⟨v4,A4,w4⟩:=hp.get (j:=4) (by lia)
  rw[Ac3 (by lia)]
  refine Lj ⟨SqT.of hp.at_,A3,v3,_,1,rfl,w3,?_⟩
  conv=>whnf
  have e1:Nb NM (ws ps)=(Jm (at_ (ws ps) 3) 1&&Cb NM (at_ (ws ps) 4) a0 0):=by unfold Nb;rw[Ac3 (by lia),Aex,dt h1]
  cases hf:Jm (at_ (ws ps) 3) 1 with
  | false=>exact Gk (fin _ (by rw[e1,hf,Adp]) H (Same.refl _))
  | true=>exact Lj ⟨SqT.of hp.at_,A4,SqT.of hp.at_,A1,v4,_,a0,0,rfl,w4,fin _ (by rw[e1,hf,Aex])⟩
theorem Vh:Ay ["letter"] ["letter"] (Af La):=⟨rfl,rfl,rfl,by decide+kernel,rfl,by decide+kernel,by decide+kernel⟩
theorem U5 (T:Txt K mg a):FnOk P w K mg base CX0 true 6 a.Ii a.Jo ["letter"] (Vi):=by
 refine T.Px.ok Vh (λvs H Q E h=>?_) (λcdv A outer s H vs Q E hr h=>?_)
 · obtain⟨p,ps,rfl,_⟩:=h;rfl
 ·
  obtain⟨p,ps,rfl,hp,k⟩:=h
  refine⟨_,(Ae (B3 (PW.pt (Ph (Ef (Cu (Ak (Bk (K:=K) rfl) rfl T.Ba (by decide+kernel) (Aa (qv 0) (Aa (Cr (v:=.ty "tuple") rfl T.Cd (by decide+kernel) rfl) Ac))))) (Ka (Au Zf (Ak (An (K:=K) rfl) rfl T.Cy (by decide+kernel) (Aa (qv 0) Ac)) Ab (Ap _))))) (Ah (Ao Gm)) Av)
   (Ae (B3 (PW.pt (Ph (Ef (Cu (Ai ((J5 T).mono (by decide)) hr rfl T.Ld T.Il.kp T.Lr .nil Aw (Aa (Al (Am (K:=K) rfl) (qv 0) Ab (λ_ _=>rfl)) Ac)))) (Ka (Ef (Cu (Ai ((F4 T).mono (by decide)) hr rfl T.Ht T.Gd.kp T.Hw .nil Aw (Aa (Al (Am (K:=K) rfl) (qv 0) Ab (λ_ _=>rfl)) (Aa Ab Ac)))))))) (Ah (Ao Gm)) Av)
   (Ae (B3 (Au (Kz (Fs hr)) (Al (Am (K:=K) rfl) (qv 0) Ab (λ_ _=>rfl)) Bo (Ap _)) (Ah (Ao (Ai ((au T).mono (by decide)) hr rfl T.j4 T.Xk.kp T.kc .nil Aw (Aa (qv 0) Ac)))) Av)
   (Ae (B3 (Au (Kz (Fs hr)) (Al (Am (K:=K) rfl) (qv 0) Ab (λ_ _=>rfl)) Bo (Ap _)) (Ah (Ao (Ai ((ef T).mono (by decide)) hr rfl T.kf T.Xg.kp T.ly .nil Aw (Aa (qv 0) Ac)))) Av)
   (Ae (B3 (Au (Kz (Fs hr)) (Al (Am (K:=K) rfl) (qv 0) Ab (λ_ _=>rfl)) Bo (Ap _)) (Ah (Ao (Ai ((V8 T).mono (by decide)) hr rfl T.Yt T.Q9.kp T.Ys .nil Aw (Aa (qv 0) Ac)))) Av)
   (Ah (Ao (Gp (Bv (Kz (Fs hr)) (Al (Am (K:=K) rfl) (qv 0) Ab (λ_ _=>rfl)) Bo (Ap _)) (Dv (Ai ((Vw T).mono (by decide)) hr rfl T.W5 T.O3.kp T.Xb .nil Aw (Aa (qv 0) Ac))))))))))),?_⟩
  have fin: ∀b,b=isL NM (ws ps)-> ∀H',Same H H'->Q (.bl b) H':=λb e=>by rw[e];exact k
  have wl:=Uw ps
  refine⟨_,_,_,_,rfl,Ed.tup hp.at_,rfl,⟨λz=>absurd z (by decide),λ_=>?_⟩⟩
  refine⟨p,_,rfl,.inr (SqT.of hp.at_),?_⟩
  conv=>whnf
  rw[U9]
  refine⟨λz=>?_,λz=>?_⟩
  ·
   have z':(ps.length:Int)<4:=Adk z
   exact fin _ (sy (by lia)).symm H (Same.refl _)
  have z': ¬(ps.length:Int)<4:=λw=>z (Ac3 w)
  obtain⟨v0,A0,w0⟩:=hp.get (j:=0) (by lia)
  obtain⟨v1,A1,w1⟩:=hp.get (j:=1) (by lia)
  obtain⟨v2,A2,w2⟩:=hp.get (j:=2) (by lia)
  refine⟨SqT.of hp.at_,A1,v1,_,rfl,w1,λH1 s1=>?_⟩
  conv=>whnf
  replace hp:=hp.up s1
  replace w2:=w2.up s1
  replace w0:=w0.up s1
  cases hc:Qh NM (at_ (ws ps) 1) with
  | false=>exact⟨λ_=>Lj (fin _ (jh hc).symm H1 s1),λz=>absurd rfl z⟩
  | true=>
  refine Gk ?_
  obtain⟨a0,h1,_⟩:=mi hc
  refine⟨SqT.of hp.at_,A2,v2,_,0,rfl,w2,?_⟩
  conv=>whnf
  cases h2:Jm (at_ (ws ps) 2) 0 with
  | false=>exact⟨λ_=>fin _ (rh h2).symm H1 s1,λz=>absurd rfl z⟩
  | true=>
  refine Gk ?_
  have e1:=xx (nm:=NM) (ws:=ws ps) (by lia) hc h2
  have go: ∀b,b=Mu NM (ws ps)-> ∀H',Same H1 H'->Q (.bl b) H':=λb e H' s'=>fin b (by rw[e1,e]) H' (s1.trans s')
  refine⟨SqT.of hp.at_,A0,Qy w0 ?_⟩
  refine⟨λz=>⟨p,ps,a0,rfl,hp,by lia,h1,go _ (ji z).symm⟩,λz1=>?_⟩
  refine⟨SqT.of hp.at_,A0,Qy w0 ?_⟩
  refine⟨λz=>⟨p,ps,a0,rfl,hp,by lia,h1,go _ (jc z).symm⟩,λz2=>?_⟩
  refine⟨SqT.of hp.at_,A0,Qy w0 ?_⟩
  refine⟨λz=>⟨p,ps,a0,rfl,hp,by lia,h1,go _ (Y4 z).symm⟩,λz3=>?_⟩
  refine⟨SqT.of hp.at_,A0,Qy w0 ?_⟩
  conv=>whnf
  cases z4:eqS (at_ (ws ps) 0) "answer" with
  | true=>exact Lj ⟨p,ps,a0,rfl,hp,by lia,h1,go _ (l9 z4).symm⟩
  | false=>exact Gk (go _ (bb (.inl (Ad8.mpr z1)) (Ad8.mpr z2) (.inl (Ad8.mpr z3)) (.inl z4)).symm H1 (Same.refl _))
theorem Jh:Ay ["self","letter","meeting","told"] ["self","letter"] (Af Kj):=⟨rfl,rfl,rfl,by decide+kernel,rfl,by decide+kernel,by decide+kernel⟩
theorem Ru (T:Txt K mg a):FnOk P w K mg base CX0 true 7 a.G7 a.G8 ["self","letter"] (Me P w a.Aj):=by
 refine T.Uv.ok Jh (λvs H Q E h=>?_) (λcdv A outer s H vs Q E hr h=>?_)
 · obtain⟨x,k0,m0,t0,p,ms,bs,ts,l,rfl,_⟩:=h;rfl
 ·
  obtain⟨x,k0,m0,t0,p,ms,bs,ts,l,rfl,hT,hTl,hG,hl,hok,hsz,hGl,h900,kF,kT⟩:=h
  refine⟨_,(Ae (B3 (Ef (Cu (Ai ((U5 T).mono (by decide)) hr rfl T.Wr T.Px.kp T.W3 .nil Aw (Aa (qv 1) Ac)))) (Ah ju) Av)
   (Ae (B3 (Au (gg (hu2 hr)) (qv 1) (Mi (K:=K) rfl (qv 0)) (by with_unfolding_all rfl)) (Ah (Ao Gm)) Av)
   (Fj (Z4 (hu2 hr) (Mi (K:=K) rfl (qv 0)) (qv 1) Gm rfl)
   (Ae (Ax (i:=2) Jh.nd rfl (Or.inl rfl) (Bu (Aa (Al (Am (K:=K) rfl) (qv 1) Ab (λ_ _=>rfl)) (Aa (Al (Am (K:=K) rfl) (qv 1) Ab (λ_ _=>rfl)) Ac))))
   (Fj (J0 (Qk Aep Aez Aey Dq (Qk Ah0 PySem.F.slot_dict_setdefault PySem.F.type_dict_setdefault (bt (Fs hr)) (Mi (K:=K) rfl (qv 0)) (Aa (qv 2) (Aa (Jv Ac) Ac))) (Aa (qv 1) Ac)))
   (Ae (Ax (i:=3) Jh.nd rfl (Or.inl rfl) (Ai ((Zq T).mono (by decide)) hr rfl T.f7 T.U8.kp T.d8 .nil Aw (Aa (Wa (Fs hr) (Mi (K:=K) rfl (qv 0)) (qv 2) (λ_ _=>rfl)) Ac)))
   (Ae (B3 (Au rq (qv 3) Gu (Ap _)) (Ah (Wu (Fs hr) (Mi (K:=K) rfl (qv 0)) (qv 2) (qv 3) rfl)) Av)
   (Ah (Ao Gm))))))))),?_⟩
  obtain⟨dx,hx⟩:=hT.ins
  obtain⟨ps,hps,ews⟩:=hl.letAt hsz
  refine⟨p,ps,rfl,hps,λH1 s1=>?_⟩
  conv=>whnf
  rw[ews,show isL NM l.ws=true from hok]
  refine Gk ?_
  refine⟨s1 _ _ hx,T.Bl,T.G4,rfl,p,k0,l.nk,nks ms,rfl,rfl,(hl.up s1).nk,hT.kept.up s1,?_⟩
  conv=>whnf
  cases hh:Qu (nks ms) l.nk with
  | true=>exact Lj (kF hh H1 s1)
  | false=>
  refine Gk ?_
  refine⟨λσ H2=>H2=upd H1 k0 (K9 P w k0 (nks ms++[(l.nk,p)]))/\σ=[some (.ref x),some (.ref p),none,none],⟨s1 _ _ hx,T.Bl,T.G4,rfl,k0,p,l.nk,nks ms,rfl,rfl,rfl,(hl.up s1).nk,hT.kept.up s1,hh,(by unfold nks;rw[Ac0];lia),rfl,rfl⟩,?_⟩
  rintro _ _ ⟨rfl,rfl⟩
  have nK: ∀{b:Addr}{o:HO},H1 b=some o->(∀φ,o≠ .ext φ)->o≠ .dK []->b≠k0:=λ{b o}e n1 n2=>by
   rcases(hT.kept.up s1).at_ with e'|⟨_,e'⟩
   · exact Ff e e' (n1 _)
   · exact Ff e e' n2
  have keep: ∀{b:Addr}{o:HO},H1 b=some o->(∀φ,o≠ .ext φ)->o≠ .dK []->(upd H1 k0 (K9 P w k0 (nks ms++[(l.nk,p)]))) b=some o:=λ{b o}e n1 n2=>by rw[Aq (nK e n1 n2)];exact e
  have tups: ∀b xs,H1 b=some (.tup xs)->(upd H1 k0 (K9 P w k0 (nks ms++[(l.nk,p)]))) b=some (.tup xs):=λb xs e=>keep e (λ_ z=>nomatch z) (λz=>nomatch z)
  have hx2:=keep (s1 _ _ hx) (λ_ z=>nomatch z) (λz=>nomatch z)
  have hm2:=keep (s1 _ _ hT.byM) (λ_ z=>nomatch z) (λz=>nomatch z)
  have ht2:=keep (s1 _ _ hT.told) (λ_ z=>nomatch z) (λz=>nomatch z)
  have hk2:KeptAt P w (upd H1 k0 (K9 P w k0 (nks ms++[(l.nk,p)]))) k0 (nks (ms++[(l,p)])):=by
   have:=(hT.kept.up s1).put (hl.up s1).nk (by unfold nks;rw[Ac0];lia)
   unfold nks at this ⊢
   rw[Adx]
   exact this
  have hb2:BsOk (upd H1 k0 (K9 P w k0 (nks ms++[(l.nk,p)]))) ms bs:=hT.by_.up λb hb o e=>by
   rw[hT.by_.at_ b hb] at e
   cases e
   exact keep (s1 _ _ (hT.by_.at_ b hb)) (λ_ z=>nomatch z) (λz=>nomatch z)
  have hy2: ∀y∈ms,LtAt (upd H1 k0 (K9 P w k0 (nks ms++[(l.nk,p)]))) y.1 y.2:=λy hy=>((hT.ok y hy).up s1).upT tups
  have hl2:LtAt (upd H1 k0 (K9 P w k0 (nks ms++[(l.nk,p)]))) l p:=(hl.up s1).upT tups
  have keepO: ∀b o,H b=some o->b≠k0->(upd H1 k0 (K9 P w k0 (nks ms++[(l.nk,p)]))) b=some o:=λb o e nb=>by rw[Aq nb];exact s1 _ _ e
  clear keep tups
  obtain⟨vs,hp,hv⟩:=id hl2
  obtain⟨r,er⟩:=hv.four
  subst er
  refine⟨SqT.of hp,Za,SqT.of hp,wc,λq hq=>?_⟩
  conv=>whnf
  have u3:=Ag (o:=.tup [.str l.asker,.int l.number]) hq
  have hq3:(upd (upd H1 k0 (K9 P w k0 (nks ms++[(l.nk,p)]))) q (.tup [.str l.asker,.int l.number])) q=some (.tup [.str l.asker,.int l.number]):=Ad
  replace hx2:=u3 _ _ hx2
  replace hm2:=u3 _ _ hm2
  replace ht2:=u3 _ _ ht2
  replace hk2:=hk2.up u3
  replace hb2:=hb2.up λb _ o e=>u3 _ o e
  replace hl2:=hl2.up u3
  replace hy2:=λy hy=>(hy2 y hy).up u3
  replace hp:=u3 _ _ hp
  replace keepO:=λb o(e:H b=some o)(nb:b≠k0)=>u3 _ _ (keepO b o e nb)
  clear hq u3 hps ews
  generalize upd (upd H1 k0 (K9 P w k0 (nks ms++[(l.nk,p)]))) q (.tup [.str l.asker,.int l.number])=H3 at*
  have hok3: ∀y∈ms++[(l,p)],LtAt H3 y.1 y.2:=λy hy=>(Adq.mp hy).elim (hy2 y) λz=>by rw[Ac9] at z;subst z;exact hl2
  refine⟨λσ H4=>∃(L:Addr)(bs':MBs),σ=[some (.ref x),some (.ref p),some (.ref q),none]/\MidT P w a.Aj H H4 x dx k0 m0 t0 q L l p ms bs bs' ts,?_,?_⟩
  ·
   refine⟨hx2,T.Bl,T.Dz,rfl,.inr (.inr (.inl ⟨rfl,.inr ⟨_,hm2⟩⟩)),λN hN=>?_⟩
   have uN:=Ag (o:=.lst []) hN
   refine⟨m0,q,bsK bs,[.inr l.asker,.inl l.number],.ref N,rfl,rfl,uN _ _ hm2,uN _ _ hq3,(by unfold bsK;rw[Ac0,Aeh];have:=hT.few;lia),?_⟩
   conv=>whnf
   cases hv:Fe (bsK bs) [.inr l.asker,.inl l.number] with
   |
    some w0=>
    obtain⟨b,hb,hbk,rfl⟩:=qg (k:=l.mk) hv
    refine .inl ⟨_,rfl,.inl ⟨rfl,_,SqL.of (uN _ _ (hb2.at_ b hb))⟩,b.2.1,_,_,rfl,rfl,uN _ _ (hb2.at_ b hb),?_,b.2.1,_,rfl,ma keepO hq3 hx2 hk2 hok3 hm2 ht2 hb2 hN hv hb hbk⟩
    rw[Ac0,hb2.is_ b hb,Aeh]
    exact Afn (Ael _ _) (by lia)
   |
    none=>
    have nmN:N≠m0:=λz=>by rw[z,hm2] at hN;cases hN
    refine .inr ⟨rfl,.inl ⟨rfl,[],SqL.of (by rw[Aq nmN];exact Ad)⟩,N,[],_,rfl,rfl,(by rw[Aq nmN];exact Ad),(by show 0<sizeLine;decide),N,_,rfl,j5 keepO hq3 hx2 hk2 (hT.own (.inl rfl)) hok3 hm2 ht2 hT.ne hb2 hN hv⟩
  rintro _ H4 ⟨L,bs',rfl,M⟩
  obtain⟨b,hbm,hbk,hbL⟩:=M.at_
  have hLts:=vt M.by_ M.ok (by rw[Ade];show _+1<=_;lia) hbm
  have hin: ∀y∈b.2.2,y∈ms++[(l,p)]:=λy hy=>by rw[M.by_.is_ b hbm] at hy;exact(Aeb.mp hy).1
  have hall: ∀{F:Lt->Prop},(∀y∈ms,F y.1)->F l-> ∀y∈b.2.2,F y.1:=λ{F}h1 h2 y hy=>(Adq.mp (hin y hy)).elim (h1 y) λz=>by rw[Ac9] at z;subst z;exact h2
  have hS:inM b.2.2=inK (ms++[(l,p)]) l.mk:=by rw[M.by_.is_ b hbm,vz,hbk]
  have tups4: ∀c xs,H c=some (.tup xs)->H4 c=some (.tup xs):=λc xs e=>M.fr c _ e (hT.notup e)
  refine⟨M.ins,T.Bl,T.Dz,rfl,m0,.ref L,rfl,M.val▸DGet.t M.byM M.q_,L,b.2.2,rfl,(by rw[←hbL];exact hLts),hall hT.sz hsz,hall hG hGl,λv H5 s5 hv=>?_⟩
  rw[hS] at hv
  have T5:=M.tab hT.sz hsz h900 hT.few.2.1 hT.few.2.2 hT.ne s5
  have fr5: ∀c o,H c=some o-> ¬Sz k0 m0 t0 bs c->H5 c=some o:=λc o e n=>s5 _ _ (M.fr c o e n)
  have tl5:TlOk H5 ms ts:=hTl.upT λc xs e=>s5 _ _ (tups4 c xs e)
  rcases hv with⟨rfl,hno⟩|⟨r,d,rfl,hd,hto⟩
  ·
   refine⟨λz=>absurd z (by decide),λ_=>?_⟩
   exact kT hh bs' ts H5 fr5 M.new T5 (tl5.non hno)
  refine⟨λ_=>?_,λz=>absurd (by simp) z⟩
  refine⟨s5 _ _ M.ins,T.Bl,T.B8,rfl,t0,_,rfl,DPut.t (k:=mkK l.mk) (s5 _ _ M.told) (s5 _ _ M.q_) (by rw[Aeh];have:=hT.few;lia),?_⟩
  have tp: ∀c xs,H5 c=some (.tup xs)->(upd H5 t0 (.dT (putK ts (mkK l.mk) (.ref r)))) c=some (.tup xs):=λc xs e=>by rw[Aq (Ff e (s5 _ _ M.told) (λz=>nomatch z))];exact e
  refine kT hh bs' _ _ (λc o e n=>?_) M.new (T5.tell (by rw[Ade];exact Ady (Eo _ _ _) (Nat.succ_le_succ hT.few.2.2))) ((tl5.upT tp).put (hd.upT tp) hto)
  rw[Aq (λz=>n (.inr (.inr (.inl z))))]
  exact fr5 c o e n
theorem Ws:Ay ["_law_found","_law_due"] ["_law_found","_law_due"] (Af Kn):=⟨rfl,rfl,rfl,by decide+kernel,rfl,by decide+kernel,by decide+kernel⟩
theorem Rx (T:Txt K mg a)(n:Nat)(IH:FnOk P w K mg base CX0 true (20+n) a.Eg a.Ei ["_law_found","_law_due"] (Jc n)):FnOk P w K mg base CX0 true (20+n+1) a.Eg a.Ei ["_law_found","_law_due"] (Jc (n+1)):=by
 refine T.Cs.ok Ws (λvs H Q E h=>?_) (λcdv A outer s H vs Q E hr h=>?_)
 · obtain⟨v,u,rfl,_⟩:=h;rfl
 ·
  obtain⟨v,u,rfl,hA,k⟩:=h
  refine⟨_,(Ae (P0 (PW.pt (su (X9 (Ak (Bk (K:=K) rfl) rfl T.Ba (by decide+kernel) (Aa (pv 1) (Aa (Cr (v:=.ty "tuple") rfl T.Cd (by decide+kernel) rfl) Ac)))) (Ka (X9 (Ak (Bk (K:=K) rfl) rfl T.Ba (by decide+kernel) (Aa (pv 1) (Aa (Cr (v:=.ty "list") rfl T.Ob (by decide+kernel) rfl) Ac))))))) (Ae (P0 (PW.pt (su (Cz jf (Ak (Bk (K:=K) rfl) rfl T.Ba (by decide+kernel) (Aa (pv 0) (Aa (Cr (v:=.ty "tuple") rfl T.Cd (by decide+kernel) rfl) Ac))) (Ak (Bk (K:=K) rfl) rfl T.Ba (by decide+kernel) (Aa (pv 1) (Aa (Cr (v:=.ty "tuple") rfl T.Cd (by decide+kernel) rfl) Ac))) (Ap _)) (Ka (Cz jf (Ak (Bk (K:=K) rfl) rfl T.Ba (by decide+kernel) (Aa (pv 0) (Aa (Cr (v:=.ty "list") rfl T.Ob (by decide+kernel) rfl) Ac))) (Ak (Bk (K:=K) rfl) rfl T.Ba (by decide+kernel) (Aa (pv 1) (Aa (Cr (v:=.ty "list") rfl T.Ob (by decide+kernel) rfl) Ac))) (Ap _))))) (Ah (Ao Gm)) Av)
   (Ae (P0 (Cz jf (Ak (An (K:=K) rfl) rfl T.Cy (by decide+kernel) (Aa (pv 0) Ac)) (Ak (An (K:=K) rfl) rfl T.Cy (by decide+kernel) (Aa (pv 1) Ac)) (Ap _)) (Ah (Ao Gm)) Av)
   (Ah (Ao (Ak (Ge (K:=K) rfl rfl) rfl T.Oj (by decide+kernel) (Aa (Bt (N:=["_law_k","_law_found","_law_due"]) (cap:=[none,some 0,some 1]) (by show Ar (Af Kn) _ ["_law_found","_law_due"] _ _;exact⟨rfl,by decide+kernel,by decide+kernel,by decide+kernel,by decide+kernel,rfl,by decide+kernel⟩) rfl (Gj rfl T.Fh (Aa (Ak (An (K:=K) rfl) rfl T.Cy (by decide+kernel) (Aa (pv 1) Ac)) Ac)) (λC s H fp=>⟨(Bc (i:=0) (by show(["_law_k","_law_found","_law_due"]:List Str).Nodup;decide+kernel) rfl (Or.inl rfl) (.inr rfl)),Cc,(Ai ((IH).mono (by lia)) hr rfl T.Eh T.Cs.kp T.En .nil Aw (Aa (Al (dq (K:=K) rfl) (pv 1) (pv 0) (λ_ _=>rfl)) (Aa (Al (dq (K:=K) rfl) (pv 2) (pv 0) (λ_ _=>rfl)) Ac)))⟩)) Ac)))))) Av)
   (Ae (P0 (Cz Yj (pv 1) Gu (Ap _)) (Ah (Ao (Bv Yj (pv 0) Gu (Ap _)))) Av)
   (Ae (P0 (X9 (Ak (Bk (K:=K) rfl) rfl T.Ba (by decide+kernel) (Aa (pv 1) (Aa (Cr (v:=.ty "str") rfl T.W0 (by decide+kernel) rfl) Ac)))) (Ah (Ao (Xr (Ak (Bk (K:=K) rfl) rfl T.Ba (by decide+kernel) (Aa (pv 0) (Aa (Cr (v:=.ty "str") rfl T.W0 (by decide+kernel) rfl) Ac))) (Dv (Bv Qj (pv 0) (pv 1) (Ap _)))))) Av)
   (Ah (Ao (Xr (Ak (Bk (K:=K) rfl) rfl T.Ba (by decide+kernel) (Aa (pv 0) (Aa (Cr (v:=.ty "int") rfl T.Wl (by decide+kernel) rfl) Ac))) (Xr (nu (Ak (Bk (K:=K) rfl) rfl T.Ba (by decide+kernel) (Aa (pv 0) (Aa (Cr (v:=.ty "bool") rfl T.Q6 (by decide+kernel) rfl) Ac)))) (Dv (Bv Qj (pv 0) (pv 1) (Ap _)))))))))),?_⟩
  rcases hA with⟨rfl,ha⟩|⟨p,q,xs,ys,rfl,rfl,hpq,hl,hz,hs⟩
  ·
   cases v with
   |
    non=>
    refine⟨_,rfl,_,_,_,_,rfl,Ed.non,rfl,_,rfl,Kw (λz=>absurd z (by decide)) (λ_=>⟨_,rfl,_,_,_,_,rfl,Ed.non,rfl,_,rfl,Kw (λz=>absurd z (by decide)) (λ_=>?_)⟩)⟩
    refine⟨_,rfl,rfl,_,rfl,Kw (λ_=>?_) (λz=>absurd rfl z)⟩
    exact⟨_,rfl,rfl,k H (Same.refl _)⟩
   |
    int i=>
    refine⟨_,rfl,_,_,_,_,rfl,Ed.int _,rfl,_,rfl,Kw (λz=>absurd z (by decide)) (λ_=>⟨_,rfl,_,_,_,_,rfl,Ed.int _,rfl,_,rfl,Kw (λz=>absurd z (by decide)) (λ_=>?_)⟩)⟩
    refine⟨_,rfl,rfl,_,rfl,Kw (λz=>absurd z (by simp)) (λ_=>?_)⟩
    refine⟨_,rfl,_,_,_,_,rfl,Ed.int _,rfl,_,rfl,Kw (λz=>absurd z (by decide)) (λ_=>?_)⟩
    refine⟨_,rfl,_,_,_,_,rfl,Ed.int _,rfl,_,rfl,Kw (λ_=>?_) (λz=>absurd rfl z)⟩
    refine⟨_,rfl,_,_,_,_,rfl,Ed.int _,rfl,_,rfl,_,rfl,Kw (λ_=>?_) (λz=>absurd rfl z)⟩
    refine⟨_,rfl,_,rfl,rfl,?_⟩
    rw[Ac3 rfl]
    exact k H (Same.refl _)
   |
    str x=>
    refine⟨_,rfl,_,_,_,_,rfl,Ed.str _,rfl,_,rfl,Kw (λz=>absurd z (by decide)) (λ_=>⟨_,rfl,_,_,_,_,rfl,Ed.str _,rfl,_,rfl,Kw (λz=>absurd z (by decide)) (λ_=>?_)⟩)⟩
    refine⟨_,rfl,rfl,_,rfl,Kw (λz=>absurd z (by simp)) (λ_=>?_)⟩
    refine⟨_,rfl,_,_,_,_,rfl,Ed.str _,rfl,_,rfl,Kw (λ_=>?_) (λz=>absurd rfl z)⟩
    refine⟨_,rfl,_,_,_,_,rfl,Ed.str _,rfl,_,rfl,Kw (λ_=>?_) (λz=>absurd rfl z)⟩
    refine⟨_,rfl,_,rfl,rfl,?_⟩
    rw[Ac3 rfl]
    exact k H (Same.refl _)
   | bl=>exact ha.elim
   | byt=>exact ha.elim
   | flt=>exact ha.elim
   | ref=>exact ha.elim
   | ty=>exact ha.elim
  rcases hpq with⟨hp,hq⟩|⟨hp,hq⟩
  ·
   refine⟨_,rfl,_,_,_,_,rfl,Ed.tup hq,rfl,_,rfl,Kw (λ_=>?_) (λz=>absurd rfl z)⟩
   refine⟨_,rfl,_,_,_,_,rfl,Ed.tup hp,rfl,_,rfl,_,_,_,_,rfl,Ed.tup hq,rfl,rfl,_,rfl,Kw (λz=>absurd z (by decide)) (λ_=>?_)⟩
   refine⟨_,rfl,_,_,_,_,rfl,Ed.tup hp,rfl,_,rfl,_,_,_,_,rfl,Ed.tup hq,rfl,rfl,_,rfl,Kw (λz=>absurd z (by decide)) (λ_=>?_)⟩
   refine⟨_,rfl,p,_,rfl,.inr (SqT.of hp),_,rfl,q,_,rfl,.inr (SqT.of hq),rfl,_,rfl,?_⟩
   rw[hl]
   refine yp rfl ?_
   refine⟨_,rfl,q,_,rfl,.inr (SqT.of hq),(ys.length:Int),rfl,by lia,by lia,?_⟩
   refine Bj (C0 0 _ H) (λ_=>true) (λ_=>.bl true) (by rw[Ac0,Ad7];lia) (λx _ H' _ R hR=>hR H' (Same.refl _)) ?_ (λD H1 s1 hD0 hD=>?_)
   ·
    intro x hx _ H' sm R hR
    obtain⟨j,hj,rfl⟩:=Ac2.mp hx
    have hj2:=Aeo.mp hj
    have j1:j<ys.length:=by lia
    have j2:j<xs.length:=by lia
    have e1:xs[j]?=some xs[j]:=Adh j2
    have e2:ys[j]?=some ys[j]:=Adh j1
    have a1:atI xs (0+(j:Int))=some xs[j]:=by rw[show(0+(j:Int))=((j:Nat):Int) by lia];exact A8 e1
    have a2:atI ys (0+(j:Int))=some ys[j]:=by rw[show(0+(j:Int))=((j:Nat):Int) by lia];exact A8 e2
    exact⟨_,rfl,_,rfl,.inr<|.inl ⟨p,_,_,_,rfl,rfl,SqT.of (sm _ _ hp),a1,_,rfl,_,rfl,.inr<|.inl ⟨q,_,_,_,rfl,rfl,SqT.of (sm _ _ hq),a2,_,_,rfl,AlH.up (n:=n) sm (hs j _ _ e1 e2),λH3 s3=>hR H3 s3⟩⟩⟩
   rw[Aec.mpr (λ_ _=>rfl),cp] at hD
   refine⟨D,_,rfl,SqL.of hD,?_⟩
   rw[Xd]
   exact k H1 s1
  ·
   refine⟨_,rfl,_,_,_,_,rfl,Ed.lst hq,rfl,_,rfl,Kw (λz=>absurd z (by decide)) (λ_=>⟨_,rfl,_,_,_,_,rfl,Ed.lst hq,rfl,_,rfl,Kw (λ_=>?_) (λz=>absurd rfl z)⟩)⟩
   refine⟨_,rfl,_,_,_,_,rfl,Ed.lst hp,rfl,_,rfl,_,_,_,_,rfl,Ed.lst hq,rfl,rfl,_,rfl,Kw (λz=>absurd z (by decide)) (λ_=>?_)⟩
   refine⟨_,rfl,_,_,_,_,rfl,Ed.lst hp,rfl,_,rfl,_,_,_,_,rfl,Ed.lst hq,rfl,rfl,_,rfl,Kw (λz=>absurd z (by decide)) (λ_=>?_)⟩
   refine⟨_,rfl,p,_,rfl,.inl (SqL.of hp),_,rfl,q,_,rfl,.inl (SqL.of hq),rfl,_,rfl,?_⟩
   rw[hl]
   refine yp rfl ?_
   refine⟨_,rfl,q,_,rfl,.inl (SqL.of hq),(ys.length:Int),rfl,by lia,by lia,?_⟩
   refine Bj (C0 0 _ H) (λ_=>true) (λ_=>.bl true) (by rw[Ac0,Ad7];lia) (λx _ H' _ R hR=>hR H' (Same.refl _)) ?_ (λD H1 s1 hD0 hD=>?_)
   ·
    intro x hx _ H' sm R hR
    obtain⟨j,hj,rfl⟩:=Ac2.mp hx
    have hj2:=Aeo.mp hj
    have j1:j<ys.length:=by lia
    have j2:j<xs.length:=by lia
    have e1:xs[j]?=some xs[j]:=Adh j2
    have e2:ys[j]?=some ys[j]:=Adh j1
    have a1:atI xs (0+(j:Int))=some xs[j]:=by rw[show(0+(j:Int))=((j:Nat):Int) by lia];exact A8 e1
    have a2:atI ys (0+(j:Int))=some ys[j]:=by rw[show(0+(j:Int))=((j:Nat):Int) by lia];exact A8 e2
    exact⟨_,rfl,_,rfl,.inl ⟨p,_,_,_,rfl,rfl,SqL.of (sm _ _ hp),a1,_,rfl,_,rfl,.inl ⟨q,_,_,_,rfl,rfl,SqL.of (sm _ _ hq),a2,_,_,rfl,AlH.up (n:=n) sm (hs j _ _ e1 e2),λH3 s3=>hR H3 s3⟩⟩⟩
   rw[Aec.mpr (λ_ _=>rfl),cp] at hD
   refine⟨D,_,rfl,SqL.of hD,?_⟩
   rw[Xd]
   exact k H1 s1
theorem Nd (T:Txt K mg a): ∀n,FnOk P w K mg base CX0 true (20+n) a.Eg a.Ei ["_law_found","_law_due"] (Jc n)
 | 0=>⟨λvs H Q E h=>by obtain⟨v,u,rfl,h1,_⟩:=h;exact h1.elim,λA outer s H args us vs Q E _ _ _ _ h=>by obtain⟨v,u,rfl,h1,_⟩:=h;exact h1.elim⟩
 | n+1=>Rx T n (Nd T n)
theorem Ej (T:Txt K mg a):FnOk P w K mg base CX0 true 30 a.Eg a.Ei ["_law_found","_law_due"] (Jc 6):=(Nd T 6).mono (by decide)
theorem Jr:Ay ["_law_table","_law_letters","_law_names","_law_cell","_law_hand"] ["_law_table","_law_letters","_law_names","_law_cell"] (Af Gb):=⟨rfl,rfl,rfl,by decide+kernel,rfl,by decide+kernel,by decide+kernel⟩
theorem Ng (T:Txt K mg a):FnOk P w K mg base CX0 true 31 a.C2 a.Dj ["_law_table","_law_letters","_law_names","_law_cell"] (Nq P w a.Aj):=by
 refine T.Kd.ok Jr (λvs H Q E h=>?_) (λcdv A outer s H vs Q E hr h=>?_)
 · obtain⟨x,k0,m0,t0,ms,bs,ts,L,ml,Ln,nl,c,rfl,_⟩:=h;rfl
 ·
  obtain⟨x,k0,m0,t0,ms,bs,ts,L,ml,Ln,nl,c,rfl,hT,tl,h64,hL,hz,hml,hn,hn0,hn1,hmm,hU,k⟩:=h
  refine⟨_,(Fj (B3 (PW.pt (M3 (Au Ec (Bb Gi (qv 3) Ab) Ab (Ap _)) (F8 (Ef (Cu (Ai ((Ej T).mono (by decide)) hr rfl T.Eh T.Cs.kp T.En .nil Aw (Aa (Ly (n:=1) (D:=λC R=>(C=a.Aj/\R= λx vs H Q=>(Ez P w a.Aj) (x::(vs++([]:List V))) H Q E0)) (qv 0) (by rintro C R ⟨rfl,rfl⟩<;>first|exact⟨T.Bl,_,_,_,_,_,_,_,_,_,_,T.Hi,(Hm T).mono (by decide),hr,T.Ia,.nil,Aw,λ_ _ _ _ _ h=>h⟩) (Aa (Al (Bq (K:=K) rfl) (qv 2) Ab (λ_ _=>rfl)) Ac)) (Aa (Ai ((Jx T).mono (by decide)) hr rfl T.Ku T.Hl.kp T.K0 .nil Aw (Aa (qv 1) (Aa (Al (Bq (K:=K) rfl) (qv 2) Ab (λ_ _=>rfl)) Ac))) Ac)))))))) (Ah (Ao Gm)) Av)
   (Ae (J0 (Qk Aep Aez Aey Dq (C4 (D:=λC R=>(C=a.Aj/\R= λx vs H Q=>(B4 P w a.Aj) (x::(vs++([]:List V))) H Q E0)) (qv 0) (by rintro C R ⟨rfl,rfl⟩<;>first|exact⟨T.Bl,_,_,_,_,_,_,_,_,_,_,T.Cf,(Ce T).mono (by decide),hr,T.Cv,.nil,Aw,λ_ _ _ _ _ h=>h⟩)) (Aa (Bu Ac) Ac)))
   (Ae (B3 (Ef (Cu (Ai ((Ej T).mono (by decide)) hr rfl T.Eh T.Cs.kp T.En .nil Aw (Aa (C4 (D:=λC R=>(C=a.Aj/\R= λx vs H Q=>(B4 P w a.Aj) (x::(vs++([]:List V))) H Q E0)) (qv 0) (by rintro C R ⟨rfl,rfl⟩<;>first|exact⟨T.Bl,_,_,_,_,_,_,_,_,_,_,T.Cf,(Ce T).mono (by decide),hr,T.Cv,.nil,Aw,λ_ _ _ _ _ h=>h⟩)) (Aa (Ai ((E6 T).mono (by decide)) hr rfl T.F2 T.C3.kp T.Fu .nil Aw (Aa (qv 1) Ac)) Ac))))) (Ah (Ao Gm)) Av)
   (Ae (Ax (i:=4) Jr.nd rfl (Or.inl rfl) (Al (Bq (K:=K) rfl) (qv 2) (Bb V1 (Bb Ki (qv 3) Ab) (Ak (An (K:=K) rfl) rfl T.Cy (by decide+kernel) (Aa (qv 2) Ac))) (λ_ _=>rfl)))
   (Ah (Ao (Ai ((Ej T).mono (by decide)) hr rfl T.Eh T.Cs.kp T.En .nil Aw (Aa (Ly (n:=1) (D:=λC R=>(C=a.Aj/\R= λx vs H Q=>(Ez P w a.Aj) (x::(vs++([]:List V))) H Q E0)) (qv 0) (by rintro C R ⟨rfl,rfl⟩<;>first|exact⟨T.Bl,_,_,_,_,_,_,_,_,_,_,T.Hi,(Hm T).mono (by decide),hr,T.Ia,.nil,Aw,λ_ _ _ _ _ h=>h⟩) (Aa (qv 4) Ac)) (Aa (Ai ((Jx T).mono (by decide)) hr rfl T.Ku T.Hl.kp T.K0 .nil Aw (Aa (qv 1) (Aa (qv 4) Ac))) Ac))))))))),?_⟩
  obtain⟨dx,hx⟩:=hT.ins
  obtain⟨a1,r1,en⟩: ∃a1 r1,nl=a1::r1:=by
   cases hnl:nl with
   | nil=>rw[hnl] at hn0;exact absurd hn0 (by decide)
   | cons a1 r1=>exact⟨a1,r1,rfl⟩
  have a0:atI (nl.map V.str) 0=some (.str a1):=by rw[en];exact Kv
  refine⟨λσ H'=>Same H H'/\σ=[some (.ref x),some (.ref L),some (.ref Ln),some (.int c),none],?_,?_⟩
  ·
   refine⟨λ_=>?_,λ_=>Gk ⟨Same.refl _,rfl⟩⟩
   refine⟨hx,rfl,⟨rfl,rfl⟩,SqL.of hn,a0,x,k0,m0,t0,ms,bs,ts,a1,rfl,hT,tl,h64,λD1 z1 H1 s1 n1 e1 q1 o1 l1=>?_⟩
   refine⟨SqL.of (s1 _ _ hn),a0,L,ml,a1,rfl,hL.up s1,hz,hml,λD2 z2 H2 s2 n2 e2 q2 o2 l2=>?_⟩
   exact⟨_,_,rfl,ou (n:=3) (s2 _ _ e1) e2 ((HoldsIs.move hmm o1).uniq hU o2) (λz hz=>s2 _ _ (q1 z hz)) q2 (by lia),λH3 s3=>Gk ⟨(s1.trans s2).trans s3,rfl⟩⟩
  rintro _ H1 ⟨s1,rfl⟩
  refine⟨s1 _ _ hx,rfl,⟨rfl,rfl⟩,x,k0,m0,t0,ms,bs,ts,rfl,hT.up s1,tl.up s1,h64,λD rs H2 s2 n2 e2 t2 o2 l2=>?_⟩
  refine⟨.inl ⟨rfl,_,SqL.of e2⟩,λp hp=>⟨D,_,_,rfl,rfl,(Ag hp) _ _ e2,(by rw[Ac0,Aeh];lia),?_⟩⟩
  conv=>whnf
  have s3:=s1.trans (Oh (o:=.tup []) (u:=.lst ((rs.map λr=>V.ref r.2)++[.ref p])) s2 n2 hp)
  generalize upd (upd H2 p (.tup [])) D (.lst ((rs.map λr=>V.ref r.2)++[.ref p]))=H3 at*
  clear e2 t2 o2 s2 n2 hp
  refine⟨s3 _ _ hx,rfl,⟨rfl,rfl⟩,x,k0,m0,t0,ms,bs,ts,rfl,hT.up s3,tl.up s3,h64,λD1 rs1 H4 s4 n4 e4 t4 o4 l4=>?_⟩
  have S4:=s3.trans s4
  refine⟨L,ml,rfl,hL.up S4,hz,hml,λD2 rs2 H5 s5 n5 e5 t5 o5 l5=>?_⟩
  refine⟨_,_,rfl,om (n:=2) (s5 _ _ e4) e5 ((TdsOk.move hmm o4).uniq hU o5) (λr hr=>(t4 r hr).up s5) t5 (by lia),λH6 s6=>Gk ?_⟩
  have S6:=(S4.trans s5).trans s6
  have nl0:(0:Int)<((nl.map V.str).length:Int):=by rw[Ac0];lia
  obtain⟨h2,_,e2⟩:=Ny (ts:=nl) (i:=c/2%((nl.map V.str).length:Int)) (Ae3 _ (by lia)) (by have:=Aes (c/2) nl0;rw[Ac0] at this ⊢;exact this)
  refine⟨Ln,_,rfl,.inl (SqL.of (S6 _ _ hn)),_,_,rfl,rfl,nl0,SqL.of (S6 _ _ hn),e2,?_⟩
  refine⟨S6 _ _ hx,rfl,⟨rfl,rfl⟩,x,k0,m0,t0,ms,bs,ts,h2,rfl,hT.up S6,tl.up S6,h64,λD3 z3 H7 s7 n7 e7 q7 o7 l7=>?_⟩
  refine⟨L,ml,h2,rfl,hL.up (S6.trans s7),hz,hml,λD4 z4 H8 s8 n8 e8 q8 o8 l8=>?_⟩
  exact⟨_,_,rfl,ou (n:=3) (s8 _ _ e7) e8 ((HoldsIs.move hmm o7).uniq hU o8) (λz hz=>s8 _ _ (q7 z hz)) q8 (by lia),λH9 s9=>k H9 (((S6.trans s7).trans s8).trans s9)⟩
theorem Gw:Ay ["_law_script","_law_names","_law_last","_law_letters","_law_tables","_law_orders_here","_law_ask","_law_held","_law_side","_law_k","_law_found","_law_due","_law_cell","_law_one"] ["_law_script"] (Af P8):=⟨rfl,rfl,rfl,by decide+kernel,rfl,by decide+kernel,by decide+kernel⟩
theorem yb (T:Txt K mg a):FnOk P w K mg base CX0 true 33 a.Y3 a.Ww ["_law_script"] (Xt K):=by
 refine T.zz.ok Gw (λvs H Q E h=>?_) (λcdv A outer s H vs Q E hr h=>?_)
 · obtain⟨sa,ns,rfl,_⟩:=h;rfl
 ·
  obtain⟨sa,ns,rfl,hS,hlen,k⟩:=h
  refine⟨_,(Ae (Ax (i:=1) Gw.nd rfl (Or.inr rfl) (Ai ((Po T).mono (by decide)) hr rfl T.P7 T.K3.kp T.Qm .nil Aw (Aa (Ai ((Cm T).mono (by decide)) hr rfl T.C6 T.Cg.kp T.C9 .nil Aw (Aa (qv 0) (Aa Ab Ac))) Ac)))
   (Ae (Ax (i:=2) Gw.nd rfl (Or.inl rfl) (Bb oj Ab (Bb Ee Ab (Dg cj rfl T.Wl (by decide+kernel) (Aa (Bv Yv (Ak (An (K:=K) rfl) rfl T.Cy (by decide+kernel) (Aa (qv 1) Ac)) Ab (Ap _)) Ac)))))
   (Ae (Ax (i:=3) Gw.nd rfl (Or.inr rfl) (Bt (N:=["_law_cell","_law_names","_law_script"]) (cap:=[none,some 1,some 0]) (by show Ar (Af P8) _ ["_law_script","_law_names","_law_last","_law_letters","_law_tables","_law_orders_here","_law_ask","_law_held","_law_side","_law_k","_law_found","_law_due","_law_cell","_law_one"] _ _;exact⟨rfl,by decide+kernel,by decide+kernel,by decide+kernel,by decide+kernel,rfl,by decide+kernel⟩) rfl (Bn (K:=K) rfl (G0 (Rz (K:=K) rfl) (qv 0) (Em Ab) (Em (qv 2)))) (λC s H fp=>⟨(Bc (i:=0) (by show(["_law_cell","_law_names","_law_script"]:List Str).Nodup;decide+kernel) rfl (Or.inl rfl) (.inr rfl)),Cc,(Ai ((Nh T).mono (by decide)) hr rfl T.Om T.Kc.kp T.Oy .nil Aw (Aa (qv 0) (Aa (Ai ((Cm T).mono (by decide)) hr rfl T.C6 T.Cg.kp T.C9 .nil Aw (Aa (qv 2) (Aa Ab Ac))) (Aa (qv 1) Ac))))⟩)))
   (Ae (B3 (Au Ec (Ak (An (K:=K) rfl) rfl T.Cy (by decide+kernel) (Aa (qv 3) Ac)) Ab (Ap _)) (Ah (Ao (Gp (Bv (Xs (hu2 hr)) (C4 (D:=λC R=>(C=a.Aj/\R= λx vs H Q=>(B4 P w a.Aj) (x::(vs++([]:List V))) H Q E0)) (Nv T.G1 ((De T).mono (by decide)) hr rfl T.R1 T.Et .nil Aw) (by rintro C R ⟨rfl,rfl⟩<;>first|exact⟨T.Bl,_,_,_,_,_,_,_,_,_,_,T.Cf,(Ce T).mono (by decide),hr,T.Cv,.nil,Aw,λ_ _ _ _ _ h=>h⟩)) (Jv Ac) (Ap _)) (Dv (Bv (Xs (hu2 hr)) (C4 (D:=λC R=>(C=a.Aj/\R= λx vs H Q=>(Co P w a.Aj) (x::(vs++([]:List V))) H Q E0)) (Nv T.G1 ((De T).mono (by decide)) hr rfl T.R1 T.Et .nil Aw) (by rintro C R ⟨rfl,rfl⟩<;>first|exact⟨T.Bl,_,_,_,_,_,_,_,_,_,_,T.Fl,(Fg T).mono (by decide),hr,T.Ga,.nil,Aw,λ_ _ _ _ _ h=>h⟩)) (Jv Ac) (Ap _)))))) Av)
   (Ae (Ax (i:=4) Gw.nd rfl (Or.inl rfl) (Jv (Aa (Nv T.G1 ((De T).mono (by decide)) hr rfl T.R1 T.Et .nil Aw) (Aa (Nv T.G1 ((De T).mono (by decide)) hr rfl T.R1 T.Et .nil Aw) Ac))))
   (Ae (Ax (i:=5) Gw.nd rfl (Or.inl rfl) (Ai ((Rt T).mono (by decide)) hr rfl T.Ve T.M6.kp T.Tr .nil Aw (Aa (qv 3) (Aa (Ai ((Cm T).mono (by decide)) hr rfl T.C6 T.Cg.kp T.C9 .nil Aw (Aa (qv 0) (Aa Ab Ac))) Ac))))
   (Ae (Ax (i:=6) Gw.nd rfl (Or.inl rfl) (Bv Ec (Bb Gi (Bb Ki (Ai ((Cm T).mono (by decide)) hr rfl T.C6 T.Cg.kp T.C9 .nil Aw (Aa (qv 0) (Aa Ab Ac))) Ab) Ab) Ab (Ap _)))
   (Ae (Ax (i:=7) Gw.nd rfl (Or.inl rfl) (Jv Ac))
   (Ae (Pn Agl rfl (Gj rfl T.Fh (Aa Ab Ac)) (Bc (i:=8) Gw.nd rfl (Or.inl rfl)) (Ah (Pn Agl rfl (Gj rfl T.Fh (Aa (Ak (An (K:=K) rfl) rfl T.Cy (by decide+kernel) (Aa (Al (Bq (K:=K) rfl) (qv 5) (qv 8) (λ_ _=>rfl)) Ac)) Ac)) (Bc (i:=9) Gw.nd rfl (Or.inl rfl)) (Fj (J0 (Ly (n:=1) (D:=λC R=>(C=a.Aj/\R= λx vs H Q=>(Me P w a.Aj) (x::(vs++([]:List V))) H Q E0)) (Al (Bq (K:=K) rfl) (qv 4) (qv 8) (λ_ _=>rfl)) (by rintro C R ⟨rfl,rfl⟩<;>first|exact⟨T.Bl,_,_,_,_,_,_,_,_,_,_,T.R9,(Ru T).mono (by decide),hr,T.Ua,.nil,Aw,λ_ _ _ _ _ h=>h⟩) (Aa (Al (Bq (K:=K) rfl) (Al (Bq (K:=K) rfl) (qv 5) (qv 8) (λ_ _=>rfl)) (qv 9) (λ_ _=>rfl)) Ac)))
   (Ah (B3 (PW.pt (M3 (Cu (qv 6)) (F8 (Au Ec (Bb Gi (qv 9) Ab) Ab (Ap _))))) (Ae (Ax (i:=10) Gw.nd rfl (Or.inl rfl) (C4 (D:=λC R=>(C=a.Aj/\R= λx vs H Q=>(B4 P w a.Aj) (x::(vs++([]:List V))) H Q E0)) (Al (Bq (K:=K) rfl) (qv 4) (qv 8) (λ_ _=>rfl)) (by rintro C R ⟨rfl,rfl⟩<;>first|exact⟨T.Bl,_,_,_,_,_,_,_,_,_,_,T.Cf,(Ce T).mono (by decide),hr,T.Cv,.nil,Aw,λ_ _ _ _ _ h=>h⟩)))
   (Ae (Ax (i:=11) Gw.nd rfl (Or.inl rfl) (Ai ((E6 T).mono (by decide)) hr rfl T.F2 T.C3.kp T.Fu .nil Aw (Aa (G0 (Rz (K:=K) rfl) (Al (Bq (K:=K) rfl) (qv 5) (qv 8) (λ_ _=>rfl)) Wc (Em (Bb Ck (qv 9) Ab))) Ac)))
   (Ae (J0 (Qk Aep Aez Aey Dq (qv 7) (Aa (Bu (Aa (qv 10) (Aa (qv 11) Ac))) Ac)))
   (Ae (B3 (Ef (Cu (Ai ((Ej T).mono (by decide)) hr rfl T.Eh T.Cs.kp T.En .nil Aw (Aa (qv 10) (Aa (qv 11) Ac))))) (Ah (Ao Gm)) Av)
   (Ae (J0 (Qk Aep Aez Aey Dq (C4 (D:=λC R=>(C=a.Aj/\R= λx vs H Q=>(B4 P w a.Aj) (x::(vs++([]:List V))) H Q E0)) (Al (Bq (K:=K) rfl) (qv 4) (qv 8) (λ_ _=>rfl)) (by rintro C R ⟨rfl,rfl⟩<;>first|exact⟨T.Bl,_,_,_,_,_,_,_,_,_,_,T.Cf,(Ce T).mono (by decide),hr,T.Cv,.nil,Aw,λ_ _ _ _ _ h=>h⟩)) (Aa (Bu (Ic [.str "off",.int 0] (by decide+kernel))) Ac)))
   (Ah (J0 (Qk Aep Aez Aey Dq (Ly (n:=1) (D:=λC R=>(C=a.Aj/\R= λx vs H Q=>(Ez P w a.Aj) (x::(vs++([]:List V))) H Q E0)) (Al (Bq (K:=K) rfl) (qv 4) (qv 8) (λ_ _=>rfl)) (by rintro C R ⟨rfl,rfl⟩<;>first|exact⟨T.Bl,_,_,_,_,_,_,_,_,_,_,T.Hi,(Hm T).mono (by decide),hr,T.Ia,.nil,Aw,λ_ _ _ _ _ h=>h⟩) (Aa (Al (Bq (K:=K) rfl) (qv 1) Ab (λ_ _=>rfl)) Ac)) (Aa (Bu (Ic [.int 0,.int 1,.str "a",.int 0] (by decide+kernel))) Ac))))))))) Av))))))
   (Ae (Ax (i:=12) Gw.nd rfl (Or.inr rfl) (Ai ((Cm T).mono (by decide)) hr rfl T.C6 T.Cg.kp T.C9 .nil Aw (Aa (qv 0) (Aa Ab Ac))))
   (Ae (B3 (Ef (Cu (Ak (Ge (K:=K) rfl rfl) rfl T.Oj (by decide+kernel) (Aa (Bt (N:=["_law_table","_law_letters","_law_names","_law_cell"]) (cap:=[none,some 3,some 1,some 12]) (by show Ar (Af P8) _ ["_law_script","_law_names","_law_last","_law_letters","_law_tables","_law_orders_here","_law_ask","_law_held","_law_side","_law_k","_law_found","_law_due","_law_cell","_law_one"] _ _;exact⟨rfl,by decide+kernel,by decide+kernel,by decide+kernel,by decide+kernel,rfl,by decide+kernel⟩) rfl (Bn (K:=K) rfl (qv 4)) (λC s H fp=>⟨(Bc (i:=0) (by show(["_law_table","_law_letters","_law_names","_law_cell"]:List Str).Nodup;decide+kernel) rfl (Or.inl rfl) (.inr rfl)),Cc,(Ai ((Ng (P:=P) (w:=w) T).mono (by decide)) hr rfl T.Pp T.Kd.kp T.Ou .nil Aw (Aa (qv 0) (Aa (qv 1) (Aa (qv 2) (Aa (qv 3) Ac)))))⟩)) Ac)))) (Ah (Ao Gm)) Av)
   (Ae (Pn Agl rfl (Bn (K:=K) rfl (Ai ((E6 T).mono (by decide)) hr rfl T.F2 T.C3.kp T.Fu .nil Aw (Aa (qv 3) Ac))) (Bc (i:=13) Gw.nd rfl (Or.inr rfl)) (Ah (B3 (Ef (Cu (Ak (Ge (K:=K) rfl rfl) rfl T.Oj (by decide+kernel) (Aa (Bt (N:=["_law_table","_law_one"]) (cap:=[none,some 13]) (by show Ar (Af P8) _ ["_law_script","_law_names","_law_last","_law_letters","_law_tables","_law_orders_here","_law_ask","_law_held","_law_side","_law_k","_law_found","_law_due","_law_cell","_law_one"] _ _;exact⟨rfl,by decide+kernel,by decide+kernel,by decide+kernel,by decide+kernel,rfl,by decide+kernel⟩) rfl (Bn (K:=K) rfl (qv 4)) (λC s H fp=>⟨(Bc (i:=0) (by show(["_law_table","_law_one"]:List Str).Nodup;decide+kernel) rfl (Or.inl rfl) (.inr rfl)),Cc,(Ai ((Ej T).mono (by decide)) hr rfl T.Eh T.Cs.kp T.En .nil Aw (Aa (Ly (n:=2) (D:=λC R=>(C=a.Aj/\R= λx vs H Q=>(Jt P w a.Aj) (x::(vs++([]:List V))) H Q E0)) (qv 0) (by rintro C R ⟨rfl,rfl⟩<;>first|exact⟨T.Bl,_,_,_,_,_,_,_,_,_,_,T.Nj,(Nr T).mono (by decide),hr,T.O0,.nil,Aw,λ_ _ _ _ _ h=>h⟩) (Aa (Al (Am (K:=K) rfl) (qv 1) Ab (λ_ _=>rfl)) (Aa (Al (Am (K:=K) rfl) (qv 1) Ab (λ_ _=>rfl)) Ac))) (Aa (qv 1) Ac)))⟩)) Ac)))) (Ah (Ao Gm)) Av)))
   (Ah (Ao (Gp (Bv (ug (hu2 hr)) (C4 (D:=λC R=>(C=a.Aj/\R= λx vs H Q=>(Co P w a.Aj) (x::(vs++([]:List V))) H Q E0)) (Al (Bq (K:=K) rfl) (qv 4) Ab (λ_ _=>rfl)) (by rintro C R ⟨rfl,rfl⟩<;>first|exact⟨T.Bl,_,_,_,_,_,_,_,_,_,_,T.Fl,(Fg T).mono (by decide),hr,T.Ga,.nil,Aw,λ_ _ _ _ _ h=>h⟩)) (C4 (D:=λC R=>(C=a.Aj/\R= λx vs H Q=>(Co P w a.Aj) (x::(vs++([]:List V))) H Q E0)) (Al (Bq (K:=K) rfl) (qv 4) Ab (λ_ _=>rfl)) (by rintro C R ⟨rfl,rfl⟩<;>first|exact⟨T.Bl,_,_,_,_,_,_,_,_,_,_,T.Fl,(Fg T).mono (by decide),hr,T.Ga,.nil,Aw,λ_ _ _ _ _ h=>h⟩)) (Ap _)) (Dv (Ak (Ge (K:=K) rfl rfl) rfl T.Oj (by decide+kernel) (Aa (Bt (N:=["_law_found","_law_due"]) (cap:=[none,none]) (by show Ar (Af P8) _ ["_law_script","_law_names","_law_last","_law_letters","_law_tables","_law_orders_here","_law_ask","_law_held","_law_side","_law_k","_law_found","_law_due","_law_cell","_law_one"] _ _;exact⟨rfl,by decide+kernel,by decide+kernel,by decide+kernel,by decide+kernel,rfl,by decide+kernel⟩) rfl (Bn (K:=K) rfl (qv 7)) (λC s H fp=>⟨(o3 (K:=K) (n:=2) rfl rfl (Xm (Bc (i:=0) (by show(["_law_found","_law_due"]:List Str).Nodup;decide+kernel) rfl (Or.inl rfl) (.inr rfl)) (Xm (Bc (i:=1) (by show(["_law_found","_law_due"]:List Str).Nodup;decide+kernel) rfl (Or.inl rfl) (.inr rfl)) p7))),Cc,(Ai ((Ej T).mono (by decide)) hr rfl T.Eh T.Cs.kp T.En .nil Aw (Aa (qv 0) (Aa (qv 1) Ac)))⟩)) Ac)))))))))))))))))),?_⟩
  have s0:=Same.refl H
  refine⟨sa,ns,_,rfl,s0.seq hS,by decide,⟨_,rfl,λL nl H1 s1 hL hN=>?_⟩⟩
  have hlo:=hN.lo
  have hhi:=hN.hi
  obtain⟨sd,hsd⟩: ∃sd,sd=Zb ns 1:=⟨_,rfl⟩
  refine⟨L,_,rfl,.inl (SqL.of hL),.inr ⟨_,rfl,?_⟩⟩
  obtain⟨b7,hb7⟩: ∃b7:Int,b7=(if decide (((nl.map V.str).length:Int)>7)=true then 1 else 0):=⟨_,rfl⟩
  have hb8:0<=b7/\b7<=1:=by rw[hb7];split<;>decide
  refine⟨_,b7,rfl,by rw[hb7],.inl ⟨by decide,by decide⟩,?_⟩
  refine⟨_,rfl,_,rfl,sa,_,rfl,s1.seq hS,λS hS0=>⟨S,rfl,⟨_,SqL.of Ad⟩,?_⟩⟩
  have u1:=Ag (o:=.lst (N8 (ns.map V.int) (some 2) (some (48-26*b7)))) hS0
  have hSe:upd H1 S (.lst (N8 (ns.map V.int) (some 2) (some (48-26*b7)))) S=some (.lst (N8 (ns.map V.int) (some 2) (some (48-26*b7)))):=Ad
  have hcl:=Lm (ns.map V.int) (some 2) (some (48-26*b7))
  have hci: ∀v∈N8 (ns.map V.int) (some 2) (some (48-26*b7)),∃c:Int,v=.int c:=λv hv=>by
   unfold N8 at hv
   obtain⟨c,_,e⟩:=Ac2.mp (List.mem_of_mem_drop (Ahh hv))
   exact⟨c,e.symm⟩
  rw[Ac0] at hcl
  generalize upd H1 S (.lst (N8 (ns.map V.int) (some 2) (some (48-26*b7))))=H2 at*
  generalize N8 (ns.map V.int) (some 2) (some (48-26*b7))=cs at*
  have s2:=s1.trans u1
  refine E5 (Bp (K:=K) (SqL.of hSe)) (λ_=>true) (RlL (λl=>Th l/\Det sd nl l)) (λ_ _ _ _ tp ⟨p,l,e1,e2,e3⟩=>⟨p,l,e1,e2.upT tp,e3⟩) (by lia) (λx _ H' _ R hR=>hR H' (Same.refl _)) ?_ (λA1 H3 ys s3 hA0 hA1 hP=>?_)
  ·
   intro v hv _ H' sm R hR
   obtain⟨c,rfl⟩:=hci v hv
   exact⟨sa,ns,_,rfl,(s2.trans sm).seq hS,by decide,L,nl,c,sd,by rw[hsd];rfl,(u1.trans sm) _ _ hL,hN,λp l H4 s4 hp hok hdt=>hR (.ref p) H4 s4 ⟨p,l,rfl,hp,hok,hdt⟩⟩
  rw[Aec.mpr (λ_ _=>rfl)] at hP
  obtain⟨ml,rfl,hml,hln⟩:=n9 hP
  have S3:=s2.trans s3
  replace hL:=(u1.trans s3) _ _ hL
  clear hP s3 u1 s2 s1 hSe hS0 hci s0
  have h63:ml.length<=63:=by lia
  refine⟨A1,_,rfl,.inl (SqL.of hA1),⟨λ_=>?_,λz=>?_⟩⟩
  ·
   refine λx1 dx1 nx1 ndx1 nex1=>⟨x1,dx1,rfl,Ad,λk1 m1 t1 H4 fr hk hm ht T1=>⟨rfl,?_⟩⟩
   obtain⟨w1,g1⟩:=made nx1 ndx1 fr hk hm ht
   clear fr hk hm ht nx1 ndx1 nex1
   obtain⟨d1,hx1⟩:=T1.ins
   refine⟨hx1,rfl,⟨rfl,rfl⟩,x1,k1,m1,t1,[],[],[],rfl,T1,m6 _,by decide,λD rs H5 s5 _ e5 _ o5 _=>λp hp=>⟨D,p,_,rfl,rfl,(Ag hp) _ _ e5,Ad,?_⟩⟩
   obtain rfl:rs=[]:=List.map_eq_nil_iff.mp (rn o5)
   refine Lj ?_
   refine λx2 dx2 nx2 ndx2 nex2=>⟨x2,dx2,rfl,Ad,λk2 m2 t2 H6 fr hk hm ht T2=>⟨rfl,?_⟩⟩
   obtain⟨w2,g2⟩:=made nx2 ndx2 fr hk hm ht
   clear fr hk hm ht nx2 ndx2 nex2
   obtain⟨d2,hx2⟩:=T2.ins
   refine⟨hx2,rfl,⟨rfl,rfl⟩,x2,k2,m2,t2,[],[],[],rfl,T2,by decide,λD2 rs2 hD2 hpm _=>λp hp=>⟨D2,p,_,rfl,rfl,(Ag hp) _ _ Ad,Ad,?_⟩⟩
   obtain rfl:rs2=[]:=List.perm_nil.mp hpm
   exact k _
  have hpos:0<ml.length:=Nat.pos_of_ne_zero λe=>z (by rw[Ac0,e];exact Ac3 rfl)
  clear z hln
  refine λx1 dx1 nx1 ndx1 nex1=>⟨x1,dx1,rfl,Ad,λk1 m1 t1 H4 fr hk hm ht T1=>⟨rfl,?_⟩⟩
  obtain⟨w1,g1⟩:=made nx1 ndx1 fr hk hm ht
  clear fr hk hm ht nx1 ndx1 nex1
  refine λx2 dx2 nx2 ndx2 nex2=>⟨x2,dx2,rfl,Ad,λk2 m2 t2 H5 fr hk hm ht T2=>⟨rfl,?_⟩⟩
  obtain⟨w2,g2⟩:=made nx2 ndx2 fr hk hm ht
  clear fr hk hm ht nx2 ndx2 nex2
  refine λTb hTb=>?_
  conv=>whnf
  have u6:=Ag (o:=.lst [.ref x1,.ref x2]) hTb
  have hT6:upd H5 Tb (.lst [.ref x1,.ref x2]) Tb=some (.lst [.ref x1,.ref x2]):=Ad
  generalize upd H5 Tb (.lst [.ref x1,.ref x2])=H6 at*
  have w6:=(w1.trans w2).trans u6
  refine⟨sa,ns,_,rfl,(S3.trans w6).seq hS,by decide,A1,ml,_,rfl,w6 _ _ hA1,hpos,h63,λO D1 D2 os1 os2 H7 s7 hO hD1 hD2 ho1 ho2 hl1 hl2=>?_⟩
  have w7:=w6.trans s7
  refine⟨sa,ns,_,rfl,(S3.trans w7).seq hS,by decide,?_⟩
  refine λHd hHd=>?_
  have u8:=Ag (o:=.lst []) hHd
  have hH8:upd H7 Hd (.lst []) Hd=some (.lst []):=Ad
  have nH: ∀{b:Addr}{o:HO},H7 b=some o->b≠Hd:=λe=>As e hHd
  have up8:Same H5 (upd H7 Hd (.lst [])):=(u6.trans s7).trans u8
  have I:=xi (F:=λl=>Th l/\Det sd nl l) ((T1.up w2).up up8) (T2.up up8) hH8 (λb h1 h2=>T1.own h1 (g2 b h2))
  have sF:Same H3 (Frm (MDb (λr=>cond r k2 k1) (λr=>cond r m2 m1) (λr=>cond r t2 t1) (λ_=>[]) Hd) (upd H7 Hd (.lst []))):=λb o e=>Frm.iff.mpr ⟨(by
   rintro(⟨s,z⟩|z)
   ·
    cases s
    · rw[g1 b z] at e;cases e
    · have:=w1 _ _ e;rw[g2 b z] at this;cases this
   · exact nH (w7 _ _ e) z),u8 _ _ (w7 _ _ e)⟩
  have fT:=Yb I (u8 _ _ (s7 _ _ hT6)) (nH (s7 _ _ hT6))
  have fO:=Yb I (u8 _ _ hO) (nH hO)
  have f1:=Yb I (u8 _ _ hD1) (nH hD1)
  have f2:=Yb I (u8 _ _ hD2) (nH hD2)
  generalize upd H7 Hd (.lst [])=H8 at*
  clear nH u8 hH8 hHd up8 w7 w6 g1 g2 T1 T2 w1 w2 u6 s7 hT6 hO hD1 hD2
  generalize Frm (MDb (λr=>cond r k2 k1) (λr=>cond r m2 m1) (λr=>cond r t2 t1) (λ_=>[]) Hd) H8=H0 at*
  have sH:=S3.trans sF
  replace hL:=sF _ _ hL
  replace hA1:=sF _ _ hA1
  replace hml: ∀y∈ml,LtAt H0 y.1 y.2/\Th y.1/\Det sd nl y.1:=λy hy=>⟨(hml y hy).1.up sF,(hml y hy).2⟩
  obtain⟨x,kk,mm,tt,D,os,I,eT,eO,ho,hos,fD⟩: ∃(x kk mm tt D:Bool->Addr)(os:Bool->List (Lt×Addr)),DI (λl=>Th l/\Det sd nl l) P w a.Aj H0 H8 x kk mm tt Hd (λ_=>[]) (λ_=>[]) (λ_=>[]) []/\H0 Tb=some (.lst [.ref (x false),.ref (x true)])/\H0 O=some (.lst [.ref (D false),.ref (D true)])/\(∀s y,y∈os s↔y∈ml)/\(∀s,(os s).length<=200)/\ ∀s,H0 (D s)=some (.lst ((os s).map λy=>V.ref y.2)):=⟨_,_,_,_,λs=>cond s D2 D1,λs=>cond s os2 os1,I,fT,fO,(λs=>by cases s;exact ho1;exact ho2),(λs=>by cases s;exact hl1;exact hl2),λs=>by cases s;exact f1;exact f2⟩
  clear ho1 ho2 hl1 hl2 f1 f2 sF fT fO
  have few: ∀{ms:List (Lt×Addr)}{s:Bool}{j:Nat},(ms.map λy=>y.1.nk).Nodup->inM ms=inM ((os s).take j)->ms.length<64:=λ{ms s j}nd e=>by
   have:=Vz (m:=ml.map λy=>y.1.nk) nd λz hz=>by
    obtain⟨y,hy,rfl⟩:=Ac2.mp hz
    have h1:inM ms y.1:=Ada hy
    rw[e] at h1
    obtain⟨y',hy',e'⟩:=Ac2.mp h1
    exact Ac2.mpr ⟨y',(ho s y').mp (Ahh hy'),by rw[e']⟩
   rw[Ac0,Ac0] at this
   lia
  obtain⟨a1,r1,en⟩: ∃a1 r1,nl=a1::r1:=by
   cases hnl:nl with
   | nil=>rw[hnl] at hlo;exact absurd hlo (by decide)
   | cons a1 r1=>exact⟨a1,r1,rfl⟩
  have a0:atI (nl.map V.str) 0=some (.str a1):=by rw[en];exact Kv
  have hUU: ∀{m2:List (Lt×Addr)},(∀y∈m2,y∈ml)-> ∀k,lu (inK m2 k):=λ{m2}h k=>jn (s:=sd) (ns:=nl) λz hz=>⟨by obtain⟨y,hy,rfl⟩:=Ac2.mp hz.1;exact(hml y (h y hy)).2.2,hz.2⟩
  refine⟨_,rfl,by decide,by decide,?_⟩
  refine Lf (H0:=H0) (C0 0 2 H0) (λi σ H'=>∃ms bs ts hs y2 ask y8 y9 y10 y11 y12 y13,DI (λl=>Th l/\Det sd nl l) P w a.Aj H0 H' x kk mm tt Hd ms bs ts hs/\(∀r:Bool,(cond r 1 0<i->inM (ms r)=inM (os r))/\(i<=cond r 1 0->ms r=[]))/\hs.length<=200*i/\σ=[some (.ref sa),some (.ref L),y2,some (.ref A1),some (.ref Tb),some (.ref O),some (.bl ask),some (.ref Hd),y8,y9,y10,y11,y12,y13]) ⟨_,_,_,_,_,_,_,_,_,_,_,_,I,λr=>⟨λh=>absurd h (Aid _),λ_=>rfl⟩,Adb _,rfl⟩ (λi σ H' _ h=>by obtain⟨ms,bs,ts,hs,y2,ask,y8,y9,y10,y11,y12,y13,I,_⟩:=h;exact I.base.trans Frm.same) ?_ ?_
  ·
   rintro i v σ H9 hv ⟨ms,bs,ts,hs,y2,ask,y8,y9,y10,y11,y12,y13,I,hm,hh,rfl⟩
   obtain⟨s,rfl,hi⟩: ∃s:Bool,v=.int (cond s 1 0)/\i=cond s 1 0:=by
    have h1:i<2:=by have h1:=(Aed.mp hv).1;rw[Ac0,Ad7] at h1;exact h1
    rw[Adl,Ahn h1] at hv
    have hv:=(Adt hv).symm
    rcases(by lia:i=0∨i=1) with rfl|rfl
    · exact⟨false,hv,rfl⟩
    · exact⟨true,hv,rfl⟩
   clear hv
   have hi1:i<=1:=by rw[hi];exact Xn s
   have S9:=I.base.trans Frm.same
   refine⟨SqL.of (S9 _ _ eO),Lk s,D s,_,rfl,.inl (SqL.of (S9 _ _ (fD s))),?_⟩
   conv=>whnf
   rw[Ac0]
   have hos':=hos s
   refine⟨_,rfl,by lia,by lia,?_⟩
   refine Lf (H0:=H0) (C0 0 _ H0) (λj σ H'=>∃ms' bs ts hs' y9 y10 y11,DI (λl=>Th l/\Det sd nl l) P w a.Aj H0 H' x kk mm tt Hd ms' bs ts hs'/\inM (ms' s)=inM ((os s).take j)/\(∀r,r≠s->ms' r=ms r)/\hs'.length<=200*i+j/\σ=[some (.ref sa),some (.ref L),y2,some (.ref A1),some (.ref Tb),some (.ref O),some (.bl ask),some (.ref Hd),some (.int (cond s 1 0)),y9,y10,y11,y12,y13]) ⟨ms,bs,ts,hs,_,_,_,I,by rw[(hm s).2 (Nat.le_of_eq hi)];rfl,λ_ _=>rfl,hh,rfl⟩ (λj σ H' _ h=>by obtain⟨ms,bs,ts,hs,y9,y10,y11,I,_⟩:=h;exact I.base.trans Frm.same) ?_ ?_
   ·
    clear I S9
    rintro j v σ HA hv ⟨ms',bs,ts,hs',z9,z10,z11,I,hM,hR,hh',rfl⟩
    obtain⟨jj,rfl,hjj,hj⟩: ∃jj:Int,v=.int jj/\jj=j/\j<(os s).length:=by
     have h1:=(Aed.mp hv).1
     rw[Ac0,Ad7,Agf] at h1
     rw[Adl,Ahn (by rw[Agf];exact h1)] at hv
     exact⟨0+(j:Int),(Adt hv).symm,by lia,h1⟩
    clear hv
    obtain⟨⟨l,p⟩,hy⟩: ∃y,(os s)[j]?=some y:=⟨_,Adh hj⟩
    have hyl:=hml (l,p) ((ho s _).mp (Ad6 hy))
    have ec:atI ((os s).map λy=>V.ref y.2) jj=some (.ref p):=by rw[hjj];exact A8 (by rw[Adl,hy];rfl)
    refine⟨λσ H'=>σ=[some (.ref sa),some (.ref L),y2,some (.ref A1),some (.ref Tb),some (.ref O),some (.bl ask),some (.ref Hd),some (.int (cond s 1 0)),some (.int jj),z10,z11,y12,y13]/\ ∃ms' bs ts,DI (λl=>Th l/\Det sd nl l) P w a.Aj H0 H' x kk mm tt Hd ms' bs ts hs'/\inM (ms' s)=inM ((os s).take (j+1))/\(∀r,r≠s->ms' r=ms r),?_,?_⟩
    ·
     have SA:=I.base.trans Frm.same
     have h64:=few (I.nd s) hM
     obtain⟨dx,hx⟩:=(I.tab s).ins
     refine⟨SqL.of (SA _ _ eT),Lk s,hx,rfl,⟨rfl,rfl⟩,SqL.of (SA _ _ eO),Lk s,SqL.of (SA _ _ (fD s)),ec,x s,kk s,mm s,tt s,p,ms' s,bs s,ts s,l,rfl,I.tab s,I.tl s,λy hy=>Abp (I.lok s y hy).1,hyl.1.up SA,hyl.2.1,lq hyl.2.1,Abp hyl.2.1,by lia,λhh H6 s6=>⟨rfl,ms',bs,ts,I.up s6,qi hM hy hh,hR⟩,λhh bs' ts' H6 fr new T6 tl6=>?_⟩
     exact⟨rfl,_,_,_,I.took s fr new T6 tl6 hyl.2 hh,by rw[B7];exact rj hM hy,λr e=>by rw[El e];exact hR r e⟩
    clear I hM hR ec hyl hy l p
    rintro _ HB ⟨rfl,ms',bs,ts,I,hM,hR⟩
    refine⟨λ_=>⟨λ_=>?_,λ_=>⟨ms',bs,ts,hs',_,_,_,I,hM,hR,by lia,rfl⟩⟩,λ_=>Gk ⟨ms',bs,ts,hs',_,_,_,I,hM,hR,by lia,rfl⟩⟩
    have SB:=I.base.trans Frm.same
    have h64:=few (I.nd s) hM
    obtain⟨dx,hx⟩:=(I.tab s).ins
    refine⟨SqL.of (SB _ _ eT),Lk s,hx,rfl,⟨rfl,rfl⟩,x s,kk s,mm s,tt s,ms' s,bs s,ts s,rfl,I.tab s,I.tl s,h64,λDf rs1 HC sC nC eC tC oC lC=>?_⟩
    refine⟨SqL.of ((SB.trans sC) _ _ eO),Lk s,_,rfl,D s,_,rfl,SqL.of ((SB.trans sC) _ _ (fD s)),λSc hSc=>?_⟩
    conv=>whnf
    have ecut:N8 ((os s).map λy=>V.ref y.2) none (some (jj+1))=((os s).take (j+1)).map λy=>V.ref y.2:=by
     rw[show jj+1=((j+1:Nat):Int) by lia,qj (by rw[Ac0];lia),List.map_take]
    rw[ecut]
    have uS:=Ag (o:=.lst (((os s).take (j+1)).map λy=>V.ref y.2)) hSc
    have hSe:upd HC Sc (.lst (((os s).take (j+1)).map λy=>V.ref y.2)) Sc=some (.lst (((os s).take (j+1)).map λy=>V.ref y.2)):=Ad
    generalize upd HC Sc (.lst (((os s).take (j+1)).map λy=>V.ref y.2))=HD at*
    have tkm: ∀y∈(os s).take (j+1),y∈ml:=λy hy=>(ho s y).mp (Ahh hy)
    have tkl:((os s).take (j+1)).length<=200:=by rw[Aek];lia
    refine⟨Sc,(os s).take (j+1),rfl,⟨hSe,(λy hy=>(hml y (tkm y hy)).1.up ((SB.trans sC).trans uS)),by lia⟩,(λy hy=>lq (hml y (tkm y hy)).2.1),tkl,λDd rs2 HE sE nE eE tE oE lE=>?_⟩
    have JD:=(I.up sC).up uS
    have JE:=JD.up sE
    refine⟨.inl ⟨rfl,_,SqL.of JE.hd⟩,λpa hpa=>?_⟩
    conv=>whnf
    have u4:=Ag (o:=.tup [.ref Df,.ref Dd]) hpa
    have JF:=JE.up u4
    have hpF:Frm (MDb kk mm tt bs Hd) (upd HE pa (.tup [.ref Df,.ref Dd])) pa=some (.tup [.ref Df,.ref Dd]):=Frm.laid (M:=MDb kk mm tt bs Hd) (λb h=>JE.mk_ h) hpa
    have sFf:=(uS.trans sE).trans u4
    generalize upd HE pa (.tup [.ref Df,.ref Dd])=HF at*
    have heq:=(TdsOk.move hM oC).uniq (hUU tkm) oE
    have halF:AlH (Frm (MDb kk mm tt bs Hd) HF) 6 (.ref Df) (.ref Dd):=om (n:=2) (Frm.iff.mpr ⟨(λz=>I.mk_ z nC),sFf _ _ eC⟩) (Frm.iff.mpr ⟨(λz=>JD.mk_ z nE),u4 _ _ eE⟩) heq (λr hr=>((tC r hr).up sFf).upT JF.tupF) (λr hr=>((tE r hr).up u4).upT JF.tupF) (by lia)
    refine⟨Hd,_,_,rfl,rfl,JF.hd,(by rw[Ac0,Aeh];lia),?_⟩
    conv=>whnf
    have JG:=JF.keep ⟨_,_,hpF,halF⟩
    have halG:AlH (upd HF Hd (.lst (hs'.map V.ref++[.ref pa]))) 6 (.ref Df) (.ref Dd):=(halF.up (show Same (Frm (MDb kk mm tt bs Hd) HF) (Frm (MDb kk mm tt bs Hd) (upd HF Hd (.lst (hs'.map V.ref++[.ref pa])))) from Frm.put (.inr rfl))).up Frm.same
    generalize upd HF Hd (.lst (hs'.map V.ref++[.ref pa]))=HG at*
    refine⟨_,_,rfl,halG,λHI sI=>Gk ?_⟩
    have J:=JG.up sI
    clear halG JG hpF halF JF JE JD I u4 sFf eC tC oC nC eE tE oE nE heq hSe uS sE sC hx dx SB hpa hSc
    have SI:=J.base.trans Frm.same
    obtain⟨dx,hx⟩:=(J.tab s).ins
    refine⟨SqL.of (SI _ _ eT),Lk s,hx,rfl,⟨rfl,rfl⟩,x s,kk s,mm s,tt s,ms' s,bs s,ts s,rfl,J.tab s,J.tl s,h64,λD3 r3 HJ sJ nJ eJ _ _ lJ=>⟨.inl ⟨rfl,_,SqL.of eJ⟩,λp3 hp3=>⟨D3,_,_,rfl,rfl,(Ag hp3) _ _ eJ,(by rw[Ac0,Aeh];lia),?_⟩⟩⟩
    conv=>whnf
    replace J:=J.up (Oh sJ nJ hp3 (o:=.tup [.str "off",.int 0]) (u:=.lst ((r3.map λr=>V.ref r.2)++[.ref p3])))
    generalize upd (upd HJ p3 (.tup [.str "off",.int 0])) D3 (.lst ((r3.map λr=>V.ref r.2)++[.ref p3]))=HK at*
    clear SI hx dx eJ sJ nJ hp3
    have SK:=J.base.trans Frm.same
    obtain⟨dx,hx⟩:=(J.tab s).ins
    refine⟨SqL.of (SK _ _ eT),Lk s,hx,rfl,⟨rfl,rfl⟩,SqL.of (SK _ _ hL),a0,x s,kk s,mm s,tt s,ms' s,bs s,ts s,a1,rfl,J.tab s,J.tl s,h64,λD4 z4 HL sL nL eL _ _ lL=>⟨.inl ⟨rfl,_,SqL.of eL⟩,λp4 hp4=>⟨D4,_,_,rfl,rfl,(Ag hp4) _ _ eL,(by rw[Ac0,Aeh];lia),?_⟩⟩⟩
    exact⟨ms',bs,ts,hs'++[pa],_,_,_,J.up (Oh sL nL hp4),hM,hR,by rw[Ade];show _+1<=_;lia,rfl⟩
   rintro σ HA ⟨ms',bs,ts,hs',z9,z10,z11,I,hM,hR,hh',rfl⟩
   rw[Ac0,Ad7] at hM hh'
   refine⟨ms',bs,ts,hs',_,_,_,_,_,_,_,_,I,λr=>?_,by lia,rfl⟩
   by_cases e:r=s
   ·
    subst e
    refine⟨λ_=>by rw[hM,Af5 (by lia)],λh=>by lia⟩
   ·
    have:=t8 e
    have:=Xn r
    have:=Xn s
    rw[hR r e]
    exact⟨λh=>(hm r).1 (by lia),λh=>(hm r).2 (by lia)⟩
  rintro σ H9 ⟨ms,bs,ts,hs,y2,ask,y8,y9,y10,y11,y12,y13,I,hm,hh,rfl⟩
  have hM: ∀r,inM (ms r)=inM (os r):=λr=>(hm r).1 (by rw[Ac0,Ad7];have:=Xn r;lia)
  have h64: ∀r,(ms r).length<64:=λr=>few (s:=r) (j:=(os r).length) (I.nd r) (by rw[Afd];exact hM r)
  have hM2: ∀r,inM (ms r)=inM ml:=λr=>by
   rw[hM r]
   funext z
   refine propext ⟨λh=>?_,λh=>?_⟩
   · obtain⟨y,hy,e⟩:=Ac2.mp h;exact Ac2.mpr ⟨y,(ho r y).mp hy,e⟩
   · obtain⟨y,hy,e⟩:=Ac2.mp h;exact Ac2.mpr ⟨y,(ho r y).mpr hy,e⟩
  have hU:=hUU (m2:=ml) λ_ h=>h
  have S9:=I.base.trans Frm.same
  clear hm few hM ho fD
  refine⟨sa,ns,_,rfl,(sH.trans S9).seq hS,by decide,?_⟩
  refine⟨Tb,rfl,⟨_,SqL.of (S9 _ _ eT)⟩,?_⟩
  have tbs: ∀z∈[V.ref (x false),V.ref (x true)],∃r,z=.ref (x r):=by
   intro z hz
   simp only[Ado,Agn,or_false] at hz
   rcases hz with rfl|rfl<;>exact⟨_,rfl⟩
  refine Bj (Bp (K:=K) (SqL.of (S9 _ _ eT))) (λ_=>true) (λ_=>.bl true) (by show 2<=100000;decide) (λx _ H' _ R hR=>hR H' (Same.refl _)) ?_ (λDD HA sA _ hDD=>?_)
  ·
   intro z hz _ H' sm R hR
   obtain⟨r,rfl⟩:=tbs z hz
   exact⟨x r,kk r,mm r,tt r,ms r,bs r,ts r,A1,ml,L,nl,_,rfl,(I.tab r).up sm,(I.tl r).up sm,h64 r,⟨(S9.trans sm) _ _ hA1,(λy hy=>(hml y hy).1.up (S9.trans sm)),by lia⟩,(λy hy=>lq (hml y hy).2.1),by lia,(S9.trans sm) _ _ hL,by lia,by lia,hM2 r,hU,λH'' s''=>hR H'' s''⟩
  refine⟨DD,[true,true],rfl,SqL.of hDD,Gk ?_⟩
  replace I:=I.up sA
  replace S9:=S9.trans sA
  clear hDD sA
  refine⟨A1,ml,rfl,⟨S9 _ _ hA1,(λy hy=>(hml y hy).1.up S9),by lia⟩,(λy hy=>lq (hml y hy).2.1),by lia,λDt rs HB sB nB eB tB oB lB=>⟨Dt,rfl,⟨_,SqL.of eB⟩,?_⟩⟩
  replace I:=I.up sB
  replace S9:=S9.trans sB
  refine Lf (Bp (K:=K) (SqL.of eB)) (λi σ H'=>Same HB H'/\ ∃u12 u13,σ=[some (.ref sa),some (.ref L),y2,some (.ref A1),some (.ref Tb),some (.ref O),some (.bl ask),some (.ref Hd),y8,y9,y10,y11,u12,u13]) ⟨Same.refl _,_,_,rfl⟩ (λ_ _ _ _ h=>h.1) ?_ ?_
  ·
   rintro i v σ HC hv ⟨sC,u12,u13,rfl⟩
   obtain⟨r,hr,rfl⟩:=Ac2.mp (Ad6 hv)
   clear hv
   obtain⟨q1,q2,q3,q4,q5,e0,_⟩:=(tB r hr).at_
   refine⟨Tb,rfl,⟨_,SqL.of ((S9.trans sC) _ _ eT)⟩,?_⟩
   refine Bj (Bp (K:=K) (SqL.of ((S9.trans sC) _ _ eT))) (λ_=>true) (λ_=>.bl true) (by show 2<=100000;decide) (λx _ H' _ R hR=>hR H' (Same.refl _)) ?_ (λDD HA sA _ hDD=>?_)
   ·
    intro z hz _ H' sm R hR
    obtain⟨q,rfl⟩:=tbs z hz
    have sq:=sC.trans sm
    obtain⟨dx,hx⟩:=((I.tab q).up sq).ins
    refine⟨hx,rfl,⟨rfl,rfl⟩,SqT.of (sq _ _ e0),Kv,SqT.of (sq _ _ e0),Za,x q,kk q,mm q,tt q,ms q,bs q,ts q,r.1.a,r.1.n,rfl,(I.tab q).up sq,λHE sE=>⟨_,_,rfl,?_,λHF sF=>hR HF (sE.trans sF)⟩⟩
    refine(Zp (k:=(r.1.a,r.1.n)) ((I.tl q).up sq) (by rw[Sy (hM2 q)];exact hU _) (.inr ⟨r.2,r.1,rfl,(tB r hr).up sq,?_⟩)).up sE
    rw[Sy (hM2 q)]
    exact oB.is_ r.1 (Ada hr)
   exact⟨DD,[true,true],rfl,SqL.of hDD,Gk ⟨sC.trans sA,_,_,rfl⟩⟩
  rintro σ HC ⟨sC,u12,u13,rfl⟩
  replace I:=I.up sC
  replace S9:=S9.trans sC
  clear eB tB oB nB sB sC tbs
  obtain⟨d0,x0⟩:=(I.tab false).ins
  refine⟨SqL.of (S9 _ _ eT),Kv,x0,rfl,⟨rfl,rfl⟩,x false,kk false,mm false,tt false,ms false,bs false,ts false,rfl,I.tab false,h64 false,λDa ra nDa pa qa=>?_⟩
  conv=>whnf
  have uA:=Ag (o:=.lst (ra.map λr=>V.ref r.2)) nDa
  have hDa:upd HC Da (.lst (ra.map λr=>V.ref r.2)) Da=some (.lst (ra.map λr=>V.ref r.2)):=Ad
  replace I:=I.up uA
  replace S9:=S9.trans uA
  generalize upd HC Da (.lst (ra.map λr=>V.ref r.2))=HD at*
  obtain⟨d1,x1'⟩:=(I.tab true).ins
  refine⟨SqL.of (S9 _ _ eT),Za,x1',rfl,⟨rfl,rfl⟩,x true,kk true,mm true,tt true,ms true,bs true,ts true,rfl,I.tab true,h64 true,λDb rb nDb pb qb=>?_⟩
  conv=>whnf
  have uB:=Ag (o:=.lst (rb.map λr=>V.ref r.2)) nDb
  have hDb:upd HD Db (.lst (rb.map λr=>V.ref r.2)) Db=some (.lst (rb.map λr=>V.ref r.2)):=Ad
  replace hDa:=uB _ _ hDa
  replace I:=I.up uB
  generalize upd HD Db (.lst (rb.map λr=>V.ref r.2))=HE at*
  have hnk:(ra.map λy=>y.1.nk)=rb.map λy=>y.1.nk:=by
   refine DX.Li Dn (((pa.map _).trans ?_).trans (pb.map _).symm) qa qb
   refine(List.perm_ext_iff_of_nodup (I.nd false) (I.nd true)).mpr λz=>?_
   have e:inM (ms false)=inM (ms true):=(hM2 false).trans (hM2 true).symm
   constructor
   ·
    intro h
    obtain⟨y,hy,rfl⟩:=Ac2.mp h
    have h1:inM (ms false) y.1:=Ada hy
    rw[e] at h1
    obtain⟨y',hy',e'⟩:=Ac2.mp h1
    exact Ac2.mpr ⟨y',hy',by rw[e']⟩
   ·
    intro h
    obtain⟨y,hy,rfl⟩:=Ac2.mp h
    have h1:inM (ms true) y.1:=Ada hy
    rw[←e] at h1
    obtain⟨y',hy',e'⟩:=Ac2.mp h1
    exact Ac2.mpr ⟨y',hy',by rw[e']⟩
  refine⟨Da,Db,nks ra,nks rb,rfl,rfl,(by rw[Sx];exact hDa),(by rw[Sx];exact hDb),ff (λy hy=>(I.tab false).ok y (pa.mem_iff.mp hy)),ff (λy hy=>(I.tab true).ok y (pb.mem_iff.mp hy)),(by unfold nks;rw[Adc,Adc];exact hnk),Lj ?_⟩
  obtain⟨rs2,hrs,hq⟩:=U0 λh hh=>(I.held h hh).up Frm.same
  have hHd:=I.hd
  rw[hrs,Adc] at hHd
  have hrl:rs2.length<=1000:=by have e:=Aea List.length hrs;rw[Ac0] at e;rw[Ac0,Ad7] at hh;lia
  refine⟨Hd,rfl,⟨_,SqL.of hHd⟩,?_⟩
  refine j3 (Bp (K:=K) (SqL.of hHd)) (λr hr=>(hq r hr).1) (λ_=>.bl true) (by lia) (λ_ _ _ h=>h) ?_ (λD H5 s5 hD0 hD=>?_)
  ·
   intro r hr H' sm R hR
   exact⟨_,_,rfl,(hq r hr).2.up sm,λH'' s''=>hR H'' s''⟩
  rw[jl] at hD
  refine⟨D,_,rfl,SqL.of hD,?_⟩
  conv=>whnf
  rw[Xd]
  exact k _
end
theorem txt_mk {K:W.Frag}{h:Heap}{mg:Str->Option Value}(X:K.In h)(G:h.Ns mainGlobals mg)
  {Aj:Addr}
  {fqf fq13 fqq fqo fql fqg fqt fq12 fq8 fq3 fq5 fqh fqa fqn fqc fqy fq0 fq10 fq11 fqe fqd fq9 fqv fq4 fqb fqi fqm fq15 fqp fqk fq6 fq7 fqr fqs fqz fq2 fq14 fqx fqu fqj fqw fq1:Addr}
  {dqf dq13 dqq dqo dql dqg dqt dq12 dq8 dq3 dq5 dqh dqa dqn dqc dqy dq0 dq10 dq11 dqe dqd dq9 dqv dq4 dqb dqi dqm dq15 dqp dqk dq6 dq7 dqr dqs dqz dq2 dq14 dqx dqu dqj dqw dq1:FuncData}
  {fq16:Addr} {ocq16 kVq16 dcq16 pmq16 cdq16 ctq16:Value} {odq16 anq16:Option Addr} {slq16:Array (Option Value)}
  {t_FIGURES:Tok}
  {t_LETTERS:Tok}
  {t_MOST_HANDS:Tok}
  {t_NAME_SIGNS:Tok}
  (aC_Table:W.nsIn K mainGlobals "Table"=some (some (.ref Aj)))
  (pg_Table:W.plainGet K Aj Str.empty=true)
  (hd_Table:W.hasDictIn K Aj=true)
  (po_Table:W.plainOver K Aj=true)
  (sa_Table:W.findIn K (.ref Aj) "__setattr__"=some (some (.builtin "object.__setattr__")))
  (G1:W.makesIn K Aj=true)
  (kc_Table:W.keepIn K (.ref Aj)=true)
  (nf_kept_Table:NoA K Aj "kept")
  (nf_by_meeting_Table:NoA K Aj "by_meeting")
  (nf_tellings_Table:NoA K Aj "tellings")
  (aqf:AtM K "is_made_of" fqf) (Fqf:Fun K "is_made_of" "is_made_of" Ha fqf dqf)
  (aq13:AtM K "is_span" fq13) (Fq13:Fun K "is_span" "is_span" N7 fq13 dq13)
  (aqq:AtM K "is_number" fqq) (Fqq:Fun K "is_number" "is_number" Le fqq dqq)
  (aqo:AtM K "is_rising" fqo) (Fqo:Fun K "is_rising" "is_rising" Jb fqo dqo)
  (aql:AtM K "turn_first" fql) (Fql:Fun K "turn_first" "turn_first" Kb fql dql)
  (aqg:AtM K "answers_of" fqg) (Fqg:Fun K "answers_of" "answers_of" J9 fqg dqg)
  (aqt:AtM K "with_word" fqt) (Fqt:Fun K "with_word" "with_word" Gh fqt dqt)
  (aq12:AtM K "is_held" fq12) (Fq12:Fun K "is_held" "is_held" Ot fq12 dq12)
  (aq8:AtC K Aj "__init__" fq8) (iq8:IsF K fq8) (Fq8:Fun K "__init__" "Table.__init__" Hh fq8 dq8)
  (aq3:AtC K Aj "letters" fq3) (iq3:IsF K fq3) (Fq3:Fun K "letters" "Table.letters" Gg fq3 dq3)
  (aq5:AtC K Aj "meeting" fq5) (iq5:IsF K fq5) (Fq5:Fun K "meeting" "Table.meeting" F6 fq5 dq5)
  (aqh:AtC K Aj "told" fqh) (iqh:IsF K fqh) (Fqh:Fun K "told" "Table.told" Gz fqh dqh)
  (aqa:AtM K "_law_cell_at" fqa) (Fqa:Fun K "_law_cell_at" "_law_cell_at" Jg fqa dqa)
  (aqn:AtM K "_law_mixed" fqn) (Fqn:Fun K "_law_mixed" "_law_mixed" Lh fqn dqn)
  (aqc:AtM K "_law_name_by" fqc) (Fqc:Fun K "_law_name_by" "_law_name_by" Ij fqc dqc)
  (aqy:AtM K "_law_key" fqy) (Fqy:Fun K "_law_key" "_law_key" Pd fqy dqy)
  (aq0:AtM K "_law_meeting_by" fq0) (Fq0:Fun K "_law_meeting_by" "_law_meeting_by" Bd fq0 dq0)
  (aq10:AtM K "is_name" fq10) (Fq10:Fun K "is_name" "is_name" P1 fq10 dq10)
  (aq11:AtM K "is_from" fq11) (Fq11:Fun K "is_from" "is_from" Ov fq11 dq11)
  (aqe:AtM K "told_of_bid" fqe) (Fqe:Fun K "told_of_bid" "told_of_bid" C5 fqe dqe)
  (aqd:AtC K Aj "holds" fqd) (iqd:IsF K fqd) (Fqd:Fun K "holds" "Table.holds" C8 fqd dqd)
  (aq9:AtM K "_law_names_by" fq9) (Fq9:Fun K "_law_names_by" "_law_names_by" E3 fq9 dq9)
  (aqv:AtM K "_law_some" fqv) (Fqv:Fun K "_law_some" "_law_some" Hq fqv dqv)
  (aq4:AtM K "_law_answer_of" fq4) (Fq4:Fun K "_law_answer_of" "_law_answer_of" Du fq4 dq4)
  (aqb:AtM K "_law_told_by" fqb) (Fqb:Fun K "_law_told_by" "_law_told_by" Fz fqb dqb)
  (aqi:AtM K "_law_orders" fqi) (Fqi:Fun K "_law_orders" "_law_orders" B9 fqi dqi)
  (aqm:AtM K "is_called" fqm) (Fqm:Fun K "is_called" "is_called" Lo fqm dqm)
  (aq15:AtM K "is_off" fq15) (Fq15:Fun K "is_off" "is_off" Sa fq15 dq15)
  (aqp:AtM K "latest_of" fqp) (Fqp:Fun K "latest_of" "latest_of" Jj fqp dqp)
  (aqk:AtM K "_law_bid_of" fqk) (Fqk:Fun K "_law_bid_of" "_law_bid_of" Jz fqk dqk)
  (aq6:AtM K "_law_close_of" fq6) (Fq6:Fun K "_law_close_of" "_law_close_of" Hj fq6 dq6)
  (aq7:AtM K "_law_holds_by" fq7) (Fq7:Fun K "_law_holds_by" "_law_holds_by" Hg fq7 dq7)
  (aqr:AtM K "are_hands" fqr) (Fqr:Fun K "are_hands" "are_hands" Iy fqr dqr)
  (aqs:AtM K "is_answer" fqs) (Fqs:Fun K "is_answer" "is_answer" Lc fqs dqs)
  (aqz:AtM K "told_of" fqz) (Fqz:Fun K "told_of" "told_of" O1 fqz dqz)
  (aq2:AtM K "_law_letter_by" fq2) (Fq2:Fun K "_law_letter_by" "_law_letter_by" F7 fq2 dq2)
  (aq14:AtM K "is_bid" fq14) (Fq14:Fun K "is_bid" "is_bid" Sl fq14 dq14)
  (aqx:AtM K "is_close" fqx) (Fqx:Fun K "is_close" "is_close" Mz fqx dqx)
  (aqu:AtM K "is_letter" fqu) (Fqu:Fun K "is_letter" "is_letter" La fqu dqu)
  (aqj:AtC K Aj "take" fqj) (iqj:IsF K fqj) (Fqj:Fun K "take" "Table.take" Kj fqj dqj)
  (aqw:AtM K "_law_like" fqw) (Fqw:Fun K "_law_like" "_law_like" Kn fqw dqw)
  (aq1:AtM K "_law_told_well" fq1) (Fq1:Fun K "_law_told_well" "_law_told_well" Gb fq1 dq1)
  (aq16:W.nsIn K mainGlobals "law"=some (some (.ref fq16))) (lq16:K.lookup fq16=some ⟨ocq16,odq16,.func (W.fnOf "law" "law" (Gf P8) (Fi P8) (Af P8) .none kVq16 dcq16 pmq16 anq16 cdq16 ctq16),slq16⟩) (eq16:W.codeIn K cdq16 "law"=true) (kq16:W.keepIn K (.ref fq16)=true)
  (J4:W.nsIn K mainGlobals "FIGURES"=some (some (.str "0123456789" t_FIGURES)))
  (Hn:W.nsIn K mainGlobals "LETTERS"=some (some (.str "abcdefghijklmnopqrstuvwxyz" t_LETTERS)))
  (Fb:W.nsIn K mainGlobals "MOST_HANDS"=some (some (.int 20 t_MOST_HANDS)))
  (E9:W.nsIn K mainGlobals "NAME_SIGNS"=some (some (.int 8 t_NAME_SIGNS)))
  (Oj:NoM K "all")
  (Q6:NoM K "bool")
  (Wl:NoM K "int")
  (Ba:NoM K "isinstance")
  (Cy:NoM K "len")
  (Ob:NoM K "list")
  (Ui:NoM K "max")
  (az:NoM K "min")
  (Fh:NoM K "range")
  (Ci:NoM K "sorted")
  (W0:NoM K "str")
  (Cd:NoM K "tuple"):
  ∃a:Adr,Txt K mg a/\a.Y3=fq16/\ ∀(s:Shared)(v:Value),BindsTo s a.Ww ⟨[v],[]⟩ [("_law_script",v)]:=by
 have Fq16:=oo (st:=P8) lq16 eq16 kq16
 have bq16:=Fq16.binds (ps:=["_law_script"]) λ_ _ _ _ _ _ us hl=>by obtain⟨_,rfl⟩:=L2.ex1 hl;exact rfl
 exact⟨{G9:=fqf,Gy:=_,L5:=fq13,L4:=_,Jq:=fqq,Ja:=_,Ig:=fqo,Iz:=_,Hc:=fql,Gq:=_,Gs:=fqg,G5:=_,Iv:=fqt,Hy:=_,Mf:=fq12,Mc:=_,Ex:=fq8,E4:=_,C1:=fq3,C7:=_,Dp:=fq5,Dy:=_,G3:=fqh,G2:=_,Fp:=fqa,Fq:=_,I0:=fqn,Ir:=_,Fy:=fqc,Fm:=_,Mh:=fqy,L0:=_,Cp:=fq0,Cn:=_,Ma:=fq10,L1:=_,L6:=fq11,L9:=_,Fw:=fqe,Fo:=_,Fv:=fqd,Fx:=_,Es:=fq9,Ew:=_,Ko:=fqv,Ks:=_,Dc:=fq4,Dm:=_,Fn:=fqb,F0:=_,Gx:=fqi,Hb:=_,Ip:=fqm,Ji:=_,Nz:=fq15,N3:=_,Ib:=fqp,Im:=_,G6:=fqk,Gr:=_,E8:=fq6,E7:=_,Ey:=fq7,Eu:=_,Jf:=fqr,Hz:=_,Iu:=fqs,Hx:=_,Mj:=fqz,Md:=_,Dr:=fq2,Di:=_,N5:=fq14,N1:=_,Kl:=fqx,Kq:=_,Ii:=fqu,Jo:=_,G7:=fqj,G8:=_,Eg:=fqw,Ei:=_,C2:=fq1,Dj:=_,Y3:=fq16,Ww:=_,Aj:=Aj},⟨Fqf,Aeq X G aqf,Fqf.b2 (by intros;rfl),Fq13,Aeq X G aq13,Fq13.b2 (by intros;rfl),Fqq,Aeq X G aqq,Fqq.b1 (by intros;rfl),Fqo,Aeq X G aqo,Fqo.b1 (by intros;rfl),Fql,Aeq X G aql,Fql.b1 (by intros;rfl),Fqg,Aeq X G aqg,Fqg.b2 (by intros;rfl),Fqt,Aeq X G aqt,Fqt.b3 (by intros;rfl),Fq12,Aeq X G aq12,Fq12.b2 (by intros;rfl),Fq8,Fq8.b1 (by intros;rfl),Fq3,Fq3.b1 (by intros;rfl),Fq5,Fq5.b3 (by intros;rfl),Fqh,Fqh.b1 (by intros;rfl),Fqa,Aeq X G aqa,Fqa.b2 (by intros;rfl),Fqn,Aeq X G aqn,Fqn.b3 (by intros;rfl),Fqc,Aeq X G aqc,Fqc.b2 (by intros;rfl),Fqy,Aeq X G aqy,Fqy.b5 (by intros;rfl),Fq0,Aeq X G aq0,Fq0.b3 (by intros;rfl),Fq10,Aeq X G aq10,Fq10.b1 (by intros;rfl),Fq11,Aeq X G aq11,Fq11.b2 (by intros;rfl),Fqe,Aeq X G aqe,Fqe.b2 (by intros;rfl),Fqd,Fqd.b2 (by intros;rfl),Fq9,Aeq X G aq9,Fq9.b1 (by intros;rfl),Fqv,Aeq X G aqv,Fqv.b5 (by intros;rfl),Fq4,Aeq X G aq4,Fq4.b6 (by intros;rfl),Fqb,Aeq X G aqb,Fqb.b1 (by intros;rfl),Fqi,Aeq X G aqi,Fqi.b2 (by intros;rfl),Fqm,Aeq X G aqm,Fqm.b1 (by intros;rfl),Fq15,Aeq X G aq15,Fq15.b1 (by intros;rfl),Fqp,Aeq X G aqp,Fqp.b1 (by intros;rfl),Fqk,Aeq X G aqk,Fqk.b5 (by intros;rfl),Fq6,Aeq X G aq6,Fq6.b5 (by intros;rfl),Fq7,Aeq X G aq7,Fq7.b2 (by intros;rfl),Fqr,Aeq X G aqr,Fqr.b3 (by intros;rfl),Fqs,Aeq X G aqs,Fqs.b1 (by intros;rfl),Fqz,Aeq X G aqz,Fqz.b1 (by intros;rfl),Fq2,Aeq X G aq2,Fq2.b3 (by intros;rfl),Fq14,Aeq X G aq14,Fq14.b1 (by intros;rfl),Fqx,Aeq X G aqx,Fqx.b1 (by intros;rfl),Fqu,Aeq X G aqu,Fqu.b1 (by intros;rfl),Fqj,Fqj.b2 (by intros;rfl),Fqw,Aeq X G aqw,Fqw.b2 (by intros;rfl),Fq1,Aeq X G aq1,Fq1.b4 (by intros;rfl),Fq16,Aeq X G aq16,bq16,⟨_,Aeq X G J4⟩,⟨_,Aeq X G Hn⟩,⟨_,Aeq X G Fb⟩,⟨_,Aeq X G E9⟩,Aeq X G aC_Table,⟨pg_Table,hd_Table,po_Table,sa_Table⟩,⟨G1,aq8,iq8,kc_Table⟩,nf_kept_Table,nf_by_meeting_Table,nf_tellings_Table,⟨aqd,iqd,Fqd.kp⟩,⟨aq3,iq3,Fq3.kp⟩,⟨aq5,iq5,Fq5.kp⟩,⟨aqj,iqj,Fqj.kp⟩,⟨aqh,iqh,Fqh.kp⟩,Afk X G Oj,Afk X G Q6,Afk X G Wl,Afk X G Ba,Afk X G Cy,Afk X G Ob,Afk X G Ui,Afk X G az,Afk X G Fh,Afk X G Ci,Afk X G W0,Afk X G Cd⟩,rfl,λs v=>.of_eq rfl⟩
end K65
namespace K65
open PySem L2
theorem walk {l:W.OpenLaw}{q:Program}{loose:List Str}{XP:(Str->Option Value)->Heap->Prop}{YP:World->Heap->Prop}{d:DefRec}{K:Params->W.Frag}(hn:l.most=some 63)(hdf:d.params.defaults=[])
  (hY: ∀(w:World)(h:Heap),YP w h->(K w.params).In h)
  (F: ∀(w:World)(mg:Str->Option Value)(fa:Addr)(h:Heap),(K w.params).In h->h.Ns mainGlobals mg->mg d.name=some (.ref fa)->
   ∃fd:FuncData,(∀(s:Shared)(u:Value),BindsTo s fd ⟨[u],[]⟩ [("_law_script",u)])/\ ∀base:Heap,(K w.params).In base->base.Ns mainGlobals mg->FnOk l.prog w (K w.params) mg base CX0 true 33 fa fd ["_law_script"] (Xt (K w.params))):
  W.WalkO q loose XP YP l.row.toRowW d [] (λf vs=>PySem.call f vs):=
 L2.ue (cm:=true) (n:=63) (k:=33) (x:="_law_script") (CX:=λ_=>CX0) (sp:=λw=>Xt (K w.params)) hn (by decide) hdf ⟨λ_=>rfl,by decide,by decide⟩ hY F (λ_ _ a ns hl _ hS=>⟨a,ns,rfl,hS,hl,λ_=>rfl⟩) λ_ _ _ _ _ z=>z
theorem all_ok {l:W.OpenLaw}{w:World}{K:W.Frag}{mg:Str->Option Value}{fa f:Addr}(hfa:mg "law"=some (.ref fa))
  (h: ∃a:Adr,Txt K mg a/\a.Y3=f/\ ∀(s:Shared)(v:Value),BindsTo s a.Ww ⟨[v],[]⟩ [("_law_script",v)]):
  ∃fd:FuncData,(∀(s:Shared)(u:Value),BindsTo s fd ⟨[u],[]⟩ [("_law_script",u)])/\ ∀base:Heap,K.In base->base.Ns mainGlobals mg->FnOk l.prog w K mg base CX0 true 33 fa fd ["_law_script"] (Xt K):=by
 obtain⟨a,T,_,hb⟩:=h
 have e:=T.Aan
 rw[hfa] at e
 cases e
 exact⟨a.Ww,hb,λbase _ _=>yb T⟩
end K65
open PySem PySem.W PyProof.Rows
set_option maxRecDepth 100000 in
set_option maxHeartbeats 0 in
theorem PySem.Challenge.cw_hourhouse_k65_whole_in_whatever_order_holds : PySem.Challenge.rw_hourhouse_k65_whole_in_whatever_order.Holds := by
 w_on; o_law; k_head; (case hw => w_witness2)
 k_fill
 refine K65.walk (l := PySem.Challenge.rw_hourhouse_k65_whole_in_whatever_order) rfl rfl (λ w h Y => W.kIn_of Y) ?F
 case F =>
  intro w mg fa h KX G hmg
  refine' K65.all_ok hmg (K65.txt_mk KX G ?aC_Table ?pg_Table ?hd_Table ?po_Table ?sa_Table ?G1 ?kc_Table ?nf_kept_Table ?nf_by_meeting_Table ?nf_tellings_Table ?aqf ?Fqf ?aq13 ?Fq13 ?aqq ?Fqq ?aqo ?Fqo ?aql ?Fql ?aqg ?Fqg ?aqt ?Fqt ?aq12 ?Fq12 ?aq8 ?iq8 ?Fq8 ?aq3 ?iq3 ?Fq3 ?aq5 ?iq5 ?Fq5 ?aqh ?iqh ?Fqh ?aqa ?Fqa ?aqn ?Fqn ?aqc ?Fqc ?aqy ?Fqy ?aq0 ?Fq0 ?aq10 ?Fq10 ?aq11 ?Fq11 ?aqe ?Fqe ?aqd ?iqd ?Fqd ?aq9 ?Fq9 ?aqv ?Fqv ?aq4 ?Fq4 ?aqb ?Fqb ?aqi ?Fqi ?aqm ?Fqm ?aq15 ?Fq15 ?aqp ?Fqp ?aqk ?Fqk ?aq6 ?Fq6 ?aq7 ?Fq7 ?aqr ?Fqr ?aqs ?Fqs ?aqz ?Fqz ?aq2 ?Fq2 ?aq14 ?Fq14 ?aqx ?Fqx ?aqu ?Fqu ?aqj ?iqj ?Fqj ?aqw ?Fqw ?aq1 ?Fq1 ?aq16 ?lq16 ?eq16 ?kq16 ?J4 ?Hn ?Fb ?E9 ?Oj ?Q6 ?Wl ?Ba ?Cy ?Ob ?Ui ?az ?Fh ?Ci ?W0 ?Cd)
  case aC_Table | J4 | Hn | Fb | E9 => k_is
  case aqf | aq13 | aqq | aqo | aql | aqg | aqt | aq12 | aqa | aqn | aqc | aqy | aq0 | aq10 | aq11 | aqe | aq9 | aqv | aq4 | aqb | aqi | aqm | aq15 | aqp | aqk | aq6 | aq7 | aqr | aqs | aqz | aq2 | aq14 | aqx | aqu | aqw | aq1 => unfold L2.AtM; k_is
  case aq8 | aq3 | aq5 | aqh | aqd | aqj => unfold L2.AtC; k_is
  case aq16 => k_is
  case lq16 => k_is
  case pg_Table | hd_Table | po_Table | sa_Table | G1 | kc_Table | eq16 | kq16 => k_is
  case nf_kept_Table | nf_by_meeting_Table | nf_tellings_Table => unfold L2.NoA; k_is
  case Fqf | Fq13 | Fqq | Fqo | Fql | Fqg | Fqt | Fq12 | Fq8 | Fq3 | Fq5 | Fqh | Fqa | Fqn | Fqc | Fqy | Fq0 | Fq10 | Fq11 | Fqe | Fqd | Fq9 | Fqv | Fq4 | Fqb | Fqi | Fqm | Fq15 | Fqp | Fqk | Fq6 | Fq7 | Fqr | Fqs | Fqz | Fq2 | Fq14 | Fqx | Fqu | Fqj | Fqw | Fq1 => refine' L2.oo ?l ?c ?k; (case l => k_is); (case c => k_is); (case k => k_is)
  case iq8 | iq3 | iq5 | iqh | iqd | iqj => unfold L2.IsF; k_is
  case Oj | Q6 | Wl | Ba | Cy | Ob | Ui | az | Fh | Ci | W0 | Cd => unfold L2.NoM; k_is
