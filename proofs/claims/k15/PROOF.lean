import PyProof.Rows.All
import Wide.All
import OpenK.AllK
import Wide.FinOn
import Lean
import PyProof.EqAt
import PyProof.EqKinds
import PyProof.TupleCall
import PySem.Challenge.RW_hourhouse_k15_whole_days_of_rules
set_option Elab.async false
set_option linter.all false
set_option maxRecDepth 100000
/-! These names are taken so that the head makes no twins of its heaps, trees and objects: the compiled file would be too big. Nothing refers to them, and they prove nothing. -/
namespace PySem.W.Fast
def tw929049809202456135 := ()
def tw14227165706197956691 := ()
def tw6971138142561449162 := ()
def tw12733236735554011106 := ()
def tw15925774834018017214 := ()
def tw17970411415040055702 := ()
def tw8249416689736976812 := ()
def tw7352420263923976181 := ()
def tw10441632020700150440 := ()
def tw13089862277658908823 := ()
def tw3332419961447738742 := ()
def tw4902673401253383324 := ()
def tw5080405703415150535 := ()
def tw15147029732303768322 := ()
def tw1517478790617304172 := ()
def tw3090224486372440154 := ()
def tw14959595638593494461 := ()
def tw12090734680066580913 := ()
def tw4177840292642383766 := ()
def tw2353868373683934713 := ()
def tw3316985716965275499 := ()
def tw17454016054278748416 := ()
def tw6786325225967252986 := ()
def tw17336827521248391259 := ()
def tw12857811103003908161 := ()
def tw11166777277364807784 := ()
def tw11702804738703490112 := ()
def tw5406431088397177902 := ()
def tw2095118634180083932 := ()
def tw13317114613020807605 := ()
def tw1123391568032565605 := ()
def tw5958614943885977978 := ()
def tw9180242213610427315 := ()
def tw5862244835125095648 := ()
def tw13335642326795912233 := ()
def tw6655598150957271607 := ()
def tw4117137589554321701 := ()
def tw752513298869798105 := ()
def tw9312716630990590853 := ()
def tw10414673924439483501 := ()
def tw12406707782678542988 := ()
def tw4697847687857298201 := ()
def tw5448690485457490887 := ()
def tw10299314990207876687 := ()
def tw15650122730013616917 := ()
def tw2127667465706962910 := ()
def tw9645754050557947008 := ()
def tw15976914250079999497 := ()
def tw4919429740346502174 := ()
def tw6266716473686571486 := ()
def tw8113958329272434069 := ()
def tw14524285365810880780 := ()
def tw16524922259376529625 := ()
def tw9059039871947242923 := ()
def tw2309544121251551553 := ()
def tw1051782837322075546 := ()
def tw6897370300441065510 := ()
def tw11794993452922223121 := ()
def tw9433101908583541049 := ()
def tw14140884583781753360 := ()
def tw12038565854949877864 := ()
def tw9420075823438384196 := ()
def tw8255311133194123927 := ()
def tw6930970081614773140 := ()
def tw9927538030920263493 := ()
def tw16241541493420601367 := ()
def tw1654394733901564948 := ()
def tw749580211388474000 := ()
def tw9002649393281612508 := ()
def tw5561648505072466937 := ()
def tw11005531189448801749 := ()
def tw9917440027670891489 := ()
def tw7420513161162835243 := ()
def tw12907561775600658312 := ()
def tw7167377223703153672 := ()
def tw5409126860412473901 := ()
def tw15145865775426976946 := ()
def tw18251569473997349671 := ()
def tw2574866371115583671 := ()
def tw16422982315454128715 := ()
def tw3072300938370865 := ()
def tw12239608735516178374 := ()
def tw17428536784614507764 := ()
def tw5988060236731044162 := ()
def tw3206464423829751887 := ()
def tw1769389667920598437 := ()
def tw9222238996538169303 := ()
def tw5226148894266020324 := ()
def tw16022584200412845078 := ()
def tw15700353408867981093 := ()
def tw12128672126529409620 := ()
def tw10004989987352710470 := ()
def tw6320740663274103592 := ()
def tw3403650445438570029 := ()
def tw8824366191971078710 := ()
def tw7760826372290010339 := ()
def tw11830462361280165443 := ()
def tw16289914938584101592 := ()
def tw67404579427544081 := ()
def tw3595512706368581689 := ()
def tw13756811072150758203 := ()
def tw6250930789227537192 := ()
def tw3019067411762748506 := ()
def tw15114856336401125929 := ()
def tw5904806890826277088 := ()
def tw5486102094984657984 := ()
def tw13417021783018621290 := ()
def tw17976697629930108217 := ()
def tw7607692360850889237 := ()
def tw12101920943731002221 := ()
def tw12977280828683805136 := ()
def tw11009595740394522302 := ()
def tw16372960905841711939 := ()
def tw11297973909472079007 := ()
def tw10880625208322258424 := ()
def tw5178080709107187184 := ()
def tw9754163460740815401 := ()
def tw14133147667144619258 := ()
def tw15564909578666434410 := ()
def tw15902413756882696075 := ()
def tw6150691649107485184 := ()
def tw5555215731860795657 := ()
def tw1264456298159151298 := ()
def tw3543382555012548194 := ()
def tw4429003114677386064 := ()
def tw2766683353188431037 := ()
def tw14145941837624656654 := ()
def tw4647412229523342243 := ()
def tw5596418955100945028 := ()
def tw16575134398604358106 := ()
def tw10691334810001043346 := ()
def tw5348952977521933766 := ()
def tw10493974559096182111 := ()
def tw14928036820746842714 := ()
def tw8747885154318361636 := ()
def tw12092247115018710294 := ()
def tw13713091577059967280 := ()
def tw4053741374580284555 := ()
def tw12249699462709901504 := ()
def tw6635402141864139701 := ()
def tw360345604552791 := ()
def tw14808481199945162973 := ()
def tw2358021914429158282 := ()
def tw7585516002005805907 := ()
def tw16519291985268001413 := ()
def tw6374367615830347912 := ()
def tw2643417834634020020 := ()
def tw12554889367150917672 := ()
def tw6531889907351247694 := ()
def tw4758059758021352828 := ()
def tw2025438650414218771 := ()
def tw5154853127782983868 := ()
def tw16794076832115987379 := ()
def tw2744235023688474830 := ()
def tw11815398297225686384 := ()
def tw7485479661945754938 := ()
def tw5626474944971417356 := ()
def tw14844815987835185301 := ()
def tw459198177971049533 := ()
def tw5895003373497898678 := ()
def tw2585656568721073809 := ()
def tw2816979718389841564 := ()
def tw15529276269683982287 := ()
def tw3094727947236928289 := ()
def tw17981435544705221410 := ()
def tw339515628863098125 := ()
def tw14598859080485820792 := ()
def tw6403496920925268442 := ()
def tw1077120004381384386 := ()
def tw8518008199516976361 := ()
def tw18042191433856333089 := ()
def tw11489638029345894758 := ()
def tw1908104080963871563 := ()
def tw4187811548396988174 := ()
def tw6484866740130355294 := ()
def tw5786342346076335370 := ()
def tw14169610137768119368 := ()
def tw5959576132542715942 := ()
def tw8740227505171443039 := ()
def tw11944873725593250278 := ()
def tw15362812861280328632 := ()
def tw9692523352582286835 := ()
def tw4408464994012211660 := ()
def tw8105972735730803234 := ()
def tw2262676946846248917 := ()
def tw4013696584796486758 := ()
def tw4243952348707879253 := ()
def tw9033548561268843251 := ()
def tw10730765043844696521 := ()
def tw11320071495228992476 := ()
def tw6762201796378745906 := ()
def tw11325199063534223680 := ()
def tw16976524258954350289 := ()
def tw1069673521308694080 := ()
def tw6582537159977063081 := ()
def tw6946497607808853647 := ()
def tw9753081606825473810 := ()
def tw515581930750394659 := ()
def tw6467337979418951733 := ()
def tw12826138307996291256 := ()
def tw7189360662456091505 := ()
def tw1819302643530944301 := ()
def tw6804210594460052860 := ()
def tw5061905812637977472 := ()
def tw13211073481960140739 := ()
def tw5116499447949041409 := ()
def tw18352922790816305145 := ()
def tw9430870050164663911 := ()
def tw15625008325937948715 := ()
def tw13122470573863659265 := ()
def tw11439485381611380456 := ()
def tw4261220404782711782 := ()
def tw927530615442528533 := ()
def tw5061592571153948523 := ()
def tw2097275428514667953 := ()
def tw8013643020332136217 := ()
def tw11933601466495538380 := ()
def tw13254044580698377145 := ()
def tw9238801738359244535 := ()
def tw18254172663855996754 := ()
def tw17415027184143900862 := ()
def tw8644493025871586841 := ()
def tw7894760093307312679 := ()
def tw8136610708324029817 := ()
def tw5292501170095948097 := ()
def tw3049975046621655430 := ()
def tw11498537370630972746 := ()
def tw18433351448255157447 := ()
def tw16636948848626745727 := ()
def tw5003203016705424057 := ()
def tw3024010732840845440 := ()
def tw14935126464885306835 := ()
def tw14521817907229512844 := ()
def tw13154312803308877412 := ()
def tw5131553061595390189 := ()
def tw16847647633095105385 := ()
def tw5595417331266997414 := ()
def tw9760851165083684857 := ()
def tw16346437199429113151 := ()
def tw8181853098801586811 := ()
def tw8110492223622436465 := ()
def tw10494824289117871828 := ()
def tw7553165883324279904 := ()
def tw11844042109601043068 := ()
def tw1541064392169716503 := ()
def tw5701774580853999582 := ()
def tw13892536634231949826 := ()
def tw5158854253198468824 := ()
def tw8647091713581674992 := ()
def tw16433294852718061197 := ()
def tw15139445240325619193 := ()
def tw14232308204383329586 := ()
def tw14082984918198951514 := ()
def tw14060400129787272234 := ()
def tw12368523519394197171 := ()
def tw16237759539422091993 := ()
def tw13749115081489111734 := ()
def tw5487653380953302651 := ()
def tw17208959587003119994 := ()
def tw16303043591106436867 := ()
def tw9185413938836003918 := ()
def tw13897670557825720513 := ()
def tw10312359223897915751 := ()
def tw14599465579079944919 := ()
def tw3144651621390434985 := ()
def tw16744719373838875688 := ()
def tw14973758031644551915 := ()
def tw15761516133702326261 := ()
def tw14921126063787717042 := ()
def tw13881862073495938882 := ()
def tw18445840804970737666 := ()
def tw14235688208622986581 := ()
def tw2095612615800541374 := ()
def tw15552364700995150511 := ()
def tw13000859935127028069 := ()
def tw2132119072175995151 := ()
def tw12826630404094185572 := ()
def tw3594981542734504961 := ()
def tw6850278669395685200 := ()
def tw4310078388921960975 := ()
def tw8645528333658039852 := ()
def tw2321180636743182614 := ()
def tw6619448957774054494 := ()
def tw5977433792690766254 := ()
def tw4138960189588339215 := ()
def tw4407896927702307691 := ()
def tw11969637787992284732 := ()
def tw503065942123632822 := ()
def tw925300430543328980 := ()
def tw102127993647408762 := ()
def tw12010603554267234313 := ()
def tw16161632967095852546 := ()
def tw4363443760118568973 := ()
def tw12710695038371397217 := ()
def tw940089930708539662 := ()
def tw13284026484836199697 := ()
def tw4968296958410760377 := ()
def tw5581683083800857427 := ()
def tw11807471942313309400 := ()
def tw5081897296402318739 := ()
def tw12476677666250345795 := ()
def tw16609289824392134695 := ()
def tw10268787049787000598 := ()
def tw6509817373187773383 := ()
def tw11058377065985616993 := ()
def tw12736379848404146126 := ()
def tw13518554957765794683 := ()
def tw11056392436611253612 := ()
def tw82907276429878561 := ()
def tw17919754956804749950 := ()
def tw11560173734248203848 := ()
def tw8134088450706364331 := ()
def tw13101044227153548259 := ()
def tw153114036617020958 := ()
def tw12019551183278958587 := ()
def tw2774741157273022046 := ()
def tw3246002456602256231 := ()
def tw12415349036865718325 := ()
def tw9356498004342015270 := ()
def tw10897408813447787683 := ()
def tw7826070476459253473 := ()
def tw10521880239959008886 := ()
def tw16511193929609605685 := ()
def tw1440156734469365522 := ()
def tw6235283817174652832 := ()
def tw3625256572772049058 := ()
def tw17479823268512881980 := ()
def tw2972031243404782444 := ()
def tw14679673061567646151 := ()
def tw8550129464194378595 := ()
def tw2559355584547719283 := ()
def tw17423437770907942618 := ()
def tw2746244410083352136 := ()
def tw12059627780546067803 := ()
def tw2224347470192335935 := ()
def tw436240792868849684 := ()
def tw14408451023309612747 := ()
def tw4984170164529698315 := ()
def tw17362503855057003853 := ()
def tw12308899206876103348 := ()
def tw5761997743640305379 := ()
def tw3331629566062547423 := ()
def tw11233455675631746602 := ()
def tw9535787085926184809 := ()
def tw9104639800268071362 := ()
def tw7205613123700959027 := ()
def tw13769838829463120736 := ()
def tw12173519370292897163 := ()
def tw9283965767830038555 := ()
def tw4910834298244763694 := ()
def tw8445169793299639801 := ()
def tw3769837629032900404 := ()
def tw13936750790036757403 := ()
def tw10907409785133288700 := ()
def tw2395898642254890765 := ()
def tw16350077372056816368 := ()
def tw12344995914668964122 := ()
def tw10676807258026471132 := ()
def tw2413307261809117492 := ()
def tw1994314736367487911 := ()
def tw2219248993108317199 := ()
def tw3744434670805538676 := ()
def tw2543148384638016843 := ()
def tw11978850896204454002 := ()
def tw4308562734978664183 := ()
def tw16554595622874001385 := ()
def tw12902446103210534029 := ()
def tw9253263795607460968 := ()
def tw6178943102642853751 := ()
def tw7332305002746732668 := ()
def tw157458097309407206 := ()
def tw1855490977444591052 := ()
def tw16275467114055086779 := ()
def tw16093741280804565410 := ()
def tw1982174477043033415 := ()
def tw3773784443826223366 := ()
def tw8582275597267766043 := ()
def tw17362232533889746771 := ()
def tw1409147571538624517 := ()
def tw4731502659097418053 := ()
end PySem.W.Fast
set_option genSizeOf false
abbrev Aqq:=@PySem.wpAny_bind
abbrev Aqr:=@PySem.Heap.get?_push_of_some
abbrev Aqs:=@decide_eq_true
abbrev Aqt:=@PySem.wpAny_pure
abbrev Aqu:=@of_decide_eq_true
abbrev Aqv:=@List.length_map
abbrev Aqw:=@List.length_append
abbrev Aqx:=@Array.length_toList
abbrev Aqy:=@PySem.Heap.lt_size
abbrev Aqz:=@decide_eq_false
abbrev Aq0:=@Nat.le_refl
abbrev Aq1:=@PySem.Heap.get?_push_size
abbrev Aq2:=@List.size_toArray
abbrev Aq3:=@Nat.le_trans
abbrev Aq4:=@PySem.BindsTo.of_defaults
abbrev Aq5:=@List.getElem?_eq_some_iff
abbrev Aq6:=@List.getElem?_eq_getElem
abbrev Aq7:=@PyProof.Rows.wpS_bind
abbrev Aq8:=@List.mem_append_right
abbrev Aq9:=@Bool.and_eq_true
abbrev Ara:=@List.mem_cons
abbrev Arb:=@PyProof.Rows.wpS_pure
abbrev Arc:=@Nat.ne_of_lt
abbrev Ard:=@List.mem_cons_of_mem
abbrev Are:=@List.getElem?_map
abbrev Arf:=@PySem.Heap.SameBut.update
abbrev Arh:=@Array.getElem?_eq_getElem
abbrev Ari:=@PySem.Heap.get?_update_self
abbrev Arj:=@Bool.false_ne_true
abbrev Ark:=@List.append_nil
abbrev Arl:=@Option.some.inj
abbrev Arm:=@List.mem_singleton
abbrev Arn:=@List.mem_cons_self
abbrev Aro:=@Int.emod_lt_of_pos
abbrev Arp:=@Int.emod_nonneg
abbrev Arq:=@Nat.lt_of_lt_of_le
abbrev Ars:=@PySem.W.mg_of
abbrev Art:=@List.length_range
abbrev Aru:=@PyProof.Rows.KeyOrd.kle_trans
abbrev Arv:=@Array.getElem?_toList
abbrev Arw:=@Bool.true_and
abbrev Arx:=@List.length_cons
abbrev Ary:=@Array.toList_append
abbrev Arz:=@List.mem_map
abbrev Ar0:=@List.mem_append
abbrev Ar1:=@List.map_cons
abbrev Ar2:=@PySem.wpAny_newObj_type
abbrev Ar3:=@Nat.zero_le
abbrev Ar4:=@List.length_take
abbrev Ar5:=@List.getElem?_of_mem
abbrev Ar6:=@PySem.Heap.size_push
abbrev Ar7:=@List.pairwise_append
abbrev Ar8:=@Int.toNat_natCast
abbrev Ar9:=@PySem.wpAny_call_entry
abbrev Asa:=@List.mem_append_left
abbrev Asb:=@PyProof.Rows.KeyOrd.kle_of_klt
abbrev Asc:=@PySem.mem_of_lookup
abbrev Asd:=@Nat.lt_irrefl
abbrev Ase:=@PySem.wpAny_field
abbrev Asf:=@List.mem_of_getElem?
abbrev Asg:=@PySem.codeAny_builtin
abbrev Ash:=@PySem.PassesOwn.never
abbrev Asi:=@decide_eq_decide
abbrev Asj:=@Nat.lt_succ_self
abbrev Asl:=@Nat.ne_of_gt
abbrev Asm:=@PySem.wpAny_setField
abbrev Asn:=@PySem.wpAny_holding
abbrev Aso:=@PySem.wpAny_truthy_bool
abbrev Asp:=@PySem.wpAny_mono
abbrev Asq:=@PySem.W.mg_none_of
abbrev Asr:=@Nat.lt_of_le_of_lt
abbrev Ass:=@PyProof.Rows.KeyOrd.kle_refl
abbrev Ast:=@List.length_drop
abbrev Asu:=@List.getElem_mem
abbrev Asv:=@PySem.Around.under_plainId
abbrev Asw:=@Nat.lt_succ_of_lt
abbrev Asx:=@List.pairwise_iff_getElem
abbrev Asy:=@List.take_append_drop
abbrev Asz:=@List.mem_filter
abbrev As0:=@decide_eq_true_iff
abbrev As1:=@List.lookup_cons
abbrev As2:=@PySem.wpAny_Call_Name_kw
abbrev As3:=@Bool.false_and
abbrev As4:=@List.append_assoc
abbrev As5:=@PyProof.Rows.callWith_type1
abbrev As6:=@Array.size_push
abbrev As7:=@PySem.codeAny_mono
abbrev As8:=@PySem.wpAny_rule
abbrev As9:=@List.getElem?_append_right
abbrev Ata:=@List.not_mem_nil
abbrev Atb:=@Nat.le_of_ble_eq_true
abbrev Atc:=@List.length_filter_le
abbrev Atd:=@Bool.false_eq_true
abbrev Ate:=@List.getElem?_append_left
abbrev Atf:=@Bool.and_false
abbrev Atg:=@decide_eq_true_eq
abbrev Ath:=@PyProof.Rows.slot_tuple_getitem
abbrev Ati:=@List.map_append
abbrev Atj:=@List.forIn_cons
abbrev Atk:=@Array.toList_push
abbrev Atl:=@Nat.le_of_lt
abbrev Atm:=@beq_eq_false_iff_ne
abbrev Atn:=@List.reverse_append
abbrev Ato:=@Int.dvd_of_emod_eq_zero
abbrev Atp:=@PySem.wpAny_ite_split
abbrev Atq:=@PySem.F.slot_zip_next
abbrev Atr:=@Nat.le_add_right
abbrev Ats:=@List.take_length
abbrev Atu:=@List.eq_nil_of_length_eq_zero
abbrev Atv:=@List.all_eq_true
abbrev Atw:=@Int.mul_le_mul_of_nonneg_left
abbrev Atx:=@PyProof.Rows.wpS_forRange
abbrev Aty:=@List.mem_range
abbrev Atz:=@Int.not_lt
abbrev At0:=@List.filter_append
abbrev At1:=@PySem.wpAny_attempt
abbrev At2:=@Nat.not_lt_zero
abbrev At3:=@List.map_map
abbrev At4:=@PySem.wpAny_load
abbrev At5:=@congrArg
abbrev At6:=@List.pairwise_map
abbrev At7:=@PySem.Code.quiet_builtin
abbrev At8:=@Array.toList_reverse
abbrev At9:=@PySem.wpAny_passesOwn
abbrev Aua:=@Array.toList_inj
abbrev Aub:=@PySem.wpAny_setState_of
abbrev Auc:=@List.toList_toArray
abbrev Aud:=@List.getElem_of_mem
abbrev Aue:=@PySem.F.slot_tuple_iterator_next
abbrev Auf:=@PySem.codeAny_call_builtin
abbrev Aug:=@List.pairwise_cons
abbrev Auh:=@List.of_mem_zip
abbrev Aui:=@List.getElem?_take
abbrev Auj:=@List.find?_cons
abbrev Auk:=@PySem.wpAny_askSetting
abbrev Aul:=@PySem.wpAny_setEntries_of
abbrev Aum:=@List.take_succ_eq_append_getElem
abbrev Aun:=@Option.map_eq_some_iff
abbrev Auo:=@List.take_of_length_le
abbrev Aup:=@Array.getElem?_eq_none
abbrev Auq:=@List.getElem_take
abbrev Aur:=@List.getElem_drop
abbrev Aus:=@PySem.wpAny_updateSeq
abbrev Aut:=@PySem.plainId_quiet
abbrev Auu:=@PySem.codeAny_of_tree
abbrev Auv:=@PySem.W.kia_one
abbrev Auw:=@List.map_nil
abbrev Aux:=@List.getElem?_eq_none
abbrev Auy:=@List.reverse_reverse
abbrev Auz:=@List.getElem_toArray
abbrev Au0:=@PySem.fits_of_scanBound
abbrev Au1:=@List.any_cons
abbrev Au2:=@PySem.weight_type_call_type
abbrev Au3:=@PySem.builtinLookup_eq_fast
abbrev Au4:=@Nat.le_succ
abbrev Au5:=@List.nodup_cons
abbrev Au6:=@Iff.rfl
abbrev Au7:=@Nat.zero_add
abbrev Au8:=@Nat.lt_or_ge
abbrev Au9:=@List.set_set
abbrev Ava:=@List.getElem?_drop
abbrev Avb:=@Int.mul_comm
abbrev Avc:=@List.take_zero
abbrev Avd:=@List.mem_of_find?_eq_some
abbrev Ave:=@PySem.wpAny_call
abbrev Avf:=@PySem.F.plain_extend_loop
abbrev Avg:=@PySem.F.args_tuple_add_2
abbrev Avh:=@Option.isSome_iff_exists
abbrev Avi:=@Nat.not_lt
abbrev Avj:=@Array.size_append
abbrev Avk:=@PySem.F.entry_tuple_add
abbrev Avl:=@Ne.symm
abbrev Avm:=@Int.le_refl
abbrev Avn:=@Int.emod_eq_zero_of_dvd
abbrev Avo:=@Bool.or_false
abbrev Avp:=@PySem.wpAny_typeOf
abbrev Avq:=@PySem.wpAny_pyIter_tuple
abbrev Avr:=@PySem.Around.under_plain
abbrev Avs:=@PySem.F.slot_tuple_add
abbrev Avt:=@PySem.F.entry_type_call
abbrev Avu:=@PySem.F.args_zip_next_1
abbrev Avv:=@Option.map_some
abbrev Avw:=@List.pairwise_reverse
abbrev Avx:=@Int.ediv_nonneg
abbrev Avy:=@Bool.true_or
abbrev Avz:=@Bool.eq_iff_iff
abbrev Av0:=@Bool.decide_and
abbrev Av1:=@if_false
abbrev Av2:=@PySem.wpAny_isInstance
abbrev Av3:=@PySem.F.entry_zip_next
abbrev Av4:=@dif_pos
abbrev Av5:=@PySem.Heap.get?_update_other
abbrev Av6:=@PyProof.Rows.wpS_mono
abbrev Av7:=@List.filter_eq_self
abbrev Av8:=@List.filterMap_cons
abbrev Av9:=@List.countP_eq_zero
abbrev Awa:=@or_false
abbrev Awb:=@PySem.wpAny_specialOf
abbrev Awc:=@PySem.wpAny_execs_nil
abbrev Awd:=@PySem.typeLookup_type
abbrev Awe:=@PyProof.Rows.wpS_modify
abbrev Awf:=@PySem.wpAny_newFunctionEnv
abbrev Awg:=@Option.some.injEq
abbrev Awh:=@List.take_add_one
abbrev Awi:=@List.reverse_perm
abbrev Awj:=@Bool.not_eq_true'
abbrev Awk:=@PySem.wpAny_runValue
abbrev Awl:=@PySem.wpAny_fieldsOf
abbrev Awm:=@PyProof.Rows.F.plain_set_update_loop
abbrev Awn:=@Int.lt_or_le
abbrev Awo:=@beq_self_eq_true
abbrev Awp:=@Nat.min_le_right
def dkk {p:Prop}(h:p:=by decide+kernel):p:=h
def dkd {p:Prop}(h:p:=by decide):p:=h
def dkm {p:Prop}(h:p:=by omega):p:=h
def dkl {p:Prop}(h:p:=by lia):p:=h
def dks {p:Prop}(h:p:=by simp):p:=h
namespace L2
open PySem PySem.Spec PyProof.Rows
abbrev Key:=Sum Int Str
def Aaq:Key->Value->Bool
 | .inl k,v=>Value.isInt k v
 | .inr x,v=>Value.isStrOf x v
def Aqb (w:World):Key->Int
 | .inl k=>hashInt k
 | .inr x=>hashStr w x
theorem En:∀{k:Key}{v:Value},Aaq k v=true->(∃i t,k=Sum.inl i/\v=Value.int i t)∨(∃x t,k=Sum.inr x/\v=Value.str x t)
 |
  .inl i,v,h=>by
  obtain⟨t,e⟩:=Value.isInt_shape (k:=i) (v:=v) h
  exact .inl ⟨i,t,rfl,e⟩
 |
  .inr x,v,h=>by
  obtain⟨t,e⟩:=Value.isStrOf_shape (x:=x) (v:=v) h
  exact .inr ⟨x,t,rfl,e⟩
def Ad7 (i:Int)(t:Tok):Aaq (.inl i) (.int i t)=true:=by simp[Aaq,Value.isInt]
def Ab4 (x:Str)(t:Tok):Aaq (.inr x) (.str x t)=true:=by simp[Aaq,Value.isStrOf]
def Aks (a b:Int):decide ((Sum.inl a:Key)=Sum.inl b)=(a==b):=by
 by_cases e:a=b
 · subst e;simp
 ·
  have h:¬(Sum.inl a:Key)=Sum.inl b:=λq=>e (Sum.inl.inj q)
  rw[Aqz h]
  exact(Atm.mpr e).symm
def Akc (a b:Str):decide ((Sum.inr a:Key)=Sum.inr b)=decide (a=b):=by
 by_cases e:a=b
 · subst e;simp
 ·
  have h:¬(Sum.inr a:Key)=Sum.inr b:=λq=>e (Sum.inr.inj q)
  rw[Aqz h,Aqz e]
def Al2 (a:Int)(b:Str):decide ((Sum.inl a:Key)=Sum.inr b)=false:=Aqz (λq=>nomatch q)
def Ama (a:Str)(b:Int):decide ((Sum.inr a:Key)=Sum.inl b)=false:=Aqz (λq=>nomatch q)
def Ge (prog:Program)(w:World):PySem.KeyKind prog w Key where
 is:=Aaq
 hash:=Aqb w
 inj:=λv a b ha hb=>by
  rcases En ha with⟨i,t,rfl,rfl⟩|⟨x,t,rfl,rfl⟩
  ·
   rcases En hb with⟨j,u,rfl,e⟩|⟨y,u,rfl,e⟩
   · injection e with e1 _;rw[e1]
   · exact nomatch e
  ·
   rcases En hb with⟨j,u,rfl,e⟩|⟨y,u,rfl,e⟩
   · exact nomatch e
   · injection e with e1 _;rw[e1]
 byValue:=λk v h=>by
  rcases En h with⟨i,t,rfl,rfl⟩|⟨x,t,rfl,rfl⟩<;>rfl
 pyHash:=λhv h=>by
  rcases En hv with⟨i,t,rfl,rfl⟩|⟨x,t,rfl,rfl⟩
  · exact wpAny_pyHash_int h
  · exact wpAny_pyHash_str h
 eqBool:=λhu hv h=>by
  rcases En hu with⟨i,t,rfl,rfl⟩|⟨x,t,rfl,rfl⟩
  ·
   rcases En hv with⟨j,u,rfl,rfl⟩|⟨y,u,rfl,rfl⟩
   · rw[Aks] at h;exact wpAny_eqBool_int h
   · rw[Al2] at h;exact SeqAt.EqAt.int_str i t y u _ _ _ _ h
  ·
   rcases En hv with⟨j,u,rfl,rfl⟩|⟨y,u,rfl,rfl⟩
   · rw[Ama] at h;exact SeqAt.EqAt.str_int x t j u _ _ _ _ h
   · rw[Akc] at h;exact wpAny_eqBool_str h
 «strs»:=λk x t v h=>by
  rcases En h with⟨i,u,rfl,e⟩|⟨y,u,rfl,e⟩
  · exact nomatch e
  ·
   injection e with e1 _
   subst e1
   cases v<;>rfl
def xw (prog:Program)(w:World)(i:Int)(t:Tok):(Ge prog w).is (.inl i) (.int i t)=true:=Ad7 i t
def xh (prog:Program)(w:World)(x:Str)(t:Tok):(Ge prog w).is (.inr x) (.str x t)=true:=Ab4 x t
inductive V where
 | non|bl (b:Bool)|int (i:Int)|str (x:Str)|byt (b:Array UInt8)|flt (b:UInt64)|ref (a:Addr)|ty (n:String)
 deriving DecidableEq
def RelV:V->Value->Prop
 | .non,u=>u=Value.none
 | .bl b,u=>u=Value.bool b
 | .int i,u=>∃t,u=Value.int i t
 | .str x,u=>∃t,u=Value.str x t
 | .byt b,u=>∃t,u=Value.bytes b t
 | .flt b,u=>∃t,u=Value.float b t
 | .ref a,u=>u=Value.ref a
 | .ty n,u=>u=Value.type n
abbrev Vals:List V->List Value->Prop:=Paired RelV
theorem Vals.length (r:Vals xs us):xs.length=us.length:=Paired.length r
theorem Vals.get:∀{xs:List V}{us:List Value}{i:Nat}{x:V},Vals xs us->xs[i]?=some x->∃u,us[i]?=some u/\RelV x u
 | _,_,_,_,.nil,e=>by simp at e
 | _,_,0,_,.cons r _,e=>by simp at e;subst e;exact⟨_,rfl,r⟩
 |
  _,_,i+1,x,.cons _ t,e=>by
  obtain⟨u,h1,h2⟩:=Vals.get (i:=i) (x:=x) t (by simpa using e)
  exact⟨u,by simpa using h1,h2⟩
theorem Vals.append:∀{xs ys:List V}{us ws:List Value},Vals xs us->Vals ys ws->Vals (xs++ys) (us++ws)
 | _,_,_,_,.nil,s=>s
 | _,_,_,_,.cons r t,s=>.cons r (Vals.append t s)
theorem Vals.take:∀{xs:List V}{us:List Value}(n:Nat),Vals xs us->Vals (xs.take n) (us.take n)
 | _,_,0,_=>.nil
 | _,_,_+1,.nil=>.nil
 | _,_,n+1,.cons r t=>.cons r (Vals.take n t)
theorem Vals.drop:∀{xs:List V}{us:List Value}(n:Nat),Vals xs us->Vals (xs.drop n) (us.drop n)
 | _,_,0,r=>r
 | _,_,_+1,.nil=>.nil
 | _,_,n+1,.cons _ t=>Vals.drop n t
def RelO:Option V->Option Value->Prop
 | some v,some u=>RelV v u
 | none,none=>True
 | _,_=>False
def KV {κ:Type}:List (κ×V)->List (κ×Value)->Prop:=Paired λ(p:κ×V)(q:κ×Value)=>p.1=q.1/\RelV p.2 q.2
def kV:Key->V
 | .inl i=>.int i
 | .inr x=>.str x
inductive HO where
 | lst (xs:List V)
 | tup (xs:List V)
 | dK (kvs:List (Key×V))|dT (kvs:List (List Key×V))
 | set (S:Int->Bool) (n:Nat)
 | ins (C dx:Addr) (fs:List (Str×V))
 | own (x:Addr)
 | xd (fs:List (Str×V))
 | met (f x:Addr)
 | rng (lo hi:Int)
 | frz (o:Obj) (u:HO)
 | tbl (ps:Array Value)
 | ext (φ:Heap->Prop)
abbrev Hp:=Addr->Option HO
def upd (H:Hp)(a:Addr)(o:HO):Hp:=λb=>if b=a then some o else H b
def Ae:upd H a o a=some o:=by unfold upd;rw[if_pos rfl]
def An (h:b≠a):upd H a o b=H b:=by unfold upd;rw[if_neg h]
def Anm {H:Hp}{a b:Addr}{o u:HO}(h:H a=some o)(h':H b=some u)(d:o≠u):a≠b:=by
 intro e;subst e;rw[h] at h';exact d (Arl h')
def Ap {H:Hp}{a b:Addr}{o:HO}(h:H a=some o)(h':H b=none):a≠b:=by
 intro e;subst e;rw[h] at h';cases h'
section
variable (P:Program)(w:World)
def ObjOk (H:Hp)(h:Heap)(a:Addr):HO->Prop
 | .lst xs=>xs.length<=sizeLine/\∃(its:List Value)(n:Nat),Vals xs its/\h.get? a=some {cls:=.type "list",data:=.seq its.toArray n}
 | .tup xs=>xs.length<=sizeLine/\∃its:List Value,Vals xs its/\IsTup h a its.toArray
 | .dK kvs=>kvs.length<=sizeLine/\(a==sysModules)=false/\∃vs,KV kvs vs/\h.DictOf (Ge P w) a vs
 | .dT kvs=>kvs.length<=sizeLine/\(a==sysModules)=false/\∃xs:List (List Key×Addr×Value),
  Paired (λ(p:List Key×V)(q:List Key×Addr×Value)=>p.1=q.1/\H q.2.1=some (.tup (p.1.map kV))/\RelV p.2 q.2.2) kvs xs/\
  ∃o es ep,h.get? a=some o/\o.ExactDict/\o.data=.dict es ep/\es.toList=xs.map (entryOfKey (tupleKind (Ge P w)))/\(xs.map (·.1)).Nodup
 | .set S n=>h.SetOf (intKind P w) a S n
 | .ins C dx fs=>H dx=some (.own a)/\fs.length<=1000/\dx≠a/\h.get? a=some (W.instObj C dx)/\
  ∃mA,h.Ns1 dx mA/\(∀f,RelO (fs.lookup f) (mA f))/\PySem.Within mA (fs.map (·.1))
 | .own _=>∃o,h.get? a=some o
 | .xd fs=>∃mA,h.Ns1 a mA/\∀f,RelO (fs.lookup f) (mA f)
 | .rng lo hi=>∃t u v,h.get? a=some {cls:=.type "range",data:=.fields #[.int lo t,.int hi u,.int 1 v]}
 | .frz o u=>h.get? a=some o/\ObjOk H h a u
 | .tbl ps=>h.get? a=some {cls:=.none,data:=.fields ps}
 | .met f x=>h.get? a=some (W.methodObj (.ref f) (.ref x))
 | .ext φ=>φ h/\(∃o,h.get? a=some o)/\∀h1 h2:Heap,φ h1->(∀o,h1.get? a=some o->h2.get? a=some o)->φ h2
def HOk (H:Hp)(h:Heap):Prop:=∀a o,H a=some o->ObjOk P w H h a o
end
variable {w:World}{H:Hp}{H':Hp}
theorem ObjOk.lt (x:ObjOk P w H h a o):a<h.objs.size:=by
 cases o with
 | lst xs=>obtain⟨_,_,_,_,e⟩:=x;exact Aqy e
 | tup xs=>obtain⟨_,_,_,p⟩:=x;exact p.lt
 | dK kvs=>obtain⟨_,_,_,_,o,_,_,e,_⟩:=x;exact Aqy e
 | dT kvs=>obtain⟨_,_,_,_,o,_,_,e,_⟩:=x;exact Aqy e
 | set S n=>obtain⟨o,_,_,_,e,_⟩:=x;exact Aqy e
 | ins C dx fs=>obtain⟨_,_,_,e,_⟩:=x;exact Aqy e
 | own y=>obtain⟨_,e⟩:=x;exact Aqy e
 | xd fs=>obtain⟨_,⟨_,_,_,e,_⟩,_⟩:=x;exact Aqy e
 | rng lo hi=>obtain⟨_,_,_,e⟩:=x;exact Aqy e
 | frz ob u=>obtain⟨e,_⟩:=x;exact Aqy e
 | tbl ps=>exact Aqy (show h.get? a=some _ from x)
 | met f y=>exact Aqy (show h.get? a=some _ from x)
 | ext φ=>obtain⟨_,⟨_,e⟩,_⟩:=x;exact Aqy e
theorem Paired.mapP:∀{l₁:List α}{l₂:List β},Paired F l₁ l₂->(∀a b,F a b->G a b)->Paired G l₁ l₂
 | _,_,.nil,_=>.nil
 | _,_,.cons r t,f=>.cons (f _ _ r) (Paired.mapP t f)
theorem ObjOk.stay (x:ObjOk P w H h a o)(k:∀b u,(b=a∨H b=some (.own a))->h.get? b=some u->h'.get? b=some u)
  (ho:∀b,H b=some (.own a)->H' b=some (.own a)) (ht:∀b xs,H b=some (.tup xs)->H' b=some (.tup xs)):ObjOk P w H' h' a o:=by
 induction o with
 | lst xs=>obtain⟨z,its,n,r,e⟩:=x;exact⟨z,its,n,r,k _ _ (.inl rfl) e⟩
 | tup xs=>obtain⟨z,its,r,ob,e,c⟩:=x;exact⟨z,its,r,ob,k _ _ (.inl rfl) e,c⟩
 | dK kvs=>obtain⟨z,y,vs,r,ob,es,ep,e,c⟩:=x;exact⟨z,y,vs,r,ob,es,ep,k _ _ (.inl rfl) e,c⟩
 |
  dT kvs=>
  obtain⟨z,y,xs,r,ob,es,ep,e,c⟩:=x
  exact⟨z,y,xs,Paired.mapP r λp q z=>⟨z.1,ht _ _ z.2.1,z.2.2⟩,ob,es,ep,k _ _ (.inl rfl) e,c⟩
 | set S n=>obtain⟨ob,es,ep,t,e,c⟩:=x;exact⟨ob,es,ep,t,k _ _ (.inl rfl) e,c⟩
 |
  ins C dx fs=>
  obtain⟨d,z,ne,e,mA,⟨od,es,ep,e2,c⟩,r⟩:=x
  exact⟨ho _ d,z,ne,k _ _ (.inl rfl) e,mA,⟨od,es,ep,k _ _ (.inr d) e2,c⟩,r⟩
 | own y=>obtain⟨ob,e⟩:=x;exact⟨ob,k _ _ (.inl rfl) e⟩
 | xd fs=>obtain⟨mA,⟨od,es,ep,e,c⟩,r⟩:=x;exact⟨mA,⟨od,es,ep,k _ _ (.inl rfl) e,c⟩,r⟩
 | rng lo hi=>obtain⟨t,u,v,e⟩:=x;exact⟨t,u,v,k _ _ (.inl rfl) e⟩
 | frz ob u ih=>obtain⟨e,q⟩:=x;exact⟨k _ _ (.inl rfl) e,ih q⟩
 |
  tbl ps=>
  have e:h.get? a=some {cls:=.none,data:=.fields ps}:=x
  show h'.get? a=some {cls:=.none,data:=.fields ps}
  exact k a _ (.inl rfl) e
 |
  met f y=>
  have e:h.get? a=some (W.methodObj (.ref f) (.ref y)):=x
  show h'.get? a=some (W.methodObj (.ref f) (.ref y))
  exact k a _ (.inl rfl) e
 | ext φ=>obtain⟨p,⟨o,e⟩,st⟩:=x;exact⟨st _ _ p λo q=>k _ _ (.inl rfl) q,⟨o,k _ _ (.inl rfl) e⟩,st⟩
theorem HOk.lt (x:HOk P w H h)(e:H a=some o):a<h.objs.size:=(x a o e).lt
theorem HOk.fresh (x:HOk P w H h)(e:h.objs.size<=a):H a=none:=by
 cases q:H a with
 | none=>rfl
 | some u=>exact absurd (Arq (x.lt q) e) (Asd _)
def HOk.kept (x:HOk P w H h)(k:∀b u,h.get? b=some u->h'.get? b=some u):HOk P w H h':=λa o e=>
 (x a o e).stay (λb u _ q=>k b u q) (λ_ q=>q) λ_ _ q=>q
def HOk.laid {P:Program}{h h':Heap}{a:Addr}{o:HO}(x:HOk P w H h)(k:∀b u,h.get? b=some u->h'.get? b=some u)(hp:h.objs.size<=a)(new:ObjOk P w (upd H a o) h' a o):HOk P w (upd H a o) h':=λb u e=>by
 have hn:=x.fresh hp
 by_cases hb:b=a
 · subst hb;rw[Ae] at e;cases e;exact new
 ·
  rw[An hb] at e
  exact(x b u e).stay (λc v _ q=>k c v q) (λc q=>by rw[An (Ap q hn)];exact q) λc xs q=>by rw[An (Ap q hn)];exact q
def Rd (H:Hp)(a:Addr)(u:HO):Prop:=H a=some u∨∃o,H a=some (.frz o u)
def Rd.ok (r:Rd H a u)(x:HOk P w H h):ObjOk P w H h a u:=by
 rcases r with r|⟨o,r⟩
 · exact x a u r
 ·
  obtain⟨_,q⟩:=x a _ r
  exact q
def Mut:Option HO->Prop
 | some (.lst _)=>True
 | some (.dK _)=>True
 | some (.dT _)=>True
 | some (.set _ _)=>True
 | some (.ins _ _ _)=>True
 | some (.ext _)=>True
 | _=>False
def HOk.write (ok:HOk P w H h)(mu:Mut (H x))(he:e=x∨H e=some (.own x))(k:∀b u,b≠e->h.get? b=some u->h'.get? b=some u)(heo:∃u,h'.get? e=some u)
  (new:ObjOk P w (upd H x o') h' x o'):HOk P w (upd H x o') h':=λb u q=>by
 have nown:∀c y,H c=some (.own y)->c≠x:=λc y r z=>by subst z;rw[r] at mu;exact mu
 have ntup:∀c xs,H c=some (.tup xs)->c≠x:=λc xs r z=>by subst z;rw[r] at mu;exact mu
 by_cases hb:b=x
 · subst hb;rw[Ae] at q;cases q;exact new
 ·
  rw[An hb] at q
  by_cases hbe:b=e
  ·
   have q':H b=some (.own x):=by
    rcases he with z|z
    · exact absurd (hbe.trans z) hb
    · rw[hbe];exact z
   rw[q] at q';cases q'
   obtain⟨v,hv⟩:=heo
   exact⟨v,by rw[hbe];exact hv⟩
  ·
   refine(ok b u q).stay (λc v hc r=>k c v ?_ r) (λc r=>by rw[An (nown c b r)];exact r) λc xs r=>by rw[An (ntup c xs r)];exact r
   rcases hc with rfl|hc
   · exact hbe
   ·
    rintro rfl
    rcases he with z|z
    · exact nown c b hc z
    · rw[hc] at z;cases z;exact hb rfl
structure Un (fs ex:List Addr)(H H':Hp)(h h':Heap):Prop where
 keep:∀b o,h.get? b=some o->H b=none->b∉fs->b∉ex->h'.get? b=some o
 slot:∀b o,h.get? b=some o->H b=none->b∈fs->b∉ex->∃sl,h'.get? b=some {o with slots:=sl}
 free:∀b o,h.get? b=some o->H b=none->b∉ex->H' b=none
 there:∀b o,h.get? b=some o->b∉ex->∃o',h'.get? b=some o'
 tups:∀b xs,H b=some (.tup xs)->H' b=some (.tup xs)
 frzs:∀b o u,H b=some (.frz o u)->H' b=some (.frz o u)
 tbls:∀b ps,H b=some (.tbl ps)->∃more,H' b=some (.tbl (ps++more))
def Un.any (u:Un fs ex H H1 h h1)(q:h.get? b=some ob)(n:H b=none)(hx:b∉ex):∃sl,h1.get? b=some {ob with slots:=sl}:=by
 by_cases hb:b∈fs
 · exact u.slot b ob q n hb hx
 · exact⟨ob.slots,u.keep b ob q n hb hx⟩
def Un.kept (k:∀b u,h.get? b=some u->h'.get? b=some u):Un fs ex H H h h':=
 ⟨λb ob q _ _ _=>k b ob q,λb ob q _ _ _=>⟨ob.slots,k b ob q⟩,λ_ _ _ n _=>n,λb ob q _=>⟨ob,k b ob q⟩,λ_ _ q=>q,λ_ _ _ q=>q,λ_ ps q=>⟨#[],by rw[q];simp⟩⟩
def Un.refl:Un fs ex H H h h:=Un.kept λ_ _ q=>q
def Un.laid {fs ex:List Addr}{h h':Heap}{a:Addr}{o:HO}(k:∀b u,h.get? b=some u->h'.get? b=some u)(hp:h.objs.size<=a)(hn:H a=none):Un fs ex H (upd H a o) h h' where
 keep:=λb u q _ _ _=>k b u q
 slot:=λb u q _ _ _=>⟨u.slots,k b u q⟩
 free:=λb u q n _=>by rw[An (Arc (Arq (Aqy q) hp))];exact n
 there:=λb u q _=>⟨u,k b u q⟩
 tups:=λb xs q=>by rw[An (Ap q hn)];exact q
 frzs:=λb u xs q=>by rw[An (Ap q hn)];exact q
 tbls:=λb ps q=>⟨#[],by rw[An (Ap q hn),q];simp⟩
def Un.write (mu:Mut (H x))(he:e=x∨H e=some (.own x))(k:∀b u,b≠e->h.get? b=some u->h'.get? b=some u)(heo:∃u,h'.get? e=some u):Un fs ex H (upd H x o) h h':=by
 have hx:∀b,H b=none->b≠x:=λb n z=>by subst z;rw[n] at mu;exact mu
 have hb:∀b,H b=none->b≠e:=λb n z=>by
  subst z
  rcases he with r|r
  · exact hx b n r
  · rw[n] at r;cases r
 have hm:∀b u,H b=some u->¬Mut (some u)->b≠x:=λb u q nm z=>by subst z;rw[q] at mu;exact nm mu
 refine⟨λb u q n _ _=>k b u (hb b n) q,λb u q n _ _=>⟨u.slots,k b u (hb b n) q⟩,λb u q n _=>by rw[An (hx b n)];exact n,λb u q _=>?_,
  λb xs q=>by rw[An (hm b _ q λz=>z)];exact q,λb u xs q=>by rw[An (hm b _ q λz=>z)];exact q,λb ps q=>⟨#[],by rw[An (hm b _ q λz=>z),q];simp⟩⟩
 by_cases hbe:b=e
 · subst hbe;exact heo
 · exact⟨u,k b u hbe q⟩
def trk (h:Heap)(H:Hp):List Addr:=(List.range h.objs.size).filter λa=>(H a).isSome
def Ae8 (h:Heap)(H:Hp):Heap:=W.hideAll h (trk h H)
def Ae0 (h:Heap)(H:Hp):(Ae8 h H).objs.size=h.objs.size:=W.hideAll_size _ _
def Afg (e:h.get? b=some o)(n:H b=none):(Ae8 h H).get? b=some o:=
 W.hideAll_get _ e λhm=>by
  have q:(H b).isSome=true:=(Asz.mp hm).2
  rw[n] at q;simp at q
theorem Ajb (e:(Ae8 h H).get? b=some o):h.get? b=some o/\H b=none:=by
 have e':h.get? b=some o:=W.of_hideAll (trk h H) e
 refine⟨e',?_⟩
 cases q:H b with
 | none=>rfl
 |
  some x=>
  have hm:b∈trk h H:=List.mem_filter.mpr ⟨List.mem_range.mpr (Aqy e'),by simp[q]⟩
  have z:(Ae8 h H).get? b=none:=W.hideAll_none (trk h H) hm
  rw[z] at e;cases e
def Ajj (g h:Heap)(L:Addr):List (Addr×Obj):=(List.range h.objs.size).filterMap λa=>if a=L∨(g.get? a).isSome=true then none else(h.get? a).map λo=>(a,o)
def rest (g h:Heap)(L d:Addr):List (Addr×Obj):=(Ajj g h L).filter λp=>decide (p.1≠d)
structure Mod (K:W.Frag)(mg:Str->Option Value)(base:Heap):Prop where
 kin:K.In base
 glob:base.Ns mainGlobals mg
 blt:∃mb,base.Ns builtinsNs mb/\∀x:Str,x≠"__name__"->mb x=bootBuiltins x
 nolimit:base.NoLimit
structure Cx where
 prog:Program
 w:World
 K:W.Frag
 mg:Str->Option Value
 base:Heap
 A:Around
 N:List Str
 s₀:Shared
 H₀:Hp
 env:Env
 outer:List Env
 stack:List Env
 ex:List Addr
 fn:Str->Bool
 calm:Bool
 pn:List (Addr×Obj)
 xe:Value->Shared->Prop
def frs (l:List Env):List Addr:=l.filterMap (·.frame)
abbrev Cx.fs (X:Cx):List Addr:=frs X.outer
def Vis (sc:Scope)(x:Str):Prop:=sc.names.lookup x=some .local∨sc.names.lookup x=some .cell∨sc.names.lookup x=some .free
def Loc (sc:Scope)(x:Str):Prop:=sc.names.lookup x=some .local∨sc.names.lookup x=some .cell
def Look (env:Env)(h:Heap)(m:Str->Option Value)(x:Str)(u:Value):Prop:=
 (env.kindOf x=some .local/\m x=some u)∨((env.kindOf x=some .cell∨env.kindOf x=some .free)/\∃c,env.cells.lookup x=some c/\h.IsCell c (some u))
structure Cx.Ok (X:Cx):Prop where
 mod:Mod X.K X.mg X.base
 kind:X.env.scope.kind=.function
 glob:X.env.globals=mainGlobals
 blt:X.env.builtins=builtinsNs
 above:X.s₀.heap.objs.size<=X.env.locals
 inj:∀x y c,X.env.cells.lookup x=some c->X.env.cells.lookup y=some c->x=y
 has:∀x,(X.env.kindOf x=some .cell∨X.env.kindOf x=some .free)->∃c,X.env.cells.lookup x=some c
 cab:∀x c,X.fn x=true->X.env.cells.lookup x=some c->X.s₀.heap.objs.size<=c
 hd:X.calm=true->X.A.handled=none
 frames:X.A.frames=some X.stack
 stk:X.stack=X.outer∨(X.stack=X.env::X.outer/\X.env.frame=some X.env.locals)
 exf:∀b∈X.ex,b≠X.env.locals/\∀x c,X.env.cells.lookup x=some c->c≠b
 bs:∀b o,X.base.get? b=some o->X.s₀.heap.get? b=some o/\X.H₀ b=none
 bsz:X.base.objs.size<=X.s₀.heap.objs.size
 noex:∀b o,X.base.get? b=some o->b∉X.ex
 exfs:∀b∈X.ex,b∉X.fs
 funs:X.s₀.heap.FunFrames X.base X.outer
 frf:∀b∈X.fs,X.H₀ b=none
structure Inv (X:Cx)(pins:List (Addr×Obj))(σ:List (Option V))(H:Hp)(s:Shared):Prop where
 ok:X.Ok
 os:s.os=X.s₀.os
 bare:AllBare s.gens
 base:Un X.fs X.ex X.H₀ H X.s₀.heap s.heap
 loc:∃m,s.heap.Ns X.env.locals m/\∀(i:Nat)(x:Str)(v:V),X.N[i]?=some x->σ[i]?=some (some v)->Vis X.env.scope x->∃u,RelV v u/\Look X.env s.heap m x u
 cell:∀x c,X.env.cells.lookup x=some c->∃v,s.heap.IsCell c v
 free:H X.env.locals=none
 freeC:∀x c,X.env.cells.lookup x=some c->H c=none
 pin:∀p∈X.pn++pins,s.heap.get? p.1=some p.2/\H p.1=none/\p.1≠X.env.locals/\p.1∉X.fs/\∀v,p.2.data≠ .cell v
 hok:HOk X.prog X.w H s.heap
 len:σ.length=X.N.length
variable {X:Cx}{pins:List (Addr×Obj)}{s:Shared}
def Cx.Ok.nofr (ok:X.Ok)(e:X.base.get? b=some o):b∉X.fs:=λhb=>by
 have:=(ok.funs.mem hb).1
 rw[e] at this;cases this
theorem Inv.bs (I:Inv X pins σ H s):∀b o,X.base.get? b=some o->s.heap.get? b=some o/\H b=none:=λb o e=>
 ⟨I.base.keep b o (I.ok.bs b o e).1 (I.ok.bs b o e).2 (I.ok.nofr e) (I.ok.noex b o e),I.base.free b o (I.ok.bs b o e).1 (I.ok.bs b o e).2 (I.ok.noex b o e)⟩
def Inv.bk (I:Inv X pins σ H s):∀b o,X.base.get? b=some o->s.heap.get? b=some o:=λb o e=>(I.bs b o e).1
theorem Inv.mod (I:Inv X pins σ H s):Mod X.K X.mg X.base:=I.ok.mod
def Inv.kIn (I:Inv X pins σ H s):X.K.In s.heap:=I.ok.mod.kin.keeps I.bk
theorem Inv.lt (I:Inv X pins σ H s):X.env.locals<s.heap.objs.size:=let ⟨_,hn,_⟩:=I.loc;hn.lt
def Inv.sz (I:Inv X pins σ H s):X.s₀.heap.objs.size<=s.heap.objs.size:=Aq3 I.ok.above (Atl I.lt)
def Inv.nofs (I:Inv X pins σ H s)(h:s.heap.objs.size<=a):a∉X.fs:=λhb=>by
 obtain⟨_,o,ho,_⟩:=I.ok.funs.mem hb
 exact absurd (Arq (Aqy ho) (Aq3 I.sz h)) (Asd _)
def Inv.cne (I:Inv X pins σ H s):∀x c,X.env.cells.lookup x=some c->c≠X.env.locals:=λx c e z=>by
 obtain⟨v,o,ho,hd⟩:=I.cell x c e
 obtain⟨m,⟨o',es,ep,ho',hd',_⟩,_⟩:=I.loc
 rw[z,ho'] at ho;cases ho;rw[hd'] at hd;cases hd
theorem Inv.funs (I:Inv X pins σ H s):s.heap.FunFrames X.base X.outer:=by
 have all:∀(l:List Env),(∀b∈frs l,b∈X.fs)->X.s₀.heap.FunFrames X.base l->s.heap.FunFrames X.base l:=by
  intro l
  induction l with
  | nil=>intro _ _;trivial
  |
   cons env r ih=>
   intro hs hl
   obtain⟨hk,⟨L,o,hf,hn,ho,hd⟩,hr⟩:=hl
   have hL:L∈X.fs:=hs L (by unfold frs;rw[Av8,hf];exact Arn)
   obtain⟨sl,e⟩:=I.base.slot L o ho (I.ok.frf L hL) hL λz=>I.ok.exfs L z hL
   exact⟨hk,⟨L,_,hf,hn,e,hd⟩,ih (λb hb=>hs b (by unfold frs;rw[Av8,hf];exact Ard _ hb)) hr⟩
 exact all X.outer (λ_ hb=>hb) I.ok.funs
theorem Inv.stack (I:Inv X pins σ H s):s.heap.FunFrames X.base X.stack:=by
 rcases I.ok.stk with e|⟨e,hf⟩
 · rw[e];exact I.funs
 ·
  rw[e]
  obtain⟨m,hn,_⟩:=I.loc
  refine .cons (by rw[I.ok.kind];decide) hf hn ?_ I.funs
  exact Heap.get?_none_of_le (Aq3 I.ok.bsz I.ok.above)
def Inv.stkSub (I:Inv X pins σ H s):∀b∈frs X.stack,b∈X.env.locals::X.fs:=λb hb=>by
 rcases I.ok.stk with e|⟨e,hf⟩
 · rw[e] at hb;exact Ard _ hb
 ·
  rw[e] at hb
  unfold frs at hb
  rw[Av8,hf] at hb
  exact hb
def Inv.stkFree (I:Inv X pins σ H s):∀b∈frs X.stack,H b=none:=λb hb=>by
 rcases Ara.mp (I.stkSub b hb) with e|hb
 · rw[e];exact I.free
 ·
  obtain⟨_,o,ho,_⟩:=I.ok.funs.mem hb
  exact I.base.free b o ho (I.ok.frf b hb) λz=>I.ok.exfs b z hb
def Inv.step {σ:List (Option V)}{h':Heap}{g':Array GenState}{t':Nat}{d':Drawn}{ch:List Addr}(I:Inv X pins σ H s)
  (hch:∀b∈ch,(b∈X.ex∨X.s₀.heap.objs.size<=b)/\b≠X.env.locals/\(∀x c,X.env.cells.lookup x=some c->c≠b)/\∀p∈X.pn++pins,p.1≠b)
  (keep:∀b o,b≠X.env.locals->b∉X.fs->b∉ch->s.heap.get? b=some o->H b=none->h'.get? b=some o)
  (slot:∀b o,b≠X.env.locals->b∈X.fs->b∉ch->s.heap.get? b=some o->H b=none->∃sl,h'.get? b=some {o with slots:=sl}) (free:∀b o,b∉ch->s.heap.get? b=some o->H b=none->H' b=none)
  (there:∀b o,b∉ch->s.heap.get? b=some o->∃o',h'.get? b=some o')
  (tups:∀b xs,H b=some (.tup xs)->H' b=some (.tup xs)) (frzs:∀b o u,H b=some (.frz o u)->H' b=some (.frz o u)) (tbls:∀b ps,H b=some (.tbl ps)->∃more,H' b=some (.tbl (ps++more)))
  (ns:∀m,s.heap.Ns X.env.locals m->h'.Ns X.env.locals m) (hok:HOk X.prog X.w H' h') (hg:AllBare g'):
  Inv X pins σ H' {s with heap:=h',gens:=g',drawn:=d',toks:=t'}:=by
 have neL:∀b o,X.s₀.heap.get? b=some o->b≠X.env.locals:=λb o e=>Arc (Arq (Aqy e) I.ok.above)
 have neC:∀b o,X.s₀.heap.get? b=some o->b∉X.ex->b∉ch:=λb o e hx hb=>by
  rcases(hch b hb).1 with z|z
  · exact hx z
  · exact absurd (Arq (Aqy e) z) (Asd _)
 have cellK:∀x c,X.env.cells.lookup x=some c->∀v,s.heap.IsCell c v->h'.IsCell c v:=λx c e v ⟨o,ho,hd⟩=>by
  have nch:c∉ch:=λz=>(hch c z).2.2.1 x c e rfl
  by_cases hc:c∈X.fs
  ·
   obtain⟨sl,q⟩:=slot c o (I.cne x c e) hc nch ho (I.freeC x c e)
   exact⟨_,q,hd⟩
  · exact⟨o,keep c o (I.cne x c e) hc nch ho (I.freeC x c e),hd⟩
 refine⟨I.ok,I.os,hg,⟨λb o e n hb hx=>?_,λb o e n hb hx=>?_,λb o e n hx=>?_,λb o e hx=>?_,λb xs e=>tups b xs (I.base.tups b xs e),λb o xs e=>frzs b o xs (I.base.frzs b o xs e),λb ps e=>?_⟩,?_,λx c e=>?_,?_,λx c e=>?_,λp hp=>?_,hok,I.len⟩
 · exact keep b o (neL b o e) hb (neC b o e hx) (I.base.keep b o e n hb hx) (I.base.free b o e n hx)
 ·
  obtain⟨sl,e1⟩:=I.base.slot b o e n hb hx
  obtain⟨sl',e2⟩:=slot b _ (neL b o e) hb (neC b o e hx) e1 (I.base.free b o e n hx)
  exact⟨sl',e2⟩
 ·
  obtain⟨o',e1⟩:=I.base.there b o e hx
  exact free b o' (neC b o e hx) e1 (I.base.free b o e n hx)
 ·
  obtain⟨o',e1⟩:=I.base.there b o e hx
  exact there b o' (neC b o e hx) e1
 ·
  obtain⟨m1,e1⟩:=I.base.tbls b ps e
  obtain⟨m2,e2⟩:=tbls b _ e1
  exact⟨m1++m2,by rw[e2,Array.append_assoc]⟩
 ·
  obtain⟨m,hn,hl⟩:=I.loc
  refine⟨m,ns m hn,λi x v e1 e2 e3=>?_⟩
  obtain⟨u,r,l⟩:=hl i x v e1 e2 e3
  refine⟨u,r,?_⟩
  rcases l with l|⟨k,c,e,z⟩
  · exact .inl l
  · exact .inr ⟨k,c,e,cellK x c e _ z⟩
 ·
  obtain⟨v,z⟩:=I.cell x c e
  exact⟨v,cellK x c e v z⟩
 ·
  obtain⟨m,⟨o,_,_,ho,_⟩,_⟩:=I.loc
  exact free _ o (λz=>(hch _ z).2.1 rfl) ho I.free
 ·
  obtain⟨v,o,ho,hd⟩:=I.cell x c e
  exact free c o (λz=>(hch c z).2.2.1 x c e rfl) ho (I.freeC x c e)
 ·
  obtain⟨e,n,ne,nf,d⟩:=I.pin p hp
  have nch:p.1∉ch:=λz=>(hch p.1 z).2.2.2 p hp rfl
  exact⟨keep p.1 p.2 ne nf nch e n,free p.1 p.2 nch e n,ne,nf,d⟩
def Inv.un {σ:List (Option V)}{h':Heap}{t':Nat}(I:Inv X pins σ H s)(u:Un X.fs [] H H' s.heap h')(hok:HOk X.prog X.w H' h'):Inv X pins σ H' {s with heap:=h',toks:=t'}:=by
 obtain⟨m,⟨o,es,ep,ho,r⟩,_⟩:=id I.loc
 obtain⟨sl,hL⟩:=u.any ho I.free dks
 exact I.step (g':=s.gens) (d':=s.drawn) (ch:=[]) (λ_ z=>nomatch z) (λb o _ hb _ e n=>u.keep b o e n hb dks) (λb o _ hb _ e n=>u.slot b o e n hb dks) (λb o _ e n=>u.free b o e n dks) (λb o _ e=>u.there b o e dks) u.tups u.frzs u.tbls (λm' hm=>by
  obtain⟨o',es',ep',ho',r'⟩:=hm
  rw[ho] at ho';cases ho'
  exact⟨_,es',ep',hL,r'⟩) hok I.bare
def Inv.call {σ:List (Option V)}{h':Heap}{g':Array GenState}{t':Nat}{d':Drawn}{ch:List Addr}(I:Inv X pins σ H s)(u:Un (frs X.stack) ch H H' s.heap h')(hok:HOk X.prog X.w H' h')(hg:AllBare g')
  (hch:∀b∈ch,(b∈X.ex∨X.s₀.heap.objs.size<=b)/\b≠X.env.locals/\(∀x c,X.env.cells.lookup x=some c->c≠b)/\∀p∈X.pn++pins,p.1≠b):
  Inv X pins σ H' {s with heap:=h',gens:=g',drawn:=d',toks:=t'}:=by
 obtain⟨m,⟨o,es,ep,ho,r⟩,_⟩:=id I.loc
 obtain⟨sl,hL⟩:=u.any ho I.free λz=>(hch _ z).2.1 rfl
 exact I.step (ch:=ch) hch (λb o hL hb hc e n=>u.keep b o e n (λz=>(Ara.mp (I.stkSub b z)).elim hL hb) hc) (λb o _ _ hc e n=>u.any e n hc) (λb o hc e n=>u.free b o e n hc) (λb o hc e=>u.there b o e hc) u.tups u.frzs u.tbls (λm' hm=>by
  obtain⟨o',es',ep',ho',r'⟩:=hm
  rw[ho] at ho';cases ho'
  exact⟨_,es',ep',hL,r'⟩) hok hg
def Inv.turned {σ:List (Option V)}{h':Heap}{t':Nat}{it:Addr}(I:Inv X pins σ H s)(k:∀b o,b≠it->s.heap.get? b=some o->h'.get? b=some o)(hn:H it=none)(hL:it≠X.env.locals)
  (h1:it∈X.ex∨X.s₀.heap.objs.size<=it) (h2:∀x c,X.env.cells.lookup x=some c->c≠it) (h3:∀p∈X.pn++pins,p.1≠it):Inv X pins σ H {s with heap:=h',toks:=t'}:=by
 have nit:∀b u,H b=some u->b≠it:=λb u e z=>by rw[z,hn] at e;cases e
 refine I.step (g':=s.gens) (d':=s.drawn) (ch:=[it]) (λb hb=>?_) (λb o _ _ hc e _=>k b o (λz=>hc (by simp[z])) e) (λb o _ _ hc e _=>⟨o.slots,k b o (λz=>hc (by simp[z])) e⟩) (λ_ _ _ _ n=>n)
  (λb o hc e=>⟨o,k b o (λz=>hc (by simp[z])) e⟩) (λ_ _ e=>e) (λ_ _ _ e=>e) (λb ps e=>⟨#[],by rw[e];simp⟩) (λm hm=>?_) (λb u e=>?_) I.bare
 ·
  have e:b=it:=by simpa using hb
  subst e
  exact⟨h1,hL,h2,h3⟩
 ·
  obtain⟨o,es,ep,ho,r⟩:=hm
  exact⟨o,es,ep,k _ o (Avl hL) ho,r⟩
 ·
  refine(I.hok b u e).stay (λc v hc q=>k c v ?_ q) (λ_ q=>q) λ_ _ q=>q
  rcases hc with z|z
  · rw[z];exact nit b u e
  · exact nit c _ z
def Inv.tok (I:Inv X pins σ H s)(t:Nat):Inv X pins σ H {s with toks:=t}:=I.un (h':=s.heap) (t':=t) Un.refl I.hok
theorem Inv.kept (I:Inv X pins σ H s)(k:∀b u,s.heap.get? b=some u->h'.get? b=some u):Inv X pins σ H {s with heap:=h',toks:=t'}:=I.un (Un.kept k) (I.hok.kept k)
theorem Inv.laid (I:Inv X pins σ H s)(k:∀b u,s.heap.get? b=some u->h'.get? b=some u)(hp:s.heap.objs.size<=a)(new:ObjOk X.prog X.w (upd H a o) h' a o):
 Inv X pins σ (upd H a o) {s with heap:=h',toks:=t'}:=I.un (Un.laid k hp (I.hok.fresh hp)) (I.hok.laid k hp new)
theorem Inv.write (I:Inv X pins σ H s)(mu:Mut (H x))(he:e=x∨H e=some (.own x))(k:∀b u,b≠e->s.heap.get? b=some u->h'.get? b=some u)(heo:∃u,h'.get? e=some u)
 (new:ObjOk X.prog X.w (upd H x o) h' x o):Inv X pins σ (upd H x o) {s with heap:=h',toks:=t'}:=I.un (Un.write mu he k heo) (I.hok.write mu he k heo new)
def Inv.pins_of (I:Inv X pins σ H s)(h:∀p∈pins',s.heap.get? p.1=some p.2/\H p.1=none/\p.1≠X.env.locals/\p.1∉X.fs/\∀v,p.2.data≠ .cell v):Inv X pins' σ H s:=
 ⟨I.ok,I.os,I.bare,I.base,I.loc,I.cell,I.free,I.freeC,λp hp=>(Ar0.mp hp).elim (λz=>I.pin p (Asa _ z)) (h p),I.hok,I.len⟩
def zj {N:List Str}(hN:N.Nodup){i j:Nat}{x:Str}(a:N[i]?=some x)(b:N[j]?=some x):i=j:=by
 obtain⟨h1,e1⟩:=Aq5.mp a
 obtain⟨h2,e2⟩:=Aq5.mp b
 exact(List.getElem_inj hN).mp (e1.trans e2.symm)
def vp (I:Inv X pins σ H s)(hN:X.N.Nodup)(hi:X.N[i]?=some x)(hx:Loc X.env.scope x)(r:RelV v u)
  (h:∀s',Inv X pins (σ.set i (some v)) H s'->(∃a,Heap.SameBut a s.heap s'.heap/\(a=X.env.locals∨X.env.cells.lookup x=some a))->Q () s') (hf:X.fn x=true∨X.env.scope.names.lookup x=some .local:=by first|exact .inl rfl|exact .inr rfl|assumption):wpAny M A (storeName X.env x u) Q E s:=by
 obtain⟨m,hn,hl⟩:=id I.loc
 have hcls:(X.env.scope.kind== .class||(X.env.scope.kind== .module&&X.env.locals != X.env.globals))=false:=by rw[I.ok.kind];rfl
 have hiσ:i<σ.length:=by rw[I.len];exact(Aq5.mp hi).1
 have cne:=I.cne
 have tracked:∀{a:Addr}{h':Heap},(∃o,s.heap.get? a=some o/\H a=none)->Heap.SameBut a s.heap h'->HOk X.prog X.w H h':=λ{a h'}ha hs b ob e=>by
  obtain⟨_,_,hfree⟩:=ha
  refine(I.hok b ob e).stay (λc w' hc q=>(hs.2 c ?_).trans q) (λ_ q=>q) λ_ _ q=>q
  rintro rfl
  rcases hc with rfl|hc
  · rw[hfree] at e;cases e
  · rw[hfree] at hc;cases hc
 rcases hx with hk|hk
 ·
  refine wpAny_storeName_local hk hn (λh' hn' hs=>?_) hcls
  obtain⟨oL,_,_,hoL,_⟩:=id hn
  refine h _ ⟨I.ok,I.os,I.bare,⟨λb o e n hb hx=>?_,λb o e n hb hx=>?_,I.base.free,λb o e hx=>?_,I.base.tups,I.base.frzs,I.base.tbls⟩,⟨_,hn',λj y v' e1 e2 e3=>?_⟩,λy c e=>?_,I.free,I.freeC,λp hp=>?_,tracked ⟨oL,hoL,I.free⟩ hs,by simpa using I.len⟩ ⟨_,hs,.inl rfl⟩
  · exact(hs.2 b (Arc (Arq (Aqy e) I.ok.above))).trans (I.base.keep b o e n hb hx)
  ·
   obtain⟨sl,e1⟩:=I.base.slot b o e n hb hx
   exact⟨sl,(hs.2 b (Arc (Arq (Aqy e) I.ok.above))).trans e1⟩
  ·
   obtain⟨o',e1⟩:=I.base.there b o e hx
   exact⟨o',(hs.2 b (Arc (Arq (Aqy e) I.ok.above))).trans e1⟩
  ·
   by_cases hj:j=i
   ·
    subst hj
    rw[hi] at e1;cases e1
    rw[List.getElem?_set_self hiσ] at e2
    cases e2
    exact⟨u,r,.inl ⟨hk,dks⟩⟩
   ·
    rw[List.getElem?_set_ne (Avl hj)] at e2
    obtain⟨u',r',q⟩:=hl j y v' e1 e2 e3
    refine⟨u',r',?_⟩
    rcases q with⟨k,e⟩|⟨k,c,e,z⟩
    ·
     refine .inl ⟨k,?_⟩
     have:y≠x:=λe=>hj (zj hN e1 (e▸hi))
     simp[this,e]
    · exact .inr ⟨k,c,e,z.sameBut hs (cne y c e)⟩
  ·
   obtain⟨w',z⟩:=I.cell y c e
   exact⟨w',z.sameBut hs (cne y c e)⟩
  ·
   obtain⟨e,n,ne,nf,d⟩:=I.pin p hp
   exact⟨(hs.2 p.1 ne).trans e,n,ne,nf,d⟩
 ·
  have hfn:X.fn x=true:=by
   rcases hf with z|z
   · exact z
   · rw[z] at hk;cases hk
  obtain⟨c,hc⟩:=I.ok.has x (.inl hk)
  obtain⟨w',z⟩:=I.cell x c hc
  refine wpAny_storeName_cell I.ok.kind hk hc z (λh' hc' hs=>?_)
  obtain⟨oc,hoc,hocd⟩:=id z
  refine h {s with heap:=h'} ⟨I.ok,I.os,I.bare,⟨λb o e n hb hx=>?_,λb o e n hb hx=>?_,I.base.free,λb o e hx=>?_,I.base.tups,I.base.frzs,I.base.tbls⟩,⟨m,hn.sameBut hs (Avl (cne x c hc)),λj y v' e1 e2 e3=>?_⟩,λy c' e=>?_,I.free,I.freeC,λp hp=>?_,tracked ⟨oc,hoc,I.freeC x c hc⟩ hs,by simpa using I.len⟩ ⟨c,hs,.inr hc⟩
  · exact(hs.2 b (Arc (Arq (Aqy e) (I.ok.cab x c hfn hc)))).trans (I.base.keep b o e n hb hx)
  ·
   obtain⟨sl,e1⟩:=I.base.slot b o e n hb hx
   exact⟨sl,(hs.2 b (Arc (Arq (Aqy e) (I.ok.cab x c hfn hc)))).trans e1⟩
  ·
   obtain⟨o',e1⟩:=I.base.there b o e hx
   exact⟨o',(hs.2 b (Arc (Arq (Aqy e) (I.ok.cab x c hfn hc)))).trans e1⟩
  ·
   by_cases hj:j=i
   ·
    subst hj
    rw[hi] at e1;cases e1
    rw[List.getElem?_set_self hiσ] at e2
    cases e2
    exact⟨u,r,.inr ⟨.inl hk,c,hc,hc'⟩⟩
   ·
    rw[List.getElem?_set_ne (Avl hj)] at e2
    obtain⟨u',r',q⟩:=hl j y v' e1 e2 e3
    refine⟨u',r',?_⟩
    rcases q with q|⟨k,c',e,z'⟩
    · exact .inl q
    ·
     refine .inr ⟨k,c',e,z'.sameBut hs ?_⟩
     rintro rfl
     exact hj (zj hN e1 (I.ok.inj _ _ _ e hc▸hi))
  ·
   by_cases hcc:c'=c
   · subst hcc;exact⟨_,hc'⟩
   ·
    obtain⟨w2,z2⟩:=I.cell y c' e
    exact⟨w2,z2.sameBut hs hcc⟩
  ·
   obtain⟨e,n,ne,nf,d⟩:=I.pin p hp
   refine⟨(hs.2 p.1 ?_).trans e,n,ne,nf,d⟩
   intro q
   rw[q,hoc] at e
   have q':oc=p.2:=Arl e
   exact d w' (by rw[←q'];exact hocd)
def qu (I:Inv X pins σ H s)(hN:X.N.Nodup)(hi:X.N[i]?=some x)(hx:Loc X.env.scope x)(r:RelV v u)
  (h:∀s',Inv X pins (σ.set i (some v)) H s'->Q () s') (hf:X.fn x=true∨X.env.scope.names.lookup x=some .local:=by first|exact .inl rfl|exact .inr rfl|assumption):wpAny M A (storeName X.env x u) Q E s:=
 vp I hN hi hx r (λs' I' _=>h s' I') hf
def Inv.call' (I:Inv X pins σ H s)(ho:s'.os=s.os)(u:Un (frs X.stack) ch H H' s.heap s'.heap)(hok:HOk X.prog X.w H' s'.heap)(hg:AllBare s'.gens)
  (hch:∀b∈ch,(b∈X.ex∨X.s₀.heap.objs.size<=b)/\b≠X.env.locals/\(∀x c,X.env.cells.lookup x=some c->c≠b)/\∀p∈X.pn++pins,p.1≠b):Inv X pins σ H' s':=by
 obtain⟨h',g',d',t',o'⟩:=s'
 have e:o'=s.os:=ho
 subst e
 exact I.call (g':=g') (t':=t') (d':=d') u hok hg hch
abbrev XK:=Value->Option Addr->Hp->Prop
abbrev St:=List (Option V)
abbrev VK:=V->Hp->Prop
abbrev TE:=St->Hp->VK->Prop
abbrev TT:=St->Hp->(Bool->Hp->Prop)->Prop
abbrev TA:=St->Hp->(List V->Hp->Prop)->Prop
structure Ends where
 nx:St->Hp->Prop
 rt:St->VK
 bk:St->Hp->Prop:=λ_ _=>False
 ct:St->Hp->Prop:=λ_ _=>False
abbrev TS:=Ends->St->Hp->Prop
def EP (X:Cx)(pins:List (Addr×Obj))(σ:St)(Q:VK)(u:Value)(s':Shared):Prop:=∃v H',Inv X pins σ H' s'/\RelV v u/\Q v H'
def TP (X:Cx)(pins:List (Addr×Obj))(σ:St)(Q:Bool->Hp->Prop)(b:Bool)(s':Shared):Prop:=∃H',Inv X pins σ H' s'/\Q b H'
def AP (X:Cx)(pins:List (Addr×Obj))(σ:St)(Q:List V->Hp->Prop)(us:List Value)(s':Shared):Prop:=∃vs H',Inv X pins σ H' s'/\Vals vs us/\Q vs H'
def SP (X:Cx)(pins:List (Addr×Obj))(D:Ends)(f:Flow)(s':Shared):Prop:=
 match f with
 | .next=>∃σ' H',Inv X pins σ' H' s'/\D.nx σ' H'
 | .brk=>∃σ' H',Inv X pins σ' H' s'/\D.bk σ' H'
 | .cont=>∃σ' H',Inv X pins σ' H' s'/\D.ct σ' H'
 | .ret u=>∃v σ' H',Inv X pins σ' H' s'/\RelV v u/\D.rt σ' v H'
def PE (X:Cx)(e:Expr)(t:TE):Prop:=
 ∀(pins:List (Addr×Obj))(s:Shared)(σ:St)(H:Hp)(Q:VK),Inv X pins σ H s->t σ H Q->wpAny (model X.prog X.w) X.A (eval e X.env) (EP X pins σ Q) X.xe s
def PT (X:Cx)(e:Expr)(t:TT):Prop:=
 ∀(pins:List (Addr×Obj))(s:Shared)(σ:St)(H:Hp)(Q:Bool->Hp->Prop),Inv X pins σ H s->t σ H Q->wpAny (model X.prog X.w) X.A (isTrue e X.env (eval e X.env)) (TP X pins σ Q) X.xe s
def PW (X:Cx)(e:Expr)(t:TT):Prop:=
 ∀(whole:Sem Value)(pins:List (Addr×Obj))(s:Shared)(σ:St)(H:Hp)(Q:Bool->Hp->Prop),Inv X pins σ H s->t σ H Q->wpAny (model X.prog X.w) X.A (isTrue e X.env whole) (TP X pins σ Q) X.xe s
def PW.pt (h:PW X e t):PT X e t:=h _
abbrev _root_.Awt:=@PW.pt
def PA (X:Cx)(es:List Expr)(t:TA):Prop:=
 ∀(pos:Pos)(pins:List (Addr×Obj))(s:Shared)(σ:St)(H:Hp)(Q:List V->Hp->Prop),Inv X pins σ H s->t σ H Q->wpAny (model X.prog X.w) X.A (spliced (backTo pos (starEach es X.env))) (AP X pins σ Q) X.xe s
def PS (X:Cx)(st:Stmt)(t:TS):Prop:=
 ∀(pins:List (Addr×Obj))(s:Shared)(σ:St)(H:Hp)(D:Ends),Inv X pins σ H s->t D σ H->wpAny (model X.prog X.w) X.A (exec st X.env) (SP X pins D) X.xe s
def PSs (X:Cx)(st:List Stmt)(t:TS):Prop:=
 ∀(pins:List (Addr×Obj))(s:Shared)(σ:St)(H:Hp)(D:Ends),Inv X pins σ H s->t D σ H->wpAny (model X.prog X.w) X.A (execs st X.env) (SP X pins D) X.xe s
def thn (h:wpAny M A t Q E s)(hQ:∀a s,Q a s->Q' a s):wpAny M A t Q' E s:=Asp h hQ λ_ _ x=>x
def Ap6 (i:Nat):TE:=λσ H Q=>∃v,σ[i]?=some (some v)/\Q v H
def tC (v:V):TE:=λ_ H Q=>Q v H
def Akp (hN:X.N[i]?=some x)(hv:Vis X.env.scope x)(hd:(x==("__debug__":Str))=false:=by decide)(hcd:(x==("__classdict__":Str))=false:=by decide):PE X (.Name x pos) (Ap6 i):=by
 intro pins s σ H Q I h
 obtain⟨v,e,h⟩:=h
 obtain⟨m,hn,hl⟩:=I.loc
 obtain⟨u,r,l⟩:=hl i x v hN e hv
 have fin:EP X pins σ Q u s:=⟨v,H,I,r,h⟩
 rcases l with⟨hk,hm⟩|⟨hk,c,hc,hcell⟩
 · exact wpAny_Name (wpAny_loadName_local I.ok.kind hk hn hm fin) hd
 ·
  rcases hk with hk|hk
  · exact wpAny_Name (wpAny_loadName_cell I.ok.kind hk hc hcell fin) hd
  · exact wpAny_Name (wpAny_loadName_free I.ok.kind hk hc hcell fin hcd) hd
def Ab {i j pos}:PE X (.Constant (.int i) j pos) (tC (.int i)):=λ_ _ _ H _ I h=>wpAny_Constant_int ⟨.int i,H,I.tok _,⟨_,rfl⟩,h⟩
def Yc {b j pos}:PE X (.Constant (.bool b) j pos) (tC (.bl b)):=λ_ _ _ H _ I h=>Constant_bool ⟨.bl b,H,I,rfl,h⟩
def F0 {j pos}:PE X (.Constant .none j pos) (tC .non):=λ_ _ _ H _ I h=>Constant_none ⟨.non,H,I,rfl,h⟩
def Bo {x j pos}:PE X (.Constant (.str x) j pos) (tC (.str x)):=λ_ _ _ H _ I h=>Calls.Constant_str ⟨.str x,H,I.tok _,⟨_,rfl⟩,h⟩
def Gl (X:Cx)(x:Str):Prop:=X.env.kindOf x=some .globalImplicit
def jl (I:Inv X pins σ H s)(hg:Gl X x)(hm:X.mg x=some u)(h:Q u s)
  (hd:(x==("__debug__":Str))=false:=by decide):wpAny (model X.prog X.w) X.A (eval (.Name x pos) X.env) Q E s:=
 Calls.Name_function_global I.ok.kind hg (Calls.loadGlobal_global (by rw[I.ok.glob];exact I.mod.glob.keeps I.bk) hm h) hd
def i7 (I:Inv X pins σ H s)(hg:Gl X x)(hm:X.mg x=none)(hv:bootBuiltins x=some u)(h:Q u s)
  (hn:x≠"__name__":=by decide) (hd:(x==("__debug__":Str))=false:=by decide):wpAny (model X.prog X.w) X.A (eval (.Name x pos) X.env) Q E s:=by
 obtain⟨mb,h1,h2⟩:=I.mod.blt
 exact Calls.Name_function_global I.ok.kind hg (Calls.loadGlobal_builtin (by rw[I.ok.glob];exact I.mod.glob.keeps I.bk) hm (by rw[I.ok.blt];exact h1.keeps I.bk) ((h2 x hn).trans hv) h) hd
def Ad8 (hg:Gl X x)(hm:X.mg x=some u)(r:RelV v u)(hd:(x==("__debug__":Str))=false:=by decide):PE X (.Name x pos) (tC v):=
 λ_ _ _ H _ I h=>jl I hg hm ⟨v,H,I,r,h⟩ hd
def Qi (hg:Gl X x)(hm:X.mg x=none)(hv:bootBuiltins x=some u)(r:RelV v u)(hn:x≠"__name__":=by decide)(hd:(x==("__debug__":Str))=false:=by decide):PE X (.Name x pos) (tC v):=
 λ_ _ _ H _ I h=>i7 I hg hm hv ⟨v,H,I,r,h⟩ hn hd
def PC (X:Cx)(op:CmpOp)(a b:Expr)(t:TE):Prop:=
 ∀(pins:List (Addr×Obj))(s:Shared)(σ:St)(H:Hp)(Q:VK),Inv X pins σ H s->t σ H Q->
  wpAny (model X.prog X.w) X.A (eval a X.env) (λv s₁=>wpAny (model X.prog X.w) X.A (eval b X.env) (λu s₂=>wpAny (model X.prog X.w) X.A (compareOp op v u) (EP X pins σ Q) X.xe s₂) X.xe s₁) X.xe s
def tB (t:TE):TT:=λσ H Q=>t σ H λx H1=>∃c,x=.bl c/\Q c H1
def Akg (h:PC X op a b t)(h1:behindInMarks op b=false:=by first|exact nobehind _ dkd dkd|rfl):PE X (.Compare a [op] [b] pos) t:=λpins s σ H Q I hw=>wpAny_Compare1 (h pins s σ H Q I hw) h1
def Ami (h:PC X op a b t)(h1:behindInMarks op b=false:=by first|exact nobehind _ dkd dkd|rfl):PT X (.Compare a [op] [b] pos) (tB t):=by
 intro pins s σ H Q I hw
 refine wpAny_isTrue_Compare1 (thn (h pins s σ H _ I hw) λv s1 h1=>thn h1 λu s2 h2=>thn h2 λc s3 ⟨x,H1,I1,r1,q1⟩=>?_) h1
 obtain⟨d,rfl,q⟩:=q1
 cases r1
 exact Aso ⟨H1,I1,q⟩
def Al6 (h:PE X e t)(he:∀whole,isTrue e X.env whole=(do let v ←whole;standAt e.pos;holding [v] (truthy v)):=by intro _;rfl):PT X e (tB t):=by
 intro pins s σ H Q I hw
 refine isTrue_plain (thn (h pins s σ H _ I hw) λv s1 ⟨x,H1,I1,r1,q1⟩=>?_) (he _)
 obtain⟨d,rfl,q⟩:=q1
 cases r1
 exact Aso ⟨H1,I1,q⟩
def Aqe (t u:TT):TT:=λσ H Q=>t σ H λc H1=>if c=true then u σ H1 Q else Q false H1
def tOr (t u:TT):TT:=λσ H Q=>t σ H λc H1=>if c=true then Q true H1 else u σ H1 Q
def Apk (t:TT):TT:=λσ H Q=>t σ H λc H1=>Q (!c) H1
theorem J1 (ha:PT X a tA):PW X (.BoolOp .And [a] pos) tA:=by
 intro wh pins s σ H Q I h
 refine isTrue_and (thn (ha pins s σ H Q I h) λc s1 e=>?_)
 cases c with
 | true=>exact isTrue_and_nil e
 | false=>exact e
theorem Vd (ha:PT X a tA):PW X (.BoolOp .Or [a] pos) tA:=by
 intro wh pins s σ H Q I h
 refine isTrue_or (thn (ha pins s σ H Q I h) λc s1 e=>?_)
 cases c with
 | false=>exact isTrue_or_nil e
 | true=>exact e
theorem Ak3 {a:Expr}{pos:Pos}{tA tB':TT}{rest:List Expr}(ha:PT X a tA)(hb:PW X (.BoolOp .And (b::rest) pos) tB'):PW X (.BoolOp .And (a::b::rest) pos) (Aqe tA tB'):=by
 intro wh pins s σ H Q I h
 refine isTrue_and (thn (ha pins s σ H _ I h) λc s1 hz=>?_)
 obtain⟨H1,I1,q1⟩:=hz
 cases c with
 | true=>exact hb wh pins s1 σ H1 Q I1 q1
 | false=>exact⟨H1,I1,q1⟩
theorem Anl {a:Expr}{pos:Pos}{tA tB':TT}{rest:List Expr}(ha:PT X a tA)(hb:PW X (.BoolOp .Or (b::rest) pos) tB'):PW X (.BoolOp .Or (a::b::rest) pos) (tOr tA tB'):=by
 intro wh pins s σ H Q I h
 refine isTrue_or (thn (ha pins s σ H _ I h) λc s1 hz=>?_)
 obtain⟨H1,I1,q1⟩:=hz
 cases c with
 | true=>exact⟨H1,I1,q1⟩
 | false=>exact hb wh pins s1 σ H1 Q I1 q1
def Od (ha:PT X a tA):PT X (.UnaryOp .Not a pos) (Apk tA):=by
 intro pins s σ H Q I h
 exact isTrue_not (ha pins s σ H (λc H1=>Q (!c) H1) I h)
def Aoi (ta tb:TE):TE:=λσ H Q=>ta σ H λx H1=>∃c,x=.bl c/\if c=true then tb σ H1 Q else Q (.bl false) H1
def Ap1 (ta tb:TE):TE:=λσ H Q=>ta σ H λx H1=>∃c,x=.bl c/\if c=true then Q (.bl true) H1 else tb σ H1 Q
def Aol (ta:TE):TE:=λσ H Q=>ta σ H λx H1=>∃c,x=.bl c/\Q (.bl (!c)) H1
def Dc {op}(h:PE X a t):PE X (.BoolOp op [a] pos) t:=λpins s σ H Q I hw=>BoolOp_one (h pins s σ H Q I hw)
theorem Akt {a:Expr}{ta tb:TE}{pos:Pos}{rest:List Expr}(ha:PE X a ta)(hb:PE X (.BoolOp .And (b::rest) pos) tb):PE X (.BoolOp .And (a::b::rest) pos) (Aoi ta tb):=by
 intro pins s σ H Q I h
 refine BoolOp_and (thn (ha pins s σ H _ I h) λv s1 hz=>?_)
 obtain⟨x,H1,I1,r1,q1⟩:=hz
 obtain⟨c,rfl,q1⟩:=q1
 cases r1
 refine Aso ?_
 cases c with
 | true=>exact hb pins s1 σ H1 Q I1 q1
 | false=>exact⟨.bl false,H1,I1,rfl,q1⟩
theorem Am7 {a:Expr}{ta tb:TE}{pos:Pos}{rest:List Expr}(ha:PE X a ta)(hb:PE X (.BoolOp .Or (b::rest) pos) tb):PE X (.BoolOp .Or (a::b::rest) pos) (Ap1 ta tb):=by
 intro pins s σ H Q I h
 refine BoolOp_or (thn (ha pins s σ H _ I h) λv s1 hz=>?_)
 obtain⟨x,H1,I1,r1,q1⟩:=hz
 obtain⟨c,rfl,q1⟩:=q1
 cases r1
 refine Aso ?_
 cases c with
 | false=>exact hb pins s1 σ H1 Q I1 q1
 | true=>exact⟨.bl true,H1,I1,rfl,q1⟩
def Amk (ha:PE X a ta):PE X (.UnaryOp .Not a pos) (Aol ta):=by
 intro pins s σ H Q I h
 refine UnaryOp_ (thn (ha pins s σ H _ I h) λv s1 hz=>?_)
 obtain⟨x,H1,I1,r1,q1⟩:=hz
 obtain⟨c,rfl,q1⟩:=q1
 cases r1
 exact not_of (Aso ⟨.bl (!c),H1,I1,rfl,q1⟩)
def tIf (t:TT)(ta tb:TE):TE:=λσ H Q=>t σ H λc H1=>if c=true then ta σ H1 Q else tb σ H1 Q
theorem Agi (hc:PT X c tA)(ha:PE X a ta)(hb:PE X b tb):PE X (.IfExp c a b pos) (tIf tA ta tb):=by
 intro pins s σ H Q I h
 refine wpAny_IfExp (thn (hc pins s σ H _ I h) λd s1 hz=>?_)
 obtain⟨H1,I1,q1⟩:=hz
 cases d with
 | true=>exact ha pins s1 σ H1 Q I1 q1
 | false=>exact hb pins s1 σ H1 Q I1 q1
def SqL (K:W.Frag)(H:Hp)(a:Addr)(xs:List V):Prop:=
 Rd H a (.lst xs)∨
  ∃(o:Obj)(its:Array Value)(n:Nat),K.lookup a=some o/\o.cls=.type "list"/\o.dict=none/\o.data=.seq its n/\its.size<=sizeLine/\Vals xs its.toList
def SqT (K:W.Frag)(H:Hp)(a:Addr)(xs:List V):Prop:=
 Rd H a (.tup xs)∨
  ∃(o:Obj)(its:Array Value)(n:Nat),K.lookup a=some o/\o.cls=.type "tuple"/\o.data=.seq its n/\its.size<=sizeLine/\Vals xs its.toList
def Aql:Value->Option V
 | .none=>some .non
 | .bool b=>some (.bl b)
 | .int i _=>some (.int i)
 | .str x _=>some (.str x)
 | .bytes b _=>some (.byt b)
 | .float b _=>some (.flt b)
 | .ref a=>some (.ref a)
 | .type n=>some (.ty n)
 | _=>none
theorem RelV.abs (r:RelV x u):Aql u=some x:=by
 cases x with
 | non=>cases r;rfl
 | bl _=>cases r;rfl
 | int _=>obtain⟨t,rfl⟩:=r;rfl
 | str _=>obtain⟨t,rfl⟩:=r;rfl
 | byt _=>obtain⟨t,rfl⟩:=r;rfl
 | flt _=>obtain⟨t,rfl⟩:=r;rfl
 | ref _=>cases r;rfl
 | ty _=>cases r;rfl
def RelV.inj (r:RelV x u)(q:RelV y u):x=y:=Arl (r.abs.symm.trans q.abs)
theorem Vals.inj:∀{xs ys:List V}{us:List Value},Vals xs us->Vals ys us->xs=ys
 | _,_,_,.nil,.nil=>rfl
 | _,_,_,.cons r t,.cons r' t'=>by rw[r.inj r',Vals.inj t t']
variable {σ:St}
def SqL.of {a:Addr}{xs:List V}{K:W.Frag}(h:H a=some (.lst xs)):SqL K H a xs:=.inl (.inl h)
abbrev _root_.Aws:=@SqL.of
def SqT.of {a:Addr}{xs:List V}{K:W.Frag}(h:H a=some (.tup xs)):SqT K H a xs:=.inl (.inl h)
abbrev _root_.Awq:=@SqT.of
def Inv.list (I:Inv X pins σ H s)(h:SqL X.K H a xs):∃its:List Value,Vals xs its/\PlainL s.heap a its.toArray/\xs.length<=sizeLine:=by
 rcases h with h|⟨o,its,n,hk,hc,hd,hs,hz,r⟩
 ·
  obtain⟨z,its,n,r,e⟩:=h.ok I.hok
  exact⟨its,r,⟨_,n,e,rfl,rfl,rfl⟩,z⟩
 ·
  refine⟨its.toList,r,⟨o,n,I.kIn a o hk,hc,hd,by simpa using hs⟩,?_⟩
  have e:=r.length
  simp only[Aqx] at e
  lia
def Inv.tuple (I:Inv X pins σ H s)(h:SqT X.K H a xs):∃its:List Value,Vals xs its/\IsTup s.heap a its.toArray/\xs.length<=sizeLine:=by
 rcases h with h|⟨o,its,n,hk,hc,hs,hz,r⟩
 ·
  obtain⟨z,its,r,p⟩:=h.ok I.hok
  exact⟨its,r,p,z⟩
 ·
  refine⟨its.toList,r,⟨o,I.kIn a o hk,hc,n,by simpa using hs⟩,?_⟩
  have e:=r.length
  simp only[Aqx] at e
  lia
def Inv.list_inj (I:Inv X pins σ H s)(h:SqL X.K H a xs)(h':SqL X.K H a ys):xs=ys:=by
 obtain⟨its,r,⟨o,n,e,_,_,d⟩,_⟩:=I.list h
 obtain⟨its',r',⟨o',n',e',_,_,d'⟩,_⟩:=I.list h'
 rw[e] at e';cases e'
 rw[d] at d'
 injection d' with d1 _
 have:its=its':=by simpa using At5 Array.toList d1
 subst this
 exact r.inj r'
def Inv.tuple_inj (I:Inv X pins σ H s)(h:SqT X.K H a xs)(h':SqT X.K H a ys):xs=ys:=by
 obtain⟨its,r,⟨o,e,_,n,d⟩,_⟩:=I.tuple h
 obtain⟨its',r',⟨o',e',_,n',d'⟩,_⟩:=I.tuple h'
 rw[e] at e';cases e'
 rw[d] at d'
 injection d' with d1 _
 have:its=its':=by simpa using At5 Array.toList d1
 subst this
 exact r.inj r'
abbrev Cx.wish (X:Cx)(E:Value->Shared->Prop):Cx:={X with xe:=E}
abbrev Cx.nox (X:Cx):Cx:=X.wish λ_ _=>False
theorem Cx.Ok.wish (ok:X.Ok)(E:Value->Shared->Prop):(X.wish E).Ok:=
 ⟨ok.mod,ok.kind,ok.glob,ok.blt,ok.above,ok.inj,ok.has,ok.cab,ok.hd,ok.frames,ok.stk,ok.exf,ok.bs,ok.bsz,ok.noex,ok.exfs,ok.funs,ok.frf⟩
def Cx.Ok.unwish (ok:(X.wish E).Ok):X.Ok:=
 ⟨ok.mod,ok.kind,ok.glob,ok.blt,ok.above,ok.inj,ok.has,ok.cab,ok.hd,ok.frames,ok.stk,ok.exf,ok.bs,ok.bsz,ok.noex,ok.exfs,ok.funs,ok.frf⟩
variable {E:Value->Shared->Prop}
theorem Inv.wish (I:Inv X pins σ H s)(E:Value->Shared->Prop):Inv (X.wish E) pins σ H s:=⟨I.ok.wish E,I.os,I.bare,I.base,I.loc,I.cell,I.free,I.freeC,I.pin,I.hok,I.len⟩
theorem Inv.unwish (I:Inv (X.wish E) pins σ H s):Inv X pins σ H s:=⟨I.ok.unwish,I.os,I.bare,I.base,I.loc,I.cell,I.free,I.freeC,I.pin,I.hok,I.len⟩
theorem SP.unwish (h:SP (X.wish E) pins D f s'):SP X pins D f s':=by
 cases f with
 | next=>obtain⟨σ',H',I,q⟩:=h;exact⟨σ',H',I.unwish,q⟩
 | brk=>obtain⟨σ',H',I,q⟩:=h;exact⟨σ',H',I.unwish,q⟩
 | cont=>obtain⟨σ',H',I,q⟩:=h;exact⟨σ',H',I.unwish,q⟩
 | ret u=>obtain⟨v,σ',H',I,r,q⟩:=h;exact⟨v,σ',H',I.unwish,r,q⟩
theorem PSs.nox {st:List Stmt}{t:TS}(h:PSs X.nox st t):PSs X st t:=λpins s σ H D I hw=>
 Asp (h pins s σ H D (I.wish _) hw) (λ_ _ q=>q.unwish) λ_ _ z=>False.elim z
def Ann:TS:=λD σ H=>D.nx σ H
def Apt (t u:TS):TS:=λD σ H=>t {D with nx:=u D} σ H
def Ao:PSs X [] Ann:=λ_ _ σ H _ I h=>Awc ⟨σ,H,I,h⟩
theorem Ac {st:Stmt}{rest:List Stmt}{t u:TS}(h1:PS X st t)(h2:PSs X rest u):PSs X (st::rest) (Apt t u):=by
 intro pins s σ H D I h
 refine wpAny_execs_cons (thn (h1 pins s σ H {D with nx:=u D} I h) λf s1 q=>?_)
 cases f with
 |
  next=>
  obtain⟨σ',H',I',q⟩:=q
  exact h2 pins s1 σ' H' D I' q
 | ret v=>exact q
 | brk=>exact q
 | cont=>exact q
theorem Af {st:Stmt}{t:TS}(h1:PS X st t):PSs X [st] t:=by
 intro pins s σ H D I h
 refine wpAny_execs_cons (thn (h1 pins s σ H D I h) λf s1 q=>?_)
 cases f with
 | next=>exact Awc q
 | ret v=>exact q
 | brk=>exact q
 | cont=>exact q
def Inv.quiet (I:Inv X pins σ H s):interactive X.env=false:=by simp[interactive,I.ok.kind]
def Aom (te:TE):TS:=λD σ H=>te σ H λ_ H1=>D.nx σ H1
def Ct (he:PE X e te)(hs:swapsWith e none pos.line X.env=pure false:=by rfl):PS X (.Expr e pos) (Aom te):=by
 intro pins s σ H D I h
 exact wpAny_Expr_any (thn (he pins s σ H _ I h) λv s1 hz=>by obtain⟨x,H1,I1,r1,q1⟩:=hz;exact⟨σ,H1,I1,q1⟩) I.quiet hs
def Aqj (te:TE):TS:=λD σ H=>te σ H (D.rt σ)
def Aj (he:PE X e te):PS X (.Return (some e) pos) (Aqj te):=by
 intro pins s σ H D I h
 exact wpAny_Return_some (thn (he pins s σ H _ I h) λv s1 hz=>by obtain⟨x,H1,I1,r1,q1⟩:=hz;exact⟨x,σ,H1,I1,r1,q1⟩)
def Aqf (c:TT)(t u:TS):TS:=λD σ H=>c σ H λb H1=>if b=true then t D σ H1 else u D σ H1
theorem Anz (hc:PT X c tc)(ha:PSs X a t)(hb:PSs X b u):PS X (.If c a b pos) (Aqf tc t u):=by
 intro pins s σ H D I h
 refine wpAny_If (thn (hc pins s σ H _ I h) λd s1 hz=>?_)
 obtain⟨H1,I1,q1⟩:=hz
 cases d with
 | true=>exact ha pins s1 σ H1 D I1 q1
 | false=>exact hb pins s1 σ H1 D I1 q1
def Alr:TS:=λ_ _ _=>False
def Je {st:Stmt}:PS X st Alr:=λ_ _ _ _ _ _ h=>h.elim
abbrev TG:=V->St->Hp->(St->Hp->Prop)->Prop
abbrev TGs:=List V->St->Hp->(St->Hp->Prop)->Prop
def PG (X:Cx)(target:Expr)(t:TG):Prop:=
 ∀(pins:List (Addr×Obj))(s:Shared)(σ:St)(H:Hp)(v:V)(u:Value)(Q:St->Hp->Prop),Inv X pins σ H s->RelV v u->t v σ H Q->
  wpAny (model X.prog X.w) X.A (assign target X.env u) (λ_ s'=>∃σ' H',Inv X pins σ' H' s'/\Q σ' H') X.xe s
def PGs (X:Cx)(ts:List Expr)(t:TGs):Prop:=
 ∀(pins:List (Addr×Obj))(s:Shared)(σ:St)(H:Hp)(vs:List V)(us:List Value)(Q:St->Hp->Prop),Inv X pins σ H s->Vals vs us->t vs σ H Q->
  wpAny (model X.prog X.w) X.A (assignInOrder ((assignEach ts X.env).map (·.2)) us) (λ_ s'=>∃σ' H',Inv X pins σ' H' s'/\Q σ' H') X.xe s
abbrev TIp:=V->V->Hp->VK->Prop
def PIp (X:Cx)(op:Operator)(t:TIp):Prop:=
 ∀(pins:List (Addr×Obj))(s:Shared)(σ:St)(H:Hp)(x y:V)(v u:Value)(Q:VK),Inv X pins σ H s->RelV x v->RelV y u->t x y H Q->
  wpAny (model X.prog X.w) X.A (inplaceOp op v u) (EP X pins σ Q) X.xe s
def fj (i:Nat):TG:=λv σ H Q=>Q (σ.set i (some v)) H
def Fq (hN:X.N.Nodup)(hi:X.N[i]?=some x)(hx:Loc X.env.scope x)(hf:X.fn x=true∨X.env.scope.names.lookup x=some .local:=by first|exact .inl rfl|exact .inr rfl|assumption):PG X (.Name x pos) (fj i):=by
 intro pins s σ H v u Q I r h
 exact wpAny_assign_Name (qu I hN hi hx r (λs' I'=>⟨_,H,I',h⟩) hf)
def Ao1:TGs:=λvs σ H Q=>vs=[]/\Q σ H
def Ajx (t:TG)(u:TGs):TGs:=λvs σ H Q=>∃v r,vs=v::r/\t v σ H λσ' H'=>u r σ' H' Q
def pq:PGs X [] Ao1:=by
 intro pins s σ H vs us Q I r h
 obtain⟨e,h⟩:=h
 subst e
 cases r
 exact assignInOrder_nil ⟨σ,H,I,h⟩
theorem Mm (h1:PG X e t)(h2:PGs X es u)
  (hs:(assignEach (e::es) X.env).map (·.2)=assign e X.env::(assignEach es X.env).map (·.2):=by rfl):PGs X (e::es) (Ajx t u):=by
 intro pins s σ H vs us Q I r h
 obtain⟨v,vr,e1,h⟩:=h
 subst e1
 cases r with
 |
  cons r rr=>
  rw[hs]
  refine assignInOrder_cons (thn (h1 pins s σ H _ _ _ I r h) λ_ s1 hz=>?_)
  obtain⟨σ1,H1,I1,q1⟩:=hz
  exact h2 pins s1 σ1 H1 _ _ Q I1 rr q1
def Am4 (K:W.Frag)(n:Nat)(t:TGs):TG:=λv σ H Q=>∃a xs,v=.ref a/\SqT K H a xs/\xs.length=n/\t xs σ H Q
def zp (hc:X.calm=true)(h:PGs X es t)
  (hn:(assignEach es X.env).length=n:=by rfl) (hst:(assignEach es X.env).findIdx? (·.1)=none:=by rfl):PG X (.Tuple es k pos) (Am4 X.K n t):=by
 intro pins s σ H v u Q I r hw
 obtain⟨a,xs,e1,hq,hl,hw⟩:=hw
 subst e1
 cases r
 obtain⟨its,rv,ht,hz⟩:=I.tuple hq
 refine assign_Tuple_tuple (I.ok.hd hc) ht (by simp[hn,←hl,rv.length]) hst λh' hx=>?_
 have I1:Inv X pins σ H {s with heap:=h'}:=I.kept (t':=s.toks) λb o e=>hx b o (Arc (Aqy e)) e
 exact h pins _ σ H xs _ Q I1 (by simpa using rv) hw
def Am1 (te:TE)(g:TG):TS:=λD σ H=>te σ H λx H1=>g x σ H1 D.nx
def Ahh (he:PE X e te)(hg:PG X tg g)(hs:swapsWithSole [tg] e pos.line X.env=pure false:=by rfl)(hw:swappedStores [tg] e X.env=pure none:=by rfl)
  (h1:(assignEach [tg] X.env).map (·.2)=[assign tg X.env]:=by rfl):PS X (.Assign [tg] e pos) (Am1 te g):=by
 intro pins s σ H D I h
 refine wpAny_Assign_stores (thn (he pins s σ H _ I h) λv s1 ⟨x,H1,I1,r1,q1⟩=>?_) hs hw
 rw[h1]
 exact thn (hg pins s1 σ H1 x v _ I1 r1 q1) λ_ s2 q=>q
def Fv (hN:X.N.Nodup)(hi:X.N[i]?=some x)(hx:Loc X.env.scope x)(he:PE X e te)(hs:swapsWith e (some (.Name x pos')) pos.line X.env=pure false:=by rfl)(hf:X.fn x=true∨X.env.scope.names.lookup x=some .local:=by first|exact .inl rfl|exact .inr rfl|assumption):
  PS X (.Assign [.Name x pos'] e pos) (Am1 te (fj i)):=by
 intro pins s σ H D I h
 refine wpAny_Assign_Name (thn (he pins s σ H _ I h) λv s1 ⟨y,H1,I1,r1,q1⟩=>?_) hs
 exact qu I1 hN hi hx r1 (λs2 I2=>⟨_,H1,I2,q1⟩) hf
def Apx (i:Nat)(te:TE)(ti:TIp):TS:=λD σ H=>∃x,σ[i]?=some (some x)/\te σ H λy H1=>ti x y H1 λz H2=>D.nx (σ.set i (some z)) H2
def vc (hN:X.N.Nodup)(hi:X.N[i]?=some x)(hx:Loc X.env.scope x)(he:PE X e te)(ho:PIp X op ti)(hf:X.fn x=true∨X.env.scope.names.lookup x=some .local:=by first|exact .inl rfl|exact .inr rfl|assumption):
  PS X (.AugAssign (.Name x pos') op e pos) (Apx i te ti):=by
 intro pins s σ H D I h
 obtain⟨v,e1,h⟩:=h
 obtain⟨m,hn,hl⟩:=I.loc
 have vis:Vis X.env.scope x:=by rcases hx with k|k;exact .inl k;exact .inr (.inl k)
 obtain⟨u,r,l⟩:=hl i x v hi e1 vis
 refine wpAny_AugAssign_Name ?_
 have go:wpAny (model X.prog X.w) X.A (eval e X.env) (λw s₂=>wpAny (model X.prog X.w) X.A (inplaceOp op u w) (λr s₃=>wpAny (model X.prog X.w) X.A (storeName X.env x r) (λ_=>SP X pins D .next) X.xe s₃) X.xe s₂) X.xe s:=by
  refine thn (he pins s σ H _ I h) λw s1 hz=>?_
  obtain⟨y,H1,I1,r1,q1⟩:=hz
  refine thn (ho pins s1 σ H1 v y u w _ I1 r r1 q1) λz s2 hz=>?_
  obtain⟨zv,H2,I2,r2,q2⟩:=hz
  exact qu I2 hN hi hx r2 (λs3 I3=>⟨_,H2,I3,q2⟩) hf
 rcases l with⟨hk,hm⟩|⟨hk,c,hc,hcell⟩
 · exact wpAny_loadName_local I.ok.kind hk hn hm go
 ·
  rcases hk with hk|hk
  · exact wpAny_loadName_cell I.ok.kind hk hc hcell go
  ·
   rcases hx with k|k
   ·
    have:X.env.scope.names.lookup x=some .free:=hk
    rw[k] at this;cases this
   ·
    have:X.env.scope.names.lookup x=some .free:=hk
    rw[k] at this;cases this
def ipI (f:Int->Int->Int):TIp:=λx y H Q=>∃i j,x=.int i/\y=.int j/\Q (.int (f i j)) H
def zg:PIp X .Add (ipI λi j=>i+j):=by
 intro pins s σ H x y v u Q I r1 r2 h
 obtain⟨i,j,e1,e2,q⟩:=h
 subst e1;subst e2
 obtain⟨t,rfl⟩:=r1
 obtain⟨t',rfl⟩:=r2
 exact iadd_int ⟨.int _,H,I.tok _,⟨_,rfl⟩,q⟩
def Alj:PIp X .Sub (ipI λi j=>i-j):=by
 intro pins s σ H x y v u Q I r1 r2 h
 obtain⟨i,j,e1,e2,q⟩:=h
 subst e1;subst e2
 obtain⟨t,rfl⟩:=r1
 obtain⟨t',rfl⟩:=r2
 exact isub_int ⟨.int _,H,I.tok _,⟨_,rfl⟩,q⟩
def Alm (c:TT)(tb:TS):TS:=λD σ H=>∃W:Nat->St->Hp->Prop,(∃m,W m σ H)/\∀m σ H,W m σ H->
 c σ H λb H1=>if b=true then ∃N:St->Hp->Prop,(∀σ' H',N σ' H'->∃m',m'<m/\W m' σ' H')/\tb {D with nx:=N,ct:=N,bk:=D.nx} σ H1 else D.nx σ H1
theorem Af5 (hp:PassesOwn (model X.prog X.w) X.A X.env X.xe)(hc:PT X c tc)(hb:PSs X body tb):PS X (.While c body [] pos) (Alm tc tb):=by
 intro pins s σ H D I h
 obtain⟨W,⟨m0,w0⟩,turn⟩:=h
 refine wpAny_While (codeAny_whileLoop (λn s'=>∃σ' H',Inv X pins σ' H' s'/\W n σ' H') ?_ m0 ⟨σ,H,I,w0⟩)
 rintro n s1 ⟨σ1,H1,I1,w1⟩
 refine At9 hp (thn (hc pins s1 σ1 H1 _ I1 (turn n σ1 H1 w1)) λb s2 hz=>?_)
 obtain⟨H2,I2,q2⟩:=hz
 cases b with
 |
  true=>
  obtain⟨N,hN,q2⟩:=q2
  rw[if_pos rfl]
  refine At9 hp (thn (hb pins s2 σ1 H2 _ I2 q2) λf s3 q3=>?_)
  cases f with
  |
   next=>
   obtain⟨σ3,H3,I3,n3⟩:=q3
   obtain⟨m',hm,w3⟩:=hN σ3 H3 n3
   exact⟨m',hm,σ3,H3,I3,w3⟩
  |
   cont=>
   obtain⟨σ3,H3,I3,n3⟩:=q3
   obtain⟨m',hm,w3⟩:=hN σ3 H3 n3
   exact⟨m',hm,σ3,H3,I3,w3⟩
  | brk=>exact q3
  | ret v=>exact q3
 |
  false=>
  rw[if_neg Arj]
  exact Awc ⟨σ1,H2,I2,q2⟩
structure It where
 go:Nat->Hp->Prop
 yld:Nat->Hp->V->Hp->Prop
 stop:Nat->Hp->Prop
def Abq (X:Cx)(pins:List (Addr×Obj))(H:Hp)(b:Addr):Prop:=
 H b=none/\b≠X.env.locals/\b∉X.fs/\(b∈X.ex∨X.s₀.heap.objs.size<=b)/\(∀x c,X.env.cells.lookup x=some c->c≠b)/\∀p∈X.pn++pins,p.1≠b
def Inv.fpOk (I:Inv X pins σ H s)(hb:s.heap.objs.size<=b)(hn:H' b=none):Abq X pins H' b:=by
 refine⟨hn,Asl (Arq I.lt hb),I.nofs hb,.inr (Aq3 I.sz hb),λx c e z=>?_,λp hp z=>?_⟩
 ·
  obtain⟨v,q⟩:=I.cell x c e
  exact absurd (Arq q.lt (by rw[z];exact hb)) (Asd _)
 · exact absurd (Arq (Aqy (I.pin p hp).1) (by rw[z];exact hb)) (Asd _)
structure Turn (P:Program)(w:World)(K:W.Frag)(tg:Expr)(J:It)(fp:List Addr)(it:Addr)(tn:Nat->Heap->Prop):Prop where
 mem:it∈fp
 obj:∀i h,tn i h->∀b∈fp,∃o,h.get? b=some o/\∀v,o.data≠ .cell v
 keep:∀i h h',tn i h->(∀b∈fp,∀o,h.get? b=some o->h'.get? b=some o)->tn i h'
 item:∀(X:Cx),X.prog=P->X.w=w->X.K=K->X.calm=true->∀(i:Nat)(pins:List (Addr×Obj))(s:Shared)(σ:St)(H:Hp)(E:Value->Shared->Prop),Inv X pins σ H s->(∀b∈fp,Abq X pins H b)->tn i s.heap->J.go i H->
  wpAny (model P w) X.A (pyNext (.ref it)) (λr s1=>∃u,r=some u/\
   wpAny (model P w) X.A (letOwnedTupleGo tg (.ref it) u) (λ_ s2=>∃x H',Inv X pins σ H' s2/\RelV x u/\J.yld i H x H'/\tn (i+1) s2.heap/\∀b∈fp,H' b=none) E s1) E s
 done:∀(X:Cx),X.prog=P->X.w=w->X.K=K->X.calm=true->∀(i:Nat)(pins:List (Addr×Obj))(s:Shared)(σ:St)(H:Hp)(E:Value->Shared->Prop),Inv X pins σ H s->(∀b∈fp,Abq X pins H b)->tn i s.heap->J.stop i H->
  wpAny (model P w) X.A (pyNext (.ref it)) (λr s1=>r=none/\Inv X pins σ H s1) E s
 self:∀(A:Around)(i:Nat)(s:Shared)(Q:Value->Shared->Prop)(E:Value->Shared->Prop),tn i s.heap->Q (.ref it) s->wpAny (model P w) A (pyIter (.ref it)) Q E s
abbrev TI:=St->Hp->(It->Hp->Prop)->Prop
def PIE (X:Cx)(pins:List (Addr×Obj))(σ:St)(tg:Expr)(R:It->Hp->Prop)(itv:Value)(s2:Shared):Prop:=
 ∃(it:Addr)(fp:List Addr)(tn:Nat->Heap->Prop)(J:It)(H':Hp),itv=.ref it/\Inv X pins σ H' s2/\Turn X.prog X.w X.K tg J fp it tn/\tn 0 s2.heap/\(∀b∈fp,Abq X pins H' b)/\R J H'
def PI (X:Cx)(tg iter:Expr)(wi:TI):Prop:=
 ∀(pins:List (Addr×Obj))(s:Shared)(σ:St)(H:Hp)(R:It->Hp->Prop),Inv X pins σ H s->wi σ H R->
  wpAny (model X.prog X.w) X.A (eval iter X.env) (λv s1=>wpAny (model X.prog X.w) X.A (pyIter v) (PIE X pins σ tg R) X.xe s1) X.xe s
def Ahx (ho:s.heap.get? it=some o)(hc:o.cls=.type n)(hd:o.data=.fields vs)
  (hn:["enumerate","zip","dict_itemiterator","dict_reverseitemiterator","odict_iterator","itertools.zip_longest","itertools.pairwise"].contains n=false) (hQ:Q () s):wpAny M A (letOwnedTupleGo tg (.ref it) u) Q E s:=by
 unfold letOwnedTupleGo
 cases tg<;>first
  | exact Aqt hQ
  | (cases u<;>first
   | exact Aqt hQ
   | (
    refine Aqq (At4 ho ?_)
    rw[hc,hd]
    show wpAny M A (if(["enumerate","zip","dict_itemiterator","dict_reverseitemiterator","odict_iterator","itertools.zip_longest","itertools.pairwise"].contains n&&vs[0]?==some (rawInt _))=true then _ else _) Q E s
    rw[if_neg (by intro h;rw[hn,As3] at h;cases h)]
    exact Aqt hQ))
def Itl (K:W.Frag)(a:Addr):It:=
 ⟨λi H=>∃xs x,SqL K H a xs/\xs[i]?=some x,λi H x H'=>H'=H/\∀xs,SqL K H a xs->xs[i]?=some x,λi H=>∃xs,SqL K H a xs/\xs.length<=i⟩
def Itt (K:W.Frag)(a:Addr):It:=
 ⟨λi H=>∃xs x,SqT K H a xs/\xs[i]?=some x,λi H x H'=>H'=H/\∀xs,SqT K H a xs->xs[i]?=some x,λi H=>∃xs,SqT K H a xs/\xs.length<=i⟩
def Itr (lo:Int)(n:Nat):It:=⟨λi _=>i<n,λi H x H'=>H'=H/\x=.int (lo+i),λi _=>n<=i⟩
def Adw {P:Program}{w:World}{K:W.Frag}{tg:Expr}(a it:Addr):Turn P w K tg (Itl K a) [it] it (λi h=>h.IsListIter it a i) where
 mem:=by simp
 obj:=λi h st b hb=>by
  have e:b=it:=by simpa using hb
  subst e
  obtain⟨o,e,c,d⟩:=st
  exact⟨o,e,λv z=>by rw[d] at z;cases z⟩
 keep:=λi h h' st k=>st.at λo e=>k it dks o e
 item:=by
  intro X hP hw hK hc i pins s σ H E I hf st hg
  subst hP hw hK
  obtain⟨xs,x,hq,hx⟩:=hg
  obtain⟨its,rv,p,hz⟩:=I.list hq
  obtain⟨u,hu,ru⟩:=rv.get hx
  obtain⟨f0,f1,f2,f3,f4,f5⟩:=hf it dks
  refine wpAny_pyNext_list_item st p.isList (x:=u) (by simpa using hu) λh' st' sb=>?_
  have I1:Inv X pins σ H {s with heap:=h'}:=I.turned (t':=s.toks) (λb o hb e=>(sb.2 b hb).trans e) f0 f1 f3 f4 f5
  obtain⟨o,e,c,d⟩:=id st'
  exact⟨u,rfl,Ahx (s:={s with heap:=h'}) e c d dkd ⟨x,H,I1,ru,⟨rfl,λys hy=>by rw[I.list_inj hy hq];exact hx⟩,st',λb hb=>(hf b hb).1⟩⟩
 done:=by
  intro X hP hw hK hc i pins s σ H E I hf st hg
  subst hP hw hK
  obtain⟨xs,hq,hx⟩:=hg
  obtain⟨its,rv,p,hz⟩:=I.list hq
  obtain⟨f0,f1,f2,f3,f4,f5⟩:=hf it dks
  have hl:=rv.length
  exact wpAny_pyNext_list_end (I.ok.hd hc) st p.isList (by simp;lia) λh' eb=>⟨rfl,I.turned (t':=s.toks) (λb o hb e=>eb b o hb e) f0 f1 f3 f4 f5⟩
 self:=λ_ _ _ _ _ st h=>wpAny_pyIter_listiter st h
def z8 {P:Program}{w:World}{K:W.Frag}{tg:Expr}(a it:Addr):Turn P w K tg (Itt K a) [it] it (λi h=>h.IsTupleIter it a i) where
 mem:=by simp
 obj:=λi h st b hb=>by
  have e:b=it:=by simpa using hb
  subst e
  obtain⟨o,e,c,d⟩:=st
  exact⟨o,e,λv z=>by rw[d] at z;cases z⟩
 keep:=λi h h' st k=>st.at λo e=>k it dks o e
 item:=by
  intro X hP hw hK hc i pins s σ H E I hf st hg
  subst hP hw hK
  obtain⟨xs,x,hq,hx⟩:=hg
  obtain⟨its,rv,p,hz⟩:=I.tuple hq
  obtain⟨u,hu,ru⟩:=rv.get hx
  obtain⟨f0,f1,f2,f3,f4,f5⟩:=hf it dks
  refine wpAny_pyNext_tuple_item st (show s.heap.IsTuple a its.toArray from p) (x:=u) (by simpa using hu) λh' st' sb=>?_
  have I1:Inv X pins σ H {s with heap:=h'}:=I.turned (t':=s.toks) (λb o hb e=>(sb.2 b hb).trans e) f0 f1 f3 f4 f5
  obtain⟨o,e,c,d⟩:=id st'
  exact⟨u,rfl,Ahx (s:={s with heap:=h'}) e c d dkd ⟨x,H,I1,ru,⟨rfl,λys hy=>by rw[I.tuple_inj hy hq];exact hx⟩,st',λb hb=>(hf b hb).1⟩⟩
 done:=by
  intro X hP hw hK hc i pins s σ H E I hf st hg
  subst hP hw hK
  obtain⟨xs,hq,hx⟩:=hg
  obtain⟨its,rv,p,hz⟩:=I.tuple hq
  obtain⟨f0,f1,f2,f3,f4,f5⟩:=hf it dks
  have hl:=rv.length
  exact wpAny_pyNext_tuple_end (I.ok.hd hc) st (show s.heap.IsTuple a its.toArray from p) (by simp;lia) λh' eb=>⟨rfl,I.turned (t':=s.toks) (λb o hb e=>eb b o hb e) f0 f1 f3 f4 f5⟩
 self:=λ_ _ _ _ _ st h=>wpAny_pyIter_tupleiter st h
def Aab {P:Program}{w:World}{K:W.Frag}{tg:Expr}(it:Addr)(lo:Int)(n:Nat):Turn P w K tg (Itr lo n) [it] it (λi h=>IsRangeIter h it (lo+(i:Nat)*1) ((n:Int)-(i:Nat)) 1) where
 mem:=by simp
 obj:=λi h st b hb=>by
  have e:b=it:=by simpa using hb
  subst e
  exact⟨_,st,λv z=>by
   have z':Data.fields _=Data.cell v:=z
   cases z'⟩
 keep:=λi h h' st k=>k it dks _ st
 item:=by
  intro X hP hw hK hc i pins s σ H E I hf st hg
  subst hP hw hK
  obtain⟨f0,f1,f2,f3,f4,f5⟩:=hf it dks
  have W:=Walks.range (prog:=X.prog) (w:=X.w) (I.ok.hd hc) it lo 1 n
  refine W.item i s _ _ hg st λv h' tk hv st' kk=>?_
  obtain⟨t,rfl⟩:=hv
  have I1:Inv X pins σ H {s with heap:=h',toks:=tk}:=I.turned (λb o hb e=>kk b o (by simpa using hb) e) f0 f1 f3 f4 f5
  refine⟨_,rfl,Ahx (s:={s with heap:=h',toks:=tk}) (n:="range_iterator") st' rfl rfl dkd ⟨.int (lo+i),H,I1,⟨t,?_⟩,⟨rfl,rfl⟩,st',λb hb=>(hf b hb).1⟩⟩
  rw[Int.mul_one]
 done:=by
  intro X hP hw hK hc i pins s σ H E I hf st hg
  subst hP hw hK
  obtain⟨f0,f1,f2,f3,f4,f5⟩:=hf it dks
  exact wpAny_pyNext_range_end (I.ok.hd hc) st (by have:n<=i:=hg;lia) λh' eb=>⟨rfl,I.turned (t':=s.toks) (λb o hb e=>eb b o hb e) f0 f1 f3 f4 f5⟩
 self:=λ_ _ _ _ _ st h=>wpAny_pyIter_rangeiter st h
def Ak1 (K:W.Frag)(tl:TE):TI:=λσ H R=>tl σ H λx H1=>∃a,x=.ref a/\(∃xs,SqL K H1 a xs)/\R (Itl K a) H1
def Aow (K:W.Frag)(tl:TE):TI:=λσ H R=>tl σ H λx H1=>∃a,x=.ref a/\(∃xs,SqT K H1 a xs)/\R (Itt K a) H1
def Aiw {tg:Expr}{l:Expr}{tl:TE}(hl:PE X l tl):PI X tg l (Ak1 X.K tl):=by
 intro pins s σ H R I h
 refine thn (hl pins s σ H _ I h) λv s1 hz=>?_
 obtain⟨x,H1,I1,r1,q1⟩:=hz
 obtain⟨a,e,⟨xs,hq⟩,q⟩:=q1
 subst e
 cases r1
 obtain⟨its,rv,p,hz⟩:=I1.list hq
 refine wpAny_pyIter_list p.isList ?_
 refine⟨s1.heap.objs.size,[s1.heap.objs.size],_,_,H1,rfl,I1.kept (t':=s1.toks) λb o e=>Aqr _ e,Adw a _,⟨_,Aq1 _ rfl,rfl,rfl⟩,λb hb=>?_,q⟩
 have e:b=s1.heap.objs.size:=by simpa using hb
 subst e
 exact I1.fpOk (Aq0 _) (I1.hok.fresh (Aq0 _))
def Aku {tg:Expr}{l:Expr}{tl:TE}(hl:PE X l tl):PI X tg l (Aow X.K tl):=by
 intro pins s σ H R I h
 refine thn (hl pins s σ H _ I h) λv s1 hz=>?_
 obtain⟨x,H1,I1,r1,q1⟩:=hz
 obtain⟨a,e,⟨xs,hq⟩,q⟩:=q1
 subst e
 cases r1
 obtain⟨its,rv,p,hz⟩:=I1.tuple hq
 refine Avq (show s1.heap.IsTuple a its.toArray from p) ?_
 refine⟨s1.heap.objs.size,[s1.heap.objs.size],_,_,H1,rfl,I1.kept (t':=s1.toks) λb o e=>Aqr _ e,z8 a _,⟨_,Aq1 _ rfl,rfl,rfl⟩,λb hb=>?_,q⟩
 have e:b=s1.heap.objs.size:=by simpa using hb
 subst e
 exact I1.fpOk (Aq0 _) (I1.hok.fresh (Aq0 _))
def zc {tg:Expr}{pins:List (Addr×Obj)}{σ:St}{H:Hp}{s:Shared}{R:It->Hp->Prop}{E:Value->Shared->Prop}{lo hi:Int}{t u v:Tok}{tk:Nat}(I:Inv X pins σ H s)(h1: -(2 ^ 62)<=lo)(h2:lo<2 ^ 62)(h3: -(2 ^ 62)<=hi)(h4:hi<2 ^ 62)
  (q:R (Itr lo (hi-lo).toNat) H):wpAny (model X.prog X.w) X.A (pyIter (.ref s.heap.objs.size)) (PIE X pins σ tg R) E {s with heap:=s.heap.push {cls:=.type "range",data:=.fields #[.int lo t,.int hi u,.int 1 v]},toks:=tk}:=by
 refine wpAny_pyIter_range (IsRange.new ..) (small_one h1 h2 h3 h4) ?_
 have I1:Inv X pins σ H {s with heap:=s.heap.push {cls:=.type "range",data:=.fields #[.int lo t,.int hi u,.int 1 v]},toks:=tk}:=I.kept λb o e=>Aqr _ e
 refine⟨(s.heap.push {cls:=.type "range",data:=.fields #[.int lo t,.int hi u,.int 1 v]}).objs.size,[(s.heap.push {cls:=.type "range",data:=.fields #[.int lo t,.int hi u,.int 1 v]}).objs.size],_,_,H,rfl,
  I1.kept (t':=tk) λb o e=>Aqr _ e,Aab _ lo (hi-lo).toNat,?_,λb hb=>?_,q⟩
 ·
  have e1:lo+((0:Nat):Int)*1=lo:=by simp
  have e2:(((hi-lo).toNat:Nat):Int)-((0:Nat):Int)=Builtin.Range.rangeSize lo hi 1:=by rw[rangeSize_one];split<;>lia
  show IsRangeIter _ _ (lo+((0:Nat):Int)*1) ((((hi-lo).toNat:Nat):Int)-((0:Nat):Int)) 1
  rw[e1,e2]
  exact Aq1 _ rfl
 ·
  have e:b=(s.heap.push {cls:=.type "range",data:=.fields #[.int lo t,.int hi u,.int 1 v]}).objs.size:=by simpa using hb
  subst e
  exact I1.fpOk (Aq0 _) (I1.hok.fresh (Aq0 _))
def An6 (ta:TA):TI:=λσ H R=>ta σ H λvs H1=>∃j:Int,vs=[.int j]/\ -(2 ^ 62)<=j/\j<2 ^ 62/\R (Itr 0 j.toNat) H1
def Aoa (ta:TA):TI:=λσ H R=>ta σ H λvs H1=>∃i j:Int,vs=[.int i,.int j]/\(-(2 ^ 62)<=i/\i<2 ^ 62/\ -(2 ^ 62)<=j/\j<2 ^ 62)/\R (Itr i (j-i).toNat) H1
theorem Th {a:Expr}{ta:TA}{p pos:Pos}(hg:Gl X "range")(hm:X.mg "range"=none)(ha:PA X [a] ta)(hs:starEach [a] X.env=[(false,eval a X.env)]:=by rfl):PI X tg (.Call (.Name "range" p) [a] [] pos) (An6 ta):=by
 intro pins s σ H R I h
 refine Call_ (i7 I hg hm boot_range (As5 (thn (ha pos pins s σ H _ I h) λus s1 ⟨vs,H1,I1,r1,q1⟩=>?_) hs rfl))
 obtain⟨j,e,q1,q2,q⟩:=q1
 subst e
 cases r1 with
 |
  cons r rr=>
  cases rr
  obtain⟨t,rfl⟩:=r
  exact call_range_1 (zc I1 dkl dkl q1 q2 (by simpa using q))
theorem kn (hg:Gl X "range")(hm:X.mg "range"=none)(ha:PA X [a,b] ta)(hs:starEach [a,b] X.env=[(false,eval a X.env),(false,eval b X.env)]:=by rfl)(hs2:starEach [b] X.env=[(false,eval b X.env)]:=by rfl):
  PI X tg (.Call (.Name "range" p) [a,b] [] pos) (Aoa ta):=by
 intro pins s σ H R I h
 refine Call_ (i7 I hg hm boot_range (As5 (thn (ha pos pins s σ H _ I h) λus s1 ⟨vs,H1,I1,r1,q1⟩=>?_) (by rw[hs,hs2]) (by rw[hs2];rfl)))
 obtain⟨i,j,e,⟨q1,q2,q3,q4⟩,q⟩:=q1
 subst e
 cases r1 with
 |
  cons r rr=>
  cases rr with
  |
   cons r' rr=>
   cases rr
   obtain⟨t,rfl⟩:=r
   obtain⟨t',rfl⟩:=r'
   exact call_range_2 (zc I1 q1 q2 q3 q4 q)
def Apv (wi:TI)(g:TG)(tb:TS):TS:=λD σ H=>wi σ H λJ H1=>∃W:Nat->Nat->St->Hp->Prop,(∃m,W 0 m σ H1)/\∀i m σ H,W i m σ H->
 (J.stop i H/\D.nx σ H)∨(J.go i H/\∃N:St->Hp->Prop,(∀σ' H',N σ' H'->∃m',m'<m/\W (i+1) m' σ' H')/\∀x H',J.yld i H x H'->g x σ H' λσ2 H2=>tb {D with nx:=N,ct:=N,bk:=D.nx} σ2 H2)
def n8 (fp:List Addr)(h:Heap):List (Addr×Obj):=fp.filterMap λb=>(h.get? b).map λo=>(b,o)
def Ms (hb:b∈fp)(e:h.get? b=some o):(b,o)∈n8 fp h:=List.mem_filterMap.mpr ⟨b,hb,by rw[e];rfl⟩
theorem Aei (hp:p∈n8 fp h):p.1∈fp/\h.get? p.1=some p.2:=by
 obtain⟨b,hb,e⟩:=List.mem_filterMap.mp hp
 cases q:h.get? b with
 | none=>rw[q] at e;cases e
 |
  some o=>
  rw[q] at e
  have e':(b,o)=p:=Arl e
  subst e'
  exact⟨hb,q⟩
def Inv.pinned (I:Inv X pins σ H s)(hf:∀b∈fp,Abq X pins H b)(ho:∀b∈fp,∃o,s.heap.get? b=some o/\∀v,o.data≠ .cell v):Inv X (pins++n8 fp s.heap) σ H s:=
 I.pins_of λp hp=>(Ar0.mp hp).elim (λz=>I.pin p (Aq8 _ z)) λz=>by
  obtain⟨hb,e⟩:=Aei z
  obtain⟨f0,f1,f2,_⟩:=hf p.1 hb
  obtain⟨o,e',d⟩:=ho p.1 hb
  rw[e] at e';cases e'
  exact⟨e,f0,f1,f2,d⟩
def Inv.unpinned (I:Inv X (pins++pl) σ H s):Inv X pins σ H s:=I.pins_of λp hp=>I.pin p (Aq8 _ (Asa _ hp))
def aj (hp:PassesOwn (model X.prog X.w) X.A X.env X.xe)(hc:X.calm=true)(hi:PI X tg iter wi)(hg:PG X tg g)(hb:PSs X body tb)
  (hs:∀x,foldedSetIterable iter X.env x=pure x:=by intro _;rfl):PS X (.For tg iter body [] pos) (Apv wi g tb):=by
 intro pins s σ H D I h
 refine wpAny_For (thn (hi pins s σ H _ I h) λv s1 h1=>thn h1 λitv s2 h2=>?_) hs
 obtain⟨it,fp,tn,J,H2,e,I2,T,st2,f2,W,⟨m0,w0⟩,turn⟩:=h2
 subst e
 --what stays true of the iterator's objects through the loop
 have stat:∀{H':Hp},(∀b∈fp,H' b=none)->∀b∈fp,Abq X pins H' b:=λhn b hb=>⟨hn b hb,(f2 b hb).2⟩
 refine codeAny_forLoop_any (λn s'=>∃i σ' H',Inv X pins σ' H' s'/\tn i s'.heap/\(∀b∈fp,H' b=none)/\W i n σ' H') ?_ m0 ⟨0,σ,H2,I2,st2,λb hb=>(f2 b hb).1,w0⟩
 rintro n s3 ⟨i,σ3,H3,I3,st3,fr3,w3⟩
 rcases turn i n σ3 H3 w3 with⟨stop,qn⟩|⟨go,N,hN,step⟩
 ·
  refine At9 hp (thn (T.done X rfl rfl rfl hc i pins s3 σ3 H3 X.xe I3 (stat fr3) st3 stop) λr s4 hz=>?_)
  obtain⟨hr,I4⟩:=hz
  subst hr
  exact Awc ⟨σ3,H3,I4,qn⟩
 ·
  refine At9 hp (thn (T.item X rfl rfl rfl hc i pins s3 σ3 H3 X.xe I3 (stat fr3) st3 go) λr s4 hz=>?_)
  obtain⟨u,hr,h4⟩:=hz
  subst hr
  refine At9 hp (thn h4 λ_ s5 hz=>?_)
  obtain⟨x,H5,I5,r5,y5,st5,fr5⟩:=hz
  have I5':=I5.pinned (stat fr5) (T.obj _ _ st5)
  refine At9 hp (thn (hg _ s5 σ3 H5 x u _ I5' r5 (step x H5 y5)) λ_ s6 hz=>?_)
  obtain⟨σ6,H6,I6,q6⟩:=hz
  refine At9 hp (thn (hb _ s6 σ6 H6 _ I6 q6) λf s7 q7=>?_)
  have again:∀{σ7:St}{H7:Hp},Inv X (pins++n8 fp s5.heap) σ7 H7 s7->N σ7 H7->∃m,m<n/\∃i σ' H',Inv X pins σ' H' s7/\tn i s7.heap/\(∀b∈fp,H' b=none)/\W i m σ' H':=λ{σ7 H7}I7 n7=>by
   obtain⟨m',hm,w7⟩:=hN σ7 H7 n7
   refine⟨m',hm,i+1,σ7,H7,I7.unpinned,T.keep _ _ _ st5 λb hb o e=>(I7.pin (b,o) (Aq8 _ (Aq8 _ (Ms hb e)))).1,λb hb=>?_,w7⟩
   obtain⟨o,e,d⟩:=T.obj _ _ st5 b hb
   exact(I7.pin (b,o) (Aq8 _ (Aq8 _ (Ms hb e)))).2.1
  cases f with
  | next=>obtain⟨σ7,H7,I7,n7⟩:=q7;exact again I7 n7
  | cont=>obtain⟨σ7,H7,I7,n7⟩:=q7;exact again I7 n7
  | brk=>obtain⟨σ7,H7,I7,q7⟩:=q7;exact⟨σ7,H7,I7.unpinned,q7⟩
  | ret v=>obtain⟨x7,σ7,H7,I7,r7,q7⟩:=q7;exact⟨x7,σ7,H7,I7.unpinned,r7,q7⟩
def Abw {lo:Int}{n:Nat}{g:TG}{tb:TS}{D:Ends}{σ:St}{H:Hp}(Pv:Nat->St->Hp->Prop)(h0:Pv 0 σ H)
  (hs:∀i σ H,i<n->Pv i σ H->g (.int (lo+i)) σ H λσ2 H2=>tb {D with nx:=Pv (i+1),ct:=Pv (i+1),bk:=D.nx} σ2 H2) (hd:∀σ H,Pv n σ H->D.nx σ H):
  ∃W:Nat->Nat->St->Hp->Prop,(∃m,W 0 m σ H)/\∀i m σ H,W i m σ H->
   ((Itr lo n).stop i H/\D.nx σ H)∨((Itr lo n).go i H/\∃N:St->Hp->Prop,(∀σ' H',N σ' H'->∃m',m'<m/\W (i+1) m' σ' H')/\∀x H',(Itr lo n).yld i H x H'->g x σ H' λσ2 H2=>tb {D with nx:=N,ct:=N,bk:=D.nx} σ2 H2):=by
 refine⟨λi m σ H=>m=n-i/\i<=n/\Pv i σ H,⟨n,dks,Ar3 _,h0⟩,?_⟩
 rintro i m σ H ⟨rfl,hi,p⟩
 by_cases hlt:i<n
 ·
  refine .inr ⟨hlt,Pv (i+1),λσ' H' p'=>⟨n-(i+1),dkl,rfl,hlt,p'⟩,λx H' y=>?_⟩
  obtain⟨e,y⟩:=y
  subst e y
  exact hs i σ _ hlt p
 ·
  have e:i=n:=by lia
  subst e
  exact .inl ⟨Aq0 _,hd σ H p⟩
abbrev R2:=V->V->Hp->VK->Prop
def OpR (X:Cx)(f:Value->Value->Sem Value)(r:R2):Prop:=
 ∀(pins:List (Addr×Obj))(s:Shared)(σ:St)(H:Hp)(x y:V)(v u:Value)(Q:VK),Inv X pins σ H s->RelV x v->RelV y u->r x y H Q->
  wpAny (model X.prog X.w) X.A (f v u) (EP X pins σ Q) X.xe s
def UnR (X:Cx)(f:Value->Sem Value)(r:V->Hp->VK->Prop):Prop:=
 ∀(pins:List (Addr×Obj))(s:Shared)(σ:St)(H:Hp)(x:V)(v:Value)(Q:VK),Inv X pins σ H s->RelV x v->r x H Q->
  wpAny (model X.prog X.w) X.A (f v) (EP X pins σ Q) X.xe s
def Lc (X:Cx)(f:Value)(r:List V->Hp->VK->Prop):Prop:=
 ∀(pins:List (Addr×Obj))(s:Shared)(σ:St)(H:Hp)(xs:List V)(us:List Value)(Q:VK),Inv X pins σ H s->Vals xs us->r xs H Q->
  wpAny (model X.prog X.w) X.A (call f us) (EP X pins σ Q) X.xe s
def Api (X:Cx)(r:V->Hp->(Bool->Hp->Prop)->Prop):Prop:=
 ∀(pins:List (Addr×Obj))(s:Shared)(σ:St)(H:Hp)(x:V)(v:Value)(Q:Bool->Hp->Prop),Inv X pins σ H s->RelV x v->r x H Q->
  wpAny (model X.prog X.w) X.A (truthy v) (TP X pins σ Q) X.xe s
def tOp (r:R2)(ta tb:TE):TE:=λσ H Q=>ta σ H λx H1=>tb σ H1 λy H2=>r x y H2 Q
def tUn (r:V->Hp->VK->Prop)(ta:TE):TE:=λσ H Q=>ta σ H λx H1=>r x H1 Q
def rI (C:Int->Int->Prop)(g:Int->Int->V):R2:=λx y H Q=>∃i j,x=.int i/\y=.int j/\C i j/\Q (g i j) H
def rI0 (g:Int->Int->V):R2:=λx y H Q=>∃i j,x=.int i/\y=.int j/\Q (g i j) H
def rU (g:Int->V):V->Hp->VK->Prop:=λx H Q=>∃i,x=.int i/\Q (g i) H
def An5 {a b:Expr}{ta tb:TE}(ha:PE X a ta)(hb:PE X b tb){pins:List (Addr×Obj)}{s:Shared}{σ:St}{H:Hp}{R:V->V->Hp->Prop}(I:Inv X pins σ H s)
  (h:ta σ H λx H1=>tb σ H1 λy H2=>R x y H2) {Q:Value->Shared->Prop} {f:Value->Value->Sem Value}
  (hf:∀v u s2 x y H2,Inv X pins σ H2 s2->RelV x v->RelV y u->R x y H2->wpAny (model X.prog X.w) X.A (f v u) Q X.xe s2):
  wpAny (model X.prog X.w) X.A (eval a X.env) (λv s₁=>wpAny (model X.prog X.w) X.A (eval b X.env) (λu s₂=>wpAny (model X.prog X.w) X.A (f v u) Q X.xe s₂) X.xe s₁) X.xe s:=by
 refine thn (ha pins s σ H _ I h) λv s1 hz=>?_
 obtain⟨x,H1,I1,r1,q1⟩:=hz
 refine thn (hb pins s1 σ H1 _ I1 q1) λu s2 hz=>?_
 obtain⟨y,H2,I2,r2,q2⟩:=hz
 exact hf v u s2 x y H2 I2 r1 r2 q2
def Ag {a b:Expr}{ta tb:TE}{pos:Pos}{op:Operator}{r:R2}(ho:OpR X (binaryOp op) r)(ha:PE X a ta)(hb:PE X b tb):PE X (.BinOp a op b pos) (tOp r ta tb):=by
 intro pins s σ H Q I h
 exact wpAny_BinOp (An5 ha hb I h λv u s2 x y H2 I2 rx ry q=>ho pins s2 σ H2 x y v u Q I2 rx ry q)
def vz (ho:UnR X (unaryOp op) r)(ha:PE X a ta):PE X (.UnaryOp op a pos) (tUn r ta):=by
 intro pins s σ H Q I h
 exact UnaryOp_ (thn (ha pins s σ H _ I h) λv s1 hz=>by obtain⟨x,H1,I1,r1,q1⟩:=hz;exact ho pins s1 σ H1 x v Q I1 r1 q1)
def opI {f:Value->Value->Sem Value}{C:Int->Int->Prop}{g:Int->Int->Int}
  (rule:∀(i j:Int)(t u:Tok)(s:Shared)(Q:Value->Shared->Prop)(E:Value->Shared->Prop),C i j->Q (.int (g i j) s.toks) {s with toks:=s.toks+1}->wpAny (model X.prog X.w) X.A (f (.int i t) (.int j u)) Q E s):
  OpR X f (rI C λi j=>.int (g i j)):=by
 intro pins s σ H x y v u Q I rx ry h
 obtain⟨i,j,rfl,rfl,hc,q⟩:=h
 obtain⟨t,rfl⟩:=rx
 obtain⟨t',rfl⟩:=ry
 exact rule i j t t' s _ _ hc ⟨.int (g i j),H,I.tok _,⟨_,rfl⟩,q⟩
def Apb {f:Value->Value->Sem Value}{g:Int->Int->Int}
  (rule:∀(i j:Int)(t u:Tok)(s:Shared)(Q:Value->Shared->Prop)(E:Value->Shared->Prop),Q (.int (g i j) s.toks) {s with toks:=s.toks+1}->wpAny (model X.prog X.w) X.A (f (.int i t) (.int j u)) Q E s):
  OpR X f (rI0 λi j=>.int (g i j)):=by
 intro pins s σ H x y v u Q I rx ry h
 obtain⟨i,j,rfl,rfl,q⟩:=h
 obtain⟨t,rfl⟩:=rx
 obtain⟨t',rfl⟩:=ry
 exact rule i j t t' s _ _ ⟨.int (g i j),H,I.tok _,⟨_,rfl⟩,q⟩
def Am3 {f:Value->Value->Sem Value}{g:Int->Int->Bool}
  (rule:∀(i j:Int)(t u:Tok)(s:Shared)(Q:Value->Shared->Prop)(E:Value->Shared->Prop),Q (.bool (g i j)) s->wpAny (model X.prog X.w) X.A (f (.int i t) (.int j u)) Q E s):
  OpR X f (rI0 λi j=>.bl (g i j)):=by
 intro pins s σ H x y v u Q I rx ry h
 obtain⟨i,j,rfl,rfl,q⟩:=h
 obtain⟨t,rfl⟩:=rx
 obtain⟨t',rfl⟩:=ry
 exact rule i j t t' s _ _ ⟨.bl (g i j),H,I,rfl,q⟩
def Apj (i j:Int):Prop:=0<j/\j<1073741824
def Ap0 (i j:Int):Prop:=0<=j/\j<=1000000/\i.natAbs<2 ^ 64
def CMul (i j:Int):Prop:=(-(2 ^ 64)<i/\i<2 ^ 64)∨(-(2 ^ 64)<j/\j<2 ^ 64)
def CMul.ok (h:CMul i j):IntMulOk i j:=by
 rcases h with⟨h1,h2⟩|⟨h1,h2⟩
 · exact .of_left (intBits_le_64 h1 h2)
 · exact .of_right (intBits_le_64 h1 h2)
def Aaw (k:Nat):(0:Int)<=2 ^ k:=by
 rw[two_pow_cast]
 exact Int.natCast_nonneg _
def Ams:OpR X (binaryOp .Add) (rI0 λi j=>.int (i+j)):=Apb λ_ _ _ _ _ _ _ q=>add_int q
def Alk:OpR X (binaryOp .Sub) (rI0 λi j=>.int (i-j)):=Apb λ_ _ _ _ _ _ _ q=>sub_int q
def Mv:OpR X (binaryOp .Mult) (rI CMul λi j=>.int (i*j)):=opI λ_ _ _ _ _ _ _ hc q=>mul_int q hc.ok
def xa:OpR X (binaryOp .FloorDiv) (rI Apj λi j=>.int (i/j)):=opI λi j _ _ _ _ _ hc q=>by
 have h1:(0:Int)<j:=hc.1
 have h2:j<1073741824:=hc.2
 exact floordiv_int dkl (by rw[Int.fdiv_eq_ediv_of_nonneg i dkl];exact q) (.inl (PyProof.noPylong_small dkl))
def M8:OpR X (binaryOp .Mod) (rI (λ_ j=>0<j) λi j=>.int (i%j)):=opI λi j _ _ _ _ _ hc q=>by
 have h1:(0:Int)<j:=hc
 exact mod_int' dkl (by rw[Int.fmod_eq_emod_of_nonneg i dkl];exact q)
def Abx:OpR X (binaryOp .Pow) (rI Ap0 λi j=>.int (i ^ j.toNat)):=opI λ_ _ _ _ _ _ _ hc q=>pow_int_small hc.1 hc.2.1 hc.2.2 q
def Ak5:OpR X (binaryOp .RShift) (rI (λ_ j=>0<=j) λi j=>.int (i/2 ^ j.toNat)):=opI λi j _ _ _ _ _ hc q=>
 rshift_int hc (by rw[Int.fdiv_eq_ediv_of_nonneg i (Aaw _)];exact q)
def unI {f:Value->Sem Value}{g:Int->Int}
  (rule:∀(i:Int)(t:Tok)(s:Shared)(Q:Value->Shared->Prop)(E:Value->Shared->Prop),Q (.int (g i) s.toks) {s with toks:=s.toks+1}->wpAny (model X.prog X.w) X.A (f (.int i t)) Q E s):
  UnR X f (rU λi=>.int (g i)):=by
 intro pins s σ H x v Q I rx h
 obtain⟨i,rfl,q⟩:=h
 obtain⟨t,rfl⟩:=rx
 exact rule i t s _ _ ⟨.int (g i),H,I.tok _,⟨_,rfl⟩,q⟩
def Ahd:UnR X (unaryOp .USub) (rU λi=>.int (-i)):=unI λ_ _ _ _ _ q=>neg_int q
def Ak7:V->V->Bool
 | .non,.non=>true| .non,.int _=>true| .int _,.non=>true| .non,.bl _=>true| .bl _,.non=>true| .non,.str _=>true| .str _,.non=>true
 | .int _,.int _=>true| .bl _,.bl _=>true| .str _,.str _=>true| .byt _,.byt _=>true
 | .int _,.str _=>true| .str _,.int _=>true| .bl _,.str _=>true| .str _,.bl _=>true
 | _,_=>false
def rEq:R2:=λx y H Q=>Ak7 x y=true/\Q (.bl (decide (x=y))) H
def rNe:R2:=λx y H Q=>Ak7 x y=true/\Q (.bl (!decide (x=y))) H
def Aci:decide (V.int i=V.int j)=(i==j):=by
 rw[Avz]
 simp
def Ahs:decide (V.bl i=V.bl j)=(i==j):=by
 rw[Avz]
 simp
def Acn:decide (V.str i=V.str j)=(i==j):=by
 rw[Avz]
 simp
def Aeb:decide (V.byt i=V.byt j)=(i.toList==j.toList):=by
 rw[Avz]
 cases i
 cases j
 simp
def Cy (I:Inv X pins σ H s)(q:Q (.bl k) H)(e:k=k'):EP X pins σ Q (.bool k') s:=by
 subst e
 exact⟨.bl k,H,I,rfl,q⟩
theorem Ah2:OpR X (compareOp .Eq) rEq:=by
 intro pins s σ H x y v u Q I rx ry h
 obtain⟨hs,q⟩:=h
 cases x with
 |
  non=>
  cases rx
  cases y with
  | non=>cases ry;exact PySem.EqNone.eq_none_none (Cy I q dks)
  | bl j=>cases ry;exact PySem.EqNone.eq_none_bool (Cy I q dks)
  | int j=>obtain⟨t',rfl⟩:=ry;exact PySem.EqNone.eq_none_int (Cy I q dks)
  | str j=>obtain⟨t',rfl⟩:=ry;exact PySem.EqNone.eq_none_str (Cy I q dks)
  | _=>exact absurd (show false=true from hs) Arj
 |
  bl i=>
  cases rx
  cases y with
  | non=>cases ry;exact PySem.EqNone.eq_bool_none (Cy I q dks)
  | bl j=>cases ry;exact eq_bool (Cy I q Ahs)
  | str j=>obtain⟨t',rfl⟩:=ry;exact PySem.EqMixed.eq_bool_str (Cy I q dks)
  | _=>exact absurd (show false=true from hs) Arj
 |
  int i=>
  obtain⟨t,rfl⟩:=rx
  cases y with
  | non=>cases ry;exact PySem.EqNone.eq_int_none (Cy I q dks)
  | int j=>obtain⟨t',rfl⟩:=ry;exact eq_int (Cy I q Aci)
  | str j=>obtain⟨t',rfl⟩:=ry;exact PySem.EqMixed.eq_int_str (Cy I q dks)
  | _=>exact absurd (show false=true from hs) Arj
 |
  str i=>
  obtain⟨t,rfl⟩:=rx
  cases y with
  | non=>cases ry;exact PySem.EqNone.eq_str_none (Cy I q dks)
  | bl j=>cases ry;exact PySem.EqMixed.eq_str_bool (Cy I q dks)
  | int j=>obtain⟨t',rfl⟩:=ry;exact PySem.EqMixed.eq_str_int (Cy I q dks)
  | str j=>obtain⟨t',rfl⟩:=ry;exact eq_str (Cy I q Acn)
  | _=>exact absurd (show false=true from hs) Arj
 |
  byt i=>
  obtain⟨t,rfl⟩:=rx
  cases y with
  | byt j=>obtain⟨t',rfl⟩:=ry;exact W.eq_bytes (Cy I q Aeb)
  | _=>exact absurd (show false=true from hs) Arj
 | _=>cases y<;>exact absurd (show false=true from hs) Arj
theorem Aoe:OpR X (compareOp .NotEq) rNe:=by
 intro pins s σ H x y v u Q I rx ry h
 obtain⟨hs,q⟩:=h
 cases x with
 |
  non=>
  cases rx
  cases y with
  | non=>cases ry;exact PySem.EqNone.ne_none_none (Cy I q dks)
  | bl j=>cases ry;exact PySem.EqNone.ne_none_bool (Cy I q dks)
  | int j=>obtain⟨t',rfl⟩:=ry;exact PySem.EqNone.ne_none_int (Cy I q dks)
  | str j=>obtain⟨t',rfl⟩:=ry;exact PySem.EqNone.ne_none_str (Cy I q dks)
  | _=>exact absurd (show false=true from hs) Arj
 |
  bl i=>
  cases rx
  cases y with
  | non=>cases ry;exact PySem.EqNone.ne_bool_none (Cy I q dks)
  | bl j=>cases ry;exact ne_bool (Cy I q (At5 not Ahs))
  | str j=>obtain⟨t',rfl⟩:=ry;exact PySem.EqMixed.ne_bool_str (Cy I q dks)
  | _=>exact absurd (show false=true from hs) Arj
 |
  int i=>
  obtain⟨t,rfl⟩:=rx
  cases y with
  | non=>cases ry;exact PySem.EqNone.ne_int_none (Cy I q dks)
  | int j=>obtain⟨t',rfl⟩:=ry;exact ne_int (Cy I q (At5 not Aci))
  | str j=>obtain⟨t',rfl⟩:=ry;exact PySem.EqMixed.ne_int_str (Cy I q dks)
  | _=>exact absurd (show false=true from hs) Arj
 |
  str i=>
  obtain⟨t,rfl⟩:=rx
  cases y with
  | non=>cases ry;exact PySem.EqNone.ne_str_none (Cy I q dks)
  | bl j=>cases ry;exact PySem.EqMixed.ne_str_bool (Cy I q dks)
  | int j=>obtain⟨t',rfl⟩:=ry;exact PySem.EqMixed.ne_str_int (Cy I q dks)
  | str j=>obtain⟨t',rfl⟩:=ry;exact ne_str (Cy I q (At5 not Acn))
  | _=>exact absurd (show false=true from hs) Arj
 |
  byt i=>
  obtain⟨t,rfl⟩:=rx
  cases y with
  | byt j=>obtain⟨t',rfl⟩:=ry;exact W.ne_bytes (Cy I q (At5 not Aeb))
  | _=>exact absurd (show false=true from hs) Arj
 | _=>cases y<;>exact absurd (show false=true from hs) Arj
def An8:OpR X (compareOp .Lt) (rI0 λi j=>.bl (decide (i<j))):=Am3 λ_ _ _ _ _ _ _ q=>lt_int q
def Anf:OpR X (compareOp .LtE) (rI0 λi j=>.bl (decide (i<=j))):=Am3 λ_ _ _ _ _ _ _ q=>le_int q
def An2:OpR X (compareOp .Gt) (rI0 λi j=>.bl (decide (j<i))):=Am3 λ_ _ _ _ _ _ _ q=>gt_int q
def Aoj:OpR X (compareOp .GtE) (rI0 λi j=>.bl (decide (j<=i))):=Am3 λ_ _ _ _ _ _ _ q=>ge_int q
def Akz:OpR X (compareOp .Is) (λx y H Q=>y=.non/\Q (.bl (decide (x=.non))) H):=by
 intro pins s σ H x y v u Q I rx ry h
 obtain⟨rfl,q⟩:=h
 cases ry
 refine is_none_gen (Cy I q ?_)
 cases x<;>first
  | (cases rx;rfl)
  | (obtain⟨t,rfl⟩:=rx;rfl)
def Aid:OpR X (compareOp .IsNot) (λx y H Q=>y=.non/\Q (.bl (!decide (x=.non))) H):=by
 intro pins s σ H x y v u Q I rx ry h
 obtain⟨rfl,q⟩:=h
 cases ry
 refine isnot_none_gen (Cy I q ?_)
 cases x<;>first
  | (cases rx;rfl)
  | (obtain⟨t,rfl⟩:=rx;rfl)
def Al (b:Expr)(h:op≠ .In:=by decide)(h2:op≠ .NotIn:=by decide):behindInMarks op b=false:=by
 have e1:(op==CmpOp.In)=false:=by cases op<;>first|rfl|exact absurd rfl h
 have e2:(op==CmpOp.NotIn)=false:=by cases op<;>first|rfl|exact absurd rfl h2
 cases b<;>simp[behindInMarks,e1,e2]
def A6 {a b:Expr}{ta tb:TE}{pos:Pos}{op:CmpOp}{r:R2}(ho:OpR X (compareOp op) r)(ha:PE X a ta)(hb:PE X b tb)(hm:behindInMarks op b=false):PE X (.Compare a [op] [b] pos) (tOp r ta tb):=by
 intro pins s σ H Q I h
 exact wpAny_Compare1 (An5 ha hb I h λv u s2 x y H2 I2 rx ry q=>ho pins s2 σ H2 x y v u Q I2 rx ry q) hm
def Akr (t:TE):TT:=λσ H Q=>t σ H λx H'=>∃k,x=.bl k/\Q k H'
def Ajc (ho:OpR X (compareOp op) r)(ha:PE X a ta)(hb:PE X b tb)(hm:behindInMarks op b=false):PT X (.Compare a [op] [b] pos) (Akr (tOp r ta tb)):=by
 intro pins s σ H Q I h
 refine wpAny_isTrue_Compare1 (thn (ha pins s σ H _ I h) λv s1 ⟨x,H1,I1,r1,q1⟩=>thn (hb pins s1 σ H1 _ I1 q1) λu s2 ⟨y,H2,I2,r2,q2⟩=>
  thn (ho pins s2 σ H2 x y v u _ I2 r1 r2 q2) λc s3 ⟨z,H3,I3,r3,k,e,q3⟩=>?_) hm
 subst e
 cases r3
 exact Aso ⟨H3,I3,q3⟩
def Ahe (r r':R2)(ta tb tc:TE):TE:=λσ H Q=>ta σ H λx H1=>tb σ H1 λy H2=>r x y H2 λz H3=>∃k,z=.bl k/\
 (if k=true then tc σ H3 λw' H4=>r' y w' H4 Q else Q (.bl false) H3)
theorem Agq (ho:OpR X (compareOp op) r)(ho':OpR X (compareOp op') r')(ha:PE X a ta)(hb:PE X b tb)(hc:PE X c tc)
  (hm:lastMarks [op,op'] [b,c]=false:=by with_unfolding_all rfl):PE X (.Compare a [op,op'] [b,c] pos) (Ahe r r' ta tb tc):=by
 intro pins s σ H Q I h
 refine Compare_chain (thn (ha pins s σ H _ I h) λv s1 ⟨x,H1,I1,r1,q1⟩=>chain_link (thn (hb pins s1 σ H1 _ I1 q1) λu s2 ⟨y,H2,I2,r2,q2⟩=>
  thn (ho pins s2 σ H2 x y v u _ I2 r1 r2 q2) λd s3 ⟨z,H3,I3,r3,k,e,q3⟩=>?_)) hm
 subst e
 cases r3
 refine Aso ?_
 cases k with
 | false=>exact ite_ff ⟨.bl false,H3,I3,rfl,q3⟩
 | true=>exact ite_tt (chain_last (thn (hc pins s3 σ H3 _ I3 q3) λw' s4 hz=>by obtain⟨z',H4,I4,r4,q4⟩:=hz;exact ho' pins s4 σ H4 y z' u w' Q I4 r2 r4 q4))
theorem Agh (ho:OpR X (compareOp op) r)(ho':OpR X (compareOp op') r')(ha:PE X a ta)(hb:PE X b tb)(hc:PE X c tc)
  (hm:lastMarks [op,op'] [b,c]=false:=by with_unfolding_all rfl):PT X (.Compare a [op,op'] [b,c] pos) (Akr (Ahe r r' ta tb tc)):=by
 intro pins s σ H Q I h
 refine isTrue_chain (thn (ha pins s σ H _ I h) λv s1 ⟨x,H1,I1,r1,q1⟩=>test_link (thn (hb pins s1 σ H1 _ I1 q1) λu s2 ⟨y,H2,I2,r2,q2⟩=>
  thn (ho pins s2 σ H2 x y v u _ I2 r1 r2 q2) λd s3 ⟨z,H3,I3,r3,k,e,q3⟩=>?_)) hm
 subst e
 cases r3
 refine Aso ?_
 cases k with
 |
  false=>
  obtain⟨k',e',q'⟩:=q3
  cases e'
  exact ite_ff ⟨H3,I3,q'⟩
 |
  true=>
  refine ite_tt (test_last (thn (hc pins s3 σ H3 _ I3 q3) λw' s4 ⟨z',H4,I4,r4,q4⟩=>thn (ho' pins s4 σ H4 y z' u w' _ I4 r2 r4 q4) λd' s5 hz=>?_))
  obtain⟨z2,H5,I5,r5,k2,e2,q5⟩:=hz
  subst e2
  cases r5
  exact Aso ⟨H5,I5,q5⟩
def Aoz (K:W.Frag)(x:V)(H:Hp)(k:Bool):Prop:=
 match x with
 | .non=>k=false
 | .bl b=>k=b
 | .int i=>k=(i != 0)
 | .str y=>y.length<=sizeLine/\k=((y.length:Int) != 0)
 | .byt y=>y.size<=sizeLine/\k=((y.size:Int) != 0)
 | .ref p=>(∃xs,SqL K H p xs/\k= !xs.isEmpty)∨(∃xs,SqT K H p xs/\k= !xs.isEmpty)∨∃kvs,H p=some (.dK kvs)/\k= !kvs.isEmpty
 | _=>False
def Abj (r:KV kvs vs):(!vs.isEmpty)= !kvs.isEmpty:=by
 cases r<;>rfl
def ng (r:Vals xs its):(!its.toArray.isEmpty)= !xs.isEmpty:=by
 cases r<;>simp
def yv:(sizeLine:Nat)<2 ^ 63:=by rw[sizeLine_eq];decide
theorem Aki:Api X (λx H Q=>∃k,Aoz X.K x H k/\Q k H):=by
 intro pins s σ H x v Q I rx h
 obtain⟨k,e,q⟩:=h
 have hl:=yv
 have hs:sizeLine=16777216:=sizeLine_eq
 cases x with
 |
  non=>
  cases rx
  have e':k=false:=e
  subst e'
  exact truthy_none ⟨H,I,q⟩
 |
  bl b=>
  cases rx
  have e':k=b:=e
  subst e'
  exact Aso ⟨H,I,q⟩
 |
  int i=>
  obtain⟨t,rfl⟩:=rx
  have e':k=(i != 0):=e
  subst e'
  exact PySem.P.truthy_int ⟨H,I,q⟩
 |
  str y=>
  obtain⟨t,rfl⟩:=rx
  obtain⟨hy,e'⟩:y.length<=sizeLine/\k=((y.length:Int) != 0):=e
  subst e'
  exact PySem.P.truthy_str dkl ⟨H,I.tok _,q⟩
 |
  byt y=>
  obtain⟨t,rfl⟩:=rx
  obtain⟨hy,e'⟩:y.size<=sizeLine/\k=((y.size:Int) != 0):=e
  subst e'
  exact W.truthy_bytes dkl ⟨H,I.tok _,q⟩
 |
  ref p=>
  cases rx
  have e':(∃xs,SqL X.K H p xs/\k= !xs.isEmpty)∨(∃xs,SqT X.K H p xs/\k= !xs.isEmpty)∨∃kvs,H p=some (.dK kvs)/\k= !kvs.isEmpty:=e
  rcases e' with⟨xs,hx,e'⟩|⟨xs,hx,e'⟩|⟨kvs,hx,e'⟩
  ·
   subst e'
   obtain⟨its,r,pl,hz⟩:=I.list hx
   have hlen:=r.length
   exact wpAny_truthy_list pl.isList (by simp only[Aq2];lia) ⟨H,I.tok _,by rw[ng r];exact q⟩
  ·
   subst e'
   obtain⟨its,r,pl,hz⟩:=I.tuple hx
   have hlen:=r.length
   exact truthy_tuple pl (by simp only[Aq2];lia) ⟨H,I.tok _,by rw[ng r];exact q⟩
  ·
   subst e'
   obtain⟨hz,hS,vs,r,m⟩:kvs.length<=sizeLine/\(p==sysModules)=false/\∃vs,KV kvs vs/\s.heap.DictOf (Ge X.prog X.w) p vs:=I.hok p _ hx
   have hlen:kvs.length=vs.length:=Paired.length r
   exact wpAny_truthy_dict hS m dkl ⟨H,I.tok _,by rw[Abj r];exact q⟩
 | _=>exact(show False from e).elim
def oy (ha:PE X a ta)(he:∀whole,isTrue a X.env whole=(do let v ←whole;standAt a.pos;holding [v] (truthy v))):
  PT X a (λσ H Q=>ta σ H λx H'=>∃k,Aoz X.K x H' k/\Q k H'):=by
 intro pins s σ H Q I h
 exact isTrue_plain (thn (ha pins s σ H _ I h) λv s1 hz=>by obtain⟨x,H1,I1,r1,q1⟩:=hz;exact Aki pins s1 σ H1 x v Q I1 r1 q1) (he _)
theorem vals1 (r:Vals [x] us):∃u,us=[u]/\RelV x u:=by
 cases r with
 | cons r1 r2=>cases r2;exact⟨_,rfl,r1⟩
theorem vals2 (r:Vals [x,y] us):∃u w',us=[u,w']/\RelV x u/\RelV y w':=by
 cases r with
 |
  cons r1 r2=>
  cases r2 with
  | cons r3 r4=>cases r4;exact⟨_,_,rfl,r1,r3⟩
def z6:Lc X (.builtin "abs") (λxs H Q=>∃i,xs=[.int i]/\Q (.int (if i<0 then-i else i)) H):=by
 intro pins s σ H xs us Q I r h
 obtain⟨i,rfl,q⟩:=h
 obtain⟨u,rfl,t,rfl⟩:=vals1 r
 exact call_abs_int λu tk=>⟨.int (if i<0 then-i else i),H,I.tok _,⟨_,rfl⟩,q⟩
def Ad1 (hc:X.calm=true):Lc X (.builtin "max") (λxs H Q=>∃i j,xs=[.int i,.int j]/\Q (.int (if j>i then j else i)) H):=by
 intro pins s σ H xs us Q I r h
 obtain⟨i,j,rfl,q⟩:=h
 obtain⟨u,w',rfl,⟨t,rfl⟩,⟨t',rfl⟩⟩:=vals2 r
 refine max_two_ints (I.ok.hd hc) λh' tk k=>⟨_,H,I.kept k,?_,q⟩
 by_cases hj:j>i
 · rw[if_pos hj,if_pos hj];exact⟨_,rfl⟩
 · rw[if_neg hj,if_neg hj];exact⟨_,rfl⟩
def Ab9 (hc:X.calm=true):Lc X (.builtin "min") (λxs H Q=>∃i j,xs=[.int i,.int j]/\Q (.int (if j<i then j else i)) H):=by
 intro pins s σ H xs us Q I r h
 obtain⟨i,j,rfl,q⟩:=h
 obtain⟨u,w',rfl,⟨t,rfl⟩,⟨t',rfl⟩⟩:=vals2 r
 refine min_two_ints (I.ok.hd hc) λh' tk k=>⟨_,H,I.kept k,?_,q⟩
 by_cases hj:j<i
 · rw[if_pos hj,if_pos hj];exact⟨_,rfl⟩
 · rw[if_neg hj,if_neg hj];exact⟨_,rfl⟩
def Xp:Lc X (.type "int") (λxs H Q=>(∃i,xs=[.int i]/\Q (.int i) H)∨∃k,xs=[.bl k]/\Q (.int (if k then 1 else 0)) H):=by
 intro pins s σ H xs us Q I r h
 rcases h with⟨i,rfl,q⟩|⟨k,rfl,q⟩
 ·
  obtain⟨u,rfl,t,rfl⟩:=vals1 r
  exact call_int_int ⟨.int i,H,I,⟨_,rfl⟩,q⟩
 ·
  obtain⟨u,rfl,r1⟩:=vals1 r
  cases r1
  exact call_int_bool ⟨.int (if k then 1 else 0),H,I.tok _,⟨_,rfl⟩,q⟩
def Aah:Lc X (.type "bool") (λxs H Q=>(∃i,xs=[.int i]/\Q (.bl (i != 0)) H)∨∃k,xs=[.bl k]/\Q (.bl k) H):=by
 intro pins s σ H xs us Q I r h
 rcases h with⟨i,rfl,q⟩|⟨k,rfl,q⟩
 ·
  obtain⟨u,rfl,t,rfl⟩:=vals1 r
  exact call_bool_int ⟨.bl (i != 0),H,I,rfl,q⟩
 ·
  obtain⟨u,rfl,r1⟩:=vals1 r
  cases r1
  exact call_bool_bool ⟨.bl k,H,I,rfl,q⟩
structure ObjM (h:Heap)(x dx C:Addr)(mA:Str->Option Value):Prop where
 obj:h.get? x=some (W.instObj C dx)
 ns:h.Ns1 dx mA
 ne:dx≠x
def Adg {h:Heap}{dx:Addr}{mA:Str->Option Value}(n:h.Ns1 dx mA):∃od,h.get? dx=some od/\∀name,W.lookIn name od=some (mA name):=by
 obtain⟨o,es,ep,ho,hd,hk,_,hm⟩:=n
 refine⟨o,ho,λname=>?_⟩
 have e:=hm name
 unfold nsFind findBy at e
 rw[←Array.find?_toList] at e
 unfold W.lookIn
 rw[hd]
 dsimp only
 split
 ·
  rename_i y q
  rw[q] at e
  exact At5 some e
 ·
  rename_i q
  rw[q] at e
  have a:es.toList.any (·.refKey)=false:=by
   rw[List.any_eq_false]
   intro y hy
   obtain⟨z,t,hkey⟩:=hk y (Array.mem_toList_iff.mp hy)
   simp[DictEntry.refKey,hkey]
  have a':¬es.toList.any (·.refKey)=true:=by rw[a];exact Arj
  rw[if_neg a']
  exact At5 some e
def ObjM.look (I:ObjM h x dx C mA):∃od,W.InstAt h x (W.instObj C dx) C (some od)/\∀name,W.lookIn name od=some (mA name):=
 let ⟨od,ho,hl⟩:=Adg I.ns
 ⟨od,⟨I.obj,rfl,rfl,ho⟩,hl⟩
variable {prog:Program}{A:Around}
def get_map {K:W.Frag}{x dx C:Addr}{mA:Str->Option Value}{name:Str}{v:Value}{expr:Bool}{Q:Value->Shared->Prop}(X:K.In s.heap)(I:ObjM s.heap x dx C mA)(hg:W.plainGet K C name=true)(hh:W.hasDictIn K C=true)
  (ha:W.findIn K (.ref C) name=some none) (hv:mA name=some v) (hv':W.handedIn v=true) (h:Q v {s with toks:=s.toks+1}):
  wpAny (model prog w) A (getAttr (.ref x) name expr) Q E s:=by
 obtain⟨od,J,hl⟩:=I.look
 exact W.get_value X J (W.plainGet_of hg).1 (W.findObj_own hh ha rfl (by rw[hl,hv])) hv' h
def Af7 {K:W.Frag}{x dx C f:Addr}{mA:Str->Option Value}{name:Str}{pl:Sem Bool}{Q:Value×List Value->Shared->Prop}(X:K.In s.heap)(I:ObjM s.heap x dx C mA)(hg:W.plainGet K C name=true)
  (hf:W.findIn K (.ref C) name=some (some (.ref f))) (ht:W.isFn K (.ref f)=true) (hv:mA name=none) (h:Q (.ref f,[.ref x]) s):
  wpAny (model prog w) A (getMethod (.ref x) name pl) Q E s:=by
 obtain⟨od,J,hl⟩:=I.look
 exact W.method_fn X J (W.plainGet_of hg).1 (W.plainGet_of hg).2 hf (beq_iff_eq.mp ht) (by show(W.lookIn name od).map (·.isSome)=some false;rw[hl,hv];rfl) h
def Ajk {K:W.Frag}{x dx C:Addr}{mA:Str->Option Value}{name:Str}{v:Value}{ns:List Str}{Q:Unit->Shared->Prop}(X:K.In s.heap)(I:ObjM s.heap x dx C mA)
  (hs:W.findIn K (.ref C) "__setattr__"=some (some (.builtin "object.__setattr__"))) (hp:W.plainOver K C=true) (ht:W.takerIn K C name=some none) (hh:W.hasDictIn K C=true)
  (hw:PySem.Within mA ns) (hsz:ns.length<=sizeLine)
  (h:∀h',ObjM h' x dx C (λy=>if y=name then some v else mA y)->Heap.SameBut dx s.heap h'->Q () {s with heap:=h',toks:=s.toks+2}):
  wpAny (model prog w) A (setAttr (.ref x) name v) Q E s:=by
 obtain⟨od,J,hl⟩:=I.look
 refine W.set_plain X J hs (W.osa_open (s:={s with toks:=s.toks+1}) (r:=none) X J hp ht λb=>?_)
 obtain⟨cd,hc,hd'⟩:=W.any_some hh
 have hx:s.heap.get? x=some ⟨.ref C,some dx,.plain,#[]⟩:=I.obj
 refine Aqq (Aqt (Aqq (Aqq (wpAny_loadPart hx (Aqq (W.Looks.here (s:={s with toks:=s.toks+1}) (W.looks_clsIn X hc) ?_))))))
 rw[hd']
 refine Aqt (a:=some dx) (Aqq (Aqt (Aqq ?_)))
 refine wpAny_nsSet1 (s:={s with toks:=s.toks+1}) I.ns λh' hn2 hs2=>?_
 obtain⟨oD,esD,epD,hoD,hdD,hcD⟩:=hn2.count (PySem.Within.cons name v hw)
 refine Aqq (wpAny_lookBehind hoD (by rw[hdD];exact pastItsLine_dict (Aq3 hcD (by rw[Arx];lia))) ?_)
 exact Aqt (h _ ⟨(hs2.2 _ (Avl I.ne)).trans I.obj,hn2,I.ne⟩ hs2)
def Agp {K:W.Frag}{C f:Addr}{R:Result->Shared->Prop}{vs:List Value}{kw:List (Str×Value)}(X:K.In s.heap)(hm:W.makesIn K C=true)
  (hi:W.findIn K (.ref C) "__init__"=some (some (.ref f))) (hf:W.typeIn K (.ref f)=some (.type "function"))
  (h:codeAny (model prog w) (A.under (.builtin "type.__call__" ⟨.ref C::vs,kw⟩)) (.call (.ref f) ⟨.ref (s.heap.objs.size+1)::vs,kw⟩) (W.InitBack (s.heap.objs.size+1) R)
   {s with heap:=(s.heap.push W.emptyDict).push (W.instObj C s.heap.objs.size)}):
  codeAny (model prog w) A (.call (.ref C) ⟨vs,kw⟩) R s:=by
 obtain⟨hh,g,d,t,os⟩:=s
 exact W.make_core (W.makes_of X hm) (W.looks_findIn X hi) (λself=>W.bind_fn X self hf) (.inl rfl) h
def rl (f:Str)(v:V):List (Str×V)->List (Str×V)
 | []=>[(f,v)]
 | (g,x)::r=>if g=f then(g,v)::r else(g,x)::rl f v r
theorem je (f g:Str)(v:V):∀fs:List (Str×V),(rl f v fs).lookup g=if g=f then some v else fs.lookup g
 |
  []=>by
  show List.lookup g [(f,v)]=_
  by_cases h:g=f
  ·
   have hb:(g==f)=true:=beq_iff_eq.mpr h
   simp only[List.lookup,hb,if_pos h]
  ·
   have hb:(g==f)=false:=Atm.mpr h
   simp only[List.lookup,hb,if_neg h]
 |
  (k,x)::r=>by
  have ih:=je f g v r
  rw[show rl f v ((k,x)::r)=(if k=f then(k,v)::r else(k,x)::rl f v r) from rfl]
  by_cases hk:k=f
  ·
   rw[if_pos hk]
   by_cases h:g=k
   ·
    have hb:(g==k)=true:=beq_iff_eq.mpr h
    simp only[List.lookup,hb,if_pos (h.trans hk)]
   ·
    have hb:(g==k)=false:=Atm.mpr h
    simp only[List.lookup,hb,if_neg (λe:g=f=>h (e.trans hk.symm))]
  ·
   rw[if_neg hk]
   by_cases h:g=k
   ·
    have hb:(g==k)=true:=beq_iff_eq.mpr h
    simp only[List.lookup,hb,if_neg (λe:g=f=>hk (h.symm.trans e))]
   ·
    have hb:(g==k)=false:=Atm.mpr h
    simp only[List.lookup,hb]
    exact ih
theorem gd (f:Str)(v:V):∀fs:List (Str×V),f∈(rl f v fs).map (·.1)/\∀g,g∈fs.map (·.1)->g∈(rl f v fs).map (·.1)
 | []=>⟨by simp[rl],λg h=>by simp at h⟩
 |
  (k,x)::r=>by
  obtain⟨i1,i2⟩:=gd f v r
  rw[show rl f v ((k,x)::r)=(if k=f then(k,v)::r else(k,x)::rl f v r) from rfl]
  by_cases hk:k=f
  ·
   rw[if_pos hk]
   subst hk
   exact⟨dks,λg h=>by simpa using h⟩
  ·
   rw[if_neg hk]
   refine⟨?_,λg h=>?_⟩
   ·
    rw[Ar1]
    exact Ard _ i1
   ·
    rw[Ar1] at h ⊢
    rcases Ara.mp h with e|e
    · exact List.mem_cons.mpr (.inl e)
    · exact Ard _ (i2 g e)
theorem jz (f:Str)(v:V):∀fs:List (Str×V),(rl f v fs).length<=fs.length+1
 | []=>by simp[rl]
 |
  (k,x)::r=>by
  have ih:=jz f v r
  rw[show rl f v ((k,x)::r)=(if k=f then(k,v)::r else(k,x)::rl f v r) from rfl]
  by_cases hk:k=f
  · rw[if_pos hk,Arx,Arx];lia
  · rw[if_neg hk,Arx,Arx];lia
theorem RelO.some_of (r:RelO (some v) o):∃u,o=some u/\RelV v u:=by
 cases o with
 | none=>exact(show False from r).elim
 | some u=>exact⟨u,rfl,r⟩
theorem RelO.none_of (r:RelO none o):o=none:=by
 cases o with
 | none=>rfl
 | some u=>exact(show False from r).elim
theorem Ab0 (r:RelV v u):W.handedIn u=true:=by
 cases v with
 | non=>cases (show u=Value.none from r);rfl
 | bl b=>cases (show u=Value.bool b from r);rfl
 | int i=>obtain⟨t,e⟩:=(show ∃t,u=Value.int i t from r);cases e;rfl
 | str x=>obtain⟨t,e⟩:=(show ∃t,u=Value.str x t from r);cases e;rfl
 | byt b=>obtain⟨t,e⟩:=(show ∃t,u=Value.bytes b t from r);cases e;rfl
 | flt b=>obtain⟨t,e⟩:=(show ∃t,u=Value.float b t from r);cases e;rfl
 | ref a=>cases (show u=Value.ref a from r);rfl
 | ty n=>cases (show u=Value.type n from r);rfl
def rg (hok:HOk P w H h)(e:H a=some (.ins C dx fs)):∃mA,ObjM h a dx C mA/\(∀f,RelO (fs.lookup f) (mA f))/\PySem.Within mA (fs.map (·.1))/\fs.length<=1000/\H dx=some (.own a):=by
 obtain⟨d,z,ne,ob,mA,n,r,q⟩:=(show ObjOk P w H h a (.ins C dx fs) from hok a _ e)
 exact⟨mA,⟨ob,n,ne⟩,r,q,z,d⟩
structure Cls (K:W.Frag)(C:Addr):Prop where
 pg:W.plainGet K C Str.empty=true
 hd:W.hasDictIn K C=true
 po:W.plainOver K C=true
 sa:W.findIn K (.ref C) "__setattr__"=some (some (.builtin "object.__setattr__"))
def Cls.get {K:W.Frag}{C:Addr}(c:Cls K C)(f:Str):W.plainGet K C f=true:=c.pg
def NoAttr (K:W.Frag)(C:Addr)(f:Str):Prop:=W.findIn K (.ref C) f=some none
def NoAttr.taker {K:W.Frag}{C:Addr}{f:Str}(n:NoAttr K C f):W.takerIn K C f=some none:=by
 unfold W.takerIn
 rw[show W.findIn K (.ref C) f=some none from n]
 rfl
structure Meth (K:W.Frag)(C:Addr)(m:Str)(f:Addr):Prop where
 at_:W.findIn K (.ref C) m=some (some (.ref f))
 fn:W.isFn K (.ref f)=true
 kp:W.keepIn K (.ref f)=true
def Aay (I:Inv X pins σ H s)(e:H a=some (.ins C dx fs))(c:Cls X.K C)(n:NoAttr X.K C f)(l:fs.lookup f=some v)
  (h:∀u s',Inv X pins σ H s'->RelV v u->Q u s'):wpAny (model X.prog X.w) A (getAttr (.ref a) f b) Q E s:=by
 obtain⟨mA,O,r,_,_,_⟩:=rg I.hok e
 obtain⟨u,hu,ru⟩:=RelO.some_of (v:=v) (o:=mA f) (by rw[←l];exact r f)
 exact get_map I.kIn O (c.get f) c.hd n hu (Ab0 ru) (h u _ (I.tok _) ru)
def nr (I:Inv X pins σ H s)(e:H a=some (.ins C dx fs))(c:Cls X.K C)(k:Meth X.K C m g)(l:fs.lookup m=none)
  (h:Q (.ref g,[.ref a]) s):wpAny (model X.prog X.w) A (getMethod (.ref a) m pl) Q E s:=by
 obtain⟨mA,O,r,_,_,_⟩:=rg I.hok e
 have hn:mA m=none:=RelO.none_of (by rw[←l];exact r m)
 exact Af7 I.kIn O (c.get m) k.at_ k.fn hn h
def Aar (I:Inv X pins σ H s)(e:H a=some (.ins C dx fs))(c:Cls X.K C)(n:NoAttr X.K C f)(hl:fs.length<1000)(ry:RelV y u)
  (h:∀s',Inv X pins σ (upd H a (.ins C dx (rl f y fs))) s'->Q () s'):wpAny (model X.prog X.w) A (setAttr (.ref a) f u) Q E s:=by
 obtain⟨mA,O,r,wi,_,ho⟩:=rg I.hok e
 have hz:(fs.map (·.1)).length<=sizeLine:=by rw[Aqv,sizeLine_eq];lia
 refine Ajk I.kIn O c.sa c.po n.taker c.hd wi hz λh' O' sb=>h _ ?_
 have hd:∃o,h'.get? dx=some o:=let ⟨o,_,_,e',_⟩:=O'.ns;⟨o,e'⟩
 refine I.write (x:=a) (e:=dx) (by rw[e];exact True.intro) (.inr ho) (λb q hb z=>(sb.2 b hb).trans z) hd ?_
 refine⟨by rw[An O.ne];exact ho,?_,O.ne,O'.obj,_,O'.ns,λg=>?_,λg hg=>?_⟩
 · have:=jz f y fs;lia
 ·
  show RelO ((rl f y fs).lookup g) (if g=f then some u else mA g)
  rw[je]
  by_cases q:g=f
  · rw[if_pos q,if_pos q];exact ry
  · rw[if_neg q,if_neg q];exact r g
 ·
  by_cases q:g=f
  · rw[q];exact(gd f y fs).1
  ·
   refine(gd f y fs).2 g (wi g λz=>hg ?_)
   show(if g=f then some u else mA g)=none
   rw[if_neg q];exact z
def Inv.made (I:Inv X pins σ H s):Inv X pins σ (upd (upd H s.heap.objs.size (.own (s.heap.objs.size+1))) (s.heap.objs.size+1) (.ins C s.heap.objs.size []))
  {s with heap:=(s.heap.push W.emptyDict).push (W.instObj C s.heap.objs.size)}:=by
 have e1:(s.heap.push W.emptyDict).get? s.heap.objs.size=some W.emptyDict:=Aq1 s.heap rfl
 have e2:((s.heap.push W.emptyDict).push (W.instObj C s.heap.objs.size)).get? (s.heap.objs.size+1)=some (W.instObj C s.heap.objs.size):=by
  have:=Aq1 (s.heap.push W.emptyDict) (o:=W.instObj C s.heap.objs.size) rfl
  rwa[Ar6] at this
 have e3:(s.heap.push W.emptyDict).Ns s.heap.objs.size (λ_=>none):=⟨W.emptyDict,#[],_,e1,rfl,(λe he=>absurd he dks),λ_=>rfl⟩
 have I1:=I.laid (a:=s.heap.objs.size) (o:=.own (s.heap.objs.size+1)) (h':=s.heap.push W.emptyDict) (t':=s.toks) (λb u q=>Aqr _ q) (Aq0 _) ⟨_,e1⟩
 refine I1.laid (a:=s.heap.objs.size+1) (o:=.ins C s.heap.objs.size []) (t':=s.toks) (λb u q=>Aqr _ q) (Nat.le_of_eq (Ar6 _ _)) ?_
 have ne:s.heap.objs.size≠s.heap.objs.size+1:=Arc (Asj _)
 refine⟨by rw[An ne,Ae],Ar3 _,ne,e2,λ_=>none,(Heap.Ns1.of_empty e3).at λo q=>Aqr _ q,λ_=>True.intro,λy hy=>absurd rfl hy⟩
def Ajm (hb:attributeBase e f env (eval e env)=eval e env)
  (h:wpAny (model prog w) A (eval e env) (λo s₁=>wpAny (model prog w) A (getAttr o f true) Q E s₁) E s):wpAny (model prog w) A (eval (.Attribute e f pos) env) Q E s:=
 Attribute_any_ h (by rw[arm_eval_Attribute,hb])
def Apa (K:W.Frag)(ta:TE)(f:Str):TE:=λσ H Q=>ta σ H λx H1=>∃a C dx fs v,x=.ref a/\H1 a=some (.ins C dx fs)/\Cls K C/\NoAttr K C f/\fs.lookup f=some v/\Q v H1
def Ao3 (K:W.Frag)(ta tv:TE)(f:Str):TS:=λD σ H=>tv σ H λy H1=>ta σ H1 λx H2=>∃a C dx fs,x=.ref a/\H2 a=some (.ins C dx fs)/\Cls K C/\NoAttr K C f/\fs.length<1000/\
 D.nx σ (upd H2 a (.ins C dx (rl f y fs)))
def Alh (he:PE X e ta)(hb:attributeBase e f X.env (eval e X.env)=eval e X.env):PE X (.Attribute e f pos) (Apa X.K ta f):=by
 intro pins s σ H Q I h
 refine Ajm hb (thn (he pins s σ H _ I h) λu s1 hz=>?_)
 obtain⟨x,H1,I1,rx,a,C,dx,fs,v,ex,ea,c,n,l,q⟩:=hz
 subst ex
 obtain rfl:u=Value.ref a:=rx
 exact Aay I1 ea c n l λu' s2 I2 ru=>⟨v,H1,I2,ru,q⟩
def Akh (ha:PE X o ta)(hv:PE X value tv)(hs:swapsWith value (some (.Attribute o f pos')) pos.line X.env=pure false):PS X (.Assign [.Attribute o f pos'] value pos) (Ao3 X.K ta tv f):=by
 intro pins s σ H D I h
 refine plainObj_wpAny_Assign_Attribute (thn (hv pins s σ H _ I h) λu s1 ⟨y,H1,I1,ry,q⟩=>thn (ha pins s1 σ H1 _ I1 q) λov s2 ⟨x,H2,I2,rx,a,C,dx,fs,ex,ea,c,n,l,q2⟩=>?_) hs
 subst ex
 obtain rfl:ov=Value.ref a:=rx
 exact Aar I2 ea c n l ry λs3 I3=>⟨σ,_,I3,q2⟩
inductive d4 (K:W.Frag)(H:Hp):V->Value->Prop where
 | non:d4 K H .non (.type "NoneType")
 | bl (x:Bool):d4 K H (.bl x) (.type "bool")
 | int (i:Int):d4 K H (.int i) (.type "int")
 | str (x:Str):d4 K H (.str x) (.type "str")
 | flt (x:UInt64):d4 K H (.flt x) (.type "float")
 | lst {a:Addr} {xs:List V} (e:H a=some (.lst xs)):d4 K H (.ref a) (.type "list")
 | frz {a:Addr} {o:Obj} {xs:List V} (e:H a=some (.frz o (.lst xs))):d4 K H (.ref a) (.type "list")
 | tup {a:Addr} {xs:List V} (e:H a=some (.tup xs)):d4 K H (.ref a) (.type "tuple")
 | dK {a:Addr} {kvs:List (Key×V)} (e:H a=some (.dK kvs)):d4 K H (.ref a) (.type "dict")
 | dT {a:Addr} {kvs:List (List Key×V)} (e:H a=some (.dT kvs)):d4 K H (.ref a) (.type "dict")
 | ins {a C dx:Addr} {fs:List (Str×V)} (e:H a=some (.ins C dx fs)) (cl:Cls K C) (ha:W.findIn K (.ref C) "__class__"=some (some (.builtin "object.__class__")))
  (hn:W.specialIn K (.builtin "object.__class__") "__get__"=some (some (.builtin "getset_descriptor.__get__"))) (htk:W.takesIn K (.builtin "object.__class__")=some true)
  (hm:W.mroIn K C (.type "object")=some true):d4 K H (.ref a) (.ref C)
theorem Aeg (I:Inv X pins σ H s)(rx:RelV x u)(ty:d4 X.K H x t)(e:W.kitOne X.K t c=some b)(h:∀tk,Q (.bool b) {s with toks:=tk}):
  wpAny (model X.prog X.w) A (call (.builtin "isinstance") [u,c]) Q E s:=by
 cases ty with
 | non=>cases (show u=Value.none from rx);exact Auv W.kitx_none I.kIn True.intro e (λz=>nomatch z) h
 | bl y=>cases (show u=Value.bool y from rx);exact Auv W.kitx_bool I.kIn True.intro e (λz=>nomatch z) h
 | int i=>obtain⟨t,q⟩:=(show ∃t,u=Value.int i t from rx);cases q;exact Auv W.kitx_int I.kIn True.intro e (λz=>nomatch z) h
 | str y=>obtain⟨t,q⟩:=(show ∃t,u=Value.str y t from rx);cases q;exact Auv W.kitx_str I.kIn True.intro e (λz=>nomatch z) h
 | flt y=>obtain⟨t,q⟩:=(show ∃t,u=Value.float y t from rx);cases q;exact Auv W.kitx_float I.kIn True.intro e (λz=>nomatch z) h
 |
  @lst a xs ea=>
  cases (show u=Value.ref a from rx)
  obtain⟨_,_,n,_,h1⟩:=(show ObjOk X.prog X.w H s.heap a (.lst xs) from I.hok a _ ea)
  exact Auv W.kitx_list I.kIn ⟨_,h1,rfl⟩ e (λz=>nomatch z) h
 |
  @frz a ob xs ea=>
  cases (show u=Value.ref a from rx)
  obtain⟨_,_,_,n,_,h1⟩:=(show ObjOk X.prog X.w H s.heap a (.frz ob (.lst xs)) from I.hok a _ ea)
  exact Auv W.kitx_list I.kIn ⟨_,h1,rfl⟩ e (λz=>nomatch z) h
 |
  @tup a xs ea=>
  cases (show u=Value.ref a from rx)
  obtain⟨_,_,_,p⟩:=(show ObjOk X.prog X.w H s.heap a (.tup xs) from I.hok a _ ea)
  obtain⟨o,h1,h2,_⟩:=p
  exact Auv W.kitx_tuple I.kIn ⟨o,h1,h2⟩ e (λz=>nomatch z) h
 |
  @dK a kvs ea=>
  cases (show u=Value.ref a from rx)
  obtain⟨_,_,vs,_,p⟩:=(show ObjOk X.prog X.w H s.heap a (.dK kvs) from I.hok a _ ea)
  obtain⟨o,es,ep,h1,h2,_⟩:=p
  exact Auv W.kitx_dict I.kIn ⟨o,h1,h2.1⟩ e (λz=>nomatch z) h
 |
  @dT a kvs ea=>
  cases (show u=Value.ref a from rx)
  obtain⟨_,_,xs,_,o,es,ep,h1,h2,_⟩:=(show ObjOk X.prog X.w H s.heap a (.dT kvs) from I.hok a _ ea)
  exact Auv W.kitx_dict I.kIn ⟨o,h1,h2.1⟩ e (λz=>nomatch z) h
 |
  @ins a C dx fs ea cl ha hn htk hm=>
  cases (show u=Value.ref a from rx)
  obtain⟨mA,O,_⟩:=rg I.hok ea
  obtain⟨od,J,_⟩:=O.look
  exact Auv (W.kitx_own (cl.get _) cl.hd ha hn htk hm) I.kIn J e (λz=>nomatch z) h
structure Room (cm:Bool)(k:Nat)(A:Around):Prop where
 hd:cm=true->A.handled=none
 dp:A.depth+3*k+5<recursionLimit
 un:A.units+16*k+200<cLine
def Room.mono (r:Room cm k A)(h:j<=k):Room cm j A:=⟨r.hd,by have:=r.dp;lia,by have:=r.un;lia⟩
theorem Room.deeper (r:Room cm (k+1) A)(env:Env):Room cm k (A.deeper env):=
 ⟨r.hd,by have:=r.dp;show A.depth+1+3*k+5<_;lia,by have:=r.un;show A.units+3+16*k+200<_;lia⟩
def Aa6 {A:Around}{C:Addr}{us:List Value}{kw:List (Str×Value)}:(A.under (.builtin "type.__call__" ⟨.ref C::us,kw⟩)).depth=A.depth+1:=by
 first|rfl|simp[Around.under,Code.weight,Code.isCreation,Code.isGuard,Code.isCaller,Code.frames,Code.isFrame,guardIds]
def Aa7 {A:Around}{C:Addr}{us:List Value}{kw:List (Str×Value)}:(A.under (.builtin "type.__call__" ⟨.ref C::us,kw⟩)).units=A.units+1:=by
 first|rfl|simp[Around.under,Code.cUnits,Code.frames,Code.isFrame]
def Room.make (r:Room cm (k+1) A)(C:Addr)(us:List Value)(kw:List (Str×Value)):Room cm k (A.under (.builtin "type.__call__" ⟨.ref C::us,kw⟩)):=
 ⟨r.hd,by have:=r.dp;rw[Aa6];lia,by have:=r.un;rw[Aa7];lia⟩
theorem Room.depth (r:Room cm k A):A.depth<recursionLimit:=by have:=r.dp;lia
theorem Room.units (r:Room cm k A):A.units+64<cLine:=by have:=r.un;lia
def Aqc:TA:=λ_ H Q=>Q [] H
def Aoo (ta:TE)(tr:TA):TA:=λσ H Q=>ta σ H λx H1=>tr σ H1 λxs H2=>Q (x::xs) H2
def Ad:PA X [] Aqc:=λ_ _ _ _ H Q I h=>Calls.spliced_nil ⟨[],H,I,.nil,h⟩
def Aa (ha:PE X e te)(hr:PA X es t)(hs:starEach (e::es) X.env=(false,eval e X.env)::starEach es X.env:=by rfl):PA X (e::es) (Aoo te t):=by
 intro pos pins s σ H Q I h
 rw[hs]
 show wpAny _ _ (spliced ((false,eval e X.env)::backTo pos (starEach es X.env))) _ _ s
 refine Calls.spliced_cons (thn (ha pins s σ H _ I h) λu s1 hz=>?_)
 obtain⟨x,H1,I1,r1,q1⟩:=hz
 exact thn (hr pos pins s1 σ H1 _ I1 q1) λus s2 hz=>by obtain⟨xs,H2,I2,r2,q2⟩:=hz;exact⟨x::xs,H2,I2,.cons r1 r2,q2⟩
def Ap4 (t:TA):TE:=λσ H Q=>t σ H λxs H1=>xs.length<=sizeLine/\∀p,H1 p=none->Q (.ref p) (upd H1 p (.tup xs))
def Apm (t:TA):TE:=λσ H Q=>t σ H λxs H1=>xs.length<=sizeLine/\∀p,H1 p=none->Q (.ref p) (upd H1 p (.lst xs))
def Amn {x1}(h:PA X es t):PE X (.Tuple es x1 pos) (Ap4 t):=by
 intro pins s σ H Q I hq
 refine wpAny_Tuple_spliced (thn (h pos pins s σ H _ I hq) λus s1 ⟨xs,H1,I1,r,z,q⟩=>⟨by rw[←r.length];exact z,?_⟩)
 have hf:H1 s1.heap.objs.size=none:=I1.hok.fresh (Aq0 _)
 refine⟨.ref s1.heap.objs.size,upd H1 s1.heap.objs.size (.tup xs),I1.laid (t':=s1.toks) (λb u e=>Aqr _ e) (Aq0 _) ?_,rfl,q _ hf⟩
 exact⟨z,us,r,⟨_,Aq1 _ rfl,rfl,_,rfl⟩⟩
def Aj7 (h:PA X es t):PE X (.List es pos) (Apm t):=by
 intro pins s σ H Q I hq
 refine wpAny_List_spliced (thn (h pos pins s σ H _ I hq) λus s1 ⟨xs,H1,I1,r,z,q⟩=>⟨by rw[←r.length];exact z,?_⟩)
 have hf:H1 s1.heap.objs.size=none:=I1.hok.fresh (Aq0 _)
 refine⟨.ref s1.heap.objs.size,upd H1 s1.heap.objs.size (.lst xs),I1.laid (t':=s1.toks) (λb u e=>Aqr _ e) (Aq0 _) ?_,rfl,q _ hf⟩
 exact⟨z,us,0,r,Aq1 _ rfl⟩
abbrev Sp:=List V->Hp->VK->XK->Prop
abbrev CXT:=List Env->Hp->Shared->XK->Value->Shared->Prop
structure Env0 (P:Program)(w:World)(K:W.Frag)(mg:Str->Option Value)(base:Heap)(A:Around)(outer:List Env)(s:Shared)(H:Hp):Prop where
 frames:A.frames=some outer
 mod:Mod K mg base
 bs:∀b o,base.get? b=some o->s.heap.get? b=some o/\H b=none
 bsz:base.objs.size<=s.heap.objs.size
 funs:s.heap.FunFrames base outer
 frf:∀b∈frs outer,H b=none
 hok:HOk P w H s.heap
 bare:AllBare s.gens
def CE (outer:List Env)(P:Program)(w:World)(H:Hp)(s:Shared)(Q:VK)(u:Value)(s':Shared):Prop:=
 ∃v H',s'.os=s.os/\AllBare s'.gens/\Un (frs outer) [] H H' s.heap s'.heap/\HOk P w H' s'.heap/\RelV v u/\Q v H'
def CR (CX:CXT)(outer:List Env)(P:Program)(w:World)(H:Hp)(s:Shared)(Q:VK)(E:XK)(r:Result)(s':Shared):Prop:=
 match r with
 | .ok (.ret u)=>CE outer P w H s Q u s'
 | .ok _=>False
 | .error e=>CX outer H s E e s'
structure FnOk (P:Program)(w:World)(K:W.Frag)(mg:Str->Option Value)(base:Heap)(CX:CXT)(cm:Bool)(k:Nat)(f:Addr)(fd:FuncData)(ps:List Str)(sp:Sp):Prop where
 len:∀vs H Q E,sp vs H Q E->vs.length=ps.length
 run:∀(A:Around)(outer:List Env)(s:Shared)(H:Hp)(args:Args)(us:List Value)(vs:List V)(Q:VK)(E:XK),Room cm k A->Env0 P w K mg base A outer s H->BindsTo s fd args (ps.zip us)->Vals vs us->sp vs H Q E->
  codeAny (model P w) A (.call (.ref f) args) (CR CX outer P w H s Q E) s
theorem FnOk.mono {cm:Bool}{P:Program}{w:World}{K:W.Frag}{mg:Str->Option Value}{base:Heap}{CX:CXT}{j k:Nat}{f:Addr}{fd:FuncData}{ps:List Str}{sp:Sp}(F:FnOk P w K mg base CX cm j f fd ps sp)(h:j<=k):
 FnOk P w K mg base CX cm k f fd ps sp:=⟨F.len,λA outer s H args us vs Q E hr=>F.run A outer s H args us vs Q E (hr.mono h)⟩
def FnOk.imp {cm:Bool}{P:Program}{w:World}{K:W.Frag}{mg:Str->Option Value}{base:Heap}{CX:CXT}{k:Nat}{f:Addr}{fd:FuncData}{ps:List Str}{sp sp':Sp}(F:FnOk P w K mg base CX cm k f fd ps sp)
  (h:∀vs H Q E,sp' vs H Q E->sp vs H Q E):FnOk P w K mg base CX cm k f fd ps sp':=
 ⟨λvs H Q E q=>F.len vs H Q E (h _ _ _ _ q),λA outer s H args us vs Q E hr he hb hv hs=>F.run A outer s H args us vs Q E hr he hb hv (h _ _ _ _ hs)⟩
def Env0.make {P:Program}{w:World}{K:W.Frag}{mg:Str->Option Value}{base:Heap}{A:Around}{outer:List Env}{s:Shared}{H:Hp}(e:Env0 P w K mg base A outer s H)(C:Addr)(us:List Value)(kw:List (Str×Value)):
 Env0 P w K mg base (A.under (.builtin "type.__call__" ⟨.ref C::us,kw⟩)) outer s H:=⟨by first|exact e.frames|(simpa[Around.under,Code.envs,Code.isFrame,pushEnvs] using e.frames),e.mod,e.bs,e.bsz,e.funs,e.frf,e.hok,e.bare⟩
def Inv.env0 (I:Inv X pins σ H s):Env0 X.prog X.w X.K X.mg X.base X.A X.stack s H:=
 ⟨I.ok.frames,I.ok.mod,I.bs,Aq3 I.ok.bsz I.sz,I.stack,I.stkFree,I.hok,I.bare⟩
def Inv.after (I:Inv X pins σ H s)(h:CE X.stack X.prog X.w H s Q u s'):EP X pins σ Q u s':=by
 obtain⟨v,H',os,bare,un,hok,r,q⟩:=h
 obtain⟨hh,g,d,t,os'⟩:=s'
 obtain rfl:os'=s.os:=os
 exact⟨v,H',I.call (h':=hh) (g':=g) (d':=d) (t':=t) (ch:=[]) un hok bare (λb z=>absurd z dks),r,q⟩
def Aix (sp:Sp)(dvs:List V)(E:XK)(t:TA):TE:=λσ H Q=>t σ H λvs H1=>sp (vs++dvs) H1 Q E
def Akf (C:Addr)(sp:Sp)(dvs:List V)(E:XK)(t:TA):TE:=λσ H Q=>t σ H λvs H1=>∀x dx,H1 x=none->H1 dx=none->dx≠x->
 sp (.ref x::(vs++dvs)) (upd (upd H1 dx (.own x)) x (.ins C dx [])) (λv H2=>v=.non/\Q (.ref x) H2) E
def Binds (K:W.Frag)(fd:FuncData)(ps:List Str)(ds:List Value):Prop:=
 ∀(s:Shared)(us:List Value),K.In s.heap->(us++ds).length=ps.length->BindsTo s fd ⟨us,[]⟩ (ps.zip (us++ds))
def Binds.all {K:W.Frag}{fd:FuncData}{ps:List Str}(h:∀us:List Value,us.length=ps.length->bindArgs fd ⟨us,[]⟩=pure (ps.zip us)):Binds K fd ps []:=λs us _ hl=>by
 rw[Ark] at hl ⊢
 exact .of_eq (h us hl)
def Passes (CX:CXT)(X:Cx)(E:XK):Prop:=∀(pins:List (Addr×Obj))(σ:St)(H:Hp)(s:Shared)(e:Value)(s':Shared),Inv X pins σ H s->CX X.stack H s E e s'->X.xe e s'
theorem yz {CX:CXT}{cm:Bool}{k:Nat}{f:Addr}{fd:FuncData}{ps:List Str}{sp:Sp}{dvs:List V}{ds:List Value}{E:XK}{pins:List (Addr×Obj)}{σ:St}{H:Hp}{s:Shared}{Q:VK}{us:List Value}{vs:List V}(F:FnOk X.prog X.w X.K X.mg X.base CX cm k f fd ps sp)(hr:Room cm k X.A)(hb:Binds X.K fd ps ds)(hd:Vals dvs ds)(hx:Passes CX X E)
  (I:Inv X pins σ H s) (r:Vals vs us) (h:sp (vs++dvs) H Q E):wpAny (model X.prog X.w) X.A (call (.ref f) us) (EP X pins σ Q) X.xe s:=by
 have r2:Vals (vs++dvs) (us++ds):=r.append hd
 have hl:(us++ds).length=ps.length:=by rw[←r2.length];exact F.len _ _ _ _ h
 refine Ave (As7 (F.run X.A X.stack s H ⟨us,[]⟩ (us++ds) (vs++dvs) Q E hr I.env0 (hb s us I.kIn hl) r2 h) λr s' hq=>?_)
 cases r with
 | error e=>exact hx pins σ H s e s' I hq
 |
  ok fl=>
  cases fl with
  | ret u=>exact I.after hq
  | next=>exact False.elim hq
  | brk=>exact False.elim hq
  | cont=>exact False.elim hq
def A5 {CX:CXT}{cm:Bool}{k:Nat}{f:Addr}{fd:FuncData}{ps:List Str}{sp:Sp}{dvs:List V}{ds:List Value}{E:XK}{x:Str}{e:Expr}{es:List Expr}{t:TA}(F:FnOk X.prog X.w X.K X.mg X.base CX cm k f fd ps sp)(hr:Room cm k X.A)(hg:Gl X x)(hm:X.mg x=some (.ref f))(hk:W.keepIn X.K (.ref f)=true)(hb:Binds X.K fd ps ds)(hd:Vals dvs ds)(hx:Passes CX X E)
  (ha:PA X (e::es) t) (hdb:(x==("__debug__":Str))=false:=by decide) (he:starEach (e::es) X.env=(false,eval e X.env)::starEach es X.env:=by rfl) (hpl:(backTo pos (starEach es X.env)).any (·.1)=false:=by rfl):
  PE X (.Call (.Name x p) (e::es) [] pos) (Aix sp dvs E t):=by
 intro pins s σ H Q I h
 refine As2 (jl I hg hm ?_ hdb)
 refine W.callWith_K (h₀:=X.base) I.ok.mod.kin hk (thn (ha pos pins s σ H _ I h) λus s1 ⟨vs,H1,I1,r,q⟩=>⟨I1.kIn,?_⟩) he hpl
 exact yz F hr hb hd hx I1 r q
structure Mk (K:W.Frag)(C f:Addr):Prop where
 makes:W.makesIn K C=true
 init:W.findIn K (.ref C) "__init__"=some (some (.ref f))
 fn:W.isFn K (.ref f)=true
 kp:W.keepIn K (.ref C)=true
theorem Agm {CX:CXT}{cm:Bool}{k:Nat}{f C:Addr}{fd:FuncData}{ps:List Str}{sp:Sp}{dvs:List V}{ds:List Value}{E:XK}{pins:List (Addr×Obj)}{σ:St}{H:Hp}{s:Shared}{Q:VK}{us:List Value}{vs:List V}(M:Mk X.K C f)(F:FnOk X.prog X.w X.K X.mg X.base CX cm k f fd ps sp)(hr:Room cm (k+1) X.A)(hb:Binds X.K fd ps ds)(hd:Vals dvs ds)
  (hx:Passes CX X E) (I:Inv X pins σ H s) (r:Vals vs us)
  (h:∀x dx,H x=none->H dx=none->dx≠x->sp (.ref x::(vs++dvs)) (upd (upd H dx (.own x)) x (.ins C dx [])) (λv H2=>v=.non/\Q (.ref x) H2) E):
  wpAny (model X.prog X.w) X.A (call (.ref C) us) (EP X pins σ Q) X.xe s:=by
 have hq:=h (s.heap.objs.size+1) s.heap.objs.size (I.hok.fresh (Au4 _)) (I.hok.fresh (Aq0 _)) (Arc (Asj _))
 have I2:=Inv.made (C:=C) I
 have r2:Vals (V.ref (s.heap.objs.size+1)::(vs++dvs)) (Value.ref (s.heap.objs.size+1)::(us++ds)):=.cons rfl (r.append hd)
 have hl:(Value.ref (s.heap.objs.size+1)::us++ds).length=ps.length:=by
  have e:=r2.length
  rw[F.len _ _ _ _ hq] at e
  exact e.symm
 refine Ave (Agp (f:=f) I.kIn M.makes M.init (beq_iff_eq.mp M.fn) (As7 (F.run _ X.stack _ _ ⟨Value.ref (s.heap.objs.size+1)::us,[]⟩ (Value.ref (s.heap.objs.size+1)::(us++ds)) _ _ E (hr.make C us [])
  (I2.env0.make C us []) (hb _ (Value.ref (s.heap.objs.size+1)::us) I2.kIn hl) r2 hq) λr s' hq'=>?_))
 cases r with
 | error e=>exact hx pins σ _ _ e s' I2 hq'
 |
  ok fl=>
  cases fl with
  |
   ret u=>
   obtain⟨v,H',I3,rv,ev,q3⟩:=I2.after hq'
   subst ev
   exact⟨rv,⟨V.ref (s.heap.objs.size+1),H',I3,rfl,q3⟩⟩
  | next=>exact False.elim hq'
  | brk=>exact False.elim hq'
  | cont=>exact False.elim hq'
def Fw {CX:CXT}{cm:Bool}{k:Nat}{f C:Addr}{fd:FuncData}{ps:List Str}{sp:Sp}{dvs:List V}{ds:List Value}{E:XK}{x:Str}{e:Expr}{es:List Expr}{t:TA}(M:Mk X.K C f)(F:FnOk X.prog X.w X.K X.mg X.base CX cm k f fd ps sp)(hr:Room cm (k+1) X.A)(hg:Gl X x)(hm:X.mg x=some (.ref C))(hb:Binds X.K fd ps ds)(hd:Vals dvs ds)(hx:Passes CX X E)
  (ha:PA X (e::es) t) (hdb:(x==("__debug__":Str))=false:=by decide) (he:starEach (e::es) X.env=(false,eval e X.env)::starEach es X.env:=by rfl) (hpl:(backTo pos (starEach es X.env)).any (·.1)=false:=by rfl):
  PE X (.Call (.Name x p) (e::es) [] pos) (Akf C sp dvs E t):=by
 intro pins s σ H Q I h
 refine As2 (jl I hg hm ?_ hdb)
 refine W.callWith_K (h₀:=X.base) I.ok.mod.kin M.kp (thn (ha pos pins s σ H _ I h) λus s1 ⟨vs,H1,I1,r,q⟩=>⟨I1.kIn,?_⟩) he hpl
 exact Agm M F hr hb hd hx I1 r q
structure Au (N P:List Str)(sc:Scope):Prop where
 kind:sc.kind=.function
 co:sc.isCoroutine=false
 gen:sc.isGenerator=false
 nd:N.Nodup
 pre:N.take P.length=P
 par:∀x∈P,sc.names.lookup x=some .local∨sc.names.lookup x=some .cell
 nofree:∀y∈sc.names,y.2≠ .free
theorem vv {kindOf:Str->Option NameKind}{x:Str}:∀{binds:List (Str×Value)}{m:Str->Option Value},(∀v,(x,v)∉binds)->bindL kindOf binds m x=m x
 | [],_,_=>rfl
 |
  (n,v)::r,m,h=>by
  unfold bindL
  rw[vv λw hw=>h w (Ard _ hw)]
  split
  ·
   have:x≠n:=by rintro rfl;exact h v Arn
   simp[this]
  · rfl
theorem vg {kindOf:Str->Option NameKind}{x:Str}:∀{binds:List (Str×Value)}{m:Str->Option Value},(∀v,(x,v)∉binds)->bindC kindOf binds m x=m x
 | [],_,_=>rfl
 |
  (n,v)::r,m,h=>by
  unfold bindC
  rw[vg λw hw=>h w (Ard _ hw)]
  split
  · rfl
  ·
   have:x≠n:=by rintro rfl;exact h v Arn
   simp[this]
theorem uv {kindOf:Str->Option NameKind}{x:Str}{v:Value}:∀{P:List Str}{vs:List Value}{i:Nat}{m:Str->Option Value},P.Nodup->P[i]?=some x->vs[i]?=some v->kindOf x=some .local->
  bindL kindOf (P.zip vs) m x=some v
 | [],_,_,_,_,h,_,_=>by simp at h
 | _::_,[],_,_,_,_,h,_=>by simp at h
 |
  p::P,w::vs,0,m,nd,h1,h2,hk=>by
  simp at h1 h2;subst h1;subst h2
  show bindL kindOf ((p,w)::P.zip vs) m p=_
  unfold bindL
  rw[vv λv hv=>(Au5.mp nd).1 (Auh hv).1,if_pos hk]
  simp
 |
  p::P,w::vs,i+1,m,nd,h1,h2,hk=>by
  show bindL kindOf ((p,w)::P.zip vs) m x=_
  unfold bindL
  exact uv (i:=i) (Au5.mp nd).2 (by simpa using h1) (by simpa using h2) hk
theorem uz {kindOf:Str->Option NameKind}{x:Str}{v:Value}:∀{P:List Str}{vs:List Value}{i:Nat}{m:Str->Option Value},P.Nodup->P[i]?=some x->vs[i]?=some v->kindOf x≠some .local->
  bindC kindOf (P.zip vs) m x=some v
 | [],_,_,_,_,h,_,_=>by simp at h
 | _::_,[],_,_,_,_,h,_=>by simp at h
 |
  p::P,w::vs,0,m,nd,h1,h2,hk=>by
  simp at h1 h2;subst h1;subst h2
  show bindC kindOf ((p,w)::P.zip vs) m p=_
  unfold bindC
  rw[vg λv hv=>(Au5.mp nd).1 (Auh hv).1,if_neg hk]
  simp
 |
  p::P,w::vs,i+1,m,nd,h1,h2,hk=>by
  show bindC kindOf ((p,w)::P.zip vs) m x=_
  unfold bindC
  exact uz (i:=i) (Au5.mp nd).2 (by simpa using h1) (by simpa using h2) hk
def start (N:List Str)(vs:List V):St:=vs.map some++List.replicate (N.length-vs.length) none
def zz (CX:CXT)(cm:Bool)(P:Program)(w:World)(K:W.Frag)(mg:Str->Option Value)(base:Heap)(N:List Str)(qual:Str)(scope:Scope)(f:Addr)(cd:Value)(A:Around)(outer:List Env)(s:Shared)(H:Hp)(E:XK):Cx where
 prog:=P
 w:=w
 K:=K
 mg:=mg
 base:=base
 A:=A.deeper (envOfC qual scope s.heap.objs.size f cd)
 N:=N
 s₀:=s
 H₀:=H
 env:=envOfC qual scope s.heap.objs.size f cd
 outer:=outer
 stack:=envOfC qual scope s.heap.objs.size f cd::outer
 ex:=[]
 calm:=cm
 fn:=λ_=>true
 pn:=[]
 xe:=λe s'=>wpAny (model P w) (A.deeper (envOfC qual scope s.heap.objs.size f cd)) (leaving (envOfC qual scope s.heap.objs.size f cd) e) (λ_ s''=>CX outer H s E e s'') (λe' s''=>CX outer H s E e' s'') s'
def zk {sc:Scope}{n:Nat}{x:Str}(h:sc.names.lookup x=some .cell):∃c,(cellsFrom n sc.names []).lookup x=some c:=by
 have q:=W.cellsFrom_some sc.names n [] (.inl h)
 exact Avh.mp q
def tj {cm:Bool}{CX:CXT}{P:Program}{w:World}{K:W.Frag}{mg:Str->Option Value}{base:Heap}{N ps:List Str}{qual:Str}{scope:Scope}{f:Addr}{cd:Value}{A:Around}{outer:List Env}{s s1:Shared}{H:Hp}{E:XK}{us:List Value}{vs:List V}
  (S:Au N ps scope) (hd:cm=true->A.handled=none) (e0:Env0 P w K mg base A outer s H) (hl:vs.length=ps.length) (r:Vals vs us)
  (x:InCallC s s.heap.objs.size (bindL (envOfC qual scope s.heap.objs.size f cd).kindOf (ps.zip us) λ_=>none) (cellsFrom (s.heap.objs.size+1) scope.names []) (bindC (envOfC qual scope s.heap.objs.size f cd).kindOf (ps.zip us) λ_=>none) s1):
  Inv (zz CX cm P w K mg base N qual scope f cd A outer s H E) [] (start N vs) H s1:=by
 have hpl:ps.length<=N.length:=by have:=At5 List.length S.pre;rw[Ar4] at this;lia
 obtain⟨h1,tk,rfl,hk⟩:=x.done
 have noA:∀b:Addr,b∉(zz CX cm P w K mg base N qual scope f cd A outer s H E).ex:=λb z=>absurd (show b∈([]:List Addr) from z) dks
 refine⟨⟨e0.mod,S.kind,rfl,rfl,Aq0 _,λy z c h1 h2=>?_,λy hy=>?_,λy c _ h=>?_,hd,Around.frames_deeper e0.frames,.inr ⟨rfl,rfl⟩,λb z=>absurd z (noA b),e0.bs,e0.bsz,λb _ _=>noA b,λb z=>absurd z (noA b),e0.funs,e0.frf⟩,
  rfl,e0.bare,Un.kept hk,⟨_,x.toInCall.ns,λi y v h1 h2 h3=>?_⟩,λy c h=>⟨_,x.cell y c h⟩,e0.hok.fresh (Aq0 _),λy c h=>?_,λp hp=>absurd (show p∈([]:List (Addr×Obj)) from hp) dks,e0.hok.kept hk,?_⟩
 · exact name_of_addr x.apart (Asc h1) (Asc h2)
 ·
  have hy:scope.names.lookup y=some .cell∨scope.names.lookup y=some .free:=hy
  rcases hy with hy|hy
  · exact zk hy
  · exact absurd rfl (S.nofree _ (Asc hy))
 · exact Atl (x.above y c (Asc h))
 ·
  have hi:i<vs.length:=by
   unfold start at h2
   by_cases hi:i<vs.length
   · exact hi
   ·
    rw[As9 (by simpa using hi)] at h2
    rw[List.getElem?_replicate] at h2
    split at h2<;>cases h2
  have ha:vs[i]?=some v:=by
   unfold start at h2
   rw[Ate (by simpa using hi),Are] at h2
   cases e:vs[i]? with
   | none=>rw[e] at h2;cases h2
   | some a=>rw[e] at h2;cases h2;rfl
  obtain⟨u,hu,rv⟩:=r.get ha
  have hp:ps[i]?=some y:=by
   rw[←S.pre,List.getElem?_take_of_lt dkl];exact h1
  have ndP:ps.Nodup:=by rw[←S.pre];exact S.nd.sublist (List.take_sublist _ _)
  refine⟨u,rv,?_⟩
  rcases S.par y (Asf hp) with k|k
  · exact .inl ⟨k,uv ndP hp hu k⟩
  ·
   obtain⟨c,e⟩:=zk (n:=s.heap.objs.size+1) k
   refine .inr ⟨.inl k,c,e,?_⟩
   have q:=x.cell y c e
   rw[uz ndP hp hu (by show scope.names.lookup y≠_;rw[k];decide)] at q
   exact q
 · exact e0.hok.fresh (Atl (x.above y c (Asc h)))
 ·
  unfold start
  show _=N.length
  rw[Aqw,Aqv,List.length_replicate]
  lia
theorem Amp {cm:Bool}{CX:CXT}{P:Program}{w:World}{K:W.Frag}{mg:Str->Option Value}{base:Heap}{k:Nat}{f:Addr}{name qual:Str}{params:Arguments}{body:List Stmt}{scope:Scope}{dV kV doc pm cdv ct oc:Value}{an od:Option Addr}
  {osl:Array (Option Value)} {N ps:List Str} {sp:Sp} (lk:K.lookup f=some ⟨oc,od,.func (W.fnOf name qual params body scope dV kV doc pm an cdv ct),osl⟩) (hcd:W.codeIn K cdv qual=true) (S:Au N ps scope)
  (len:∀vs H Q E,sp vs H Q E->vs.length=ps.length)
  (hbody:∀(A:Around)(outer:List Env)(s:Shared)(H:Hp)(vs:List V)(Q:VK)(E:XK),Room cm k (A.deeper (envOfC qual scope s.heap.objs.size f cdv))->sp vs H Q E->
   ∃t,PSs (zz CX cm P w K mg base N qual scope f cdv A outer s H E) body t/\t {nx:=λ_ H'=>Q .non H',rt:=λ_=>Q} (start N vs) H):
  FnOk P w K mg base CX cm (k+1) f (W.fnOf name qual params body scope dV kV doc pm an cdv ct) ps sp:=by
 refine⟨len,λA outer s H args us vs Q E hr e0 hb r hsp=>?_⟩
 have hl:=len _ _ _ _ hsp
 have KX:K.In s.heap:=e0.mod.kin.keeps λb o e=>(e0.bs b o e).1
 have lim:s.heap.NoLimit:=e0.mod.nolimit.keeps λb o e=>(e0.bs b o e).1
 have hkind:∀y∈ps.zip us,scope.names.lookup y.1=some .local∨(scope.names.lookup y.1=some .cell/\((cellsFrom (s.heap.objs.size+1) scope.names []).lookup y.1).isSome=true):=λ⟨n,v⟩ hy=>by
  rcases S.par n (Auh hy).1 with q|q
  · exact .inl q
  · exact .inr ⟨q,W.cellsFrom_some _ _ _ (.inl q)⟩
 refine codeAny_call_function hr.depth (KX _ _ lk) rfl S.co S.gen rfl (W.codeRec_of KX hcd) (hb _ _ _ _ ?_)
 refine wpAny_newFunctionEnv_cells S.kind hkind λenv he s1 x=>?_
 subst he
 refine⟨lim.keeps x.toInCall.keep,codeAny_func ?_⟩
 obtain⟨t,ht,hq⟩:=hbody A outer s H vs Q E (hr.deeper _) hsp
 have I:Inv (zz CX cm P w K mg base N qual scope f cdv A outer s H E) [] (start N vs) H s1:=tj S hr.hd e0 hl r x
 refine Asp (ht [] s1 (start N vs) H _ I hq) (λfl s' hs=>?_) λe s' hs=>hs
 have fin:∀{σ':St}{H':Hp}{v:V}{u:Value},Inv (zz CX cm P w K mg base N qual scope f cdv A outer s H E) [] σ' H' s'->RelV v u->Q v H'->CE outer P w H s Q u s':=
  λ{σ' H' v u}J rv q=>⟨v,H',J.os,J.bare,J.base,J.hok,rv,q⟩
 cases fl with
 |
  ret u=>
  obtain⟨v,σ',H',J,rv,q⟩:=hs
  exact fin J rv q
 |
  next=>
  obtain⟨σ',H',J,q⟩:=hs
  exact fin (v:=V.non) (u:=Value.none) J rfl q
 |
  brk=>
  obtain⟨_,_,_,q⟩:=hs
  exact False.elim q
 |
  cont=>
  obtain⟨_,_,_,q⟩:=hs
  exact False.elim q
def tCB (r:List V->Hp->VK->Prop)(t:TA):TE:=λσ H Q=>t σ H λvs H1=>r vs H1 Q
def Bi {x:Str}{es:List Expr}{t:TA}{id:String}{r:List V->Hp->VK->Prop}(hc:Lc X (.builtin id) r)(hg:Gl X x)(hm:X.mg x=none)(hv:bootBuiltins x=some (.builtin id))(ha:PA X (e::es) t)(hn:x≠"__name__":=by decide)(hdb:(x==("__debug__":Str))=false:=by decide)
  (he:starEach (e::es) X.env=(false,eval e X.env)::starEach es X.env:=by rfl) (hpl:(backTo pos (starEach es X.env)).any (·.1)=false:=by rfl):PE X (.Call (.Name x p) (e::es) [] pos) (tCB r t):=by
 intro pins s σ H Q I h
 refine As2 (i7 I hg hm hv ?_ hn hdb)
 exact PyProof.Rows.callWith_builtin1 (thn (ha pos pins s σ H _ I h) λus s1 hz=>by obtain⟨vs,H1,I1,r1,q1⟩:=hz;exact hc pins s1 σ H1 vs us Q I1 r1 q1) he hpl
def K9 (hc:Lc X (.type T) r)(hg:Gl X x)(hm:X.mg x=none)(hv:bootBuiltins x=some (.type T))(ha:PA X (e::es) t)(hn:x≠"__name__":=by decide)(hdb:(x==("__debug__":Str))=false:=by decide)
  (he:starEach (e::es) X.env=(false,eval e X.env)::starEach es X.env:=by rfl) (hpl:(backTo pos (starEach es X.env)).any (·.1)=false:=by rfl):PE X (.Call (.Name x p) (e::es) [] pos) (tCB r t):=by
 intro pins s σ H Q I h
 refine As2 (i7 I hg hm hv ?_ hn hdb)
 exact As5 (thn (ha pos pins s σ H _ I h) λus s1 hz=>by obtain⟨vs,H1,I1,r1,q1⟩:=hz;exact hc pins s1 σ H1 vs us Q I1 r1 q1) he hpl
end L2
namespace HT
open PySem PyProof.Rows
section
open PySem.SeqAt
open PySem.AutoSeq1 (wpAny_loadPart')
open PySem.MeetsSeq PySem.MeetsSeq2 PySem.MeetsSeq3
end
variable {prog:Program}{w:World}{A:Around}{E:Value->Shared->Prop}{s:Shared}
def Ais (ht:IsTup s.heap t vs.toArray)(hb:IsTup s.heap b ws.toArray)(hv:vs≠[])
  (h1:ws=[]->Q (.ref t) s) (h2:ws≠[]->Q (.ref s.heap.objs.size) {s with heap:=s.heap.push {cls:=.type "tuple",data:=.seq (vs++ws).toArray}})
  (hsz:vs.length+ws.length<=sizeLine):wpAny (model prog w) A (binaryOp .Add (.ref t) (.ref b)) Q E s:=by
 obtain⟨⟨cls,dd,data,sl⟩,ho,hc,n,hd⟩:=id ht
 obtain⟨⟨cls2,dd2,data2,sl2⟩,ho2,hc2,n2,hd2⟩:=id hb
 simp only at hc hd hc2 hd2
 subst hc hd hc2 hd2
 have e:vs.toArray++ws.toArray=(vs++ws).toArray:=by simp
 by_cases hw:ws=[]
 ·
  exact concat_meets ⟨_,ho,rfl⟩ ⟨_,ho2,rfl⟩ noFill_tuple_add seq_tuple_add Avs Avk (Avg _ _)
   (tuple_addW1 t b vs.toArray ws.toArray n n2 dd dd2 sl sl2 (by simpa using hv) (by simp[hw])) ⟨ho,ho2,h1 hw⟩
 ·
  refine concat_meets ⟨_,ho,rfl⟩ ⟨_,ho2,rfl⟩ noFill_tuple_add seq_tuple_add Avs Avk (Avg _ _)
   (tuple_addW2 t b vs.toArray ws.toArray n n2 dd dd2 sl sl2 (by simpa using hv) (by simpa using hw) (by rw[Aq2,Aq2];exact hsz)) ⟨ho,ho2,?_⟩
  rw[e]
  exact h2 hw
def sIx (n d:Nat):Option Int->Nat
 | none=>d
 | some v=>if v<0 then(v+(n:Int)).toNat else min v.toNat n
def yl (n d k:Nat):sIx n d (some (k:Int))=min k n:=by
 show(if(k:Int)<0 then((k:Int)+(n:Int)).toNat else min (k:Int).toNat n)=min k n
 rw[if_neg dkl,Ar8]
theorem Ako (n d:Nat)(hd:d<=n)(o:Option Int):sIx n d o<=n:=by
 cases o with
 | none=>exact hd
 |
  some v=>
  show(if v<0 then(v+(n:Int)).toNat else min v.toNat n)<=n
  by_cases hv:v<0
  · rw[if_pos hv];lia
  · rw[if_neg hv];exact Awp _ _
def Ady (v:Int)(n d:Nat):(if v<0 then max (v+(n:Int)) 0 else min v (n:Int))=((sIx n d (some v):Nat):Int):=by
 show(if v<0 then max (v+(n:Int)) 0 else min v (n:Int))=(((if v<0 then(v+(n:Int)).toNat else min v.toNat n):Nat):Int)
 by_cases hv:v<0
 · simp only[if_pos hv];lia
 · simp only[if_neg hv];lia
def Abh (lo hi:Option Int)(n:Nat):Builtin.Slice.sliceAdjust lo hi 1 (n:Int)=(((sIx n 0 lo:Nat):Int),((sIx n n hi:Nat):Int)):=by
 have h1:¬((1:Int)<0):=by lia
 unfold Builtin.Slice.sliceAdjust
 simp only[h1,Av1]
 refine Prod.ext ?_ ?_
 ·
  cases lo with
  | none=>rfl
  | some v=>exact Ady v n 0
 ·
  cases hi with
  | none=>rfl
  | some v=>exact Ady v n n
def z7 (i j:Nat):Builtin.Slice.slicePlaces (i:Int) (j:Int) 1=j-i:=by
 unfold Builtin.Slice.slicePlaces
 have h1:(1:Int)>0:=by lia
 simp only[h1,if_true,Int.ediv_one]
 split<;>lia
theorem og (p:IsPart v o)(h:Q o s):wpAny (model prog w) A (Builtin.Slice.slicePartIndex v) Q E s:=by
 cases p with
 | none=>exact slicePart_none h
 | int i t=>exact slicePart_int h
def R5 {sl:Addr}{vl vu:Value}{lo hi:Option Int}{n:Nat}{Q:Int×Int×Nat->Shared->Prop}(hs:s.heap.IsSliceOf sl vl vu .none)(pl:IsPart vl lo)(pu:IsPart vu hi)
  (h:Q (((sIx n 0 lo:Nat):Int),1,sIx n n hi-sIx n 0 lo) s):wpAny (model prog w) A (Builtin.Slice.sliceApplied (.ref sl) (pure (n:Int))) Q E s:=by
 obtain⟨os,hos,hcs,hds⟩:=id hs
 unfold Builtin.Slice.sliceApplied Builtin.Slice.sliceFields
 refine Aqq (Aqq (Ase hos hds (x:=vl) rfl (Aqq (Ase hos hds (x:=vu) rfl (Aqq (Ase hos hds (x:=.none) rfl (Aqt ?_)))))))
 refine Aqq (slicePart_none ?_)
 show wpAny _ _ (if((1:Int)==0)=true then _ else _) _ _ s
 rw[if_neg dkd]
 refine Aqq (og pl (Aqq (og pu (Aqq (Aqt ?_)))))
 show wpAny _ _ (match Builtin.Slice.sliceAdjust lo hi 1 (n:Int) with|(lo,hi)=>pure (lo,(1:Int),Builtin.Slice.slicePlaces lo hi 1)) _ _ s
 rw[Abh lo hi n]
 show wpAny _ _ (pure (((sIx n 0 lo:Nat):Int),(1:Int),Builtin.Slice.slicePlaces ((sIx n 0 lo:Nat):Int) ((sIx n n hi:Nat):Int) 1)) _ _ s
 rw[z7]
 exact Aqt h
def Afl (xs:Array Value)(i k:Nat):((List.range k).filterMap λ(m:Nat)=>xs[((i:Int)+(m:Int)*1).toNat]?).toArray=((xs.toList.drop i).take k).toArray:=by
 have e:(λ(m:Nat)=>xs[((i:Int)+(m:Int)*1).toNat]?)=λm=>xs[i+m]?:=by
  funext m
  have:((i:Int)+(m:Int)*1).toNat=i+m:=by lia
  rw[this]
 rw[e]
 have:=pick_run xs i k
 rw[List.filterMap_map] at this
 have e2:((λx=>xs[x]?)∘ λx=>i+x)=λm=>xs[i+m]?:=rfl
 rw[e2] at this
 rw[this]
def Zc {t sl:Addr}{items:Array Value}{vl vu:Value}{lo hi:Option Int}{Q:Value->Shared->Prop}(ht:IsTup s.heap t items)(hs:s.heap.IsSliceOf sl vl vu .none)(pl:IsPart vl lo)(pu:IsPart vu hi)
  (hw:¬(sIx items.size 0 lo=0/\sIx items.size items.size hi=items.size))
  (h:Q (.ref s.heap.objs.size) {s with heap:=s.heap.push {cls:=.type "tuple",data:=.seq ((items.toList.drop (sIx items.size 0 lo)).take (sIx items.size items.size hi-sIx items.size 0 lo)).toArray}})
  (hsz:items.size<=sizeLine):wpAny (model prog w) A (getItem (.ref t) (.ref sl)) Q E s:=by
 have htake:sizeOk (.seq ((items.toList.drop (sIx items.size 0 lo)).take (sIx items.size items.size hi-sIx items.size 0 lo)).toArray):=by
  show((items.toList.drop (sIx items.size 0 lo)).take (sIx items.size items.size hi-sIx items.size 0 lo)).toArray.size<=sizeLine
  rw[Aq2,Ar4,Ast,Aqx]
  lia
 have hj:sIx items.size items.size hi<=items.size:=Ako _ _ (Aq0 _) hi
 obtain⟨os,hos,hcs,hds⟩:=id hs
 have hTs:s.TypeIs (.ref sl) "slice":=⟨os,hos,hcs⟩
 unfold getItem
 try with_reducible refine Asn ?_
 first|refine Aqq (Aqt ?_)|skip
 refine Aqq (wpAny_sequenceKey ht.typeIs dkd ?_)
 refine Aqq (wpAny_callSpecial?_slot (name:=Str.ofString "__getitem__") ht.typeIs Ath
  (Ar9 Ath ht.typeIs entry_tuple_getitem ?_ (args_tuple_getitem _ _)))
 show wpAny _ _ (Builtin.Tuple.tupleItemsOf (.ref t)>>=_) _ _ s
 refine Aqq (tupleItemsOf_ ht ?_)
 refine Aqq (Avp hTs ?_)
 rw[if_pos dkd]
 refine Aqq (R5 hs pl pu ?_)
 have hno:¬((((sIx items.size 0 lo:Nat):Int)==0&&(1:Int)==1&&(sIx items.size items.size hi-sIx items.size 0 lo)==items.size)=true):=by
  intro q
  rw[Aq9,Aq9] at q
  have q1:((sIx items.size 0 lo:Nat):Int)=0:=eq_of_beq q.1.1
  have q2:sIx items.size items.size hi-sIx items.size 0 lo=items.size:=eq_of_beq q.2
  exact hw ⟨dkl,dkl⟩
 show wpAny _ _ (if(((sIx items.size 0 lo:Nat):Int)==0&&(1:Int)==1&&(sIx items.size items.size hi-sIx items.size 0 lo)==items.size)=true then _ else _) _ _ s
 rw[if_neg hno,Afl]
 first
  | exact Aqq (m:=Builtin.Tuple.tupleExact _) (Ar2 (Aqt ⟨_,rfl,Aqt h⟩) htake)
  | exact Aqq (m:=Builtin.Tuple.tupleExact _) (Ar2 (Aqq (Aqt (Aqt ⟨_,rfl,Aqt h⟩))) htake)
  | exact Aqq (Aqq (m:=Builtin.Tuple.tupleExact _) (Ar2 (Aqt (Aqt ⟨_,rfl,Aqt h⟩)) htake))
  | exact Aqq (Aqq (m:=Builtin.Tuple.tupleExact _) (Ar2 (Aqt ⟨_,rfl,Aqt h⟩) htake))
end HT
namespace L2
open PySem PySem.Spec PyProof.Rows
abbrev TO:=St->Hp->(Option Int->Hp->Prop)->Prop
def PO (X:Cx)(e:Option Expr)(t:TO):Prop:=
 ∀(pins:List (Addr×Obj))(s:Shared)(σ:St)(H:Hp)(Q:Option Int->Hp->Prop),Inv X pins σ H s->t σ H Q->
  wpAny (model X.prog X.w) X.A (evalPart e X.env) (λu s'=>∃o H',Inv X pins σ H' s'/\IsPart u o/\Q o H') X.xe s
def Ajp:TO:=λ_ H Q=>Q none H
def Anw (t:TE):TO:=λσ H Q=>t σ H λx H1=>∃i,x=.int i/\Q (some i) H1
theorem intsAre_of:∀{us:List Value},Vals (ns.map V.int) us->IntsAre us ns:=by
 induction ns with
 | nil=>intro us r;rw[Auw] at r;cases r;exact .nil
 |
  cons n ns ih=>
  intro us r
  rw[Ar1] at r
  cases r with
  |
   cons r1 r2=>
   obtain⟨t,e⟩:=r1
   subst e
   exact .cons n t (ih r2)
variable {X:Cx}
def Ab7:PO X none Ajp:=by
 intro pins s σ H Q I h
 rw[evalPart_none]
 exact Aqt ⟨none,H,I,.none,h⟩
def qg (h:PE X e te):PO X (some e) (Anw te):=by
 intro pins s σ H Q I hw
 rw[evalPart_some]
 refine thn (h pins s σ H _ I hw) λu s1 hz=>?_
 obtain⟨x,H1,I1,r1,q1⟩:=hz
 obtain⟨i,rfl,q⟩:=q1
 obtain⟨t,rfl⟩:=r1
 exact⟨some i,H1,I1,.int i t,q⟩
def SlR (X:Cx)(r:V->Option Int->Option Int->Hp->VK->Prop):Prop:=
 ∀(pins:List (Addr×Obj))(s:Shared)(σ:St)(H:Hp)(x:V)(v vl vu:Value)(lo hi:Option Int)(sl:Addr)(Q:VK),Inv X pins σ H s->RelV x v->s.heap.IsSliceOf sl vl vu .none->IsPart vl lo->IsPart vu hi->r x lo hi H Q->
  ∃T id,typeLookup (.type T) "__getitem__"=pure (some (.builtin id))/\s.TypeIs v T/\wpAny (model X.prog X.w) X.A (getItem v (.ref sl)) (EP X pins σ Q) X.xe s
def tSl (r:V->Option Int->Option Int->Hp->VK->Prop)(te:TE)(tl th:TO):TE:=λσ H Q=>te σ H λx H1=>tl σ H1 λl H2=>th σ H2 λu H3=>r x l u H3 Q
def pv {e:Expr}{te:TE}{lo hi:Option Expr}{tl th:TO}{pos p2:Pos}{r:V->Option Int->Option Int->Hp->VK->Prop}(hr:SlR X r)(he:PE X e te)(hl:PO X lo tl)(hu:PO X hi th):PE X (.Subscript e (.Slice lo hi none p2) pos) (tSl r te tl th):=by
 intro pins s σ H Q I h
 refine Subscript_ (thn (he pins s σ H _ I h) λv s1 hz=>?_)
 obtain⟨x,H1,I1,r1,q1⟩:=hz
 refine wpAny_Slice (thn (hl pins s1 σ H1 _ I1 q1) λvl s2 ⟨l,H2,I2,pl,q2⟩=>thn (hu pins s2 σ H2 _ I2 q2) λvu s3 hz=>?_)
 obtain⟨u,H3,I3,pu,q3⟩:=hz
 rw[evalPart_none]
 refine Aqt ?_
 have I4:Inv X pins σ H3 {s3 with heap:=s3.heap.push {cls:=.type "slice",data:=.fields #[vl,vu,.none]}}:=I3.kept (t':=s3.toks) λb ob q=>Aqr _ q
 obtain⟨T,id,hT,ht,hg⟩:=hr pins {s3 with heap:=s3.heap.push {cls:=.type "slice",data:=.fields #[vl,vu,.none]}} σ H3 x v vl vu l u s3.heap.objs.size Q I4 r1 (Heap.IsSliceOf.new ..) pl pu q3
 show wpAny (model X.prog X.w) X.A (subscriptTail e (.Slice lo hi none p2) v (.ref s3.heap.objs.size)) (EP X pins σ Q) X.xe {s3 with heap:=s3.heap.push {cls:=.type "slice",data:=.fields #[vl,vu,.none]}}
 exact tail_any (ops:=[.ref s3.heap.objs.size,v]) ht hT hg (by with_unfolding_all rfl)
def Aba (xs:List V)(lo hi:Option Int):List V:=(xs.drop (HT.sIx xs.length 0 lo)).take (HT.sIx xs.length xs.length hi-HT.sIx xs.length 0 lo)
def xb (xs:List V)(lo hi:Option Int):(Aba xs lo hi).length<=xs.length:=by
 unfold Aba
 rw[Ar4,Ast]
 lia
def Ao9 (K:W.Frag):V->Option Int->Option Int->Hp->VK->Prop:=λx lo hi H Q=>∃a xs,x=.ref a/\SqT K H a xs/\
 ¬(HT.sIx xs.length 0 lo=0/\HT.sIx xs.length xs.length hi=xs.length)/\∀p,H p=none->Q (.ref p) (upd H p (.tup (Aba xs lo hi)))
def Ag9:SlR X (Ao9 X.K):=by
 intro pins s σ H x v vl vu lo hi sl Q I rx hs pl pu h
 obtain⟨a,xs,rfl,hx,hw,q⟩:=h
 cases rx
 obtain⟨its,r,ht,hz⟩:=I.tuple hx
 have hlen:its.toArray.size=xs.length:=by rw[Aq2];exact r.length.symm
 refine⟨"tuple",_,PyProof.Rows.slot_tuple_getitem.lookup,ht.typeIs,?_⟩
 refine HT.Zc ht hs pl pu (by rw[hlen];exact hw) ?_ (by rw[hlen];exact hz)
 rw[hlen]
 refine⟨.ref s.heap.objs.size,_,I.laid (t':=s.toks) (o:=.tup (Aba xs lo hi)) (λb ob q=>Aqr _ q) (Aq0 _) ?_,rfl,q _ (I.hok.fresh (Aq0 _))⟩
 exact⟨Aq3 (xb xs lo hi) hz,_,(r.drop (HT.sIx xs.length 0 lo)).take (HT.sIx xs.length xs.length hi-HT.sIx xs.length 0 lo),IsTup.new _ _⟩
def Ana (K:W.Frag):R2:=λx y H Q=>∃a b xs ys,x=.ref a/\y=.ref b/\SqT K H a xs/\SqT K H b ys/\xs≠[]/\xs.length+ys.length<=sizeLine/\
 (ys=[]->Q (.ref a) H)/\(ys≠[]->∀p,H p=none->Q (.ref p) (upd H p (.tup (xs++ys))))
theorem Vals.nil_iff (r:Vals xs us):us=[]↔xs=[]:=by
 cases r with
 | nil=>simp
 | cons _ _=>simp
def Ai1:OpR X (binaryOp .Add) (Ana X.K):=by
 intro pins s σ H x y v u Q I rx ry h
 obtain⟨a,b,xs,ys,rfl,rfl,ha,hb,hx,hz,q1,q2⟩:=h
 cases rx
 cases ry
 obtain⟨its,r1,p1,_⟩:=I.tuple ha
 obtain⟨its2,r2,p2,_⟩:=I.tuple hb
 refine HT.Ais p1 p2 (λz=>hx (r1.nil_iff.mp z)) (λz=>⟨.ref a,H,I,rfl,q1 (r2.nil_iff.mp z)⟩) (λz=>?_) (by rw[←r1.length,←r2.length];exact hz)
 refine⟨.ref s.heap.objs.size,_,I.laid (t':=s.toks) (o:=.tup (xs++ys)) (λb ob q=>Aqr _ q) (Aq0 _) ?_,rfl,q2 (λw=>z (r2.nil_iff.mpr w)) _ (I.hok.fresh (Aq0 _))⟩
 exact⟨by rw[Aqw];exact hz,_,r1.append r2,IsTup.new _ _⟩
def ixN (n:Nat)(i:Int):Option Nat:=if 0<=i then(if i<n then some i.toNat else none) else if-(n:Int)<=i then some (i+n).toNat else none
def atI {α:Type}(xs:List α)(i:Int):Option α:=(ixN xs.length i).bind λj=>xs[j]?
def Aiv (h:ixN n i=some j):seqIndex? i n=some j/\j<n/\ -(n:Int)<=i/\i<n:=by
 unfold ixN at h
 by_cases h0:0<=i
 ·
  rw[if_pos h0] at h
  by_cases h1:i<n
  ·
   rw[if_pos h1] at h
   have e:i.toNat=j:=Arl h
   exact⟨by rw[seqIndex_of h0 h1,e],dkl,dkl,h1⟩
  · rw[if_neg h1] at h;cases h
 ·
  rw[if_neg h0] at h
  by_cases h1: -(n:Int)<=i
  ·
   rw[if_pos h1] at h
   have e:(i+n).toNat=j:=Arl h
   exact⟨by rw[seqIndex_neg dkl h1,e],dkl,h1,dkl⟩
  · rw[if_neg h1] at h;cases h
theorem Aey (h:atI xs i=some v):∃j,seqIndex? i xs.length=some j/\xs[j]?=some v/\j<xs.length/\ -(xs.length:Int)<=i/\i<xs.length:=by
 unfold atI at h
 cases e:ixN xs.length i with
 | none=>rw[e] at h;cases h
 |
  some j=>
  rw[e] at h
  obtain⟨h1,h2,h3,h4⟩:=Aiv e
  exact⟨j,h1,h,h2,h3,h4⟩
def Ow {α:Type}{xs:List α}{j:Nat}{v:α}(h:xs[j]?=some v):atI xs (j:Int)=some v:=by
 have hj:j<xs.length:=(Aq5.mp h).1
 have e:ixN xs.length (j:Int)=some j:=by
  unfold ixN
  rw[if_pos dkl,if_pos dkl];simp
 unfold atI;rw[e];exact h
def xc (b:Expr):Prop:=∀o i,subscripted b false o i=operate [o,i] (getItem o i)
def IxR (X:Cx)(r:R2):Prop:=
 ∀(value slice:Expr)(pins:List (Addr×Obj))(s:Shared)(σ:St)(H:Hp)(x y:V)(v u:Value)(Q:VK),Inv X pins σ H s->RelV x v->RelV y u->r x y H Q->
  subscripted slice false v u=operate [v,u] (getItem v u)->wpAny (model X.prog X.w) X.A (subscriptTail value slice v u) (EP X pins σ Q) X.xe s
def MtR (X:Cx)(id:String)(r:V->List V->Hp->VK->Prop):Prop:=
 ∀(pins:List (Addr×Obj))(s:Shared)(σ:St)(H:Hp)(x:V)(xs:List V)(v:Value)(us:List Value)(Q:VK),Inv X pins σ H s->RelV x v->Vals xs us->r x xs H Q->
  wpAny (model X.prog X.w) X.A (call (.builtin id) (v::us)) (EP X pins σ Q) X.xe s
def sv (hr:IxR X r)(ha:PE X a ta)(hb:PE X b tb)(hs:xc b):PE X (.Subscript a b pos) (tOp r ta tb):=by
 intro pins s σ H Q I h
 exact Subscript_ (An5 ha hb I h λv u s2 x y H2 I2 rx ry q=>hr a b pins s2 σ H2 x y v u Q I2 rx ry q (hs _ _))
def Ao7 (K:W.Frag):R2:=λx y H Q=>∃p xs i v,x=.ref p/\y=.int i/\SqL K H p xs/\atI xs i=some v/\Q v H
def Ape (K:W.Frag):R2:=λx y H Q=>∃p xs i v,x=.ref p/\y=.int i/\SqT K H p xs/\atI xs i=some v/\Q v H
def Aik:IxR X (Ao7 X.K):=by
 intro value slice pins s σ H x y v u Q I rx ry h hs
 obtain⟨p,xs,i,z,rfl,rfl,hq,he,q⟩:=h
 cases rx
 obtain⟨t,rfl⟩:=ry
 obtain⟨its,r,pl,hz⟩:=I.list hq
 obtain⟨j,h1,h2,h3,h4,h5⟩:=Aey he
 obtain⟨w,ew,rw'⟩:=r.get h2
 have hl:=r.length
 have hn:=yv
 have fin:EP X pins σ Q w s:=⟨z,H,I,rw',q⟩
 by_cases h0:0<=i
 ·
  have hj:i.toNat=j:=by
   rw[seqIndex_of h0 h5] at h1
   exact Arl h1
  exact item_listR pl.isList h0 dkl (by rw[hj];simpa using ew) fin hs
 ·
  have hj:(i+(its.toArray.size:Int)).toNat=j:=by
   rw[seqIndex_neg dkl h4] at h1
   rw[Aq2,←hl]
   exact Arl h1
  exact subscriptTail_builtinR (x:=w) pl.isList.typeIs slot_list_getitem.lookup
   (wpAny_getItem_list_neg (Q:=λr s'=>r=w/\EP X pins σ Q r s') pl.isList dkl (by rw[Aq2]<;>lia) dkl (by rw[hj];simpa using ew) ⟨rfl,fin⟩) hs
def Ak2:IxR X (Ape X.K):=by
 intro value slice pins s σ H x y v u Q I rx ry h hs
 obtain⟨p,xs,i,z,rfl,rfl,hq,he,q⟩:=h
 cases rx
 obtain⟨t,rfl⟩:=ry
 obtain⟨its,r,pl,hz⟩:=I.tuple hq
 obtain⟨j,h1,h2,h3,h4,h5⟩:=Aey he
 obtain⟨w,ew,rw'⟩:=r.get h2
 have hl:=r.length
 have hn:=yv
 have fin:EP X pins σ Q w s:=⟨z,H,I,rw',q⟩
 exact subscriptTail_builtinR (x:=w) pl.typeIs slot_tuple_getitem.lookup
  (getItem_tuple (j:=j) (Q:=λr s'=>r=w/\EP X pins σ Q r s') pl dkl dkl (by rw[Aq2,←hl];exact h1) (by simpa using ew) ⟨rfl,fin⟩) hs
def qh:V->Bool
 | .non=>true
 | .bl _=>true
 | .int _=>true
 | .str _=>true
 | _=>false
def eqV:V->V->Bool
 | .non,.non=>true
 | .bl a,.bl b=>a==b
 | .bl a,.int b=>(if a then 1 else 0)==b
 | .int a,.bl b=>a==(if b then 1 else 0)
 | .int a,.int b=>a==b
 | .str a,.str b=>a==b
 | _,_=>false
theorem Aky (ry:RelV y u)(rx:RelV x v)(fy:qh y=true)(fx:qh x=true):SeqAt.EqAt A s u v (eqV y x):=by
 cases y with
 |
  non=>
  cases ry
  cases x with
  | non=>cases rx;exact SeqAt.EqAt.same _
  | bl b=>cases rx;exact SeqAt.EqAt.none_bool b
  | int b=>obtain⟨t,rfl⟩:=rx;exact SeqAt.EqAt.none_int b t
  | str b=>obtain⟨t,rfl⟩:=rx;exact SeqAt.EqAt.none_str b t
  | _=>exact absurd (show false=true from fx) Arj
 |
  bl a=>
  cases ry
  cases x with
  | non=>cases rx;exact SeqAt.EqAt.bool_none a
  | bl b=>cases rx;exact SeqAt.EqAt.bool_bool a b
  | int b=>obtain⟨t,rfl⟩:=rx;exact SeqAt.EqAt.bool_int a b t
  | str b=>obtain⟨t,rfl⟩:=rx;exact SeqAt.EqAt.bool_str a b t
  | _=>exact absurd (show false=true from fx) Arj
 |
  int a=>
  obtain⟨t',rfl⟩:=ry
  cases x with
  | non=>cases rx;exact SeqAt.EqAt.int_none a t'
  | bl b=>cases rx;exact SeqAt.EqAt.int_bool a t' b
  | int b=>obtain⟨t,rfl⟩:=rx;exact SeqAt.EqAt.int_int a t' b t
  | str b=>obtain⟨t,rfl⟩:=rx;exact SeqAt.EqAt.int_str a t' b t
  | _=>exact absurd (show false=true from fx) Arj
 |
  str a=>
  obtain⟨t',rfl⟩:=ry
  cases x with
  | non=>cases rx;exact SeqAt.EqAt.str_none a t'
  | bl b=>cases rx;exact SeqAt.EqAt.str_bool a t' b
  | int b=>obtain⟨t,rfl⟩:=rx;exact SeqAt.EqAt.str_int a t' b t
  | str b=>obtain⟨t,rfl⟩:=rx;exact SeqAt.EqAt.str_str a t' b t
  | _=>exact absurd (show false=true from fx) Arj
 | _=>exact absurd (show false=true from fy) Arj
def eqU (x:V)(u:Value):Bool:=match u with
 | .none=>eqV .non x
 | .bool b=>eqV (.bl b) x
 | .int i _=>eqV (.int i) x
 | .str z _=>eqV (.str z) x
 | _=>false
theorem Ahj (r:RelV y u)(f:qh y=true):eqU x u=eqV y x:=by
 cases y with
 | non=>cases r;rfl
 | bl b=>cases r;rfl
 | int i=>obtain⟨t,rfl⟩:=r;rfl
 | str z=>obtain⟨t,rfl⟩:=r;rfl
 | _=>exact absurd (show false=true from f) Arj
theorem iu:∀{xs:List V}{us:List Value},Vals xs us->xs.all qh=true->us.any (eqU x)=xs.any λy=>eqV y x
 | _,_,.nil,_=>rfl
 |
  y::xs,u::us,.cons r t,f=>by
  rw[List.all_cons,Aq9] at f
  rw[Au1,Au1,Ahj r f.1,iu t f.2]
theorem Wq (rx:RelV x v)(fx:qh x=true):∀{xs:List V}{us:List Value},Vals xs us->xs.all qh=true->∀u∈us,SeqAt.EqAt A s u v (eqU x u)
 | _,_,.nil,_=>λu hu=>by cases hu
 |
  y::xs,u::us,.cons r t,f=>λu' hu=>by
  rw[List.all_cons,Aq9] at f
  rcases Ara.mp hu with rfl|hu
  · rw[Ahj r f.1];exact Aky r rx f.1 fx
  · exact Wq rx fx t f.2 u' hu
def inV (x:V)(xs:List V):Bool:=xs.any λy=>eqV y x
def rIn (K:W.Frag)(neg:Bool):R2:=λx y H Q=>∃p xs,y=.ref p/\(SqL K H p xs∨SqT K H p xs)/\qh x=true/\xs.all qh=true/\Q (.bl (if neg then !inV x xs else inV x xs)) H
def Aeu:OpR X (compareOp .In) (rIn X.K false):=by
 intro pins s σ H x y v u Q I rx ry h
 obtain⟨p,xs,rfl,hq,fx,fs,q⟩:=h
 cases ry
 rcases hq with hq|hq
 ·
  obtain⟨its,r,pl,hz⟩:=I.list hq
  refine SeqAt.in_listAt (eqU x) pl.isList (λw hw=>Wq rx fx r fs w (by simpa using hw)) ⟨.bl _,H,I,rfl,?_⟩
  rw[show its.toArray.any (eqU x)=its.any (eqU x) by simp,iu r fs]
  exact q
 ·
  obtain⟨its,r,pl,hz⟩:=I.tuple hq
  refine SeqAt.in_tupleAt (eqU x) pl (λw hw=>Wq rx fx r fs w (by simpa using hw)) ⟨.bl _,H,I,rfl,?_⟩
  rw[show its.toArray.any (eqU x)=its.any (eqU x) by simp,iu r fs]
  exact q
def rp:OpR X (compareOp .NotIn) (rIn X.K true):=by
 intro pins s σ H x y v u Q I rx ry h
 obtain⟨p,xs,rfl,hq,fx,fs,q⟩:=h
 cases ry
 rcases hq with hq|hq
 ·
  obtain⟨its,r,pl,hz⟩:=I.list hq
  refine SeqAt.notIn_listAt (eqU x) pl.isList (λw hw=>Wq rx fx r fs w (by simpa using hw)) ⟨.bl _,H,I,rfl,?_⟩
  rw[show its.toArray.any (eqU x)=its.any (eqU x) by simp,iu r fs]
  exact q
 ·
  obtain⟨its,r,pl,hz⟩:=I.tuple hq
  refine SeqAt.notIn_tupleAt (eqU x) pl (λw hw=>Wq rx fx r fs w (by simpa using hw)) ⟨.bl _,H,I,rfl,?_⟩
  rw[show its.toArray.any (eqU x)=its.any (eqU x) by simp,iu r fs]
  exact q
def ui:Lc X (.builtin "len") (λxs H Q=>∃p ys,xs=[.ref p]/\(SqL X.K H p ys∨SqT X.K H p ys)/\Q (.int ys.length) H):=by
 intro pins s σ H xs us Q I r h
 obtain⟨p,ys,rfl,hq,q⟩:=h
 obtain⟨u,rfl,rx⟩:=vals1 r
 cases rx
 have hn:=yv
 rcases hq with hq|hq
 ·
  obtain⟨its,r',pl,hz⟩:=I.list hq
  have hlen:=r'.length
  exact Calls.call_len_list pl.isList (by simp only[Aq2]<;>lia) ⟨.int ys.length,H,I.tok _,⟨s.toks+1,by rw[Aq2,hlen]⟩,q⟩
 ·
  obtain⟨its,r',pl,hz⟩:=I.tuple hq
  have hlen:=r'.length
  exact len_tuple pl (by simp only[Aq2]<;>lia) ⟨.int ys.length,H,I.tok _,⟨s.toks+1,by rw[Aq2,hlen]⟩,q⟩
def uq:Lc X (.type "list") (λxs H Q=>∃p ys,xs=[.ref p]/\(SqL X.K H p ys∨SqT X.K H p ys)/\∀l,H l=none->Q (.ref l) (upd H l (.lst ys))):=by
 intro pins s σ H xs us Q I r h
 obtain⟨p,ys,rfl,hq,q⟩:=h
 obtain⟨u,rfl,rx⟩:=vals1 r
 cases rx
 have fin:∀(its:List Value),Vals ys its->ys.length<=sizeLine->∀(h':Heap)(c':Nat),(∀b o',s.heap.get? b=some o'->h'.get? b=some o')->
   h'.get? s.heap.objs.size=some {cls:=.type "list",dict:=none,data:=.seq its.toArray c',slots:=#[]}->EP X pins σ Q (.ref s.heap.objs.size) {s with heap:=h'}:=λits r' hz h' c' kp e=>
  ⟨.ref s.heap.objs.size,_,I.laid (t':=s.toks) kp (Aq0 _) (show ObjOk X.prog X.w _ h' _ (.lst ys) from ⟨hz,its,c',r',e⟩),rfl,q _ (I.hok.fresh (Aq0 _))⟩
 rcases hq with hq|hq
 ·
  obtain⟨its,r',pl,hz⟩:=I.list hq
  have hlen:=r'.length
  obtain⟨o,ho,hc,n,hd⟩:=pl.isList
  exact call_list_seq p (.inl rfl) ho hc hd (λh' c' kp e=>fin its r' hz h' c' kp e) (by simp only[Aq2]<;>lia)
 ·
  obtain⟨its,r',pl,hz⟩:=I.tuple hq
  have hlen:=r'.length
  obtain⟨o,ho,hc,n,hd⟩:=pl
  exact call_list_seq p (.inr rfl) ho hc hd (λh' c' kp e=>fin its r' hz h' c' kp e) (by simp only[Aq2]<;>lia)
def rb:Lc X (.type "tuple") (λxs H Q=>∃p ys,xs=[.ref p]/\((SqL X.K H p ys/\∀l,H l=none->Q (.ref l) (upd H l (.tup ys)))∨(SqT X.K H p ys/\Q (.ref p) H))):=by
 intro pins s σ H xs us Q I r h
 obtain⟨p,ys,rfl,h⟩:=h
 obtain⟨u,rfl,rx⟩:=vals1 r
 cases rx
 rcases h with⟨hq,q⟩|⟨hq,q⟩
 ·
  obtain⟨its,r',pl,hz⟩:=I.list hq
  have hlen:=r'.length
  refine call_tuple_list pl.isList (λh' kp=>?_) (by simp only[Aq2]<;>lia)
  have I1:Inv X pins σ H {s with heap:=h'}:=I.kept (t':=s.toks) kp
  have I2:Inv X pins σ (upd H h'.objs.size (.tup ys)) {s with heap:=h'.push {cls:=.type "tuple",data:=.seq its.toArray}}:=
   I1.laid (t':=s.toks) (λb o e=>Aqr _ e) (Aq0 _) (show ObjOk X.prog X.w _ _ _ (.tup ys) from ⟨hz,its,r',IsTup.new _ _⟩)
  exact⟨.ref h'.objs.size,_,I2,rfl,q _ (I1.hok.fresh (Aq0 _))⟩
 ·
  obtain⟨its,r',pl,hz⟩:=I.tuple hq
  exact call_tuple_same pl ⟨.ref p,H,I,rfl,q⟩
def tyV (K:W.Frag)(T:String)(x:V)(H:Hp):Prop:=match x with
 | .str _=>T="str"
 | .int _=>T="int"
 | .ref p=>(T="list"/\∃xs,SqL K H p xs)∨(T="tuple"/\∃o,K.lookup p=some o/\o.cls=.type "tuple"/\o.dict=none)∨
  (T="dict"/\((∃kvs,H p=some (.dK kvs))∨∃kvs,H p=some (.dT kvs)))∨(T="set"/\∃S n,H p=some (.set S n))
 | _=>False
theorem Ahc (I:Inv X pins σ H s)(r:RelV x v)(ty:tyV X.K T x H):
  s.TypeIs v T/\∀a,v=.ref a->∃ob,s.heap.get? a=some ob/\ob.dict=none:=by
 cases x with
 |
  str z=>
  obtain⟨t,rfl⟩:=r
  cases (show T="str" from ty)
  exact⟨typeIs_str s z t,λ_ e=>nomatch e⟩
 |
  int i=>
  obtain⟨t,rfl⟩:=r
  cases (show T="int" from ty)
  exact⟨typeIs_int s i t,λ_ e=>nomatch e⟩
 |
  ref p=>
  cases r
  rcases ty with⟨rfl,xs,hq⟩|⟨rfl,o,hk,hc,hd⟩|⟨rfl,hk⟩|⟨rfl,S,n,hk⟩
  ·
   obtain⟨its,_,pl,_⟩:=I.list hq
   refine⟨pl.isList.typeIs,λa e=>?_⟩
   cases e
   obtain⟨o,n,e,c,hd,_⟩:=pl
   exact⟨o,e,hd⟩
  ·
   refine⟨⟨o,I.kIn p o hk,hc⟩,λa e=>?_⟩
   cases e
   exact⟨o,I.kIn _ o hk,hd⟩
  ·
   have z:∃o,s.heap.get? p=some o/\o.ExactDict:=by
    rcases hk with⟨kvs,hk⟩|⟨kvs,hk⟩
    ·
     obtain⟨_,_,_,_,o,_,_,e,ex,_⟩:=I.hok p _ hk
     exact⟨o,e,ex⟩
    ·
     obtain⟨_,_,_,_,o,_,_,e,ex,_⟩:=I.hok p _ hk
     exact⟨o,e,ex⟩
   obtain⟨o,e,ex⟩:=z
   refine⟨⟨o,e,ex.1⟩,λa e2=>?_⟩
   cases e2
   exact⟨o,e,ex.2.1⟩
  ·
   obtain⟨o,_,_,_,e,ex,_⟩:=I.hok p _ hk
   refine⟨⟨o,e,ex.1⟩,λa e2=>?_⟩
   cases e2
   exact⟨o,e,ex.2.1⟩
 | _=>exact False.elim ty
def Aqp (K:W.Frag)(T:String)(r:V->List V->Hp->VK->Prop)(to:TE):TE:=λσ H Q=>to σ H λx H1=>tyV K T x H1/\r x [] H1 Q
def tBM (K:W.Frag)(T:String)(r:V->List V->Hp->VK->Prop)(to:TE)(t:TA):TE:=λσ H Q=>to σ H λx H1=>tyV K T x H1/\t σ H1 λxs H2=>r x xs H2 Q
def Amf {o:Expr}{to:TE}{name:Str}{T id:String}{r:V->List V->Hp->VK->Prop}(pa:PlainAttrs T)(slot:Slot T name id)(hty:typeOf (.builtin id)=pure (.type "method_descriptor"))(hm:MtR X id r)(ho:PE X o to)
  (hbase:attributeBase o name X.env (eval o X.env)=eval o X.env:=by rfl) (hline:(apos.endLine==cpos.line)=true:=by rfl):PE X (.Call (.Attribute o name apos) [] [] cpos) (Aqp X.K T r to):=by
 intro pins s σ H Q I h
 refine wpAny_Call_method0_late hbase hline (thn (ho pins s σ H _ I h) λv s1 hz=>?_)
 obtain⟨x,H1,I1,r1,ty,q1⟩:=hz
 obtain⟨h1,h2⟩:=Ahc I1 r1 ty
 exact⟨T,id,pa,slot,hty,h1,h2,Calls.callWith_builtin rfl (PySem.evalArgs_none (hm pins s1 σ H1 x [] v [] Q I1 r1 .nil q1))⟩
def Ane {o:Expr}{es:List Expr}{to:TE}{t:TA}{name:Str}{T id:String}{r:V->List V->Hp->VK->Prop}(pa:PlainAttrs T)(slot:Slot T name id)(hty:typeOf (.builtin id)=pure (.type "method_descriptor"))(hm:MtR X id r)(ho:PE X o to)(ha:PA X (e::es) t)
  (hbase:attributeBase o name X.env (eval o X.env)=eval o X.env:=by rfl)
  (hfew:((backTo cpos (starEach (e::es) X.env)).all (λx=>!x.1)&&(backToKw cpos (keywordEach [] X.env)).all (λx=>x.1.isSome)
   &&decide ((e::es).length+([]:List Keyword).length+(if([]:List Keyword).isEmpty then 0 else 1)<30))=true:=by rfl)
  (hline:(apos.endLine==cpos.line)=true:=by rfl) (hs:starEach (e::es) X.env=(false,eval e X.env)::starEach es X.env:=by rfl) (hplain:(backTo cpos (starEach es X.env)).any (·.1)=false:=by rfl):
  PE X (.Call (.Attribute o name apos) (e::es) [] cpos) (tBM X.K T r to t):=by
 intro pins s σ H Q I h
 refine wpAny_Call_method_late hbase hfew hline rfl (thn (ho pins s σ H _ I h) λv s1 hz=>?_)
 obtain⟨x,H1,I1,r1,ty,q1⟩:=hz
 obtain⟨h1,h2⟩:=Ahc I1 r1 ty
 refine⟨T,id,pa,slot,hty,h1,h2,?_⟩
 have hA:=ha cpos pins s1 σ H1 _ I1 q1
 rw[hs] at hA ⊢
 refine Calls.callWith_builtin (by show(false||(backTo cpos (starEach es X.env)).any (·.1))=false;rw[hplain]<;>rfl) (Calls.evalArgs_plain ?_)
 exact thn hA λus s2 hz=>by obtain⟨vs,H2,I2,r2,q2⟩:=hz;exact hm pins s2 σ H2 x vs v us Q I2 r1 r2 q2
def MtM (X:Cx)(id:String)(r:V->List V->Hp->VK->Prop):Prop:=
 ∀(pins:List (Addr×Obj))(s:Shared)(σ:St)(H:Hp)(x:V)(xs:List V)(v:Value)(us:List Value)(Q:VK),Inv X pins σ H s->RelV x v->Vals xs us->r x xs H Q->
  wpAny (model X.prog X.w) X.A (call (.builtin id) (v::us)) (EP X pins σ Q) X.xe s
theorem Vals.one (h:Vals [x] us):∃u,us=[u]/\RelV x u:=by
 cases h with
 | cons r t=>cases t;exact⟨_,rfl,r⟩
theorem Vals.two (h:Vals [x,y] us):∃u v,us=[u,v]/\RelV x u/\RelV y v:=by
 cases h with
 |
  cons r t=>
  obtain⟨v,rfl,q⟩:=Vals.one t
  exact⟨_,_,rfl,r,q⟩
theorem Vals.zero:∀{us:List Value},Vals [] us->us=[]
 | _,.nil=>rfl
variable {pins:List (Addr×Obj)}{σ:St}{H:Hp}{s:Shared}
def Inv.lset {l:Addr}{xs ys:List V}{its its':List Value}{n:Nat}{f:Array Value->Array Value}{t':Nat}(I:Inv X pins σ H s)(hH:H l=some (.lst xs))
  (e:s.heap.get? l=some {cls:=.type "list",data:=.seq its.toArray n}) (hf:f its.toArray=its'.toArray) (hv:Vals ys its') (hz:ys.length<=sizeLine):
  Inv X pins σ (upd H l (.lst ys)) {s with heap:=s.heap.update l (Obj.mapSeq f),toks:=t'}:=by
 have q:=PySem.IsL.update e f
 rw[hf] at q
 refine I.write (x:=l) (e:=l) (by rw[hH];exact trivial) (.inl rfl) (λb' u hb hu=>(Av5 s.heap (Obj.mapSeq f) (Avl hb)).trans hu) ⟨_,q⟩ ?_
 exact⟨hz,its',_,hv,q⟩
def Inv.lnew (I:Inv X pins σ H s)(hv:Vals ys its)(hz:ys.length<=sizeLine):
  Inv X pins σ (upd H s.heap.objs.size (.lst ys)) {s with heap:=s.heap.push {cls:=.type "list",data:=.seq its.toArray},toks:=t'}:=
 I.laid (λ_ _ q=>Aqr _ q) (Aq0 _) ⟨hz,its,0,hv,Aq1 _ rfl⟩
theorem Inv.fresh (I:Inv X pins σ H s):H s.heap.objs.size=none:=I.hok.fresh (Aq0 _)
def Inv.lstM (I:Inv X pins σ H s)(hH:H l=some (.lst xs)):xs.length<=sizeLine/\∃(its:List Value)(n:Nat),Vals xs its/\xs.length=its.length/\s.heap.get? l=some {cls:=.type "list",data:=.seq its.toArray n}:=by
 obtain⟨z,its,n,r,e⟩:=I.hok l _ hH
 exact⟨z,its,n,r,r.length,e⟩
def Ail:V->List V->Hp->VK->Prop:=λx vs H Q=>∃l xs y,x=.ref l/\vs=[y]/\H l=some (.lst xs)/\xs.length<sizeLine/\Q .non (upd H l (.lst (xs++[y])))
def gz:MtM X "list.append" Ail:=by
 intro pins s σ H x vs v us Q I rx rv h
 obtain⟨l,xs,y,rfl,rfl,hH,hz,q⟩:=h
 cases rx
 obtain⟨u,rfl,ru⟩:=rv.one
 obtain⟨z,its,n,r,hl,e⟩:=I.lstM hH
 refine call_meets F.slot_list_append ⟨_,e,rfl⟩ F.entry_list_append (F.args_list_append_2 _ _) (PySem.list_append l its.toArray n u (by rw[Aq2];lia)) ⟨e,?_⟩
 refine⟨.non,_,I.lset (its':=its++[u]) hH e dks (r.append (.cons ru .nil)) ?_,rfl,q⟩
 rw[Aqw,List.length_singleton]
 lia
def Alp:V->List V->Hp->VK->Prop:=λx vs H Q=>∃l xs,x=.ref l/\vs=[]/\H l=some (.lst xs)/\Q .non (upd H l (.lst []))
def Agf:MtM X "list.clear" Alp:=by
 intro pins s σ H x vs v us Q I rx rv h
 obtain⟨l,xs,rfl,rfl,hH,q⟩:=h
 cases rx
 have hus:=rv.zero
 subst hus
 obtain⟨z,its,n,r,hl,e⟩:=I.lstM hH
 refine call_meets F.slot_list_clear ⟨_,e,rfl⟩ F.entry_list_clear (F.args_list_clear_1 _) (AutoSeq1.list_clear_list_0 l its.toArray n (by rw[Aq2];lia)) ⟨e,?_⟩
 exact⟨.non,_,I.lset (its':=[]) (ys:=[]) hH e rfl .nil (Ar3 _),rfl,q⟩
def Apr:R2:=λx y H Q=>∃l b xs zs,x=.ref l/\y=.ref b/\H l=some (.lst xs)/\H b=some (.lst zs)/\xs.length+zs.length<=sizeLine/\∀p,H p=none->Q (.ref p) (upd H p (.lst (xs++zs)))
def zl:OpR X (binaryOp .Add) Apr:=by
 intro pins s σ H x y v u Q I rx ry h
 obtain⟨l,b,xs,zs,rfl,rfl,hH,hB,hz,q⟩:=h
 cases rx
 cases ry
 obtain⟨z,its,n,r,hl,e⟩:=I.lstM hH
 obtain⟨z2,its2,n2,r2,hl2,e2⟩:=I.lstM hB
 refine PySem.P.add_list e e2 ?_ (by rw[Aq2,Aq2];lia)
 have ea:its.toArray++its2.toArray=(its++its2).toArray:=by simp
 rw[ea]
 exact⟨.ref _,_,I.lnew (t':=s.toks) (r.append r2) (by rw[Aqw];lia),rfl,q _ I.fresh⟩
variable {prog:Program}{w:World}{A:Around}{E:Value->Shared->Prop}
end L2
namespace Att
open PySem PySem.W PySem.Calls PyProof.Rows
theorem j8:∀(ns:List Int)(vs:List Value),WellAll P h vs (ns.map WData.int)->IntsAre vs ns:=by
 intro ns
 induction ns with
 |
  nil=>
  intro vs w
  rw[Auw] at w
  cases w
  exact .nil
 |
  cons n ns ih=>
  intro vs w
  rw[Ar1] at w
  cases w with
  |
   cons a b=>
   cases a
   exact .cons _ _ (ih _ b)
theorem Acs {l:OpenLaw}{n:Nat}(hn:l.most=some n){P:Params}{h:Heap}{args:List WData}{vals:List Value}
  (hpre:l.row.toRowW.claim.pre args=true) (hwl:WellAll P h vals args):
  ∃a vs ns,vals=[Value.ref a]/\args=[WData.list (ns.map WData.int)]/\h.get? a=some {cls:=.type "list",data:=.seq vs.toArray}/\IntsAre vs ns/\ns.length<=n:=by
 have hsh:WShape.hasAll [] args [.list .int]=true:=(pre_splitW hpre).1
 have hc:l.pre.holds [] {args:=args}=true:=(pre_splitW hpre).2
 obtain⟨d,r,rfl,h1,h2⟩:=hasAllW_cons hsh
 obtain rfl:=hasAllW_nil h2
 obtain⟨xs,rfl,h3⟩:=hasW_list h1
 obtain⟨ns,rfl⟩:=items_int h3
 have hlen:ns.length<=n:=by
  unfold OpenLaw.pre at hc
  have h4:(WTm.not (.lt (.lit (.int (n:Int))) (.len (.arg 0)))).holds [] {args:=[.list (ns.map .int)]}=true:=by
   have h4:=(holds_andW hc).1
   rw[hn] at h4
   exact h4
  have h5:=condW_of h4 (w_not (w_lt w_lit (w_len_list (w_arg rfl))))
  rw[Aqv] at h5
  refine Nat.le_of_not_lt λq=>?_
  have q':(n:Int)<((ns.length:Nat):Int):=by lia
  first
   | (rw[Aqs q'] at h5;exact absurd h5 dkd)
   | (simp at h5;lia)
 cases hwl with
 |
  cons w1 w2=>
  cases w2
  cases w1 with
  | list ho hall=>exact⟨_,_,ns,rfl,rfl,ho,j8 ns _ hall,hlen⟩
def Aep (l:OpenLaw)(args:List WData):l.row.toRowW.claim.post args (.bool true) args=true:=
 postW_of (r:=l.row.toRowW) (X:=(true==true))
  (show WShape.has [] (.bool true) .bool=true by first|rfl|decide|simp[WShape.has,WShape.arms,WShape.armsAll])
  (show(WTm.eq .res (.lit (.bool true))).value [] {args:=args,res:=some (.bool true),after:=args}=some (.bool (true==true)) from w_eq_bool (w_res rfl) w_lit) rfl
def wx {l:OpenLaw}{n:Nat}{q:Program}{loose:List Str}{XP:(Str->Option Value)->Heap->Prop}{YP:World->Heap->Prop}{d:DefRec}
  (hn:l.most=some n) (hdf:d.params.defaults=[])
  (call:∀(w:World)(s₀ s₁:Shared)(mg mb:Str->Option Value)(fa:Addr)(o:Obj)(pm cd doc:Value)(a:Addr)(vs:List Value)(ns:List Int),
   Ground q loose [] XP w s₀ mg mb s₁.heap->YP w s₁.heap->
   s₁.heap.get? fa=some o->o.data=.func (docDef d.name d.params d.body d.scope pm cd doc)->s₁.heap.CodeRec cd d.name->mg d.name=some (.ref fa)->
   s₁.heap.get? a=some {cls:=.type "list",data:=.seq vs.toArray}->IntsAre vs ns->ns.length<=n->s₁.gens=#[]->
   codeAny (model l.prog w) callerA (.call (.ref fa) ⟨[.ref a],[]⟩) (λr s'=>r=.ok (.ret (.bool true))/\OldK s₁.heap s'.heap/\s'.os=s₁.os/\AllBare s'.gens) s₁):
  WalkO q loose XP YP l.row.toRowW d [] (λf vs=>PySem.call f vs):=by
 intro w s₀ s₁ mg mb G Y fa o pm cd doc dV kV ho hd hcd hD hmg hg args vals as hpre hlay hrd hwl hlo
 obtain rfl:dV=.none:=Dflts.none hD hdf
 obtain rfl:kV=.none:=Dflts.noKw hD
 obtain⟨a,vs,ns,rfl,rfl,hobj,hints,hlen⟩:=Acs hn hpre hwl
 refine enter_call (As7 (call w s₀ s₁ mg mb fa o pm cd doc a vs ns G Y ho (fd_plain hd) hcd hmg hobj hints hlen hg) λr s' hq=>?_)
 obtain⟨rfl,h2,h3,h4⟩:=hq
 exact⟨.inl ⟨.bool true,.bool true,[],rfl,λ_=>rfl,.bool true,Aep l _,λ_=>⟨List.Pairwise.nil,λ_ hm=>(nomatch hm)⟩⟩,h2,h3,h4⟩
variable {prog:Program}{w:World}{A:Around}{E:Value->Shared->Prop}{s:Shared}
def ledger (h:Heap)(L d:Addr):List (Addr×Obj):=(List.range h.objs.size).filterMap λa=>if a=L∨a=d then none else(h.get? a).map λo=>(a,o)
end Att
namespace L2
open PySem PySem.Spec PyProof.Rows
theorem gm:∀{vs:List Value}{ns:List Int},IntsAre vs ns->Vals (ns.map V.int) vs
 | _,_,.nil=>.nil
 | _,_,.cons n t h=>.cons ⟨t,rfl⟩ (gm h)
abbrev KOf {K:W.Frag}{h:Heap}(_:K.In h):W.Frag:=K
def inClass (s:Stmt)(j:Nat):Stmt:=match s with
 | .ClassDef _ _ _ body _ _ _ _ _ _ _=>body.getD j (.Pass ⟨0,0,0,0⟩)
 | _=>.Pass ⟨0,0,0,0⟩
def A4 (s:Stmt):Arguments:=match s with
 | .FunctionDef _ a _ _ _ _ _ _ _ _=>a
 | _=>{posonlyargs:=[],args:=[],vararg:=none,kwonlyargs:=[],kw_defaults:=[],kwarg:=none,defaults:=[]}
def Ay (s:Stmt):List Stmt:=match s with
 | .FunctionDef _ _ b _ _ _ _ _ _ _=>b
 | _=>[]
def Ah (s:Stmt):Scope:=match s with
 | .FunctionDef _ _ _ _ _ _ sc _ _ _=>sc
 | _=>{kind:=.function,names:=[],isGenerator:=false,isCoroutine:=false}
abbrev CX0:CXT:=λ_ _ _ _ _ _=>False
abbrev E0:XK:=λ_ _ _=>False
def Bl:Passes CX0 X E0:=λ_ _ _ _ _ _ _ h=>h.elim
structure Fun (K:W.Frag)(x qual:Str)(st:Stmt)(f:Addr)(fd:FuncData):Prop where
 ex:∃(oc:Value)(od:Option Addr)(kV doc pm:Value)(an:Option Addr)(cdv ct:Value)(osl:Array (Option Value)),
  fd=W.fnOf x qual (A4 st) (Ay st) (Ah st) .none kV doc pm an cdv ct/\K.lookup f=some ⟨oc,od,.func fd,osl⟩/\W.codeIn K cdv qual=true
 kp:W.keepIn K (.ref f)=true
variable {w:World}
def Fun.ok {P:Program}{K:W.Frag}{mg:Str->Option Value}{base:Heap}{cm:Bool}{x qual:Str}{st:Stmt}{f:Addr}{fd:FuncData}{N ps:List Str}{k:Nat}{sp:Sp}(F:Fun K x qual st f fd)(S:Au N ps (Ah st))(len:∀vs H Q E,sp vs H Q E->vs.length=ps.length)
  (hbody:∀(cdv:Value)(A:Around)(outer:List Env)(s:Shared)(H:Hp)(vs:List V)(Q:VK)(E:XK),Room cm k (A.deeper (envOfC qual (Ah st) s.heap.objs.size f cdv))->sp vs H Q E->
   ∃t,PSs (zz CX0 cm P w K mg base N qual (Ah st) f cdv A outer s H E).nox (Ay st) t/\t {nx:=λ_ H'=>Q .non H',rt:=λ_=>Q} (start N vs) H):FnOk P w K mg base CX0 cm (k+1) f fd ps sp:=by
 obtain⟨oc,od,kV,doc,pm,an,cdv,ct,osl,rfl,lk,hcd⟩:=F.ex
 refine Amp lk hcd S len λA outer s H vs Q E hr hsp=>?_
 obtain⟨t,h,q⟩:=hbody cdv A outer s H vs Q E hr hsp
 exact⟨t,h.nox,q⟩
def Fun.binds {K:W.Frag}{x qual:Str}{st:Stmt}{f:Addr}{fd:FuncData}{ps:List Str}(F:Fun K x qual st f fd)
  (h:∀(kV doc pm:Value)(an:Option Addr)(cdv ct:Value)(us:List Value),us.length=ps.length->bindArgs (W.fnOf x qual (A4 st) (Ay st) (Ah st) .none kV doc pm an cdv ct) ⟨us,[]⟩=pure (ps.zip us)):Binds K fd ps []:=by
 obtain⟨oc,od,kV,doc,pm,an,cdv,ct,osl,rfl,lk,hcd⟩:=F.ex
 exact .all (h kV doc pm an cdv ct)
def Adi {K:W.Frag}{x qual:Str}{st:Stmt}{f:Addr}{oc:Value}{od an:Option Addr}{osl:Array (Option Value)}{kV doc pm cdv ct:Value}(l:K.lookup f=some ⟨oc,od,.func (W.fnOf x qual (A4 st) (Ay st) (Ah st) .none kV doc pm an cdv ct),osl⟩)
 (c:W.codeIn K cdv qual=true) (k:W.keepIn K (.ref f)=true):Fun K x qual st f (W.fnOf x qual (A4 st) (Ay st) (Ah st) .none kV doc pm an cdv ct):=⟨⟨oc,od,kV,doc,pm,an,cdv,ct,osl,rfl,l,c⟩,k⟩
def Acg (hr:Room cm k A):A.units+1<cLine:=Asr (Nat.add_le_add_left (by decide:1<=64) _) hr.units
variable {X:Cx}
def Am2 {A B:Prop}(h:B):if false=true then A else B:=by
 rw[if_neg Arj]
 exact h
def Ame {A B:Prop}(h:A):if true=true then A else B:=by
 rw[if_pos rfl]
 exact h
def Same (H H':Hp):Prop:=∀b o,H b=some o->H' b=some o
def Same.refl (H:Hp):Same H H:=λ_ _ h=>h
abbrev _root_.Awr:=@Same.refl
def Same.trans (a:Same H H1)(b:Same H1 H2):Same H H2:=λc o h=>b c o (a c o h)
theorem Same.free (e:Same H H')(h:H' l=Option.none):H l=Option.none:=by
 cases q:H l with
 | none=>rfl
 |
  some o=>
  rw[e l o q] at h
  cases h
def Same.seq {K:W.Frag}{H H':Hp}{a:Addr}{xs:List V}(e:Same H H')(h:SqL K H a xs):SqL K H' a xs:=by
 rcases h with(h|⟨o,h⟩)|h
 · exact .inl (.inl (e _ _ h))
 · exact .inl (.inr ⟨o,e _ _ h⟩)
 · exact .inr h
def v8 (env:Env):List (Str×NameKind)->List (Str×Addr)->List (Str×Addr)
 | [],acc=>acc
 | (n,k)::r,acc=>if k== .free then v8 env r ((n,(env.cells.lookup n).getD 0)::acc) else v8 env r acc
theorem p9 {env:Env}{x:Str}{c:Addr}:∀{ns:List (Str×NameKind)}{acc:List (Str×Addr)},(∃c,acc.lookup x=some c)->∃c,(v8 env ns acc).lookup x=some c
 | [],_,h=>h
 |
  (n,k)::r,acc,h=>by
  unfold v8
  split
  ·
   refine p9 (c:=c) ?_
   obtain⟨c',e⟩:=h
   rw[As1]
   cases q:x==n
   · exact⟨c',e⟩
   · exact⟨_,rfl⟩
  · exact p9 (c:=c) h
theorem d9 {env:Env}{x:Str}:∀{ns:List (Str×NameKind)}{acc:List (Str×Addr)},(x,NameKind.free)∈ns->∃c,(v8 env ns acc).lookup x=some c
 |
  (n,k)::r,acc,h=>by
  unfold v8
  rcases Ara.mp h with e|h
  ·
   cases e
   rw[if_pos (by rfl)]
   exact p9 (c:=0) ⟨_,by rw[As1,Awo]⟩
  ·
   split
   · exact d9 h
   · exact d9 h
theorem x9:∀{ns:List (Str×NameKind)}{acc:List (Str×Addr)},(∀y∈ns,y.2=.free->∃d,env.cells.lookup y.1=some d)->(∀y d,acc.lookup y=some d->env.cells.lookup y=some d)->
  (v8 env ns acc).lookup x=some c->env.cells.lookup x=some c
 | [],_,_,ha,h=>ha _ _ h
 |
  (n,k)::r,acc,hn,ha,h=>by
  unfold v8 at h
  have hr:∀y∈r,y.2=.free->∃d,env.cells.lookup y.1=some d:=λy hy=>hn y (Ard _ hy)
  split at h
  ·
   rename_i hk
   have hk':k=.free:=by simpa using hk
   obtain⟨d,hd⟩:=hn (n,k) Arn hk'
   refine x9 hr (λy d' hy=>?_) h
   rw[As1] at hy
   cases q:y==n
   ·
    rw[q] at hy
    exact ha y d' hy
   ·
    rw[q] at hy
    have e:y=n:=by simpa using q
    subst e
    have hd':env.cells.lookup y=some d:=hd
    rw[hd'] at hy
    rw[hd']
    exact hy
  · exact x9 hr ha h
theorem Pc:∀{ns:List (Str×NameKind)},ns.lookup x=some k->(x,k)∈ns
 |
  (n,j)::r,h=>by
  rw[As1] at h
  cases q:x==n
  ·
   rw[q] at h
   exact Ard _ (Pc h)
  ·
   rw[q] at h
   have e:x=n:=by simpa using q
   subst e
   cases h
   exact Arn
def Fn (X:Cx)(N:List Str)(scope:Scope)(C:Addr)(s:Shared)(H:Hp)(fp:List Addr):Cx where
 prog:=X.prog
 w:=X.w
 K:=X.K
 mg:=X.mg
 base:=X.base
 A:=X.A
 N:=N
 s₀:=s
 H₀:=H
 env:=compEnvC scope (v8 X.env scope.names []) C X.env
 outer:=X.stack
 stack:=X.stack
 ex:=fp
 fn:=λ_=>false
 calm:=X.calm
 pn:=[]
 xe:=λ_ _=>False
def sq (sc scope:Scope)(N0:List Str):List (Option Nat)->List Str->Bool
 | [],_=>true
 | none::r,_::n=>sq sc scope N0 r n
 | some j::r,x::n=>decide (N0[j]?=some x)&&decide (scope.names.lookup x=some .free)&&decide (sc.names.lookup x=some .cell)&&sq sc scope N0 r n
 | _::_,[]=>false
theorem uk:∀{cap:List (Option Nat)}{N:List Str}{i j:Nat},sq sc scope N0 cap N=true->cap[i]?=some (some j)->
  ∃x,N[i]?=some x/\N0[j]?=some x/\scope.names.lookup x=some .free/\sc.names.lookup x=some .cell
 | [],_,_,_,_,e=>by simp at e
 | o::_,[],_,_,h,_=>by cases o<;>simp[sq] at h
 |
  o::r,y::n,0,j,h,e=>by
  simp at e
  subst e
  unfold sq at h
  simp only[Aq9,Atg] at h
  exact⟨y,rfl,h.1.1.1,h.1.1.2,h.1.2⟩
 |
  o::r,y::n,i+1,j,h,e=>by
  have h':sq sc scope N0 r n=true:=by
   cases o with
   | none=>exact h
   |
    some k=>
    unfold sq at h
    simp only[Aq9] at h
    exact h.2
  obtain⟨x,a,b⟩:=uk (i:=i) (j:=j) h' (by simpa using e)
  exact⟨x,by simpa using a,b⟩
structure Cf (sc scope:Scope)(N0 N:List Str)(cap:List (Option Nat)):Prop where
 kind:scope.kind=.function
 cell:∀y∈scope.names,y.2≠ .cell
 names:∀y∈scope.names,y.2=.local->scope.names.lookup y.1=some .local
 free:∀y∈scope.names,y.2=.free->sc.names.lookup y.1=some .cell
 nd:N.Nodup
 len:cap.length=N.length
 cap:sq sc scope N0 cap N=true
def U8 (cap:List (Option Nat))(σ:St):St:=cap.map λo=>match o with
 | none=>none
 | some j=>(σ[j]?).join
def tw (hk:env.scope.kind=.function)(hf:∀y∈scope.names,y.2=.free->env.kindOf y.1=some .cell)(h:scope.names.lookup x=some .free):
  (relabel scope env).names.lookup x=some .cell:=by
 have all:∀(ns:List (Str×NameKind)),(∀y∈ns,y.2=.free->env.kindOf y.1=some .cell)->ns.lookup x=some .free->
   (ns.map λ(n,k)=>if(k== .free&&env.scope.kind== .function&&env.kindOf n==some .cell) then(n,NameKind.cell) else(n,k)).lookup x=some .cell:=by
  intro ns
  induction ns with
  | nil=>intro _ h;simp at h
  |
   cons y r ih=>
   obtain⟨n,k⟩:=y
   intro hf h
   rw[Ar1]
   rw[As1] at h
   cases q:x==n
   ·
    rw[q] at h
    have:=ih (λy hy=>hf y (Ard _ hy)) h
    show List.lookup x ((if(k== .free&&env.scope.kind== .function&&env.kindOf n==some .cell)=true then(n,NameKind.cell) else(n,k))::_)=_
    split<;>(rw[As1,q];exact this)
   ·
    rw[q] at h
    cases h
    have e:=hf (n,.free) Arn rfl
    show List.lookup x ((if(NameKind.free== .free&&env.scope.kind== .function&&env.kindOf n==some .cell)=true then(n,NameKind.cell) else(n,NameKind.free))::_)=_
    rw[if_pos (by rw[hk,e];rfl),As1,q]
 exact all scope.names hf h
def sy (hc:∀y∈scope.names,y.2≠ .cell)(h:(relabel scope env).names.lookup x=some .cell∨(relabel scope env).names.lookup x=some .free):(x,NameKind.free)∈scope.names:=by
 have all:∀(ns:List (Str×NameKind)),(∀y∈ns,y.2≠ .cell)->
   (∀k,(k=NameKind.cell∨k=NameKind.free)->(ns.map λ(n,k)=>if(k== .free&&env.scope.kind== .function&&env.kindOf n==some .cell) then(n,NameKind.cell) else(n,k)).lookup x=some k->(x,NameKind.free)∈ns):=by
  intro ns
  induction ns with
  | nil=>intro _ k _ h;simp at h
  |
   cons y r ih=>
   obtain⟨n,j⟩:=y
   intro hc k hk h
   rw[Ar1] at h
   have hr:∀y∈r,y.2≠NameKind.cell:=λy hy=>hc y (Ard _ hy)
   change List.lookup x ((if(j== .free&&env.scope.kind== .function&&env.kindOf n==some .cell)=true then(n,NameKind.cell) else(n,j))::_)=some k at h
   split at h
   ·
    rename_i hj
    rw[Aq9,Aq9] at hj
    have hj':j=.free:=by simpa using hj.1.1
    subst hj'
    rw[As1] at h
    cases q:x==n
    ·
     rw[q] at h
     exact Ard _ (ih hr k hk h)
    ·
     have e:x=n:=by simpa using q
     subst e
     exact Arn
   ·
    rw[As1] at h
    cases q:x==n
    ·
     rw[q] at h
     exact Ard _ (ih hr k hk h)
    ·
     rw[q] at h
     cases h
     have e:x=n:=by simpa using q
     subst e
     rcases hk with z|z
     · exact absurd z (hc (x,j) Arn)
     · rw[z];exact Arn
 rcases h with h|h
 · exact all scope.names hc _ (.inl rfl) h
 · exact all scope.names hc _ (.inr rfl) h
variable {pins:List (Addr×Obj)}{σ:St}{H:Hp}{s:Shared}
def nk (S:Cf X.env.scope scope X.N N cap)(I:Inv X pins σ H s)(hf:∀b∈fp,Abq X pins H b)(hlt:∀b∈fp,b<s.heap.objs.size)
  (hns:h₁.Ns s.heap.objs.size (λx=>([]:List (Str×Value)).reverse.lookup x)) (keep:∀b o,s.heap.get? b=some o->h₁.get? b=some o):
  Inv (Fn X N scope s.heap.objs.size s H fp) [] (U8 cap σ) H {s with heap:=h₁,toks:=t'}:=by
 have hkf:∀y∈scope.names,y.2=.free->X.env.kindOf y.1=some .cell:=S.free
 have hcell:∀y∈scope.names,y.2=.free->∃d,X.env.cells.lookup y.1=some d:=λy hy e=>I.ok.has _ (.inl (hkf y hy e))
 have hcl:∀x c,(v8 X.env scope.names []).lookup x=some c->X.env.cells.lookup x=some c:=λx c h=>x9 hcell (λy d h=>by simp at h) h
 refine⟨⟨I.ok.mod,S.kind,I.ok.glob,I.ok.blt,Aq0 _,λx y c h1 h2=>I.ok.inj x y c (hcl x c h1) (hcl y c h2),λx h=>d9 (sy S.cell h),(λx c h=>nomatch h),I.ok.hd,I.ok.frames,.inl rfl,
  λb hb=>⟨Arc (hlt b hb),λx c h=>(hf b hb).2.2.2.2.1 x c (hcl x c h)⟩,I.bs,Aq3 I.ok.bsz I.sz,λb o e hb=>?_,λb hb h=>?_,I.stack,I.stkFree⟩,
  rfl,I.bare,Un.kept keep,⟨_,hns,λi x v e1 e2 e3=>?_⟩,λx c h=>?_,I.hok.fresh (Aq0 _),λx c h=>I.freeC x c (hcl x c h),λp hp=>(by simp[Fn] at hp),I.hok.kept keep,?_⟩
 ·
  rcases(hf b hb).2.2.2.1 with z|z
  · exact I.ok.noex b o e z
  · exact absurd (Arq (Aqy (I.ok.bs b o e).1) z) (Asd _)
 ·
  rcases Ara.mp (I.stkSub b h) with z|z
  · exact(hf b hb).2.1 z
  · exact(hf b hb).2.2.1 z
 ·
  have e2':(U8 cap σ)[i]?=some (some v):=e2
  unfold U8 at e2'
  rw[Are] at e2'
  cases q:cap[i]? with
  | none=>rw[q] at e2';cases e2'
  |
   some o=>
   cases o with
   | none=>rw[q] at e2';cases e2'
   |
    some j=>
    rw[q] at e2'
    obtain⟨y,n1,n2,n3,n4⟩:=uk S.cap q
    have e1':N[i]?=some x:=e1
    rw[n1] at e1'
    cases e1'
    have ej:σ[j]?=some (some v):=by
     have e3:(σ[j]?).join=some v:=Arl e2'
     cases r:σ[j]? with
     | none=>rw[r] at e3;cases e3
     | some o=>rw[r] at e3;rw[show o=some v from e3]
    obtain⟨m,hn,hl⟩:=I.loc
    obtain⟨u,ru,l⟩:=hl j x v n2 ej (.inr (.inl n4))
    refine⟨u,ru,.inr ⟨.inl (tw I.ok.kind hkf n3),?_⟩⟩
    rcases l with⟨hk,_⟩|⟨_,c,hc,z⟩
    ·
     have n4':X.env.kindOf x=some .cell:=n4
     rw[n4'] at hk;cases hk
    ·
     obtain⟨c',hc'⟩:=d9 (env:=X.env) (acc:=[]) (Pc n3)
     have:=hcl x c' hc'
     rw[hc] at this
     cases this
     exact⟨c,hc',z.keeps keep⟩
 ·
  obtain⟨v,z⟩:=I.cell x c (hcl x c h)
  exact⟨v,z.keeps keep⟩
 ·
  show(U8 cap σ).length=N.length
  unfold U8
  rw[Aqv]
  exact S.len
def zi (I:Inv X pins σ H s)(hf:∀b∈fp,Abq X pins H b)(J:Inv (Fn X N scope s.heap.objs.size s H fp) pins' σ' H' s')
  (sb:Heap.SameBut s.heap.objs.size s'.heap h'):Inv X pins σ H' {s' with heap:=h'}:=by
 have I1:Inv X pins σ H' s':=I.call' J.os J.base J.hok J.bare λb hb=>⟨(hf b hb).2.2.2.1,(hf b hb).2.1,(hf b hb).2.2.2.2.1,(hf b hb).2.2.2.2.2⟩
 have hfree:H' s.heap.objs.size=none:=J.free
 refine I1.turned (t':=s'.toks) (it:=s.heap.objs.size) (λb o hb e=>(sb.2 b hb).trans e) hfree (Asl I.lt) (.inr I.sz) (λx c h z=>?_) λp hp z=>?_
 ·
  obtain⟨v,q⟩:=I.cell x c h
  have:=q.lt
  rw[z] at this
  exact Asd _ this
 ·
  have:=Aqy (I.pin p hp).1
  rw[z] at this
  exact Asd _ this
def Amz (X:Cx)(ifs:List Expr)(t:TT):Prop:=
 ∀(pins:List (Addr×Obj))(s:Shared)(σ:St)(H:Hp)(Q:Bool->Hp->Prop),Inv X pins σ H s->t σ H Q->
  wpAny (model X.prog X.w) X.A (forIn ifs true λc r=>if r=true then do let ok ←isTrue c X.env (eval c X.env);pure (ForInStep.yield ok) else pure (ForInStep.yield r)) (TP X pins σ Q) X.xe s
def Apl:TT:=λ_ H Q=>Q true H
def Ys:Amz X [] Apl:=λpins s σ H Q I h=>wpAny_tests_nil ⟨H,I,h⟩
def af (h:PT X c t):Amz X [c] t:=λpins s σ H Q I hq=>wpAny_tests_one (h pins s σ H Q I hq)
variable {prog:Program}{A:Around}
theorem Z6 (
     I:Nat->Shared->Prop)
  (turn:∀n s,I n s->wpAny (model prog w) A (pyNext it) (λr s₁=>match r with
   | none=>R (.ok .next) s₁
   | some v=>wpAny (model prog w) A (letOwnedTupleGo target it v) (λ_ s₀=>wpAny (model prog w) A (assign target env v) (λ_ s₂=>
    wpAny (model prog w) A (forIn ifs true λc r=>if r=true then do let ok ←isTrue c env (eval c env);pure (ForInStep.yield ok) else pure (ForInStep.yield r)) (λok s₃=>
     if ok=true then wpAny (model prog w) A (eval elt env) (λx s₄=>
      wpAny (model prog w) A (call (.builtin "list.append") [acc,x]) (λ_ s₅=>∃m,m<n/\I m s₅) (λ_ _=>False) s₄) (λ_ _=>False) s₃
     else ∃m,m<n/\I m s₃) (λ_ _=>False) s₂) (λ_ _=>False) s₀) (λ_ _=>False) s₁) (λ_ _=>False) s)
  (n:Nat) (h:I n s):codeAny (model prog w) A (.compLoop (.ListComp elt [⟨target,iter,ifs,0⟩] scope pos) 0 it acc env) R s:=by
 refine codeAny_loop rfl I (λn s hI=>?_) n h
 show wpAny _ A ((compTurn (.ListComp elt [⟨target,iter,ifs,0⟩] scope pos) 0 it acc env).onRaise (λx=>do noteFrame x env;theTreesLotGoes x)) _ _ s
 refine wpAny_noted ?_
 rw[compTurn_list]
 refine Aqq (wpAny_standAt (Aqq (Asp (turn n s hI) (λr s₁ h₁=>?_) λ_ _ h'=>h'.elim)))
 cases r with
 | none=>exact Aqt h₁
 |
  some v=>
  refine Aqq (Asp h₁ (λ_ s₀ h₀=>?_) λ_ _ h'=>h'.elim)
  refine Aqq (Asp h₀ (λ_ s₂ h₂=>Aqq (Asp h₂ (λok s₃ h₃=>?_) λ_ _ h'=>h'.elim)) λ_ _ h'=>h'.elim)
  cases ok with
  | false=>exact Aqt ⟨rfl,h₃⟩
  |
   true=>
   exact Aqq (Aqq (Asp h₃ (λx s₄ h₄=>Aqq (Asp h₄ (λ_ s₅ h₅=>Aqt (Aqt ⟨rfl,h₅⟩)) λ_ _ h'=>h'.elim)) λ_ _ h'=>h'.elim))
def T8 (J:It)(H1:Hp)(cap:List (Option Nat))(g:TG)(tt:TT)(te:TE)(σ:St)(Q:VK):Prop:=∀D,H1 D=none->
 ∃W:Nat->Nat->List V->St->Hp->Prop,(∃m,W 0 m [] (U8 cap σ) (upd H1 D (.lst [])))/\∀i m ys σ' H',W i m ys σ' H'->H' D=some (.lst ys)/\
  ((
   J.stop i H'/\Q (.ref D) H')∨(J.go i H'/\∀x H2,J.yld i H' x H2->g x σ' H2 λσ2 H3=>tt σ2 H3 λb H4=>
   if b=true then te σ2 H4 λy H5=>H5 D=some (.lst ys)/\ys.length<sizeLine/\∃m',m'<m/\W (i+1) m' (ys++[y]) σ2 (upd H5 D (.lst (ys++[y])))
   else ∃m',m'<m/\W (i+1) m' ys σ2 H4))
def Alx (wi:TI)(cap:List (Option Nat))(g:TG)(tt:TT)(te:TE):TE:=λσ H Q=>wi σ H λJ H1=>T8 J H1 cap g tt te σ Q
def Oz
  (S:Cf X.env.scope scope X.N N cap) (hc:X.calm=true) (hi:PI X tgt iter wi)
  (hb:∀(C:Addr)(s:Shared)(H:Hp)(fp:List Addr),PG (Fn X N scope C s H fp) tgt g/\Amz (Fn X N scope C s H fp) ifs tt/\PE (Fn X N scope C s H fp) elt te)
  (hclos:closureFor scope X.env=pure (v8 X.env scope.names []):=by with_unfolding_all rfl) (hs:∀x,foldedSetIterable iter X.env x=pure x:=by intro _;rfl):
  PE X (.ListComp elt [⟨tgt,iter,ifs,0⟩] scope pos) (Alx wi cap g tt te):=by
 intro pins s σ H Q I h
 rw[eval_ListComp]
 refine wpAny_comprehension_free (use:=none) (cl:=v8 X.env scope.names []) rfl hs hclos S.kind S.names ?_
 refine thn (hi pins s σ H _ I h) λv s1 h1=>thn h1 λitv s2 h2=>?_
 obtain⟨it,fp,tn,J,H2,e,I2,T,st2,f2,k⟩:=h2
 subst e
 refine Ar2 (Awf S.cell (by intro y hy;simp at hy) (λh₁ hns₁ hsb₁=>?_) S.kind)
 dsimp only at hns₁ hsb₁ ⊢
 have I3:Inv X pins σ (upd H2 s2.heap.objs.size (.lst [])) {s2 with heap:=s2.heap.push {cls:=.type "list",dict:=none,data:=.seq ([]:List Value).toArray}}:=I2.lnew (t':=s2.toks) .nil (Ar3 _)
 obtain⟨W,⟨m0,w0⟩,turn⟩:=k s2.heap.objs.size I2.fresh
 generalize hD:s2.heap.objs.size=D at*
 generalize hsD:({s2 with heap:=s2.heap.push {cls:=.type "list",dict:=none,data:=.seq ([]:List Value).toArray}}:Shared)=sD at*
 have hsz:sD.heap.objs.size=D+1:=by rw[←hsD,←hD];exact Ar6 ..
 have hheap:s2.heap.push {cls:=.type "list",dict:=none,data:=.seq ([]:List Value).toArray}=sD.heap:=by rw[←hsD]
 rw[hheap] at hns₁ hsb₁ ⊢
 have up:∀b o,s2.heap.get? b=some o->sD.heap.get? b=some o:=λb o e=>by rw[←hheap];exact Aqr _ e
 have keep:∀b o,sD.heap.get? b=some o->h₁.get? b=some o:=λb o e=>hsb₁.extBut b o (Arc (Aqy e)) (Aqr _ e)
 have hfD:D∉fp:=λhm=>by
  obtain⟨o,e,_⟩:=T.obj _ _ st2 D hm
  have:=Aqy e
  rw[hD] at this
  exact Asd _ this
 have f3:∀b∈fp,Abq X pins (upd H2 D (.lst [])) b:=λb hb=>⟨by rw[An (λz=>hfD (by rw[←z];exact hb))];exact(f2 b hb).1,(f2 b hb).2⟩
 have hlt:∀b∈fp,b<sD.heap.objs.size:=λb hb=>by
  obtain⟨o,e,_⟩:=T.obj _ _ st2 b hb
  exact Aqy (up b o e)
 have I4:=nk (t':=s2.toks+([]:List (Str×Value)).length) S I3 f3 hlt hns₁ keep
 obtain⟨hg,hif,hel⟩:=hb sD.heap.objs.size sD (upd H2 D (.lst [])) fp
 have st4:tn 0 h₁:=T.keep _ _ _ st2 λb hb o e=>keep b o (up b o e)
 have stat:∀{H':Hp},(∀b∈fp,H' b=none)->∀b∈fp,Abq (Fn X N scope sD.heap.objs.size sD (upd H2 D (.lst [])) fp) [] H' b:=λhn b hb=>
  ⟨hn b hb,(I4.ok.exf b hb).1,I4.ok.exfs b hb,.inl hb,λx c h z=>(I4.ok.exf b hb).2 x c h z,λp hp=>(by simp[Fn] at hp)⟩
 have loop:codeAny (model X.prog X.w) X.A (.compLoop (.ListComp elt [⟨tgt,iter,ifs,0⟩] scope pos) 0 (.ref it) (.ref D) (compEnvC scope (v8 X.env scope.names []) sD.heap.objs.size X.env))
   (compPost (model X.prog X.w) X.A X.xe none (EP X pins σ Q) (.ref D) sD.heap.objs.size) {sD with heap:=h₁,toks:=s2.toks+([]:List (Str×Value)).length}:=by
  refine Z6 (λn s'=>∃i ys σ' H',Inv (Fn X N scope sD.heap.objs.size sD (upd H2 D (.lst [])) fp) [] σ' H' s'/\tn i s'.heap/\(∀b∈fp,H' b=none)/\W i n ys σ' H') ?_ m0
   ⟨0,[],U8 cap σ,_,I4,st4,λb hb=>(f3 b hb).1,w0⟩
  rintro n s5 ⟨i,ys,σ5,H5,I5,st5,fr5,w5⟩
  obtain⟨hD5,way⟩:=turn i n ys σ5 H5 w5
  rcases way with⟨stop,q⟩|⟨go,step⟩
  ·
   refine thn (T.done (Fn X N scope sD.heap.objs.size sD (upd H2 D (.lst [])) fp) rfl rfl rfl hc i [] s5 σ5 H5 (λ_ _=>False) I5 (stat fr5) st5 stop) λr s6 hz=>?_
   obtain⟨hr,I6⟩:=hz
   subst hr
   obtain⟨m,hn,_⟩:=I6.loc
   exact⟨m,hn,λh' sb=>⟨.ref D,H5,zi I3 f3 I6 sb,rfl,q⟩⟩
  ·
   refine thn (T.item (Fn X N scope sD.heap.objs.size sD (upd H2 D (.lst [])) fp) rfl rfl rfl hc i [] s5 σ5 H5 (λ_ _=>False) I5 (stat fr5) st5 go) λr s6 hz=>?_
   obtain⟨u,hr,h6⟩:=hz
   subst hr
   refine thn h6 λ_ s7 hz=>?_
   obtain⟨x,H7,I7,r7,y7,st7,fr7⟩:=hz
   have I7':=I7.pinned (stat fr7) (T.obj _ _ st7)
   refine thn (hg _ s7 σ5 H7 x u _ I7' r7 (step x H7 y7)) λ_ s8 hz=>?_
   obtain⟨σ8,H8,I8,q8⟩:=hz
   refine thn (hif _ s8 σ8 H8 _ I8 q8) λb s9 hz=>?_
   obtain⟨H9,I9,q9⟩:=hz
   have back:∀{σ':St}{H':Hp}{s':Shared},Inv (Fn X N scope sD.heap.objs.size sD (upd H2 D (.lst [])) fp) ([]++n8 fp s7.heap) σ' H' s'->tn (i+1) s'.heap/\∀b∈fp,H' b=none:=λ{σ' H' s'}J'=>
    ⟨T.keep _ _ _ st7 λb hb o e=>(J'.pin (b,o) (Aq8 _ (Aq8 _ (Ms hb e)))).1,λb hb=>by
     obtain⟨o,e,d⟩:=T.obj _ _ st7 b hb
     exact(J'.pin (b,o) (Aq8 _ (Aq8 _ (Ms hb e)))).2.1⟩
   cases b with
   |
    false=>
    obtain⟨m',hm,w9⟩:=(show ∃m',m'<n/\W (i+1) m' ys σ8 H9 from q9)
    exact⟨m',hm,i+1,ys,σ8,H9,I9.unpinned,(back I9).1,(back I9).2,w9⟩
   |
    true=>
    refine thn (hel _ s9 σ8 H9 _ I9 (show te σ8 H9 _ from q9)) λy s10 hz=>?_
    obtain⟨v10,H10,I10,r10,q10⟩:=hz
    obtain⟨hD10,hz,m',hm,w10⟩:=q10
    refine thn (gz (X:=Fn X N scope sD.heap.objs.size sD (upd H2 D (.lst [])) fp) _ s10 σ8 H10 (.ref D) [v10] (.ref D) [y] (λ_ H'=>H'=upd H10 D (.lst (ys++[v10]))) I10 rfl (.cons r10 .nil) ⟨D,ys,v10,rfl,rfl,hD10,hz,rfl⟩) λ_ s11 hz=>?_
    obtain⟨v11,H11,I11,_,e11⟩:=hz
    subst e11
    exact⟨m',hm,i+1,ys++[v10],σ8,_,I11.unpinned,(back I11).1,(back I11).2,w10⟩
 subst hsD
 subst hD
 exact codeAny_compStart_list loop (T.self _ 0 _ _ _ st4 loop)
def B2 (hg:Gl X x)(hm:∃t,X.mg x=some (.int i t))(hd:(x==("__debug__":Str))=false:=by decide):PE X (.Name x pos) (tC (.int i)):=by
 obtain⟨t,e⟩:=hm
 exact Ad8 hg e ⟨t,rfl⟩ hd
def zx (hg:Gl X x)(hm:X.mg x=some (.ref a))(hd:(x==("__debug__":Str))=false:=by decide):PE X (.Name x pos) (tC (.ref a)):=Ad8 hg hm rfl hd
def yk:Lc X (.builtin "isinstance") (λxs H Q=>∃x T t b,xs=[x,.ty T]/\d4 X.K H x t/\W.kitOne X.K t (.type T)=some b/\Q (.bl b) H):=by
 intro pins s σ H xs us Q I r h
 obtain⟨x,T,t,b,rfl,ty,e,q⟩:=h
 obtain⟨u,v,rfl,ru,rv⟩:=r.two
 cases rv
 exact Aeg I ru ty e λtk=>⟨.bl b,H,I.tok tk,rfl,q⟩
def Aft (hc:X.calm=true):Lc X (.builtin "sum") (λxs H Q=>∃(p:Addr)(ns:List Int),xs=[.ref p]/\SqL X.K H p (ns.map V.int)/\Q (.int ns.sum) H):=by
 intro pins s σ H xs us Q I r h
 obtain⟨p,ns,rfl,hq,q⟩:=h
 obtain⟨u,rfl,ru⟩:=r.one
 cases ru
 obtain⟨its,rv,pl,hz⟩:=I.list hq
 have hi:=intsAre_of rv
 obtain⟨xs,hx⟩:=hi.allInts.items
 refine sum_intListG (I.ok.hd hc) (hx▸pl.isList) λh' tk t' hk=>?_
 have e1:ns=xs.toList.map (·.1):=by
  rw[←nums_intItems,←hx]
  exact(show numsOf its.toArray.toList=ns from hi.numsOf).symm
 have e2:preSum (numAt xs) xs.size=ns.sum:=by
  rw[preSum_eq,Auo dks,e1]
 rw[e2]
 exact⟨.int _,H,I.kept hk,⟨_,rfl⟩,q⟩
structure FunD (K:W.Frag)(x qual:Str)(st:Stmt)(f:Addr)(fd:FuncData):Prop where
 ex:∃(oc:Value)(od:Option Addr)(dV kV doc pm:Value)(an:Option Addr)(cdv ct:Value)(osl:Array (Option Value)),
  fd=W.fnOf x qual (A4 st) (Ay st) (Ah st) dV kV doc pm an cdv ct/\K.lookup f=some ⟨oc,od,.func fd,osl⟩/\W.codeIn K cdv qual=true
 kp:W.keepIn K (.ref f)=true
def FunD.ok {P:Program}{K:W.Frag}{mg:Str->Option Value}{base:Heap}{cm:Bool}{x qual:Str}{st:Stmt}{f:Addr}{fd:FuncData}{N ps:List Str}{k:Nat}{sp:Sp}(F:FunD K x qual st f fd)(S:Au N ps (Ah st))(len:∀vs H Q E,sp vs H Q E->vs.length=ps.length)
  (hbody:∀(cdv:Value)(A:Around)(outer:List Env)(s:Shared)(H:Hp)(vs:List V)(Q:VK)(E:XK),Room cm k (A.deeper (envOfC qual (Ah st) s.heap.objs.size f cdv))->sp vs H Q E->
   ∃t,PSs (zz CX0 cm P w K mg base N qual (Ah st) f cdv A outer s H E).nox (Ay st) t/\t {nx:=λ_ H'=>Q .non H',rt:=λ_=>Q} (start N vs) H):FnOk P w K mg base CX0 cm (k+1) f fd ps sp:=by
 obtain⟨oc,od,dV,kV,doc,pm,an,cdv,ct,osl,rfl,lk,hcd⟩:=F.ex
 exact Amp lk hcd S len λA outer s H vs Q E hr h=>by
  obtain⟨t,ht,q⟩:=hbody cdv A outer s H vs Q E hr h
  exact⟨t,ht.nox,q⟩
def G9 {K:W.Frag}{x qual:Str}{st:Stmt}{f:Addr}{oc:Value}{od an:Option Addr}{osl:Array (Option Value)}{dV kV doc pm cdv ct:Value}(l:K.lookup f=some ⟨oc,od,.func (W.fnOf x qual (A4 st) (Ay st) (Ah st) dV kV doc pm an cdv ct),osl⟩)
  (c:W.codeIn K cdv qual=true) (k:W.keepIn K (.ref f)=true):FunD K x qual st f (W.fnOf x qual (A4 st) (Ay st) (Ah st) dV kV doc pm an cdv ct):=
 ⟨⟨oc,od,dV,kV,doc,pm,an,cdv,ct,osl,rfl,l,c⟩,k⟩
def Seq (J:It)(H:Hp)(xs:List V):Prop:=∀H',Same H H'->(∀(i:Nat)x,xs[i]?=some x->J.go i H'/\∀x' H2,J.yld i H' x' H2->x'=x/\H2=H')/\J.stop xs.length H'
def Nd (lo:Int)(n:Nat)(H:Hp):Seq (Itr lo n) H ((List.range n).map λ(i:Nat)=>V.int (lo+(i:Int))):=λH' _=>by
 refine⟨λi x e=>?_,?_⟩
 ·
  have hi:i<n:=by
   have:=(Aq5.mp e).1
   simpa using this
  refine⟨hi,λx' H2 hy=>?_⟩
  obtain⟨e1,e2⟩:=hy
  rw[Are,List.getElem?_range hi] at e
  exact⟨e2.trans (Arl e),e1⟩
 ·
  show n<=_
  simp
def Ua {K:W.Frag}{H:Hp}{a:Addr}{xs:List V}(h:SqL K H a xs):Seq (Itl K a) H xs:=λH' s=>by
 have h':=s.seq h
 refine⟨λi x e=>⟨⟨xs,x,h',e⟩,λx' H2 hy=>?_⟩,⟨xs,h',Aq0 _⟩⟩
 obtain⟨e1,e2⟩:=hy
 have:=e2 xs h'
 rw[e] at this
 exact⟨(Arl this).symm,e1⟩
def Same.seqT {K:W.Frag}{H H':Hp}{a:Addr}{xs:List V}(e:Same H H')(h:SqT K H a xs):SqT K H' a xs:=by
 rcases h with(h|⟨o,h⟩)|h
 · exact .inl (.inl (e _ _ h))
 · exact .inl (.inr ⟨o,e _ _ h⟩)
 · exact .inr h
def Sw {K:W.Frag}{H:Hp}{a:Addr}{xs:List V}(h:SqT K H a xs):Seq (Itt K a) H xs:=λH' s=>by
 have h':=s.seqT h
 refine⟨λi x e=>⟨⟨xs,x,h',e⟩,λx' H2 hy=>?_⟩,⟨xs,h',Aq0 _⟩⟩
 obtain⟨e1,e2⟩:=hy
 have:=e2 xs h'
 rw[e] at this
 exact⟨(Arl this).symm,e1⟩
def Ai (h:H p=none):Same H (upd H p o):=λb u e=>by rw[An (Ap e h)];exact e
def V3 {J:It}{xs:List V}{g:TG}{tb:TS}{D:Ends}{σ:St}{H0 H:Hp}(hJ:Seq J H0 xs)(Pv:Nat->St->Hp->Prop)(h0:Pv 0 σ H)(hsm:∀i σ H,i<=xs.length->Pv i σ H->Same H0 H)
  (hs:∀(i:Nat)x σ H,xs[i]?=some x->Pv i σ H->g x σ H λσ2 H2=>tb {D with nx:=Pv (i+1),ct:=Pv (i+1),bk:=D.nx} σ2 H2) (hd:∀σ H,Pv xs.length σ H->D.nx σ H):
  ∃W:Nat->Nat->St->Hp->Prop,(∃m,W 0 m σ H)/\∀i m σ H,W i m σ H->
   (J.stop i H/\D.nx σ H)∨(J.go i H/\∃N:St->Hp->Prop,(∀σ' H',N σ' H'->∃m',m'<m/\W (i+1) m' σ' H')/\∀x H',J.yld i H x H'->g x σ H' λσ2 H2=>tb {D with nx:=N,ct:=N,bk:=D.nx} σ2 H2):=by
 refine⟨λi m σ H=>m=xs.length-i/\i<=xs.length/\Pv i σ H,⟨xs.length,dks,Ar3 _,h0⟩,?_⟩
 rintro i m σ H ⟨rfl,hi,p⟩
 obtain⟨q1,q2⟩:=hJ H (hsm i σ H hi p)
 by_cases hlt:i<xs.length
 ·
  have e:xs[i]?=some xs[i]:=by simp[hlt]
  obtain⟨go,y⟩:=q1 i _ e
  refine .inr ⟨go,Pv (i+1),λσ' H' p'=>⟨xs.length-(i+1),dkl,rfl,hlt,p'⟩,λx H' hy=>?_⟩
  obtain⟨rfl,rfl⟩:=y x H' hy
  exact hs i _ σ _ e p
 ·
  have e:i=xs.length:=by lia
  subst e
  exact .inl ⟨q2,hd σ H p⟩
def Ie (hJ:Seq J H1 xs)(p:V->Bool)(f:V->V)(hsz:xs.length<=100000)
  (hp:∀x∈xs,∀H',Same H1 H'->∀R:Bool->Hp->Prop,(∀H'',Same H' H''->R (p x) H'')->tt ((U8 cap σ).set 0 (some x)) H' R)
  (he:∀x∈xs,p x=true->∀H',Same H1 H'->∀R:VK,(∀H'',Same H' H''->R (f x) H'')->te ((U8 cap σ).set 0 (some x)) H' R)
  (k:∀D H',Same H1 H'->H1 D=none->H' D=some (.lst ((xs.filter p).map f))->Q (.ref D) H'):
  T8 J H1 cap (fj 0) tt te σ Q:=by
 intro D hD
 refine⟨λi m ys σ' H'=>m=xs.length-i/\i<=xs.length/\(∀v,σ'.set 0 v=(U8 cap σ).set 0 v)/\H' D=some (.lst ys)/\Same H1 H'/\ys=((xs.take i).filter p).map f,
  ⟨xs.length,dks,Ar3 _,λ_=>rfl,Ae,Ai hD,dks⟩,?_⟩
 rintro i m ys σ' H' ⟨rfl,hi,hσ,hl,sm,hys⟩
 refine⟨hl,?_⟩
 obtain⟨q1,q2⟩:=hJ H' sm
 by_cases hlt:i<xs.length
 ·
  have e:xs[i]?=some xs[i]:=by simp[hlt]
  obtain⟨go,y⟩:=q1 i _ e
  refine .inr ⟨go,λx H2 hy=>?_⟩
  obtain⟨rfl,rfl⟩:=y x H2 hy
  have hm:xs[i]∈xs:=Asu hlt
  have etake:xs.take (i+1)=xs.take i++[xs[i]]:=by rw[Awh,e];rfl
  show tt (σ'.set 0 (some xs[i])) _ _
  rw[hσ]
  refine hp _ hm _ sm _ λH4 s4=>?_
  have hss:∀v,((U8 cap σ).set 0 (some xs[i])).set 0 v=(U8 cap σ).set 0 v:=λv=>by rw[Au9]
  cases hb:p xs[i] with
  |
   false=>
   refine Am2 ⟨xs.length-(i+1),dkl,rfl,hlt,hss,s4 _ _ hl,sm.trans s4,?_⟩
   rw[etake,At0,hys]
   simp[hb]
  |
   true=>
   refine Ame ?_
   refine he _ hm hb _ (sm.trans s4) _ λH5 s5=>?_
   have hl5:=s5 _ _ (s4 _ _ hl)
   refine⟨hl5,?_,xs.length-(i+1),dkl,rfl,hlt,hss,Ae,λb o eb=>?_,?_⟩
   ·
    have h1:ys.length<=xs.length:=by
     rw[hys,Aqv]
     exact Aq3 (Atc _ _) (List.length_take_le' _ _)
    have h2:(100000:Nat)<sizeLine:=by decide
    lia
   ·
    rw[An (Ap eb hD)]
    exact s5 _ _ (s4 _ _ (sm _ _ eb))
   ·
    rw[etake,At0,hys]
    simp[hb]
 ·
  have e:i=xs.length:=by lia
  subst e
  refine .inl ⟨q2,k D _ sm hD ?_⟩
  rw[hl,hys,Ats]
def Ah6 {α:Type}{xs:List α}{i:Int}(h0:0<=i)(h1:i<xs.length):atI xs i=some (xs[i.toNat]'dkl):=by
 have:=Ow (xs:=xs) (j:=i.toNat) (v:=xs[i.toNat]'dkl) dks
 rw[show((i.toNat:Nat):Int)=i by lia] at this
 exact this
def eo {ts:List Int}{i:Int}(h0:0<=i)(h1:i<ts.length):∃t,t∈ts/\atI (ts.map V.int) i=some (.int t):=by
 refine⟨ts[i.toNat]'dkl,Asu _,?_⟩
 rw[Ah6 h0 (by simpa using h1)]
 simp
def litOf:Expr->Option V
 | .Constant (.int i) _ _=>some (.int i)
 | .Constant (.str x) _ _=>some (.str x)
 | .Constant (.bool b) _ _=>some (.bl b)
 | .Constant .none _ _=>some .non
 | .UnaryOp .USub (.Constant (.int i) _ _) _=>some (.int (-i))
 | _=>none
def litsOf:List Expr->Option (List V)
 | []=>some []
 |
  e::r=>match litOf e,litsOf r with
  | some v,some vs=>some (v::vs)
  | _,_=>none
def Alq (h:litOf e=some v):PE X e (tC v)/\∀es:List Expr,starEach (e::es) X.env=(false,eval e X.env)::starEach es X.env:=by
 unfold litOf at h
 split at h
 · cases h;exact⟨Ab,λ_=>rfl⟩
 · cases h;exact⟨Bo,λ_=>rfl⟩
 · cases h;exact⟨Yc,λ_=>rfl⟩
 · cases h;exact⟨F0,λ_=>rfl⟩
 ·
  rename_i i j p q
  cases h
  refine⟨λpins s σ H Q I hq=>vz Ahd Ab pins s σ H Q I ⟨_,rfl,hq⟩,λ_=>rfl⟩
 · cases h
theorem zt:∀{es:List Expr}{vs:List V},litsOf es=some vs->PA X es (λ_ H Q=>Q vs H)
 | [],vs,h=>by cases h;exact Ad
 |
  e::r,vs,h=>by
  unfold litsOf at h
  split at h
  ·
   rename_i v ws h1 h2
   cases h
   have p:=Alq (X:=X) h1
   exact Aa p.1 (zt h2) (p.2 r)
  · cases h
def litsAre (es:List Expr)(vs:List V):Bool:=decide (litsOf es=some vs)
def P9 (vs:List V)(h:litsAre es vs=true):PA X es (λ_ H Q=>Q vs H):=zt (Aqu h)
end L2
namespace L2
theorem Nu (m:Int):∀ns:List Int,inV (.int m) (ns.map V.int)=decide (m∈ns)
 | []=>rfl
 |
  n::ns=>by
  have ih:=Nu m ns
  unfold inV at*
  rw[Ar1,Au1,ih]
  have e:eqV (.int n) (.int m)=decide (m=n):=by
   show(n==m)=_
   by_cases h:m=n
   · subst h;simp
   · rw[Aqz h];exact Atm.mpr (Avl h)
  rw[e,←Bool.decide_or]
  exact Asi.mpr (by rw[Ara])
end L2
namespace L2
open PySem PySem.Spec PyProof.Rows
variable {X:Cx}{pins:List (Addr×Obj)}{σ:St}{H:Hp}{H':Hp}{s:Shared}
variable {w:World}{A:Around}
theorem Vals.of_get:∀{xs:List V}{us:List Value},xs.length=us.length->(∀(j:Nat)(x:V)(u:Value),xs[j]?=some x->us[j]?=some u->RelV x u)->Vals xs us
 | [],[],_,_=>.nil
 | x::xs,u::us,h,k=>.cons (k 0 x u rfl rfl) (Vals.of_get (by simpa using h) λj y w a b=>k (j+1) y w (by simpa using a) (by simpa using b))
end L2
namespace L2
open PySem PySem.Spec PySem.Calls PyProof.Rows Builtin Builtin.ObjectAttr Builtin.Getset_descriptor
variable {prog:Program}{w:World}
variable {X:Cx}
variable {pins:List (Addr×Obj)}{σ:St}{H:Hp}{H':Hp}{s:Shared}
end L2
namespace L2
open PySem PySem.Spec PyProof.Rows
section
variable {X:Cx}{K:W.Frag}(hK:X.K=K)
include hK
def Ajn:IxR X (Ape K):=by subst hK;exact Ak2
def Afr:IxR X (Ao7 K):=by subst hK;exact Aik
def Ajw:SlR X (Ao9 K):=by subst hK;exact Ag9
def Mp:OpR X (compareOp .In) (rIn K false):=by subst hK;exact Aeu
def Ws:OpR X (compareOp .NotIn) (rIn K true):=by subst hK;exact rp
def A7:Lc X (.builtin "len") (λxs H Q=>∃p ys,xs=[.ref p]/\(SqL K H p ys∨SqT K H p ys)/\Q (.int ys.length) H):=by subst hK;exact ui
def Qr:Lc X (.type "list") (λxs H Q=>∃p ys,xs=[.ref p]/\(SqL K H p ys∨SqT K H p ys)/\∀l,H l=none->Q (.ref l) (upd H l (.lst ys))):=by subst hK;exact uq
def Bf:Lc X (.type "tuple") (λxs H Q=>∃p ys,xs=[.ref p]/\((SqL K H p ys/\∀l,H l=none->Q (.ref l) (upd H l (.tup ys)))∨(SqT K H p ys/\Q (.ref p) H))):=by subst hK;exact rb
def Dh:Lc X (.builtin "isinstance") (λxs H Q=>∃x T t b,xs=[x,.ty T]/\d4 K H x t/\W.kitOne K t (.type T)=some b/\Q (.bl b) H):=by subst hK;exact yk
def Aco (hc:X.calm=true):Lc X (.builtin "sum") (λxs H Q=>∃(p:Addr)(ns:List Int),xs=[.ref p]/\SqL K H p (ns.map V.int)/\Q (.int ns.sum) H):=by subst hK;exact Aft hc
def T7 (hl:PE X l tl):PI X tg l (Ak1 K tl):=by subst hK;exact Aiw hl
def Sl (hl:PE X l tl):PI X tg l (Aow K tl):=by subst hK;exact Aku hl
end
end L2
set_option maxHeartbeats 0
namespace L2
open PySem PySem.W PyProof.Rows
variable {s:Shared}
abbrev RA:=Addr×(Int×Int)
def refs (rs:List RA):List V:=rs.map λx=>V.ref x.1
def RowOk (H:Hp)(rs:List RA):Prop:=∀x∈rs,H x.1=some (.tup [.int x.2.1,.int x.2.2])
variable {prog:Program}{w:World}{A:Around}{E:Value->Shared->Prop}
end L2
namespace L2
open PySem PySem.Spec PyProof.Rows PySem.SeqAt
def sps (rs:List RA):List (Int×Int):=rs.map (·.2)
def hu2 (hr:Room cm k A):A.units+2<cLine:=Asr (Nat.add_le_add_left (by decide:2<=64) _) hr.units
def ql {rs:List RA}{i:Nat}{x:V}(h:(refs rs)[i]?=some x):∃y,rs[i]?=some y/\y∈rs/\x=.ref y.1:=by
 unfold refs at h
 rw[Are] at h
 obtain⟨y,e,rfl⟩:=Aun.mp h
 exact⟨y,e,Asf e,rfl⟩
def RowOk.up (h:RowOk H rs)(s:Same H H'):RowOk H' rs:=λx hx=>s _ _ (h x hx)
def RowOk.nil:RowOk H []:=λ_ h=>nomatch h
def Q5 (rs:List RA):(refs rs).length=rs.length:=Aqv ..
def Ni (rs:List RA):(sps rs).length=rs.length:=Aqv ..
variable {X:Cx}
def F5 (F:Addr)(H H':Hp):Prop:=∀b o,b≠F->H b=some o->H' b=some o
end L2
namespace L2
open PySem PySem.Spec PySem.Calls PyProof.Rows Builtin Builtin.Str
variable {X:Cx}
end L2
namespace L2
open PySem PySem.Spec PySem.Calls PyProof.Rows
variable {X:Cx}
structure Ans (X:Cx)(m:Str)(n:Nat)(C:Addr)(R:V->List V->Hp->VK->Prop):Prop where
 cls:Cls X.K C
 run:∃(f:Addr)(fd:FuncData)(ps:List Str)(ds:List Value)(dvs:List V)(CX:CXT)(cm:Bool)(k:Nat)(sp:Sp)(E:XK),Meth X.K C m f/\FnOk X.prog X.w X.K X.mg X.base CX cm k f fd ps sp/\Room cm k X.A/\Binds X.K fd ps ds/\Vals dvs ds/\Passes CX X E/\
  ∀x vs H Q,vs.length=n->R x vs H Q->sp (x::(vs++dvs)) H Q E
def Amt (m:Str)(n:Nat)(D:Addr->(V->List V->Hp->VK->Prop)->Prop)(ta:TE)(t:TA):TE:=λσ H Q=>ta σ H λx H1=>∃a C dx fs R,x=.ref a/\H1 a=some (.ins C dx fs)/\fs.lookup m=none/\D C R/\
 t σ H1 λvs H2=>vs.length=n/\R x vs H2 Q
def Af2 (he:PE X o ta)(hD:∀C R,D C R->Ans X m n C R)(ha:PA X (e::es) t)
  (hst:starEach (e::es) X.env=(false,eval e X.env)::starEach es X.env:=by rfl) (hpl:(backTo pos (starEach es X.env)).any (·.1)=false:=by rfl)
  (ht:eval (.Call (.Attribute o m apos) (e::es) [] pos) X.env=(do
   let ov ←eval o X.env
   standAt apos.atName
   let (f,first) ←holding [ov] (getMethod ov m pl)
   callWith pos f first (backTo pos (starEach (e::es) X.env)) (backToKw pos (keywordEach [] X.env))):=by rfl):
  PE X (.Call (.Attribute o m apos) (e::es) [] pos) (Amt m n D ta t):=by
 intro pins s σ H Q I h
 refine W.methodCall_KW (pl:=pl) (thn (he pins s σ H _ I h) λu s1 ⟨x,H1,I1,rx,a,C,dx,fs,R,ex,ea,l,d,q⟩=>?_) ht
 subst ex
 obtain rfl:u=Value.ref a:=rx
 obtain⟨c,f,fd,ps,ds,dvs,CX,cm,k,sp,E,hm,F,hr,hb,hd,hx,hR⟩:=hD C R d
 refine nr I1 ea c hm l ?_
 refine W.callWith_K (first:=[.ref a]) (h₀:=X.base) I.ok.mod.kin hm.kp (thn (ha pos pins s1 σ H1 _ I1 q) λus s2 ⟨vs,H2,I2,r,hn,q2⟩=>⟨I2.kIn,?_⟩) hst hpl
 exact yz (us:=.ref a::us) (vs:=.ref a::vs) F hr hb hd hx I2 (.cons rfl r) (hR _ _ _ _ hn q2)
section
variable {X:Cx}{K:W.Frag}{o e value:Expr}{f:Str}{pos pos':Pos}{ta tv:TE}(hK:X.K=K)
include hK
def Aiu (he:PE X e ta)(hb:attributeBase e f X.env (eval e X.env)=eval e X.env:=by rfl):PE X (.Attribute e f pos) (Apa K ta f):=by subst hK;exact Alh he hb
def Ai9 (ha:PE X o ta)(hv:PE X value tv)(hs:swapsWith value (some (.Attribute o f pos')) pos.line X.env=pure false:=by rfl):PS X (.Assign [.Attribute o f pos'] value pos) (Ao3 K ta tv f):=by subst hK;exact Akh ha hv hs
end
structure Aj9 (K:W.Frag)(C:Addr)(m:Str)(f:Addr):Prop where
 ga:W.specialIn K (.ref C) "__getattribute__"=some (some (.builtin "type.__getattribute__"))
 rd:W.readsIn K C (.type "type")=true
 at_:W.findCls K (.ref C) (.type "type") m=some (.val (.ref f))
 hi:W.handedIn (.ref f)=true
 kp:W.keepIn K (.ref f)=true
def qr (c:Aj9 X.K C m f)(F:FnOk X.prog X.w X.K X.mg X.base CX cm k f fd ps sp)(hr:Room cm k X.A)(hg:Gl X x)(hm:X.mg x=some (.ref C))(hb:Binds X.K fd ps ds)(hd:Vals dvs ds)(hx:Passes CX X E)
  (ha:PA X (e::es) t) (hdb:(x==("__debug__":Str))=false:=by decide) (he:starEach (e::es) X.env=(false,eval e X.env)::starEach es X.env:=by rfl) (hpl:(backTo pos (starEach es X.env)).any (·.1)=false:=by rfl)
  (ht:eval (.Call (.Attribute (.Name x p) m apos) (e::es) [] pos) X.env=(do
   let ov ←eval (.Name x p) X.env
   standAt apos.atName
   let (f,first) ←holding [ov] (getMethod ov m pl)
   callWith pos f first (backTo pos (starEach (e::es) X.env)) (backToKw pos (keywordEach [] X.env))):=by rfl):
  PE X (.Call (.Attribute (.Name x p) m apos) (e::es) [] pos) (Aix sp dvs E t):=by
 intro pins s σ H Q I h
 refine W.methodCall_KW (pl:=pl) (jl I hg hm ?_ hdb) ht
 refine W.method_cls I.kIn c.ga ?_
 refine W.cls_value I.kIn c.rd c.at_ c.hi ?_
 refine W.callWith_K (first:=[]) (h₀:=X.base) I.ok.mod.kin c.kp (thn (ha pos pins _ σ H _ (I.tok _) h) λus s1 ⟨vs,H1,I1,r,q⟩=>⟨I1.kIn,?_⟩) he hpl
 exact yz F hr hb hd hx I1 r q
end L2
namespace L2
open PySem PySem.Spec PyProof.Rows
def Aib {X:Cx}{K:W.Frag}{es:List Expr}{k:Nat}{t:TGs}{n:Nat}{pos:Pos}(hK:X.K=K)(hc:X.calm=true)(h:PGs X es t)
 (hn:(assignEach es X.env).length=n:=by rfl) (hst:(assignEach es X.env).findIdx? (·.1)=none:=by rfl):PG X (.Tuple es k pos) (Am4 K n t):=by subst hK;exact zp hc h hn hst
def Acv {K:W.Frag}{J:It}{cap:List (Option Nat)}{tt:TT}{te:TE}{σ:St}{H1:Hp}{Q:VK}{rs:List RA}(hJ:Seq J H1 (refs rs))(ok:RowOk H1 rs)(p:Int×Int->Bool)(f:Int×Int->V)(hsz:rs.length<=100000)
  (hp:∀y∈rs,∀H',Same H1 H'->∀R:Bool->Hp->Prop,(∀H'',Same H' H''->R (p y.2) H'')->tt (((U8 cap σ).set 0 (some (.int y.2.1))).set 1 (some (.int y.2.2))) H' R)
  (he:∀y∈rs,p y.2=true->∀H',Same H1 H'->∀R:VK,(∀H'',Same H' H''->R (f y.2) H'')->te (((U8 cap σ).set 0 (some (.int y.2.1))).set 1 (some (.int y.2.2))) H' R)
  (k:∀D H',Same H1 H'->H1 D=none->H' D=some (.lst (((sps rs).filter p).map f))->Q (.ref D) H'):
  T8 J H1 cap (Am4 K 2 (Ajx (fj 0) (Ajx (fj 1) Ao1))) tt te σ Q:=by
 intro D hD
 refine⟨λi m ys σ' H'=>m=rs.length-i/\i<=rs.length/\(∀v w,(σ'.set 0 v).set 1 w=((U8 cap σ).set 0 v).set 1 w)/\H' D=some (.lst ys)/\Same H1 H'/\ys=(((sps rs).take i).filter p).map f,
  ⟨rs.length,dks,Ar3 _,λ_ _=>rfl,Ae,Ai hD,dks⟩,?_⟩
 rintro i m ys σ' H' ⟨rfl,hi,hσ,hl,sm,hys⟩
 refine⟨hl,?_⟩
 obtain⟨q1,q2⟩:=hJ H' sm
 by_cases hlt:i<rs.length
 ·
  have e:(refs rs)[i]?=some (.ref (rs[i]).1):=by unfold refs;simp[hlt]
  have es:(sps rs)[i]?=some (rs[i]).2:=by unfold sps;simp[hlt]
  obtain⟨go,y⟩:=q1 i _ e
  refine .inr ⟨go,λx H2 hy=>?_⟩
  obtain⟨rfl,rfl⟩:=y x H2 hy
  have hm:rs[i]∈rs:=Asu hlt
  have etake:(sps rs).take (i+1)=(sps rs).take i++[(rs[i]).2]:=by rw[Awh,es];rfl
  refine⟨(rs[i]).1,_,rfl,Awq (sm _ _ (ok _ hm)),rfl,_,_,rfl,_,_,rfl,rfl,?_⟩
  show tt ((σ'.set 0 (some (.int (rs[i]).2.1))).set 1 (some (.int (rs[i]).2.2))) _ _
  rw[hσ]
  refine hp _ hm _ sm _ λH4 s4=>?_
  have hss:∀v w,((((U8 cap σ).set 0 (some (.int (rs[i]).2.1))).set 1 (some (.int (rs[i]).2.2))).set 0 v).set 1 w=((U8 cap σ).set 0 v).set 1 w:=λv w=>by
   rw[List.set_comm _ _ (by decide:(1:Nat)≠0),Au9,Au9]
  cases hb:p (rs[i]).2 with
  |
   false=>
   refine Am2 ⟨rs.length-(i+1),dkl,rfl,hlt,hss,s4 _ _ hl,sm.trans s4,?_⟩
   rw[etake,At0,hys]
   simp[hb]
  |
   true=>
   refine Ame ?_
   refine he _ hm hb _ (sm.trans s4) _ λH5 s5=>?_
   have hl5:=s5 _ _ (s4 _ _ hl)
   refine⟨hl5,?_,rs.length-(i+1),dkl,rfl,hlt,hss,Ae,λb o eb=>?_,?_⟩
   ·
    have h1:ys.length<=rs.length:=by
     rw[hys,Aqv]
     refine Aq3 (Atc _ _) ?_
     rw[Ar4,Ni]
     exact Awp _ _
    have h2:(100000:Nat)<sizeLine:=by decide
    lia
   ·
    rw[An (Ap eb hD)]
    exact s5 _ _ (s4 _ _ (sm _ _ eb))
   ·
    rw[etake,At0,hys]
    simp[hb]
 ·
  have e:i=rs.length:=by lia
  subst e
  have e2:(refs rs).length=rs.length:=Q5 rs
  refine .inl ⟨e2▸q2,k D _ sm hD ?_⟩
  rw[hl,hys,←Ni rs,Ats]
end L2
namespace L2
open PySem PySem.Spec PyProof.Rows PySem.SeqAt
variable {X:Cx}
def Afe (hJ:Seq J H1 (refs rs))(ok:RowOk H1 rs)(p:Int×Int->Bool)(f:Int×Int->V)(hsz:rs.length<=100000)
  (hp:∀y∈rs,∀H',Same H1 H'->∀R:Bool->Hp->Prop,(∀H'',Same H' H''->R (p y.2) H'')->tt ((U8 cap σ).set 0 (some (.ref y.1))) H' R)
  (he:∀y∈rs,p y.2=true->∀H',Same H1 H'->∀R:VK,(∀H'',Same H' H''->R (f y.2) H'')->te ((U8 cap σ).set 0 (some (.ref y.1))) H' R)
  (k:∀D H',Same H1 H'->H1 D=none->H' D=some (.lst (((sps rs).filter p).map f))->Q (.ref D) H'):
  T8 J H1 cap (fj 0) tt te σ Q:=by
 intro D hD
 refine⟨λi m ys σ' H'=>m=rs.length-i/\i<=rs.length/\(∀v,σ'.set 0 v=(U8 cap σ).set 0 v)/\H' D=some (.lst ys)/\Same H1 H'/\ys=(((sps rs).take i).filter p).map f,
  ⟨rs.length,dks,Ar3 _,λ_=>rfl,Ae,Ai hD,dks⟩,?_⟩
 rintro i m ys σ' H' ⟨rfl,hi,hσ,hl,sm,hys⟩
 refine⟨hl,?_⟩
 obtain⟨q1,q2⟩:=hJ H' sm
 by_cases hlt:i<rs.length
 ·
  have e:(refs rs)[i]?=some (.ref (rs[i]).1):=by unfold refs;simp[hlt]
  have es:(sps rs)[i]?=some (rs[i]).2:=by unfold sps;simp[hlt]
  obtain⟨go,y⟩:=q1 i _ e
  refine .inr ⟨go,λx H2 hy=>?_⟩
  obtain⟨rfl,rfl⟩:=y x H2 hy
  have hm:rs[i]∈rs:=Asu hlt
  have etake:(sps rs).take (i+1)=(sps rs).take i++[(rs[i]).2]:=by rw[Awh,es];rfl
  show tt (σ'.set 0 (some (.ref (rs[i]).1))) _ _
  rw[hσ]
  refine hp _ hm _ sm _ λH4 s4=>?_
  have hss:∀v,((U8 cap σ).set 0 (some (.ref (rs[i]).1))).set 0 v=(U8 cap σ).set 0 v:=λv=>by rw[Au9]
  cases hb:p (rs[i]).2 with
  |
   false=>
   refine Am2 ⟨rs.length-(i+1),dkl,rfl,hlt,hss,s4 _ _ hl,sm.trans s4,?_⟩
   rw[etake,At0,hys]
   simp[hb]
  |
   true=>
   refine Ame ?_
   refine he _ hm hb _ (sm.trans s4) _ λH5 s5=>?_
   have hl5:=s5 _ _ (s4 _ _ hl)
   refine⟨hl5,?_,rs.length-(i+1),dkl,rfl,hlt,hss,Ae,λb o eb=>?_,?_⟩
   ·
    have h1:ys.length<=rs.length:=by
     rw[hys,Aqv]
     refine Aq3 (Atc _ _) ?_
     rw[Ar4,Ni]
     exact Awp _ _
    have h2:(100000:Nat)<sizeLine:=by decide
    lia
   ·
    rw[An (Ap eb hD)]
    exact s5 _ _ (s4 _ _ (sm _ _ eb))
   ·
    rw[etake,At0,hys]
    simp[hb]
 ·
  have e:i=rs.length:=by lia
  subst e
  have e2:(refs rs).length=rs.length:=Q5 rs
  refine .inl ⟨e2▸q2,k D _ sm hD ?_⟩
  rw[hl,hys,←Ni rs,Ats]
def Y7 (hu:X.A.units+2<cLine):OpR X (compareOp .NotEq) (λx y H Q=>∃(a b:Addr)(ns:List Int),x=.ref a/\y=.ref b/\H a=some (.lst (ns.map V.int))/\H b=some (.lst (ns.map V.int))/\Q (.bl false) H):=by
 intro pins s σ H x y v u Q I rx ry h
 obtain⟨a,b,ns,rfl,rfl,ha,hb,q⟩:=h
 cases rx
 cases ry
 obtain⟨its,rv,pl,hz⟩:=I.list (Aws (K:=X.K) ha)
 obtain⟨its2,rv2,pl2,hz2⟩:=I.list (Aws (K:=X.K) hb)
 have l1:=rv.length
 have l2:=rv2.length
 refine RcNeAt.lists (e:=λ_=>true) pl.isList pl2.isList (by rw[Aq2,Aq2,←l1,←l2]) dkl (λj h1 h2=>?_) X.prog X.w X.xe _ ?_
 ·
  rw[Aq2] at h1 h2
  have hj:j<ns.length:=by rw[←l1,Aqv] at h1;exact h1
  have e:(ns.map V.int)[j]?=some (.int (ns[j])):=by rw[Are,Aq6 hj];rfl
  obtain⟨u1,g1,t1,r1⟩:=rv.get e
  obtain⟨u2,g2,t2,r2⟩:=rv2.get e
  rw[Aq6 h1] at g1
  rw[Aq6 h2] at g2
  have k1:its.toArray[j]=.int ns[j] t1:=by rw[Auz,←r1];exact Arl g1
  have k2:its2.toArray[j]=.int ns[j] t2:=by rw[Auz,←r2];exact Arl g2
  rw[k1,k2]
  have z:=EqAt.int_int (A:=X.A.in1) (s:=s) ns[j] t1 ns[j] t2
  rw[Awo] at z
  exact z
 ·
  have ee:((List.range its.toArray.size).all λ_=>true)=true:=Atv.mpr λ_ _=>rfl
  rw[ee]
  exact⟨.bl false,H,I,rfl,q⟩
end L2
namespace L2
open PySem PySem.Spec PyProof.Rows
variable {X:Cx}
def Aps (t u:TS):TS:=λD σ H=>∃P:St->Hp->Prop,t {D with nx:=P} σ H/\∀σ' H',P σ' H'->u D σ' H'
theorem Nb {st:Stmt}{rest:List Stmt}{t u:TS}(h1:PS X st t)(h2:PSs X rest u):PSs X (st::rest) (Aps t u):=by
 intro pins s σ H D I h
 obtain⟨P,ha,hb⟩:=h
 refine wpAny_execs_cons (thn (h1 pins s σ H {D with nx:=P} I ha) λf s1 q=>?_)
 cases f with
 |
  next=>
  obtain⟨σ',H',I',q⟩:=q
  exact h2 pins s1 σ' H' D I' (hb σ' H' q)
 | ret v=>exact q
 | brk=>exact q
 | cont=>exact q
end L2
namespace L2
open PySem PySem.Spec PySem.Calls PyProof.Rows
structure MkN (K:W.Frag)(C:Addr):Prop where
 makes:W.makesIn K C=true
 init:W.findIn K (.ref C) "__init__"=some (some (.builtin "object.__init__"))
 kp:W.keepIn K (.ref C)=true
def Amd (C:Addr):TE:=λ_ H Q=>∀x dx,H x=none->H dx=none->dx≠x->Q (.ref x) (upd (upd H dx (.own x)) x (.ins C dx []))
variable {X:Cx}
def Agw (M:MkN X.K C)(hg:Gl X x)(hm:X.mg x=some (.ref C))(hdb:(x==("__debug__":Str))=false:=by decide):PE X (.Call (.Name x p) [] [] pos) (Amd C):=by
 intro pins s0 σ H Q I0 h
 refine As2 (jl I0 hg hm ?_ hdb)
 refine W.callWith_K0 I0.kIn M.kp (Ave ?_)
 have hq:=h (s0.heap.objs.size+1) s0.heap.objs.size (I0.hok.fresh (Au4 _)) (I0.hok.fresh (Aq0 _)) (Arc (Asj _))
 have I2:=Inv.made (C:=C) I0
 have KX:=I0.kIn
 obtain⟨hh,g,d,t,os⟩:=s0
 have Y:=W.makes_of (M:=model X.prog X.w) KX M.makes
 refine W.make_core Y (W.looks_findIn KX M.init) (λself=>W.Looks.of_pure (W.oi_bind self)) (.inr ⟨rfl,rfl⟩) ?_
 have e2:((hh.push W.emptyDict).push (W.instObj C hh.objs.size)).get? (hh.objs.size+1)=some (W.instObj C hh.objs.size):=by
  have:=Aq1 (hh.push W.emptyDict) (o:=W.instObj C hh.objs.size) rfl
  rwa[Ar6] at this
 have t1:W.Looks (model X.prog X.w) ((hh.push W.emptyDict).push (W.instObj C hh.objs.size)) (typeOf (.ref (hh.objs.size+1))) (.ref C):=(W.Looks.ld e2).andThen .now
 have t2:W.Looks (model X.prog X.w) ((hh.push W.emptyDict).push (W.instObj C hh.objs.size)) (isInstance (.ref (hh.objs.size+1)) (.type "object")) true:=t1.andThen (Y.top.keeps λb o e=>Aqr _ (Aqr _ e))
 refine Auf W.oi_plain W.entry_oi (@W.check_slot (model X.prog X.w) _ _ _ "object.__init__" "object" "__init__" (.ref (hh.objs.size+1)) [] [] _ W.oi_kind W.oi_split t2 (W.oi_args (.ref (hh.objs.size+1))) ?_)
 rw[show([]++[]:List Value)=[] from rfl,W.oi_run]
 exact Aqt (And.intro rfl ⟨V.ref (hh.objs.size+1),_,I2,rfl,hq⟩)
end L2
namespace L2
open PySem PySem.Spec PyProof.Rows
section
variable (P:Program)(w:World)
end
variable {w:World}{H:Hp}{H':Hp}
variable {X:Cx}{pins:List (Addr×Obj)}{s:Shared}
variable {σ:St}
variable {E:Value->Shared->Prop}
variable {prog:Program}{A:Around}
section
variable {κ:Type}[DecidableEq κ]
def Us (kvs:List (κ×V))(k:κ):Option V:=(kvs.find? λkv=>decide (kv.1=k)).map (·.2)
def putK (kvs:List (κ×V))(k:κ)(v:V):List (κ×V):=
 if(kvs.any λkv=>decide (kv.1=k))=true then kvs.map (λkv=>if kv.1=k then(kv.1,v) else kv) else kvs++[(k,v)]
def Iq {p:κ×V}{r:List (κ×V)}{k:κ}(e:p.1=k):Us (p::r) k=some p.2:=by simp[Us,Auj,e]
def Js {p:κ×V}{r:List (κ×V)}{k:κ}(e:¬p.1=k):Us (p::r) k=Us r k:=by simp[Us,Auj,e]
theorem e8 (k:κ):∀kvs:List (κ×V),(kvs.any λkv=>decide (kv.1=k))=(Us kvs k).isSome
 | []=>rfl
 |
  p::r=>by
  rw[Au1]
  by_cases e:p.1=k
  · simp only[Iq e,Aqs e,Avy,Option.isSome_some]
  · rw[Js e,Aqz e,Bool.false_or];exact e8 k r
theorem zd (k j:κ)(y:V):∀kvs:List (κ×V),Us (kvs.map λkv=>if kv.1=k then(kv.1,y) else kv) j=(Us kvs j).map λx=>if j=k then y else x
 | []=>rfl
 |
  p::r=>by
  have ih:=zd k j y r
  rw[Ar1]
  by_cases h:p.1=k
  ·
   rw[if_pos h]
   by_cases e:p.1=j
   · rw[Iq (p:=(p.1,y)) e,Iq e,Avv,if_pos (e.symm.trans h)]
   · rw[Js (p:=(p.1,y)) e,Js e,ih]
  ·
   rw[if_neg h]
   by_cases e:p.1=j
   · rw[Iq (p:=p) e,Iq e,Avv,if_neg (λz=>h (e.trans z))]
   · rw[Js (p:=p) e,Js e,ih]
theorem vt (k j:κ)(y:V):∀kvs:List (κ×V),Us kvs k=none->Us (kvs++[(k,y)]) j=if j=k then some y else Us kvs j
 |
  [],_=>by
  by_cases e:k=j
  · rw[if_pos e.symm];exact Iq (p:=(k,y)) e
  · rw[if_neg (λz=>e z.symm)];exact Js (p:=(k,y)) e
 |
  p::r,hn=>by
  rw[List.cons_append]
  have hk:¬p.1=k:=λz=>by rw[Iq z] at hn;cases hn
  rw[Js hk] at hn
  have ih:=vt k j y r hn
  by_cases e:p.1=j
  · rw[Iq e,Iq e,if_neg (λz=>hk (e.trans z))]
  · rw[Js e,Js e,ih]
def Qv (kvs:List (κ×V))(k j:κ)(y:V):Us (putK kvs k y) j=if j=k then some y else Us kvs j:=by
 unfold putK
 by_cases a:(kvs.any λkv=>decide (kv.1=k))=true
 ·
  rw[if_pos a,zd]
  rw[e8] at a
  by_cases e:j=k
  ·
   obtain⟨x,hx⟩:=Avh.mp a
   rw[if_pos e,e,hx,Avv,if_pos rfl]
  ·
   rw[if_neg e]
   cases Us kvs j with
   | none=>rfl
   | some x=>rw[Avv,if_neg e]
 ·
  rw[if_neg a]
  refine vt k j y kvs ?_
  rw[e8] at a
  cases q:Us kvs k with
  | none=>rfl
  | some x=>rw[q] at a;exact(a rfl).elim
def V5 (kvs:List (κ×V))(k:κ)(v:V):(putK kvs k v).length<=kvs.length+1:=by
 unfold putK
 split
 · rw[Aqv];lia
 · rw[Aqw,Arx,List.length_nil];lia
theorem RelO.isSome_eq (r:RelO o u):o.isSome=u.isSome:=by
 cases o with
 |
  none=>cases u with
  | none=>rfl
  | some _=>exact(show False from r).elim
 |
  some _=>cases u with
  | none=>exact(show False from r).elim
  | some _=>rfl
theorem KV.val (r:KV kvs vs)(k:κ):RelO (Us kvs k) (valueAt vs k):=by
 unfold KV at r
 induction r with
 | nil=>exact True.intro
 |
  @cons p q ps qs h t ih=>
  obtain⟨h1,h2⟩:=h
  by_cases e:p.1=k
  ·
   have e':q.1=k:=h1.symm.trans e
   have b:valueAt (q::qs) k=some q.2:=by simp[valueAt,Auj,e']
   rw[Iq e,b];exact h2
  ·
   have e':¬q.1=k:=λz=>e (h1.trans z)
   have b:valueAt (q::qs) k=valueAt qs k:=by simp[valueAt,Auj,e']
   rw[Js e,b];exact ih
theorem KV.any (r:KV kvs vs)(k:κ):(kvs.any λkv=>decide (kv.1=k))=vs.any λkv=>decide (kv.1=k):=by
 unfold KV at r
 induction r with
 | nil=>rfl
 | cons h t ih=>rw[Au1,Au1,ih,h.1]
theorem KV.repl (r:KV kvs vs)(k:κ)(ry:RelV y u):
  KV (kvs.map λkv=>if kv.1=k then(kv.1,y) else kv) (vs.map λkv=>if kv.1=k then(kv.1,u) else kv):=by
 unfold KV at r ⊢
 induction r with
 | nil=>exact .nil
 |
  @cons p q ps qs h t ih=>
  rw[Ar1,Ar1]
  refine .cons ?_ ih
  obtain⟨h1,h2⟩:=h
  by_cases e:p.1=k
  · rw[if_pos e,if_pos (h1.symm.trans e)];exact⟨h1,ry⟩
  · rw[if_neg e,if_neg (λz=>e (h1.trans z))];exact⟨h1,h2⟩
def KV.put (r:KV kvs vs)(k:κ)(ry:RelV y u):KV (putK kvs k y) (stored vs k u):=by
 unfold putK stored
 rw[r.any k]
 by_cases e:(vs.any λkv=>decide (kv.1=k))=true
 · rw[if_pos e,if_pos e];exact r.repl k ry
 · rw[if_neg e,if_neg e];exact Paired.snoc r ⟨rfl,ry⟩
theorem KV.length (r:KV kvs vs):kvs.length=vs.length:=Paired.length r
end
theorem Ac3 (r:RelV (kV k) u):(Ge P w).is k u=true:=by
 cases k with
 | inl i=>obtain⟨t,e⟩:=(show ∃t,u=Value.int i t from r);subst e;exact xw P w i t
 | inr x=>obtain⟨t,e⟩:=(show ∃t,u=Value.str x t from r);subst e;exact xh P w x t
theorem t5:∀{ks:List Key}{us:List Value},Vals (ks.map kV) us->ItemsAre (Ge P w) ks us
 | [],_,r=>by rw[Auw] at r;cases r;exact .nil
 |
  k::ks,_,r=>by
  rw[Ar1] at r
  cases r with
  | cons h t=>exact .cons (Ac3 h) (t5 t)
abbrev KT (H:Hp):List (List Key×V)->List (List Key×Addr×Value)->Prop:=Paired λp q=>p.1=q.1/\H q.2.1=some (.tup (p.1.map kV))/\RelV p.2 q.2.2
theorem KT.val (r:KT H kvs xs)(k:List Key):RelO (Us kvs k) ((atKey xs k).map (·.2)):=by
 induction r with
 | nil=>exact True.intro
 |
  @cons p q ps qs h t ih=>
  obtain⟨h1,_,h2⟩:=h
  by_cases e:p.1=k
  ·
   have e':q.1=k:=h1.symm.trans e
   have b:atKey (q::qs) k=some q.2:=by simp[atKey,Auj,e']
   rw[Iq e,b];exact h2
  ·
   have e':¬q.1=k:=λz=>e (h1.trans z)
   have b:atKey (q::qs) k=atKey qs k:=by simp[atKey,Auj,e']
   rw[Js e,b];exact ih
theorem KT.repl (r:KT H kvs xs)(k:List Key)(ry:RelV y u):
  KT H (kvs.map λkv=>if kv.1=k then(kv.1,y) else kv) (xs.map (putAt k u)):=by
 induction r with
 | nil=>exact .nil
 |
  @cons p q ps qs h t ih=>
  rw[Ar1,Ar1]
  refine .cons ?_ ih
  obtain⟨h1,h2,h3⟩:=h
  unfold putAt
  by_cases e:p.1=k
  · rw[if_pos e,if_pos (h1.symm.trans e)];exact⟨h1,h2,ry⟩
  · rw[if_neg e,if_neg (λz=>e (h1.trans z))];exact⟨h1,h2,h3⟩
def KT.put (r:KT H kvs xs)(k:List Key)(hb:H b=some (.tup (k.map kV)))(ry:RelV y u):
  KT H (putK kvs k y) (storedH xs k b u):=by
 have e:(kvs.any λkv=>decide (kv.1=k))=(atKey xs k).isSome:=by
  rw[e8,(r.val k).isSome_eq,Option.isSome_map]
 unfold putK storedH
 rw[e]
 by_cases q:(atKey xs k).isSome=true
 · rw[if_pos q,if_pos q];exact r.repl k ry
 · rw[if_neg q,if_neg q];exact Paired.snoc r ⟨rfl,hb,ry⟩
def KT.keeps (r:KT H kvs xs)(ht:∀b ys,H b=some (.tup ys)->H' b=some (.tup ys)):KT H' kvs xs:=
 Paired.mapP r λ_ _ z=>⟨z.1,ht _ _ z.2.1,z.2.2⟩
def Amb (ok:HOk P w H h)(e:Rd H a u):ObjOk P w H h a u:=e.ok ok
def Agk (ok:HOk P w H h)(e:Rd H a (.dK kvs)):kvs.length<=sizeLine/\(a==sysModules)=false/\∃vs,KV kvs vs/\h.DictOf (Ge P w) a vs:=
 show ObjOk P w H h a (.dK kvs) from Amb ok e
def Aln (ok:HOk P w H h)(e:H a=some (.dK kvs)):kvs.length<=sizeLine/\(a==sysModules)=false/\∃vs,KV kvs vs/\h.DictOf (Ge P w) a vs:=Agk ok (.inl e)
def zo (ok:HOk P w H h)(e:H a=some (.tup (ks.map kV))):(tupleKind (Ge P w)).is h ks a:=by
 obtain⟨_,its,r,o,h1,h2,n,h3⟩:=(show ObjOk P w H h a (.tup (ks.map kV)) from ok a _ e)
 exact⟨o,its.toArray,n,h1,h2,h3,by simpa using t5 r⟩
def Afz (ok:HOk P w H h)(e:Rd H a (.dT kvs)):kvs.length<=sizeLine/\(a==sysModules)=false/\
  ∃xs,KT H kvs xs/\h.DictOfH (tupleKind (Ge P w)) a xs:=by
 obtain⟨z,y,xs,r,o,es,ep,h1,h2,h3,h4,h5⟩:=(show ObjOk P w H h a (.dT kvs) from Amb ok e)
 refine⟨z,y,xs,r,o,es,ep,h1,h2,h3,h4,λx hx=>?_,h5⟩
 have all:∀{l:List (List Key×V)}{m:List (List Key×Addr×Value)},KT H l m->∀x∈m,(tupleKind (Ge P w)).is h x.1 x.2.1:=by
  intro l m q
  induction q with
  | nil=>intro x hx;exact nomatch hx
  |
   @cons p q ps qs hq t ih=>
   intro x hx
   rcases Ara.mp hx with e|hx
   ·
    subst e
    exact zo ok (by rw[←hq.1];exact hq.2.1)
   · exact ih x hx
 exact all r x hx
def Aos (ok:HOk P w H h)(e:H a=some (.dT kvs)):kvs.length<=sizeLine/\(a==sysModules)=false/\
 ∃xs,KT H kvs xs/\h.DictOfH (tupleKind (Ge P w)) a xs:=Afz ok (.inl e)
def DGet (H:Hp)(a:Addr)(y:V)(r:Option V):Prop:=
 (∃kvs k,Rd H a (.dK kvs)/\y=kV k/\r=Us kvs k)∨∃kvs k b,Rd H a (.dT kvs)/\y=.ref b/\H b=some (.tup (k.map kV))/\r=Us kvs k
def DPut (H:Hp)(a:Addr)(y v:V)(H':Hp):Prop:=
 (∃kvs k,H a=some (.dK kvs)/\y=kV k/\kvs.length<sizeLine/\H'=upd H a (.dK (putK kvs k v)))∨
 ∃kvs k b,H a=some (.dT kvs)/\y=.ref b/\H b=some (.tup (k.map kV))/\kvs.length<sizeLine/\H'=upd H a (.dT (putK kvs k v))
theorem DGet.k {H:Hp}{a:Addr}{kvs:List (Key×V)}{k:Key}(e:H a=some (.dK kvs)):DGet H a (kV k) (Us kvs k):=.inl ⟨kvs,k,.inl e,rfl,rfl⟩
theorem DPut.k {H:Hp}{a:Addr}{kvs:List (Key×V)}{k:Key}{v:V}(e:H a=some (.dK kvs))(hl:kvs.length<sizeLine):DPut H a (kV k) v (upd H a (.dK (putK kvs k v))):=.inl ⟨kvs,k,e,rfl,hl,rfl⟩
def Inv.big (I:Inv X pins σ H s):sysModules<s.heap.objs.size:=by
 have h:mainGlobals<s.heap.objs.size:=(I.mod.glob.keeps I.bk).lt
 exact Nat.lt_trans dkd h
def Abu (hu:A.units+1<cLine)(I:Inv X pins σ H s)(g:DGet H a y (some v))(ry:RelV y u)(h:∀w' s',Inv X pins σ H s'->RelV v w'->Q w' s'):
  wpAny (model X.prog X.w) A (getItem (.ref a) u) Q E s:=by
 rcases g with⟨kvs,k,e,ey,l⟩|⟨kvs,k,b,e,ey,eb,l⟩
 ·
  subst ey
  obtain⟨z,hd,vs,rel,dd⟩:=Agk I.hok e
  obtain⟨w',hw,rw'⟩:=RelO.some_of (v:=v) (o:=valueAt vs k) (by rw[l];exact rel.val k)
  exact wpAny_getItem_of (Ac3 ry) dd.mapOf hw (h w' _ (I.tok _) rw')
 ·
  subst ey
  cases (show u=Value.ref b from ry)
  obtain⟨z,hd,xs,rel,dd⟩:=Afz I.hok e
  obtain⟨w',hw,rw'⟩:=RelO.some_of (v:=v) (o:=(atKey xs k).map (·.2)) (by rw[l];exact rel.val k)
  obtain⟨p,hp,hp2⟩:=Aun.mp hw
  refine wpAny_getItem_heap (tupleKind_room_in1 hu) (zo I.hok eb) dd hp ?_
  rw[hp2]
  exact h w' _ (I.tok _) rw'
def Ajg (hu:A.units+1<cLine)(I:Inv X pins σ H s)(g:DGet H a y o)(ry:RelV y u)(h:∀s',Inv X pins σ H s'->Q (.bool (!o.isSome)) s'):
  wpAny (model X.prog X.w) A (compareOp .NotIn u (.ref a)) Q E s:=by
 rcases g with⟨kvs,k,e,ey,l⟩|⟨kvs,k,b,e,ey,eb,l⟩
 ·
  subst ey
  obtain⟨z,hd,vs,rel,dd⟩:=Agk I.hok e
  refine wpAny_notIn_of (Ac3 ry) hd dd.mapOf ?_
  rw[←(rel.val k).isSome_eq,←l]
  exact h _ (I.tok _)
 ·
  subst ey
  cases (show u=Value.ref b from ry)
  obtain⟨z,hd,xs,rel,dd⟩:=Afz I.hok e
  refine wpAny_notIn_heap (tupleKind_room_in1 hu) (zo I.hok eb) hd dd ?_
  have q:=(rel.val k).isSome_eq
  rw[Option.isSome_map] at q
  rw[←q,←l]
  exact h _ (I.tok _)
def wm (I:Inv X pins σ H s)(mu:Mut (H a))(hs:Heap.SameBut a s.heap h')(he:∃q,h'.get? a=some q)(new:ObjOk X.prog X.w (upd H a ob) h' a ob):
  Inv X pins σ (upd H a ob) {s with heap:=h',toks:=t'}:=
 I.write (x:=a) (e:=a) mu (.inl rfl) (λb q hb z=>(hs.2 b hb).trans z) he new
def Ahl (z:kvs.length<=sizeLine)(hd:(a==sysModules)=false)(rel:KV kvs vs)(dd:h'.DictOf (Ge P w) a vs):
 ObjOk P w H' h' a (.dK kvs):=⟨z,hd,vs,rel,dd⟩
def Ace (hu:A.units+1<cLine)(I:Inv X pins σ H s)(g:DPut H a y v H')(ry:RelV y u)(rv:RelV v r)(h:∀s',Inv X pins σ H' s'->Q () s'):
  wpAny (model X.prog X.w) A (setItem (.ref a) u r) Q E s:=by
 rcases g with⟨kvs,k,e,ey,l,eH⟩|⟨kvs,k,b,e,ey,eb,l,eH⟩
 ·
  subst ey eH
  obtain⟨z,hd,vs,rel,dd⟩:=Aln I.hok e
  have hz:vs.length<=sizeLine:=by rw[←rel.length];exact z
  have hl:(putK kvs k v).length<=sizeLine:=by have:=V5 kvs k v;lia
  refine wpAny_setItem_pairs (hsz:=hz) (Ac3 ry) dd λh' dd' hs=>h _ ?_
  have he:∃q,h'.get? a=some q:=let ⟨q,_,_,hq,_⟩:=dd';⟨q,hq⟩
  exact wm I (by rw[e];exact True.intro) hs he (Ahl hl hd (rel.put k rv) dd')
 ·
  subst ey eH
  cases (show u=Value.ref b from ry)
  obtain⟨z,hd,xs,rel,dd⟩:=Aos I.hok e
  have hz:xs.length<=sizeLine:=by rw[←Paired.length rel];exact z
  have hl:(putK kvs k v).length<=sizeLine:=by have:=V5 kvs k v;lia
  refine wpAny_setItem_heap (hsz:=hz) (tupleKind_room_in1 hu) (zo I.hok eb) dd λh' dd' hs=>h _ ?_
  obtain⟨q,es,ep,hq,h2,h3,h4,_,h5⟩:=dd'
  refine wm I (by rw[e];exact True.intro) hs ⟨q,hq⟩ ⟨hl,hd,_,(rel.put k eb rv).keeps λc ys ec=>?_,q,es,ep,hq,h2,h3,h4,h5⟩
  rw[An (Anm ec e (λz=>nomatch z))]
  exact ec
def Ao6 (i:Expr):Prop:=∀ov iv,subscripted i false ov iv=operate [ov,iv] (getItem ov iv)
def Aij {prog:Program}{w:World}{A:Around}{E:Value->Shared->Prop}{s:Shared}{env:Env}{value slice:Expr}{pos:Pos}{T id:String}{Q:Value->Shared->Prop}
  (hl:typeLookup (.type T) "__getitem__"=pure (some (.builtin id))) (hs:Ao6 slice)
  (h:wpAny (model prog w) A (eval value env) (λo s₁=>wpAny (model prog w) A (eval slice env) (λi s₂=>s₂.TypeIs o T/\wpAny (model prog w) A (getItem o i) Q E s₂) E s₁) E s):
  wpAny (model prog w) A (eval (.Subscript value slice pos) env) Q E s:=by
 refine Subscript_ (Asp h (λo s₁ h₁=>Asp h₁ (λi s₂ h₂=>?_) λ_ _ x=>x) λ_ _ x=>x)
 obtain⟨hT,h₂⟩:=h₂
 unfold subscriptTail
 refine Aqq ?_
 rw[getitemInPython_of_ne hT.not_modules]
 refine Aqq (Awb hT hl ?_)
 have fin:wpAny (model prog w) A (subscripted slice false o i) (λr s₃=>wpAny (model prog w) A (letTemporaryGo value o r>>= λ_=>pure r) Q E s₃) E s₂:=by
  rw[hs o i]
  exact wpAny_operating (Asp h₂ (λr s₃ h₃=>Aqq (wpAny_letTemporaryGo (Aqt h₃))) λ_ _ x=>x)
 first
  | exact Aqt (Aqq fin)
  | exact Aqq (Aqt (Aqq fin))
  | exact Aqq fin
def xx (I:Inv X pins σ H s)(g:DGet H a y o):s.TypeIs (.ref a) "dict":=by
 rcases g with⟨kvs,k,e,_,_⟩|⟨kvs,k,b,e,_,_,_⟩
 ·
  obtain⟨_,_,vs,_,dd⟩:=Agk I.hok e
  exact dd.typeIs
 ·
  obtain⟨_,_,xs,_,dd⟩:=Afz I.hok e
  exact dd.typeIs
def Aoc (td ty:TE):TE:=λσ H Q=>td σ H λx H1=>ty σ H1 λy H2=>∃a v,x=.ref a/\DGet H2 a y (some v)/\Q v H2
def Ai8 (ty td:TE):TE:=λσ H Q=>ty σ H λy H1=>td σ H1 λx H2=>∃a o,x=.ref a/\DGet H2 a y o/\Q (.bl (!o.isSome)) H2
def Aor (td ty tv:TE):TS:=λD σ H=>tv σ H λv H1=>td σ H1 λx H2=>ty σ H2 λy H3=>∃a H4,x=.ref a/\DPut H3 a y v H4/\D.nx σ H4
def Ah0 (hu:X.A.units+1<cLine)(ho:PE X o td)(hi:PE X i ty)(hs:Ao6 i):PE X (.Subscript o i pos) (Aoc td ty):=by
 intro pins s σ H Q I h
 refine Aij PySem.F.slot_dict_getitem.lookup hs (thn (ho pins s σ H _ I h) λu s1 ⟨x,H1,I1,rx,q1⟩=>thn (hi pins s1 σ H1 _ I1 q1) λiv s2 hz=>?_)
 obtain⟨y,H2,I2,ry,a,v,ex,g,q2⟩:=hz
 subst ex
 obtain rfl:u=Value.ref a:=rx
 exact⟨xx I2 g,Abu hu I2 g ry λw' s3 I3 rw'=>⟨v,H2,I3,rw',q2⟩⟩
def t6 (hu:X.A.units+1<cLine)(hi:PE X i ty)(ho:PE X o td):PC X .NotIn i o (Ai8 ty td):=by
 intro pins s σ H Q I h
 refine thn (hi pins s σ H _ I h) λiv s1 ⟨y,H1,I1,ry,q1⟩=>thn (ho pins s1 σ H1 _ I1 q1) λu s2 hz=>?_
 obtain⟨x,H2,I2,rx,a,ov,ex,g,q2⟩:=hz
 subst ex
 obtain rfl:u=Value.ref a:=rx
 exact Ajg hu I2 g ry λs3 I3=>⟨.bl (!ov.isSome),H2,I3,rfl,q2⟩
def Ad2 (hu:X.A.units+1<cLine)(ho:PE X o td)(hi:PE X i ty)(hv:PE X value tv)(hs:swapsWith value (some (.Subscript o i pos')) pos.line X.env=pure false):
  PS X (.Assign [.Subscript o i pos'] value pos) (Aor td ty tv):=by
 intro pins s σ H D I h
 refine wpAny_Assign_Subscript (thn (hv pins s σ H _ I h) λr s1 ⟨v,H1,I1,rv,q1⟩=>thn (ho pins s1 σ H1 _ I1 q1) λu s2 ⟨x,H2,I2,rx,q2⟩=>thn (hi pins s2 σ H2 _ I2 q2) λiv s3 ⟨y,H3,I3,ry,a,H4,ex,g,q3⟩=>?_) hs
 subst ex
 obtain rfl:u=Value.ref a:=rx
 exact Ace hu I3 g ry rv λs4 I4=>⟨σ,H4,I4,q3⟩
def zu (h:Heap)(hb:sysModules<h.objs.size):ObjOk P w H (h.push {cls:=.type "dict",data:=.dict #[]}) h.objs.size (.dK []):=
 ⟨Ar3 _,Atm.mpr (Avl (Arc hb)),[],.nil,Heap.DictOf.new h⟩
def Akq:TE:=λ_ H Q=>∀p,H p=none->Q (.ref p) (upd H p (.dK []))
def Afh:PE X (.Dict [] [] pos) Akq:=λpins s σ H Q I h=>
 wpAny_Dict_empty ⟨.ref s.heap.objs.size,_,I.laid (a:=s.heap.objs.size) (o:=.dK []) (t':=s.toks) (λ_ _ q=>Aqr _ q) (Aq0 _) (zu s.heap I.big),rfl,h _ (I.hok.fresh (Aq0 _))⟩
def Aby:List (TE×TE)->St->Hp->(List (V×V)->Hp->Prop)->Prop
 | [],_,H,Q=>Q [] H
 | (tk,tv)::r,σ,H,Q=>tk σ H λx H1=>tv σ H1 λy H2=>Aby r σ H2 λps H3=>Q ((x,y)::ps) H3
abbrev VV:List (V×V)->List (Value×Value)->Prop:=Paired λp q=>RelV p.1 q.1/\RelV p.2 q.2
def PPs (X:Cx)(pos:Pos)(keys:List (Option Expr))(values:List Expr)(trs:List (TE×TE)):Prop:=
 ∀(pins:List (Addr×Obj))(s:Shared)(σ:St)(H:Hp)(Q:List (V×V)->Hp->Prop),Inv X pins σ H s->Aby trs σ H Q->
  wpAny (model X.prog X.w) X.A (evalPairs (pairTrees keys values X.env pos)) (λvs s'=>∃ps H',Inv X pins σ H' s'/\VV ps vs/\Q ps H') X.xe s
def Aio:PPs X pos [] [] []:=λpins s σ H Q I h=>pairTrees_nil_walk ⟨[],H,I,.nil,h⟩
def qo (hk:PE X k tk)(hv:PE X v tv)(hr:PPs X pos ks vs trs):
  PPs X pos (some k::ks) (v::vs) ((tk,tv)::trs):=λpins s σ H Q I h=>
 pairTrees_cons_walk (thn (hk pins s σ H _ I h) λu s1 ⟨x,H1,I1,rx,q1⟩=>thn (hv pins s1 σ H1 _ I1 q1) λw2 s2 ⟨y,H2,I2,ry,q2⟩=>
  thn (hr pins s2 σ H2 _ I2 q2) λws s3 hz=>by obtain⟨ps,H3,I3,rel,q3⟩:=hz;exact⟨(x,y)::ps,H3,I3,.cons ⟨rx,ry⟩ rel,q3⟩)
def ai (kvs more:List (Key×V)):List (Key×V):=more.foldl (λacc kv=>putK acc kv.1 kv.2) kvs
theorem KV.merge:∀{more:List (Key×V)}{rs:List (Key×Value)}{kvs:List (Key×V)}{vs:List (Key×Value)},KV more rs->KV kvs vs->KV (ai kvs more) (merged vs rs):=by
 intro more rs kvs vs r
 unfold KV at r
 induction r generalizing kvs vs with
 | nil=>intro q;exact q
 |
  @cons p q ps qs h t ih=>
  intro r0
  have e:KV (putK kvs p.1 p.2) (stored vs q.1 q.2):=by
   have:=r0.put p.1 h.2
   rw[←h.1];exact this
  exact ih e
theorem Xb:∀(more kvs:List (Key×V)),(ai kvs more).length<=kvs.length+more.length
 | [],kvs=>by show kvs.length<=kvs.length+0;lia
 |
  p::r,kvs=>by
  have h1:=Xb r (putK kvs p.1 p.2)
  have h2:=V5 kvs p.1 p.2
  show(ai (putK kvs p.1 p.2) r).length<=_
  rw[Arx];lia
theorem oj {P:Program}{w:World}:∀{kvs:List (Key×V)}{ws:List (Value×Value)},VV (kvs.map λkv=>(kV kv.1,kv.2)) ws->∃rs,Carries (Ge P w) ws rs/\KV kvs rs
 | [],_,r=>by rw[Auw] at r;cases r;exact⟨[],True.intro,.nil⟩
 |
  p::kvs,_,r=>by
  rw[Ar1] at r
  cases r with
  |
   @cons a b as bs h t=>
   obtain⟨rs,c,q⟩:=oj (P:=P) (w:=w) t
   obtain⟨b1,b2⟩:=b
   exact⟨(p.1,b2)::rs,⟨Ac3 h.1,rfl,c⟩,.cons ⟨rfl,h.2⟩ q⟩
def An9 (trs:List (TE×TE)):TE:=λσ H Q=>∀p,H p=none->Aby trs σ (upd H p (.dK [])) λps H2=>H2 p=some (.dK [])/\∃kvs:List (Key×V),ps=kvs.map (λkv=>(kV kv.1,kv.2))/\kvs.length<=15/\Q (.ref p) (upd H2 p (.dK (ai [] kvs)))
def Aim (h:PPs X pos keys values trs)(hall:keys.all (·.isSome)=true)(hl:keys.length=values.length)(h0:keys≠[])
  (h15:keys.length<=15):PE X (.Dict keys values pos) (An9 trs):=by
 intro pins s σ H Q I q
 have hn:=I.hok.fresh (Aq0 s.heap.objs.size)
 have I1:=I.laid (a:=s.heap.objs.size) (o:=.dK []) (h':=s.heap.push {cls:=.type "dict",data:=.dict #[]}) (t':=s.toks) (λ_ _ q=>Aqr _ q) (Aq0 _) (zu s.heap I.big)
 refine wpAny_Dict_walk (knd:=Ge X.prog X.w) hall hl h0 h15 (thn (h pins _ σ _ _ I1 (q _ hn)) λws s2 hz=>?_)
 obtain⟨ps,H2,I2,rel,e,kvs,ep,lk,q2⟩:=hz
 subst ep
 obtain⟨rs,c,rk⟩:=oj (P:=X.prog) (w:=X.w) rel
 obtain⟨z,hd,vs0,r0,dd⟩:=Aln I2.hok e
 cases r0
 refine⟨rs,c,dd,λh' dd' hs=>⟨.ref s.heap.objs.size,_,?_,rfl,q2⟩⟩
 have hz:(ai [] kvs).length<=sizeLine:=by
  have h1:=Xb kvs []
  rw[List.length_nil] at h1
  rw[sizeLine_eq];lia
 have he:∃q,h'.get? s.heap.objs.size=some q:=let ⟨q,_,_,hq,_⟩:=dd';⟨q,hq⟩
 exact wm I2 (by rw[e];exact True.intro) hs he (Ahl hz hd (rk.merge .nil) dd')
end L2
namespace Att
open PySem PySem.W PySem.Calls PyProof.Rows
variable {prog:Program}{w:World}{A:Around}{E:Value->Shared->Prop}{s:Shared}
end Att
namespace L2
open PySem PySem.Spec PyProof.Rows
variable {w:World}
variable {X:Cx}
section
variable {κ:Type}[DecidableEq κ]
end
end L2
namespace L2
open PySem PySem.Spec PyProof.Rows PySem.Calls
def Ue (hN0:X.N.Nodup)(hi0:X.N[i0]?=some x0)(hx0:X.env.scope.names.lookup x0=some .local)
  (S:Cf X.env.scope scope X.N N cap) (hc:X.calm=true) (hi:PI X tgt iter wi)
  (hb:∀(C:Addr)(s:Shared)(H:Hp)(fp:List Addr),PG (Fn X N scope C s H fp) tgt g/\Amz (Fn X N scope C s H fp) ifs tt/\PE (Fn X N scope C s H fp) elt te)
  (hclos:closureFor scope X.env=pure (v8 X.env scope.names []):=by with_unfolding_all rfl) (hs:∀x,foldedSetIterable iter X.env x=pure x:=by intro _;rfl)
  (hsw:swapsWith (.ListComp elt [⟨tgt,iter,ifs,0⟩] scope pos) (some (.Name x0 pos')) spos.line X.env=pure true:=by with_unfolding_all rfl):
  PS X (.Assign [.Name x0 pos'] (.ListComp elt [⟨tgt,iter,ifs,0⟩] scope pos) spos) (Am1 (Alx wi cap g tt te) (fj i0)):=by
 intro pins s σ H D0 I h
 rw[exec_Assign_Name_used _ _ _ _ hsw]
 refine Aqq (wpAny_standAt (Aqq ?_))
 show wpAny (model X.prog X.w) X.A (comprehension (.ListComp elt [⟨tgt,iter,ifs,0⟩] scope pos) scope X.env (firstIterPos [⟨tgt,iter,ifs,0⟩] pos) (newList []) (firstAsync [⟨tgt,iter,ifs,0⟩]) (firstIter [⟨tgt,iter,ifs,0⟩] X.env) (some (assign (.Name x0 pos') X.env))>>= λ_=>pure ()) _ _ _
 refine Aqq (Asp (Q:=λ_ s'=>SP X pins D0 .next s') ?main (λ_ s' z=>Aqt (Aqt z)) λ_ _ z=>z)
 refine wpAny_comprehension_free (use:=some (assign (.Name x0 pos') X.env)) (cl:=v8 X.env scope.names []) rfl hs hclos S.kind S.names ?_
 refine thn (hi pins s σ H _ I h) λv s1 h1=>thn h1 λitv s2 h2=>?_
 obtain⟨it,fp,tn,J,H2,e,I2,T,st2,f2,k⟩:=h2
 subst e
 refine Ar2 (Awf S.cell (by intro y hy;simp at hy) (λh₁ hns₁ hsb₁=>?_) S.kind)
 dsimp only at hns₁ hsb₁ ⊢
 have I3:Inv X pins σ (upd H2 s2.heap.objs.size (.lst [])) {s2 with heap:=s2.heap.push {cls:=.type "list",dict:=none,data:=.seq ([]:List Value).toArray}}:=I2.lnew (t':=s2.toks) .nil (Ar3 _)
 obtain⟨W,⟨m0,w0⟩,turn⟩:=k s2.heap.objs.size I2.fresh
 generalize hD:s2.heap.objs.size=D at*
 generalize hsD:({s2 with heap:=s2.heap.push {cls:=.type "list",dict:=none,data:=.seq ([]:List Value).toArray}}:Shared)=sD at*
 have hsz:sD.heap.objs.size=D+1:=by rw[←hsD,←hD];exact Ar6 ..
 have hheap:s2.heap.push {cls:=.type "list",dict:=none,data:=.seq ([]:List Value).toArray}=sD.heap:=by rw[←hsD]
 rw[hheap] at hns₁ hsb₁ ⊢
 have up:∀b o,s2.heap.get? b=some o->sD.heap.get? b=some o:=λb o e=>by rw[←hheap];exact Aqr _ e
 have keep:∀b o,sD.heap.get? b=some o->h₁.get? b=some o:=λb o e=>hsb₁.extBut b o (Arc (Aqy e)) (Aqr _ e)
 have hfD:D∉fp:=λhm=>by
  obtain⟨o,e,_⟩:=T.obj _ _ st2 D hm
  have:=Aqy e
  rw[hD] at this
  exact Asd _ this
 have f3:∀b∈fp,Abq X pins (upd H2 D (.lst [])) b:=λb hb=>⟨by rw[An (λz=>hfD (by rw[←z];exact hb))];exact(f2 b hb).1,(f2 b hb).2⟩
 have hlt:∀b∈fp,b<sD.heap.objs.size:=λb hb=>by
  obtain⟨o,e,_⟩:=T.obj _ _ st2 b hb
  exact Aqy (up b o e)
 have I4:=nk (t':=s2.toks+([]:List (Str×Value)).length) S I3 f3 hlt hns₁ keep
 obtain⟨hg,hif,hel⟩:=hb sD.heap.objs.size sD (upd H2 D (.lst [])) fp
 have st4:tn 0 h₁:=T.keep _ _ _ st2 λb hb o e=>keep b o (up b o e)
 have stat:∀{H':Hp},(∀b∈fp,H' b=none)->∀b∈fp,Abq (Fn X N scope sD.heap.objs.size sD (upd H2 D (.lst [])) fp) [] H' b:=λhn b hb=>
  ⟨hn b hb,(I4.ok.exf b hb).1,I4.ok.exfs b hb,.inl hb,λx c h z=>(I4.ok.exf b hb).2 x c h z,λp hp=>(by simp[Fn] at hp)⟩
 have loop:codeAny (model X.prog X.w) X.A (.compLoop (.ListComp elt [⟨tgt,iter,ifs,0⟩] scope pos) 0 (.ref it) (.ref D) (compEnvC scope (v8 X.env scope.names []) sD.heap.objs.size X.env))
   (compPost (model X.prog X.w) X.A X.xe (some (assign (.Name x0 pos') X.env)) (λ_ s'=>SP X pins D0 .next s') (.ref D) sD.heap.objs.size) {sD with heap:=h₁,toks:=s2.toks+([]:List (Str×Value)).length}:=by
  refine Z6 (λn s'=>∃i ys σ' H',Inv (Fn X N scope sD.heap.objs.size sD (upd H2 D (.lst [])) fp) [] σ' H' s'/\tn i s'.heap/\(∀b∈fp,H' b=none)/\W i n ys σ' H') ?_ m0
   ⟨0,[],U8 cap σ,_,I4,st4,λb hb=>(f3 b hb).1,w0⟩
  rintro n s5 ⟨i,ys,σ5,H5,I5,st5,fr5,w5⟩
  obtain⟨hD5,way⟩:=turn i n ys σ5 H5 w5
  rcases way with⟨stop,q⟩|⟨go,step⟩
  ·
   refine thn (T.done (Fn X N scope sD.heap.objs.size sD (upd H2 D (.lst [])) fp) rfl rfl rfl hc i [] s5 σ5 H5 (λ_ _=>False) I5 (stat fr5) st5 stop) λr s6 hz=>?_
   obtain⟨hr,I6⟩:=hz
   subst hr
   obtain⟨m,hn,_⟩:=I6.loc
   have hn':s6.heap.Ns sD.heap.objs.size m:=hn
   have J6:Inv X pins σ H5 s6:=zi I3 f3 I6 (Heap.SameBut.refl _ _)
   have cellNe:∀x c,X.env.cells.lookup x=some c->c≠sD.heap.objs.size:=λx c h z=>by
    obtain⟨v,q⟩:=I3.cell x c h
    have:=q.lt
    rw[z] at this
    exact Asd _ this
   refine wpAny_assign_Name (vp J6 hN0 hi0 (.inl hx0) (v:=.ref D) rfl (λs7 I7 ⟨a7,sb7,ha7⟩=>⟨m,hn'.sameBut sb7 (λz=>?_),λh' sb=>?_⟩) (.inr hx0))
   ·
    rcases ha7 with e|e
    · exact absurd (z.trans e) (Asl I3.lt)
    · exact cellNe _ _ e z.symm
   ·
    refine⟨_,H5,I7.turned (t':=s7.toks) (it:=sD.heap.objs.size) (λb o hb e=>(sb.2 b hb).trans e) I6.free (Asl I3.lt) (.inr I3.sz) cellNe λp hp z=>?_,q⟩
    have:=Aqy (I3.pin p hp).1
    rw[z] at this
    exact Asd _ this
  ·
   refine thn (T.item (Fn X N scope sD.heap.objs.size sD (upd H2 D (.lst [])) fp) rfl rfl rfl hc i [] s5 σ5 H5 (λ_ _=>False) I5 (stat fr5) st5 go) λr s6 hz=>?_
   obtain⟨u,hr,h6⟩:=hz
   subst hr
   refine thn h6 λ_ s7 hz=>?_
   obtain⟨x,H7,I7,r7,y7,st7,fr7⟩:=hz
   have I7':=I7.pinned (stat fr7) (T.obj _ _ st7)
   refine thn (hg _ s7 σ5 H7 x u _ I7' r7 (step x H7 y7)) λ_ s8 hz=>?_
   obtain⟨σ8,H8,I8,q8⟩:=hz
   refine thn (hif _ s8 σ8 H8 _ I8 q8) λb s9 hz=>?_
   obtain⟨H9,I9,q9⟩:=hz
   have back:∀{σ':St}{H':Hp}{s':Shared},Inv (Fn X N scope sD.heap.objs.size sD (upd H2 D (.lst [])) fp) ([]++n8 fp s7.heap) σ' H' s'->tn (i+1) s'.heap/\∀b∈fp,H' b=none:=λ{σ' H' s'}J'=>
    ⟨T.keep _ _ _ st7 λb hb o e=>(J'.pin (b,o) (Aq8 _ (Aq8 _ (Ms hb e)))).1,λb hb=>by
     obtain⟨o,e,d⟩:=T.obj _ _ st7 b hb
     exact(J'.pin (b,o) (Aq8 _ (Aq8 _ (Ms hb e)))).2.1⟩
   cases b with
   |
    false=>
    obtain⟨m',hm,w9⟩:=(show ∃m',m'<n/\W (i+1) m' ys σ8 H9 from q9)
    exact⟨m',hm,i+1,ys,σ8,H9,I9.unpinned,(back I9).1,(back I9).2,w9⟩
   |
    true=>
    refine thn (hel _ s9 σ8 H9 _ I9 (show te σ8 H9 _ from q9)) λy s10 hz=>?_
    obtain⟨v10,H10,I10,r10,q10⟩:=hz
    obtain⟨hD10,hz,m',hm,w10⟩:=q10
    refine thn (gz (X:=Fn X N scope sD.heap.objs.size sD (upd H2 D (.lst [])) fp) _ s10 σ8 H10 (.ref D) [v10] (.ref D) [y] (λ_ H'=>H'=upd H10 D (.lst (ys++[v10]))) I10 rfl (.cons r10 .nil) ⟨D,ys,v10,rfl,rfl,hD10,hz,rfl⟩) λ_ s11 hz=>?_
    obtain⟨v11,H11,I11,_,e11⟩:=hz
    subst e11
    exact⟨m',hm,i+1,ys++[v10],σ8,_,I11.unpinned,(back I11).1,(back I11).2,w10⟩
 subst hsD
 subst hD
 exact codeAny_compStart_list loop (T.self _ 0 _ _ _ st4 loop)
end L2
namespace L2
section
variable {α:Type}{R:α->α->Prop}
structure MI (R:α->α->Prop)(all out A B:List α):Prop where
 perm:(out++(A++B)).Perm all
 so:out.Pairwise R
 la:∀x∈out,∀y∈A,R x y
 lb:∀x∈out,∀y∈B,R x y
 sa:A.Pairwise R
 sb:B.Pairwise R
def MI.lefts {all out X A B:List α}(h:MI R all out (X++A) B)(hx:∀x∈X,∀y∈B,R x y):MI R all (out++X) A B:=by
 obtain⟨p,so,la,lb,sa,sb⟩:=h
 rw[Ar7] at sa
 refine⟨?_,?_,?_,?_,sa.2.1,sb⟩
 · simpa[As4] using p
 ·
  rw[Ar7]
  exact⟨so,sa.1,λx hx y hy=>la x hx y (Asa _ hy)⟩
 ·
  intro x hm y hy
  rcases Ar0.mp hm with hm|hm
  · exact la x hm y (Aq8 _ hy)
  · exact sa.2.2 x hm y hy
 ·
  intro x hm y hy
  rcases Ar0.mp hm with hm|hm
  · exact lb x hm y hy
  · exact hx x hm y hy
def MI.flip {all out A B:List α}(h:MI R all out A B):MI R all out B A:=
 ⟨(List.Perm.append_left _ List.perm_append_comm).trans h.perm,h.so,h.lb,h.la,h.sb,h.sa⟩
def MI.rights {all out X A B:List α}(h:MI R all out A (X++B))(hx:∀x∈X,∀y∈A,R x y):MI R all (out++X) A B:=(h.flip.lefts hx).flip
def MI.left {x:α}{all out A B:List α}(h:MI R all out (x::A) B)(hx:∀y∈B,R x y):MI R all (out++[x]) A B:=
 MI.lefts (X:=[x]) h λz hz y hy=>by rw[Arm.mp hz];exact hx y hy
def MI.right {x:α}{all out A B:List α}(h:MI R all out A (x::B))(hx:∀y∈A,R x y):MI R all (out++[x]) A B:=(h.flip.left hx).flip
def MD (R:α->α->Prop)(all l:List α):Prop:=l.Perm all/\l.Pairwise R
def MI.doneA {all out A:List α}(h:MI R all out A []):MD R all (out++A):=by
 refine⟨by simpa using h.perm,?_⟩
 rw[Ar7]
 exact⟨h.so,h.sa,h.la⟩
def MI.doneB {all out B:List α}(h:MI R all out [] B):MD R all (out++B):=h.flip.doneA
def MI.last {all out A B:List α}(h:MI R all out A B)(hx:∀y∈B,∀x∈A,R y x):MD R all (out++(B++A)):=by
 have h':MI R all out A (B++[]):=by rw[Ark];exact h
 have:=(h'.rights hx).doneA
 rw[As4] at this
 exact this
end
section
variable {α:Type}{R:α->α->Prop}
def RunsL (R:α->α->Prop):List (Nat×Nat×Nat)->Nat->List α->Prop
 | [],_,l=>l=[]
 | (a,n,_)::r,x,l=>a=x/\1<=n/\∃S l',l=S++l'/\S.length=n/\S.Pairwise R/\RunsL R r (x+n) l'
theorem RunsL.append:∀{p q:List (Nat×Nat×Nat)}{x:Nat}{l m:List α},RunsL R p x l->RunsL R q (x+l.length) m->RunsL R (p++q) x (l++m)
 |
  [],q,x,l,m,h1,h2=>by
  cases (h1:l=[])
  exact h2
 |
  (a,n,w)::p,q,x,l,m,h1,h2=>by
  obtain⟨e,hn,S,l',rfl,hS,hp,h1⟩:=h1
  refine⟨e,hn,S,l'++m,by rw[As4],hS,hp,RunsL.append h1 ?_⟩
  rw[Aqw,hS] at h2
  rw[Nat.add_assoc];exact h2
theorem RunsL.split:∀{p q:List (Nat×Nat×Nat)}{x:Nat}{l:List α},RunsL R (p++q) x l->∃l1 l2,l=l1++l2/\RunsL R p x l1/\RunsL R q (x+l1.length) l2
 | [],q,x,l,h=>⟨[],l,rfl,rfl,h⟩
 |
  (a,n,w)::p,q,x,l,h=>by
  obtain⟨e,hn,S,l',rfl,hS,hp,h⟩:=h
  obtain⟨l1,l2,rfl,h1,h2⟩:=RunsL.split h
  refine⟨S++l1,l2,by rw[As4],⟨e,hn,S,l1,rfl,hS,hp,h1⟩,?_⟩
  rw[Aqw,hS,←Nat.add_assoc];exact h2
theorem RunsL.len:∀{p:List (Nat×Nat×Nat)}{x:Nat}{l:List α},RunsL R p x l->p.length<=l.length
 | [],_,_,_=>Ar3 _
 |
  (a,n,w)::p,x,l,h=>by
  obtain⟨e,hn,S,l',rfl,hS,hp,h⟩:=h
  have:=RunsL.len h
  rw[Aqw,Arx];lia
def RunsL.two {p q:List (Nat×Nat×Nat)}{u v:Nat×Nat×Nat}{l:List α}(h:RunsL R (p++u::v::q) 0 l):
  ∃l1 X Y l2,l=l1++(X++(Y++l2))/\u.1=l1.length/\u.2.1=X.length/\v.1=l1.length+X.length/\v.2.1=Y.length/\1<=X.length/\1<=Y.length/\X.Pairwise R/\Y.Pairwise R/\
   ∀M w,M.Pairwise R->M.length=X.length+Y.length->RunsL R (p++(u.1,u.2.1+v.2.1,w)::q) 0 (l1++(M++l2)):=by
 obtain⟨l1,l2,rfl,h1,h2⟩:=h.split
 obtain⟨a,n,w⟩:=u
 obtain⟨b,m,w2⟩:=v
 obtain⟨e,hn,X,l',rfl,hX,hpX,e2,hm,Y,l2,rfl,hY,hpY,h3⟩:=h2
 refine⟨l1,X,Y,l2,rfl,by rw[e];exact Au7 _,hX.symm,by rw[e2,hX,Au7],hY.symm,dkl,dkl,hpX,hpY,λM w' hM hl=>h1.append ⟨e,by show 1<=n+m;lia,M,l2,rfl,by show M.length=n+m;lia,hM,?_⟩⟩
 show RunsL R q (0+l1.length+(n+m)) l2
 rw[←Nat.add_assoc];exact h3
def RunsL.repower {p:List (Nat×Nat×Nat)}{a n w w':Nat}{x:Nat}{l:List α}(h:RunsL R (p++[(a,n,w)]) x l):RunsL R (p++[(a,n,w')]) x l:=by
 obtain⟨l1,l2,rfl,h1,h2⟩:=h.split
 exact h1.append h2
end
theorem sr {α:Type}(sa:Nat):∀(l:List α)(k:Nat)(p m q:List α),p.length=sa+k->m.length=l.length->
  ((l.zipIdx k).foldl (λa(x:α×Nat)=>a.setIfInBounds (sa+x.2) x.1) (p++(m++q)).toArray).toList=p++(l++q)
 |
  [],k,p,m,q,hp,hm=>by
  cases m with
  | nil=>rfl
  | cons _ _=>simp at hm
 | x::l,k,p,[],q,hp,hm=>by simp at hm
 |
  x::l,k,p,y::m,q,hp,hm=>by
  rw[List.zipIdx_cons,List.foldl_cons]
  have e:(p++(y::m++q)).toArray.setIfInBounds (sa+k) x=((p++[x])++(m++q)).toArray:=by
   apply Aua.mp
   rw[Array.toList_setIfInBounds,Auc,Auc,←hp,List.set_append_right _ _ (Aq0 _),Nat.sub_self]
   simp
  show((l.zipIdx (k+1)).foldl _ ((p++(y::m++q)).toArray.setIfInBounds (sa+k) x)).toList=_
  rw[e,sr sa l (k+1) (p++[x]) m q (by rw[Aqw,hp];rfl) (by simpa using hm)]
  simp
def Yl {α:Type}(l:List α){i j:Nat}(h:i<=j):l.drop i=(l.drop i).take (j-i)++l.drop j:=by
 have e:=(Asy (j-i) (l.drop i)).symm
 rw[List.drop_drop,show i+(j-i)=j by lia] at e
 exact e
end L2
namespace L2
open PySem PyProof.Rows
def gal:Bool->Keyed->Array Keyed->Nat->Nat->Nat->StateT SortSt Sem (Option Nat):=sortPriv%PySem.Builtin.gallop
def mLo:Array Keyed->Array Keyed->StateT SortSt Sem (Array Keyed):=sortPriv%PySem.Builtin.mergeLo
def mHi:Array Keyed->Array Keyed->StateT SortSt Sem (Array Keyed):=sortPriv%PySem.Builtin.mergeHi
def ym:Nat->StateT SortSt Sem Unit:=sortPriv%PySem.Builtin.setMinGallop
def Am9 (past:Nat->StateT SortSt Sem (Option Bool))(n h:Nat):StateT SortSt Sem (Option Nat):=do
 let mut u:=0
 let mut v:=1
 let mut lo:=0
 let mut hi:=0
 let some r ←past h|return none
 if r then
  let mx:=n-h
  for _ in [0:n] do
   if v≥mx then break
   let some m ←past (h+v)|return none
   if !m then break
   u:=v
   v:=2*v+1
  lo:=h+u+1
  hi:=h+min v mx
 else
  let mx:=h+1
  for _ in [0:n] do
   if v≥mx then break
   let some f ←past (h-v)|return none
   if f then break
   u:=v
   v:=2*v+1
  lo:=h+1-min v mx
  hi:=h-u
 for _ in [0:n] do
  if lo≥hi then break
  let m:=lo+(hi-lo)/2
  let some b ←past m|return none
  if b then lo:=m+1 else hi:=m
 return some hi
def Al9 (left:Bool)(k0:Keyed)(ar:Array Keyed)(bs n h:Nat):gal left k0 ar bs n h=Am9 (λi=>do
 let x ←elem' ar (bs+i)
 if left then lt' x k0 else return (←lt' k0 x).map (!·)) n h:=rfl
section
variable {M:Model}{A:Around}{E:Value->Shared->Prop}{s:Shared}
def Tells (M:Model)(A:Around)(E:Value->Shared->Prop)(s:Shared)(st:SortSt){α:Type}(m:StateT SortSt Sem α)(v:α):Prop:=∀Q:α->SortSt->Prop,Q v st->wpS M A E s m Q st
def Up {β:Type}{n:Nat}{c:β}{f:Nat->β->StateT SortSt Sem (ForInStep β)}{st:SortSt}(I:Nat->β->Prop){Q:β->SortSt->Prop}
  (hs:∀i c,i<n->I i c->wpS M A E s (f i c) (λr st'=>st'=st/\match r with| .done c'=>Q c' st| .yield c'=>I (i+1) c') st)
  (he:∀c,I n c->Q c st) (h:I 0 c):wpS M A E s (forIn [:n] c f) Q st:=by
 refine Atx (a:=0) (I:=λi c st'=>st'=st/\I i c) ?_ ?_ ⟨rfl,h⟩
 ·
  rintro i c st' _ hi ⟨rfl,hI⟩
  refine Av6 (hs i c hi hI) ?_
  rintro r st'' ⟨rfl,hr⟩
  cases r with
  | done c'=>exact hr
  | yield c'=>exact⟨rfl,hr⟩
 ·
  rintro c st' ⟨rfl,hI⟩
  rw[show max 0 n=n by lia] at hI
  exact he c hI
def Am0 (past:Nat->StateT SortSt Sem (Option Bool))(n lo₀ hi₀:Nat):StateT SortSt Sem (Option Nat):=do
 let mut lo:=lo₀
 let mut hi:=hi₀
 for _ in [0:n] do
  if lo≥hi then break
  let m:=lo+(hi-lo)/2
  let some b ←past m|return none
  if b then lo:=m+1 else hi:=m
 return some hi
def Acq {past:Nat->StateT SortSt Sem (Option Bool)}{P:Nat->Bool}{n lo hi:Nat}{st:SortSt}(hp:∀i,i<n->Tells M A E s st (past i) (some (P i)))(hm:∀i j,i<=j->j<n->P j=true->P i=true)
  (hl:lo<=hi) (hn:hi<=n) (h1:∀i,i<lo->P i=true) (h2:∀i,hi<=i->i<n->P i=false)
  {Q:Option Nat->SortSt->Prop} (hQ:∀k,k<=n->(∀i,i<k->P i=true)->(∀i,k<=i->i<n->P i=false)->Q (some k) st):wpS M A E s (Am0 past n lo hi) Q st:=by
 unfold Am0
 dsimp only
 refine Aq7 (Up (I:=λi c=>∃lo hi,c=(none,lo,hi)/\lo<=hi/\hi<=n/\hi-lo<=n-i/\(∀i,i<lo->P i=true)/\(∀i,hi<=i->i<n->P i=false)) ?_ ?_ ⟨lo,hi,rfl,hl,hn,dkl,h1,h2⟩)
 ·
  rintro i c hi' ⟨lo,hi,rfl,a1,a2,a3,a4,a5⟩
  dsimp only
  by_cases hg:lo≥hi
  ·
   rw[if_pos hg]
   refine Arb ⟨rfl,?_⟩
   obtain rfl:lo=hi:=by lia
   exact Arb (hQ lo a2 a4 a5)
  ·
   rw[if_neg hg]
   refine Aq7 (hp _ dkl _ ?_)
   dsimp only
   cases e:P (lo+(hi-lo)/2) with
   |
    true=>
    rw[if_pos rfl]
    exact Arb ⟨rfl,_,_,rfl,dkl,a2,dkl,λj hj=>hm j _ dkl dkl e,a5⟩
   |
    false=>
    rw[if_neg dkd]
    refine Arb ⟨rfl,_,_,rfl,dkl,dkl,dkl,a4,λj h1 h2=>?_⟩
    cases ej:P j with
    | false=>rfl
    | true=>rw[hm _ j h1 h2 ej] at e;exact e
 ·
  rintro c ⟨lo,hi,rfl,a1,a2,a3,a4,a5⟩
  obtain rfl:lo=hi:=by lia
  exact Arb (hQ lo a2 a4 a5)
theorem Ah9 {past:Nat->StateT SortSt Sem (Option Bool)}{P:Nat->Bool}{n h:Nat}{st:SortSt}(hp:∀i,i<n->Tells M A E s st (past i) (some (P i)))(hh:h<n)(hm:∀i j,i<=j->j<n->P j=true->P i=true)
  {Q:Option Nat->SortSt->Prop} (hQ:∀k,k<=n->(∀i,i<k->P i=true)->(∀i,k<=i->i<n->P i=false)->Q (some k) st):wpS M A E s (Am9 past n h) Q st:=by
 have hf:∀i j,i<=j->j<n->P i=false->P j=false:=λi j h1 h2 h3=>by
  cases ej:P j with
  | false=>rfl
  | true=>rw[hm i j h1 h2 ej] at h3;exact h3
 unfold Am9
 dsimp only
 refine Aq7 (hp h hh _ ?_)
 dsimp only
 cases eh:P h with
 |
  true=>
  rw[if_pos rfl]
  have fin:∀u v,u<v->h+u<n->P (h+u)=true->(v≥n-h∨P (h+v)=false)->wpS M A E s (Am0 past n (h+u+1) (h+min v (n-h))) Q st:=λu v a1 a2 a3 a4=>
   Acq hp hm dkl dkl (λi hi=>hm i (h+u) dkl a2 a3) (λi h1 h2=>by
    rcases a4 with a4|a4
    · lia
    · exact hf (h+v) i dkl h2 a4) hQ
  refine Aq7 (Up (I:=λi c=>∃u v,c=(none,u,v)/\u<v/\i+1<=v/\h+u<n/\P (h+u)=true) ?_ ?_ ⟨0,1,rfl,dkl,dkl,hh,eh⟩)
  ·
   rintro i c hi' ⟨u,v,rfl,a1,a2,a3,a4⟩
   dsimp only
   by_cases hg:v≥n-h
   ·
    rw[if_pos hg]
    exact Arb ⟨rfl,fin u v a1 a3 a4 (.inl hg)⟩
   ·
    rw[if_neg hg]
    refine Aq7 (hp _ dkl _ ?_)
    dsimp only
    cases e:P (h+v) with
    |
     true=>
     rw[if_neg dkd]
     exact Arb ⟨rfl,_,_,rfl,dkl,dkl,dkl,e⟩
    |
     false=>
     rw[if_pos (show(!false)=true by decide)]
     exact Arb ⟨rfl,fin u v a1 a3 a4 (.inr e)⟩
  ·
   rintro c ⟨u,v,rfl,a1,a2,a3,a4⟩
   exact fin u v a1 a3 a4 (.inl dkl)
 |
  false=>
  rw[if_neg dkd]
  have fin:∀u v,u<v->u<=h->P (h-u)=false->(v≥h+1∨P (h-v)=true)->wpS M A E s (Am0 past n (h+1-min v (h+1)) (h-u)) Q st:=λu v a1 a2 a3 a4=>
   Acq hp hm dkl dkl (λi hi=>by
    rcases a4 with a4|a4
    · lia
    · exact hm i (h-v) dkl dkl a4) (λi h1 h2=>hf (h-u) i dkl h2 a3) hQ
  refine Aq7 (Up (I:=λi c=>∃u v,c=(none,u,v)/\u<v/\i+1<=v/\u<=h/\P (h-u)=false) ?_ ?_ ⟨0,1,rfl,dkl,dkl,dkl,eh⟩)
  ·
   rintro i c hi' ⟨u,v,rfl,a1,a2,a3,a4⟩
   dsimp only
   by_cases hg:v≥h+1
   ·
    rw[if_pos hg]
    exact Arb ⟨rfl,fin u v a1 a3 a4 (.inl hg)⟩
   ·
    rw[if_neg hg]
    refine Aq7 (hp _ dkl _ ?_)
    dsimp only
    cases e:P (h-v) with
    |
     false=>
     rw[if_neg dkd]
     exact Arb ⟨rfl,_,_,rfl,dkl,dkl,dkl,e⟩
    |
     true=>
     rw[if_pos rfl]
     exact Arb ⟨rfl,fin u v a1 a3 a4 (.inr e)⟩
  ·
   rintro c ⟨u,v,rfl,a1,a2,a3,a4⟩
   exact fin u v a1 a3 a4 (.inl dkl)
end
section
variable {prog:Program}{w:World}{A:Around}{E:Value->Shared->Prop}{s:Shared}{O:KeyOrd}{key:Keyed->O.α}{D:Keyed->Prop}{κ:SortKind}
def qy (prog:Program)(w:World)(A:Around)(s:Shared)(κ:SortKind){O:KeyOrd}(key:Keyed->O.α)(D:Keyed->Prop):Prop:=
 ∀x y,D x->D y->∀C:Bool->Shared->Prop,C (O.blt (key x) (key y)) s->wpAny (model prog w) A (keyLt' κ x.1 y.1) C (λ_ _=>False) s
def Xa (hc:qy prog w A s κ key D){st:SortSt}(hk:kindOf st=κ){x y:Keyed}(hx:D x)(hy:D y):Tells (model prog w) A E s st (lt' x y) (some (O.blt (key x) (key y))):=by
 intro Q h
 rw[lt'_eq]
 refine Aq7 (wpS_get ?_)
 rw[hk]
 refine Aq7 (wpS_lift (At1 (Asp (hc x y hx hy (λb s'=>b=O.blt (key x) (key y)/\s'=s) ⟨rfl,rfl⟩) ?_ λ_ _ z=>z.elim)))
 rintro b s' ⟨rfl,rfl⟩
 exact⟨rfl,Arb h⟩
def Be {st:SortSt}{ar:Array Keyed}{i:Nat}(hi:i<ar.size):Tells (model prog w) A E s st (elem' ar i) ar[i]:=by
 intro Q h
 rw[elem'_eq,getElem?_pos ar i hi]
 exact Arb h
def t9 {left:Bool}{k0:Keyed}{ar:Array Keyed}{bs n h:Nat}{st:SortSt}(hc:qy prog w A s κ key D)(hk:kindOf st=κ)(h0:D k0)(hD:∀x∈ar.toList,D x)(hb:bs+n<=ar.size)(hh:h<n)
  (hs:∀i j(hi:i<ar.size)(hj:j<ar.size),bs<=i->i<=j->j<bs+n->O.kle (key ar[i]) (key ar[j])) {Q:Option Nat->SortSt->Prop}
  (hQ:∀k,k<=n->(∀i(hi:i<ar.size),bs<=i->i<bs+k->if left=true then O.klt (key ar[i]) (key k0) else O.kle (key ar[i]) (key k0))->
   (∀i(hi:i<ar.size),bs+k<=i->i<bs+n->if left=true then O.kle (key k0) (key ar[i]) else O.klt (key k0) (key ar[i]))->Q (some k) st):wpS (model prog w) A E s (gal left k0 ar bs n h) Q st:=by
 rw[Al9]
 have hD':∀i(hi:i<ar.size),D ar[i]:=λi hi=>hD _ dks
 refine Ah9 (P:=λi=>if h:bs+i<ar.size then(if left=true then O.blt (key ar[bs+i]) (key k0) else !O.blt (key k0) (key ar[bs+i])) else false) ?_ hh ?_ ?_
 ·
  intro i hi Q h
  rw[Av4 dkl] at h
  refine Aq7 (Be dkl _ ?_)
  cases left with
  |
   true=>
   rw[if_pos rfl] at h ⊢
   exact Xa hc hk (hD' _ dkl) h0 _ h
  |
   false=>
   rw[if_neg dkd] at h ⊢
   exact Aq7 (Xa hc hk h0 (hD' _ dkl) _ (Arb h))
 ·
  intro i j hij hj h
  rw[Av4 dkl] at h ⊢
  have hle:=hs (bs+i) (bs+j) dkl dkl dkl dkl dkl
  cases left with
  |
   true=>
   rw[if_pos rfl] at h ⊢
   exact KeyOrd.klt_of_kle_of_klt hle h
  |
   false=>
   rw[if_neg dkd] at h ⊢
   have h':O.kle (key ar[bs+j]) (key k0):=by simpa[KeyOrd.kle] using h
   have:O.kle (key ar[bs+i]) (key k0):=Aru hle h'
   simpa[KeyOrd.kle] using this
 ·
  intro k hk h1 h2
  refine hQ k hk (λi hi a1 a2=>?_) (λi hi a1 a2=>?_)
  ·
   have:=h1 (i-bs) dkl
   have ei:bs+(i-bs)=i:=by lia
   simp only[ei] at this
   rw[Av4 hi] at this
   cases left with
   | true=>rw[if_pos rfl] at this ⊢;exact this
   | false=>rw[if_neg dkd] at this ⊢;simpa[KeyOrd.kle] using this
  ·
   have:=h2 (i-bs) dkl dkl
   have ei:bs+(i-bs)=i:=by lia
   simp only[ei] at this
   rw[Av4 hi] at this
   cases left with
   | true=>rw[if_pos rfl] at this ⊢;exact this
   | false=>rw[if_neg dkd] at this ⊢;simpa[KeyOrd.klt] using this
end
def Ak4 (a b:Array Keyed):mLo a b=(do
 rule "list.sort.merge-lo"
 let all:=a.size+b.size
 let dn (o:Array Keyed) (i j:Nat):=o++a.extract i a.size++b.extract j b.size
 let la (o:Array Keyed) (i j:Nat):=o++b.extract j b.size++a.extract i a.size
 let mut o:Array Keyed:=#[←elem' b 0]
 let mut i:=0
 let mut j:=1
 if j==b.size then return dn o i j
 if i+1==a.size then return la o i j
 let mut mg:=gallopOf (←get)
 for _ in [0:all] do
  let mut ac:=0
  let mut bc:=0
  for _ in [0:all] do
   let some bw ←lt' (←elem' b j) (←elem' a i)|return dn o i j
   if bw then
    o:=o.push (←elem' b j);j:=j+1;bc:=bc+1;ac:=0
    if j==b.size then return dn o i j
    if bc≥mg then break
   else
    o:=o.push (←elem' a i);i:=i+1;ac:=ac+1;bc:=0
    if i+1==a.size then return la o i j
    if ac≥mg then break
  rule "list.sort.gallop"
  mg:=mg+1
  for _ in [0:all] do
   if mg>1 then mg:=mg-1
   ym mg
   let some k ←gal false (←elem' b j) a i (a.size-i) 0|return dn o i j
   ac:=k
   if k>0 then
    o:=o++a.extract i (i+k);i:=i+k
    if i+1==a.size then return la o i j
    if i==a.size then return dn o i j
   o:=o.push (←elem' b j);j:=j+1
   if j==b.size then return dn o i j
   let some k ←gal true (←elem' a i) b j (b.size-j) 0|return dn o i j
   bc:=k
   if k>0 then
    o:=o++b.extract j (j+k);j:=j+k
    if j==b.size then return dn o i j
   o:=o.push (←elem' a i);i:=i+1
   if i+1==a.size then return la o i j
   if ac<7&&bc<7 then break
  mg:=mg+1
  ym mg
 unsupported "internal:list.sort.merge-bound"):=rfl
def Pp {l:Array Keyed}{i:Nat}{x:Keyed}(h:x∈l.toList.drop i):∃k,∃hk:k<l.size,i<=k/\x=l[k]:=by
 obtain⟨k,hk,e⟩:=Aud h
 rw[Ast,Aqx] at hk
 refine⟨i+k,dkl,dkl,?_⟩
 rw[←e,Aur];rfl
def Acu {l:Array Keyed}{i n:Nat}{x:Keyed}(h:x∈(l.toList.drop i).take n):∃k,∃hk:k<l.size,i<=k/\k<i+n/\x=l[k]:=by
 obtain⟨k,hk,e⟩:=Aud h
 rw[Ar4,Ast,Aqx] at hk
 refine⟨i+k,dkl,dkl,dkl,?_⟩
 rw[←e,Auq,Aur];rfl
def Aea {l:Array Keyed}{n:Nat}{x:Keyed}(h:x∈l.toList.take n):∃k,∃hk:k<l.size,k<n/\x=l[k]:=by
 obtain⟨k,hk,e⟩:=Aud h
 rw[Ar4,Aqx] at hk
 refine⟨k,dkl,dkl,?_⟩
 rw[←e,Auq];rfl
def drop_cons {l:Array Keyed}{i:Nat}(hi:i<l.size):l.toList.drop i=l[i]::l.toList.drop (i+1):=by
 rw[List.drop_eq_getElem_cons (by simpa using hi)];rfl
def take_cons {l:Array Keyed}{i:Nat}(hi:i<l.size):(l.toList.take (i+1)).reverse=l[i]::(l.toList.take i).reverse:=by
 rw[Aum (by simpa using hi),Atn];rfl
def Qp (l:Array Keyed)(i j:Nat):(l.extract i j).toList=(l.toList.drop i).take (j-i):=by
 rw[Array.toList_extract]
def Y3 (l:Array Keyed)(i:Nat):(l.extract i l.size).toList=l.toList.drop i:=by
 rw[Qp,Auo]
 rw[Ast,Aqx];exact Aq0 _
def Upw (O:KeyOrd)(key:Keyed->O.α)(x y:Keyed):Prop:=O.kle (key x) (key y)
def Va {O:KeyOrd}{key:Keyed->O.α}{l:Array Keyed}(h:l.toList.Pairwise (Upw O key))(i j:Nat)(hi:i<l.size)(hj:j<l.size)(hij:i<=j):O.kle (key l[i]) (key l[j]):=by
 by_cases e:i=j
 · subst e;exact Ass _
 · exact(Asx.mp h) i j (by simpa using hi) (by simpa using hj) dkl
def SameS (st st':SortSt):Prop:=kindOf st'=kindOf st/\arrOf st'=arrOf st/\pendingOf st'=pendingOf st/\failedOf st'=failedOf st
def SameS.refl (st:SortSt):SameS st st:=⟨rfl,rfl,rfl,rfl⟩
theorem SameS.trans {s1 s2 s3:SortSt}(h1:SameS s1 s2)(h2:SameS s2 s3):SameS s1 s3:=
 ⟨h2.1.trans h1.1,h2.2.1.trans h1.2.1,h2.2.2.1.trans h1.2.2.1,h2.2.2.2.trans h1.2.2.2⟩
def dw {M:Model}{A:Around}{E:Value->Shared->Prop}{s:Shared}{st:SortSt}{g:Nat}{Q:Unit->SortSt->Prop}(h:∀st',SameS st st'->Q () st'):wpS M A E s (ym g) Q st:=by
 show wpS M A E s (modify λs=>SortSt.mk' (kindOf s) (arrOf s) (pendingOf s) g (failedOf s)) Q st
 exact Awe (h _ ⟨rfl,rfl,rfl,rfl⟩)
section lo
variable {prog:Program}{w:World}{A:Around}{E:Value->Shared->Prop}{s:Shared}{O:KeyOrd}{key:Keyed->O.α}{D:Keyed->Prop}{κ:SortKind}{a b:Array Keyed}
structure MPre (O:KeyOrd)(key:Keyed->O.α)(D:Keyed->Prop)(a b:Array Keyed):Prop where
 ua:a.toList.Pairwise (Upw O key)
 ub:b.toList.Pairwise (Upw O key)
 da:∀x∈a.toList,D x
 db:∀x∈b.toList,D x
 na:1<=a.size
 nb:1<=b.size
 first:∀(h1:0<a.size)(h2:0<b.size),O.kle (key b[0]) (key a[0])
 last:∀(h1:a.size-1<a.size)(h2:b.size-1<b.size),O.kle (key b[b.size-1]) (key a[a.size-1])
def MPre.dA (h:MPre O key D a b)(i:Nat)(hi:i<a.size):D a[i]:=h.da _ dks
def MPre.dB (h:MPre O key D a b)(i:Nat)(hi:i<b.size):D b[i]:=h.db _ dks
abbrev GI (O:KeyOrd)(key:Keyed->O.α)(a b o:Array Keyed)(i j:Nat):Prop:=MI (Upw O key) (a.toList++b.toList) o.toList (a.toList.drop i) (b.toList.drop j)
theorem GI.size {o:Array Keyed}{i j:Nat}(h:GI O key a b o i j)(hi:i<=a.size)(hj:j<=b.size):o.size=i+j:=by
 have:=h.perm.length_eq
 simp only[Aqw,Ast,Aqx] at this
 lia
def GF (O:KeyOrd)(key:Keyed->O.α)(a b r:Array Keyed):Prop:=MD (Upw O key) (a.toList++b.toList) r.toList
structure Go (O:KeyOrd)(key:Keyed->O.α)(a b o:Array Keyed)(i j:Nat):Prop where
 gi:GI O key a b o i j
 hi:i+1<a.size
 hj:j<b.size
def GI.pushA {o:Array Keyed}{i j:Nat}(g:GI O key a b o i j)(hi:i<a.size)(h:∀k(hk:k<b.size),j<=k->O.kle (key a[i]) (key b[k])):GI O key a b (o.push a[i]) (i+1) j:=by
 unfold GI at g ⊢
 rw[drop_cons hi] at g
 rw[Atk]
 refine g.left λy hy=>?_
 obtain⟨k,hk,h1,rfl⟩:=Pp hy
 exact h k hk h1
def GI.pushB {o:Array Keyed}{i j:Nat}(g:GI O key a b o i j)(hj:j<b.size)(h:∀k(hk:k<a.size),i<=k->O.kle (key b[j]) (key a[k])):GI O key a b (o.push b[j]) i (j+1):=by
 unfold GI at g ⊢
 rw[drop_cons hj] at g
 rw[Atk]
 refine g.right λy hy=>?_
 obtain⟨k,hk,h1,rfl⟩:=Pp hy
 exact h k hk h1
def GI.blockA {o:Array Keyed}{i j n:Nat}(g:GI O key a b o i j)(h:∀u(hu:u<a.size)k(hk:k<b.size),i<=u->u<i+n->j<=k->O.kle (key a[u]) (key b[k])):GI O key a b (o++a.extract i (i+n)) (i+n) j:=by
 unfold GI at g ⊢
 rw[Yl a.toList (Atr i n)] at g
 rw[Ary,Qp]
 refine g.lefts λx hx y hy=>?_
 obtain⟨u,hu,u1,u2,rfl⟩:=Acu hx
 obtain⟨k,hk,h1,rfl⟩:=Pp hy
 exact h u hu k hk u1 dkl h1
def GI.blockB {o:Array Keyed}{i j n:Nat}(g:GI O key a b o i j)(h:∀u(hu:u<b.size)k(hk:k<a.size),j<=u->u<j+n->i<=k->O.kle (key b[u]) (key a[k])):GI O key a b (o++b.extract j (j+n)) i (j+n):=by
 unfold GI at g ⊢
 rw[Yl b.toList (Atr j n)] at g
 rw[Ary,Qp]
 refine g.rights λx hx y hy=>?_
 obtain⟨u,hu,u1,u2,rfl⟩:=Acu hx
 obtain⟨k,hk,h1,rfl⟩:=Pp hy
 exact h u hu k hk u1 dkl h1
def GI.endB {o:Array Keyed}{i j:Nat}(g:GI O key a b o i j)(hj:j=b.size):GF O key a b (o++a.extract i a.size++b.extract j b.size):=by
 unfold GI at g
 unfold GF
 rw[Ary,Ary,Y3,Y3]
 rw[show b.toList.drop j=[] by rw[List.drop_eq_nil_iff,Aqx];lia] at g ⊢
 rw[Ark]
 exact g.doneA
def GI.endA {o:Array Keyed}{i j:Nat}(g:GI O key a b o i j)(hi:i=a.size):GF O key a b (o++a.extract i a.size++b.extract j b.size):=by
 unfold GI at g
 unfold GF
 rw[Ary,Ary,Y3,Y3]
 rw[show a.toList.drop i=[] by rw[List.drop_eq_nil_iff,Aqx];lia] at g ⊢
 rw[Ark]
 exact g.doneB
def GI.lastA {o:Array Keyed}{i j:Nat}(hp:MPre O key D a b)(g:GI O key a b o i j)(hi:i+1=a.size):GF O key a b (o++b.extract j b.size++a.extract i a.size):=by
 unfold GI at g
 unfold GF
 rw[Ary,Ary,Y3,Y3,As4]
 refine g.last λy hy x hx=>?_
 obtain⟨u,hu,u1,rfl⟩:=Pp hx
 obtain⟨k,hk,k1,rfl⟩:=Pp hy
 have e:=hp.last dkl dkl
 have eu:u=a.size-1:=by lia
 subst eu
 exact Aru (Va hp.ub k (b.size-1) hk dkl dkl) e
abbrev LC:=Option (Array Keyed)×Array Keyed×Nat×Nat×Nat×Nat×Nat
def Amv (a b o:Array Keyed)(i j mg k k1:Nat):StateT SortSt Sem (ForInStep LC):=
 elem' a i>>= λx=>
 if(i+1+1==a.size)=true then pure (.done (some (o.push x++b.extract j++a.extract (i+1)),o.push x,i+1,j,mg,k,k1))
 else if(decide (k<7)&&decide (k1<7))=true then pure (.done (none,o.push x,i+1,j,mg,k,k1))
 else pure (.yield (none,o.push x,i+1,j,mg,k,k1))
def Amu (a b o:Array Keyed)(i j mg k c:Nat):StateT SortSt Sem (ForInStep LC):=
 elem' b j>>= λx=>
 if(j+1==b.size)=true then pure (.done (some (o.push x++a.extract i++b.extract (j+1)),o.push x,i,j+1,mg,k,c))
 else elem' a i>>= λy=>gal true y b (j+1) (b.size-(j+1)) 0>>= λr=>
  match r with
  |
   some k1=>(if k1>0 then
    (if(j+1+k1==b.size)=true then pure (.done (some (o.push x++b.extract (j+1) (j+1+k1)++a.extract i++b.extract (j+1+k1)),o.push x++b.extract (j+1) (j+1+k1),i,j+1+k1,mg,k,k1))
    else Amv a b (o.push x++b.extract (j+1) (j+1+k1)) i (j+1+k1) mg k k1)
   else Amv a b (o.push x) i (j+1) mg k k1)
  | _=>pure (.done (some (o.push x++a.extract i++b.extract (j+1)),o.push x,i,j+1,mg,k,c))
def Aop (a b o:Array Keyed)(i j mg c d:Nat):StateT SortSt Sem (ForInStep LC):=
 ym mg>>= λ_=>elem' b j>>= λx=>gal false x a i (a.size-i) 0>>= λr=>
 match r with
 |
  some k=>(if k>0 then
   (if(i+k+1==a.size)=true then pure (.done (some (o++a.extract i (i+k)++b.extract j++a.extract (i+k)),o++a.extract i (i+k),i+k,j,mg,k,d))
   else if(i+k==a.size)=true then pure (.done (some (o++a.extract i (i+k)++a.extract (i+k)++b.extract j),o++a.extract i (i+k),i+k,j,mg,k,d))
   else Amu a b (o++a.extract i (i+k)) (i+k) j mg k d)
  else Amu a b o i j mg k d)
 | _=>pure (.done (some (o++a.extract i++b.extract j),o,i,j,mg,c,d))
def Am5 (O:KeyOrd)(key:Keyed->O.α)(a b:Array Keyed)(m:Nat)(r:ForInStep LC):Prop:=match r with
 | .done c=>(∃x,c.1=some x/\GF O key a b x)∨(c.1=none/\Go O key a b c.2.1 c.2.2.1 c.2.2.2.1/\m<c.2.1.size)
 | .yield c=>c.1=none/\Go O key a b c.2.1 c.2.2.1 c.2.2.2.1/\m<c.2.1.size
def Ads {o:Array Keyed}{i j mg k k1 m:Nat}{st:SortSt}(hp:MPre O key D a b)(g:Go O key a b o i j)(hm:m<=o.size)(hx:∀(hi:i<a.size)k(hk:k<b.size),j<=k->O.kle (key a[i]) (key b[k]))
  {Q:ForInStep LC->SortSt->Prop} (hQ:∀r,Am5 O key a b m r->Q r st):wpS (model prog w) A E s (Amv a b o i j mg k k1) Q st:=by
 obtain⟨gi,hi,hj⟩:=g
 unfold Amv
 refine Aq7 (Be (show i<a.size by lia) _ ?_)
 have g1:=gi.pushA dkl (hx dkl)
 have hz:(o.push (a[i]'dkl)).size=o.size+1:=As6 ..
 by_cases e1:i+1+1=a.size
 ·
  rw[if_pos (by simpa using e1)]
  exact Arb (hQ _ (.inl ⟨_,rfl,g1.lastA hp e1⟩))
 ·
  rw[if_neg (by simpa using e1)]
  have g2:Go O key a b (o.push (a[i]'dkl)) (i+1) j:=⟨g1,dkl,hj⟩
  split
  · exact Arb (hQ _ (.inr ⟨rfl,g2,by show m<(o.push _).size;lia⟩))
  · exact Arb (hQ _ ⟨rfl,g2,by show m<(o.push _).size;lia⟩)
def Adm {o:Array Keyed}{i j mg k c m:Nat}{st:SortSt}(hc:qy prog w A s κ key D)(hk:kindOf st=κ)(hp:MPre O key D a b)(g:Go O key a b o i j)(hm:m<=o.size)(hx:∀(hj:j<b.size)k(hk:k<a.size),i<=k->O.kle (key b[j]) (key a[k]))
  {Q:ForInStep LC->SortSt->Prop} (hQ:∀r,Am5 O key a b m r->Q r st):wpS (model prog w) A E s (Amu a b o i j mg k c) Q st:=by
 obtain⟨gi,hi,hj⟩:=g
 unfold Amu
 refine Aq7 (Be (show j<b.size by lia) _ ?_)
 have g1:=gi.pushB hj (hx hj)
 have hz:(o.push (b[j]'dkl)).size=o.size+1:=As6 ..
 by_cases e1:j+1=b.size
 ·
  rw[if_pos (by simpa using e1)]
  exact Arb (hQ _ (.inl ⟨_,rfl,g1.endB e1⟩))
 ·
  rw[if_neg (by simpa using e1)]
  refine Aq7 (Be (show i<a.size by lia) _ ?_)
  refine Aq7 (t9 hc hk (hp.dA i dkl) hp.db dkl dkl (λu v hu hv _ h2 _=>Va hp.ub u v hu hv h2) λk1 hk1 h1 h2=>?_)
  simp only[if_true] at h1 h2
  dsimp only
  by_cases hk0:k1>0
  ·
   rw[if_pos hk0]
   have g3:=g1.blockB (n:=k1) λu hu v hv a1 a2 a3=>Aru (Asb (h1 u hu a1 a2)) (Va hp.ua i v dkl hv a3)
   by_cases e2:j+1+k1=b.size
   ·
    rw[if_pos (by simpa using e2)]
    exact Arb (hQ _ (.inl ⟨_,rfl,g3.endB e2⟩))
   ·
    rw[if_neg (by simpa using e2)]
    refine Ads hp ⟨g3,hi,dkl⟩ ?_ (λhi v hv a1=>h2 v hv a1 dkl) hQ
    rw[Avj];lia
  ·
   rw[if_neg hk0]
   obtain rfl:k1=0:=by lia
   exact Ads hp ⟨g1,hi,dkl⟩ dkl (λhi v hv a1=>h2 v hv dkl dkl) hQ
def Aje {o:Array Keyed}{i j mg c d m:Nat}{st:SortSt}(hc:qy prog w A s κ key D)(hk:kindOf st=κ)(hp:MPre O key D a b)(g:Go O key a b o i j)(hm:m<=o.size)
  {Q:ForInStep LC->SortSt->Prop} (hQ:∀r st',SameS st st'->Am5 O key a b m r->Q r st'):wpS (model prog w) A E s (Aop a b o i j mg c d) Q st:=by
 obtain⟨gi,hi,hj⟩:=g
 unfold Aop
 refine Aq7 (dw λst' hs=>?_)
 have hk':kindOf st'=κ:=hs.1.trans hk
 refine Aq7 (Be (show j<b.size by lia) _ ?_)
 refine Aq7 (t9 hc hk' (hp.dB j hj) hp.da dkl dkl (λu v hu hv _ h2 _=>Va hp.ua u v hu hv h2) λk hk1 h1 h2=>?_)
 simp only[Atd,Av1] at h1 h2
 dsimp only
 have hx:∀(hj:j<b.size)v(hv:v<a.size),i+k<=v->O.kle (key b[j]) (key a[v]):=λhj v hv a1=>Asb (h2 v hv a1 dkl)
 by_cases hk0:k>0
 ·
  rw[if_pos hk0]
  have g3:=gi.blockA (n:=k) λu hu v hv a1 a2 a3=>Aru (h1 u hu a1 a2) (Va hp.ub j v dkl hv a3)
  by_cases e1:i+k+1=a.size
  ·
   rw[if_pos (by simpa using e1)]
   exact Arb (hQ _ _ hs (.inl ⟨_,rfl,g3.lastA hp e1⟩))
  ·
   rw[if_neg (by simpa using e1)]
   by_cases e2:i+k=a.size
   ·
    rw[if_pos (by simpa using e2)]
    exact Arb (hQ _ _ hs (.inl ⟨_,rfl,g3.endA e2⟩))
   ·
    rw[if_neg (by simpa using e2)]
    refine Adm hc hk' hp ⟨g3,dkl,hj⟩ ?_ hx λr hr=>hQ r _ hs hr
    rw[Avj];lia
 ·
  rw[if_neg hk0]
  obtain rfl:k=0:=by lia
  exact Adm hc hk' hp ⟨gi,hi,hj⟩ hm hx λr hr=>hQ r _ hs hr
set_option smartUnfolding false in
def Akn {st:SortSt}(hc:qy prog w A s κ key D)(hk:kindOf st=κ)(hp:MPre O key D a b){Q:Array Keyed->SortSt->Prop}(hQ:∀r st',SameS st st'->GF O key a b r->Q r st'):wpS (model prog w) A E s (mLo a b) Q st:=by
 rw[Ak4]
 refine Aq7 (wpS_lift (As8 ⟨rfl,?_⟩))
 have hna:=hp.na
 have hnb:=hp.nb
 refine Aq7 (Be (show 0<b.size by lia) _ ?_)
 have g0:GI O key a b #[] 0 0:=⟨dks,.nil,(λ_ z=>nomatch z),(λ_ z=>nomatch z),hp.ua,hp.ub⟩
 have g1:GI O key a b #[b[0]'dkl] 0 1:=g0.pushB dkl λk hk _=>Aru (hp.first dkl dkl) (Va hp.ua 0 k dkl hk dkl)
 by_cases e1:1=b.size
 ·
  dsimp only
  rw[if_pos (by simpa using e1)]
  exact Arb (hQ _ _ (.refl _) (g1.endB e1))
 ·
  by_cases e2:0+1=a.size
  ·
   dsimp only
   rw[if_neg (by simpa using e1),if_pos (by simpa using e2)]
   exact Arb (hQ _ _ (.refl _) (g1.lastA hp e2))
  ·
   dsimp only
   rw[if_neg (by simpa using e1),if_neg (by simpa using e2)]
   refine Aq7 (wpS_get ?_)
   refine Aq7 (Av6 (Atx (a:=0)
    (I:=λx c st'=>SameS st st'/\c.1=none/\Go O key a b c.2.1 c.2.2.1 c.2.2.2.1/\x<c.2.1.size)
    (Q:=λc st'=>SameS st st'/\∃r,c.1=some r/\GF O key a b r) ?step ?fin ?init) ?post)
   case init=>exact⟨.refl _,rfl,⟨g1,by show 0+1<a.size;lia,by show 1<b.size;lia⟩,by show 0<1;lia⟩
   case fin=>
    rintro⟨_,o,i,j,mg⟩ st' ⟨hs,rfl,g,hx⟩
    have:=g.gi.size (by have:=g.hi;lia) (by have:=g.hj;lia)
    have:=g.hi;have:=g.hj
    dsimp only at*
    lia
   case post=>
    rintro⟨_,o,i,j,mg⟩ st' ⟨hs,r,rfl,hr⟩
    exact Arb (hQ _ _ hs hr)
   case step=>
    rintro x ⟨_,o,i,j,mg⟩ st' _ hx ⟨hs,rfl,g,hxo⟩
    have hk':kindOf st'=κ:=hs.1.trans hk
    dsimp only at g hxo ⊢
    refine Aq7 (Av6 (Up (st:=st')
     (I:=λt c=>c.1=none/\Go O key a b c.2.1 c.2.2.1 c.2.2.2.1/\o.size+min t 1<=c.2.1.size)
     (Q:=λc st''=>st''=st'/\((∃r,c.1=some r/\GF O key a b r)∨(c.1=none/\Go O key a b c.2.1 c.2.2.1 c.2.2.2.1/\o.size<c.2.1.size))) ?s1 ?e1 ?i1) ?p1)
    case i1=>exact⟨rfl,g,by show o.size+min 0 1<=o.size;lia⟩
    case e1=>
     rintro⟨_,o',i',j',c',d'⟩ ⟨rfl,g',h'⟩
     exact⟨rfl,.inr ⟨rfl,g',by dsimp only at h' ⊢;lia⟩⟩
    case s1=>
     rintro t ⟨_,o',i',j',c',d'⟩ ht ⟨rfl,g',h'⟩
     obtain⟨gi,hi,hj⟩:=g'
     dsimp only at gi hi hj h' ⊢
     refine Aq7 (Be hj _ (Aq7 (Be (show i'<a.size by lia) _ (Aq7 (Xa hc hk' (hp.dB _ hj) (hp.dA _ dkl) _ ?_)))))
     dsimp only
     cases e:O.blt (key (b[j']'hj)) (key (a[i']'dkl)) with
     |
      true=>
      rw[if_pos rfl]
      refine Aq7 (Be hj _ ?_)
      have g2:=gi.pushB hj λk hk h1=>Aru (Asb e) (Va hp.ua i' k dkl hk h1)
      have hz:(o'.push (b[j']'hj)).size=o'.size+1:=As6 ..
      by_cases e3:j'+1=b.size
      ·
       rw[if_pos (by simpa using e3)]
       exact Arb ⟨rfl,rfl,.inl ⟨_,rfl,g2.endB e3⟩⟩
      ·
       rw[if_neg (by simpa using e3)]
       have g3:Go O key a b (o'.push (b[j']'hj)) i' (j'+1):=⟨g2,hi,dkl⟩
       split
       · exact Arb ⟨rfl,rfl,.inr ⟨rfl,g3,by show o.size<(o'.push _).size;lia⟩⟩
       · exact Arb ⟨rfl,rfl,g3,by show o.size+min (t+1) 1<=(o'.push _).size;lia⟩
     |
      false=>
      rw[if_neg dkd]
      refine Aq7 (Be (show i'<a.size by lia) _ ?_)
      have g2:=gi.pushA dkl λk hk h1=>Aru (show O.kle (key (a[i']'dkl)) (key (b[j']'hj)) from e) (Va hp.ub j' k hj hk h1)
      have hz:(o'.push (a[i']'dkl)).size=o'.size+1:=As6 ..
      by_cases e3:i'+1+1=a.size
      ·
       rw[if_pos (by simpa using e3)]
       exact Arb ⟨rfl,rfl,.inl ⟨_,rfl,g2.lastA hp e3⟩⟩
      ·
       rw[if_neg (by simpa using e3)]
       have g3:Go O key a b (o'.push (a[i']'dkl)) (i'+1) j':=⟨g2,dkl,hj⟩
       split
       · exact Arb ⟨rfl,rfl,.inr ⟨rfl,g3,by show o.size<(o'.push _).size;lia⟩⟩
       · exact Arb ⟨rfl,rfl,g3,by show o.size+min (t+1) 1<=(o'.push _).size;lia⟩
    case p1=>
     rintro⟨_,o1,i1,j1,c1,d1⟩ st'' ⟨rfl,⟨r,rfl,hr⟩|⟨rfl,g1',h1'⟩⟩
     · exact Arb ⟨hs,r,rfl,hr⟩
     ·
      dsimp only at g1' h1' ⊢
      refine Aq7 (wpS_lift (As8 ⟨rfl,?_⟩))
      refine Aq7 (Av6 (Atx (a:=0)
       (I:=λt c st'=>SameS st st'/\c.1=none/\Go O key a b c.2.1 c.2.2.1 c.2.2.2.1/\o.size<c.2.1.size)
       (Q:=λc st'=>SameS st st'/\((∃r,c.1=some r/\GF O key a b r)∨(c.1=none/\Go O key a b c.2.1 c.2.2.1 c.2.2.2.1/\o.size<c.2.1.size))) ?s2 ?e2 ?i2) ?p2)
      case i2=>exact⟨hs,rfl,g1',h1'⟩
      case e2=>exact λc st' h=>⟨h.1,.inr h.2⟩
      case p2=>
       rintro⟨_,o2,i2,j2,mg2,c2,d2⟩ st3 ⟨hs3,⟨r,rfl,hr⟩|⟨rfl,g2',h2'⟩⟩
       · exact Arb ⟨hs3,r,rfl,hr⟩
       ·
        dsimp only at g2' h2' ⊢
        refine Aq7 (dw λst4 hs4=>Arb ⟨hs3.trans hs4,rfl,g2',by dsimp only;lia⟩)
      case s2=>
       rintro t ⟨_,o2,i2,j2,mg2,c2,d2⟩ st3 _ ht ⟨hs3,rfl,g2',h2'⟩
       have hk3:kindOf st3=κ:=hs3.1.trans hk
       dsimp only at g2' h2' ⊢
       have fin:∀mg,wpS (model prog w) A E s (Aop a b o2 i2 j2 mg c2 d2) (λr st'=>match r with
         | .done c'=>SameS st st'/\((∃r,c'.1=some r/\GF O key a b r)∨(c'.1=none/\Go O key a b c'.2.1 c'.2.2.1 c'.2.2.2.1/\o.size<c'.2.1.size))
         | .yield c'=>SameS st st'/\c'.1=none/\Go O key a b c'.2.1 c'.2.2.1 c'.2.2.2.1/\o.size<c'.2.1.size) st3:=λmg=>
        Aje (m:=o.size) hc hk3 hp g2' dkl λr st' hs' hr=>by
         cases r with
         | done c'=>exact⟨hs3.trans hs',hr⟩
         | yield c'=>exact⟨hs3.trans hs',hr⟩
       by_cases hmg:mg2>1
       ·
        rw[if_pos hmg]
        exact fin _
       ·
        rw[if_neg hmg]
        exact fin _
end lo
def Ak6 (a b:Array Keyed):mHi a b=(do
 rule "list.sort.merge-hi"
 let all:=a.size+b.size
 let dn (o:Array Keyed) (i j:Nat):=a.extract 0 i++b.extract 0 j++o.reverse
 let fb (o:Array Keyed) (i j:Nat):=b.extract 0 j++a.extract 0 i++o.reverse
 let mut i:=a.size-1
 let mut j:=b.size
 let mut o:Array Keyed:=#[←elem' a i]
 if i==0 then return dn o i j
 if j==1 then return fb o i j
 let mut mg:=gallopOf (←get)
 for _ in [0:all] do
  let mut ac:=0
  let mut bc:=0
  for _ in [0:all] do
   let some aw ←lt' (←elem' b (j-1)) (←elem' a (i-1))|return dn o i j
   if aw then
    i:=i-1;o:=o.push (←elem' a i);ac:=ac+1;bc:=0
    if i==0 then return dn o i j
    if ac≥mg then break
   else
    j:=j-1;o:=o.push (←elem' b j);bc:=bc+1;ac:=0
    if j==1 then return fb o i j
    if bc≥mg then break
  rule "list.sort.gallop"
  mg:=mg+1
  for _ in [0:all] do
   if mg>1 then mg:=mg-1
   ym mg
   let some p ←gal false (←elem' b (j-1)) a 0 i (i-1)|return dn o i j
   let k:=i-p
   ac:=k
   if k>0 then
    o:=o++(a.extract p i).reverse;i:=p
    if i==0 then return dn o i j
   j:=j-1;o:=o.push (←elem' b j)
   if j==1 then return fb o i j
   let some p ←gal true (←elem' a (i-1)) b 0 j (j-1)|return dn o i j
   let k:=j-p
   bc:=k
   if k>0 then
    o:=o++(b.extract p j).reverse;j:=p
    if j==1 then return fb o i j
    if j==0 then return dn o i j
   i:=i-1;o:=o.push (←elem' a i)
   if i==0 then return dn o i j
   if ac<7&&bc<7 then break
  mg:=mg+1
  ym mg
 unsupported "internal:list.sort.merge-bound"):=rfl
def oh {l:Array Keyed}{i n:Nat}{x:Keyed}(h:x∈(l.extract i n).toList.reverse):∃k,∃hk:k<l.size,i<=k/\k<n/\x=l[k]:=by
 rw[List.mem_reverse,Qp] at h
 obtain⟨k,hk,h1,h2,h3⟩:=Acu h
 exact⟨k,hk,h1,dkl,h3⟩
def Hl {l:Array Keyed}{n:Nat}{x:Keyed}(h:x∈(l.toList.take n).reverse):∃k,∃hk:k<l.size,k<n/\x=l[k]:=Aea (List.mem_reverse.mp h)
def ni {l:Array Keyed}{p i:Nat}(h:p<=i):(l.toList.take i).reverse=(l.extract p i).toList.reverse++(l.toList.take p).reverse:=by
 rw[←Atn,Qp]
 congr 1
 have e:=(Asy p (l.toList.take i)).symm
 rw[List.take_take,Nat.min_eq_left h,List.drop_take] at e
 exact e
def Ub (l:Array Keyed)(i:Nat):(l.extract 0 i).toList=l.toList.take i:=by
 rw[Qp];rfl
section hi
variable {prog:Program}{w:World}{A:Around}{E:Value->Shared->Prop}{s:Shared}{O:KeyOrd}{key:Keyed->O.α}{D:Keyed->Prop}{κ:SortKind}{a b:Array Keyed}
def Dnw (O:KeyOrd)(key:Keyed->O.α)(x y:Keyed):Prop:=O.kle (key y) (key x)
abbrev HI (O:KeyOrd)(key:Keyed->O.α)(a b o:Array Keyed)(i j:Nat):Prop:=MI (Dnw O key) (a.toList++b.toList) o.toList (a.toList.take i).reverse (b.toList.take j).reverse
theorem HI.size {o:Array Keyed}{i j:Nat}(h:HI O key a b o i j)(hi:i<=a.size)(hj:j<=b.size):o.size+i+j=a.size+b.size:=by
 have:=h.perm.length_eq
 simp only[Aqw,List.length_reverse,Ar4,Aqx] at this
 lia
def MD.rev {R:Keyed->Keyed->Prop}{all l:List Keyed}(h:MD (λx y=>R y x) all l):MD R all l.reverse:=⟨(Awi l).trans h.1,by rw[Avw];exact h.2⟩
structure Ho (O:KeyOrd)(key:Keyed->O.α)(a b o:Array Keyed)(i j:Nat):Prop where
 gi:HI O key a b o i j
 i0:0<i
 hi:i<=a.size
 j0:1<j
 hj:j<=b.size
def HI.pushA {o:Array Keyed}{i j:Nat}(g:HI O key a b o (i+1) j)(hi:i<a.size)(h:∀k(hk:k<b.size),k<j->O.kle (key b[k]) (key a[i])):HI O key a b (o.push a[i]) i j:=by
 unfold HI at g ⊢
 rw[take_cons hi] at g
 rw[Atk]
 refine g.left λy hy=>?_
 obtain⟨k,hk,h1,rfl⟩:=Hl hy
 exact h k hk h1
def HI.pushB {o:Array Keyed}{i j:Nat}(g:HI O key a b o i (j+1))(hj:j<b.size)(h:∀k(hk:k<a.size),k<i->O.kle (key a[k]) (key b[j])):HI O key a b (o.push b[j]) i j:=by
 unfold HI at g ⊢
 rw[take_cons hj] at g
 rw[Atk]
 refine g.right λy hy=>?_
 obtain⟨k,hk,h1,rfl⟩:=Hl hy
 exact h k hk h1
def HI.blockA {o:Array Keyed}{i j p:Nat}(g:HI O key a b o i j)(hp:p<=i)(h:∀u(hu:u<a.size)k(hk:k<b.size),p<=u->u<i->k<j->O.kle (key b[k]) (key a[u])):HI O key a b (o++(a.extract p i).reverse) p j:=by
 unfold HI at g ⊢
 rw[ni hp] at g
 rw[Ary,At8]
 refine g.lefts λx hx y hy=>?_
 obtain⟨u,hu,u1,u2,rfl⟩:=oh hx
 obtain⟨k,hk,h1,rfl⟩:=Hl hy
 exact h u hu k hk u1 dkl h1
def HI.blockB {o:Array Keyed}{i j p:Nat}(g:HI O key a b o i j)(hp:p<=j)(h:∀u(hu:u<b.size)k(hk:k<a.size),p<=u->u<j->k<i->O.kle (key a[k]) (key b[u])):HI O key a b (o++(b.extract p j).reverse) i p:=by
 unfold HI at g ⊢
 rw[ni hp] at g
 rw[Ary,At8]
 refine g.rights λx hx y hy=>?_
 obtain⟨u,hu,u1,u2,rfl⟩:=oh hx
 obtain⟨k,hk,h1,rfl⟩:=Hl hy
 exact h u hu k hk u1 dkl h1
def HI.endA {o:Array Keyed}{i j:Nat}(g:HI O key a b o i j)(hi:i=0):GF O key a b (a.extract 0 i++b.extract 0 j++o.reverse):=by
 subst hi
 unfold HI at g
 unfold GF
 rw[Ary,Ary,At8,Ub,Ub]
 rw[Avc,List.reverse_nil] at g
 have:=(g.doneB).rev
 rw[Atn,Auy] at this
 rw[Avc,List.nil_append]
 exact this
def HI.endB {o:Array Keyed}{i j:Nat}(g:HI O key a b o i j)(hj:j=0):GF O key a b (a.extract 0 i++b.extract 0 j++o.reverse):=by
 subst hj
 unfold HI at g
 unfold GF
 rw[Ary,Ary,At8,Ub,Ub]
 rw[Avc,List.reverse_nil] at g
 have:=(g.doneA).rev
 rw[Atn,Auy] at this
 rw[Avc,Ark]
 exact this
def HI.lastB {o:Array Keyed}{i j:Nat}(hp:MPre O key D a b)(g:HI O key a b o i j)(hj:j=1):GF O key a b (b.extract 0 j++a.extract 0 i++o.reverse):=by
 subst hj
 unfold HI at g
 unfold GF
 have hnb:=hp.nb
 rw[Ary,Ary,At8,Ub,Ub]
 have:=(g.flip.last λy hy x hx=>?_).rev
 ·
  rw[Atn,Atn,Auy,Auy] at this
  exact this
 ·
  obtain⟨u,hu,u1,rfl⟩:=Hl hx
  obtain⟨k,hk,k1,rfl⟩:=Hl hy
  obtain rfl:u=0:=by lia
  exact Aru (hp.first dkl dkl) (Va hp.ua 0 k dkl hk dkl)
abbrev HC:=Option (Array Keyed)×Nat×Nat×Array Keyed×Nat×Nat×Nat
def Amy (a b o:Array Keyed)(i j mg k k1:Nat):StateT SortSt Sem (ForInStep HC):=
 elem' a (i-1)>>= λx=>
 if(i-1==0)=true then pure (.done (some (a.extract 0 (i-1)++b.extract 0 j++(o.push x).reverse),i-1,j,o.push x,mg,k,k1))
 else if(decide (k<7)&&decide (k1<7))=true then pure (.done (none,i-1,j,o.push x,mg,k,k1))
 else pure (.yield (none,i-1,j,o.push x,mg,k,k1))
def Amx (a b o:Array Keyed)(i j mg k c:Nat):StateT SortSt Sem (ForInStep HC):=
 elem' b (j-1)>>= λx=>
 if(j-1==1)=true then pure (.done (some (b.extract 0 (j-1)++a.extract 0 i++(o.push x).reverse),i,j-1,o.push x,mg,k,c))
 else elem' a (i-1)>>= λy=>gal true y b 0 (j-1) (j-1-1)>>= λr=>
  match r with
  |
   some p=>(if j-1-p>0 then
    (if(p==1)=true then pure (.done (some (b.extract 0 p++a.extract 0 i++(o.push x++(b.extract p (j-1)).reverse).reverse),i,p,o.push x++(b.extract p (j-1)).reverse,mg,k,j-1-p))
    else if(p==0)=true then pure (.done (some (a.extract 0 i++b.extract 0 p++(o.push x++(b.extract p (j-1)).reverse).reverse),i,p,o.push x++(b.extract p (j-1)).reverse,mg,k,j-1-p))
    else Amy a b (o.push x++(b.extract p (j-1)).reverse) i p mg k (j-1-p))
   else Amy a b (o.push x) i (j-1) mg k (j-1-p))
  | _=>pure (.done (some (a.extract 0 i++b.extract 0 (j-1)++(o.push x).reverse),i,j-1,o.push x,mg,k,c))
def Anv (a b o:Array Keyed)(i j mg c d:Nat):StateT SortSt Sem (ForInStep HC):=
 ym mg>>= λ_=>elem' b (j-1)>>= λx=>gal false x a 0 i (i-1)>>= λr=>
 match r with
 |
  some p=>(if i-p>0 then
   (if(p==0)=true then pure (.done (some (a.extract 0 p++b.extract 0 j++(o++(a.extract p i).reverse).reverse),p,j,o++(a.extract p i).reverse,mg,i-p,d))
   else Amx a b (o++(a.extract p i).reverse) p j mg (i-p) d)
  else Amx a b o i j mg (i-p) d)
 | _=>pure (.done (some (a.extract 0 i++b.extract 0 j++o.reverse),i,j,o,mg,c,d))
def An4 (O:KeyOrd)(key:Keyed->O.α)(a b:Array Keyed)(m:Nat)(r:ForInStep HC):Prop:=match r with
 | .done c=>(∃x,c.1=some x/\GF O key a b x)∨(c.1=none/\Ho O key a b c.2.2.2.1 c.2.1 c.2.2.1/\m<c.2.2.2.1.size)
 | .yield c=>c.1=none/\Ho O key a b c.2.2.2.1 c.2.1 c.2.2.1/\m<c.2.2.2.1.size
def Acp {o:Array Keyed}{i j mg k k1 m:Nat}{st:SortSt}(hp:MPre O key D a b)(g:Ho O key a b o i j)(hm:m<=o.size)(hx:∀(hi:i-1<a.size)k(hk:k<b.size),k<j->O.kle (key b[k]) (key a[i-1]))
  {Q:ForInStep HC->SortSt->Prop} (hQ:∀r,An4 O key a b m r->Q r st):wpS (model prog w) A E s (Amy a b o i j mg k k1) Q st:=by
 obtain⟨gi,i0,hi,j0,hj⟩:=g
 unfold Amy
 refine Aq7 (Be (show i-1<a.size by lia) _ ?_)
 have g1:=HI.pushA (i:=i-1) (by rw[show i-1+1=i by lia];exact gi) dkl (hx dkl)
 have hz:(o.push (a[i-1]'dkl)).size=o.size+1:=As6 ..
 by_cases e1:i-1=0
 ·
  rw[if_pos (by simpa using e1)]
  exact Arb (hQ _ (.inl ⟨_,rfl,g1.endA e1⟩))
 ·
  rw[if_neg (by simpa using e1)]
  have g2:Ho O key a b (o.push (a[i-1]'dkl)) (i-1) j:=⟨g1,dkl,dkl,j0,hj⟩
  split
  · exact Arb (hQ _ (.inr ⟨rfl,g2,by show m<(o.push _).size;lia⟩))
  · exact Arb (hQ _ ⟨rfl,g2,by show m<(o.push _).size;lia⟩)
def Ac4 {o:Array Keyed}{i j mg k c m:Nat}{st:SortSt}(hc:qy prog w A s κ key D)(hk:kindOf st=κ)(hp:MPre O key D a b)(g:Ho O key a b o i j)(hm:m<=o.size)(hx:∀(hj:j-1<b.size)k(hk:k<a.size),k<i->O.kle (key a[k]) (key b[j-1]))
  {Q:ForInStep HC->SortSt->Prop} (hQ:∀r,An4 O key a b m r->Q r st):wpS (model prog w) A E s (Amx a b o i j mg k c) Q st:=by
 obtain⟨gi,i0,hi,j0,hj⟩:=g
 unfold Amx
 refine Aq7 (Be (show j-1<b.size by lia) _ ?_)
 have g1:=HI.pushB (j:=j-1) (by rw[show j-1+1=j by lia];exact gi) dkl (hx dkl)
 have hz:(o.push (b[j-1]'dkl)).size=o.size+1:=As6 ..
 by_cases e1:j-1=1
 ·
  rw[if_pos (by simpa using e1)]
  exact Arb (hQ _ (.inl ⟨_,rfl,g1.lastB hp e1⟩))
 ·
  rw[if_neg (by simpa using e1)]
  refine Aq7 (Be (show i-1<a.size by lia) _ ?_)
  refine Aq7 (t9 hc hk (hp.dA (i-1) dkl) hp.db dkl dkl (λu v hu hv _ h2 _=>Va hp.ub u v hu hv h2) λp hk1 h1 h2=>?_)
  simp only[if_true,Au7] at h1 h2
  dsimp only
  by_cases hk0:j-1-p>0
  ·
   rw[if_pos hk0]
   have g3:=g1.blockB (p:=p) dkl λu hu v hv a1 a2 a3=>Aru (Va hp.ua v (i-1) hv dkl dkl) (h2 u hu a1 a2)
   by_cases e2:p=1
   ·
    rw[if_pos (by simpa using e2)]
    exact Arb (hQ _ (.inl ⟨_,rfl,g3.lastB hp e2⟩))
   ·
    rw[if_neg (by simpa using e2)]
    by_cases e3:p=0
    ·
     rw[if_pos (by simpa using e3)]
     exact Arb (hQ _ (.inl ⟨_,rfl,g3.endB e3⟩))
    ·
     rw[if_neg (by simpa using e3)]
     refine Acp hp ⟨g3,i0,hi,dkl,dkl⟩ ?_ (λhi v hv a1=>Asb (h1 v hv dkl a1)) hQ
     rw[Avj];lia
  ·
   rw[if_neg hk0]
   exact Acp hp ⟨g1,i0,hi,dkl,dkl⟩ dkl (λhi v hv a1=>Asb (h1 v hv dkl dkl)) hQ
def Ajl {o:Array Keyed}{i j mg c d m:Nat}{st:SortSt}(hc:qy prog w A s κ key D)(hk:kindOf st=κ)(hp:MPre O key D a b)(g:Ho O key a b o i j)(hm:m<=o.size)
  {Q:ForInStep HC->SortSt->Prop} (hQ:∀r st',SameS st st'->An4 O key a b m r->Q r st'):wpS (model prog w) A E s (Anv a b o i j mg c d) Q st:=by
 obtain⟨gi,i0,hi,j0,hj⟩:=g
 unfold Anv
 refine Aq7 (dw λst' hs=>?_)
 have hk':kindOf st'=κ:=hs.1.trans hk
 refine Aq7 (Be (show j-1<b.size by lia) _ ?_)
 refine Aq7 (t9 hc hk' (hp.dB (j-1) dkl) hp.da dkl dkl (λu v hu hv _ h2 _=>Va hp.ua u v hu hv h2) λp hk1 h1 h2=>?_)
 simp only[Atd,Av1,Au7] at h1 h2
 dsimp only
 have hx:∀(hj:j-1<b.size)v(hv:v<a.size),v<p->O.kle (key a[v]) (key b[j-1]):=λhj v hv a1=>h1 v hv dkl a1
 by_cases hk0:i-p>0
 ·
  rw[if_pos hk0]
  have g3:=gi.blockA (p:=p) dkl λu hu v hv a1 a2 a3=>Aru (Va hp.ub v (j-1) hv dkl dkl) (Asb (h2 u hu a1 a2))
  by_cases e1:p=0
  ·
   rw[if_pos (by simpa using e1)]
   exact Arb (hQ _ _ hs (.inl ⟨_,rfl,g3.endA e1⟩))
  ·
   rw[if_neg (by simpa using e1)]
   refine Ac4 hc hk' hp ⟨g3,dkl,dkl,j0,hj⟩ ?_ hx λr hr=>hQ r _ hs hr
   rw[Avj];lia
 ·
  rw[if_neg hk0]
  exact Ac4 hc hk' hp ⟨gi,i0,hi,j0,hj⟩ hm (λhj v hv a1=>hx hj v hv dkl) λr hr=>hQ r _ hs hr
set_option smartUnfolding false in
def Alc {st:SortSt}(hc:qy prog w A s κ key D)(hk:kindOf st=κ)(hp:MPre O key D a b){Q:Array Keyed->SortSt->Prop}(hQ:∀r st',SameS st st'->GF O key a b r->Q r st'):wpS (model prog w) A E s (mHi a b) Q st:=by
 rw[Ak6]
 refine Aq7 (wpS_lift (As8 ⟨rfl,?_⟩))
 have hna:=hp.na
 have hnb:=hp.nb
 refine Aq7 (Be (show a.size-1<a.size by lia) _ ?_)
 have g0:HI O key a b #[] (a.size-1+1) b.size:=by
  unfold HI
  rw[Auo (by rw[Aqx];lia),Auo (by rw[Aqx];lia)]
  refine⟨?_,.nil,(λ_ z=>nomatch z),(λ_ z=>nomatch z),?_,?_⟩
  ·
   show([]++(a.toList.reverse++b.toList.reverse)).Perm _
   rw[List.nil_append]
   exact List.Perm.append (Awi _) (Awi _)
  · rw[Avw];exact hp.ua
  · rw[Avw];exact hp.ub
 have g1:HI O key a b #[a[a.size-1]'dkl] (a.size-1) b.size:=g0.pushA dkl λk hk _=>Aru (Va hp.ub k (b.size-1) hk dkl dkl) (hp.last dkl dkl)
 by_cases e1:a.size-1=0
 ·
  dsimp only
  rw[if_pos (by simpa using e1)]
  exact Arb (hQ _ _ (.refl _) (g1.endA e1))
 ·
  by_cases e2:b.size=1
  ·
   dsimp only
   rw[if_neg (by simpa using e1),if_pos (by simpa using e2)]
   exact Arb (hQ _ _ (.refl _) (g1.lastB hp e2))
  ·
   dsimp only
   rw[if_neg (by simpa using e1),if_neg (by simpa using e2)]
   refine Aq7 (wpS_get ?_)
   refine Aq7 (Av6 (Atx (a:=0)
    (I:=λx c st'=>SameS st st'/\c.1=none/\Ho O key a b c.2.2.2.1 c.2.1 c.2.2.1/\x<c.2.2.2.1.size)
    (Q:=λc st'=>SameS st st'/\∃r,c.1=some r/\GF O key a b r) ?step ?fin ?init) ?post)
   case init=>exact⟨.refl _,rfl,⟨g1,by show 0<a.size-1;lia,by show a.size-1<=a.size;lia,by show 1<b.size;lia,Aq0 _⟩,by show 0<1;lia⟩
   case fin=>
    rintro⟨_,i,j,o,mg⟩ st' ⟨hs,rfl,g,hx⟩
    have:=g.gi.size g.hi g.hj
    have:=g.i0;have:=g.j0
    dsimp only at*
    lia
   case post=>
    rintro⟨_,i,j,o,mg⟩ st' ⟨hs,r,rfl,hr⟩
    exact Arb (hQ _ _ hs hr)
   case step=>
    rintro x ⟨_,i,j,o,mg⟩ st' _ hx ⟨hs,rfl,g,hxo⟩
    have hk':kindOf st'=κ:=hs.1.trans hk
    dsimp only at g hxo ⊢
    refine Aq7 (Av6 (Up (st:=st')
     (I:=λt c=>c.1=none/\Ho O key a b c.2.2.2.1 c.2.1 c.2.2.1/\o.size+min t 1<=c.2.2.2.1.size)
     (Q:=λc st''=>st''=st'/\((∃r,c.1=some r/\GF O key a b r)∨(c.1=none/\Ho O key a b c.2.2.2.1 c.2.1 c.2.2.1/\o.size<c.2.2.2.1.size))) ?s1 ?e1 ?i1) ?p1)
    case i1=>exact⟨rfl,g,by show o.size+min 0 1<=o.size;lia⟩
    case e1=>
     rintro⟨_,i',j',o',c',d'⟩ ⟨rfl,g',h'⟩
     exact⟨rfl,.inr ⟨rfl,g',by dsimp only at h' ⊢;lia⟩⟩
    case s1=>
     rintro t ⟨_,i',j',o',c',d'⟩ ht ⟨rfl,g',h'⟩
     obtain⟨gi,i0,hi,j0,hj⟩:=g'
     dsimp only at gi i0 hi j0 hj h' ⊢
     refine Aq7 (Be (show j'-1<b.size by lia) _ (Aq7 (Be (show i'-1<a.size by lia) _ (Aq7 (Xa hc hk' (hp.dB _ dkl) (hp.dA _ dkl) _ ?_)))))
     dsimp only
     cases e:O.blt (key (b[j'-1]'dkl)) (key (a[i'-1]'dkl)) with
     |
      true=>
      rw[if_pos rfl]
      refine Aq7 (Be (show i'-1<a.size by lia) _ ?_)
      have g2:=HI.pushA (i:=i'-1) (by rw[show i'-1+1=i' by lia];exact gi) dkl λk hk h1=>Aru (Va hp.ub k (j'-1) hk dkl dkl) (Asb e)
      have hz:(o'.push (a[i'-1]'dkl)).size=o'.size+1:=As6 ..
      by_cases e3:i'-1=0
      ·
       rw[if_pos (by simpa using e3)]
       exact Arb ⟨rfl,rfl,.inl ⟨_,rfl,g2.endA e3⟩⟩
      ·
       rw[if_neg (by simpa using e3)]
       have g3:Ho O key a b (o'.push (a[i'-1]'dkl)) (i'-1) j':=⟨g2,dkl,dkl,j0,hj⟩
       split
       · exact Arb ⟨rfl,rfl,.inr ⟨rfl,g3,by show o.size<(o'.push _).size;lia⟩⟩
       · exact Arb ⟨rfl,rfl,g3,by show o.size+min (t+1) 1<=(o'.push _).size;lia⟩
     |
      false=>
      rw[if_neg dkd]
      refine Aq7 (Be (show j'-1<b.size by lia) _ ?_)
      have g2:=HI.pushB (j:=j'-1) (by rw[show j'-1+1=j' by lia];exact gi) dkl λk hk h1=>Aru (Va hp.ua k (i'-1) hk dkl dkl) (show O.kle (key (a[i'-1]'dkl)) (key (b[j'-1]'dkl)) from e)
      have hz:(o'.push (b[j'-1]'dkl)).size=o'.size+1:=As6 ..
      by_cases e3:j'-1=1
      ·
       rw[if_pos (by simpa using e3)]
       exact Arb ⟨rfl,rfl,.inl ⟨_,rfl,g2.lastB hp e3⟩⟩
      ·
       rw[if_neg (by simpa using e3)]
       have g3:Ho O key a b (o'.push (b[j'-1]'dkl)) i' (j'-1):=⟨g2,i0,hi,dkl,dkl⟩
       split
       · exact Arb ⟨rfl,rfl,.inr ⟨rfl,g3,by show o.size<(o'.push _).size;lia⟩⟩
       · exact Arb ⟨rfl,rfl,g3,by show o.size+min (t+1) 1<=(o'.push _).size;lia⟩
    case p1=>
     rintro⟨_,i1,j1,o1,c1,d1⟩ st'' ⟨rfl,⟨r,rfl,hr⟩|⟨rfl,g1',h1'⟩⟩
     · exact Arb ⟨hs,r,rfl,hr⟩
     ·
      dsimp only at g1' h1' ⊢
      refine Aq7 (wpS_lift (As8 ⟨rfl,?_⟩))
      refine Aq7 (Av6 (Atx (a:=0)
       (I:=λt c st'=>SameS st st'/\c.1=none/\Ho O key a b c.2.2.2.1 c.2.1 c.2.2.1/\o.size<c.2.2.2.1.size)
       (Q:=λc st'=>SameS st st'/\((∃r,c.1=some r/\GF O key a b r)∨(c.1=none/\Ho O key a b c.2.2.2.1 c.2.1 c.2.2.1/\o.size<c.2.2.2.1.size))) ?s2 ?e2 ?i2) ?p2)
      case i2=>exact⟨hs,rfl,g1',h1'⟩
      case e2=>exact λc st' h=>⟨h.1,.inr h.2⟩
      case p2=>
       rintro⟨_,i2,j2,o2,mg2,c2,d2⟩ st3 ⟨hs3,⟨r,rfl,hr⟩|⟨rfl,g2',h2'⟩⟩
       · exact Arb ⟨hs3,r,rfl,hr⟩
       ·
        dsimp only at g2' h2' ⊢
        refine Aq7 (dw λst4 hs4=>Arb ⟨hs3.trans hs4,rfl,g2',by dsimp only;lia⟩)
      case s2=>
       rintro t ⟨_,i2,j2,o2,mg2,c2,d2⟩ st3 _ ht ⟨hs3,rfl,g2',h2'⟩
       have hk3:kindOf st3=κ:=hs3.1.trans hk
       dsimp only at g2' h2' ⊢
       have fin:∀mg,wpS (model prog w) A E s (Anv a b o2 i2 j2 mg c2 d2) (λr st'=>match r with
         | .done c'=>SameS st st'/\((∃r,c'.1=some r/\GF O key a b r)∨(c'.1=none/\Ho O key a b c'.2.2.2.1 c'.2.1 c'.2.2.1/\o.size<c'.2.2.2.1.size))
         | .yield c'=>SameS st st'/\c'.1=none/\Ho O key a b c'.2.2.2.1 c'.2.1 c'.2.2.1/\o.size<c'.2.2.2.1.size) st3:=λmg=>
        Ajl (m:=o.size) hc hk3 hp g2' dkl λr st' hs' hr=>by
         cases r with
         | done c'=>exact⟨hs3.trans hs',hr⟩
         | yield c'=>exact⟨hs3.trans hs',hr⟩
       by_cases hmg:mg2>1
       ·
        rw[if_pos hmg]
        exact fin _
       ·
        rw[if_neg hmg]
        exact fin _
end hi
def Alo (i:Nat):mergeAt' i=(do
 let z ←get
 let (some (p,n,c),some (q,m,_)):=((pendingOf z)[i]?,(pendingOf z)[i+1]?)|unsupported "internal:list.sort.pending"
 set (SortSt.mk' (kindOf z) (arrOf z) (((pendingOf z).setIfInBounds i (p,n+m,c)).eraseIdxIfInBounds (i+1)) (gallopOf z) (failedOf z))
 let some k ←gal false (←elem' (arrOf z) q) (arrOf z) p n 0|return false
 let (p,n):=(p+k,n-k)
 if n==0 then return true
 let some m ←gal true (←elem' (arrOf z) (p+n-1)) (arrOf z) q m (m-1)|return false
 if m==0 then return true
 let x:=(arrOf z).extract p q
 let y:=(arrOf z).extract q (q+m)
 let r ←if n<=m then mLo x y else mHi x y
 modify λz=>setArr z (r.toList.zipIdx.foldl (λa(u,j)=>a.setIfInBounds (p+j) u) (arrOf z))
 return (failedOf (←get)).isNone):=rfl
section
variable {prog:Program}{w:World}{A:Around}{E:Value->Shared->Prop}{s:Shared}{O:KeyOrd}{key:Keyed->O.α}{D:Keyed->Prop}{κ:SortKind}
def Ai4 {M:Model}{A:Around}{E:Value->Shared->Prop}{s:Shared}{st z:SortSt}{Q:PUnit->SortSt->Prop}(h:Q ⟨⟩ z):wpS M A E s (set z:StateT SortSt Sem PUnit) Q st:=by
 unfold wpS;rw[StateT.run_set];exact Aqt ⟨rfl,h⟩
def Aha {l:Array Keyed}{i:Nat}(h:i<l.size):l[i]∈l.toList:=by simp
def Adh {st:SortSt}{ar:Array Keyed}{i:Nat}{P W:List Keyed}{x:Keyed}(h:ar.toList=P++x::W)(hi:i=P.length):Tells (model prog w) A E s st (elem' ar i) x:=by
 subst hi
 obtain⟨l⟩:=ar
 cases (h:l=P++x::W)
 have hl:P.length<(P++x::W).toArray.size:=by simp
 have e:=Be (prog:=prog) (w:=w) (A:=A) (E:=E) (s:=s) (st:=st) hl
 have ex:(P++x::W).toArray[P.length]=x:=by simp
 rw[ex] at e
 exact e
def p0 {ar:Array Keyed}{P Z W:List Keyed}(h:ar.toList=P++(Z++W))(k:Nat)(hk:k<Z.length):∃hi:P.length+k<ar.size,Z[k]=ar[P.length+k]:=by
 obtain⟨l⟩:=ar
 cases (h:l=P++(Z++W))
 refine⟨by simp;lia,?_⟩
 simp[List.getElem_append_right,List.getElem_append_left,hk]
def Aev {left:Bool}{k0:Keyed}{ar:Array Keyed}{bs n h:Nat}{P Z W:List Keyed}{st:SortSt}(hc:qy prog w A s κ key D)(hk:kindOf st=κ)(h0:D k0)(hD:∀x∈ar.toList,D x)
  (ha:ar.toList=P++(Z++W)) (hb:bs=P.length) (hn:n=Z.length) (hh:h<n) (hs:Z.Pairwise (Upw O key)) {Q:Option Nat->SortSt->Prop}
  (hQ:∀k Z1 Z2,Z=Z1++Z2->Z1.length=k->(∀x∈Z1,if left=true then O.klt (key x) (key k0) else O.kle (key x) (key k0))->
   (∀x∈Z2,if left=true then O.kle (key k0) (key x) else O.klt (key k0) (key x))->Q (some k) st):wpS (model prog w) A E s (gal left k0 ar bs n h) Q st:=by
 subst hb hn
 have hz:ar.size=P.length+(Z.length+W.length):=by rw[←Aqx,ha,Aqw,Aqw]
 refine t9 hc hk h0 hD dkl hh (λi j hi hj h1 h2 h3=>?_) λk hk1 h1 h2=>?_
 ·
  obtain⟨_,e1⟩:=p0 ha (i-P.length) dkl
  obtain⟨_,e2⟩:=p0 ha (j-P.length) dkl
  have ei:P.length+(i-P.length)=i:=by lia
  have ej:P.length+(j-P.length)=j:=by lia
  simp only[ei] at e1
  simp only[ej] at e2
  rw[←e1,←e2]
  by_cases e:i=j
  · subst e;exact Ass _
  · exact(Asx.mp hs) _ _ dkl dkl dkl
 ·
  refine hQ k (Z.take k) (Z.drop k) (Asy k Z).symm (by rw[Ar4];lia) (λx hx=>?_) (λx hx=>?_)
  ·
   obtain⟨u,hu,rfl⟩:=Aud hx
   rw[Ar4] at hu
   obtain⟨hi,e⟩:=p0 ha u dkl
   rw[Auq,e]
   exact h1 _ hi dkl dkl
  ·
   obtain⟨u,hu,rfl⟩:=Aud hx
   rw[Ast] at hu
   obtain⟨hi,e⟩:=p0 ha (k+u) dkl
   rw[Aur,e]
   exact h2 _ hi dkl dkl
def Ad3 {ar:Array Keyed}{P Z W:List Keyed}(h:ar.toList=P++(Z++W)){i j:Nat}(hi:i=P.length)(hj:j=P.length+Z.length):(ar.extract i j).toList=Z:=by
 subst hi hj
 rw[Qp,h,List.drop_left,Nat.add_sub_cancel_left,List.take_left]
theorem Ahf {α:Type}:∀{l:List α}{i:Nat}{x y:α},l[i]?=some x->l[i+1]?=some y->∃L T,l=L++x::y::T/\L.length=i
 | [],_,_,_,h,_=>by simp at h
 | [z],0,_,_,h,h2=>by simp at h2
 |
  z::z2::l,0,x,y,h,h2=>by
  simp at h h2
  exact⟨[],l,by rw[h,h2];rfl,rfl⟩
 |
  z::l,i+1,x,y,h,h2=>by
  obtain⟨L,T,rfl,e⟩:=Ahf (l:=l) (i:=i) (x:=x) (y:=y) (by simpa using h) (by simpa using h2)
  exact⟨z::L,T,rfl,by rw[Arx,e]⟩
def Aex {α:Type}{ar:Array α}{L T:List α}{x y z:α}{i:Nat}(h:ar.toList=L++x::y::T)(hi:i=L.length):((ar.setIfInBounds i z).eraseIdxIfInBounds (i+1)).toList=L++z::T:=by
 subst hi
 obtain rfl:ar=(L++x::y::T).toArray:=Aua.mp (by rw[h])
 have e:((L++x::y::T).toArray.setIfInBounds L.length z)=(L++z::y::T).toArray:=by
  apply Aua.mp
  rw[Array.toList_setIfInBounds,Auc,Auc,List.set_append_right _ _ (Aq0 _),Nat.sub_self]
  rfl
 rw[e,Array.eraseIdxIfInBounds,Av4 dks,Array.toList_eraseIdx,Auc,List.eraseIdx_append_of_length_le dkl,show L.length+1-L.length=1 by lia]
 rfl
def Alw {i:Nat}{st:SortSt}{L T:List (Nat×Nat×Nat)}{p n c q m e:Nat}{l1 X Y l2:List Keyed}(hc:qy prog w A s κ key D)(hk:kindOf st=κ)(hf:failedOf st=none)
  (hpd:(pendingOf st).toList=L++(p,n,c)::(q,m,e)::T) (hi:L.length=i) (ha:(arrOf st).toList=l1++(X++(Y++l2))) (hp:p=l1.length) (hn:n=X.length) (hq:q=l1.length+X.length) (hm:m=Y.length)
  (h1:1<=X.length) (h2:1<=Y.length) (hX:X.Pairwise (Upw O key)) (hY:Y.Pairwise (Upw O key)) (hD:∀x∈(arrOf st).toList,D x) {Q:Bool->SortSt->Prop}
  (hQ:∀st' M,kindOf st'=κ->failedOf st'=none->(pendingOf st').toList=L++(p,n+m,c)::T->(arrOf st').toList=l1++(M++l2)->M.Perm (X++Y)->M.Pairwise (Upw O key)->Q true st'):
  wpS (model prog w) A E s (mergeAt' i) Q st:=by
 have g1:(pendingOf st)[i]?=some (p,n,c):=by rw[←Arv,hpd,←hi];simp
 have g2:(pendingOf st)[i+1]?=some (q,m,e):=by rw[←Arv,hpd,←hi];simp
 rw[Alo]
 refine Aq7 (wpS_get ?_)
 dsimp only
 rw[g1,g2]
 dsimp only
 refine Aq7 (Ai4 ?_)
 have hpd':=Aex (z:=(p,n+m,c)) hpd hi.symm
 have hk2:kindOf (SortSt.mk' (kindOf st) (arrOf st) (((pendingOf st).setIfInBounds i (p,n+m,c)).eraseIdxIfInBounds (i+1)) (gallopOf st) (failedOf st))=κ:=hk
 obtain⟨y0,Y',rfl⟩:∃y Y',Y=y::Y':=by
  cases Y with
  | nil=>simp at h2
  | cons y Y'=>exact⟨y,Y',rfl⟩
 refine Aq7 (Adh (P:=l1++X) (x:=y0) (W:=Y'++l2) (by rw[ha];simp) (by rw[Aqw];exact hq) _ ?_)
 refine Aq7 (Aev (k0:=y0) (h:=0) hc hk2 (hD _ (by rw[ha];simp)) hD ha hp hn dkl hX λk X1 X2 e1 e2 b1 b2=>?_)
 subst e1
 simp only[Atd,Av1] at b1 b2
 dsimp only
 have dn:(∀x∈X1++X2,∀y∈y0::Y',O.kle (key x) (key y))->Q true (SortSt.mk' (kindOf st) (arrOf st) (((pendingOf st).setIfInBounds i (p,n+m,c)).eraseIdxIfInBounds (i+1)) (gallopOf st) (failedOf st)):=λhxy=>
  hQ _ (X1++X2++y0::Y') hk hf hpd' (by show(arrOf st).toList=_;rw[ha];simp) (.refl _) (by rw[Ar7];exact⟨hX,hY,hxy⟩)
 have uy:∀y∈y0::Y',O.kle (key y0) (key y):=λy hy=>by
  rcases Ara.mp hy with rfl|hy
  · exact Ass _
  · exact(Aug.mp hY).1 y hy
 by_cases e3:n-k=0
 ·
  rw[if_pos (by simpa using e3)]
  refine Arb (dn λx hx y hy=>?_)
  rw[Aqw] at hn
  have:X2=[]:=Atu dkl
  subst this
  rw[Ark] at hx
  exact Aru (b1 x hx) (uy y hy)
 ·
  rw[if_neg (by simpa using e3)]
  rw[Aqw] at hn
  have hX2:X2≠[]:=λz=>by rw[z] at hn;simp at hn;lia
  obtain⟨X3,xl,rfl⟩:∃X3 xl,X2=X3++[xl]:=⟨_,_,(List.dropLast_concat_getLast hX2).symm⟩
  have hn':n=X1.length+(X3.length+1):=by rw[hn];simp
  refine Aq7 (Adh (P:=l1++(X1++X3)) (x:=xl) (W:=(y0::Y')++l2) (by rw[ha];simp) (by rw[Aqw,Aqw];lia) _ ?_)
  refine Aq7 (Aev (k0:=xl) (h:=m-1) (P:=l1++(X1++(X3++[xl]))) (W:=l2) hc hk2 (hD _ (by rw[ha];simp)) hD (by rw[ha];simp) (by rw[Aqw];exact hq) hm dkl hY λk2 Y1 Y2 e4 e5 c1 c2=>?_)
  simp only[if_true] at c1 c2
  dsimp only
  have ux:∀x∈X1++(X3++[xl]),O.kle (key x) (key xl):=λx hx=>by
   rw[←As4] at hx hX
   rcases Ar0.mp hx with hx|hx
   · exact(Ar7.mp hX).2.2 x hx xl dks
   · rw[Arm.mp hx];exact Ass _
  by_cases e6:k2=0
  ·
   rw[if_pos (by simpa using e6)]
   refine Arb (dn λx hx y hy=>?_)
   have:Y1=[]:=Atu dkl
   subst this
   rw[e4] at hy
   exact Aru (ux x hx) (c2 y hy)
  ·
   rw[if_neg (by simpa using e6)]
   have x1:((arrOf st).extract (p+k) q).toList=X3++[xl]:=Ad3 (P:=l1++X1) (W:=y0::Y'++l2) (by rw[ha];simp) (by rw[Aqw];lia) (by simp at hq ⊢;lia)
   have y1:((arrOf st).extract q (q+k2)).toList=Y1:=Ad3 (P:=l1++(X1++(X3++[xl]))) (W:=Y2++l2) (by rw[ha,e4];simp) (by rw[Aqw];exact hq) (by rw[Aqw];lia)
   have pw:=Ar7.mp hX
   rw[e4] at hY
   have pwy:=Ar7.mp hY
   have hsx:((arrOf st).extract (p+k) q).size=X3.length+1:=by rw[←Aqx,x1];simp
   have hsy:((arrOf st).extract q (q+k2)).size=Y1.length:=by rw[←Aqx,y1]
   have hpre:MPre O key D ((arrOf st).extract (p+k) q) ((arrOf st).extract q (q+k2)):=by
    refine⟨by rw[x1];exact pw.2.1,by rw[y1];exact pwy.1,λx hx=>hD x ?_,λx hx=>hD x ?_,dkl,dkl,λa1 a2=>?_,λa1 a2=>?_⟩
    · rw[x1] at hx;rw[ha];exact Aq8 _ (Asa _ (Aq8 _ hx))
    · rw[y1] at hx;rw[ha,e4];exact Aq8 _ (Aq8 _ (Asa _ (Asa _ hx)))
    ·
     have m1:((arrOf st).extract (p+k) q)[0]∈X3++[xl]:=by rw[←x1];exact Aha _
     have m2:((arrOf st).extract q (q+k2))[0]=y0:=by
      have:((arrOf st).extract q (q+k2)).toList[0]?=some y0:=by
       rw[y1]
       cases Y1 with
       | nil=>exact absurd e5.symm e6
       | cons z Z=>simp at e4;rw[e4.1];rfl
      rw[Arv,Arh a2] at this
      exact Arl this
     rw[m2]
     exact Asb (b2 _ m1)
    ·
     have m1:((arrOf st).extract (p+k) q)[((arrOf st).extract (p+k) q).size-1]=xl:=by
      have:((arrOf st).extract (p+k) q).toList[((arrOf st).extract (p+k) q).size-1]?=some xl:=by
       rw[x1,hsx];simp
      rw[Arv,Arh a1] at this
      exact Arl this
     have m2:((arrOf st).extract q (q+k2))[((arrOf st).extract q (q+k2)).size-1]∈Y1:=by rw[←y1];exact Aha _
     rw[m1]
     exact Asb (c1 _ m2)
   have fin:∀r st',SameS (SortSt.mk' (kindOf st) (arrOf st) (((pendingOf st).setIfInBounds i (p,n+m,c)).eraseIdxIfInBounds (i+1)) (gallopOf st) (failedOf st)) st'->GF O key ((arrOf st).extract (p+k) q) ((arrOf st).extract q (q+k2)) r->
     wpS (model prog w) A E s (do modify λz=>setArr z (r.toList.zipIdx.foldl (λa(x:Keyed×Nat)=>a.setIfInBounds (p+k+x.2) x.1) (arrOf z));let z ←get;pure (failedOf z).isNone) Q st':=λr st' hs hr=>by
    refine Aq7 (Awe (Aq7 (wpS_get ?_)))
    have hfs:failedOf st'=none:=hs.2.2.2.trans hf
    show wpS (model prog w) A E s (pure (failedOf st').isNone) Q _
    rw[hfs]
    unfold GF at hr
    rw[x1,y1] at hr
    have har:arrOf st'=((l1++X1)++(((X3++[xl])++Y1)++(Y2++l2))).toArray:=by
     apply Aua.mp
     have:arrOf st'=arrOf st:=hs.2.1
     rw[this,ha,e4];simp
    have hput:=sr (p+k) r.toList 0 (l1++X1) ((X3++[xl])++Y1) (Y2++l2) (by rw[Aqw];lia) hr.1.length_eq.symm
    refine Arb (hQ _ (X1++(r.toList++Y2)) (hs.1.trans hk) hfs (by show(pendingOf st').toList=_;rw[show pendingOf st'=_ from hs.2.2.1];exact hpd') ?_ ?_ ?_)
    ·
     show(r.toList.zipIdx.foldl _ (arrOf st')).toList=_
     rw[har,hput]
     simp
    ·
     rw[e4]
     have:=(hr.1.append_right Y2).append_left X1
     simpa using this
    ·
     have mr:∀x∈r.toList,x∈X3++[xl]∨x∈Y1:=λx hx=>Ar0.mp (hr.1.mem_iff.mp hx)
     rw[Ar7,Ar7]
     refine⟨pw.1,⟨hr.2,pwy.2.1,λx hx y hy=>?_⟩,λx hx y hy=>?_⟩
     ·
      rcases mr x hx with hx|hx
      · exact Aru (ux x (Aq8 _ hx)) (c2 y hy)
      · exact pwy.2.2 x hx y hy
     ·
      rcases Ar0.mp hy with hy|hy
      ·
       rcases mr y hy with hy|hy
       · exact pw.2.2 x hx y hy
       · exact Aru (b1 x hx) (uy y (by rw[e4];exact Asa _ hy))
      · exact Aru (b1 x hx) (uy y (by rw[e4];exact Aq8 _ hy))
   by_cases e7:n-k<=k2
   ·
    rw[if_pos e7]
    exact Aq7 (Akn hc hk2 hpre fin)
   ·
    rw[if_neg e7]
    exact Aq7 (Alc hc hk2 hpre fin)
end
section
variable {prog:Program}{w:World}{A:Around}{E:Value->Shared->Prop}{s:Shared}{O:KeyOrd}{key:Keyed->O.α}{D:Keyed->Prop}{κ:SortKind}{a₀:Array Keyed}{pd:Array (Nat×Nat×Nat)}{lo:Nat}
def kb {O:KeyOrd}(key:Keyed->O.α)(p:Array Keyed)(i:Nat):O.α:=key (p.getD i (Value.none,Value.none))
def UpS {O:KeyOrd}(key:Keyed->O.α)(p:Array Keyed)(lo hi:Nat):Prop:=∀i j,lo<=i->i<=j->j<hi->O.kle (kb key p i) (kb key p j)
def DnS {O:KeyOrd}(key:Keyed->O.α)(p:Array Keyed)(lo hi:Nat):Prop:=∀i j,lo<=i->i<=j->j<hi->O.kle (kb key p j) (kb key p i)
def Xj {p q:Array Keyed}{i j:Nat}(h:p[i]?=q[j]?):kb key p i=kb key q j:=by
 unfold kb
 rw[Array.getD_eq_getD_getElem?,Array.getD_eq_getD_getElem?,h]
def Ab1 {p:Array Keyed}{i j:Nat}(hj:j<=p.size)(k:Nat):kb key (mirror p i j ((j-i)/2)) k=if i<=k/\k<j then kb key p (i+j-1-k) else kb key p k:=by
 have e:=getElem?_mirror_all (xs:=p) (i:=i) hj k
 by_cases h:i<=k/\k<j
 · rw[if_pos h] at e ⊢;exact Xj e
 · rw[if_neg h] at e ⊢;exact Xj e
def kl {p:Array Keyed}{i j:Nat}(hj:j<=p.size)(heq:∀k,i<=k->k<j->kb key p k=kb key p (j-1))(k:Nat):kb key (mirror p i j ((j-i)/2)) k=kb key p k:=by
 rw[Ab1 hj]
 split
 · rw[heq _ dkl dkl,heq k dkl dkl]
 · rfl
structure Bs (κ:SortKind)(a₀:Array Keyed)(pd:Array (Nat×Nat×Nat))(lo:Nat)(st:SortSt):Prop where
 perm:(arrOf st).Perm a₀
 kind:kindOf st=κ
 failed:failedOf st=none
 pend:pendingOf st=pd
 pre:∀i,i<lo->(arrOf st)[i]?=a₀[i]?
theorem Bs.size {st:SortSt}(h:Bs κ a₀ pd lo st):(arrOf st).size=a₀.size:=h.perm.size_eq
def Bs.rev {st:SortSt}(h:Bs κ a₀ pd lo st){i j:Nat}(hi:lo<=i)(hj:j<=a₀.size):Bs κ a₀ pd lo (setArr st (mirror (arrOf st) i j ((j-i)/2))):=
 ⟨(
  mirror_perm _ _ _ _).trans h.perm,h.kind,h.failed,h.pend,λk hk=>by
  show(mirror (arrOf st) i j ((j-i)/2))[k]?=_
  rw[getElem?_mirror_all (by rw[h.size];exact hj),if_neg dkl];exact h.pre k hk⟩
def Bs.bub {st:SortSt}(h:Bs κ a₀ pd lo st){k d:Nat}(hk:k<a₀.size)(hd:lo+d<=k):Bs κ a₀ pd lo (setArr st (bubble (arrOf st) k d)):=
 ⟨(
  bubble_perm _ _ _).trans h.perm,h.kind,h.failed,h.pend,λi hi=>by
  show(bubble (arrOf st) k d)[i]?=_
  rw[getElem?_bubble (by rw[h.size];exact hk) d dkl,if_neg dkl,if_neg dkl];exact h.pre i hi⟩
def Ac9 {st:SortSt}{i j:Nat}{Q:Option Bool->SortSt->Prop}(hc:qy prog w A s κ key D)(hD:∀x∈a₀.toList,D x)(hB:Bs κ a₀ pd lo st)(hi:i<a₀.size)(hj:j<a₀.size)
  (h:Q (some (O.blt (kb key (arrOf st) i) (kb key (arrOf st) j))) st):wpS (model prog w) A E s (ltAt' i j) Q st:=by
 have hz:=hB.size
 have hm:∀k(hk:k<(arrOf st).size),D (arrOf st)[k]/\kb key (arrOf st) k=key (arrOf st)[k]:=λk hk=>
  ⟨hD _ ((Array.perm_iff_toList_perm.mp hB.perm).mem_iff.mp dks),by unfold kb;simp[Array.getD,hk]⟩
 rw[ltAt'_eq]
 refine Aq7 (wpS_get ?_)
 refine Aq7 (Be (show i<(arrOf st).size by lia) _ (Aq7 (Be (show j<(arrOf st).size by lia) _ ?_)))
 rw[(hm i dkl).2,(hm j dkl).2] at h
 exact Xa hc hB.kind (hm i dkl).1 (hm j dkl).1 _ h
def Aot (lo a nrem:Nat):StateT SortSt Sem AscSt:=
 forIn [a:nrem] ((none,a):AscSt) λ_ c=>ltAt' (lo+c.2) (lo+c.2-1)>>= λx=>
  match x with
  | some sm=>if sm=true then pure (ForInStep.done (none,c.2)) else pure (ForInStep.yield (none,c.2+1))
  | _=>pure (ForInStep.done (some none,c.2))
def Abo (lo n nrem:Nat):StateT SortSt Sem (Option Nat):=
 reverseSlice' lo (lo+n)>>= λ_=>Aot lo n nrem>>= λc=>
  match c.1 with
  | some r=>pure r
  | none=>pure (some c.2)
def Aph (lo n nrem:Nat):StateT SortSt Sem (Option Nat):=
 (liftM (rule "list.sort.descending-run"):StateT SortSt Sem Unit)>>= λ_=>
 (forIn [n+1:nrem] ((none,n+1,0):DescSt) λ_ c=>ltAt' (lo+c.2.1) (lo+c.2.1-1)>>= λx=>
  match x with
  |
   some sm=>(if sm=true then
    (if c.2.2>0 then reverseSlice' (lo+c.2.1-(c.2.2+1)) (lo+c.2.1)>>= λ_=>pure (ForInStep.yield (none,c.2.1+1,0)) else pure (ForInStep.yield (none,c.2.1+1,0)))
   else ltAt' (lo+c.2.1-1) (lo+c.2.1)>>= λy=>
    match y with
    | some lg=>if lg=true then pure (ForInStep.done (none,c.2.1,c.2.2)) else pure (ForInStep.yield (none,c.2.1+1,c.2.2+1))
    | _=>pure (ForInStep.done (some none,c.2.1,c.2.2)))
  | _=>pure (ForInStep.done (some none,c.2.1,c.2.2)))>>= λc=>
 match c.1 with
 | some r=>pure r
 | none=>if c.2.2>0 then reverseSlice' (lo+c.2.1-(c.2.2+1)) (lo+c.2.1)>>= λ_=>Abo lo c.2.1 nrem else Abo lo c.2.1 nrem
def UpS.more {p:Array Keyed}{k:Nat}(h:UpS key p lo k)(hk:O.blt (kb key p k) (kb key p (k-1))=false):UpS key p lo (k+1):=by
 intro i j hl hij hj
 by_cases hjk:j<k
 · exact h i j hl hij hjk
 ·
  obtain rfl:j=k:=by lia
  by_cases hi:i=j
  · rw[hi];exact Ass _
  · exact Aru (h i (j-1) hl dkl dkl) hk
def DnS.more {p q:Array Keyed}{k:Nat}(h:DnS key p lo k)(e:∀i,kb key q i=kb key p i)(hk:O.kle (kb key p k) (kb key p (k-1))):DnS key q lo (k+1):=by
 intro i j hl hij hj
 rw[e,e]
 by_cases hjk:j<k
 · exact h i j hl hij hjk
 ·
  obtain rfl:j=k:=by lia
  by_cases hi:i=j
  · rw[hi];exact Ass _
  · exact Aru hk (h i (j-1) hl dkl dkl)
def Aew {st:SortSt}{a nrem:Nat}{Q:AscSt->SortSt->Prop}(hc:qy prog w A s κ key D)(hD:∀x∈a₀.toList,D x)(hn:lo+nrem<=a₀.size)(ha:1<=a)(han:a<=nrem)(hB:Bs κ a₀ pd lo st)
  (hs:UpS key (arrOf st) lo (lo+a)) (h:∀n,a<=n->n<=nrem->UpS key (arrOf st) lo (lo+n)->(n=nrem∨O.klt (kb key (arrOf st) (lo+n)) (kb key (arrOf st) (lo+n-1)))->Q (none,n) st):
  wpS (model prog w) A E s (Aot lo a nrem) Q st:=by
 unfold Aot
 refine Atx (I:=λx c st'=>st'=st/\c=(none,x)/\UpS key (arrOf st) lo (lo+x)) ?step ?fin ⟨rfl,rfl,hs⟩
 case fin=>
  rintro c st' ⟨rfl,rfl,hs'⟩
  rw[show max a nrem=nrem by lia] at hs' ⊢
  exact h nrem han (Aq0 _) hs' (.inl rfl)
 case step=>
  rintro x c st' hax hxn ⟨rfl,rfl,hs'⟩
  dsimp only
  refine Aq7 (Ac9 hc hD hB dkl dkl ?_)
  dsimp only
  cases e:O.blt (kb key (arrOf st') (lo+x)) (kb key (arrOf st') (lo+x-1)) with
  |
   true=>
   rw[if_pos rfl]
   exact Arb (h x hax dkl hs' (.inr e))
  |
   false=>
   rw[if_neg dkd]
   exact Arb ⟨rfl,rfl,hs'.more e⟩
def y8 {st:SortSt}{i j:Nat}{Q:Unit->SortSt->Prop}(h:Q () (setArr st (mirror (arrOf st) i j ((j-i)/2)))):wpS (model prog w) A E s (reverseSlice' i j) Q st:=by
 rw[reverseSlice'_eq];exact Awe h
def zw {st:SortSt}{n nrem:Nat}{Q:Option Nat->SortSt->Prop}(hc:qy prog w A s κ key D)(hD:∀x∈a₀.toList,D x)(hn:lo+nrem<=a₀.size)(h1:1<=n)(hnn:n<=nrem)(hB:Bs κ a₀ pd lo st)
  (hs:DnS key (arrOf st) lo (lo+n)) (h:∀m st',Bs κ a₀ pd lo st'->1<=m->m<=nrem->UpS key (arrOf st') lo (lo+m)->Q (some m) st'):wpS (model prog w) A E s (Abo lo n nrem) Q st:=by
 unfold Abo
 have hz:=hB.size
 refine Aq7 (y8 ?_)
 have hB':=hB.rev (i:=lo) (j:=lo+n) (Aq0 _) dkl
 refine Aq7 (Aew hc hD hn h1 hnn hB' ?_ λm hm1 hm2 hsm _=>Arb (h m _ hB' dkl hm2 hsm))
 intro i j hl hij hj
 show O.kle (kb key (mirror (arrOf st) lo (lo+n) ((lo+n-lo)/2)) i) (kb key (mirror (arrOf st) lo (lo+n) ((lo+n-lo)/2)) j)
 rw[Ab1 dkl,Ab1 dkl,if_pos dkl,if_pos dkl]
 exact hs _ _ dkl dkl dkl
def Aek {st:SortSt}{n nrem:Nat}{Q:Option Nat->SortSt->Prop}(hc:qy prog w A s κ key D)(hD:∀x∈a₀.toList,D x)(hn:lo+nrem<=a₀.size)(hnn:n+1<=nrem)(hB:Bs κ a₀ pd lo st)
  (hs:DnS key (arrOf st) lo (lo+(n+1))) (h:∀m st',Bs κ a₀ pd lo st'->1<=m->m<=nrem->UpS key (arrOf st') lo (lo+m)->Q (some m) st'):wpS (model prog w) A E s (Aph lo n nrem) Q st:=by
 unfold Aph
 refine Aq7 (wpS_lift (As8 ⟨rfl,?_⟩))
 have fin:∀m q st',Bs κ a₀ pd lo st'->1<=m->m<=nrem->DnS key (arrOf st') lo (lo+m)->q+1<=m->(∀i,lo+m-(q+1)<=i->i<lo+m->kb key (arrOf st') i=kb key (arrOf st') (lo+m-1))->
   wpS (model prog w) A E s (if q>0 then reverseSlice' (lo+m-(q+1)) (lo+m)>>= λ_=>Abo lo m nrem else Abo lo m nrem) Q st':=λm q st' hB' h1 h2 h3 h4 h5=>by
  have hz:=hB'.size
  by_cases hq:q>0
  ·
   rw[if_pos hq]
   refine Aq7 (y8 (zw hc hD hn h1 h2 (hB'.rev dkl dkl) ?_ h))
   intro i j hl hij hj
   show O.kle (kb key (mirror (arrOf st') _ _ _) j) (kb key (mirror (arrOf st') _ _ _) i)
   rw[kl dkl h5,kl dkl h5]
   exact h3 i j hl hij hj
  ·
   rw[if_neg hq]
   exact zw hc hD hn h1 h2 hB' h3 h
 refine Aq7 (Atx (I:=λx c st'=>∃q,c=(none,x,q)/\Bs κ a₀ pd lo st'/\DnS key (arrOf st') lo (lo+x)/\q+1<=x/\
   (∀i,lo+x-(q+1)<=i->i<lo+x->kb key (arrOf st') i=kb key (arrOf st') (lo+x-1))) ?step ?fn ⟨0,rfl,hB,hs,dkl,λi h1 h2=>by congr 1;lia⟩)
 case fn=>
  rintro c st' ⟨q,rfl,hB',hs',hq,he⟩
  rw[show max (n+1) nrem=nrem by lia] at hs' hq he ⊢
  exact fin nrem q st' hB' dkl (Aq0 _) hs' hq he
 case step=>
  rintro x c st' hax hxn ⟨q,rfl,hB',hs',hq,he⟩
  dsimp only
  have hz:=hB'.size
  refine Aq7 (Ac9 hc hD hB' dkl dkl ?_)
  dsimp only
  cases e:O.blt (kb key (arrOf st') (lo+x)) (kb key (arrOf st') (lo+x-1)) with
  |
   true=>
   rw[if_pos rfl]
   by_cases hq0:q>0
   ·
    rw[if_pos hq0]
    refine Aq7 (y8 (Arb ⟨0,rfl,hB'.rev dkl dkl,hs'.more (kl dkl he) (Asb e),dkl,λi h1 h2=>by congr 1;lia⟩))
   ·
    rw[if_neg hq0]
    exact Arb ⟨0,rfl,hB',hs'.more (λ_=>rfl) (Asb e),dkl,λi h1 h2=>by congr 1;lia⟩
  |
   false=>
   rw[if_neg dkd]
   refine Aq7 (Ac9 hc hD hB' dkl dkl ?_)
   dsimp only
   cases e2:O.blt (kb key (arrOf st') (lo+x-1)) (kb key (arrOf st') (lo+x)) with
   |
    true=>
    rw[if_pos rfl]
    exact Arb (fin x q st' hB' dkl dkl hs' hq he)
   |
    false=>
    rw[if_neg dkd]
    have eq:kb key (arrOf st') (lo+x)=kb key (arrOf st') (lo+x-1):=KeyOrd.kle_antisymm e2 e
    refine Arb ⟨q+1,rfl,hB',hs'.more (λ_=>rfl) (by rw[eq];exact Ass _),dkl,λi h1 h2=>?_⟩
    rw[show lo+(x+1)-1=lo+x by lia]
    by_cases hix:i=lo+x
    · rw[hix]
    · rw[eq];exact he i dkl dkl
set_option smartUnfolding false in
def Ah7 {st:SortSt}{nrem:Nat}{Q:Option Nat->SortSt->Prop}(hc:qy prog w A s κ key D)(hD:∀x∈a₀.toList,D x)(hn:lo+nrem<=a₀.size)(h1:1<=nrem)(hB:Bs κ a₀ pd lo st)
  (h:∀m st',Bs κ a₀ pd lo st'->1<=m->m<=nrem->UpS key (arrOf st') lo (lo+m)->Q (some m) st'):wpS (model prog w) A E s (countRun' lo nrem) Q st:=by
 rw[countRun'_eq]
 dsimp only
 have hz:=hB.size
 refine Aq7 (Aew hc hD hn (Aq0 1) h1 hB (λi j hl hij hj=>by rw[show i=j by lia];exact Ass _) λn hn1 hn2 hsn hor=>?_)
 dsimp only
 by_cases hnn:n=nrem
 ·
  rw[if_pos (by simpa using hnn)]
  exact Arb (h n st hB hn1 hn2 hsn)
 ·
  rw[if_neg (by simpa using hnn)]
  have hlt:=hor.resolve_left hnn
  by_cases hgt:n>1
  ·
   rw[if_pos hgt]
   refine Aq7 (Ac9 hc hD hB dkl dkl ?_)
   dsimp only
   cases e:O.blt (kb key (arrOf st) lo) (kb key (arrOf st) (lo+n-1)) with
   |
    true=>
    rw[if_pos rfl]
    exact Arb (h n st hB hn1 hn2 hsn)
   |
    false=>
    rw[if_neg dkd]
    have hall:∀k,lo<=k->k<lo+n->kb key (arrOf st) k=kb key (arrOf st) (lo+n-1):=λk k1 k2=>
     KeyOrd.kle_antisymm (hsn k (lo+n-1) k1 dkl dkl) (Aru e (hsn lo k (Aq0 _) k1 k2))
    refine Aq7 (y8 (Aek hc hD hn dkl (hB.rev (Aq0 _) dkl) ?_ h))
    intro i j hl hij hj
    show O.kle (kb key (mirror (arrOf st) _ _ _) j) (kb key (mirror (arrOf st) _ _ _) i)
    rw[kl dkl hall,kl dkl hall]
    by_cases hjn:j<lo+n
    · rw[hall i dkl dkl,hall j dkl hjn];exact Ass _
    ·
     obtain rfl:j=lo+n:=by lia
     by_cases hi':i=lo+n
     · rw[hi'];exact Ass _
     · rw[hall i dkl dkl];exact Asb hlt
  ·
   rw[if_neg hgt]
   obtain rfl:n=1:=by lia
   refine Aek hc hD hn dkl hB ?_ h
   intro i j hl hij hj
   by_cases hi':i=j
   · rw[hi'];exact Ass _
   ·
    obtain rfl:i=lo:=by lia
    obtain rfl:j=i+1:=by lia
    exact Asb hlt
end
section
variable {prog:Program}{w:World}{A:Around}{E:Value->Shared->Prop}{s:Shared}{O:KeyOrd}{key:Keyed->O.α}{D:Keyed->Prop}{κ:SortKind}{a₀:Array Keyed}{pd:Array (Nat×Nat×Nat)}{lo:Nat}
def Ahp {p:Array Keyed}{k d:Nat}(hk:k<p.size)(hd:d<=k)(i:Nat):kb key (bubble p k d) i=if i=k-d then kb key p k else if k-d<i/\i<=k then kb key p (i-1) else kb key p i:=by
 have e:=getElem?_bubble (xs:=p) hk d hd i
 by_cases h1:i=k-d
 · rw[if_pos h1] at e ⊢;exact Xj e
 ·
  rw[if_neg h1] at e ⊢
  by_cases h2:k-d<i/\i<=k
  · rw[if_pos h2] at e ⊢;exact Xj e
  · rw[if_neg h2] at e ⊢;exact Xj e
def Ahu {st:SortSt}{i j:Nat}{Q:Unit->SortSt->Prop}(h:Q () (setArr st (bubble (arrOf st) i (i-j)))):wpS (model prog w) A E s (moveDown' i j) Q st:=by
 rw[moveDown'_eq];exact Awe h
def Ai6 {st:SortSt}{n ok:Nat}{Q:Bool->SortSt->Prop}(hc:qy prog w A s κ key D)(hD:∀x∈a₀.toList,D x)(hn:lo+n<=a₀.size)(hok:ok<=n)(h1:1<=ok)(hB:Bs κ a₀ pd lo st)
  (hs:UpS key (arrOf st) lo (lo+ok)) (h:∀st',Bs κ a₀ pd lo st'->UpS key (arrOf st') lo (lo+n)->Q true st'):wpS (model prog w) A E s (binarySort' lo n ok) Q st:=by
 rw[binarySort'_eq]
 rw[show max ok 1=ok by lia]
 refine Aq7 (Atx (I:=λk c st'=>c=(none,())/\Bs κ a₀ pd lo st'/\UpS key (arrOf st') lo (lo+k)) ?step ?fin ⟨rfl,hB,hs⟩)
 case fin=>
  rintro c st' ⟨rfl,hB',hs'⟩
  rw[show max ok n=n by lia] at hs'
  exact Arb (h st' hB' hs')
 case step=>
  rintro k c st' hk1 hk2 ⟨rfl,hB',hs'⟩
  dsimp only
  have hz:=hB'.size
  have fin:∀l,l<=k->(∀i,lo<=i->i<lo+l->O.kle (kb key (arrOf st') i) (kb key (arrOf st') (lo+k)))->(∀i,lo+l<=i->i<lo+k->O.klt (kb key (arrOf st') (lo+k)) (kb key (arrOf st') i))->
    Bs κ a₀ pd lo (setArr st' (bubble (arrOf st') (lo+k) (lo+k-(lo+l))))/\UpS key (arrOf (setArr st' (bubble (arrOf st') (lo+k) (lo+k-(lo+l))))) lo (lo+(k+1)):=λl hl b1 b2=>by
   refine⟨hB'.bub dkl dkl,λi j hli hij hj=>?_⟩
   show O.kle (kb key (bubble (arrOf st') (lo+k) (lo+k-(lo+l))) i) (kb key (bubble (arrOf st') (lo+k) (lo+k-(lo+l))) j)
   rw[Ahp dkl dkl,Ahp dkl dkl,show lo+k-(lo+k-(lo+l))=lo+l by lia]
   repeat' split
   all_goals first
    | (exfalso;lia)
    | exact Ass _
    | exact b1 _ dkl dkl
    | exact Asb (b2 _ dkl dkl)
    | exact hs' _ _ dkl dkl dkl
  refine Aq7 (Up (st:=st') (I:=λt c=>∃l r,c=(none,l,r)/\l<=r/\r<=k/\r-l<=k-t/\(∀i,lo<=i->i<lo+l->O.kle (kb key (arrOf st') i) (kb key (arrOf st') (lo+k)))/\(∀i,lo+r<=i->i<lo+k->O.klt (kb key (arrOf st') (lo+k)) (kb key (arrOf st') i))) ?_ ?_
   ⟨0,k,rfl,Ar3 _,Aq0 _,dkl,λi i1 i2=>by lia,λi i1 i2=>by lia⟩)
  ·
   rintro t c ht ⟨l,r,rfl,a1,a2,a3,a4,a5⟩
   dsimp only
   by_cases hg:l≥r
   ·
    rw[if_pos hg]
    obtain rfl:l=r:=by lia
    exact Arb ⟨rfl,Aq7 (Ahu (Arb ⟨rfl,fin l a2 a4 a5⟩))⟩
   ·
    rw[if_neg hg]
    refine Aq7 (Ac9 hc hD hB' dkl dkl ?_)
    dsimp only
    cases e:O.blt (kb key (arrOf st') (lo+k)) (kb key (arrOf st') (lo+(l+r)/2)) with
    |
     true=>
     rw[if_pos rfl]
     exact Arb ⟨rfl,_,_,rfl,dkl,dkl,dkl,a4,λi i1 i2=>KeyOrd.klt_of_klt_of_kle e (hs' _ _ dkl i1 i2)⟩
    |
     false=>
     rw[if_neg dkd]
     exact Arb ⟨rfl,_,_,rfl,dkl,dkl,dkl,λi i1 i2=>Aru (hs' i (lo+(l+r)/2) i1 dkl dkl) e,a5⟩
  ·
   rintro c ⟨l,r,rfl,a1,a2,a3,a4,a5⟩
   obtain rfl:l=r:=by lia
   exact Aq7 (Ahu (Arb ⟨rfl,fin l a2 a4 a5⟩))
structure RJ (O:KeyOrd)(key:Keyed->O.α)(κ:SortKind)(a₀:Array Keyed)(tl:List Keyed)(m:Nat)(st:SortSt):Prop where
 perm:(arrOf st).toList.Perm a₀.toList
 kind:kindOf st=κ
 failed:failedOf st=none
 runs:∃C,(arrOf st).toList=C++tl/\C.length=m/\RunsL (Upw O key) (pendingOf st).toList 0 C
def RJ.mAt {st:SortSt}{tl:List Keyed}{m i:Nat}(hc:qy prog w A s κ key D)(hD:∀x∈a₀.toList,D x)(h:RJ O key κ a₀ tl m st)(hi:i+1<(pendingOf st).size){Q:Bool->SortSt->Prop}
  (hQ:∀st',RJ O key κ a₀ tl m st'->(pendingOf st').size+1=(pendingOf st).size->Q true st'):wpS (model prog w) A E s (mergeAt' i) Q st:=by
 obtain⟨hp,hk,hf,C,hC,hm,hr⟩:=h
 have g1:(pendingOf st).toList[i]?=some (pendingOf st)[i]:=by simp[show i<(pendingOf st).size by lia]
 have g2:(pendingOf st).toList[i+1]?=some (pendingOf st)[i+1]:=by simp[hi]
 obtain⟨L,T,e,hL⟩:=Ahf g1 g2
 rw[e] at hr
 obtain⟨l1,X,Y,l2,rfl,b1,b2,b3,b4,b5,b6,b7,b8,b9⟩:=hr.two
 generalize (pendingOf st)[i]=u at*
 generalize (pendingOf st)[i+1]=v at*
 obtain⟨p,n,c⟩:=u
 obtain⟨q,m',c'⟩:=v
 refine Alw (X:=X) (Y:=Y) (l1:=l1) (l2:=l2++tl) hc hk hf e hL (by rw[hC];simp) b1 b2 b3 b4 b5 b6 b7 b8 (λx hx=>hD x (hp.mem_iff.mp hx)) λst' M c1 c2 c3 c4 c5 c6=>hQ st' ⟨?_,c1,c2,l1++(M++l2),by rw[c4];simp,?_,?_⟩ ?_
 ·
  refine List.Perm.trans ?_ hp
  rw[c4,hC]
  have:=(c5.append_right (l2++tl)).append_left l1
  simpa using this
 ·
  have:=c5.length_eq
  simp at this hm ⊢
  lia
 ·
  rw[c3]
  exact b9 M c c6 (by rw[c5.length_eq,Aqw])
 · rw[←Aqx,←Aqx,c3,e];simp;lia
theorem yu {α:Type}(f:α->α)(x:α):∀(L:List α),(L++[x]).modify L.length f=L++[f x]
 | []=>rfl
 |
  y::L=>by
  show(y::(L++[x])).modify (L.length+1) f=_
  rw[List.modify_succ_cons,yu f x L];rfl
theorem RJ.repower {st:SortSt}{tl:List Keyed}{m pw:Nat}(h:RJ O key κ a₀ tl m st)(f:Nat×Nat×Nat->Nat×Nat×Nat)(hf:∀a n c,f (a,n,c)=(a,n,pw)):
  RJ O key κ a₀ tl m (setPending st ((pendingOf st).modify ((pendingOf st).size-1) f)):=by
 obtain⟨hp,hk,hf',C,hC,hm,hr⟩:=h
 refine⟨hp,hk,hf',C,hC,hm,?_⟩
 show RunsL (Upw O key) ((pendingOf st).modify ((pendingOf st).size-1) f).toList 0 C
 rw[Array.toList_modify]
 rcases List.eq_nil_or_concat (pendingOf st).toList with e|⟨L,⟨a,n,c⟩,e⟩
 ·
  rw[e] at hr ⊢
  rw[List.modify_nil]
  exact hr
 ·
  rw[List.concat_eq_append] at e
  rw[e] at hr
  rw[←Aqx,e,show(L++[(a,n,c)]).length-1=L.length by simp,yu,hf]
  exact hr.repower
def Ajr {st:SortSt}{C:List Keyed}{n:Nat}(hB:Bs κ a₀ pd lo st)(hl:lo+n<=a₀.size)(hC:a₀.toList.take lo=C)(hu:UpS key (arrOf st) lo (lo+n)):
  ∃S rest,(arrOf st).toList=C++(S++rest)/\S.length=n/\S.Pairwise (Upw O key):=by
 have hz:=hB.size
 refine⟨((arrOf st).toList.drop lo).take n,(arrOf st).toList.drop (lo+n),?_,by rw[Ar4,Ast,Aqx];lia,?_⟩
 ·
  have e1:(arrOf st).toList.take lo=C:=by
   rw[←hC]
   apply List.ext_getElem?
   intro i
   rw[Aui,Aui]
   split
   ·
    rename_i hi
    have:=hB.pre i hi
    rw[Arv,Arv];exact this
   · rfl
  have e2:=Asy lo (arrOf st).toList
  have e3:=Yl (arrOf st).toList (Atr lo n)
  rw[show lo+n-lo=n by lia] at e3
  rw[←e1,←e3,e2]
 ·
  rw[List.pairwise_iff_getElem]
  intro i j hi hj hij
  rw[Ar4,Ast,Aqx] at hi hj
  have:=hu (lo+i) (lo+j) dkl dkl dkl
  unfold kb at this
  simp only[Array.getD,show lo+i<(arrOf st).size by lia,show lo+j<(arrOf st).size by lia,Av4] at this
  rw[Auq,Aur,Auq,Aur]
  exact this
def Ajt (z lo n:Nat):StateT SortSt Sem (ForInStep (Option Unit×Nat)):=
 get>>= λy=>
 match (pendingOf y).back? with
 |
  some (s1,n1,_)=>
  (forIn [:z] ((none,()):Option Unit×Unit) λ_ _=>get>>= λy=>
   match (if(pendingOf y).size>1 then(pendingOf y)[(pendingOf y).size-2]? else none) with
   |
    some (_,_,old)=>(if old<=power' z (2*s1+n1) (2*s1+n1+n1+n) z then pure (ForInStep.done (none,()))
    else mergeAt' ((pendingOf y).size-2)>>= λok=>if(!ok)=true then pure (ForInStep.done (some (),())) else pure (ForInStep.yield (none,())))
   | _=>pure (ForInStep.done (none,())))>>= λc=>
  match c.1 with
  | some r=>pure (ForInStep.done (some r,lo))
  |
   none=>(modify λs=>setPending s ((pendingOf s).modify ((pendingOf s).size-1) λx=>(x.1,x.2.1,power' z (2*s1+n1) (2*s1+n1+n1+n) z)))>>= λ_=>
   (modify λs=>setPending s ((pendingOf s).push (lo,n,0)))>>= λ_=>pure (ForInStep.yield (none,lo+n))
 | _=>(modify λs=>setPending s ((pendingOf s).push (lo,n,0)))>>= λ_=>pure (ForInStep.yield (none,lo+n))
theorem RJ.push {st:SortSt}{S rest:List Keyed}{lo n:Nat}(h:RJ O key κ a₀ (S++rest) lo st)(hS:S.length=n)(hn:1<=n)(hu:S.Pairwise (Upw O key)):RJ O key κ a₀ rest (lo+n) (setPending st ((pendingOf st).push (lo,n,0))):=by
 obtain⟨hp,hk,hf',C,hC,hm,hr⟩:=h
 refine⟨hp,hk,hf',C++S,by show(arrOf st).toList=_;rw[hC];simp,by rw[Aqw];lia,?_⟩
 show RunsL (Upw O key) ((pendingOf st).push (lo,n,0)).toList 0 (C++S)
 rw[Atk]
 refine hr.append ⟨by show lo=0+C.length;lia,hn,S,[],dks,hS,hu,rfl⟩
set_option smartUnfolding false in
theorem Ago {st:SortSt}{S rest:List Keyed}{z lo n:Nat}(hc:qy prog w A s κ key D)(hD:∀x∈a₀.toList,D x)(h:RJ O key κ a₀ (S++rest) lo st)(hS:S.length=n)(hn:1<=n)(hu:S.Pairwise (Upw O key))
  {Q:ForInStep (Option Unit×Nat)->SortSt->Prop} (hQ:∀st',RJ O key κ a₀ rest (lo+n) st'->Q (ForInStep.yield (none,lo+n)) st'):wpS (model prog w) A E s (Ajt z lo n) Q st:=by
 unfold Ajt
 refine Aq7 (wpS_get ?_)
 cases e:(pendingOf st).back? with
 | none=>exact Aq7 (Awe (Arb (hQ _ (h.push hS hn hu))))
 |
  some u=>
  obtain⟨s1,n1,c1⟩:=u
  dsimp only
  refine Aq7 (Av6 (Atx (a:=0) (I:=λ_ c st'=>c.1=none/\RJ O key κ a₀ (S++rest) lo st') (Q:=λc st'=>c.1=none/\RJ O key κ a₀ (S++rest) lo st') ?step (λ_ _ z=>z) ⟨rfl,h⟩) ?post)
  case post=>
   rintro⟨_,_⟩ st' ⟨rfl,hr⟩
   exact Aq7 (Awe (Aq7 (Awe (Arb (hQ _ ((hr.repower _ λ_ _ _=>rfl).push hS hn hu))))))
  case step=>
   rintro x ⟨_,_⟩ st' _ hx ⟨rfl,hr⟩
   refine Aq7 (wpS_get ?_)
   by_cases hg:(pendingOf st').size>1
   ·
    rw[if_pos hg]
    have e2:(pendingOf st')[(pendingOf st').size-2]?=some (pendingOf st')[(pendingOf st').size-2]:=Arh dkl
    rw[e2]
    generalize (pendingOf st')[(pendingOf st').size-2]=u
    obtain⟨u1,u2,old⟩:=u
    dsimp only
    by_cases ho:old<=power' z (2*s1+n1) (2*s1+n1+n1+n) z
    ·
     rw[if_pos ho]
     exact Arb ⟨rfl,hr⟩
    ·
     rw[if_neg ho]
     refine Aq7 (hr.mAt hc hD dkl λst2 h2 _=>?_)
     rw[if_neg dkd]
     exact Arb ⟨rfl,h2⟩
   ·
    rw[if_neg hg]
    exact Arb ⟨rfl,hr⟩
def Aax (z:Nat)(h:1<=z):1<=minRun' z z 0:=by
 have:∀(f n r:Nat),1<=n->1<=minRun' f n r:=by
  intro f
  induction f with
  | zero=>intro n r h;show 1<=n+r;lia
  |
   succ f ih=>
   intro n r h
   rw[minRun'_succ]
   split
   · lia
   · exact ih _ _ dkl
 exact this z z 0 h
set_option smartUnfolding false in
def yj {st:SortSt}{Q:Unit->SortSt->Prop}(hc:qy prog w A s κ key D)(hD:∀x∈a₀.toList,D x)(ha:arrOf st=a₀)(hk:kindOf st=κ)(hf:failedOf st=none)(hp:pendingOf st=#[])
  (h:∀st',(arrOf st').toList.Perm a₀.toList->failedOf st'=none->(arrOf st').toList.Pairwise (Upw O key)->Q () st'):wpS (model prog w) A E s sortRuns' Q st:=by
 rw[sortRuns'_eq]
 refine Aq7 (wpS_get ?_)
 dsimp only
 rw[ha]
 refine Aq7 (Av6 (Atx (a:=0) (I:=λx c st'=>c.1=none/\x<=c.2/\c.2<=a₀.size/\∃tl,RJ O key κ a₀ tl c.2 st')
  (Q:=λc st'=>c=(none,a₀.size)/\∃tl,RJ O key κ a₀ tl a₀.size st') ?step ?fin ?init) ?post)
 case init=>exact⟨rfl,Aq0 _,Ar3 _,a₀.toList,by rw[ha],hk,hf,[],by rw[ha];rfl,rfl,by rw[hp];rfl⟩
 case fin=>
  rintro⟨_,lo⟩ st' ⟨rfl,h1,h2,tl,hr⟩
  dsimp only at h1 h2 hr
  obtain rfl:lo=a₀.size:=by lia
  exact⟨rfl,tl,hr⟩
 case step=>
  rintro x ⟨_,lo⟩ st' _ hx ⟨rfl,h1,h2,tl,hr⟩
  dsimp only at h1 h2 hr ⊢
  by_cases hlo:lo≥a₀.size
  ·
   rw[if_pos hlo]
   obtain rfl:lo=a₀.size:=by lia
   exact Arb ⟨rfl,tl,hr⟩
  ·
   rw[if_neg hlo]
   obtain⟨hp',hk',hf',C,hC,hCl,hrun⟩:=hr
   have hz:(arrOf st').size=a₀.size:=by rw[←Aqx,hp'.length_eq,Aqx]
   have hD':∀x∈(arrOf st').toList,D x:=λx hx=>hD x (hp'.mem_iff.mp hx)
   have hB:Bs κ (arrOf st') (pendingOf st') lo st':=⟨Array.Perm.refl _,hk',hf',rfl,λ_ _=>rfl⟩
   have hC0:(arrOf st').toList.take lo=C:=by rw[hC,←hCl,List.take_left]
   refine Aq7 (Ah7 (pd:=pendingOf st') hc hD' dkl dkl hB λn st2 hB2 hn1 hn2 hs2=>?_)
   dsimp only
   have go:∀n st3,Bs κ (arrOf st') (pendingOf st') lo st3->1<=n->lo+n<=a₀.size->UpS key (arrOf st3) lo (lo+n)->wpS (model prog w) A E s (Ajt a₀.size lo n) (λr st'=>
     match r with
     | ForInStep.done c'=>c'=(none,a₀.size)/\∃tl,RJ O key κ a₀ tl a₀.size st'
     | ForInStep.yield c'=>c'.1=none/\x+1<=c'.2/\c'.2<=a₀.size/\∃tl,RJ O key κ a₀ tl c'.2 st') st3:=λn st3 hB3 b1 b2 b3=>by
    obtain⟨S,rest,d1,d2,d3⟩:=Ajr hB3 dkl hC0 b3
    refine Ago hc hD ⟨(Array.perm_iff_toList_perm.mp hB3.perm).trans hp',hB3.kind,hB3.failed,C,d1,hCl,by rw[hB3.pend];exact hrun⟩ d2 b1 d3 λst4 h4=>⟨rfl,by show x+1<=lo+n;lia,b2,rest,h4⟩
   have hmp:=Aax a₀.size dkl
   by_cases hlt:n<minRun' a₀.size a₀.size 0
   ·
    rw[if_pos hlt]
    refine Aq7 (wpS_lift (As8 ⟨rfl,?_⟩))
    refine Aq7 (Ai6 hc hD' dkl dkl hn1 hB2 hs2 λst3 hB3 hs3=>?_)
    rw[if_neg dkd]
    exact go _ st3 hB3 dkl dkl hs3
   ·
    rw[if_neg hlt]
    exact go n st2 hB2 hn1 dkl hs2
 case post=>
  rintro c st' ⟨rfl,tl,hr⟩
  dsimp only
  have hps:(pendingOf st').size<=a₀.size:=by
   obtain⟨_,_,_,C,_,hCl,hrun⟩:=hr
   have:=hrun.len
   rw[Aqx] at this
   lia
  refine Aq7 (Av6 (Atx (a:=0) (I:=λx c st'=>c.1=none/\RJ O key κ a₀ tl a₀.size st'/\((pendingOf st').size<=1∨(pendingOf st').size+x<=a₀.size))
   (Q:=λc st'=>c.1=none/\RJ O key κ a₀ tl a₀.size st'/\(pendingOf st').size<=1) ?s2 ?f2 ⟨rfl,hr,.inr dkl⟩) ?p2)
  case f2=>
   rintro⟨_,_⟩ st2 ⟨rfl,h2,h3⟩
   exact⟨rfl,h2,dkl⟩
  case s2=>
   rintro x ⟨_,_⟩ st2 _ hx ⟨rfl,h2,h3⟩
   refine Aq7 (wpS_get ?_)
   by_cases hg:(pendingOf st2).size<=1
   ·
    rw[if_pos hg]
    exact Arb ⟨rfl,h2,hg⟩
   ·
    rw[if_neg hg]
    have step:∀i,i+1<(pendingOf st2).size->wpS (model prog w) A E s (mergeAt' i>>= λok=>if(!ok)=true then pure (ForInStep.done (some (),())) else pure (ForInStep.yield ((none,()):Option Unit×Unit))) (λr st'=>
      match r with
      | ForInStep.done c'=>c'.1=none/\RJ O key κ a₀ tl a₀.size st'/\(pendingOf st').size<=1
      | ForInStep.yield c'=>c'.1=none/\RJ O key κ a₀ tl a₀.size st'/\((pendingOf st').size<=1∨(pendingOf st').size+(x+1)<=a₀.size)) st2:=λi hi=>by
     refine Aq7 (h2.mAt hc hD hi λst3 h3' h4=>?_)
     rw[if_neg dkd]
     exact Arb ⟨rfl,h3',dkl⟩
    by_cases hb:(if(pendingOf st2).size-2>0 then Option.map (λx=>x.2.1) (pendingOf st2)[(pendingOf st2).size-2-1]? else none).any (λx=>decide (x<(pendingOf st2)[(pendingOf st2).size-2+1]?.elim 0 λx=>x.2.1))=true
    ·
     rw[if_pos hb]
     exact step _ (by
      by_cases hi:(pendingOf st2).size-2>0
      · lia
      · rw[if_neg hi] at hb;cases hb)
    ·
     rw[if_neg hb]
     exact step _ dkl
  case p2=>
   rintro⟨_,_⟩ st2 ⟨rfl,⟨hp2,_,hf2,C,hC,hCl,hrun⟩,h3⟩
   refine Arb (h st2 hp2 hf2 ?_)
   have ht:tl=[]:=by
    have e1:=hp2.length_eq
    have e2:(arrOf st2).toList.length=C.length+tl.length:=by rw[hC,Aqw]
    have e3:a₀.toList.length=a₀.size:=Aqx
    exact Atu dkl
   subst ht
   rw[Ark] at hC
   rw[hC]
   have hl:(pendingOf st2).toList.length<=1:=by rw[Aqx];exact h3
   generalize (pendingOf st2).toList=P at hrun hl
   match P,hl with
   | [],_=>cases (hrun:C=[]);exact .nil
   |
    [(a,n,c)],_=>
    obtain⟨_,_,S,l',rfl,_,hS,h5⟩:=hrun
    cases (h5:l'=[])
    rw[Ark];exact hS
end
end L2
namespace L2
open PySem PySem.W PyProof.Rows
structure Aih (prog:Program)(w:World)(A:Around)(s:Shared)(κ:SortKind){O:KeyOrd}(key:Value->O.α)(vs:List Value):Prop where
 kind:∀(E:Value->Shared->Prop)(Q:SortKind->Shared->Prop),Q κ s->wpAny (model prog w) A (keyKind' vs.toArray) Q E s
 cmp:∀x∈vs,∀y∈vs,∀C:Bool->Shared->Prop,C (O.blt (key x) (key y)) s->wpAny (model prog w) A (keyLt' κ x y) C (λ_ _=>False) s
section
variable {prog:Program}{w:World}{A:Around}{E:Value->Shared->Prop}{s:Shared}{vs:List Value}{O:KeyOrd}{key:Value->O.α}{κ:SortKind}
def rj:((vs.toArray.zip vs.toArray):Array Keyed).toList=vs.zip vs:=by simp
def Adq:(vs.zip vs).map (·.2)=vs:=List.map_snd_zip (Aq0 _)
theorem Af6 {α:Type}{R:α->α->Prop}:∀{l:List α},l.length<2->l.Pairwise R
 | [],_=>.nil
 | [_],_=>List.pairwise_singleton _ _
 | _::_::_,h=>absurd h (by rw[Arx,Arx];lia)
def Aa8 {a:Addr}{k:Nat}{P:PySem.Fin->Shared->Prop}(ho:s.heap.get? a=some (seqObj "list" vs.toArray k))(hz:vs.length<=sizeLine)
  (hS:2<=vs.length->∀h':Heap,(∀b o,b≠a->s.heap.get? b=some o->h'.get? b=some o)->Aih prog w A {s with heap:=h'} κ key vs)
  (h:∀us:List Value,us.Perm vs->us.Pairwise (λx y=>O.kle (key x) (key y))->P (.done (.ret .none)) {s with heap:=sortedHeap s.heap a vs us.toArray}):wpAny (model prog w) A (Builtin.«list.sort» ⟨[.ref a],[]⟩) P E s:=by
 obtain⟨c1,g1⟩:∃c,(s.heap.update a (Obj.mapSeq λ_=>(#[]:Array Value))).get? a=some (seqObj "list" #[] c):=⟨_,get?_update_seq ho λ_=>#[]⟩
 have g2:(((s.heap.update a (Obj.mapSeq λ_=>(#[]:Array Value))).push (seqObj "tuple" vs.toArray 0)).push (seqObj "list" #[] 0)).get? a=some (seqObj "list" #[] c1):=Aqr _ (Aqr _ g1)
 have kp:∀b o,b≠a->s.heap.get? b=some o->(((s.heap.update a (Obj.mapSeq λ_=>(#[]:Array Value))).push (seqObj "tuple" vs.toArray 0)).push (seqObj "list" #[] 0)).get? b=some o:=λb o hb e=>
  Aqr _ (Aqr _ (by rw[Heap.get?_update_ne _ _ _ _ hb];exact e))
 rw[list_sort_plain]
 refine Aqq (listItems_at ho rfl (Aqq (listUpdate_at ho rfl (Aqq (seqEpoch_at g1 rfl (Aqq (wpAny_newTuple (Aqq (wpAny_newList (Asn ?_) (Ar3 _))) hz)))) (by rw[Aq2];lia) (Ar3 _))))
 show wpAny (model prog w) A _ P E {s with heap:=((s.heap.update a (Obj.mapSeq λ_=>(#[]:Array Value))).push (seqObj "tuple" vs.toArray 0)).push (seqObj "list" #[] 0)}
 dsimp only
 by_cases h2:vs.toArray.size<2
 ·
  have hl2:vs.length<2:=by rw[Aq2] at h2;exact h2
  rw[if_pos h2,if_pos h2]
  refine Aqq (Aqt ?_)
  rw[StateT.run_pure]
  refine Aqq (Aqt ?_)
  dsimp only
  have e:(arrOf (SortSt.mk' general' (vs.toArray.zip vs.toArray) #[] 7 none)).map (·.2)=vs.toArray:=by
   show(vs.toArray.zip vs.toArray).map (·.2)=_
   apply Aua.mp
   rw[Array.toList_map,rj,Adq]
  rw[e]
  refine Aqq (seqEpoch_at g2 rfl (Aqq (listUpdate_at g2 rfl ?_ (Ar3 _) (by rw[Aq2];lia))))
  simp only[bne_self_eq_false,Atd,Av1]
  refine Aqt (h vs (.refl _) ?_)
  exact Af6 hl2
 ·
  have hl2:2<=vs.length:=by rw[Aq2] at h2;lia
  rw[if_neg h2,if_neg h2]
  have S:=hS hl2 _ kp
  refine Aqq (S.kind _ _ ?_)
  have run:=yj (prog:=prog) (w:=w) (A:=A) (E:=E) (κ:=κ) (O:=O) (key:=λp=>key p.1) (D:=λp=>p.1=p.2/\p.1∈vs) (a₀:=vs.toArray.zip vs.toArray)
   (s:={s with heap:=((s.heap.update a (Obj.mapSeq λ_=>(#[]:Array Value))).push (seqObj "tuple" vs.toArray 0)).push (seqObj "list" #[] 0)})
   (st:=SortSt.mk' κ (vs.toArray.zip vs.toArray) #[] 7 none)
   (Q:=λ_ st'=>failedOf st'=none/\(arrOf st').toList.Perm (vs.zip vs)/\(arrOf st').toList.Pairwise (Upw O λp=>key p.1))
   (λx y hx hy C hC=>S.cmp x.1 hx.2 y.1 hy.2 C hC) (λx hx=>by rw[rj] at hx;exact mem_zip_self hx) rfl rfl rfl rfl (λst' a1 a2 a3=>⟨a2,by rw[rj] at a1;exact a1,a3⟩)
  refine Aqq (Asp run ?_ λ_ _ z=>z)
  rintro⟨⟨⟩,st'⟩ s' ⟨rfl,hf,hp,hu⟩
  dsimp only
  have hus:(arrOf st').map (·.2)=((arrOf st').toList.map (·.2)).toArray:=by
   apply Aua.mp
   rw[Array.toList_map]
  have hperm:((arrOf st').toList.map (·.2)).Perm vs:=by
   have:=hp.map (·.2)
   rw[Adq] at this
   exact this
  have hpw:((arrOf st').toList.map (·.2)).Pairwise (λx y=>O.kle (key x) (key y)):=by
   rw[At6]
   refine hu.imp_of_mem λ{x y}hx hy q=>?_
   have e1:=(mem_zip_self (hp.mem_iff.mp hx)).1
   have e2:=(mem_zip_self (hp.mem_iff.mp hy)).1
   rw[←e1,←e2]
   exact q
  rw[hus]
  refine Aqq (seqEpoch_at g2 rfl (Aqq (listUpdate_at g2 rfl ?_ (Ar3 _) (by rw[Aq2,hperm.length_eq];lia))))
  rw[hf]
  simp only[bne_self_eq_false,Atd,Av1]
  exact Aqt (h _ hperm hpw)
end
variable {X:Cx}
variable {prog:Program}{w:World}{A:Around}{E:Value->Shared->Prop}{s:Shared}
def wg {T:String}{r d:Addr}{n:Nat}{P:Nat->Value->Prop}{OK:Heap->Prop}{Q:List Value->Shared->Prop}(S:KdlSrc prog w T r d n P OK)(hh:A.handled=none)(hok:OK s.heap)(hn:n<=sizeLine)
  (h:∀h' tk(acc:Array Value),(∀b o,s.heap.get? b=some o->h'.get? b=some o)->s.heap.objs.size<=h'.objs.size->ItemsOf P acc n->Q acc.toList {s with heap:=h',toks:=tk}):wpAny (model prog w) A (collect (.ref r)) Q E s:=by
 unfold collect
 refine Aqq (Awk (Asg entry_proto_collect' ?_))
 show wpAny _ _ (do again (.builtin "list.__iadd__" ⟨[←newList [],.ref r],[]⟩)) _ _ s
 refine Aqq (wpAny_newList (Aqt ⟨At7 _ dkk,Asg entry_list_iadd' ?_⟩))
 show wpAny _ _ (Builtin.List.listExtendWith (.ref s.heap.objs.size) (.ref r) (.ref s.heap.objs.size)) _ _ {s with heap:=s.heap.push (seqObj "list" #[] 0)}
 have hS:(s.heap.push (seqObj "list" #[] 0)).get? s.heap.objs.size=some {cls:=.type "list",data:=.seq #[] 0}:=Aq1 _ rfl
 rw[Asv PySem.F.plain_list_iadd _]
 refine kdl_extend (A:=A) (R:=λr s'=>match r with
   |
    Except.ok (Flow.ret v)=>wpAny (model prog w) A (match v with
    |
     .ref a=>do match (←load a).data with
     | .seq xs _=>pure xs.toList
     | _=>unsupported "internal:collect"
    | _=>unsupported "internal:collect") Q E s'
   | Except.ok _=>False
   | Except.error e=>E e s') (s:={s with heap:=s.heap.push (seqObj "list" #[] 0)}) S hh (S.keep _ _ hok λb _ o e=>Aqr _ e) s.heap.objs.size (Asl (S.there _ hok).1) (Asl (S.there _ hok).2) (.ref s.heap.objs.size) 0 hS (λh' tk acc c' hk hS' hacc=>?_) hn
 show wpAny (model prog w) A (do
   let o ←load s.heap.objs.size
   match o.data with
   | .seq xs _=>pure xs.toList
   | _=>unsupported "internal:collect") Q E {s with heap:=h',toks:=tk}
 refine Aqq (At4 hS' ?_)
 exact Aqt (h h' tk acc (λb o e=>hk b o (Arc (Aqy e)) (Aqr _ e)) (Atl (Aqy hS')) hacc)
def xf:Value->Int
 | .int i _=>i
 | _=>0
def Aoy:KeyOrd where
 α:=Int
 blt a b:=decide (a<b)
 irrefl a:=by simp
 trans a b c h1 h2:=by simp at h1 h2 ⊢;lia
 negTrans a b c h:=by simp at h ⊢;lia
 total a b h1 h2:=by simp at h1 h2;lia
def Aai {prog:Program}{w:World}{A:Around}{s:Shared}{vs:List Value}{ns:List Int}(h2:2<=vs.length)(hi:IntsAre vs ns):Aih prog w A s oneType' (O:=Aoy) xf vs where
 kind:=λE Q h=>by
  match vs,h2,hi with
  | [],h2,_=>simp at h2
  | [_],h2,_=>simp at h2
  |
   v₁::v₂::rest,_,hi=>
   rw[keyKind_ints hi]
   exact Aqt h
 cmp:=by
  intro x hx y hy C hC
  obtain⟨i,t,rfl⟩:=hi.all x hx
  obtain⟨j,u,rfl⟩:=hi.all y hy
  rw[keyLt'_oneType]
  exact oneLt_int hC
theorem Ada {us vs:List Value}{ns:List Int}(hi:IntsAre vs ns)(h:us.Perm vs):IntsAre us (us.map xf)/\(us.map xf).Perm ns:=by
 have e:∀{vs:List Value}{ns:List Int},IntsAre vs ns->vs.map xf=ns:=λ{vs ns}h=>by
  induction h with
  | nil=>rfl
  | cons n t h ih=>rw[Ar1,ih];rfl
 refine⟨?_,by have:=h.map xf;rw[e hi] at this;exact this⟩
 have all:∀v∈us,∃n t,v=.int n t:=λv hv=>hi.all v (h.mem_iff.mp hv)
 clear h
 induction us with
 | nil=>exact .nil
 |
  cons v us ih=>
  obtain⟨n,t,rfl⟩:=all v (Arn ..)
  exact .cons n t (ih λu hu=>all u (Ard _ hu))
def Rises (xs:List Nat):Prop:=xs.Pairwise (· < ·)
def Rises.le {xs:Array Nat}(h:Rises xs.toList){i k x y:Nat}(hi:xs[i]?=some x)(hk:xs[k]?=some y)(l:i<=k):x<=y:=by
 rcases Au8 i k with l'|l'
 ·
  rw[←Arv] at hi hk
  obtain⟨a,rfl⟩:=Aq5.mp hi
  obtain⟨b,rfl⟩:=Aq5.mp hk
  exact Atl (Asx.mp h i k a b l')
 ·
  have e:i=k:=by lia
  subst e
  rw[hi] at hk
  have:=Arl hk
  lia
theorem Afi {xs:Array Nat}(hx:Rises xs.toList){j:Nat}:∀(f lo hi:Nat),lo<=hi->hi<=xs.size->hi-lo<=f->(∀i x,i<lo->xs[i]?=some x->x<j)->(∀i x,hi<=i->xs[i]?=some x->j<=x)->
  (SetTable.below.go xs j f lo hi)<=xs.size/\(∀i x,i<SetTable.below.go xs j f lo hi->xs[i]?=some x->x<j)/\(∀i x,SetTable.below.go xs j f lo hi<=i->xs[i]?=some x->j<=x):=by
 intro f
 induction f with
 |
  zero=>
  intro lo hi h1 h2 h3 a b
  have e:lo=hi:=by lia
  subst e
  exact⟨h2,a,b⟩
 |
  succ f ih=>
  intro lo hi h1 h2 h3 a b
  unfold SetTable.below.go
  split
  ·
   rename_i hl
   have hm:(lo+hi)/2<xs.size:=by lia
   have em:xs[(lo+hi)/2]?=some (xs[(lo+hi)/2]):=Arh hm
   have eg:xs.getD ((lo+hi)/2) j=xs[(lo+hi)/2]:=by unfold Array.getD;rw[Av4 hm];rfl
   dsimp only
   rw[eg]
   split
   ·
    rename_i hj
    refine ih _ _ dkl h2 dkl (λi x hi' hxx=>?_) b
    exact Asr (hx.le hxx em dkl) hj
   ·
    rename_i hj
    refine ih _ _ dkl dkl dkl a (λi x hi' hxx=>?_)
    have:=hx.le em hxx hi'
    lia
  ·
   have e:lo=hi:=by lia
   subst e
   exact⟨h2,a,b⟩
def below_at (hx:Rises xs.toList)(j:Nat):SetTable.below xs j<=xs.size/\(∀i x,i<SetTable.below xs j->xs[i]?=some x->x<j)/\(∀i x,SetTable.below xs j<=i->xs[i]?=some x->j<=x):=by
 unfold SetTable.below
 refine Afi hx _ _ _ (Ar3 _) (Aq0 _) (Aq0 _) (λi x h=>absurd h (At2 _)) (λi x h e=>?_)
 rw[Aup h] at e
 cases e
def Abb (hx:Rises xs.toList)(h:xs[i]?=some p):SetTable.below xs (p+1)=i+1:=by
 obtain⟨b0,b1,b2⟩:=below_at hx (p+1)
 rcases Nat.lt_trichotomy (SetTable.below xs (p+1)) (i+1) with l|l|l
 ·
  have:=b2 i p dkl h
  lia
 · exact l
 ·
  have hs:i+1<xs.size:=by lia
  have e1:=Arh hs
  have:=b1 (i+1) _ l e1
  have hi:i<xs.size:=by lia
  have e0:=Arh hi
  rw[e0] at h
  have hp:=Arl h
  have hlt:xs[i]<xs[i+1]:=by
   have:=Asx.mp hx i (i+1) (by simpa using hi) (by simpa using hs) (Asj _)
   simpa using this
  lia
def Aaa (hx:Rises xs.toList):SetTable.below xs 0=0:=by
 obtain⟨b0,b1,b2⟩:=below_at hx 0
 rcases Nat.eq_zero_or_pos (SetTable.below xs 0) with e|e
 · exact e
 ·
  have hs:0<xs.size:=by lia
  exact absurd (b1 0 _ e (Arh hs)) (At2 _)
def u6 {t:SetTable}(ht:Rises t.place.toList){j:Nat}(h:∀i,t.slot j≠ .live i):j∉t.place.toList:=by
 intro hm
 obtain⟨i,hi⟩:=Ar5 hm
 rw[Arv] at hi
 obtain⟨b0,b1,b2⟩:=below_at ht j
 have hbi:SetTable.below t.place j<=i:=by
  rcases Au8 i (SetTable.below t.place j) with l|l
  · exact absurd (b1 i j l hi) (Asd _)
  · exact l
 have his:i<t.place.size:=by
  rcases Au8 i t.place.size with l|l
  · exact l
  · rw[Aup l] at hi;cases hi
 have eb:=Arh (show SetTable.below t.place j<t.place.size by lia)
 have e1:=b2 _ _ (Aq0 _) eb
 have e2:=ht.le eb hi hbi
 refine h (SetTable.below t.place j) ?_
 unfold SetTable.slot
 dsimp only
 rw[eb,show t.place[SetTable.below t.place j]=j from by lia]
 simp
def Aj8 {t:SetTable}(ht:Rises t.place.toList){j:Nat}(h:j∉t.place.toList):Rises (t.put j).1.place.toList:=by
 show Rises (SetTable.insertAt t.place (SetTable.below t.place j) j).toList
 rw[SetTable.toList_insertAt]
 obtain⟨b0,b1,b2⟩:=below_at ht j
 have lo:∀x∈t.place.toList.take (SetTable.below t.place j),x<j:=λx hx=>by
  obtain⟨i,hi⟩:=Ar5 hx
  rw[Aui] at hi
  split at hi
  ·
   rename_i hl
   rw[Arv] at hi
   exact b1 i x hl hi
  · cases hi
 have hi:∀x∈t.place.toList.drop (SetTable.below t.place j),j<x:=λx hx=>by
  have hm:=List.mem_of_mem_drop hx
  obtain⟨i,hi⟩:=Ar5 hx
  rw[Ava,Arv] at hi
  have:=b2 _ x (Atr _ _) hi
  rcases Au8 j x with l|l
  · exact l
  · exact absurd (show j=x by lia) (λz=>h (by rw[z];exact hm))
 have e:Rises (t.place.toList.take (SetTable.below t.place j)++t.place.toList.drop (SetTable.below t.place j)):=by rw[Asy];exact ht
 obtain⟨e1,e2,_⟩:=Ar7.mp e
 refine List.pairwise_append.mpr ⟨e1,List.pairwise_cons.mpr ⟨hi,e2⟩,λa ha b hb=>?_⟩
 rcases Ara.mp hb with rfl|hb
 · exact lo a ha
 · exact Nat.lt_trans (lo a ha) (hi b hb)
theorem Aam:∀(f:Nat)(p:SetTable.Probe),(∀d,p.dummy=some d->t.slot d=.dummy)->∀j dm,SetTable.probe.go t (λ_=>h+1) h f p=some (.empty j dm)->t.slot j=.empty/\∀d,dm=some d->t.slot d=.dummy:=by
 intro f
 induction f with
 | zero=>intro p _ j dm e;cases e
 |
  succ f ih=>
  intro p hp j dm e
  have adv:∀(q:SetTable.Probe),(t.advance q).dummy=q.dummy:=λq=>by unfold SetTable.advance;split<;>rfl
  unfold SetTable.probe.go at e
  split at e
  ·
   rename_i hs
   injection e with e
   injection e with e1 e2
   subst e1;subst e2
   exact⟨hs,hp⟩
  ·
   rename_i hs
   refine ih _ (λd hd=>?_) j dm e
   rw[adv] at hd
   injection hd with hd
   rw[←hd]
   exact hs
  ·
   rw[if_neg (by simp;lia)] at e
   refine ih _ (λd hd=>?_) j dm e
   rw[adv] at hd
   exact hp d hd
def qj {t:SetTable}(ht:Rises t.place.toList){h:Int}{j:Nat}{b:Bool}(e:t.freeSlot h=some (j,b)):j∉t.place.toList:=by
 unfold SetTable.freeSlot at e
 split at e
 ·
  rename_i j0 dm hp
  injection e with e
  obtain⟨s1,s2⟩:=Aam _ _ (λd hd=>by cases hd) _ _ hp
  injection e with e1 e2
  cases dm with
  |
   none=>
   have e1':j0=j:=e1
   subst e1'
   exact u6 ht λi z=>by rw[s1] at z;cases z
  |
   some d=>
   have e1':d=j:=e1
   subst e1'
   exact u6 ht λi z=>by rw[s2 d rfl] at z;cases z
 · cases e
def Afw (b:Bool)(t:SetTable):Prop:=Rises t.place.toList/\t.led=b
def Agv:∀n,Rises (Array.range n).toList:=λn=>by
 rw[Array.toList_range]
 exact List.pairwise_lt_range
def Oj (n:Nat)(h:Afw b t):Afw b (t.standIn n):=⟨Agv n,h.2⟩
def k9 (n:Nat)(h:Afw b t):Afw b (t.orStandIn n):=by
 unfold SetTable.orStandIn
 split
 · exact h
 · exact Oj n h
def wc (h:Afw b t)(es:Array (Int×Value))(k:Int)(x:Value):Afw b (layNew t es k x).2.1:=by
 unfold layNew
 split
 ·
  rename_i j wd hf
  exact k9 _ ⟨Aj8 h.1 (qj h.1 hf),h.2⟩
 · exact Oj _ h
theorem Ain {f:Nat->Option Nat}:∀(n:Nat),Rises (((List.range n).filterMap λj=>(f j).map (j,·)).map (·.1)):=by
 intro n
 have hr:(List.range n).Pairwise (· < ·):=List.pairwise_lt_range
 generalize List.range n=l at hr
 induction l with
 | nil=>exact .nil
 |
  cons a l ih=>
  obtain⟨h1,h2⟩:=Aug.mp hr
  cases hf:f a with
  | none=>rw[List.filterMap_cons_none (by rw[hf];rfl)];exact ih h2
  |
   some v=>
   rw[List.filterMap_cons_some (b:=(a,v)) (by rw[hf];rfl),Ar1]
   refine List.pairwise_cons.mpr ⟨λx hx=>?_,ih h2⟩
   obtain⟨⟨y,z⟩,hy,rfl⟩:=Arz.mp hx
   obtain⟨c,hc,e⟩:=List.mem_filterMap.mp hy
   obtain⟨_,_,e⟩:=Aun.mp e
   injection e with e1 e2
   subst e1
   exact h1 _ hc
def o9 (h:Afw b t)(es:Array (Int×Value))(k:Nat):Afw b (relayAll t es k).2.1:=by
 unfold relayAll
 split
 ·
  rename_i t' order hr
  dsimp only
  split
  ·
   unfold SetTable.relaid SetTable.laid at hr
   obtain⟨ow,_,e⟩:=Option.bind_eq_some_iff.mp hr
   have e':=Arl e
   have e1:=At5 Prod.fst e'
   dsimp only at e1
   rw[←e1]
   exact⟨Ain _,h.2⟩
  · exact Oj _ h
 · exact Oj _ h
def mj (w:World):Bool:=!w.params.followText "set-order"
section
variable (prog:Program)(w:World)
structure SetP (es:Array (Int×Value))(t:SetTable)(ds:List Int):Prop where
 el:ElemsOf (intKind prog w) es.toList
 ks:(es.toList.map λe=>xf e.2).Perm ds
 nd:ds.Nodup
 sz:es.size<scanBound
 ft:t.fits es.size=true
 tb:Afw (mj w) t
def Cc (es:Array (Int×Value))(ep:Nat)(t:SetTable):Obj:={cls:=.type "set",dict:=none,data:=.set es ep t}
def SetI (a:Addr)(ds:List Int)(h:Heap):Prop:=∃es ep t,h.get? a=some (Cc es ep t)/\SetP prog w es t ds
end
def SetP.len (h:SetP prog w es t ds):ds.length=es.size:=by rw[←h.ks.length_eq,Aqv,Aqx]
def SetP.ints (h:SetP prog w es t ds):∀e∈es.toList,∃k u,e.2=.int k u:=λe he=>by
 obtain⟨⟨k,hk,_⟩,_⟩:=h.el e he
 obtain⟨u,e⟩:=Value.isInt_shape (show Value.isInt k e.2=true from hk)
 exact⟨k,u,e⟩
def SetP.has (h:SetP prog w es t ds)(k:Int):(∃e∈es.toList,(intKind prog w).is k e.2=true)↔k∈ds:=by
 rw[←h.ks.mem_iff,Arz]
 constructor
 ·
  rintro⟨e,he,hk⟩
  refine⟨e,he,?_⟩
  obtain⟨u,e'⟩:=Value.isInt_shape (show Value.isInt k e.2=true from hk)
  rw[e'];rfl
 ·
  rintro⟨e,he,hk⟩
  refine⟨e,he,?_⟩
  obtain⟨m,u,e'⟩:=h.ints e he
  rw[e'] at hk ⊢
  have hk':m=k:=hk
  rw[hk']
  exact intKind_is prog w k u
def SetP.more (h:SetP prog w es t ds)(u:Tok)(hk:k∉ds)(hr:ds.length+1<scanBound):SetP prog w (layNew t es (hashInt k) (.int k u)).1 (layNew t es (hashInt k) (.int k u)).2.1 (ds++[k]):=by
 have hp:=layNew_perm t es (hashInt k) (.int k u)
 rw[Atk] at hp
 have hl:=h.len
 refine⟨(h.el.push (k:=k) (intKind_is prog w k u) rfl).perm hp,?_,?_,?_,layNew_fits ..,wc h.tb ..⟩
 ·
  refine(hp.map _).trans ?_
  rw[Ati]
  exact h.ks.append_right _
 ·
  refine List.nodup_append.mpr ⟨h.nd,List.nodup_cons.mpr ⟨Ata,.nil⟩,λx hx y hy=>?_⟩
  rw[Arm] at hy
  subst hy
  exact λz=>hk (by rw[←z];exact hx)
 ·
  rw[←Aqx,hp.length_eq,Aqw,Aqx]
  show es.size+1<scanBound
  lia
def SetP.relay (h:SetP prog w es t ds)(n:Nat):SetP prog w (relayAll t es n).1 (relayAll t es n).2.1 ds:=by
 have hp:=relayAll_perm t es n
 refine⟨h.el.perm hp,(hp.map _).trans h.ks,h.nd,?_,relayAll_fits ..,o9 h.tb ..⟩
 rw[←Aqx,hp.length_eq,Aqx]
 exact h.sz
theorem SetP.fresh:SetP prog w #[] (.fresh 0 0 (mj w)) []:=by
 refine⟨λe z=>by simp at z,List.Perm.nil,List.Pairwise.nil,dkd,rfl,List.Pairwise.nil,rfl⟩
def stored {es:Array (Int×Value)}{t:SetTable}{a:Addr}{h:Heap}{ep:Nat}{es':Array (Int×Value)}{t':SetTable}(ho:h.get? a=some (Cc es ep t)):(h.update a (Obj.putSet es' t')).get? a=some (Cc es' (ep+1) t'):=
 Ari (Obj.putSet es' t') ho rfl
theorem Aa9 {ds:List Int}{a:Addr}{k:Int}{u:Tok}{Q:Bool->Shared->Prop}(hS:SetI prog w a ds s.heap)(hr:ds.length+1<scanBound)
  (h:∀h',Heap.SameBut a s.heap h'->SetI prog w a (if k∈ds then ds else ds++[k]) h'->Q (decide (k∉ds)) {s with heap:=h'}):
  wpAny (model prog w) A (setAddHashed a (.int k u) (hashInt k)) Q E s:=by
 obtain⟨es,ep,t,ho,P⟩:=hS
 have hk:(intKind prog w).is k (.int k u)=true:=intKind_is prog w k u
 unfold setAddHashed setAddHashedIn
 refine Asn (Aqq (Aub ho rfl P.ft ?_))
 dsimp only
 rw[if_pos (byScan_of (knd:=intKind prog w) rfl P.sz P.el)]
 unfold setAddByScan
 refine Aqq (Aqq (As8 (Aqq (wpAny_setScan_of (knd:=intKind prog w) hk ho rfl P.ft P.el ?_))))
 cases hf:es.toList.findIdx? (λe=>(intKind prog w).is k e.2) with
 |
  some j=>
  obtain⟨hj,hpj,_⟩:=List.findIdx?_eq_some_iff_getElem.mp hf
  have hm:k∈ds:=(P.has k).mp ⟨_,Asu hj,hpj⟩
  refine Aqt (Aqt ?_)
  have z:=h s.heap (Heap.SameBut.refl a s.heap) ⟨es,ep,t,ho,by rw[if_pos hm];exact P⟩
  rw[Aqz (λc=>c hm)] at z
  exact z
 |
  none=>
  have hm:k∉ds:=λz=>by
   obtain⟨e,he,w'⟩:=(P.has k).mpr z
   have:=List.findIdx?_eq_none_iff.mp hf e he
   rw[w'] at this
   cases this
  have P1:=P.more u hm hr
  dsimp only
  generalize layNew t es (hashInt k) (.int k u)=L at P1 ⊢
  obtain⟨es1,t1,wd,gv⟩:=L
  dsimp only at P1 ⊢
  have fin:∀h',Heap.SameBut a s.heap h'->SetI prog w a (ds++[k]) h'->Q true {s with heap:=h'}:=λh' sb S'=>by
   have z:=h h' sb (by rw[if_neg hm];exact S')
   rw[Aqs hm] at z
   exact z
  refine Aqq (Asp (Q:=λ_ s'=>s'=s) (E:=E) (by cases gv<;>first|exact Aqt rfl|exact As8 rfl) (λ_ s' e=>?_) λ_ _ z=>z)
  subst e
  refine Atp (λ_=>Aqq (Aqt ?_)) (λ_=>Aqq (Aqt ?_))
  all_goals
   simp only[↓reduceIte]
   refine Aqq (wpAny_storeSet_of ho rfl ?_ (Au0 P1.sz))
   have o1:=stored (es':=es1) (t':=t1) ho
   have sb1:=Arf s'.heap a (Obj.putSet es1 t1)
   split
   ·
    have P2:=P1.relay (SetTable.grown es1.size)
    generalize relayAll t1 es1 (SetTable.grown es1.size)=L at P2 ⊢
    obtain⟨es2,t2,gv2⟩:=L
    dsimp only at P2 ⊢
    refine Aqq (Asp (Q:=λ_ s2=>s2={s' with heap:=s'.heap.update a (Obj.putSet es1 t1)}) (E:=E) (by cases gv2<;>first|exact Aqt rfl|exact As8 rfl) (λ_ s2 e=>?_) λ_ _ z=>z)
    subst e
    refine Aqq (wpAny_storeSet_of o1 rfl ?_ (Au0 P2.sz))
    refine Aqt (Aqt ?_)
    exact fin _ (sb1.trans (Arf _ a _)) ⟨_,_,_,stored o1,P2⟩
   ·
    refine Aqt (Aqt ?_)
    exact fin _ sb1 ⟨_,_,_,o1,P1⟩
def ins (ds:List Int)(k:Int):List Int:=if k∈ds then ds else ds++[k]
def Ai3 (ds:List Int)(k:Int):(ins ds k).length<=ds.length+1:=by
 unfold ins
 split
 · exact Au4 _
 · rw[Aqw];exact Aq0 _
def Ah1:x∈ins ds k↔x∈ds∨x=k:=by
 unfold ins
 split
 ·
  rename_i h
  exact⟨.inl,λz=>z.elim id λe=>by rw[e];exact h⟩
 · rw[Ar0,Arm]
theorem jm:∀(ns ds:List Int),x∈ns.foldl ins ds↔x∈ds∨x∈ns
 | [],ds=>by simp
 |
  n::ns,ds=>by
  rw[List.foldl_cons,jm ns,Ah1,Ara]
  constructor
  ·
   rintro((h|h)|h)
   · exact .inl h
   · exact .inr (.inl h)
   · exact .inr (.inr h)
  ·
   rintro(h|h|h)
   · exact .inl (.inl h)
   · exact .inl (.inr h)
   · exact .inr h
def SetI.at' (x:SetI prog w a ds h)(k:∀o,h.get? a=some o->h'.get? a=some o):SetI prog w a ds h':=
 let ⟨es,ep,t,ho,P⟩:=x
 ⟨es,ep,t,k _ ho,P⟩
theorem r6 {R:Result->Shared->Prop}{I:Addr}{fp wr:List Addr}{G:Array GenState->Array GenState->Prop}{n:Nat}{P:Nat->Value->Prop}{St:Nat->Shared->Prop}(W:WalksS prog w A.in1 I fp wr G n P St)(S:Addr)(hSf:S∉fp):∀(rest:List Int)(i:Nat)(ds:List Int)(s:Shared),i+rest.length=n->(∀j k,rest[j]?=some k->∀v,P (i+j) v->∃t,v=.int k t)->ds.length+rest.length<scanBound->St i s->SetI prog w S ds s.heap->
  (∀s',Moved (S::wr) G s s'->SetI prog w S (rest.foldl ins ds) s'.heap->R (.ok (.ret .none)) s')->codeAny (model prog w) A (.builtin "set.update.loop" ⟨[.ref S,.ref I],[]⟩) R s:=by
 have off:S∉wr:=λz=>hSf (W.sub _ z)
 have sub:∀b∈wr,b∈S::wr:=λb hb=>Ard _ hb
 intro rest
 induction rest with
 |
  nil=>
  intro i ds s hi _ _ st hS hR
  have e:i=n:=hi
  subst e
  refine Asg F.entry_set_update_loop ?_
  rw[Asv Awm _]
  show wpAny _ A.in1 (pyNext (.ref I)>>=_) _ _ s
  refine Aqq (W.done s _ _ st λs' m=>?_)
  exact Aqt (hR s' (m.mono sub) (hS.at' λo e=>m.heap S o off e))
 |
  cons k rest ih=>
  intro i ds s hi hv hz st hS hR
  have hlt:i<n:=by simp at hi;lia
  refine Asg F.entry_set_update_loop ?_
  rw[Asv Awm _]
  show wpAny _ A.in1 (pyNext (.ref I)>>=_) _ _ s
  refine Aqq (W.item i s _ _ hlt st λv s' hP st' m=>?_)
  obtain⟨t,rfl⟩:=hv 0 k rfl v hP
  have S1:SetI prog w S ds s'.heap:=hS.at' λo e=>m.heap S o off e
  show wpAny _ A.in1 (holding [Value.int k t] (setAdd S (.int k t))>>=_) _ _ s'
  refine Aqq (Asn ?_)
  unfold setAdd
  refine Asn (Aqq ((intKind prog w).pyHash (k:=k) (intKind_is _ _ _ _) ?_))
  refine Aa9 (s:={s' with toks:=s'.toks+1}) S1 (by rw[Arx] at hz;lia) λh' sb S2=>?_
  refine Aqt ⟨Aut Awm _,ih (i+1) (ins ds k) _ (by rw[Arx] at hi;lia) (λj k' hj v' hp=>hv (j+1) k' hj v' (by rw[show i+(j+1)=i+1+j by lia];exact hp)) (by have:=Ai3 ds k;rw[Arx] at hz;lia) (W.frame _ s' _ _ st' (Au4 _) λb hb o e=>?_) S2 λs'' m2 S3=>?_⟩
  · rw[sb.2 b (λz=>hSf (by rw[←z];exact hb))];exact e
  ·
   refine hR s'' (Moved.trans W.gtrans ((m.mono sub).then_heap (Au4 _) λb o hb e=>?_) m2) S3
   rw[sb.2 b (λz=>hb (by rw[z];exact Arn))];exact e
def Acz (a:Value)(h:Q₁ (.ref s.heap.objs.size) {s with heap:=s.heap.push (Cc #[] 0 (.fresh 0 0 (mj w)))}):
  codeAny (model prog w) A (.call (.builtin "set.__new__") ⟨[.type "set",a],[]⟩) (wants Q₁ E) s:=by
 refine Auu ?_
 show wpAny _ A.in1 (do checkBuiltinCall "set.__new__" ⟨[.type "set",a],[]⟩;again (.builtin "set.__new__" ⟨[.type "set",a],[]⟩)) _ _ s
 refine Aqq (wpAny_of_eq (F.newCall_set_1 a) (Aqt ⟨Aut F.plain_set_new _,Asg F.entry_set_new ?_⟩))
 rw[Asv F.plain_set_new _]
 unfold Builtin.«set.__new__» Builtin.Frozenset.newClass
 have hsub:=sub_set_self
 obtain⟨hp,g,d,tk,os⟩:=s
 dsimp only
 wp_walk
 refine Auk (Aqt ?_)
 dsimp only
 simp only[newObj]
 refine Aqq (wpAny_alloc (Aqt ?_))
 exact Aqt h
theorem Ags {l:Addr}{items:Array Value}{ns:List Int}{Q:Value->Shared->Prop}(hh:A.handled=none)(hl:s.heap.IsList l items)(hi:IntsAre items.toList ns)(hb:ns.length<scanBound)
  (h:∀h' tk,SetI prog w s.heap.objs.size (ns.foldl ins []) h'->(∀b o,s.heap.get? b=some o->h'.get? b=some o)->Q (.ref s.heap.objs.size) {s with heap:=h',toks:=tk}):
  wpAny (model prog w) A (call (.type "set") [.ref l]) Q E s:=by
 obtain⟨c,tl,hmro⟩:=F.called_set.mro
 have m1:=F.called_set.made
 have m2:=F.called_set.sub
 have m3:=F.called_set.notType
 have m4:=F.called_set.canCreate
 have m5:=F.typeCall_set_1 (.ref l)
 refine Ave (Auu ?_)
 show wpAny _ _ (callAny (.type "set") _) _ _ _
 refine Aqt ⟨At7 _ dkk,Asg Avt ?_⟩
 rw[Avr (Au2 "set" [.ref l] []) rfl]
 repeat (any_goals (first|assumption|wp_step))
 refine As7 (Acz (.ref l) (E:=E) (Q₁:=λv s1=>v=.ref s.heap.objs.size/\s1={s with heap:=s.heap.push (Cc #[] 0 (.fresh 0 0 (mj w)))}) ⟨rfl,rfl⟩) λr s1 hr=>?_
 rcases r with e|f
 · exact hr
 cases f with
 |
  ret v=>
  obtain⟨rfl,rfl⟩:=hr
  have hS:(s.heap.push (Cc #[] 0 (.fresh 0 0 (mj w)))).get? s.heap.objs.size=some (Cc #[] 0 (.fresh 0 0 (mj w))):=Aq1 _ rfl
  have hT:Shared.TypeIs {s with heap:=s.heap.push (Cc #[] 0 (.fresh 0 0 (mj w)))} (.ref s.heap.objs.size) "set":=⟨_,hS,rfl⟩
  have i1:=F.called_set.init.lookup
  have i2:=F.called_set.init.bind (.ref s.heap.objs.size)
  repeat (any_goals (first|assumption|wp_step))
  refine As7 (Auf (R:=wants (λr s2=>r=.none/\∃h' tk,s2={s with heap:=h',toks:=tk}/\SetI prog w s.heap.objs.size (ns.foldl ins []) h'/\∀b o,s.heap.get? b=some o->h'.get? b=some o) E) F.called_set.init.plain F.entry_set_init (check_set_init_1 hT ?_)) λr2 s2 h2=>?_
  ·
   obtain⟨ol,e1,e2,k,e3⟩:=hl
   obtain⟨oc,od,oda,osl⟩:=ol
   simp only at e2 e3
   subst e2;subst e3
   have e1':=Aqr (Cc #[] 0 (.fresh 0 0 (mj w))) e1
   have j1:=F.sub_list_set
   have j2:=F.sub_list_frozenset
   have j3:(Value.type "list"==Value.type "dict")=false:=by decide
   have hl1:(s.heap.push (Cc #[] 0 (.fresh 0 0 (mj w)))).IsList l items:=⟨_,e1',rfl,k,rfl⟩
   unfold Cc at*
   unfold Builtin.«set.__init__» noKeywords Builtin.Frozenset.updateFrom
   generalize hPI:pyIter=PI
   wp_walk
   subst hPI
   refine wpAny_pyIter_list hl1 (Aqq (Awk ?_))
   have hlS:l<s.heap.objs.size:=Aqy e1
   have hn:items.size=ns.length:=by rw[←IntsAre.length hi,Aqx]
   refine r6 (G:=_) ((Walks.list (by simp[hh]) _ l (by rw[Ar6];exact Arc (Asw hlS)) items).toS) s.heap.objs.size (by rw[Ar6];simp only[Ara,Ata,Awa,not_or];exact⟨Arc (Asj _),Asl hlS⟩) ns 0 [] _ (by rw[hn];lia) (λj x hj v hv=>?_) (by simpa using hb) ⟨⟨_,Aq1 _ rfl,rfl,rfl⟩,hl1.push _⟩ ⟨#[],0,_,Aqr _ hS,SetP.fresh⟩ λs' m S'=>?_
   ·
    obtain⟨t,e⟩:=IntsAre.int_at hi j v (by rw[Arv];have:=hv;rw[Au7] at this;exact this)
    refine⟨t,?_⟩
    rw[e,List.getD_eq_getElem?_getD,hj]
    rfl
   ·
    obtain⟨h',g',d',tk',os'⟩:=s'
    have q1:g'=s.gens:=m.gens
    have q2:d'=s.drawn:=m.drawn
    have q3:os'=s.os:=m.os
    subst q1;subst q2;subst q3
    show wpAny _ _ _ _ _ _
    refine Aqt ?_
    show wpAny _ _ (ret Value.none) _ _ _
    refine Aqt ⟨rfl,h',tk',rfl,S',λb o e=>?_⟩
    have hb0:=Aqy e
    refine m.heap b o ?_ (Aqr _ (Aqr _ e))
    rw[Ar6]
    simp only[Ara,Ata,Awa,not_or]
    exact⟨Arc hb0,Arc (Asw hb0)⟩
  ·
   rcases r2 with e|f2
   · exact h2
   cases f2 with
   |
    ret r=>
    obtain⟨rfl,h',tk,rfl,S',kp⟩:=h2
    repeat (any_goals (first|assumption|wp_step))
    exact h _ _ S' kp
   | _=>exact h2.elim
 | _=>exact hr.elim
def Ahq:Manifest.owners.lookup (String.ofList ['r','o','t','a','r','e','t','i','_','t','e','s'].reverse)=some Manifest.sig_set_iterator:=by kernel_rfl
def Ic:Slot "set_iterator" "__next__" "set_iterator.__next__":=
 .of (owner:="set_iterator") (n:="__next__") (by rw[Awd,Au3];kernel_rfl) dkk dkk dkk (.inl dkk) (by rw[isSubtype_type];kernel_rfl)
def Wy:entryFor table "set_iterator.__next__"=some Builtin.«set_iterator.__next__»:=entryFor_of_tree (by kernel_rfl)
def z9:entryFor table "set.__iter__"=some Builtin.«frozenset.__iter__»:=entryFor_alias (id':="frozenset.__iter__") (by kernel_rfl) rfl dkk (by kernel_rfl)
def fe (a:Value):argsOk "set_iterator.__next__" ⟨[a],[]⟩:=by
 unfold argsOk
 rw[signature?_of (id:="set_iterator.__next__") (n:=['_','_','t','x','e','n','_','_']) (o:=['r','o','t','a','r','e','t','i','_','t','e','s']) (by kernel_rfl) Ahq]
 kernel_rfl
def yy {α:Type}{l:List α}{i:Nat}(h:i<l.length):l.Perm (l[i]::l.eraseIdx i):=by
 rw[List.eraseIdx_eq_take_drop_succ]
 refine List.Perm.trans ?_ List.perm_middle
 rw[←List.drop_eq_getElem_cons h,Asy]
theorem Aem (f:Nat->Nat):∀(n k:Nat)(l:List α)(out:Array α),l.length=n->(pickOrder.go f n k l out).toList.Perm (out.toList++l)
 |
  0,k,l,out,h=>by
  cases l with
  | nil=>unfold pickOrder.go;rw[Ark]
  | cons _ _=>cases h
 |
  n+1,k,l,out,h=>by
  have hl:f k%l.length<l.length:=Nat.mod_lt _ dkl
  unfold pickOrder.go
  rw[Aq6 hl]
  dsimp only
  refine(Aem f n (k+1) _ _ (by rw[List.length_eraseIdx_of_lt hl];lia)).trans ?_
  rw[Atk,As4]
  refine List.Perm.append_left _ ?_
  exact(yy hl).symm
def ue (f:Nat->Nat)(xs:Array α):(pickOrder f xs).toList.Perm xs.toList:=by
 unfold pickOrder
 have:=Aem f xs.size 0 xs.toList #[] (by rw[Aqx])
 simpa using this
def wp_choose (hn:n≠0)(h:∀i dr,i<n->Q i {s with drawn:=dr}):wpAny (model prog w) A (choose src n) Q E s:=
 λ_ _ _=>⟨hn,h _ _ (Nat.mod_lt _ (Nat.pos_of_ne_zero hn))⟩
theorem Ac1:∀(n:Nat)(xs:List α)(s:Shared){Q:List α->Shared->Prop},xs.length=n->(∀ys dr,ys.Perm xs->Q ys {s with drawn:=dr})->wpAny (model prog w) A (drawOrder n xs) Q E s
 | 0,[],s,Q,_,h=>Aqt (h [] s.drawn (.refl _))
 |
  n+1,x::xs,s,Q,hl,h=>by
  unfold drawOrder
  refine Aqq (wp_choose dks λi dr hi=>?_)
  have hi':i<(x::xs).length:=hi
  rw[Aq6 hi']
  dsimp only
  refine Aqq (Ac1 n _ _ (by rw[List.length_eraseIdx_of_lt hi'];lia) λys dr2 hp=>Aqt ?_)
  exact h _ dr2 ((hp.cons _).trans (yy hi').symm)
 | 0,_::_,_,_,hl,_=>nomatch hl
 | _+1,[],_,_,hl,_=>nomatch hl
def J8 (f:Value)(i:Nat)(a:Addr)(n ep:Nat):Obj:={cls:=.type "set_iterator",data:=.fields #[f,.int i 0,.ref a,.int n 0,.int ep 0]}
def Afx {a:Addr}{es:Array (Int×Value)}{ep:Nat}{t:SetTable}{ds:List Int}{slot given ep':Nat}{Q:Option (Value×Nat)->Shared->Prop}(ho:s.heap.get? a=some (Cc es ep t))(P:SetP prog w es t ds)(hb:mj w=true)(hd:¬(t.plain=false/\1<es.size))
  (h:Q (match es[SetTable.below t.place slot]?,t.place[SetTable.below t.place slot]? with|some (_,x),some j=>some (x,j+1)|_,_=>none) s):wpAny (model prog w) A (setNext a slot given ep') Q E s:=by
 have hb':w.params.followText "set-order"=false:=by unfold mj at hb;simpa using hb
 unfold setNext
 refine Aqq (Aub ho rfl P.ft ?_)
 dsimp only
 unfold setsByText
 refine Aqq (Aqq (Auk (Aqt ?_)))
 show wpAny _ _ (if w.params.followText "set-order"=true then _ else _) _ _ _
 rw[if_neg (by rw[hb'];decide)]
 show wpAny _ _ (if(!t.plain&&decide (es.size>1))=true then _ else _) _ _ _
 rw[if_neg (by intro z;simp at z;exact hd z)]
 refine Aqq ?_
 show wpAny _ _ (if(!t.led&&!es.isEmpty)=true then _ else pure ()) _ _ _
 rw[if_neg (by rw[P.tb.2,hb];simp)]
 exact Aqt (Aqt h)
def Afq {a:Addr}{es:Array (Int×Value)}{ep:Nat}{t:SetTable}{ds:List Int}{slot given:Nat}{Q:Option (Value×Nat)->Shared->Prop}(ho:s.heap.get? a=some (Cc es ep t))(P:SetP prog w es t ds)(hb:mj w=false)
  (h:Q (((pickOrder (w.params.setOrder a ep) es)[given]?).map λe=>(e.2,slot)) s):wpAny (model prog w) A (setNext a slot given ep) Q E s:=by
 have hb':w.params.followText "set-order"=true:=by unfold mj at hb;simpa using hb
 unfold setNext
 refine Aqq (Aub ho rfl P.ft ?_)
 dsimp only
 unfold setsByText
 refine Aqq (Aqq (Auk (Aqt ?_)))
 show wpAny _ _ (if w.params.followText "set-order"=true then _ else _) _ _ _
 rw[if_pos hb',if_neg dks]
 refine Aqq ?_
 unfold setWalk
 refine Aqq (Aub ho rfl P.ft ?_)
 dsimp only
 unfold setsByText
 refine Aqq (Aqq (Auk (Aqt ?_)))
 show wpAny _ _ (if w.params.followText "set-order"=true then _ else _) _ _ _
 rw[if_pos hb']
 refine Aqq (Auk (Aqt (Aqt h)))
def siT (hit:s.heap.get? it=some (J8 f i a n ep)):s.TypeIs (.ref it) "set_iterator":=⟨_,hit,rfl⟩
def Agb {a it:Addr}{es:Array (Int×Value)}{ep:Nat}{t:SetTable}{ds:List Int}{slot i nx:Nat}{x:Value}{Q:Option Value->Shared->Prop}(hit:s.heap.get? it=some (J8 (.int slot 0) i a es.size ep))(ho:s.heap.get? a=some (Cc es ep t))(P:SetP prog w es t ds)
  (hx:∀(A':Around)(Q':Option (Value×Nat)->Shared->Prop)(E':Value->Shared->Prop),Q' (some (x,nx)) s->wpAny (model prog w) A' (setNext a slot i ep) Q' E' s)
  (hQ:∀h',h'.get? it=some (J8 (.int nx 0) (i+1) a es.size ep)->Heap.SameBut it s.heap h'->Q (some x) {s with heap:=h'}):wpAny (model prog w) A (pyNext (.ref it)) Q E s:=by
 unfold pyNext
 refine Aqq (At1 (wpAny_callSpecial?_slot (name:=Str.ofString "__next__") (siT hit) Ic (Ar9 Ic (siT hit) Wy ?_ (fe _))))
 unfold Builtin.«set_iterator.__next__»
 refine Aqq (Aqt ?_)
 refine Aqq (Awl hit rfl ?_)
 dsimp only
 refine Aqq (Aul ho rfl P.ft ?_)
 rw[if_neg dks]
 rw[Ar8,Ar8,Ar8]
 refine Aqq (hx _ _ _ ?_)
 dsimp only
 refine Aqq (Asm hit rfl dks ?_)
 have g1:(s.heap.update it (Obj.mapFields (·.setIfInBounds 0 (rawInt (nx:Int))))).get? it=some (J8 (.int nx 0) i a es.size ep):=Ari _ hit rfl
 refine Aqq (Asm g1 rfl dks ?_)
 have g2:((s.heap.update it (Obj.mapFields (·.setIfInBounds 0 (rawInt (nx:Int))))).update it (Obj.mapFields (·.setIfInBounds 1 (rawInt ((i:Int)+1))))).get? it=some (J8 (.int nx 0) (i+1) a es.size ep):=Ari _ g1 rfl
 exact Aqt ⟨_,rfl,Aqt (hQ _ g2 ((Arf ..).trans (Arf ..)))⟩
def uw (hh:A.handled=none)(hit:s.heap.get? it=some (J8 f i a n ep))(hk:k<5)
  (hQ:∀h',Heap.ExtBut it s.heap h'->Q none {s with heap:=h'}):
  wpAny (model prog w) A.in1 (do setField (.ref it) k v;raiseNew (←newExc (.type "StopIteration") [])) (λfin s'=>∃u,fin=Fin.done (Flow.ret u)/\wpAny (model prog w) A (pure (some u)) Q E s')
   (λe s'=>wpAny (model prog w) A (do if ←isInstance e (.type "StopIteration") then pure none else throw e) Q E s') s:=by
 refine Aqq (Asm hit rfl (by simpa using hk) ?_)
 refine Aqq ?_
 simp only[newExc,newTuple]
 refine Aqq (Ar2 ?_ (by size_fits))
 refine Aqq (m:=firstArgMember _ _) (wpAny_of_eq (a:=Value.none) (by first|rfl|(simp only[firstArgMember];rfl)) ?_)
 refine Ar2 ?_ (by size_fits)
 simp only[raiseNew]
 refine Aqq (wpAny_handled ?_)
 rw[show A.in1.handled=none from hh]
 refine Aqq (Aqt (wpAny_throw ?_))
 refine Aqq (Av2 (T:="StopIteration") (b:=true) ⟨_,Aq1 _ rfl,rfl⟩ isSubtype_stop ?_)
 exact Aqt (hQ _ (((Arf ..).extBut.push _).push _))
def Adz {a it:Addr}{es:Array (Int×Value)}{ep:Nat}{t:SetTable}{ds:List Int}{slot i:Nat}{Q:Option Value->Shared->Prop}(hh:A.handled=none)(hit:s.heap.get? it=some (J8 (.int slot 0) i a es.size ep))(ho:s.heap.get? a=some (Cc es ep t))(P:SetP prog w es t ds)
  (hx:∀(A':Around)(Q':Option (Value×Nat)->Shared->Prop)(E':Value->Shared->Prop),Q' none s->wpAny (model prog w) A' (setNext a slot i ep) Q' E' s)
  (hQ:∀h',Heap.ExtBut it s.heap h'->Q none {s with heap:=h'}):wpAny (model prog w) A (pyNext (.ref it)) Q E s:=by
 unfold pyNext
 refine Aqq (At1 (wpAny_callSpecial?_slot (name:=Str.ofString "__next__") (siT hit) Ic (Ar9 Ic (siT hit) Wy ?_ (fe _))))
 unfold Builtin.«set_iterator.__next__»
 refine Aqq (Aqt (Aqq (Awl hit rfl ?_)))
 dsimp only
 refine Aqq (Aul ho rfl P.ft ?_)
 rw[if_neg dks,Ar8,Ar8,Ar8]
 refine Aqq (hx _ _ _ ?_)
 exact uw hh hit dkd hQ
def Agy {a it:Addr}{es:Array (Int×Value)}{ep:Nat}{t:SetTable}{ds:List Int}{T:Addr}{js:Array Value}{i j:Nat}{x:Value}{hsh:Int}{Q:Option Value->Shared->Prop}(hit:s.heap.get? it=some (J8 (.ref T) i a es.size ep))(ho:s.heap.get? a=some (Cc es ep t))(P:SetP prog w es t ds)
  (hT:∀(A':Around)(Q':Option (Array Value)->Shared->Prop)(E':Value->Shared->Prop),Q' (some js) s->wpAny (model prog w) A' (seqItems? (.ref T)) Q' E' s) (hj:js[i]?=some (.int j 0)) (hx:es[j]?=some (hsh,x))
  (hQ:∀h',h'.get? it=some (J8 (.ref T) (i+1) a es.size ep)->Heap.SameBut it s.heap h'->Q (some x) {s with heap:=h'}):wpAny (model prog w) A (pyNext (.ref it)) Q E s:=by
 unfold pyNext
 refine Aqq (At1 (wpAny_callSpecial?_slot (name:=Str.ofString "__next__") (siT hit) Ic (Ar9 Ic (siT hit) Wy ?_ (fe _))))
 unfold Builtin.«set_iterator.__next__»
 refine Aqq (Aqt (Aqq (Awl hit rfl ?_)))
 dsimp only
 refine Aqq (Aul ho rfl P.ft ?_)
 rw[if_neg dks]
 refine Aqq (hT _ _ _ ?_)
 dsimp only
 rw[Ar8,hj]
 dsimp only
 unfold setNextDrawn
 rw[Ar8,Ar8]
 refine Aqq (Aqq (Aub ho rfl P.ft ?_))
 dsimp only
 rw[if_neg dks,hx]
 dsimp only
 refine Aqt (Aqq (Asm hit rfl dks ?_))
 have g1:(s.heap.update it (Obj.mapFields (·.setIfInBounds 1 (rawInt ((i:Int)+1))))).get? it=some (J8 (.ref T) (i+1) a es.size ep):=Ari _ hit rfl
 exact Aqt ⟨_,rfl,Aqt (hQ _ g1 (Arf ..))⟩
def Ab8 (hh:A.handled=none)(hit:s.heap.get? it=some (J8 (.ref T) i a es.size ep))(ho:s.heap.get? a=some (Cc es ep t))(P:SetP prog w es t ds)
  (hT:∀(A':Around)(Q':Option (Array Value)->Shared->Prop)(E':Value->Shared->Prop),Q' (some js) s->wpAny (model prog w) A' (seqItems? (.ref T)) Q' E' s) (hj:js[i]?=none)
  (hQ:∀h',Heap.ExtBut it s.heap h'->Q none {s with heap:=h'}):wpAny (model prog w) A (pyNext (.ref it)) Q E s:=by
 unfold pyNext
 refine Aqq (At1 (wpAny_callSpecial?_slot (name:=Str.ofString "__next__") (siT hit) Ic (Ar9 Ic (siT hit) Wy ?_ (fe _))))
 unfold Builtin.«set_iterator.__next__»
 refine Aqq (Aqt (Aqq (Awl hit rfl ?_)))
 dsimp only
 refine Aqq (Aul ho rfl P.ft ?_)
 rw[if_neg dks]
 refine Aqq (hT _ _ _ ?_)
 dsimp only
 rw[Ar8,hj]
 dsimp only
 refine Aqq (Asm hit rfl dks ?_)
 have g1:(s.heap.update it (Obj.mapFields (·.setIfInBounds 0 (rawInt 0)))).get? it=some (J8 (rawInt 0) i a es.size ep):=Ari _ hit rfl
 exact uw (s:={s with heap:=s.heap.update it (Obj.mapFields (·.setIfInBounds 0 (rawInt 0)))}) hh g1 dkd λh' x=>hQ h' λb o hb e=>x b o hb ((Arf ..).extBut b o hb e)
def zq:Slot "set_iterator" "__iter__" "set_iterator.__iter__":=
 .of (owner:="set_iterator") (n:="__iter__") (by rw[Awd,Au3];kernel_rfl) dkk dkk dkk (.inl dkk) (by rw[isSubtype_type];kernel_rfl)
def Ac5:entryFor table "set_iterator.__iter__"=some Builtin.«dict_keyiterator.__iter__»:=entryFor_alias (id':="dict_keyiterator.__iter__") (by kernel_rfl) rfl dkk (by kernel_rfl)
def Agx (a:Value):argsOk "set_iterator.__iter__" ⟨[a],[]⟩:=by
 unfold argsOk
 rw[signature?_of (id:="set_iterator.__iter__") (n:=['_','_','r','e','t','i','_','_']) (o:=['r','o','t','a','r','e','t','i','_','t','e','s']) (by kernel_rfl) Ahq]
 kernel_rfl
def Aer (hit:s.heap.get? it=some (J8 f i a n ep))(h:Q (.ref it) s):wpAny (model prog w) A (pyIter (.ref it)) Q E s:=by
 refine wpAny_pyIter_slot (siT hit) zq (Ar9 zq (siT hit) Ac5 ?_ (Agx _))
 show wpAny _ _ (ret (.ref it)) _ _ s
 exact Aqt ⟨_,rfl,"set_iterator",_,siT hit,Ic.lookup,h⟩
def Amw (ho:s.heap.get? a=some (Cc es ep t)):s.TypeIs (.ref a) "set":=⟨_,ho,rfl⟩
def yn (hT:s.TypeIs (.ref a) "set")(h:Q false s):wpAny (model prog w) A (Builtin.List.listLengthHint (.ref a)) Q E s:=by
 unfold Builtin.List.listLengthHint
 refine Aqq (Awb hT PySem.F.slot_set_len.lookup ?_)
 generalize hid:("set.__len__":String)=id0
 wp_delta
 rw[show splitId id0=some ("set","__len__") from by subst hid;decide+kernel]
 subst hid
 refine Aqq (Av2 (T:="set") (b:=true) hT (by rw[isSubtype_type];kernel_rfl) ?_)
 refine Atp (λz=>absurd z dkd) (λ_=>?_)
 refine Atp (λ_=>?_) (λz=>absurd dkk z)
 refine Aqq (Avp hT ?_)
 exact Aqt h
def Drawn (w:World)(es:Array (Int×Value))(t:SetTable):Prop:=mj w=true/\t.plain=false/\1<es.size
def zy (ho:s.heap.get? a=some (Cc es ep t))(P:SetP prog w es t ds)
  (h1:¬Drawn w es t->Q (.ref s.heap.objs.size) {s with heap:=s.heap.push (J8 (.int 0 0) 0 a es.size ep)})
  (h2:Drawn w es t->∀(js:List Nat)dr,js.Perm (List.range es.size)->Q (.ref (s.heap.objs.size+1)) {s with heap:=(s.heap.push {cls:=.type "tuple",data:=.seq (js.map λ(i:Nat)=>rawInt i).toArray}).push (J8 (.ref s.heap.objs.size) 0 a es.size ep),drawn:=dr}):
  wpAny (model prog w) A (pyIter (.ref a)) Q E s:=by
 refine wpAny_pyIter_slot (Amw ho) PySem.F.slot_set_iter (Ar9 PySem.F.slot_set_iter (Amw ho) z9 ?_ (PySem.F.args_set_iter_1 _))
 unfold Builtin.«frozenset.__iter__»
 refine Aqq (Aqt ?_)
 refine Aqq (Aqq (Aul ho rfl P.ft (Aqt ?_)))
 refine Aqq ?_
 unfold setDrawn
 refine Aqq (Aub ho rfl P.ft ?_)
 dsimp only
 unfold setsByText
 refine Aqq (Aqq (Auk (Aqt (Aqt ?_))))
 show wpAny _ _ (if(!w.params.followText "set-order"&&(!t.plain&&decide (es.size>1)))=true then _ else _) _ _ _
 refine Atp (λz=>?_) (λz=>?_)
 ·
  rw[Aq9,Aq9] at z
  have hD:Drawn w es t:=⟨z.1,by simpa using z.2.1,Aqu z.2.2⟩
  refine Aqq (Ac1 es.size _ _ Art λjs dr hp=>Aqq (wpAny_newTuple ?_ ?_))
  ·
   refine Aqq (wpAny_setEpoch_of (Aqr _ ho) rfl P.ft ?_)
   have hs:(s.heap.push {cls:=.type "tuple",data:=.seq (js.map λ(i:Nat)=>rawInt i).toArray}).objs.size=s.heap.objs.size+1:=Ar6 ..
   refine Aqq (Ar2 (Aqt ⟨_,rfl,"set_iterator",_,⟨_,Aq1 _ rfl,rfl⟩,Ic.lookup,?_⟩))
   have q:=h2 hD js dr hp
   rw[←hs] at q
   exact q
  ·
   rw[Aqv,hp.length_eq,Art]
   exact Au0 P.sz
 ·
  refine Aqq (Aqt ?_)
  refine Aqq (wpAny_setEpoch_of ho rfl P.ft ?_)
  refine Aqq (Ar2 (Aqt ⟨_,rfl,"set_iterator",_,⟨_,Aq1 _ rfl,rfl⟩,Ic.lookup,?_⟩))
  refine h1 λhD=>z ?_
  rw[Aq9,Aq9]
  exact⟨hD.1,by rw[hD.2.1];rfl,Aqs hD.2.2⟩
def Afb (hh:A.handled=none)(I:Addr)(hne:a≠I)(P:SetP prog w es t ds)(xs:Array (Int×Value))(sl:Nat->Nat)(hz:xs.size=es.size)
  (hnx:∀(s':Shared)(i:Nat),s'.heap.get? a=some (Cc es ep t)->i<=es.size->∀(A':Around)(Q':Option (Value×Nat)->Shared->Prop)(E':Value->Shared->Prop),Q' ((xs[i]?).map λe=>(e.2,sl (i+1))) s'->wpAny (model prog w) A' (setNext a (sl i) i ep) Q' E' s'):
  Walks prog w A I [I,a] [I] es.size (λi v=>∃e,xs[i]?=some e/\v=e.2) (λi h=>h.get? I=some (J8 (.int (sl i) 0) i a es.size ep)/\h.get? a=some (Cc es ep t)) where
 sub:=λb hb=>by simp at hb;simp[hb]
 frame:=λ_ _ _ st hk=>⟨hk I dks _ st.1,hk a dks _ st.2⟩
 item:=λi s Q E hi st hQ=>by
  have hx:xs[i]?=some (xs[i]'dkl):=Arh dkl
  refine Agb (x:=(xs[i]'dkl).2) (nx:=sl (i+1)) st.1 st.2 P (λA' Q' E' q=>hnx s i st.2 dkl A' Q' E' (by rw[hx];exact q)) λh' g sb=>?_
  exact hQ _ h' s.toks ⟨_,hx,rfl⟩ ⟨g,(sb.2 a hne).trans st.2⟩ λb o hb e=>(sb.2 b (λz=>hb (by simp[z]))).trans e
 done:=λs Q E st hQ=>Adz hh st.1 st.2 P (λA' Q' E' q=>hnx s es.size st.2 (Aq0 _) A' Q' E' (by rw[Aup dkl];exact q)) λh' x=>hQ h' s.toks λb o hb e=>x b o (λz=>hb (by simp[z])) e
 self:=λ_ _ _ _ st hQ=>Aer st.1 hQ
def Apd (t:SetTable):Nat->Nat
 | 0=>0
 | k+1=>t.place.getD k 0+1
theorem Ai5 (P:SetP prog w es t ds)(hD:¬Drawn w es t):∃xs:Array (Int×Value),xs.toList.Perm es.toList/\KdlSrc prog w "set" a a es.size (λi v=>∃e,xs[i]?=some e/\v=e.2) (λh=>h.get? a=some (Cc es ep t)):=by
 have mk:∀(xs:Array (Int×Value))(sl:Nat->Nat),sl 0=0->xs.toList.Perm es.toList->
   (∀(s':Shared)(i:Nat),s'.heap.get? a=some (Cc es ep t)->i<=es.size->∀(A':Around)(Q':Option (Value×Nat)->Shared->Prop)(E':Value->Shared->Prop),Q' ((xs[i]?).map λe=>(e.2,sl (i+1))) s'->wpAny (model prog w) A' (setNext a (sl i) i ep) Q' E' s')->
   KdlSrc prog w "set" a a es.size (λi v=>∃e,xs[i]?=some e/\v=e.2) (λh=>h.get? a=some (Cc es ep t)):=λxs sl h0 hp hnx=>
  {
   type:=λs h=>Amw h
   there:=λh e=>⟨Aqy e,Aqy e⟩
   keep:=λh h' e k=>k a (.inl rfl) _ e
   notList:=by decide
   notTuple:=by decide
   hint:=λA E s Q h q=>yn (Amw h) q
   iter:=λA s hh h=>⟨J8 (.int 0 0) 0 a es.size ep,_,λE Q q=>zy h P (λ_=>q) (λz=>absurd z hD),Afb hh _ (Arc (Aqy h)) P xs sl (by rw[←Aqx,hp.length_eq,Aqx]) hnx,by rw[h0];exact Aq1 _ rfl,Aqr _ h⟩}
 cases hb:mj w with
 |
  false=>
  refine⟨_,ue (w.params.setOrder a ep) es,mk _ (λ_=>0) rfl (ue _ es) λs' i ho hi A' Q' E' q=>Afq ho P hb q⟩
 |
  true=>
  have hf:=P.ft
  simp only[SetTable.fits,Aq9,beq_iff_eq,Atg] at hf
  refine⟨es,.refl _,mk es (Apd t) rfl (.refl _) λs' i ho hi A' Q' E' q=>Afx ho P hb (λz=>hD ⟨hb,z⟩) ?_⟩
  have hbl:SetTable.below t.place (Apd t i)=i:=by
   cases i with
   | zero=>exact Aaa P.tb.1
   |
    succ k=>
    have hk:k<t.place.size:=by lia
    have e:t.place[k]?=some (t.place[k]):=Arh hk
    have eg:t.place.getD k 0=t.place[k]:=by unfold Array.getD;rw[Av4 hk];rfl
    show SetTable.below t.place (t.place.getD k 0+1)=k+1
    rw[eg]
    exact Abb P.tb.1 e
  rw[hbl]
  rcases Au8 i es.size with hl|hl
  ·
   have hk:i<t.place.size:=by lia
   have eg:t.place.getD i 0=t.place[i]:=by unfold Array.getD;rw[Av4 hk];rfl
   rw[Arh hl] at q ⊢
   rw[Arh hk]
   have q':Q' (some ((es[i]).2,t.place.getD i 0+1)) s':=q
   rw[eg] at q'
   exact q'
  ·
   rw[Aup hl] at q ⊢
   exact q
def Rq (js:List Nat):Obj:={cls:=.type "tuple",data:=.seq (js.map λ(i:Nat)=>rawInt i).toArray}
def Agu (hh:A.handled=none)(I T:Addr)(hne:a≠I)(hnT:T≠I)(P:SetP prog w es t ds)(hp:js.Perm (List.range es.size)):
  Walks prog w A I [I,a,T] [I] es.size (λi v=>∃j e,js[i]?=some j/\es[j]?=some e/\v=e.2) (λi h=>h.get? I=some (J8 (.ref T) i a es.size ep)/\h.get? a=some (Cc es ep t)/\h.get? T=some (Rq js)) where
 sub:=λb hb=>by simp at hb;simp[hb]
 frame:=λ_ _ _ st hk=>⟨hk I dks _ st.1,hk a dks _ st.2.1,hk T dks _ st.2.2⟩
 item:=λi s Q E hi st hQ=>by
  have hl:js.length=es.size:=by rw[hp.length_eq,Art]
  have hj:js[i]?=some (js[i]'dkl):=Aq6 dkl
  have hm:js[i]'dkl<es.size:=Aty.mp (hp.mem_iff.mp (Asu _))
  have hx:es[js[i]'dkl]?=some (es[js[i]'dkl]):=Arh hm
  refine Agy (js:=(js.map λ(i:Nat)=>rawInt i).toArray) (j:=js[i]'dkl) (x:=(es[js[i]'dkl]).2) (hsh:=(es[js[i]'dkl]).1) st.1 st.2.1 P (λA' Q' E' q=>wpAny_seqItems st.2.2 rfl q) ?_ hx λh' g sb=>?_
  ·
   rw[List.getElem?_toArray,Are,hj]
   rfl
  · exact hQ _ h' s.toks ⟨_,_,hj,hx,rfl⟩ ⟨g,(sb.2 a hne).trans st.2.1,(sb.2 T hnT).trans st.2.2⟩ λb o hb e=>(sb.2 b (λz=>hb (by simp[z]))).trans e
 done:=λs Q E st hQ=>by
  have hl:js.length=es.size:=by rw[hp.length_eq,Art]
  refine Ab8 (js:=(js.map λ(i:Nat)=>rawInt i).toArray) hh st.1 st.2.1 P (λA' Q' E' q=>wpAny_seqItems st.2.2 rfl q) ?_ λh' x=>hQ h' s.toks λb o hb e=>x b o (λz=>hb (by simp[z])) e
  rw[List.getElem?_toArray,Are,Aux dkl]
  rfl
 self:=λ_ _ _ _ st hQ=>Aer st.1 hQ
theorem V0 {xs:List (Int×Value)}(h:∀e∈xs,∃k u,e.2=.int k u):IntsAre (xs.map (·.2)) (xs.map λe=>xf e.2):=by
 induction xs with
 | nil=>exact .nil
 |
  cons e xs ih=>
  obtain⟨k,u,hk⟩:=h e (Arn ..)
  rw[Ar1,Ar1,hk]
  exact .cons k u (ih λe he=>h e (Ard _ he))
def Acr {acc:Array Value}{n:Nat}{xs:List (Int×Value)}(hn:xs.length=n)(h:ItemsOf (λi v=>∃e,xs[i]?=some e/\v=e.2) acc n):acc.toList=xs.map (·.2):=by
 apply List.ext_getElem?
 intro i
 rw[Are]
 have hz:acc.toList.length=n:=by rw[Aqx];exact h.1
 rcases Au8 i n with hi|hi
 ·
  have e1:acc.toList[i]?=some (acc.toList[i]'dkl):=Aq6 dkl
  obtain⟨e,he,hv⟩:=h.2 i _ (by rw[←Arv];exact e1)
  rw[e1,he,hv]
  rfl
 ·
  rw[Aux dkl,Aux dkl]
  rfl
theorem Ae2 {es:Array (Int×Value)}:∀{js:List Nat},(∀j∈js,j<es.size)->∃xs:List (Int×Value),xs=js.filterMap (λj=>es[j]?)/\xs.length=js.length/\∀(i j:Nat),js[i]?=some j->xs[i]?=es[j]?
 | [],_=>⟨[],rfl,rfl,λi j h=>by cases h⟩
 |
  k::js,h=>by
  obtain⟨xs,e,hl,hx⟩:=Ae2 (js:=js) λj hj=>h j (Ard _ hj)
  have hk:es[k]?=some (es[k]'(h k (Arn ..))):=Arh _
  refine⟨es[k]'(h k (Arn ..))::xs,by rw[List.filterMap_cons_some hk,e],by rw[Arx,Arx,hl],λi j hj=>?_⟩
  cases i with
  |
   zero=>
   have:k=j:=Arl hj
   subst this
   exact hk.symm
  | succ i=>exact hx i j hj
def yi {a:Addr}{ds:List Int}{Q:List Value->Shared->Prop}(hS:SetI prog w a ds s.heap)(hh:A.handled=none)
  (h:∀h' tk dr(vs:List Value)(ns:List Int),(∀b o,s.heap.get? b=some o->h'.get? b=some o)->s.heap.objs.size<=h'.objs.size->IntsAre vs ns->ns.Perm ds->Q vs {s with heap:=h',toks:=tk,drawn:=dr}):wpAny (model prog w) A (collect (.ref a)) Q E s:=by
 obtain⟨es,ep,t,ho,P⟩:=hS
 have hz:es.size<=sizeLine:=Au0 P.sz
 by_cases hD:Drawn w es t
 ·
  unfold collect
  refine Aqq (Awk (Asg entry_proto_collect' ?_))
  show wpAny _ _ (do again (.builtin "list.__iadd__" ⟨[←newList [],.ref a],[]⟩)) _ _ s
  refine Aqq (wpAny_newList (Aqt ⟨At7 _ dkk,Asg entry_list_iadd' ?_⟩))
  show wpAny _ _ (Builtin.List.listExtendWith (.ref s.heap.objs.size) (.ref a) (.ref s.heap.objs.size)) _ _ {s with heap:=s.heap.push (seqObj "list" #[] 0)}
  have hS0:(s.heap.push (seqObj "list" #[] 0)).get? s.heap.objs.size=some {cls:=.type "list",data:=.seq #[] 0}:=Aq1 _ rfl
  have ho1:(s.heap.push (seqObj "list" #[] 0)).get? a=some (Cc es ep t):=Aqr _ ho
  have haS:s.heap.objs.size≠a:=Asl (Aqy ho)
  rw[Asv PySem.F.plain_list_iadd _]
  unfold Builtin.List.listExtendWith
  refine Aqq (Avp (T:="set") ⟨_,ho1,rfl⟩ ?_)
  have e1:Builtin.List.listSameRef (.ref s.heap.objs.size) (.ref a)=false:=by simp[Builtin.List.listSameRef,haS]
  have e2:(Value.type "set"==Value.type "list")=false:=by decide
  have e3:(Value.type "set"==Value.type "tuple")=false:=by decide
  simp only[e1,e2,e3,Avo,Atd,Av1]
  refine Aqq (zy ho1 P (λz=>absurd hD z) λ_ js dr hp=>?_)
  have hsz:(s.heap.push (seqObj "list" #[] 0)).objs.size=s.heap.objs.size+1:=Ar6 ..
  rw[hsz]
  have hI:s.heap.objs.size+1+1=s.heap.objs.size+2:=rfl
  have hT1:((s.heap.push (seqObj "list" #[] 0)).push (Rq js)).get? (s.heap.objs.size+1)=some (Rq js):=by rw[←hsz];exact Aq1 _ rfl
  have hsz2:((s.heap.push (seqObj "list" #[] 0)).push (Rq js)).objs.size=s.heap.objs.size+1+1:=by rw[Ar6,hsz]
  have hI1:(((s.heap.push (seqObj "list" #[] 0)).push (Rq js)).push (J8 (.ref (s.heap.objs.size+1)) 0 a es.size ep)).get? (s.heap.objs.size+1+1)=some (J8 (.ref (s.heap.objs.size+1)) 0 a es.size ep):=by rw[←hsz2];exact Aq1 _ rfl
  have hla:=Aqy ho
  have W:=Agu (prog:=prog) (w:=w) (A:=A.in1) (ep:=ep) hh (s.heap.objs.size+1+1) (s.heap.objs.size+1) (a:=a) (Arc (Asw (Asw hla))) (Arc (Asj _)) P hp
  have hSf:s.heap.objs.size∉[s.heap.objs.size+1+1,a,s.heap.objs.size+1]:=by
   simp only[Ara,Ata,Awa,not_or]
   exact⟨Arc (Asw (Asj _)),haS,Arc (Asj _)⟩
  have key:∀(R:Result->Shared->Prop),(∀h' tk(acc:Array Value)c',(∀b o,s.heap.get? b=some o->h'.get? b=some o)->h'.get? s.heap.objs.size=some {cls:=.type "list",dict:=none,data:=.seq acc c',slots:=#[]}->ItemsOf (λi v=>∃j e,js[i]?=some j/\es[j]?=some e/\v=e.2) acc es.size->R (.ok (.ret (.ref s.heap.objs.size))) {s with heap:=h',toks:=tk,drawn:=dr})->
    ∀(hp':Heap)(c₁ tk:Nat),(hp'.get? (s.heap.objs.size+1+1)=some (J8 (.ref (s.heap.objs.size+1)) 0 a es.size ep)/\hp'.get? a=some (Cc es ep t)/\hp'.get? (s.heap.objs.size+1)=some (Rq js))->(∀b o,s.heap.get? b=some o->hp'.get? b=some o)->
    hp'.get? s.heap.objs.size=some {cls:=.type "list",data:=.seq #[] c₁}->codeAny (model prog w) A (.builtin "list.extend.loop" ⟨[.ref s.heap.objs.size,.ref (s.heap.objs.size+1+1),.ref s.heap.objs.size],[]⟩) R {s with heap:=hp',toks:=tk,drawn:=dr}:=by
   intro R hR hp' c₁ tk st kp hS₁
   refine codeAny_extend_loopS W.toS hz s.heap.objs.size hSf _ es.size 0 _ #[] c₁ rfl (Ar3 _) st hS₁ (ItemsOf.nil _) λs' acc' c' hm hS' hacc=>?_
   rw[Moved.eq_with hm]
   refine hR s'.heap s'.toks acc' c' (λb o e=>hm.heap b o (λhmem=>?_) (kp b o e)) hS' hacc
   have hb:=Aqy e
   rcases Ara.mp hmem with e'|hmem
   · exact absurd hb (by rw[e'];exact Asd _)
   · exact absurd hb (by rw[Arm.mp hmem];exact Avi.mpr (Nat.le_succ_of_le (Au4 _)))
  have fin:∀h' tk(acc:Array Value)c',(∀b o,s.heap.get? b=some o->h'.get? b=some o)->h'.get? s.heap.objs.size=some {cls:=.type "list",dict:=none,data:=.seq acc c',slots:=#[]}->ItemsOf (λi v=>∃j e,js[i]?=some j/\es[j]?=some e/\v=e.2) acc es.size->Q acc.toList {s with heap:=h',toks:=tk,drawn:=dr}:=by
   intro h' tk acc c' kp hS' ia
   obtain⟨xs,e,hl,hx⟩:=Ae2 (es:=es) (js:=js) λj hj=>Aty.mp (hp.mem_iff.mp hj)
   have hjl:js.length=es.size:=by rw[hp.length_eq,Art]
   have hpx:xs.Perm es.toList:=by
    rw[e]
    refine(hp.filterMap _).trans ?_
    rw[filterMap_getElem?_range]
   have ea:=Acr (hl.trans hjl) ⟨ia.1,λi v hv=>by obtain⟨j,e,hj,he,z⟩:=ia.2 i v hv;exact⟨e,by rw[hx i j hj];exact he,z⟩⟩
   exact h h' tk dr acc.toList (xs.map λe=>xf e.2) kp (Atl (Aqy hS')) (by rw[ea];exact V0 λx hx=>P.ints x (hpx.mem_iff.mp hx)) ((hpx.map _).trans P.ks)
  have kp2:∀b o,s.heap.get? b=some o->(((s.heap.push (seqObj "list" #[] 0)).push (Rq js)).push (J8 (.ref (s.heap.objs.size+1)) 0 a es.size ep)).get? b=some o:=λb o e=>Aqr _ (Aqr _ (Aqr _ e))
  have hS2:(((s.heap.push (seqObj "list" #[] 0)).push (Rq js)).push (J8 (.ref (s.heap.objs.size+1)) 0 a es.size ep)).get? s.heap.objs.size=some {cls:=.type "list",data:=.seq #[] 0}:=Aqr _ (Aqr _ hS0)
  show wpAny (model prog w) A.in1 _ _ _ {s with heap:=((s.heap.push (seqObj "list" #[] 0)).push (Rq js)).push (J8 (.ref (s.heap.objs.size+1)) 0 a es.size ep),drawn:=dr}
  refine Aqq (Asn (yn ⟨_,kp2 _ _ ho,rfl⟩ ?_))
  have all:∀(
        hp':Heap) (c₁ tk:Nat),(hp'.get? (s.heap.objs.size+1+1)=some (J8 (.ref (s.heap.objs.size+1)) 0 a es.size ep)/\hp'.get? a=some (Cc es ep t)/\hp'.get? (s.heap.objs.size+1)=some (Rq js))->(∀b o,s.heap.get? b=some o->hp'.get? b=some o)->
    hp'.get? s.heap.objs.size=some {cls:=.type "list",data:=.seq #[] c₁}->codeAny (model prog w) A (.builtin "list.extend.loop" ⟨[.ref s.heap.objs.size,.ref (s.heap.objs.size+1+1),.ref s.heap.objs.size],[]⟩) (λr s'=>
      match r with
      |
       Except.ok (Flow.ret v)=>
       wpAny (model prog w) A (match v with
        |
         .ref a=>do match (←load a).data with
         | .seq xs _=>pure xs.toList
         | _=>unsupported "internal:collect"
        | _=>unsupported "internal:collect") Q E s'
      | Except.ok _=>False
      | Except.error e=>E e s') {s with heap:=hp',toks:=tk,drawn:=dr}:=key _ λh' tk acc c' kp hS' ia=>by
    show wpAny (model prog w) A (do
     let o ←load s.heap.objs.size
     match o.data with
     | .seq xs _=>pure xs.toList
     | _=>unsupported "internal:collect") Q E {s with heap:=h',toks:=tk,drawn:=dr}
    exact Aqq (At4 hS' (Aqt (fin h' tk acc c' kp hS' ia)))
  refine Atp (λ_=>?_) (λ_=>Aqt ⟨Aut PySem.F.plain_extend_loop _,all _ 0 s.toks ⟨hI1,kp2 _ _ ho,Aqr _ hT1⟩ kp2 hS2⟩)
  refine Aqq (As8 (Aqq ?_))
  show wpAny _ _ (updateSeq s.heap.objs.size (·.push .none)>>= λ_=>updateSeq s.heap.objs.size (·.pop)) _ _ _
  refine Aqq (Aus hS2 rfl ?_)
  have g2:=Ari (Obj.mapSeq (·.push Value.none)) hS2 rfl
  refine Aus (hz:=by seq_fits) g2 rfl ?_
  have g3:=Ari (Obj.mapSeq (·.pop)) g2 rfl
  have oth:∀b o,b≠s.heap.objs.size->(((s.heap.push (seqObj "list" #[] 0)).push (Rq js)).push (J8 (.ref (s.heap.objs.size+1)) 0 a es.size ep)).get? b=some o->(((((s.heap.push (seqObj "list" #[] 0)).push (Rq js)).push (J8 (.ref (s.heap.objs.size+1)) 0 a es.size ep)).update s.heap.objs.size (Obj.mapSeq (·.push Value.none))).update s.heap.objs.size (Obj.mapSeq (·.pop))).get? b=some o:=
   λb o hb e=>(Av5 _ _ (Avl hb)).trans ((Av5 _ _ (Avl hb)).trans e)
  refine Aqt ⟨Aut PySem.F.plain_extend_loop _,all _ _ s.toks ⟨oth _ _ (Asl (Asw (Asj _))) hI1,oth _ _ haS.symm (kp2 _ _ ho),oth _ _ (Asl (Asj _)) (Aqr _ hT1)⟩ (λb o e=>oth b o (Arc (Aqy e)) (kp2 b o e)) g3⟩
 ·
  obtain⟨xs,hp,K⟩:=Ai5 (a:=a) (ep:=ep) P hD
  refine wg K hh ho hz λh' tk acc kp hge ia=>?_
  have hl:xs.toList.length=es.size:=by rw[hp.length_eq,Aqx]
  have e:=Acr hl ⟨ia.1,λi v hv=>by obtain⟨e,he,z⟩:=ia.2 i v hv;exact⟨e,by rw[Arv];exact he,z⟩⟩
  have q:=h h' tk s.drawn acc.toList (xs.toList.map λe=>xf e.2) kp hge (by rw[e];exact V0 λx hx=>P.ints x (hp.mem_iff.mp hx)) ((hp.map _).trans P.ks)
  exact q
def vw {c:Value}{O:KeyOrd}{key:Value->O.α}{κ:SortKind}{Q:Value->Shared->Prop}{G:List Value->Prop}(hh:A.handled=none)
  (hcol:∀(A':Around),A'.handled=none->∀(E':Value->Shared->Prop)(Q':List Value->Shared->Prop),(∀h' tk dr vs,(∀b o,s.heap.get? b=some o->h'.get? b=some o)->s.heap.objs.size<=h'.objs.size->G vs->Q' vs {s with heap:=h',toks:=tk,drawn:=dr})->wpAny (model prog w) A' (collect c) Q' E' s)
  (hz:∀vs,G vs->vs.length<=sizeLine) (hS:∀vs,G vs->2<=vs.length->∀(A':Around)(s':Shared),(∀b o,s.heap.get? b=some o->s'.heap.get? b=some o)->Aih prog w A' s' κ key vs)
  (h:∀(D:Addr)h' tk dr(vs us:List Value)(e:Nat),G vs->us.Perm vs->us.Pairwise (λx y=>O.kle (key x) (key y))->(∀b o,s.heap.get? b=some o->h'.get? b=some o)->s.heap.objs.size<=D->h'.get? D=some (seqObj "list" us.toArray e)->Q (.ref D) {s with heap:=h',toks:=tk,drawn:=dr}):
  wpAny (model prog w) A (call (.builtin "sorted") [c]) Q E s:=by
 refine Calls.call_function_entry kind_sorted plain_sorted entry_sorted (args_sorted1 _) ?_
 unfold Builtin.«sorted»
 refine Aqq (m:=checkCount "sorted" 1 1 _) (Aqt (Aqq (hcol A.in1 hh _ _ λh1 tk dr vs kp hge hg=>?_)))
 refine Aqq (wpAny_newList ?_ (hz vs hg))
 have hoL:(h1.push (seqObj "list" vs.toArray 0)).get? h1.objs.size=some (seqObj "list" vs.toArray 0):=Aq1 _ rfl
 have keep:∀b o,s.heap.get? b=some o->(h1.push (seqObj "list" vs.toArray 0)).get? b=some o:=λb o q=>Aqr _ (kp b o q)
 have ne:∀b o,s.heap.get? b=some o->b≠h1.objs.size:=λb o q=>Arc (Aqy (kp b o q))
 show wpAny _ _ _ _ _ {s with heap:=h1.push (seqObj "list" vs.toArray 0),toks:=tk,drawn:=dr}
 refine Aqq (Asn (Ar9 slot_list_sort ⟨_,hoL,rfl⟩ entry_list_sort (Aa8 (κ:=κ) (key:=key) hoL (hz vs hg) (λh2 h' kp'=>hS vs hg h2 _ _ λb o q=>kp' b o (ne b o q) (keep b o q)) λus a1 a2=>⟨_,rfl,Aqt ⟨_,rfl,?_⟩⟩) (args_list_sort _)))
 obtain⟨e,he⟩:=sortedHeap_at (out:=us.toArray) hoL
 refine h h1.objs.size _ tk dr vs us e hg a1 a2 (λb o q=>?_) hge he
 rw[sortedHeap_old (ne b o q) (Aqy (keep b o q))]
 exact keep b o q
def Inv.drew (I:Inv X pins σ H s)(dr:PySem.Drawn):Inv X pins σ H {s with drawn:=dr}:=
 ⟨I.ok,I.os,I.bare,I.base,I.loc,I.cell,I.free,I.freeC,I.pin,I.hok,I.len⟩
def su (hc:X.calm=true):Lc X (.type "set") (λxs H Q=>∃(p:Addr)(ns:List Int),xs=[.ref p]/\H p=some (.lst (ns.map V.int))/\ns.length<4096/\
  ∀(D:Addr)(ds:List Int),H D=none->(∀x,x∈ds↔x∈ns)->ds.Nodup->Q (.ref D) (upd H D (.ext (SetI X.prog X.w D ds)))):=by
 intro pins s σ H xs us Q I r h
 obtain⟨p,ns,rfl,hp,hz,q⟩:=h
 obtain⟨u,rfl,ru⟩:=vals1 r
 cases ru
 obtain⟨its,rv,pl,hl⟩:=I.list (Aws (K:=X.K) hp)
 have hi:=intsAre_of rv
 refine Ags (I.ok.hd hc) pl.isList hi hz λh' tk S kp=>?_
 have hD:H s.heap.objs.size=none:=I.hok.fresh (Aq0 _)
 have nd:(ns.foldl ins []).Nodup:=by obtain⟨_,_,_,_,P⟩:=S;exact P.nd
 refine⟨.ref s.heap.objs.size,_,I.laid (t':=tk) (o:=.ext (SetI X.prog X.w s.heap.objs.size (ns.foldl ins []))) kp (Aq0 _) ?_,rfl,q _ _ hD (λx=>by rw[jm];simp) nd⟩
 refine⟨S,?_,λh1 h2 a b=>a.at' b⟩
 obtain⟨es,ep,t,ho,_⟩:=S
 exact⟨_,ho⟩
def Sn (hc:X.calm=true):Lc X (.builtin "sorted") (λxs H Q=>∃(p:Addr)(ds:List Int),xs=[.ref p]/\H p=some (.ext (SetI X.prog X.w p ds))/\
  ∀(D:Addr)(ms:List Int),H D=none->ms.Perm ds->ms.Pairwise (· < ·)->Q (.ref D) (upd H D (.lst (ms.map V.int)))):=by
 intro pins s σ H xs us Q I r h
 obtain⟨p,ds,rfl,hp,q⟩:=h
 obtain⟨u,rfl,ru⟩:=vals1 r
 cases ru
 have S:SetI X.prog X.w p ds s.heap:=(I.hok _ _ hp).1
 have hds:ds.Nodup/\ds.length<=sizeLine:=by
  obtain⟨es,_,_,_,P⟩:=S
  exact⟨P.nd,by rw[P.len];exact Au0 P.sz⟩
 refine vw (G:=λus=>∃ns,IntsAre us ns/\ns.Perm ds) (O:=Aoy) (key:=xf) (κ:=oneType') (I.ok.hd hc) (λA' hh E' Q' hq=>yi S hh λh' tk dr vs ns kp hge hi hpm=>hq h' tk dr vs kp hge ⟨ns,hi,hpm⟩) ?_ (λus ⟨ns,hi,_⟩ h2 A' s' _=>Aai h2 hi) λD h' tk dr vs us e ⟨ns,hi,hpm⟩ a1 a2 kp hge he=>?_
 ·
  rintro us ⟨ns,hi,hpm⟩
  rw[hi.length,hpm.length_eq]
  exact hds.2
 obtain⟨j1,j2⟩:=Ada hi a1
 have j3:=j2.trans hpm
 refine⟨.ref D,_,(I.drew dr).laid (t':=tk) (o:=.lst ((us.map xf).map V.int)) kp hge ?_,rfl,q _ _ (I.hok.fresh hge) j3 ?_⟩
 · exact⟨by rw[Aqv,j3.length_eq];exact hds.2,us,e,gm j1,he⟩
 ·
  have nd:(us.map xf).Nodup:=j3.nodup_iff.mpr hds.1
  have le:(us.map xf).Pairwise (·<=·):=by
   rw[At6]
   refine a2.imp λ{x y}z=>?_
   have z':decide (xf y<xf x)=false:=z
   have:=of_decide_eq_false z'
   lia
  exact(le.and nd).imp λ{a b}h=>by have:=h.1;have:=h.2;lia
theorem Ac6 {l:Addr}{items:Array Value}{ns:List Int}{Q:Value->Shared->Prop}(hh:A.handled=none)(hl:IsTup s.heap l items)(hi:IntsAre items.toList ns)(hb:ns.length<scanBound)
  (h:∀h' tk,SetI prog w s.heap.objs.size (ns.foldl ins []) h'->(∀b o,s.heap.get? b=some o->h'.get? b=some o)->Q (.ref s.heap.objs.size) {s with heap:=h',toks:=tk}):
  wpAny (model prog w) A (call (.type "set") [.ref l]) Q E s:=by
 obtain⟨c,tl,hmro⟩:=F.called_set.mro
 have m1:=F.called_set.made
 have m2:=F.called_set.sub
 have m3:=F.called_set.notType
 have m4:=F.called_set.canCreate
 have m5:=F.typeCall_set_1 (.ref l)
 refine Ave (Auu ?_)
 show wpAny _ _ (callAny (.type "set") _) _ _ _
 refine Aqt ⟨At7 _ dkk,Asg Avt ?_⟩
 rw[Avr (Au2 "set" [.ref l] []) rfl]
 repeat (any_goals (first|assumption|wp_step))
 refine As7 (Acz (.ref l) (E:=E) (Q₁:=λv s1=>v=.ref s.heap.objs.size/\s1={s with heap:=s.heap.push (Cc #[] 0 (.fresh 0 0 (mj w)))}) ⟨rfl,rfl⟩) λr s1 hr=>?_
 rcases r with e|f
 · exact hr
 cases f with
 |
  ret v=>
  obtain⟨rfl,rfl⟩:=hr
  have hS:(s.heap.push (Cc #[] 0 (.fresh 0 0 (mj w)))).get? s.heap.objs.size=some (Cc #[] 0 (.fresh 0 0 (mj w))):=Aq1 _ rfl
  have hT:Shared.TypeIs {s with heap:=s.heap.push (Cc #[] 0 (.fresh 0 0 (mj w)))} (.ref s.heap.objs.size) "set":=⟨_,hS,rfl⟩
  have i1:=F.called_set.init.lookup
  have i2:=F.called_set.init.bind (.ref s.heap.objs.size)
  repeat (any_goals (first|assumption|wp_step))
  refine As7 (Auf (R:=wants (λr s2=>r=.none/\∃h' tk,s2={s with heap:=h',toks:=tk}/\SetI prog w s.heap.objs.size (ns.foldl ins []) h'/\∀b o,s.heap.get? b=some o->h'.get? b=some o) E) F.called_set.init.plain F.entry_set_init (check_set_init_1 hT ?_)) λr2 s2 h2=>?_
  ·
   obtain⟨ol,e1,e2,k,e3⟩:=hl
   obtain⟨oc,od,oda,osl⟩:=ol
   simp only at e2 e3
   subst e2;subst e3
   have e1':=Aqr (Cc #[] 0 (.fresh 0 0 (mj w))) e1
   have j1:=F.sub_tuple_set
   have j2:=F.sub_tuple_frozenset
   have j3:(Value.type "tuple"==Value.type "dict")=false:=by decide
   have hl1:IsTup (s.heap.push (Cc #[] 0 (.fresh 0 0 (mj w)))) l items:=⟨_,e1',rfl,k,rfl⟩
   unfold Cc at*
   unfold Builtin.«set.__init__» noKeywords Builtin.Frozenset.updateFrom
   generalize hPI:pyIter=PI
   wp_walk
   subst hPI
   refine Avq hl1 (Aqq (Awk ?_))
   have hlS:l<s.heap.objs.size:=Aqy e1
   have hn:items.size=ns.length:=by rw[←IntsAre.length hi,Aqx]
   refine r6 (G:=_) ((Walks.tuple (by simp[hh]) _ l (by rw[Ar6];exact Arc (Asw hlS)) items).toS) s.heap.objs.size (by rw[Ar6];simp only[Ara,Ata,Awa,not_or];exact⟨Arc (Asj _),Asl hlS⟩) ns 0 [] _ (by rw[hn];lia) (λj x hj v hv=>?_) (by simpa using hb) ⟨⟨_,Aq1 _ rfl,rfl,rfl⟩,hl1.push _⟩ ⟨#[],0,_,Aqr _ hS,SetP.fresh⟩ λs' m S'=>?_
   ·
    obtain⟨t,e⟩:=IntsAre.int_at hi j v (by rw[Arv];have:=hv;rw[Au7] at this;exact this)
    refine⟨t,?_⟩
    rw[e,List.getD_eq_getElem?_getD,hj]
    rfl
   ·
    obtain⟨h',g',d',tk',os'⟩:=s'
    have q1:g'=s.gens:=m.gens
    have q2:d'=s.drawn:=m.drawn
    have q3:os'=s.os:=m.os
    subst q1;subst q2;subst q3
    show wpAny _ _ _ _ _ _
    refine Aqt ?_
    show wpAny _ _ (ret Value.none) _ _ _
    refine Aqt ⟨rfl,h',tk',rfl,S',λb o e=>?_⟩
    have hb0:=Aqy e
    refine m.heap b o ?_ (Aqr _ (Aqr _ e))
    rw[Ar6]
    simp only[Ara,Ata,Awa,not_or]
    exact⟨Arc hb0,Arc (Asw hb0)⟩
  ·
   rcases r2 with e|f2
   · exact h2
   cases f2 with
   |
    ret r=>
    obtain⟨rfl,h',tk,rfl,S',kp⟩:=h2
    repeat (any_goals (first|assumption|wp_step))
    exact h _ _ S' kp
   | _=>exact h2.elim
 | _=>exact hr.elim
def Acl (hc:X.calm=true):Lc X (.type "set") (λxs H Q=>∃(p:Addr)(ns:List Int),xs=[.ref p]/\H p=some (.tup (ns.map V.int))/\ns.length<4096/\
  ∀(D:Addr)(ds:List Int),H D=none->(∀x,x∈ds↔x∈ns)->ds.Nodup->Q (.ref D) (upd H D (.ext (SetI X.prog X.w D ds)))):=by
 intro pins s σ H xs us Q I r h
 obtain⟨p,ns,rfl,hp,hz,q⟩:=h
 obtain⟨u,rfl,ru⟩:=vals1 r
 cases ru
 obtain⟨its,rv,pl,hl⟩:=I.tuple (Awq (K:=X.K) hp)
 have hi:=intsAre_of rv
 refine Ac6 (I.ok.hd hc) pl hi hz λh' tk S kp=>?_
 have hD:H s.heap.objs.size=none:=I.hok.fresh (Aq0 _)
 have nd:(ns.foldl ins []).Nodup:=by obtain⟨_,_,_,_,P⟩:=S;exact P.nd
 refine⟨.ref s.heap.objs.size,_,I.laid (t':=tk) (o:=.ext (SetI X.prog X.w s.heap.objs.size (ns.foldl ins []))) kp (Aq0 _) ?_,rfl,q _ _ hD (λx=>by rw[jm];simp) nd⟩
 refine⟨S,?_,λh1 h2 a b=>a.at' b⟩
 obtain⟨es,ep,t,ho,_⟩:=S
 exact⟨_,ho⟩
end L2
namespace L2
open PySem
theorem exS (h:us.length=n+1):∃a l,us=a::l/\l.length=n:=by
 cases us with
 | nil=>cases h
 | cons a l=>exact⟨a,l,rfl,Nat.succ.inj h⟩
def ex1 (h:us.length=1):∃a,us=[a]:=by
 obtain⟨a,l,rfl,k⟩:=exS h
 obtain rfl:=Atu k
 exact⟨a,rfl⟩
def ex2 (h:us.length=2):∃a b,us=[a,b]:=by
 obtain⟨a,l,rfl,k⟩:=exS h
 obtain⟨b,rfl⟩:=ex1 k
 exact⟨a,b,rfl⟩
def ex3 (h:us.length=3):∃a b c,us=[a,b,c]:=by
 obtain⟨a,l,rfl,k⟩:=exS h
 obtain⟨b,c,rfl⟩:=ex2 k
 exact⟨a,b,c,rfl⟩
def ex4 (h:us.length=4):∃a b c d,us=[a,b,c,d]:=by
 obtain⟨a,l,rfl,k⟩:=exS h
 obtain⟨b,c,d,rfl⟩:=ex3 k
 exact⟨a,b,c,d,rfl⟩
def ex5 (h:us.length=5):∃a b c d e,us=[a,b,c,d,e]:=by
 obtain⟨a,l,rfl,k⟩:=exS h
 obtain⟨b,c,d,e,rfl⟩:=ex4 k
 exact⟨a,b,c,d,e,rfl⟩
end L2
namespace L2
open PySem PySem.W PyProof.Rows
variable {X:Cx}
end L2
namespace L2
open PySem PySem.Spec PyProof.Rows PySem.SeqAt
variable {X:Cx}
variable {w:World}
end L2
namespace L2
open PySem PySem.Spec PyProof.Rows
def fw (c:Addr)(v:V):HO:=.ext λh=>∃o u,h.get? c=some o/\o.data=.cell (some u)/\RelV v u
def cf (c:Addr)(q:Str):HO:=.ext λh=>∃o vs t,h.get? c=some o/\o.data=.fields vs/\vs[1]?=some (.str q t)
def Aau (f:Addr)(ps:Arguments)(b:Expr)(sc:Scope)(cl:List (Str×Addr))(q:Str)(cd:Addr):HO:=
 .ext λh=>∃pm ctv,h.get? f=some (W.kla_obj "<lambda>" q ps b sc cl pm cd ctv)
def Afj (e:h.IsCell c (some u))(r:RelV v u):ObjOk P w H h c (fw c v):=by
 obtain⟨o,e1,e2⟩:=e
 refine⟨⟨o,u,e1,e2,r⟩,⟨o,e1⟩,?_⟩
 rintro h1 h2 ⟨o',u',q1,q2,q3⟩ k
 exact⟨o',u',k _ q1,q2,q3⟩
def Agg (e:h.CodeRec (.ref c) q):ObjOk P w H h c (cf c q):=by
 obtain⟨c',o,vs,t,e0,e1,e2,e3⟩:=e
 cases e0
 refine⟨⟨o,vs,t,e1,e2,e3⟩,⟨o,e1⟩,?_⟩
 rintro h1 h2 ⟨o',vs',t',q1,q2,q3⟩ k
 exact⟨o',vs',t',k _ q1,q2,q3⟩
def Ac2
  (e:h.get? f=some (W.kla_obj "<lambda>" q ps b sc cl pm cd ctv)):ObjOk P w H h f (Aau f ps b sc cl q cd):=by
 refine⟨⟨pm,ctv,e⟩,⟨_,e⟩,?_⟩
 rintro h1 h2 ⟨pm',ctv',q1⟩ k
 exact⟨pm',ctv',k _ q1⟩
structure MkL (mg:Str->Option Value)(base:Heap)(c P:Addr):Prop where
 hd:W.CodeHd base c P
 bm:base.BuiltinsAt mg P
def LTab (H:Hp)(P:Addr)(pos:Pos)(q:Str):Prop:=
 H P=some (.tbl #[])∨∃cd,H P=some (.tbl #[rawInt pos.line,rawInt pos.col,.ref cd])/\H cd=some (cf cd q)
def Adu (hp:H p=some (.tbl ps))(ok:HOk P w H h)(k:∀b o,b≠p->h.get? b=some o->h'.get? b=some o)(s:∀b u,b≠p->H b=some u->H' b=some u)
  {b:Addr} {u:HO} (hb:b≠p) (e:H b=some u):ObjOk P w H' h' b u:=by
 have own:∀b' x,H b'=some (.own x)->b'≠p:=λb' x z q=>by rw[q,hp] at z;cases z
 have tup:∀b' x,H b'=some (.tup x)->b'≠p:=λb' x z q=>by rw[q,hp] at z;cases z
 exact(ok b u e).stay (λb' u' z q=>k b' u' (z.elim (λz=>z▸hb) (own _ _)) q) (λb' z=>s _ _ (own _ _ z) z) λb' xs z=>s _ _ (tup _ _ z) z
variable {X:Cx}
def Aqg (X:Cx)(P:Addr)(ps:Arguments)(b:Expr)(sc:Scope)(pos:Pos)(cl:List (Str×Addr)):TE:=λ_ H Q=>LTab H P pos (X.env.qual++"<lambda>")/\
 (H P=some (.tbl #[])->∀f cd,H f=none->H cd=none->f≠cd->Q (.ref f) (upd (upd (upd H P (.tbl #[rawInt pos.line,rawInt pos.col,.ref cd])) cd (cf cd (X.env.qual++"<lambda>"))) f (Aau f ps b sc cl (X.env.qual++"<lambda>") cd)))/\
 (∀cd,H P=some (.tbl #[rawInt pos.line,rawInt pos.col,.ref cd])->∀f,H f=none->Q (.ref f) (upd H f (Aau f ps b sc cl (X.env.qual++"<lambda>") cd)))
def Alv (M:MkL X.mg X.base c P)(hcode:X.env.code=.ref c)(hdef:defaultsOf ps X.env=([],[]):=by rfl)(hcl:closureFor sc X.env=pure cl:=by rfl):PE X (.Lambda ps b sc pos) (Aqg X P ps b sc pos cl):=by
 intro pins s σ H Q I ⟨ht,hq1,hq2⟩
 have hg:s.heap.Ns mainGlobals X.mg:=I.mod.glob.keeps I.bk
 have hC:W.CodeHd s.heap c P:=M.hd.keeps I.bk
 have hB:s.heap.BuiltinsAt X.mg P:=by
  obtain⟨bm,o,h1,h2,h3,h4,h5,h6⟩:=M.bm
  exact⟨bm,o,h1,h2,h3,h4,I.bk _ _ h5,h6⟩
 have tabs:∀{a:Array Value},H P=some (.tbl a)->s.heap.get? P=some (W.tabObj a):=λe=>(show ObjOk X.prog X.w H s.heap P (.tbl _) from I.hok P _ e)
 refine W.kla_eval hdef ?_
 rcases ht with e|⟨cd,e,ecd⟩
 ·
  have hgP:mainGlobals≠P:=λz=>by
   have:=(I.bs mainGlobals)
   obtain⟨o,es,ep,e1,_⟩:=I.mod.glob
   have:=(I.bs _ _ e1).2
   rw[z,e] at this
   cases this
  refine W.kla_makeFunction (mg:=X.mg) hcl I.ok.glob hg hcode hC (tabs e) trivial rfl hgP hB λc' ctv h' tk hx hge hlt hrec htb=>?_
  have hsz:s.heap.objs.size<=h'.objs.size:=Aq3 hge (Atl hlt)
  have nf:H h'.objs.size=none:=I.hok.fresh hsz
  have nc:H c'=none:=I.hok.fresh hge
  have ne:h'.objs.size≠c':=Asl hlt
  have hPf:P≠h'.objs.size:=Ap e nf
  have hPc:P≠c':=Ap e nc
  have kp:∀b' o,b'≠P->s.heap.get? b'=some o->(h'.push (W.kla_obj "<lambda>" (X.env.qual++"<lambda>") ps b sc cl ((X.mg "__name__").getD .none) c' ctv)).get? b'=some o:=λb' o hb z=>Aqr _ (hx b' o hb z)
  have st:∀b' u,b'≠P->H b'=some u->(upd (upd (upd H P (.tbl #[rawInt pos.line,rawInt pos.col,.ref c'])) c' (cf c' (X.env.qual++"<lambda>"))) h'.objs.size (Aau h'.objs.size ps b sc cl (X.env.qual++"<lambda>") c')) b'=some u:=λb' u hb z=>by
   rw[An (Ap z nf),An (Ap z nc),An hb];exact z
  have stP:(upd (upd (upd H P (.tbl #[rawInt pos.line,rawInt pos.col,.ref c'])) c' (cf c' (X.env.qual++"<lambda>"))) h'.objs.size (Aau h'.objs.size ps b sc cl (X.env.qual++"<lambda>") c')) P=some (.tbl #[rawInt pos.line,rawInt pos.col,.ref c']):=by
   rw[An hPf,An hPc,Ae]
  have nP:∀b' o,s.heap.get? b'=some o->H b'=none->b'≠P:=λb' o _ n z=>by rw[z,e] at n;cases n
  refine⟨.ref h'.objs.size,_,I.un (t':=tk) (h':=h'.push (W.kla_obj "<lambda>" (X.env.qual++"<lambda>") ps b sc cl ((X.mg "__name__").getD .none) c' ctv)) ?_ ?_,rfl,hq1 e _ c' nf nc ne⟩
  ·
   refine⟨λb' o z n _ _=>kp b' o (nP b' o z n) z,λb' o z n _ _=>⟨o.slots,kp b' o (nP b' o z n) z⟩,λb' o z n _=>?_,λb' o z _=>?_,λb' xs z=>st b' _ (λq=>by rw[q,e] at z;cases z) z,λb' o u z=>st b' _ (λq=>by rw[q,e] at z;cases z) z,λb' a z=>?_⟩
   ·
    have l:=Aqy z
    rw[An (Arc (Arq l hsz)),An (Arc (Arq l hge)),An (nP b' o z n)]
    exact n
   ·
    by_cases hb:b'=P
    · subst hb;exact⟨_,Aqr _ htb⟩
    · exact⟨o,kp b' o hb z⟩
   ·
    by_cases hb:b'=P
    ·
     subst hb
     rw[e] at z
     cases z
     exact⟨#[rawInt pos.line,rawInt pos.col,.ref c'],by rw[stP,Array.empty_append]⟩
    · exact⟨#[],by rw[st b' _ hb z];simp⟩
  ·
   intro b' u z
   by_cases h1:b'=h'.objs.size
   ·
    subst h1
    rw[Ae] at z
    cases z
    exact Ac2 (Aq1 _ rfl)
   ·
    rw[An h1] at z
    by_cases h2:b'=c'
    ·
     subst h2
     rw[Ae] at z
     cases z
     obtain⟨c2,o,vs,t,e0,e1,e2⟩:=hrec
     cases e0
     exact Agg ⟨_,o,vs,t,rfl,Aqr _ e1,e2⟩
    ·
     rw[An h2] at z
     by_cases h3:b'=P
     ·
      subst h3
      rw[Ae] at z
      cases z
      have htb':=Aqr (W.kla_obj "<lambda>" (X.env.qual++"<lambda>") ps b sc cl ((X.mg "__name__").getD .none) c' ctv) htb
      rw[Array.empty_append] at htb'
      exact htb'
     ·
      rw[An h3] at z
      exact Adu e I.hok kp st h3 z
 ·
  refine W.kla_makeFunctionHit (mg:=X.mg) (cv:=.ref cd) hcl I.ok.glob hg hcode hC (tabs e) trivial ?_ hB λctv h' tk hk hsz=>?_
  ·
   show codeAmong pos [rawInt pos.line,rawInt pos.col,.ref cd]=some (.ref cd)
   unfold codeAmong rawInt
   dsimp only
   simp
  have nf:H h'.objs.size=none:=I.hok.fresh hsz
  refine⟨.ref h'.objs.size,_,I.laid (t':=tk) (h':=h'.push (W.kla_obj "<lambda>" (X.env.qual++"<lambda>") ps b sc cl ((X.mg "__name__").getD .none) cd ctv)) (λb' o z=>Aqr _ (hk b' o z)) hsz (Ac2 (Aq1 _ rfl)),rfl,hq2 cd e _ nf⟩
def HOk.track (ok:HOk P w H h)(n:H c=none)(new:ObjOk P w (upd H c o) h c o):HOk P w (upd H c o) h:=λb u e=>by
 by_cases hb:b=c
 · subst hb;rw[Ae] at e;cases e;exact new
 ·
  rw[An hb] at e
  exact(ok b u e).stay (λ_ _ _ q=>q) (λb' z=>by rw[An (Ap z n)];exact z) λb' xs z=>by rw[An (Ap z n)];exact z
def Un.track (u:Un fs ex H H1 h h1)(hc:h.objs.size<=c)(n:H1 c=none):Un fs ex H (upd H1 c o) h h1:=
 ⟨u.keep,u.slot,λb ob q z hx=>by rw[An (Arc (Arq (Aqy q) hc))];exact u.free b ob q z hx,u.there,
  λb xs z=>by rw[An (Ap (u.tups b xs z) n)];exact u.tups b xs z,λb ob x z=>by rw[An (Ap (u.frzs b ob x z) n)];exact u.frzs b ob x z,
  λb ps z=>by obtain⟨m,e⟩:=u.tbls b ps z;exact⟨m,by rw[An (Ap e n)];exact e⟩⟩
def T1:List (Nat×Str×Addr×V)->Hp->Hp
 | [],H=>H
 | p::L,H=>upd (T1 L H) p.2.2.1 (fw p.2.2.1 p.2.2.2)
theorem oi:∀{L:List (Nat×Str×Addr×V)},b∉L.map (λp=>p.2.2.1)->T1 L H b=H b
 | [],_=>rfl
 |
  p::L,h=>by
  rw[Ar1,Ara,not_or] at h
  show upd (T1 L H) p.2.2.1 _ b=H b
  rw[An h.1]
  exact oi h.2
def RC (N:List Str)(sc:Scope)(n:Nat)(Q:VK):St->VK:=λσ v H=>∃L:List (Nat×Str×Addr×V),
 (∀p∈L,N[p.1]?=some p.2.1/\σ[p.1]?=some (some p.2.2.2)/\(cellsFrom n sc.names []).lookup p.2.1=some p.2.2.1/\sc.names.lookup p.2.1=some .cell)/\(L.map (λp=>p.2.2.1)).Nodup/\((∀p∈L,H p.2.2.1=none)->Q v (T1 L H))
def Zo (K:W.Frag)(f:Addr):Option Addr:=match K.lookup f with
 |
  some ⟨_,_,.func fd,_⟩=>(match fd.code with
  | .ref c=>some c
  | _=>none)
 | _=>none
variable {w:World}
theorem vf (J:Inv X pins σ H s)(hf:∀x,X.fn x=true)(un:Un fs [] X.H₀ H X.s₀.heap s.heap):∀L:List (Nat×Str×Addr×V),
  (∀p∈L,X.N[p.1]?=some p.2.1/\σ[p.1]?=some (some p.2.2.2)/\X.env.cells.lookup p.2.1=some p.2.2.1/\X.env.scope.names.lookup p.2.1=some .cell)->(L.map (λp=>p.2.2.1)).Nodup->
  Un fs [] X.H₀ (T1 L H) X.s₀.heap s.heap/\HOk X.prog X.w (T1 L H) s.heap
 | [],_,_=>⟨un,J.hok⟩
 |
  p::L,h,nd=>by
  rw[Ar1,List.nodup_cons] at nd
  obtain⟨u1,k1⟩:=vf J hf un L (λq hq=>h q (Ard _ hq)) nd.2
  obtain⟨a1,a2,a3,a4⟩:=h p (Arn ..)
  have n0:T1 L H p.2.2.1=none:=by rw[oi nd.1];exact J.freeC _ _ a3
  obtain⟨m,_,hl⟩:=J.loc
  obtain⟨u,rv,lk⟩:=hl _ _ _ a1 a2 (.inr (.inl a4))
  have hc:s.heap.IsCell p.2.2.1 (some u):=by
   rcases lk with⟨z,_⟩|⟨_,c,e,z⟩
   ·
    have z':X.env.scope.names.lookup p.2.1=some .local:=z
    rw[a4] at z';cases z'
   · rw[a3] at e;cases e;exact z
  exact⟨u1.track (J.ok.cab _ _ (hf _) a3) n0,k1.track n0 (Afj hc rv)⟩
theorem Ak8 {P:Program}{K:W.Frag}{mg:Str->Option Value}{base:Heap}{cm:Bool}{k:Nat}{f cc:Addr}{name qual:Str}{params:Arguments}{body:List Stmt}{scope:Scope}{dV kV doc pm cdv ct oc:Value}{an od:Option Addr}
  {osl:Array (Option Value)} {N ps:List Str} {sp:Sp} (lk:K.lookup f=some ⟨oc,od,.func (W.fnOf name qual params body scope dV kV doc pm an cdv ct),osl⟩) (hcd:W.codeIn K cdv qual=true) (S:Au N ps scope) (hcc:Zo K f=some cc)
  (len:∀vs H Q E,sp vs H Q E->vs.length=ps.length)
  (hbody:∀(A:Around)(outer:List Env)(s:Shared)(H:Hp)(vs:List V)(Q:VK)(E:XK),Room cm k (A.deeper (envOfC qual scope s.heap.objs.size f (.ref cc)))->sp vs H Q E->
   ∃t,PSs (zz CX0 cm P w K mg base N qual scope f (.ref cc) A outer s H E) body t/\t {nx:=λ_ H'=>Q .non H',rt:=RC N scope (s.heap.objs.size+1) Q} (start N vs) H):
  FnOk P w K mg base CX0 cm (k+1) f (W.fnOf name qual params body scope dV kV doc pm an cdv ct) ps sp:=by
 have ecd:cdv=.ref cc:=by
  unfold Zo at hcc
  rw[lk] at hcc
  dsimp only[W.fnOf] at hcc
  cases cdv<;>first|(cases hcc;rfl)|(cases hcc)
 subst ecd
 refine⟨len,λA outer s H args us vs Q E hr e0 hb r hsp=>?_⟩
 have hl:=len _ _ _ _ hsp
 have KX:K.In s.heap:=e0.mod.kin.keeps λb o e=>(e0.bs b o e).1
 have lim:s.heap.NoLimit:=e0.mod.nolimit.keeps λb o e=>(e0.bs b o e).1
 have hkind:∀y∈ps.zip us,scope.names.lookup y.1=some .local∨(scope.names.lookup y.1=some .cell/\((cellsFrom (s.heap.objs.size+1) scope.names []).lookup y.1).isSome=true):=λ⟨n,v⟩ hy=>by
  rcases S.par n (Auh hy).1 with q|q
  · exact .inl q
  · exact .inr ⟨q,W.cellsFrom_some _ _ _ (.inl q)⟩
 refine codeAny_call_function hr.depth (KX _ _ lk) rfl S.co S.gen rfl (W.codeRec_of KX hcd) (hb _ _ _ _ ?_)
 refine wpAny_newFunctionEnv_cells S.kind hkind λenv he s1 x=>?_
 subst he
 refine⟨lim.keeps x.toInCall.keep,codeAny_func ?_⟩
 obtain⟨t,ht,hq⟩:=hbody A outer s H vs Q E (hr.deeper _) hsp
 have I:Inv (zz CX0 cm P w K mg base N qual scope f (.ref cc) A outer s H E) [] (start N vs) H s1:=tj S hr.hd e0 hl r x
 refine Asp (ht [] s1 (start N vs) H _ I hq) (λfl s' hs=>?_) λe s' hs=>hs
 cases fl with
 |
  ret u=>
  obtain⟨v,σ',H',J,rv,L,h1,h2,q⟩:=hs
  obtain⟨u1,k1⟩:=vf J (λ_=>rfl) J.base L (λp hp=>h1 p hp) h2
  exact⟨v,_,J.os,J.bare,u1,k1,rv,q λp hp=>J.freeC _ _ (h1 p hp).2.2.1⟩
 |
  next=>
  obtain⟨σ',H',J,q⟩:=hs
  exact⟨.non,H',J.os,J.bare,J.base,J.hok,rfl,q⟩
 |
  brk=>
  obtain⟨_,_,_,q⟩:=hs
  exact False.elim q
 |
  cont=>
  obtain⟨_,_,_,q⟩:=hs
  exact False.elim q
def Fun.okC {P:Program}{K:W.Frag}{mg:Str->Option Value}{base:Heap}{cm:Bool}{x qual:Str}{st:Stmt}{f cc:Addr}{fd:FuncData}{N ps:List Str}{k:Nat}{sp:Sp}(F:Fun K x qual st f fd)(S:Au N ps (Ah st))(hcc:Zo K f=some cc)(len:∀vs H Q E,sp vs H Q E->vs.length=ps.length)
  (hbody:∀(A:Around)(outer:List Env)(s:Shared)(H:Hp)(vs:List V)(Q:VK)(E:XK),Room cm k (A.deeper (envOfC qual (Ah st) s.heap.objs.size f (.ref cc)))->sp vs H Q E->
   ∃t,PSs (zz CX0 cm P w K mg base N qual (Ah st) f (.ref cc) A outer s H E).nox (Ay st) t/\t {nx:=λ_ H'=>Q .non H',rt:=RC N (Ah st) (s.heap.objs.size+1) Q} (start N vs) H):FnOk P w K mg base CX0 cm (k+1) f fd ps sp:=by
 obtain⟨oc,od,kV,doc,pm,an,cdv,ct,osl,rfl,lk,hcd⟩:=F.ex
 refine Ak8 lk hcd S hcc len λA outer s H vs Q E hr hsp=>?_
 obtain⟨t,h,q⟩:=hbody A outer s H vs Q E hr hsp
 exact⟨t,h.nox,q⟩
def Ag2 (cm:Bool)(P:Program)(w:World)(K:W.Frag)(mg:Str->Option Value)(base:Heap)(N:List Str)(qual:Str)(scope:Scope)(f cd:Addr)(cl:List (Str×Addr))(A:Around)(outer:List Env)(s:Shared)(H:Hp):Cx where
 prog:=P
 w:=w
 K:=K
 mg:=mg
 base:=base
 A:=A.deeper (W.envX qual scope s.heap.objs.size f (.ref cd) cl)
 N:=N
 s₀:=s
 H₀:=H
 env:=W.envX qual scope s.heap.objs.size f (.ref cd) cl
 outer:=outer
 stack:=W.envX qual scope s.heap.objs.size f (.ref cd) cl::outer
 ex:=[]
 calm:=cm
 fn:=λ_=>false
 pn:=[]
 xe:=λ_ _=>False
def V1 (cl:List (Str×Addr))(H:Hp):Hp:=λb=>if b∈cl.map (·.2) then none else H b
def Pt (h:H b=none):V1 cl H b=none:=by unfold V1;split<;>first|rfl|exact h
def qp (h:b∈cl.map (·.2)):V1 cl H b=none:=if_pos h
def Tn (h:b∉cl.map (·.2)):V1 cl H b=H b:=if_neg h
def Zh (h:V1 cl H b=some u):b∉cl.map (·.2)/\H b=some u:=by
 by_cases hb:b∈cl.map (·.2)
 · rw[qp hb] at h;cases h
 · rw[Tn hb] at h;exact⟨hb,h⟩
structure qt (x:Str)(fr:List Str)(sc:Scope):Prop where
 kind:sc.kind=.function
 co:sc.isCoroutine=false
 gen:sc.isGenerator=false
 loc:sc.names.lookup x=some .local
 nd:(x::fr).Nodup
 free:∀y∈fr,sc.names.lookup y=some .free
 noc:∀y∈sc.names,y.2≠ .cell
 all:∀y∈sc.names,y.2=.free->y.1∈fr
structure LamIs (H:Hp)(f:Addr)(ps:Arguments)(b:Expr)(sc:Scope)(q:Str)(fr:List Str)(zs:List V)(cl:List (Str×Addr))(cd:Addr):Prop where
 at_:H f=some (Aau f ps b sc cl q cd)
 code:H cd=some (cf cd q)
 nd:(cl.map (·.2)).Nodup
 len:zs.length=fr.length
 has:∀(i:Nat)(x:Str)(z:V),fr[i]?=some x->zs[i]?=some z->∃c,cl.lookup x=some c/\H c=some (fw c z)
 all:∀p∈cl,∃z,H p.2=some (fw p.2 z)
def Ajh {P:Program}{K:W.Frag}{mg:Str->Option Value}{base:Heap}{cm:Bool}{k:Nat}{A:Around}{outer:List Env}{s:Shared}{H:Hp}{f cd:Addr}{u:Value}{y:V}{zs:List V}{Q:VK}{E:XK}{ps:Arguments}{b:Expr}{sc:Scope}{q:Str}{x:Str}{fr:List Str}{cl:List (Str×Addr)}{t:TE}
  (S:qt x fr sc) (L:LamIs H f ps b sc q fr zs cl cd) (hbind:∀pm ctv,bindArgs (W.kla_fn "<lambda>" q ps b sc cl pm (.ref cd) ctv) ⟨[u],[]⟩=pure [(x,u)]) (hr:Room cm k A) (e0:Env0 P w K mg base A outer s H) (ry:RelV y u)
  (hb:PE (Ag2 cm P w K mg base (x::fr) q sc f cd cl A outer s (V1 cl H)) b t) (hq:t (some y::zs.map some) (V1 cl H) λv H1=>H1=V1 cl H/\Q v H):
  codeAny (model P w) A (.call (.ref f) ⟨[u],[]⟩) (CR CX0 outer P w H s Q E) s:=by
 obtain⟨⟨pm,ctv,ho⟩,_,_⟩:=(show ObjOk P w H s.heap f (Aau f ps b sc cl q cd) from e0.hok f _ L.at_)
 obtain⟨⟨oc,vs,tk,c1,c2,c3⟩,_,_⟩:=(show ObjOk P w H s.heap cd (cf cd q) from e0.hok cd _ L.code)
 have lim:s.heap.NoLimit:=e0.mod.nolimit.keeps λb o e=>(e0.bs b o e).1
 have hcell:∀c,c∈cl.map (·.2)->∃z,H c=some (fw c z):=λc hc=>by
  obtain⟨p,hp,rfl⟩:=Arz.mp hc
  exact L.all p hp
 have notC:∀{b':Addr}{o:HO},H b'=some o->(∀z,o≠fw b' z)->b'∉cl.map (·.2):=λe n hc=>by
  obtain⟨z,e2⟩:=hcell _ hc
  rw[e] at e2
  exact n z (Arl e2)
 refine W.kla_callFunE hr.depth ho rfl S.co S.gen rfl ⟨cd,oc,vs,tk,rfl,c1,c2,c3⟩ ?_
 rw[hbind]
 refine Aqt (Awf S.noc (λz hz=>by rw[Arm] at hz;subst hz;exact S.loc) (λh₁ hns hsb=>⟨lim.fresh _ hsb,?_⟩) S.kind)
 have hk₁:∀b o,s.heap.get? b=some o->h₁.get? b=some o:=λb o e=>hsb.extBut b o (Arc (Aqy e)) (Aqr _ e)
 have I:Inv (Ag2 cm P w K mg base (x::fr) q sc f cd cl A outer s (V1 cl H)) [] (some y::zs.map some) (V1 cl H) {s with heap:=h₁,toks:=s.toks+1}:=by
  have noA:∀b:Addr,b∉(Ag2 cm P w K mg base (x::fr) q sc f cd cl A outer s (V1 cl H)).ex:=λb z=>absurd (show b∈([]:List Addr) from z) dks
  refine⟨⟨e0.mod,S.kind,rfl,rfl,Aq0 _,λy' z c h1 h2=>?_,λy' hy=>?_,λy' c h=>(by cases h),hr.hd,Around.frames_deeper e0.frames,.inr ⟨rfl,rfl⟩,λb z=>absurd z (noA b),λb o e=>⟨(e0.bs b o e).1,Pt (e0.bs b o e).2⟩,e0.bsz,λb _ _=>noA b,λb z=>absurd z (noA b),e0.funs,λb hb=>Pt (e0.frf b hb)⟩,
   rfl,e0.bare,Un.kept hk₁,⟨_,hns,λi x' v h1 h2 h3=>?_⟩,λy' c h=>?_,Pt (e0.hok.fresh (Aq0 _)),λy' c h=>qp (Arz.mpr ⟨_,Asc h,rfl⟩),λp hp=>absurd (show p∈([]:List (Addr×Obj)) from hp) dks,λb' o e=>?_,?_⟩
  · exact name_of_addr (by have:=L.nd;unfold List.Nodup at this;rw[At6] at this;exact this) (Asc h1) (Asc h2)
  ·
   have hf:sc.names.lookup y'=some .free:=by
    rcases(show sc.names.lookup y'=some .cell∨sc.names.lookup y'=some .free from hy) with h|h
    · exact absurd rfl (S.noc _ (Asc h))
    · exact h
   have hm:y'∈fr:=S.all _ (Asc hf) rfl
   obtain⟨i,hi⟩:=Ar5 hm
   have hi':i<zs.length:=by rw[L.len];exact(Aq5.mp hi).1
   obtain⟨c,hc,_⟩:=L.has i y' _ hi (Aq6 hi')
   exact⟨c,hc⟩
  ·
   cases i with
   |
    zero=>
    cases h1
    cases h2
    exact⟨u,ry,.inl ⟨S.loc,by show List.lookup x [(x,u)]=some u;rw[List.lookup_cons_self]⟩⟩
   |
    succ i=>
    have h1':fr[i]?=some x':=h1
    have h2':zs[i]?=some v:=by
     have h2:(zs.map some)[i]?=some (some v):=h2
     rw[Are] at h2
     cases e:zs[i]? with
     | none=>rw[e] at h2;cases h2
     | some a=>rw[e] at h2;cases h2;rfl
    obtain⟨c,hc,hH⟩:=L.has i x' v h1' h2'
    obtain⟨⟨o,u',a1,a2,a3⟩,_,_⟩:=(show ObjOk P w H s.heap c (fw c v) from e0.hok c _ hH)
    exact⟨u',a3,.inr ⟨.inr (S.free _ (Asf h1')),c,hc,⟨o,hk₁ _ _ a1,a2⟩⟩⟩
  ·
   obtain⟨z,hH⟩:=L.all _ (Asc h)
   obtain⟨⟨o,u',a1,a2,a3⟩,_,_⟩:=(show ObjOk P w H s.heap c (fw c z) from e0.hok c _ hH)
   exact⟨some u',⟨o,hk₁ _ _ a1,a2⟩⟩
  ·
   obtain⟨n1,e1⟩:=Zh e
   refine(e0.hok b' o e1).stay (λb2 u2 _ z=>hk₁ b2 u2 z) (λb2 z=>?_) λb2 xs z=>?_
   · rw[Tn (notC z λz' h=>by unfold fw at h;cases h)];exact z
   · rw[Tn (notC z λz' h=>by unfold fw at h;cases h)];exact z
  ·
   show(zs.map some).length+1=fr.length+1
   rw[Aqv,L.len]
 refine W.kla_codeExpr (Asp (hb [] _ _ _ _ I hq) (λv s' ⟨v1,H1,J,rv,e1,q1⟩=>?_) λ_ _ z=>z.elim)
 subst e1
 have un:=J.base
 have frn:∀{b:Addr}{o:HO},H b=some o->b∉frs outer:=λe hb=>by rw[e0.frf _ hb] at e;cases e
 refine⟨v1,H,J.os,J.bare,⟨λb o h n hf hx=>un.keep b o h (Pt n) hf hx,λb o h n hf hx=>un.slot b o h (Pt n) hf hx,λ_ _ _ n _=>n,λb o h hx=>un.there b o h hx,λ_ _ z=>z,λ_ _ _ z=>z,λb ps z=>⟨#[],by rw[z];simp⟩⟩,λb o e=>?_,rv,q1⟩
 by_cases hb':b∈cl.map (·.2)
 ·
  obtain⟨z,e2⟩:=hcell b hb'
  rw[e] at e2
  cases e2
  obtain⟨o1,o2,o3⟩:=(show ObjOk P w H s.heap b (fw b z) from e0.hok b _ e)
  obtain⟨ob,hob⟩:=o2
  have kb:=un.keep b ob hob (qp hb') (frn e) (λz=>absurd (show b∈([]:List Addr) from z) dks)
  exact⟨o3 _ _ o1 λo' e'=>by rw[hob] at e';cases e';exact kb,⟨ob,kb⟩,o3⟩
 ·
  have e':V1 cl H b=some o:=by rw[Tn hb'];exact e
  exact(J.hok b o e').stay (λ_ _ _ z=>z) (λb2 z=>(Zh z).2) λb2 xs z=>(Zh z).2
theorem Afn {cm:Bool}{X:Cx}{k:Nat}{x y:Str}{p pos:Pos}{e:Expr}{tf:TE}{ta:TA}{ps:Arguments}{b:Expr}{sc:Scope}{q:Str}{fr:List Str}{t:TE}(S:qt x fr sc)
  (hbind:∀(u:Value)cl pm cd ctv,bindArgs (W.kla_fn "<lambda>" q ps b sc cl pm cd ctv) ⟨[u],[]⟩=pure [(x,u)]) (hr:Room cm k X.A)
  (hb:∀f cd cl A outer s H,PE (Ag2 cm X.prog X.w X.K X.mg X.base (x::fr) q sc f cd cl A outer s H) b t)
  (hf:PE X (.Name y p) tf) (ha:PA X [e] ta) (hs:starEach [e] X.env=[(false,eval e X.env)]:=by rfl) (hpl:(backTo pos (starEach [] X.env)).any (·.1)=false:=by rfl):
  PE X (.Call (.Name y p) [e] [] pos) (λσ H Q=>tf σ H λv H1=>∃f zs cl cd,v=.ref f/\LamIs H1 f ps b sc q fr zs cl cd/\ta σ H1 λvs H2=>∃a,vs=[a]/\LamIs H2 f ps b sc q fr zs cl cd/\
   t (some a::zs.map some) (V1 cl H2) λv H3=>H3=V1 cl H2/\Q v H2):=by
 intro pins s σ H Q I h
 refine As2 (thn (hf pins s σ H _ I h) λfv s0 hz=>?_)
 obtain⟨v0,H0,I0,r0,f,zs,cl,cd,e0,L0,q0⟩:=hz
 subst e0
 cases r0
 have fa:∀{H':Hp}{s':Shared},Inv X pins σ H' s'->LamIs H' f ps b sc q fr zs cl cd->W.FnAt f s'.heap:=λJ L=>by
  obtain⟨⟨pm,ctv,ho⟩,_,_⟩:=(show ObjOk X.prog X.w _ _ f (Aau f ps b sc cl q cd) from J.hok f _ L.at_)
  exact⟨_,_,_,_,ho⟩
 refine W.callWith_F (first:=[]) (fa I0 L0) (thn (ha pos pins s0 σ H0 _ I0 q0) λus s1 ⟨vs,H1,I1,r,a,e1,L1,q1⟩=>⟨fa I1 L1,?_⟩) hs hpl
 subst e1
 cases r with
 |
  cons ra rr=>
  cases rr
  refine Ave (As7 (Ajh (Q:=Q) (E:=λ_ _ _=>False) S L1 (λpm ctv=>hbind _ cl pm _ ctv) hr I1.env0 ra (hb f cd cl _ _ _ _) q1) λfl s' hq=>?_)
  match fl,hq with
  | .error ev,hq=>exact hq.elim
  | .ok (.ret u),hq=>exact I1.after hq
  | .ok .next,hq=>exact hq.elim
  | .ok .brk,hq=>exact hq.elim
  | .ok .cont,hq=>exact hq.elim
def Ajd (P:Addr)(H:Hp):Prop:=∀b,H b=none∨b=P∨∃o xs,H b=some (.frz o (.lst xs))
theorem Ad5 {cm:Bool}{P:Program}{w:World}{K:W.Frag}{mg mb:Str->Option Value}{CX:CXT}{k:Nat}{fa a cc pt:Addr}{fd:FuncData}{x:Str}{sp:Sp}{s₁:Shared}{vs:List Value}{ns:List Int}
  (KX:K.In s₁.heap) (hns:s₁.heap.Ns mainGlobals mg) (hb:s₁.heap.Ns builtinsNs mb) (hbb:∀x:Str,x≠"__name__"->mb x=bootBuiltins x) (hlim:s₁.heap.NoLimit) (hg:s₁.gens=#[])
  (hC:W.CodeHd s₁.heap cc pt) (hP:s₁.heap.get? pt=some (W.tabObj #[])) (hbm:∃bm o,mg "__builtins__"=some (.ref bm)/\bm≠builtinsNs/\bm≠mainGlobals/\s₁.heap.get? bm=some o/\o.cls=.type "module"/\o.dict=some builtinsNs/\o.data=.plain)
  (hKP:K.lookup pt=none)
  (ha:s₁.heap.get? a=some {cls:=.type "list",data:=.seq vs.toArray}) (hi:IntsAre vs ns) (hl:ns.length<=sizeLine) (hr:Room cm k callerA)
  (F:∀base:Heap,K.In base->base.Ns mainGlobals mg->MkL mg base cc pt->FnOk P w K mg base CX cm k fa fd [x] sp) (hbind:∀(s:Shared)(u:Value),BindsTo s fd ⟨[u],[]⟩ [(x,u)])
  (hsp:∀H:Hp,Ajd pt H->H pt=some (.tbl #[])->SqL K H a (ns.map V.int)->sp [.ref a] H (λv _=>v=.bl true) λ_ _ _=>False)
  (hCX:∀H e s',CX [] H s₁ (λ_ _ _=>False) e s'->False):
  codeAny (model P w) callerA (.call (.ref fa) ⟨[.ref a],[]⟩) (λr s'=>r=.ok (.ret (.bool true))/\OldK s₁.heap s'.heap/\s'.os=s₁.os/\AllBare s'.gens) s₁:=by
 have rv:=gm hi
 have lenV:=hi.length
 have aP:a≠pt:=λz=>by rw[z,hP] at ha;cases ha
 have core:∀H:Hp,Ajd pt H->H pt=some (.tbl #[])->SqL K H a (ns.map V.int)->HOk P w H s₁.heap->(∀b,H b≠none->b=a∨b=pt)->(H a≠none->K.lookup a=none)->
   codeAny (model P w) callerA (.call (.ref fa) ⟨[.ref a],[]⟩) (λr s'=>r=.ok (.ret (.bool true))/\OldK s₁.heap s'.heap/\s'.os=s₁.os/\AllBare s'.gens) s₁:=by
  intro H hO hT hS hok hA hK
  have base_of:∀{b:Addr}{o:Obj},s₁.heap.get? b=some o->H b=none->(Ae8 s₁.heap H).get? b=some o:=λe n=>Afg e n
  have un0:∀{b:Addr}{o:Obj},s₁.heap.get? b=some o->(∀z1 z2,o.data≠ .seq z1 z2)->(∀z,o.data≠ .fields z)->H b=none:=λ{b o}e d1 d2=>by
   cases q:H b with
   | none=>rfl
   |
    some u=>
    rcases hA b (by rw[q];simp) with e'|e'
    · subst e';rw[ha] at e;cases e;exact absurd rfl (d1 _ _)
    · subst e';rw[hP] at e;cases e;exact absurd rfl (d2 _)
  have noA:∀{b:Addr}{o:Obj}{es:Array DictEntry}{ep:Nat},s₁.heap.get? b=some o->o.data=.dict es ep->H b=none:=λe d=>un0 e (λ_ _ z=>by rw[d] at z;cases z) (λ_ z=>by rw[d] at z;cases z)
  have nsK:∀{b:Addr}{m:Str->Option Value},s₁.heap.Ns b m->(Ae8 s₁.heap H).Ns b m:=λ{b m} ⟨o,es,ep,e,d,r⟩=>⟨o,es,ep,base_of e (noA e d),d,r⟩
  have hKb:K.In (Ae8 s₁.heap H):=λb o e=>base_of (KX b o e) (by
   cases q:H b with
   | none=>rfl
   |
    some u=>
    rcases hA b (by rw[q];simp) with e'|e'
    ·
     subst e'
     rw[hK (by rw[q];simp)] at e;cases e
    ·
     subst e'
     rw[hKP] at e;cases e)
  have hM:Mod K mg (Ae8 s₁.heap H):=⟨hKb,nsK hns,⟨mb,nsK hb,hbb⟩,let ⟨mc,h1,h2⟩:=hlim;⟨mc,nsK h1,h2⟩⟩
  have e0:Env0 P w K mg (Ae8 s₁.heap H) callerA [] s₁ H:=⟨rfl,hM,λb o e=>Ajb e,Nat.le_of_eq (Ae0 _ _),trivial,λb hb=>absurd (show b∈([]:List Addr) from hb) dks,hok,.of_eq hg⟩
  have hL:MkL mg (Ae8 s₁.heap H) cc pt:=by
   constructor
   ·
    obtain⟨o,vs',file,tf,fl,tg,inF,tx,tt,g1,g2,g3,g4⟩:=hC
    refine⟨o,vs',file,tf,fl,tg,inF,tx,tt,base_of g1 ?_,g2,g3,g4⟩
    cases q:H cc with
    | none=>rfl
    |
     some u=>
     rcases hA cc (by rw[q];simp) with e'|e'
     · rw[e',ha] at g1;cases g1;exact absurd g3 dks
     · exact absurd e' g4.2.2.2.2.2.2
   ·
    obtain⟨bm,o,b1,b2,b3,b4,b5,b6,b7⟩:=hbm
    refine⟨bm,o,b1,b2,b3,λz=>?_,base_of b4 (un0 b4 (λ_ _ z=>by rw[b7] at z;cases z) (λ_ z=>by rw[b7] at z;cases z)),b5,b6,b7⟩
    rw[z,hP] at b4
    cases b4
    cases b7
  refine As7 ((F _ hKb (nsK hns) hL).run callerA [] s₁ H ⟨[.ref a],[]⟩ [.ref a] [.ref a] _ _ hr e0 (hbind s₁ (.ref a)) (.cons rfl .nil) (hsp H hO hT hS)) λr s' h=>?_
  cases r with
  | error e=>exact(hCX H e s' h).elim
  |
   ok fl=>
   cases fl with
   | next=>exact False.elim h
   | brk=>exact False.elim h
   | cont=>exact False.elim h
   |
    ret u=>
    obtain⟨v,H',os,bare,un,hok',r',q⟩:=h
    have q':v=.bl true:=q
    subst q'
    obtain rfl:u=Value.bool true:=r'
    have kp:∀b o,b≠pt->s₁.heap.get? b=some o->s'.heap.get? b=some o:=λb o hb e=>by
     cases q:H b with
     | none=>exact un.keep b o e q (by intro z;exact absurd (show b∈([]:List Addr) from z) dks) dks
     |
      some u=>
      rcases hO b with z|z|⟨ob,xs,z⟩
      · rw[q] at z;cases z
      · exact absurd z hb
      ·
       have z2:=un.frzs b ob _ z
       obtain⟨e1,_⟩:=hok b _ z
       obtain⟨e2,_⟩:=hok' b _ z2
       rw[e] at e1;cases e1
       exact e2
    obtain⟨more,em⟩:=un.tbls pt _ hT
    have ep:s'.heap.get? pt=some (W.tabObj (#[]++more)):=(show ObjOk P w H' s'.heap pt (.tbl _) from hok' pt _ em)
    refine⟨rfl,⟨λb o e=>?_,λb o e=>?_⟩,os,bare⟩
    ·
     by_cases hb:b=pt
     ·
      subst hb
      rw[hP] at e
      cases e
      exact .inr (.inl ⟨(hC.tab hP).isCodeTable,rfl,#[],more,rfl,ep⟩)
     · exact .inl (kp b o hb e)
    ·
     by_cases hb:b=pt
     · subst hb;exact⟨_,ep⟩
     · exact⟨o,kp b o hb e⟩
 cases hk:K.lookup a with
 |
  some o=>
  have e:=KX a o hk
  rw[ha] at e
  cases e
  refine core (λb=>if b=pt then some (.tbl #[]) else none) (λb=>?_) (if_pos rfl) (.inr ⟨_,vs.toArray,_,hk,rfl,rfl,rfl,by rw[Aq2,lenV];exact hl,by simpa using rv⟩) (λb u z=>?_) (λb z=>?_) λz=>?_
  ·
   by_cases hb:b=pt
   · exact .inr (.inl hb)
   · exact .inl (if_neg hb)
  ·
   by_cases hb:b=pt
   ·
    have z':=(if_pos hb).symm.trans z
    cases z'
    subst hb
    exact hP
   ·
    have z':=(if_neg hb).symm.trans z
    cases z'
  ·
   by_cases hb:b=pt
   · exact .inr hb
   · exact absurd (if_neg hb) z
  · exact absurd (if_neg aP) z
 |
  none=>
  have pa:pt≠a:=λz=>aP z.symm
  refine core (λb=>if b=a then some (.frz {cls:=.type "list",data:=.seq vs.toArray} (.lst (ns.map V.int))) else if b=pt then some (.tbl #[]) else none) (λb=>?_) ((if_neg pa).trans (if_pos rfl)) (.inl (.inr ⟨{cls:=.type "list",data:=.seq vs.toArray},if_pos rfl⟩)) (λb u z=>?_) (λb z=>?_) λ_=>hk
  ·
   by_cases hb:b=a
   · exact .inr (.inr ⟨_,_,if_pos hb⟩)
   ·
    by_cases hb2:b=pt
    · exact .inr (.inl hb2)
    · exact .inl ((if_neg hb).trans (if_neg hb2))
  ·
   by_cases hb:b=a
   ·
    have z':=(if_pos hb).symm.trans z
    cases z'
    subst hb
    exact⟨ha,by rw[Aqv];exact hl,vs,_,rv,ha⟩
   ·
    by_cases hb2:b=pt
    ·
     have z':=((if_neg hb).trans (if_pos hb2)).symm.trans z
     cases z'
     subst hb2
     exact hP
    ·
     have z':=((if_neg hb).trans (if_neg hb2)).symm.trans z
     cases z'
  ·
   by_cases hb:b=a
   · exact .inl hb
   ·
    by_cases hb2:b=pt
    · exact .inr hb2
    · exact absurd ((if_neg hb).trans (if_neg hb2)) z
def Afm {cm:Bool}{l:W.OpenLaw}{n k:Nat}{q:Program}{loose:List Str}{XP:(Str->Option Value)->Heap->Prop}{YP:World->Heap->Prop}{d:DefRec}{K:Params->W.Frag}{CX:World->CXT}{sp:World->Addr->Sp}{x y:Str}
  (hn:l.most=some n) (hn2:n<=sizeLine) (hdf:d.params.defaults=[]) (hr:Room cm k callerA)
  (hY:∀(w:World)(h:Heap),YP w h->(K w.params).In h) (hrec:((recsOf q).find? (λe=>e.name==y)).isSome=true)
  (F:∀(w:World)(mg:Str->Option Value)(fa:Addr)(h:Heap),(K w.params).In h->h.Ns mainGlobals mg->mg d.name=some (.ref fa)->
   ∃(fd:FuncData)(cc pt:Addr),W.tabIn (K w.params) y=some (cc,pt)/\(K w.params).lookup pt=none/\(∀(s:Shared)(u:Value),BindsTo s fd ⟨[u],[]⟩ [(x,u)])/\
    ∀base:Heap,(K w.params).In base->base.Ns mainGlobals mg->MkL mg base cc pt->FnOk l.prog w (K w.params) mg base (CX w) cm k fa fd [x] (sp w pt))
  (hsp:∀(w:World)(H:Hp)(a pt:Addr)(ns:List Int),ns.length<=n->Ajd pt H->H pt=some (.tbl #[])->SqL (K w.params) H a (ns.map V.int)->sp w pt [.ref a] H (λv _=>v=.bl true) λ_ _ _=>False)
  (hCX:∀(w:World)(H:Hp)(s:Shared)(e:Value)(s':Shared),CX w [] H s (λ_ _ _=>False) e s'->False):
  W.WalkO q loose XP YP l.row.toRowW d [] (λf vs=>PySem.call f vs):=by
 refine Att.wx hn hdf λw s₀ s₁ mg mb fa o pm cd doc a vs ns G Y ho hd hcd hmg hobj hints hlen hg=>?_
 have KX:=hY w _ Y
 obtain⟨fd,cc,pt,ht,hkp,hb,hF⟩:=F w mg fa _ KX G.T.g hmg
 obtain⟨dr,hdr⟩:=Avh.mp hrec
 obtain⟨hC,hP⟩:=W.tab_of G.T KX hdr ht
 have hbm:∃bm o,mg "__builtins__"=some (.ref bm)/\bm≠builtinsNs/\bm≠mainGlobals/\s₁.heap.get? bm=some o/\o.cls=.type "module"/\o.dict=some builtinsNs/\o.data=.plain:=by
  obtain⟨bm,ob,b1,b2,b3,b4,b5,b6⟩:=G.T.bmain
  refine⟨bm,ob,b1,b2,λz=>?_,b3,b4,b5,b6⟩
  obtain⟨o,es,ep,e,hd,_⟩:=G.T.g
  rw[z,e] at b3;cases b3;rw[hd] at b6;cases b6
 exact Ad5 KX G.T.g G.T.b G.T.builtins G.T.nolimit hg hC hP hbm hkp hobj hints (Aq3 hlen hn2) hr hF hb (λH hO hT hS=>hsp w H a pt ns hlen hO hT hS) λH e s'=>hCX w H s₁ e s'
def Ao8 (l:List Stmt)(i:Nat):Stmt:=l.getD i (.Pass ⟨0,0,0,0⟩)
def Amr:Stmt->Expr
 | .Return (some e) _=>e
 | _=>.Constant .none 0 ⟨0,0,0,0⟩
def Ald:Stmt->List Stmt
 | .If _ a _ _=>a
 | _=>[]
def Ang:Expr->Nat->Expr
 | .Call _ as _ _,i=>as.getD i (.Constant .none 0 ⟨0,0,0,0⟩)
 | e,_=>e
def xk:Expr->Arguments
 | .Lambda a _ _ _=>a
 | _=>⟨[],[],none,[],[],none,[]⟩
def yh:Expr->Expr
 | .Lambda _ b _ _=>b
 | e=>e
def ek:Expr->Scope
 | .Lambda _ _ s _=>s
 | _=>⟨.function,[],false,false,[]⟩
def Aht:Expr->Pos
 | .Lambda _ _ _ p=>p
 | _=>⟨0,0,0,0⟩
def Agz {K:W.Frag}{x:Str}{f c P:Addr}{oc:Value}{od:Option Addr}{fd:FuncData}{sl:Array (Option Value)}{o1:Value}{o2:Option Addr}{vs:Array Value}{o3:Array (Option Value)}
  (a:W.nsIn K mainGlobals x=some (some (.ref f))) (l:K.lookup f=some ⟨oc,od,.func fd,sl⟩) (hc:fd.code=.ref c) (lk:K.lookup c=some ⟨o1,o2,.fields vs,o3⟩) (hv:vs[11]?=some (.ref P)):W.tabIn K x=some (c,P):=by
 unfold W.tabIn
 rw[a]
 simp only[l,hc,lk,hv]
def Aa0 {K:W.Frag}{f c:Addr}{oc:Value}{od:Option Addr}{fd:FuncData}{sl:Array (Option Value)}(l:K.lookup f=some ⟨oc,od,.func fd,sl⟩)(hc:fd.code=.ref c):Zo K f=some c:=by
 unfold Zo
 simp only[l,hc]
def LamIs.up (h:LamIs H f ps b sc q fr zs cl cd)(hp:H pt=some (.tbl tb))(s:∀b u,b≠pt->H b=some u->H' b=some u):
  LamIs H' f ps b sc q fr zs cl cd:=by
 have ne:∀{b:Addr}{φ:Heap->Prop},H b=some (.ext φ)->b≠pt:=λe z=>by rw[z,hp] at e;cases e
 refine⟨s _ _ (ne (φ:=_) h.at_) h.at_,s _ _ (ne (φ:=_) h.code) h.code,h.nd,h.len,λi x z h1 h2=>?_,λp hp=>?_⟩
 ·
  obtain⟨c,e1,e2⟩:=h.has i x z h1 h2
  exact⟨c,e1,s _ _ (ne (φ:=_) e2) e2⟩
 ·
  obtain⟨z,e⟩:=h.all p hp
  exact⟨z,s _ _ (ne (φ:=_) e) e⟩
def LamIs.same (h:LamIs H f ps b sc q fr zs cl cd)(s:∀b u,H b=some u->H' b=some u):
  LamIs H' f ps b sc q fr zs cl cd:=by
 refine⟨s _ _ h.at_,s _ _ h.code,h.nd,h.len,λi x z h1 h2=>?_,λp hp=>?_⟩
 ·
  obtain⟨c,e1,e2⟩:=h.has i x z h1 h2
  exact⟨c,e1,s _ _ e2⟩
 ·
  obtain⟨z,e⟩:=h.all p hp
  exact⟨z,s _ _ e⟩
def LTab.same (h:LTab H P pos q)(s:∀b u,H b=some u->H' b=some u):LTab H' P pos q:=by
 rcases h with h|⟨cd,h1,h2⟩
 · exact .inl (s _ _ h)
 · exact .inr ⟨cd,s _ _ h1,s _ _ h2⟩
theorem LTab.tbl (h:LTab H P pos q):∃tb,H P=some (.tbl tb):=by
 rcases h with h|⟨cd,h1,h2⟩
 · exact⟨_,h⟩
 · exact⟨_,h1⟩
def Ae4 {H:Hp}{P:Addr}{pos:Pos}{q:Str}{ps:Arguments}{b:Expr}{sc:Scope}{cl:List (Str×Addr)}{Q:VK}
  (ht:LTab H P pos q) (k:∀f cd H',(∀b u,b≠P->H b=some u->H' b=some u)->LTab H' P pos q->H' f=some (Aau f ps b sc cl q cd)->H' cd=some (cf cd q)->Q (.ref f) H'):
  (H P=some (.tbl #[])->∀f cd,H f=none->H cd=none->f≠cd->Q (.ref f) (upd (upd (upd H P (.tbl #[rawInt pos.line,rawInt pos.col,.ref cd])) cd (cf cd q)) f (Aau f ps b sc cl q cd)))/\
  (∀cd,H P=some (.tbl #[rawInt pos.line,rawInt pos.col,.ref cd])->∀f,H f=none->Q (.ref f) (upd H f (Aau f ps b sc cl q cd))):=by
 refine⟨λe f cd nf nc ne=>?_,λcd e f nf=>?_⟩
 ·
  have c1:(upd (upd (upd H P (.tbl #[rawInt pos.line,rawInt pos.col,.ref cd])) cd (cf cd q)) f (Aau f ps b sc cl q cd)) cd=some (cf cd q):=by rw[An (Avl ne),Ae]
  refine k f cd _ (λb u hb z=>?_) (.inr ⟨cd,?_,c1⟩) Ae c1
  · rw[An (Ap z nf),An (Ap z nc),An hb];exact z
  · rw[An (Ap e nf),An (Ap e nc),Ae]
 ·
  skip
  rcases ht with e2|⟨cd',e2,e3⟩
  · rw[e] at e2;cases e2
  ·
   have:cd'=cd:=by
    rw[e] at e2
    have e4:=Arl e2
    injection e4 with e4
    have e5:=At5 (λ(z:Array Value)=>z[2]?) e4
    have e6:some (Value.ref cd)=some (Value.ref cd'):=e5
    cases e6
    rfl
   subst this
   have c1:(upd H f (Aau f ps b sc cl q cd')) cd'=some (cf cd' q):=by rw[An (Ap e3 nf)];exact e3
   exact k f cd' _ (λb u _ z=>by rw[An (Ap z nf)];exact z) (.inr ⟨cd',by rw[An (Ap e nf)];exact e,c1⟩) Ae c1
def Ae3:OpR X (binaryOp .Add) (λx y H Q=>∃a b xs ys,x=.ref a/\y=.ref b/\H a=some (.tup xs)/\H b=some (.tup ys)/\xs.length+ys.length<=sizeLine/\
  ∀p H',Same H H'->H' p=some (.tup (xs++ys))->Q (.ref p) H'):=by
 intro pins s σ H x y v u Q I rx ry h
 obtain⟨a,b,xs,ys,rfl,rfl,ha,hb,hz,q⟩:=h
 by_cases hx:xs=[]
 ·
  cases rx
  cases ry
  obtain⟨its,r1,p1,_⟩:=I.tuple (Awq (K:=X.K) ha)
  obtain⟨its2,r2,p2,_⟩:=I.tuple (Awq (K:=X.K) hb)
  obtain⟨⟨cls,dd,data,sl⟩,ho,hc,n,hd⟩:=id p1
  obtain⟨⟨cls2,dd2,data2,sl2⟩,ho2,hc2,n2,hd2⟩:=id p2
  simp only at hc hd hc2 hd2
  subst hc hd hc2 hd2
  have hv:its=[]:=r1.nil_iff.mpr hx
  have q0:=q b H (Awr _) (by rw[hx];exact hb)
  exact concat_meets ⟨_,ho,rfl⟩ ⟨_,ho2,rfl⟩ noFill_tuple_add seq_tuple_add Avs Avk (Avg _ _)
   (tuple_addW0 a b its.toArray its2.toArray n n2 dd dd2 sl sl2 (by simp[hv])) ⟨ho,ho2,⟨.ref b,H,I,rfl,q0⟩⟩
 ·
  refine Ai1 pins s σ H _ _ v u Q I rx ry ⟨a,b,xs,ys,rfl,rfl,Awq ha,Awq hb,hx,hz,λe=>?_,λ_ p hp=>q p _ (Ai hp) Ae⟩
  exact q a H (Awr _) (by rw[e,Ark];exact ha)
end L2
namespace L2
open PySem PySem.Spec PyProof.Rows PySem.SeqAt
variable {X:Cx}
end L2
namespace HT
open PySem PySem.Spec PyProof.Rows
variable {prog:Program}{w:World}{A:Around}{E:Value->Shared->Prop}{s:Shared}
def V8 {t sl:Addr}{items:Array Value}{vl vu:Value}{lo hi:Option Int}{Q:Value->Shared->Prop}(ht:IsTup s.heap t items)(hs:s.heap.IsSliceOf sl vl vu .none)(pl:IsPart vl lo)(pu:IsPart vu hi)
  (hw:sIx items.size 0 lo=0/\sIx items.size items.size hi=items.size) (h:Q (.ref t) s):wpAny (model prog w) A (getItem (.ref t) (.ref sl)) Q E s:=by
 obtain⟨os,hos,hcs,hds⟩:=id hs
 have hTs:s.TypeIs (.ref sl) "slice":=⟨os,hos,hcs⟩
 unfold getItem
 try with_reducible refine Asn ?_
 first|refine Aqq (Aqt ?_)|skip
 refine Aqq (wpAny_sequenceKey ht.typeIs dkd ?_)
 refine Aqq (wpAny_callSpecial?_slot (name:=Str.ofString "__getitem__") ht.typeIs Ath
  (Ar9 Ath ht.typeIs entry_tuple_getitem ?_ (args_tuple_getitem _ _)))
 show wpAny _ _ (Builtin.Tuple.tupleItemsOf (.ref t)>>=_) _ _ s
 refine Aqq (tupleItemsOf_ ht ?_)
 refine Aqq (Avp hTs ?_)
 rw[if_pos dkd]
 refine Aqq (R5 hs pl pu ?_)
 have hyes:(((sIx items.size 0 lo:Nat):Int)==0&&(1:Int)==1&&(sIx items.size items.size hi-sIx items.size 0 lo)==items.size)=true:=by
  rw[hw.1,hw.2,Nat.sub_zero]
  simp
 show wpAny _ _ (if(((sIx items.size 0 lo:Nat):Int)==0&&(1:Int)==1&&(sIx items.size items.size hi-sIx items.size 0 lo)==items.size)=true then _ else _) _ _ s
 rw[if_pos hyes]
 unfold Builtin.Tuple.tupleIsExact
 refine Aqq (Aqq (Avp ht.typeIs (Aqt ?_)))
 rw[if_pos dkd]
 first
  | exact Aqq (Aqt (Aqt ⟨_,rfl,Aqt h⟩))
  | exact Aqq (As8 (Aqt ⟨_,rfl,Aqt h⟩))
  | exact Aqt ⟨_,rfl,Aqt h⟩
end HT
namespace L2
open PySem PySem.Spec PyProof.Rows PySem.SeqAt
def Af1 {xs:List V}{lo hi:Option Int}(hw:HT.sIx xs.length 0 lo=0/\HT.sIx xs.length xs.length hi=xs.length):Aba xs lo hi=xs:=by
 unfold Aba
 rw[hw.1,hw.2,List.drop_zero,Nat.sub_zero,Ats]
variable {X:Cx}
def Adc:SlR X (λx lo hi H Q=>∃(a:Addr)(xs:List V),x=.ref a/\H a=some (.tup xs)/\∀p H',Same H H'->H' p=some (.tup (Aba xs lo hi))->Q (.ref p) H'):=by
 intro pins s σ H x v vl vu lo hi sl Q I rx hs pl pu h
 obtain⟨a,xs,rfl,ha,q⟩:=h
 by_cases hw:HT.sIx xs.length 0 lo=0/\HT.sIx xs.length xs.length hi=xs.length
 ·
  cases rx
  obtain⟨its,r,ht,hz⟩:=I.tuple (Awq (K:=X.K) ha)
  have hlen:its.toArray.size=xs.length:=by rw[Aq2];exact r.length.symm
  refine⟨"tuple",_,PyProof.Rows.slot_tuple_getitem.lookup,ht.typeIs,?_⟩
  refine HT.V8 ht hs pl pu (by rw[hlen];exact hw) ⟨.ref a,H,I,rfl,q a H (Awr _) ?_⟩
  rw[Af1 hw]
  exact ha
 · exact Ag9 pins s σ H _ v vl vu lo hi sl Q I rx hs pl pu ⟨a,xs,rfl,Awq ha,hw,λp hp=>q p _ (Ai hp) Ae⟩
def Adn (hJ:Seq J H1 xs)(G:V->Prop)(hsz:xs.length<=100000)
  (hp:∀x∈xs,∀H',Same H1 H'->∀R:Bool->Hp->Prop,(∀b H'',Same H' H''->R b H'')->tt ((U8 cap σ).set 0 (some x)) H' R)
  (he:∀x∈xs,∀H',Same H1 H'->∀R:VK,(∀v H'',Same H' H''->G v->R v H'')->te ((U8 cap σ).set 0 (some x)) H' R)
  (k:∀D H' ys,Same H1 H'->H1 D=none->H' D=some (.lst ys)->(∀v∈ys,G v)->ys.length<=xs.length->Q (.ref D) H'):
  T8 J H1 cap (fj 0) tt te σ Q:=by
 intro D hD
 refine⟨λi m ys σ' H'=>m=xs.length-i/\i<=xs.length/\(∀v,σ'.set 0 v=(U8 cap σ).set 0 v)/\H' D=some (.lst ys)/\Same H1 H'/\(∀v∈ys,G v)/\ys.length<=i,
  ⟨xs.length,dks,Ar3 _,λ_=>rfl,Ae,Ai hD,(λ_ z=>nomatch z),Aq0 _⟩,?_⟩
 rintro i m ys σ' H' ⟨rfl,hi,hσ,hl,sm,hG,hle⟩
 refine⟨hl,?_⟩
 obtain⟨q1,q2⟩:=hJ H' sm
 by_cases hlt:i<xs.length
 ·
  have e:xs[i]?=some xs[i]:=by simp[hlt]
  obtain⟨go,y⟩:=q1 i _ e
  refine .inr ⟨go,λx H2 hy=>?_⟩
  obtain⟨rfl,rfl⟩:=y x H2 hy
  have hm:xs[i]∈xs:=Asu hlt
  have hss:∀v,((U8 cap σ).set 0 (some xs[i])).set 0 v=(U8 cap σ).set 0 v:=λv=>by rw[Au9]
  show tt (σ'.set 0 (some xs[i])) _ _
  rw[hσ]
  refine hp _ hm _ sm _ λb H3 s3=>?_
  cases b with
  |
   true=>
   refine Ame ?_
   refine he _ hm _ (sm.trans s3) _ λv H4 s4 hv=>?_
   have hl4:=s4 _ _ (s3 _ _ hl)
   refine⟨hl4,Asr (by lia:ys.length<=100000) dkd,xs.length-(i+1),dkl,rfl,hlt,hss,Ae,λc o ec=>?_,λz hz=>?_,by rw[Aqw];show _+1<=_;lia⟩
   ·
    rw[An (Ap ec hD)]
    exact s4 _ _ (s3 _ _ (sm _ _ ec))
   ·
    rcases Ar0.mp hz with hz|hz
    · exact hG z hz
    ·
     rw[Arm] at hz
     subst hz
     exact hv
  |
   false=>
   refine Am2 ?_
   exact⟨xs.length-(i+1),dkl,rfl,hlt,hss,s3 _ _ hl,sm.trans s3,hG,dkl⟩
 ·
  have e:i=xs.length:=by lia
  subst e
  refine .inl ⟨q2,k D _ ys sm hD hl hG hle⟩
end L2
namespace DC
def Abs (ns:List Int):Prop:=ns.Pairwise (· < ·)
def below (ns:List Int)(x:Int):Nat:=ns.countP (λa=>decide (a<x))
def d6 (ns:List Int)(x:Int):below ns x<=ns.length:=List.countP_le_length
def below_at (hk:k<=ns.length)(h1:∀(i:Nat)a,i<k->ns[i]?=some a->a<x)(h2:∀(i:Nat)a,k<=i->ns[i]?=some a->¬a<x):below ns x=k:=by
 unfold below
 rw[←Asy k ns,List.countP_append]
 have e1:(ns.take k).countP (λa=>decide (a<x))=(ns.take k).length:=by
  rw[List.countP_eq_length]
  intro a ha
  obtain⟨i,hi⟩:=Ar5 ha
  have hik:i<k:=by
   obtain⟨z,_⟩:=Aq5.mp hi
   rw[Ar4] at z
   lia
  rw[List.getElem?_take_of_lt hik] at hi
  exact Aqs (h1 i a hik hi)
 have e2:(ns.drop k).countP (λa=>decide (a<x))=0:=by
  rw[Av9]
  intro a ha
  obtain⟨i,hi⟩:=Ar5 ha
  rw[Ava] at hi
  have:=h2 (k+i) a (Atr _ _) hi
  simpa using this
 rw[e1,e2,Ar4]
 lia
def Aii {ns:List Int}(h:Abs ns){i j:Nat}{a b:Int}(hi:ns[i]?=some a)(hj:ns[j]?=some b)(hij:i<j):a<b:=by
 obtain⟨h1,rfl⟩:=Aq5.mp hi
 obtain⟨h2,rfl⟩:=Aq5.mp hj
 exact Asx.mp h i j h1 h2 hij
def xi {ns:List Int}(h:Abs ns){i j:Nat}{a b:Int}(hi:ns[i]?=some a)(hj:ns[j]?=some b)(hij:i<=j):a<=b:=by
 rcases Nat.lt_or_eq_of_le hij with h'|rfl
 · exact Int.le_of_lt (Aii h hi hj h')
 · rw[hi] at hj;cases hj;exact Avm _
def Et (
      h:Abs ns) (hi:ns[i]?=some a):i<below ns x↔a<x:=by
 have hl:i<ns.length:=by obtain⟨z,_⟩:=Aq5.mp hi;exact z
 have key:∀(ms:List Int),Abs ms->∀(j:Nat)(b:Int),ms[j]?=some b->(j<below ms x↔b<x):=by
  intro ms
  induction ms with
  | nil=>intro _ j b hj;simp at hj
  |
   cons c r ih=>
   intro hr j b hj
   have hr':=(Aug.mp hr)
   unfold below
   rw[List.countP_cons]
   cases j with
   |
    zero=>
    simp at hj
    subst hj
    have z:¬c<x->r.countP (λa=>decide (a<x))=0:=λhc=>by
     rw[Av9]
     intro a ha
     have:=hr'.1 a ha
     simp
     lia
    by_cases hc:c<x
    · simp[hc]
    ·
     rw[z hc]
     simp[hc]
   |
    succ j=>
    simp at hj
    have:=ih hr'.2 j b hj
    unfold below at this
    by_cases hc:c<x
    ·
     simp[hc]
     lia
    ·
     have hb:¬b<x:=by
      have:=hr'.1 b (Asf hj)
      lia
     have:r.countP (λa=>decide (a<x))=0:=by
      rw[Av9]
      intro a ha
      have:=hr'.1 a ha
      simp
      lia
     simp[hc,hb]
     lia
 exact key ns h i a hi
def off (own:Int)(cs:List (Int×Int))(k:Nat):Int:=if k=0 then own else(cs.getD (k-1) (0,0)).2
end DC
namespace DM
def leap (y:Int):Bool:=decide (y%400=0)||(decide (y%4=0)&&!decide (y%100=0))
def year (y:Int):Int:=(y-2000)*365+(y-2000+3)/4-(y-2000+99)/100+(y-2000+399)/400
def len (y m:Int):Int:=if m=2 then(if leap y then 29 else 28) else if m=1∨m=3∨m=5∨m=7∨m=8∨m=10∨m=12 then 31 else 30
def ahead (m:Int):Int:=if m<=1 then 0 else if m=2 then 31 else if m=3 then 59 else if m=4 then 90 else if m=5 then 120 else if m=6 then 151 else if m=7 then 181 else if m=8 then 212 else if m=9 then 243 else if m=10 then 273 else if m=11 then 304 else 334
def mb (n:Int):Int:=year (2000+n/12)+ahead (n%12+1)+(if n%12+1>2/\leap (2000+n/12)=true then 1 else 0)
def yw (y:Int):leap y=true↔(y%400=0∨(y%4=0/\¬y%100=0)):=by
 simp[leap]
def Agt (x:Int):(x+1+3)/4=(x+3)/4+(if x%4=0 then 1 else 0)/\(x+1+99)/100=(x+99)/100+(if x%100=0 then 1 else 0)/\(x+1+399)/400=(x+399)/400+(if x%400=0 then 1 else 0):=
 ⟨by split<;>lia,by split<;>lia,by split<;>lia⟩
def Af8 (y:Int):(y-2000)%4=y%4/\(y-2000)%100=y%100/\(y-2000)%400=y%400:=⟨dkl,dkl,dkl⟩
def Ak9 (y:Int):(y%400=0->y%100=0)/\(y%100=0->y%4=0):=⟨dkl,dkl⟩
def Ad4 (y:Int):year (y+1)=year y+365+(if leap y=true then 1 else 0):=by
 unfold year
 obtain⟨a,b,c⟩:=Agt (y-2000)
 obtain⟨d,e,f⟩:=Af8 y
 obtain⟨u,v⟩:=Ak9 y
 rw[show y+1-2000=y-2000+1 by lia,a,b,c,d,e,f,Int.add_mul]
 unfold leap
 generalize (y-2000+3)/4=p
 generalize (y-2000+99)/100=q
 generalize (y-2000+399)/400=r
 generalize (y-2000)*365=z
 by_cases h4:y%4=0
 ·
  by_cases h1:y%100=0
  ·
   by_cases h0:y%400=0
   · rw[if_pos h4,if_pos h1,if_pos h0,Aqs h0,Avy,if_pos rfl];lia
   · rw[if_pos h4,if_pos h1,if_neg h0,Aqz h0,Aqs h1,Bool.not_true,Atf,Avo,if_neg dkd];lia
  · rw[if_pos h4,if_neg h1,if_neg λw=>h1 (u w),Aqz λw=>h1 (u w),Aqz h1,Aqs h4,if_pos dkd];lia
 · rw[if_neg h4,if_neg λw=>h4 (v w),if_neg λw=>h4 (v (u w)),Aqz λw=>h4 (v (u w)),Aqz h4,As3,Avo,if_neg dkd];lia
def Al5:∀k:Nat,k<11->∀b:Bool,ahead ((k:Int)+1+1)+(if(k:Int)+1+1>2/\b=true then 1 else 0)=ahead ((k:Int)+1)+(if(k:Int)+1>2/\b=true then 1 else 0)+
 (if(k:Int)+1=2 then(if b then 29 else 28) else if(k:Int)+1=1∨(k:Int)+1=3∨(k:Int)+1=5∨(k:Int)+1=7∨(k:Int)+1=8∨(k:Int)+1=10∨(k:Int)+1=12 then 31 else 30):=by decide+kernel
def Al1:∀b:Bool,ahead (0+1)+(if(0:Int)+1>2/\b=true then 1 else 0)+365+(if b=true then 1 else 0)=ahead (11+1)+(if(11:Int)+1>2/\b=true then 1 else 0)+31:=by decide+kernel
def Vu (n:Int):mb (n+1)=mb n+len (2000+n/12) (n%12+1):=by
 obtain⟨k,hk⟩:=Int.eq_ofNat_of_zero_le (show 0<=n%12 by lia)
 unfold mb len
 by_cases h:n%12=11
 ·
  rw[show(n+1)/12=n/12+1 by lia,show(n+1)%12=0 by lia,h,show(2000:Int)+(n/12+1)=2000+n/12+1 by lia,Ad4]
  have:=Al1 (leap (2000+n/12))
  rw[if_neg (show ¬((0:Int)+1>2/\leap (2000+n/12)=true) from λz=>absurd z.1 dkd)] at this
  rw[if_neg (show ¬((0:Int)+1>2/\leap (2000+n/12+1)=true) from λz=>absurd z.1 dkd),if_neg (show ¬(11:Int)+1=2 by decide),if_pos (show(11:Int)+1=1∨(11:Int)+1=3∨(11:Int)+1=5∨(11:Int)+1=7∨(11:Int)+1=8∨(11:Int)+1=10∨(11:Int)+1=12 by decide)]
  lia
 ·
  have:=Al5 k dkl (leap (2000+n/12))
  rw[show(n+1)/12=n/12 by lia,show(n+1)%12=(k:Int)+1 by lia,hk]
  rw[Int.add_assoc,this,←Int.add_assoc,←Int.add_assoc]
def len_pos (y m:Int):28<=len y m/\len y m<=31:=by
 unfold len
 split
 · split<;>lia
 · split<;>lia
def Wd (y:Int):mb (12*(y-2000))=year y:=by
 unfold mb
 have e1:12*(y-2000)/12=y-2000:=by lia
 have e2:12*(y-2000)%12=0:=by lia
 rw[e1,e2,show(2000:Int)+(y-2000)=y by lia]
 simp[ahead]
def Ali (n:Int):mb n+28<=mb (n+1):=by
 have:=Vu n
 have:=len_pos (2000+n/12) (n%12+1)
 lia
theorem h9 (n:Int):∀k:Nat,mb n+28*k<=mb (n+k)
 | 0=>by simp
 |
  k+1=>by
  have ih:=h9 n k
  have:=Ali (n+k)
  rw[show n+((k+1:Nat):Int)=n+k+1 by lia]
  lia
def O4 (h:a<=b):mb a+28*(b-a)<=mb b:=by
 have:=h9 a (b-a).toNat
 rw[show a+((b-a).toNat:Int)=b by lia] at this
 lia
def Ao5:mb 0=0:=by decide
def Acx:mb 4800=146097:=by decide
def Akm (h1:mb a<=d)(h2:d<mb (a+1))(h3:mb b<=d)(h4:d<mb (b+1)):a=b:=by
 rcases Int.lt_trichotomy a b with h|h|h
 · have:=O4 (a:=a+1) (b:=b) dkl;lia
 · exact h
 · have:=O4 (a:=b+1) (b:=a) dkl;lia
def near (n:Nat):Bool:=decide (mb n*4800<=(n+1)*146097)&&decide (((n:Int)-1)*146097<=mb n*4800)
def p7:Nat->Bool
 | 0=>true
 | n+1=>near n&&p7 n
theorem oq:∀{k n:Nat},p7 k=true->n<k->near n=true
 |
  k+1,n,h,hn=>by
  unfold p7 at h
  rw[Aq9] at h
  by_cases e:n=k
  · rw[e];exact h.1
  · exact oq h.2 dkl
set_option maxRecDepth 100000 in
def Ahz:p7 4801=true:=by decide+kernel
def Ach (h0:0<=n)(h1:n<=4800):mb n*4800<=(n+1)*146097/\(n-1)*146097<=mb n*4800:=by
 have h:=oq (n:=n.toNat) Ahz dkl
 unfold near at h
 rw[Aq9,Atg,Atg,show((n.toNat:Nat):Int)=n by lia] at h
 exact h
def mo (d:Int):Int:=if mb (d*4800/146097)>d then d*4800/146097-1 else if mb (d*4800/146097+1)<=d then d*4800/146097+1 else d*4800/146097
def j5 (h0:0<=d)(h1:d<146097):mb (mo d)<=d/\d<mb (mo d+1)/\0<=mo d/\mo d<4800:=by
 unfold mo
 have g0:0<=d*4800/146097:=by lia
 have g1:d*4800/146097<4800:=by lia
 have hd:(d*4800/146097)*146097<=d*4800/\d*4800<(d*4800/146097+1)*146097:=by lia
 generalize d*4800/146097=g at*
 have e0:=Ao5
 have e1:=Acx
 split
 ·
  rename_i h
  have hg:1<=g:=by
   rcases Awn g 1 with z|z
   ·
    have:g=0:=by lia
    subst this
    lia
   · exact z
  have n1:=(Ach (n:=g-1) dkl dkl).1
  rw[show g-1+1=g by lia] at*
  exact⟨dkl,dkl,dkl,dkl⟩
 ·
  split
  ·
   rename_i h2
   have hg:g+1<4800:=by
    rcases Awn (g+1) 4800 with z|z
    · exact z
    ·
     have:g=4799:=by lia
     subst this
     have h2':mb 4800<=d:=h2
     lia
   have n2:=(Ach (n:=g+2) dkl dkl).2
   rw[show g+1+1=g+2 by lia]
   exact⟨dkl,dkl,dkl,dkl⟩
  · exact⟨dkl,dkl,g0,g1⟩
def Afv (h0:0<=d)(h1:d<146097)(h2:mb n<=d)(h3:d<mb (n+1)):mo d=n:=
 Akm (j5 h0 h1).1 (j5 h0 h1).2.1 h2 h3
def Aic (n:Nat):Bool:=decide (year (2000+n)*400<=(n+1)*146097)&&decide (((n:Int)-1)*146097<=year (2000+n)*400)
def ez:Nat->Bool
 | 0=>true
 | n+1=>Aic n&&ez n
theorem km:∀{k n:Nat},ez k=true->n<k->Aic n=true
 |
  k+1,n,h,hn=>by
  unfold ez at h
  rw[Aq9] at h
  by_cases e:n=k
  · rw[e];exact h.1
  · exact km h.2 dkl
set_option maxRecDepth 100000 in
def Afp:ez 401=true:=by decide+kernel
def yq (h0:0<=n)(h1:n<=400):year (2000+n)*400<=(n+1)*146097/\(n-1)*146097<=year (2000+n)*400:=by
 have h:=km (n:=n.toNat) Afp dkl
 unfold Aic at h
 rw[Aq9,Atg,Atg,show((n.toNat:Nat):Int)=n by lia] at h
 exact h
def yr (d:Int):Int:=if year (2000+d*400/146097)>d then 2000+d*400/146097-1 else if year (2000+d*400/146097+1)<=d then 2000+d*400/146097+1 else 2000+d*400/146097
def Adk:year 2000=0:=by decide
def Adp:year 2400=146097:=by decide
def Aok (h0:0<=d)(h1:d<146097):year (yr d)<=d/\d<year (yr d+1)/\2000<=yr d/\yr d<2400:=by
 unfold yr
 have g0:0<=d*400/146097:=by lia
 have g1:d*400/146097<400:=by lia
 have hd:(d*400/146097)*146097<=d*400/\d*400<(d*400/146097+1)*146097:=by lia
 generalize d*400/146097=g at*
 have e0:=Adk
 have e1:=Adp
 split
 ·
  rename_i h
  have hg:1<=g:=by
   rcases Awn g 1 with z|z
   ·
    have:g=0:=by lia
    subst this
    have h':year 2000>d:=h
    lia
   · exact z
  have n1:=(yq (n:=g-1) dkl dkl).1
  rw[show 2000+g-1=2000+(g-1) by lia]
  rw[show 2000+(g-1)+1=2000+g by lia]
  exact⟨dkl,dkl,dkl,dkl⟩
 ·
  split
  ·
   rename_i h2
   have hg:g+1<400:=by
    rcases Awn (g+1) 400 with z|z
    · exact z
    ·
     have:g=399:=by lia
     subst this
     have h2':year 2400<=d:=h2
     lia
   have n2:=(yq (n:=g+2) dkl dkl).2
   rw[show 2000+g+1+1=2000+(g+2) by lia]
   exact⟨dkl,dkl,dkl,dkl⟩
  · exact⟨dkl,dkl,dkl,dkl⟩
def sums (y:Int):Nat->Int
 | 0=>0
 | k+1=>sums y k+len y (k+1)
def Adj (y:Int)(k:Nat):sums y (k+1)=sums y k+len y (k+1):=rfl
theorem Acb (y:Int):∀k:Nat,k<=12->mb (12*(y-2000)+k)=year y+sums y k
 | 0,_=>by rw[show 12*(y-2000)+((0:Nat):Int)=12*(y-2000) by lia,Wd];simp[sums]
 |
  k+1,h=>by
  have ih:=Acb y k dkl
  rw[show 12*(y-2000)+((k+1:Nat):Int)=12*(y-2000)+k+1 by lia,Vu,ih,show(12*(y-2000)+(k:Int))/12=y-2000 by lia,
   show(12*(y-2000)+(k:Int))%12=k by lia,show(2000:Int)+(y-2000)=y by lia]
  simp only[sums]
  lia
def An0 (h0:0<=n)(h1:n<4800):0<=mb n/\mb (n+1)<=146097:=by
 have a:=O4 (a:=0) (b:=n) h0
 have b:=O4 (a:=n+1) (b:=4800) dkl
 rw[Ao5] at a
 rw[Acx] at b
 lia
end DM
namespace DF
inductive Rl where
 | nv
 | ev (st fi:Int)
 | wk (mk fi e:Int)
 | mo (dt fi e:Int)
 | nt (wh wd fi e:Int)
 | yr (mn dt fi e:Int)
 | dy (ds:List Int)
 | wh (m r:Int)
def inw (b e f:Int):Option Int:=if b<=f/\f<e then some f else none
def Cb (n dt:Int):Option Int:=inw (DM.mb n) (DM.mb (n+1)) (if dt>0 then DM.mb n+dt-1 else DM.mb (n+1)+dt)
def K5 (n w wd:Int):Option Int:=inw (DM.mb n) (DM.mb (n+1)) (if w>0 then DM.mb n+(wd-(DM.mb n+5)%7)%7+(w-1)*7 else DM.mb (n+1)-1-((DM.mb (n+1)-1+5)%7-wd)%7+(w+1)*7)
def isD (d:Int):Bool:=decide (0<=d/\d<146097)
def byM (o s fi:Int)(g:Int->Option Int)(d:Int):Bool:=if isD d=true/\fi<=d then decide ((DM.mo d-o)%s=0)&&decide (g (DM.mo d)=some d) else false
def fl:Rl->Int->Bool
 | .nv,_=>false
 | .ev st fi,d=>isD d&&(decide (fi<=d)&&decide ((d-fi)%st=0))
 | .wk mk fi e,d=>if isD d=true/\fi<=d then decide (((d+5)/7-(fi+5)/7)%e=0)&&decide (mk/2 ^ ((d+5)%7).toNat%2=1) else false
 | .mo dt fi e,d=>byM (DM.mo fi) e fi (λn=>Cb n dt) d
 | .nt w wd fi e,d=>byM (DM.mo fi) e fi (λn=>K5 n w wd) d
 | .yr mn dt fi e,d=>byM (DM.mo fi/12*12+mn-1) (e*12) fi (λn=>Cb n dt) d
 | .dy ds,d=>decide (d∈ds)
 | .wh m r,d=>isD d&&decide (d*d%m=r)
def Fi (fi e:Int):Prop:=0<=fi/\fi<146097/\1<=e/\e<=1000
def Ok:Rl->Prop
 | .nv=>True
 | .ev st fi=>1<=st/\st<=146096/\0<=fi/\fi<146097
 | .wk mk fi e=>1<=mk/\mk<=127/\Fi fi e
 | .mo dt fi e=> -31<=dt/\dt<=31/\dt≠0/\Fi fi e
 | .nt w wd fi e=> -5<=w/\w<=5/\w≠0/\0<=wd/\wd<=6/\Fi fi e
 | .yr mn dt fi e=>1<=mn/\mn<=12/\1<=dt/\dt<=DM.len 2000 mn/\Fi fi e
 | .dy ds=>ds.length<=50/\∀k∈ds,0<=k/\k<146097
 | .wh m r=>1<=m
def Il:isD d=true↔0<=d/\d<146097:=As0
theorem ah (h:Ok r)(hd:d<0∨146097<=d):fl r d=false:=by
 have n:isD d=false:=by unfold isD;exact Aqz dkl
 have by0:∀o s fi g,byM o s fi g d=false:=λo s fi g=>by unfold byM;rw[n,if_neg (λw=>nomatch w.1)]
 cases r with
 | nv=>rfl
 | ev st fi=>show(isD d&&_)=false;rw[n];rfl
 | wk mk fi e=>show(if isD d=true/\fi<=d then _ else false)=false;rw[n,if_neg (λw=>nomatch w.1)]
 | mo dt fi e=>exact by0 (DM.mo fi) e fi (λn=>Cb n dt)
 | nt w wd fi e=>exact by0 (DM.mo fi) e fi (λn=>K5 n w wd)
 | yr mn dt fi e=>exact by0 (DM.mo fi/12*12+mn-1) (e*12) fi (λn=>Cb n dt)
 | dy ds=>exact Aqz λhk=>by have:=h.2 d hk;lia
 | wh m r=>show(isD d&&_)=false;rw[n];rfl
def Ab6 (h1:b<=d)(h2:d<e):inw b e f=some d↔f=d:=by
 unfold inw
 by_cases h:b<=f/\f<e
 · rw[if_pos h,Awg]
 ·
  rw[if_neg h]
  constructor
  · intro w;cases w
  · intro w;subst w;exact absurd ⟨h1,h2⟩ h
def y6 (h1:DM.mb n<=d)(h2:d<DM.mb (n+1))(hn:dt≠0):Cb n dt=some d↔d-DM.mb n+1=(if dt<0 then DM.len (2000+n/12) (n%12+1)+1+dt else dt):=by
 unfold Cb
 rw[Ab6 h1 h2]
 have:=DM.Vu n
 by_cases h:dt>0
 · rw[if_pos h,if_neg dkl];lia
 · rw[if_neg h,if_pos dkl];lia
def Aip (h1:DM.mb n<=d)(h2:d<DM.mb (n+1))(hn:w≠0)(w0:0<=wd)(w1:wd<=6):
  K5 n w wd=some d↔(d+5)%7=wd/\(if w<0 then 0-(DM.len (2000+n/12) (n%12+1)-(d-DM.mb n+1)+7)/7 else(d-DM.mb n+1+6)/7)=w:=by
 unfold K5
 rw[Ab6 h1 h2]
 have:=DM.Vu n
 by_cases h:w>0
 · rw[if_pos h,if_neg dkl];lia
 · rw[if_neg h,if_pos dkl];lia
def Ag5 {n o mn e:Int}(he:1<=e)(m1:1<=mn)(m2:mn<=12):(n-(o/12*12+mn-1))%(e*12)=0↔(2000+n/12-(2000+o/12))%e=0/\n%12+1=mn:=by
 have e1:n-(o/12*12+mn-1)=(n/12-o/12)*12+(n%12+1-mn):=by omega
 rw[e1,show 2000+n/12-(2000+o/12)=n/12-o/12 by omega]
 generalize n/12-o/12=a
 constructor
 ·
  intro h
  have d1:e*12 ∣ a*12+(n%12+1-mn):=Ato h
  have d2:(12:Int) ∣ a*12+(n%12+1-mn):=Int.dvd_trans ⟨e,Avb ..⟩ d1
  have hb:n%12+1=mn:=by omega
  refine⟨?_,hb⟩
  rw[show a*12+(n%12+1-mn)=a*12 by omega] at d1
  exact Avn (Int.dvd_of_mul_dvd_mul_right dkd d1)
 ·
  rintro⟨h1,h2⟩
  rw[show a*12+(n%12+1-mn)=a*12 by omega]
  obtain⟨q,hq⟩:=Ato h1
  exact Avn ⟨q,by rw[hq];rw[Int.mul_assoc,Int.mul_assoc,Avb q 12]⟩
def Amm (n o:Int):(2000+n/12-(2000+o/12))*12+(n%12+1)-(o%12+1)=n-o:=by lia
def nz (h0:0<=d)(h1:d<146097)(hf:fi<=d):byM o s fi g d=(decide ((DM.mo d-o)%s=0)&&decide (g (DM.mo d)=some d)):=if_pos ⟨Il.mpr ⟨h0,h1⟩,hf⟩
def uu (hf:d<fi):byM o s fi g d=false:=if_neg λw=>by have:=w.2;lia
def Ahv:∀k:Fin 7,([1,2,4,8,16,32,64]:List Int)[k.val]?=some (2 ^ k.val):=by decide
theorem Aes (h:match r with| .wk _ fi _=>d<fi| .mo _ fi _=>d<fi| .nt _ _ fi _=>d<fi| .yr _ _ fi _=>d<fi|_=>False):fl r d=false:=by
 cases r with
 | wk mk fi e=>exact if_neg λw=>by have:=w.2;have:d<fi:=h;lia
 | mo dt fi e=>exact uu (g:=λn=>Cb n dt) h
 | nt w wd fi e=>exact uu (g:=λn=>K5 n w wd) h
 | yr mn dt fi e=>exact uu (g:=λn=>Cb n dt) h
 | nv=>exact h.elim
 | ev _ _=>exact h.elim
 | dy _=>exact h.elim
 | wh _ _=>exact h.elim
def Amg (h0:0<=d)(h1:d<146097)(hf:fi<=d):fl (.wk mk fi e) d=(decide (((d+5)/7-(fi+5)/7)%e=0)&&decide (mk/2 ^ ((d+5)%7).toNat%2=1)):=if_pos ⟨Il.mpr ⟨h0,h1⟩,hf⟩
def Ant {mn dt fi e d:Int}(h0:0<=d)(h1:d<146097)(hf:fi<=d)(ok:Ok (.yr mn dt fi e)):
  fl (.yr mn dt fi e) d=(decide ((2000+DM.mo d/12-(2000+DM.mo fi/12))%e=0)&&(decide (DM.mo d%12+1=mn)&&decide (d-DM.mb (DM.mo d)+1=dt))):=by
 obtain⟨m1,m2,d1,d2,f0,f1,e0,e1⟩:=ok
 obtain⟨o1,o2,_,_⟩:=DM.j5 h0 h1
 have a:=nz (o:=DM.mo fi/12*12+mn-1) (s:=e*12) (g:=λn=>Cb n dt) h0 h1 hf
 refine Eq.trans a ?_
 rw[←Av0,←Av0,←Av0]
 refine Asi.mpr ?_
 rw[Ag5 e0 m1 m2,y6 o1 o2 dkl,if_neg (by lia:¬dt<0),and_assoc]
def Alz (h0:0<=d)(h1:d<146097)(hf:fi<=d)(hp:(DM.mo d-DM.mo fi)%e>0):fl (.mo dt fi e) d=false:=by
 refine Eq.trans (nz (o:=DM.mo fi) (s:=e) (g:=λn=>Cb n dt) h0 h1 hf) ?_
 rw[Aqz dkl,As3]
def Al4 (h0:0<=d)(h1:d<146097)(hf:fi<=d)(hp:(DM.mo d-DM.mo fi)%e>0):fl (.nt w wd fi e) d=false:=by
 refine Eq.trans (nz (o:=DM.mo fi) (s:=e) (g:=λn=>K5 n w wd) h0 h1 hf) ?_
 rw[Aqz dkl,As3]
def Aob (h0:0<=d)(h1:d<146097)(hf:fi<=d)(ok:Ok (.mo dt fi e))(hp:¬(DM.mo d-DM.mo fi)%e>0):
  fl (.mo dt fi e) d=decide (d-DM.mb (DM.mo d)+1=(if dt<0 then DM.len (2000+DM.mo d/12) (DM.mo d%12+1)+1+dt else dt)):=by
 obtain⟨d1,d2,d3,f0,f1,e0,e1⟩:=ok
 obtain⟨o1,o2,_,_⟩:=DM.j5 h0 h1
 have:=Arp (DM.mo d-DM.mo fi) (by lia:e≠0)
 refine Eq.trans (nz (o:=DM.mo fi) (s:=e) (g:=λn=>Cb n dt) h0 h1 hf) ?_
 rw[Aqs dkl,Arw]
 exact Asi.mpr (y6 o1 o2 d3)
def Am8 (h0:0<=d)(h1:d<146097)(hf:fi<=d)(ok:Ok (.nt w wd fi e))(hp:¬(DM.mo d-DM.mo fi)%e>0):
  fl (.nt w wd fi e) d=(decide ((d+5)%7=wd)&&decide ((if w<0 then 0-(DM.len (2000+DM.mo d/12) (DM.mo d%12+1)-(d-DM.mb (DM.mo d)+1)+7)/7 else(d-DM.mb (DM.mo d)+1+6)/7)=w)):=by
 obtain⟨d1,d2,d3,w0,w1,f0,f1,e0,e1⟩:=ok
 obtain⟨o1,o2,_,_⟩:=DM.j5 h0 h1
 have:=Arp (DM.mo d-DM.mo fi) (by lia:e≠0)
 refine Eq.trans (nz (o:=DM.mo fi) (s:=e) (g:=λn=>K5 n w wd) h0 h1 hf) ?_
 rw[Aqs dkl,Arw,←Av0]
 exact Asi.mpr (Aip o1 o2 d3 w0 w1)
def Akd (h0:0<=d)(h1:d<146097):isD d=true:=Il.mpr ⟨h0,h1⟩
end DF
namespace L2
open PySem PySem.Spec PyProof.Rows
variable {X:Cx}
def Aj3 (r:Addr)(i j c:Int):HO:=.ext λh=>∃t u v,h.get? r=some {cls:=.type "range",data:=.fields #[.int i t,.int j u,.int c v]}
def Abf (lo c:Int)(n:Nat):List V:=(List.range n).map λ(i:Nat)=>V.int (lo+(i:Int)*c)
def Ab5 (h1: -(2 ^ 50)<=a)(h2:a<2 ^ 50)(h3: -(2 ^ 50)<=b)(h4:b<2 ^ 50)(h5:0<c)(h6:c<1000000):Builtin.Range.small a b c=true:=by
 have hd:a<b->0<=(b-a-1)/c/\(b-a-1)/c<=b-a-1:=λh=>⟨Avx dkl dkl,Int.ediv_le_self _ dkl⟩
 have hm:a<b->(b-a-1)/c*c<=b-a-1:=λh=>Int.ediv_mul_le _ dkl
 unfold Builtin.Range.small Builtin.Range.rangeSize
 simp only[Builtin.Range.rangeFitsLong,Aq9,Bool.or_eq_true,Atg,beq_iff_eq,show c>0 from h5,if_true]
 split
 ·
  rename_i hab
  have:=hd hab
  have:=hm hab
  generalize (b-a-1)/c=q at*
  first|lia|(refine⟨⟨⟨dkl,dkl⟩,dkl⟩,?_⟩;lia)|skip
 · first|lia|skip
theorem Z8:Lc X (.type "range") (λxs H Q=>∃i j c:Int,xs=[.int i,.int j,.int c]/\0<c/\c<1000000/\(-(2 ^ 50)<=i/\i<2 ^ 50/\ -(2 ^ 50)<=j/\j<2 ^ 50)/\∀r,H r=none->Q (.ref r) (upd H r (Aj3 r i j c))):=by
 intro pins s σ H xs us Q I r h
 obtain⟨i,j,c,rfl,c0,c1,⟨q1,q2,q3,q4⟩,q⟩:=h
 cases r with
 |
  cons r rr=>
  cases rr with
  |
   cons r' rr=>
   cases rr with
   |
    cons r'' rr=>
    cases rr
    obtain⟨t,rfl⟩:=r
    obtain⟨t',rfl⟩:=r'
    obtain⟨t'',rfl⟩:=r''
    refine call_range_3 dkl ?_ (Or.inl (PyProof.noPylong_small dkl))
    refine⟨.ref s.heap.objs.size,_,I.laid (λb u e=>Aqr _ e) (Aq0 _) (show ObjOk X.prog X.w _ _ _ (Aj3 s.heap.objs.size i j c) from ⟨⟨t,t',t'',Aq1 _ rfl⟩,⟨_,Aq1 _ rfl⟩,?_⟩),rfl,q _ (I.hok.fresh (Aq0 _))⟩
    rintro h1 h2 ⟨a,b,c',e⟩ k
    exact⟨a,b,c',k _ e⟩
def Vo (hc:X.calm=true):Lc X (.type "list") (λxs H Q=>∃(p:Addr)(i j c:Int)(n:Nat),xs=[.ref p]/\H p=some (Aj3 p i j c)/\0<c/\c<1000000/\(-(2 ^ 50)<=i/\i<2 ^ 50/\ -(2 ^ 50)<=j/\j<2 ^ 50)/\Builtin.Range.rangeSize i j c=(n:Int)/\n<=200000/\
  ∀l,H l=none->Q (.ref l) (upd H l (.lst (Abf i c n)))):=by
 intro pins s σ H xs us Q I r h
 obtain⟨p,lo,hi,c,n,rfl,hp,c0,c1,⟨b1,b2,b3,b4⟩,hn,hz,q⟩:=h
 obtain⟨u,rfl,ru⟩:=r.one
 cases ru
 obtain⟨⟨t,u,v,hr⟩,_⟩:=(show ObjOk X.prog X.w H s.heap p (Aj3 p lo hi c) from I.hok p _ hp)
 refine call_list_range (n:=n) (I.ok.hd hc) hr (Ab5 b1 b2 b3 b4 c0 c1) hn (Aq3 hz dkd) λh' tk acc cp hk hS hI=>?_
 refine⟨.ref s.heap.objs.size,_,I.laid (t':=tk) hk (Aq0 _) (show ObjOk X.prog X.w _ h' _ (.lst (Abf lo c n)) from ⟨?_,acc.toList,cp,?_,?_⟩),rfl,q _ (I.hok.fresh (Aq0 _))⟩
 ·
  unfold Abf
  rw[Aqv,Art]
  exact Aq3 hz dkd
 ·
  refine Vals.of_get ?_ λj x u a b=>?_
  ·
   unfold Abf
   rw[Aqv,Art,Aqx,hI.1]
  ·
   have b':acc[j]?=some u:=by rw[←b,Arv]
   obtain⟨t,rfl⟩:=hI.2 j u b'
   unfold Abf at a
   rw[Are] at a
   obtain⟨i,a1,rfl⟩:=Aun.mp a
   have:i=j:=by
    have:=Aq5.mp a1
    obtain⟨z,w⟩:=this
    rw[List.getElem_range] at w
    exact w.symm
   subst this
   exact⟨t,rfl⟩
 ·
  rw[Array.toArray_toList]
  exact hS
end L2
namespace L2
open PySem PySem.Spec PySem.Calls PyProof.Rows
variable {X:Cx}
def Amh (m:Str)(D:Addr->(V->List V->Hp->VK->Prop)->Prop)(ta:TE):TE:=λσ H Q=>ta σ H λx H1=>∃a C dx fs R,x=.ref a/\H1 a=some (.ins C dx fs)/\fs.lookup m=none/\D C R/\R x [] H1 Q
def Ado (he:PE X o ta)(hD:∀C R,D C R->Ans X m 0 C R)
  (ht:eval (.Call (.Attribute o m apos) [] [] pos) X.env=(do
   let ov ←eval o X.env
   standAt apos.atName
   let (f,first) ←holding [ov] (getMethod ov m pl)
   callWith pos f first (backTo pos (starEach [] X.env)) (backToKw pos (keywordEach [] X.env))):=by rfl):
  PE X (.Call (.Attribute o m apos) [] [] pos) (Amh m D ta):=by
 intro pins s σ H Q I h
 refine W.methodCall_KW (pl:=pl) (thn (he pins s σ H _ I h) λu s1 ⟨x,H1,I1,rx,a,C,dx,fs,R,ex,ea,l,d,q⟩=>?_) ht
 subst ex
 obtain rfl:u=Value.ref a:=rx
 obtain⟨c,f,fd,ps,ds,dvs,CX,cm,k,sp,E,hm,F,hr,hb,hd,hx,hR⟩:=hD C R d
 refine nr I1 ea c hm l ?_
 refine W.callWith_K0 (first:=[.ref a]) (Inv.kIn (I1.tok _)) hm.kp ?_
 exact yz (us:=[.ref a]) (vs:=[.ref a]) F hr hb hd hx (I1.tok _) (.cons rfl .nil) (hR _ _ _ _ rfl q)
end L2
namespace L2
open PySem PySem.Spec PyProof.Rows
def za (hJ:Seq J H1 xs)(G:V->V->Prop)(hsz:xs.length<=100000)
  (hp:∀x∈xs,∀H',Same H1 H'->∀R:Bool->Hp->Prop,R true H'->tt ((U8 cap σ).set 0 (some x)) H' R)
  (he:∀x∈xs,∀H',Same H1 H'->∀R:VK,(∀v H'',Same H' H''->G x v->R v H'')->te ((U8 cap σ).set 0 (some x)) H' R)
  (k:∀D H' ys,Same H1 H'->H1 D=none->H' D=some (.lst ys)->ys.length=xs.length->(∀(i:Nat)x v,xs[i]?=some x->ys[i]?=some v->G x v)->Q (.ref D) H'):
  T8 J H1 cap (fj 0) tt te σ Q:=by
 intro D hD
 refine⟨λi m ys σ' H'=>m=xs.length-i/\i<=xs.length/\(∀v,σ'.set 0 v=(U8 cap σ).set 0 v)/\H' D=some (.lst ys)/\Same H1 H'/\ys.length=i/\∀(j:Nat)x v,xs[j]?=some x->ys[j]?=some v->G x v,
  ⟨xs.length,dks,Ar3 _,λ_=>rfl,Ae,Ai hD,rfl,(λ_ _ _ _ z=>nomatch z)⟩,?_⟩
 rintro i m ys σ' H' ⟨rfl,hi,hσ,hl,sm,hle,hG⟩
 refine⟨hl,?_⟩
 obtain⟨q1,q2⟩:=hJ H' sm
 by_cases hlt:i<xs.length
 ·
  have e:xs[i]?=some xs[i]:=by simp[hlt]
  obtain⟨go,y⟩:=q1 i _ e
  refine .inr ⟨go,λx H2 hy=>?_⟩
  obtain⟨rfl,rfl⟩:=y x H2 hy
  have hm:xs[i]∈xs:=Asu hlt
  have hss:∀v,((U8 cap σ).set 0 (some xs[i])).set 0 v=(U8 cap σ).set 0 v:=λv=>by rw[Au9]
  show tt (σ'.set 0 (some xs[i])) _ _
  rw[hσ]
  refine hp _ hm _ sm _ ?_
  refine Ame ?_
  refine he _ hm _ sm _ λv H4 s4 hv=>?_
  have hl4:=s4 _ _ hl
  refine⟨hl4,Asr (by lia:ys.length<=100000) dkd,xs.length-(i+1),dkl,rfl,hlt,hss,Ae,λc o ec=>?_,by rw[Aqw,hle];rfl,λj x' v' a1 a2=>?_⟩
  ·
   rw[An (Ap ec hD)]
   exact s4 _ _ (sm _ _ ec)
  ·
   by_cases hj:j<ys.length
   ·
    rw[Ate hj] at a2
    exact hG j x' v' a1 a2
   ·
    rw[As9 dkl] at a2
    have hj2:j-ys.length=0:=by
     have:=(Aq5.mp a2).1
     simp at this
     lia
    rw[hj2] at a2
    cases a2
    have:j=i:=by lia
    subst this
    rw[e] at a1
    cases a1
    exact hv
 ·
  have e:i=xs.length:=by lia
  subst e
  exact .inl ⟨q2,k D _ ys sm hD hl hle hG⟩
end L2
namespace L2
open PySem PySem.Spec PyProof.Rows PySem.SeqAt
theorem wu (hu:X.A.units+2<cLine):OpR X (compareOp .Eq) (λx y H Q=>∃(a b:Addr)(xs:List V),x=.ref a/\y=.ref b/\H a=some (.tup xs)/\H b=some (.tup [])/\Q (.bl xs.isEmpty) H):=by
 intro pins s σ H x y v u Q I rx ry h
 obtain⟨a,b,xs,rfl,rfl,ha,hb,q⟩:=h
 cases rx
 cases ry
 obtain⟨its,rv,pl,hz⟩:=I.tuple (Awq (K:=X.K) ha)
 obtain⟨its2,rv2,pl2,hz2⟩:=I.tuple (Awq (K:=X.K) hb)
 cases rv2
 have hl:=rv.length
 refine eq_tupleAt (e:=λ_=>true) pl pl2 dkl (λj h1 h2=>absurd h2 dks) ?_
 cases xs with
 |
  nil=>
  cases rv
  exact⟨.bl _,H,I,rfl,q⟩
 |
  cons y ys=>
  cases rv
  exact⟨.bl _,H,I,rfl,q⟩
end L2
namespace L2
open PySem PySem.Spec PySem.W PyProof.Rows
abbrev TM:=Nat×Option Addr×Array (Option Value)
abbrev v9 (its:Array Value)(n:TM):Obj:={cls:=.type "tuple",dict:=n.2.1,data:=.seq its n.1,slots:=n.2.2}
def Ey (t:Addr)(i:Nat):Obj:={cls:=.type "tuple_iterator",data:=.fields #[.ref t,.int i 0]}
variable {prog:Program}{w:World}{A:Around}{E:Value->Shared->Prop}{s:Shared}
def Qh (h1:s.heap.get? it=some (Ey t i))(h2:s.heap.get? t=some (v9 items n))(hx:items[i]?=some x)
  (h:∀h',h'.get? it=some (Ey t (i+1))->Heap.SameBut it s.heap h'->Q x {s with heap:=h'}):wpAny (model prog w) A (Builtin.SmallTypes.nextOf (.ref it)) Q E s:=by
 unfold Builtin.SmallTypes.nextOf
 have hT:s.TypeIs (.ref it) "tuple_iterator":=⟨_,h1,rfl⟩
 refine Aqq (wpAny_callSpecial?_slot (name:=Str.ofString "__next__") hT Aue (Ar9 Aue hT F.entry_tuple_iterator_next ?_ (F.args_tuple_iterator_next_1 _)))
 refine Aqq (m:=slotArgs "__next__" 0 ⟨[.ref it],[]⟩) (Aqt ?_)
 refine Aqq (Ase h1 rfl rfl ?_)
 refine Aqq (Ase h1 rfl rfl ?_)
 refine Aqq (m:=seqItems? (.ref t)) (Aqq (At4 h2 (Aqt ?_)))
 show wpAny _ _ (
    match items[((i:Nat):Int).toNat]? with
   |
    some x=>do
    setField (.ref it) 1 (rawInt ((i:Int)+1))
    ret x
   |
    none=>do
    rule _
    setField (.ref it) 0 Value.none
    Builtin.SmallTypes.stopIteration) _ _ _
 rw[Ar8,hx]
 refine Aqq (Asm h1 rfl dks ?_)
 have g1:(s.heap.update it (Obj.mapFields (·.setIfInBounds 1 (rawInt ((i:Int)+1))))).get? it=some (Ey t (i+1)):=Ari _ h1 rfl
 exact Aqt ⟨_,rfl,Aqt (h _ g1 (Arf ..))⟩
def ik (hh:A.handled=none)(h1:s.heap.get? it=some (Ey t i))(h2:s.heap.get? t=some (v9 items n))(hx:items[i]?=none)
  (h:∀h' q o,Heap.ExtBut it s.heap h'->s.heap.objs.size<=q->h'.get? q=some o->o.cls=.type "StopIteration"->E (.ref q) {s with heap:=h'}):wpAny (model prog w) A (Builtin.SmallTypes.nextOf (.ref it)) Q E s:=by
 unfold Builtin.SmallTypes.nextOf
 have hT:s.TypeIs (.ref it) "tuple_iterator":=⟨_,h1,rfl⟩
 refine Aqq (wpAny_callSpecial?_slot (name:=Str.ofString "__next__") hT Aue (Ar9 Aue hT F.entry_tuple_iterator_next ?_ (F.args_tuple_iterator_next_1 _)))
 refine Aqq (m:=slotArgs "__next__" 0 ⟨[.ref it],[]⟩) (Aqt ?_)
 refine Aqq (Ase h1 rfl rfl ?_)
 refine Aqq (Ase h1 rfl rfl ?_)
 refine Aqq (m:=seqItems? (.ref t)) (Aqq (At4 h2 (Aqt ?_)))
 show wpAny _ _ (
    match items[((i:Nat):Int).toNat]? with
   |
    some x=>do
    setField (.ref it) 1 (rawInt ((i:Int)+1))
    ret x
   |
    none=>do
    rule _
    setField (.ref it) 0 Value.none
    Builtin.SmallTypes.stopIteration) _ _ _
 rw[Ar8,hx]
 refine Aqq (As8 ?_)
 refine Aqq (Asm h1 rfl dks ?_)
 unfold Builtin.SmallTypes.stopIteration
 refine Aqq ?_
 simp only[newExc,newTuple]
 refine Aqq (Ar2 ?_ (by size_fits))
 refine Aqq (m:=firstArgMember _ _) (wpAny_of_eq (a:=Value.none) (by first|rfl|(simp only[firstArgMember];rfl)) ?_)
 refine Ar2 ?_ (by size_fits)
 simp only[raiseNew]
 refine Aqq (wpAny_handled ?_)
 rw[show A.in1.handled=none from hh]
 refine Aqq (Aqt (wpAny_throw ?_))
 exact h _ _ _ (((Arf ..).extBut.push _).push _) (by rw[Ar6];show _<=(s.heap.update _ _).objs.size+1;rw[(Arf ..).1];exact Au4 _) (Aq1 _ rfl) rfl
def Z3 (f0:Value)(b:Bool)(TI TO:Addr):Obj:={cls:=.type "zip",data:=.fields #[f0,.bool b,.bool false,.ref TI,.ref TO]}
abbrev Nk (a b:Value):Obj:={cls:=.type "tuple",data:=.seq #[a,b]}
def Ag3 (h:Q (s.heap.get? a) s):wpAny (model prog w) A (loadIfAlive a) Q E s:=λ_ _ _=>h
def Ade {z TI TO i1 i2 l1 l2:Addr}{b:Bool}{a0 b0:Value}{k:Nat}{n1 n2:TM}{xs ys:Array Value}{x y:Value}{Q:Option Value->Shared->Prop}
  (D:ZipApart z TI TO i1 i2 l1 l2) (hz:s.heap.get? z=some (Z3 .none b TI TO)) (hTI:s.heap.get? TI=some (Nk (.ref i1) (.ref i2))) (hTO:s.heap.get? TO=some (Nk a0 b0))
  (h1:s.heap.get? i1=some (Ey l1 k)) (h2:s.heap.get? i2=some (Ey l2 k)) (hl1:s.heap.get? l1=some (v9 xs n1)) (hl2:s.heap.get? l2=some (v9 ys n2)) (hx:xs[k]?=some x) (hy:ys[k]?=some y)
  (h:∀h' o,h'.get? z=some (Z3 (rawInt s.heap.objs.size) false TI TO)->h'.get? TO=some o->h'.get? i1=some (Ey l1 (k+1))->h'.get? i2=some (Ey l2 (k+1))->h'.get? s.heap.objs.size=some (Nk x y)->(∀c o,c≠z->c≠TO->c≠i1->c≠i2->s.heap.get? c=some o->h'.get? c=some o)->
   Q (some (.ref s.heap.objs.size)) {s with heap:=h'}):wpAny (model prog w) A (pyNext (.ref z)) Q E s:=by
 unfold pyNext
 have hT:s.TypeIs (.ref z) "zip":=⟨_,hz,rfl⟩
 refine Aqq (At1 (wpAny_callSpecial?_slot (name:=Str.ofString "__next__") hT Atq (Ar9 Atq hT Av3 ?_ (Avu _))))
 unfold Builtin.«zip.__next__»
 refine Aqq (m:=slotArgs "__next__" 0 ⟨[.ref z],[]⟩) (Aqt ?_)
 refine Aqq (Ase hz rfl rfl ?_)
 refine Aqq (Ase hz rfl rfl ?_)
 refine Aqq (m:=seqItems? (.ref TI)) (Aqq (At4 hTI (Aqt ?_)))
 refine Aqq (m:=Builtin.SmallTypes.ownedTupleIsFree (.ref z)) (Aqq (Ase hz rfl rfl (Aqt ?_)))
 refine Aqq (As8 ?_)
 refine Aqq (Ase hz rfl rfl ?_)
 refine Aqq (Asm hz rfl dks ?_)
 have sA:Heap.SameBut z s.heap (s.heap.update z (Obj.mapFields λx=>x.setIfInBounds 0 Value.ellipsis)):=Arf ..
 have gA:(s.heap.update z (Obj.mapFields λx=>x.setIfInBounds 0 Value.ellipsis)).get? z=some (Z3 .ellipsis b TI TO):=Ari _ hz rfl
 generalize s.heap.update z (Obj.mapFields λx=>x.setIfInBounds 0 Value.ellipsis)=hA at*
 show wpAny _ _ (forIn [(Value.ref i1,0),(Value.ref i2,1)] _ _>>=_) _ _ _
 rw[Atj]
 refine Aqq (Aqq (Aqq (wpAny_onRaise (Aqq (Qh (s:={s with heap:=hA}) ((sA.2 _ D.i1z).trans h1) ((sA.2 _ D.l1z).trans hl1) hx λhB gB sB=>Aqt ?_)))))
 have oB:hB.get? TO=some (Nk a0 b0):=(sB.2 _ D.TOi1).trans ((sA.2 _ D.TOz).trans hTO)
 refine Aqq (m:=seqItems? (.ref TO)) (Aqq (At4 oB (Aqt ?_)))
 refine Aqq (Aus oB rfl ?_)
 have sC:Heap.SameBut TO hB (hB.update TO (Obj.mapSeq λx_1=>x_1.setIfInBounds 0 x)):=Arf ..
 have gC:(hB.update TO (Obj.mapSeq λx_1=>x_1.setIfInBounds 0 x)).get? TO=some _:=Ari _ oB rfl
 generalize hB.update TO (Obj.mapSeq λx_1=>x_1.setIfInBounds 0 x)=hC at*
 refine Aqq (wpAny_letGo (Aqt ?_))
 show wpAny _ _ (forIn [(Value.ref i2,1)] _ _) _ _ _
 rw[Atj]
 refine Aqq (Aqq (wpAny_onRaise (Aqq (Qh (s:={s with heap:=hC}) ((sC.2 _ D.TOi2.symm).trans ((sB.2 _ D.i12.symm).trans ((sA.2 _ D.i2z).trans h2))) ((sC.2 _ D.l2TO).trans ((sB.2 _ D.l2i1).trans ((sA.2 _ D.l2z).trans hl2))) hy λhE gE sE=>Aqt ?_))))
 have oE:hE.get? TO=some _:=(sE.2 _ D.TOi2).trans gC
 refine Aqq (m:=seqItems? (.ref TO)) (Aqq (At4 oE (Aqt ?_)))
 refine Aqq (Aus (hz:=by seq_fits) oE rfl ?_)
 have sF:Heap.SameBut TO hE (hE.update TO (Obj.mapSeq λx_1=>x_1.setIfInBounds 1 y)):=Arf ..
 have gF:(hE.update TO (Obj.mapSeq λx_1=>x_1.setIfInBounds 1 y)).get? TO=some _:=Ari _ oE rfl
 generalize hE.update TO (Obj.mapSeq λx_1=>x_1.setIfInBounds 1 y)=hF at*
 refine Aqq (wpAny_letGo (Aqt (Aqt ?_)))
 refine Aqq (m:=seqItems? (.ref TO)) (Aqq (At4 gF (Aqt ?_)))
 have eF:hF.objs.size=s.heap.objs.size:=by rw[sF.1,sE.1,sC.1,sB.1,sA.1]
 show wpAny _ _ (newTuple [x,y]>>=_) _ _ _
 simp only[newTuple]
 refine Aqq (Ar2 ?_ (by size_fits))
 show wpAny _ _ (Builtin.SmallTypes.ownedTupleHandOut (.ref z) (.ref hF.objs.size)>>=_) _ _ {s with heap:=hF.push (Nk x y)}
 rw[eF]
 have zF:hF.get? z=some (Z3 .ellipsis b TI TO):=(sF.2 _ D.TOz.symm).trans ((sE.2 _ D.i2z.symm).trans ((sC.2 _ D.TOz.symm).trans ((sB.2 _ D.i1z.symm).trans gA)))
 have zG:(hF.push (Nk x y)).get? z=some (Z3 .ellipsis b TI TO):=Aqr _ zF
 have ltz:z<s.heap.objs.size:=Aqy hz
 refine Aqq (Aqq (m:=setField (.ref z) 0 (rawInt s.heap.objs.size)) (Asm (s:={s with heap:=hF.push (Nk x y)}) zG rfl dks ?_))
 have zH:((hF.push (Nk x y)).update z (Obj.mapFields λv=>v.setIfInBounds 0 (rawInt s.heap.objs.size))).get? z=some (Z3 (rawInt s.heap.objs.size) b TI TO):=Ari _ zG rfl
 have sH:Heap.SameBut z (hF.push (Nk x y)) ((hF.push (Nk x y)).update z (Obj.mapFields λv=>v.setIfInBounds 0 (rawInt s.heap.objs.size))):=Arf ..
 generalize (hF.push (Nk x y)).update z (Obj.mapFields λv=>v.setIfInBounds 0 (rawInt s.heap.objs.size))=hH at*
 refine Asm (s:={s with heap:=hH}) zH rfl dks ?_
 have zJ:(hH.update z (Obj.mapFields λv=>v.setIfInBounds 1 (.bool false))).get? z=some (Z3 (rawInt s.heap.objs.size) false TI TO):=Ari _ zH rfl
 have sJ:Heap.SameBut z hH (hH.update z (Obj.mapFields λv=>v.setIfInBounds 1 (.bool false))):=Arf ..
 generalize hH.update z (Obj.mapFields λv=>v.setIfInBounds 1 (.bool false))=hJ at*
 have up:∀c o,c≠z->hF.get? c=some o->hJ.get? c=some o:=λc o hc e=>(sJ.2 _ hc).trans ((sH.2 _ hc).trans (Aqr _ e))
 refine Aqt ⟨_,rfl,Aqt (h hJ _ zJ (up _ _ D.TOz gF) (up _ _ D.i1z ((sF.2 _ D.TOi1.symm).trans ((sE.2 _ D.i12).trans ((sC.2 _ D.TOi1.symm).trans gB)))) (up _ _ D.i2z ((sF.2 _ D.TOi2.symm).trans gE)) ?_ λc o n1 n2 n3 n4 e=>?_)⟩
 ·
  refine(sJ.2 _ (Asl ltz)).trans ((sH.2 _ (Asl ltz)).trans ?_)
  rw[←eF]
  exact Aq1 _ rfl
 · exact up c o n1 ((sF.2 _ n2).trans ((sE.2 _ n4).trans ((sC.2 _ n2).trans ((sB.2 _ n3).trans ((sA.2 _ n1).trans e)))))
def Afs {z TI TO i1 i2 l1 l2:Addr}{b:Bool}{k:Nat}{n1:TM}{xs:Array Value}{Q:Option Value->Shared->Prop}(hh:A.handled=none)
  (D:ZipApart z TI TO i1 i2 l1 l2) (hz:s.heap.get? z=some (Z3 .none b TI TO)) (hTI:s.heap.get? TI=some (Nk (.ref i1) (.ref i2)))
  (h1:s.heap.get? i1=some (Ey l1 k)) (hl1:s.heap.get? l1=some (v9 xs n1)) (hx:xs[k]?=none)
  (h:∀h',(∀c o,c≠z->c≠i1->s.heap.get? c=some o->h'.get? c=some o)->Q none {s with heap:=h'}):wpAny (model prog w) A (pyNext (.ref z)) Q E s:=by
 unfold pyNext
 have hT:s.TypeIs (.ref z) "zip":=⟨_,hz,rfl⟩
 refine Aqq (At1 (wpAny_callSpecial?_slot (name:=Str.ofString "__next__") hT Atq (Ar9 Atq hT Av3 ?_ (Avu _))))
 unfold Builtin.«zip.__next__»
 refine Aqq (m:=slotArgs "__next__" 0 ⟨[.ref z],[]⟩) (Aqt ?_)
 refine Aqq (Ase hz rfl rfl ?_)
 refine Aqq (Ase hz rfl rfl ?_)
 refine Aqq (m:=seqItems? (.ref TI)) (Aqq (At4 hTI (Aqt ?_)))
 refine Aqq (m:=Builtin.SmallTypes.ownedTupleIsFree (.ref z)) (Aqq (Ase hz rfl rfl (Aqt ?_)))
 refine Aqq (As8 ?_)
 refine Aqq (Ase hz rfl rfl ?_)
 refine Aqq (Asm hz rfl dks ?_)
 have sA:Heap.SameBut z s.heap (s.heap.update z (Obj.mapFields λx=>x.setIfInBounds 0 Value.ellipsis)):=Arf ..
 have gA:(s.heap.update z (Obj.mapFields λx=>x.setIfInBounds 0 Value.ellipsis)).get? z=some (Z3 .ellipsis b TI TO):=Ari _ hz rfl
 generalize s.heap.update z (Obj.mapFields λx=>x.setIfInBounds 0 Value.ellipsis)=hA at*
 show wpAny _ _ (forIn [(Value.ref i1,0),(Value.ref i2,1)] _ _>>=_) _ _ _
 rw[Atj]
 refine Aqq (Aqq (Aqq (wpAny_onRaise (Aqq (ik (s:={s with heap:=hA}) hh ((sA.2 _ D.i1z).trans h1) ((sA.2 _ D.l1z).trans hl1) hx λhB q o xB hq gq tq=>?_)))))
 have gB:hB.get? z=some (Z3 .ellipsis b TI TO):=xB _ _ D.i1z.symm gA
 refine Asm (s:={s with heap:=hB}) gB rfl dks ?_
 have sC:Heap.SameBut z hB (hB.update z (Obj.mapFields λx=>x.setIfInBounds 0 Value.none)):=Arf ..
 generalize hB.update z (Obj.mapFields λx=>x.setIfInBounds 0 Value.none)=hC at*
 have ltz:z<s.heap.objs.size:=Aqy hz
 have hq':s.heap.objs.size<=q:=by rw[←sA.1];exact hq
 refine Aqq (Av2 (T:="StopIteration") (b:=true) ⟨o,(sC.2 _ (λe=>absurd ltz (Avi.mpr (e▸hq')))).trans gq,tq⟩ isSubtype_stop ?_)
 exact Aqt (h hC λc o n1 n3 e=>(sC.2 _ n1).trans (xB _ _ n3 ((sA.2 _ n1).trans e)))
theorem Aee {z TI TO:Addr}{T:Nat}{b:Bool}{oT:Obj}(hz:s.heap.get? z=some (Z3 (rawInt (T:Int)) b TI TO))(hal:s.heap.get? T=some oT):
  wpAny (model prog w) A (Builtin.SmallTypes.ownedTupleIsFree (.ref z)) (λa s'=>a=false/\∃hA,s'={s with heap:=hA}/\hA.get? z=some (Z3 (rawInt (T:Int)) true TI TO)/\Heap.SameBut z s.heap hA) E s:=by
 refine Aqq (Ase hz rfl rfl (Aqq (Ag3 ?_)))
 show wpAny _ _ (if(s.heap.get? ((T:Int).toNat)).isNone=true then pure true else _) _ _ _
 rw[Ar8,hal,if_neg dks]
 refine Aqq (Ase hz rfl rfl ?_)
 cases b with
 | true=>exact Aqt ⟨rfl,s.heap,rfl,hz,Heap.SameBut.refl _ _⟩
 | false=>exact Aqq (Asm hz rfl dks (Aqt ⟨rfl,_,rfl,Ari _ hz rfl,Arf ..⟩))
def Aec {z TI TO i1 i2 l1 l2:Addr}{b:Bool}{T k:Nat}{n1 n2:TM}{xs ys:Array Value}{x y:Value}{Q:Option Value->Shared->Prop}{oT:Obj}
  (D:ZipApart z TI TO i1 i2 l1 l2) (hz:s.heap.get? z=some (Z3 (rawInt (T:Int)) b TI TO)) (hTI:s.heap.get? TI=some (Nk (.ref i1) (.ref i2))) (hal:s.heap.get? T=some oT)
  (h1:s.heap.get? i1=some (Ey l1 k)) (h2:s.heap.get? i2=some (Ey l2 k)) (hl1:s.heap.get? l1=some (v9 xs n1)) (hl2:s.heap.get? l2=some (v9 ys n2)) (hx:xs[k]?=some x) (hy:ys[k]?=some y)
  (h:∀h',h'.get? z=some (Z3 (rawInt (T:Int)) true TI TO)->h'.get? i1=some (Ey l1 (k+1))->h'.get? i2=some (Ey l2 (k+1))->h'.get? s.heap.objs.size=some (Nk x y)->(∀c o,c≠z->c≠i1->c≠i2->s.heap.get? c=some o->h'.get? c=some o)->
   Q (some (.ref s.heap.objs.size)) {s with heap:=h'}):wpAny (model prog w) A (pyNext (.ref z)) Q E s:=by
 unfold pyNext
 have hT:s.TypeIs (.ref z) "zip":=⟨_,hz,rfl⟩
 refine Aqq (At1 (wpAny_callSpecial?_slot (name:=Str.ofString "__next__") hT Atq (Ar9 Atq hT Av3 ?_ (Avu _))))
 unfold Builtin.«zip.__next__»
 refine Aqq (m:=slotArgs "__next__" 0 ⟨[.ref z],[]⟩) (Aqt ?_)
 refine Aqq (Ase hz rfl rfl ?_)
 refine Aqq (Ase hz rfl rfl ?_)
 refine Aqq (m:=seqItems? (.ref TI)) (Aqq (At4 hTI (Aqt ?_)))
 refine Aqq (thn (Aee hz hal) λa s' hz=>?_)
 obtain⟨ea,hA,es,gA,sA⟩:=hz
 subst ea es
 show wpAny _ _ (forIn #[Value.ref i1,Value.ref i2] _ _>>=_) _ _ _
 rw[←Array.forIn_toList]
 show wpAny _ _ (forIn [Value.ref i1,Value.ref i2] _ _>>=_) _ _ _
 rw[Atj]
 refine Aqq (Aqq (Aqq (Asn (Aqq (Qh (s:={s with heap:=hA}) ((sA.2 _ D.i1z).trans h1) ((sA.2 _ D.l1z).trans hl1) hx λhB gB sB=>Aqt (Aqt ?_))))))
 show wpAny _ _ (forIn [Value.ref i2] _ _) _ _ _
 rw[Atj]
 refine Aqq (Aqq (Asn (Aqq (Qh (s:={s with heap:=hB}) ((sB.2 _ D.i12.symm).trans ((sA.2 _ D.i2z).trans h2)) ((sB.2 _ D.l2i1).trans ((sA.2 _ D.l2z).trans hl2)) hy λhC gC sC=>Aqt (Aqt (Aqt ?_))))))
 have eC:hC.objs.size=s.heap.objs.size:=by rw[sC.1,sB.1,sA.1]
 show wpAny _ _ (newTuple [x,y]>>=_) _ _ {s with heap:=hC}
 simp only[newTuple]
 refine Aqq (Ar2 ?_ (by size_fits))
 refine Aqt ⟨_,rfl,Aqt ?_⟩
 show Q (some (.ref hC.objs.size)) {s with heap:=hC.push (Nk x y)}
 rw[eC]
 refine h _ (Aqr _ ((sC.2 _ D.i2z.symm).trans ((sB.2 _ D.i1z.symm).trans gA))) (Aqr _ ((sC.2 _ D.i12).trans gB)) (Aqr _ gC) ?_ λc o n1 n3 n4 e=>Aqr _ ((sC.2 _ n4).trans ((sB.2 _ n3).trans ((sA.2 _ n1).trans e)))
 rw[←eC]
 exact Aq1 _ rfl
def Agc {z TI TO i1 i2 l1 l2:Addr}{b:Bool}{T k:Nat}{n1:TM}{xs:Array Value}{Q:Option Value->Shared->Prop}{oT:Obj}(hh:A.handled=none)
  (D:ZipApart z TI TO i1 i2 l1 l2) (hz:s.heap.get? z=some (Z3 (rawInt (T:Int)) b TI TO)) (hTI:s.heap.get? TI=some (Nk (.ref i1) (.ref i2))) (hal:s.heap.get? T=some oT)
  (h1:s.heap.get? i1=some (Ey l1 k)) (hl1:s.heap.get? l1=some (v9 xs n1)) (hx:xs[k]?=none)
  (h:∀h',(∀c o,c≠z->c≠i1->s.heap.get? c=some o->h'.get? c=some o)->Q none {s with heap:=h'}):wpAny (model prog w) A (pyNext (.ref z)) Q E s:=by
 unfold pyNext
 have hT:s.TypeIs (.ref z) "zip":=⟨_,hz,rfl⟩
 refine Aqq (At1 (wpAny_callSpecial?_slot (name:=Str.ofString "__next__") hT Atq (Ar9 Atq hT Av3 ?_ (Avu _))))
 unfold Builtin.«zip.__next__»
 refine Aqq (m:=slotArgs "__next__" 0 ⟨[.ref z],[]⟩) (Aqt ?_)
 refine Aqq (Ase hz rfl rfl ?_)
 refine Aqq (Ase hz rfl rfl ?_)
 refine Aqq (m:=seqItems? (.ref TI)) (Aqq (At4 hTI (Aqt ?_)))
 refine Aqq (thn (Aee hz hal) λa s' hz=>?_)
 obtain⟨ea,hA,es,gA,sA⟩:=hz
 subst ea es
 show wpAny _ _ (forIn #[Value.ref i1,Value.ref i2] _ _>>=_) _ _ _
 rw[←Array.forIn_toList]
 show wpAny _ _ (forIn [Value.ref i1,Value.ref i2] _ _>>=_) _ _ _
 rw[Atj]
 refine Aqq (Aqq (Aqq (Asn (Aqq (ik (s:={s with heap:=hA}) hh ((sA.2 _ D.i1z).trans h1) ((sA.2 _ D.l1z).trans hl1) hx λhB q o xB hq gq tq=>?_)))))
 refine Aqq (Av2 (T:="StopIteration") (b:=true) ⟨o,gq,tq⟩ isSubtype_stop ?_)
 exact Aqt (h hB λc o n1 n3 e=>xB _ _ n3 ((sA.2 _ n1).trans e))
def vd:isSubtype (.type "zip") (.type "zip")=pure true:=F.called_zip.sub
def Ai7 (h:Q (.type "zip",[a,b]) s):wpAny (model prog w) A (Builtin.SmallTypes.newClass "zip" ⟨[.type "zip",a,b],[]⟩) Q E s:=by
 unfold Builtin.SmallTypes.newClass
 have hsub:=vd
 wp_walk
 exact h
def Afc (h1:s.heap.get? l1=some (v9 xs n1))(h2:s.heap.get? l2=some (v9 ys n2))
  (h:∀h',h'.get? (s.heap.objs.size+4)=some (Z3 .none false (s.heap.objs.size+2) (s.heap.objs.size+3))->h'.get? (s.heap.objs.size+2)=some (Nk (.ref s.heap.objs.size) (.ref (s.heap.objs.size+1)))->h'.get? (s.heap.objs.size+3)=some (Nk .none .none)->
   h'.get? s.heap.objs.size=some (Ey l1 0)->h'.get? (s.heap.objs.size+1)=some (Ey l2 0)->(∀c o,s.heap.get? c=some o->h'.get? c=some o)->Q₁ (.ref (s.heap.objs.size+4)) {s with heap:=h'}):
  codeAny (model prog w) A (.call (.builtin "zip.__new__") ⟨[.type "zip",.ref l1,.ref l2],[]⟩) (wants Q₁ E) s:=by
 refine Auu ?_
 show wpAny _ A.in1 (do checkBuiltinCall "zip.__new__" ⟨[.type "zip",.ref l1,.ref l2],[]⟩;again (.builtin "zip.__new__" ⟨[.type "zip",.ref l1,.ref l2],[]⟩)) _ _ s
 refine Aqq (wpAny_of_eq (F.newCall_zip_2 _ _) (Aqt ⟨Aut F.called_zip.plain _,Asg F.entry_zip_new ?_⟩))
 rw[Asv F.called_zip.plain _]
 unfold Builtin.«zip.__new__»
 refine Aqq (Ai7 ?_)
 show wpAny _ _ (Builtin.SmallTypes.iterAll [.ref l1,.ref l2]>>=_) _ _ s
 unfold Builtin.SmallTypes.iterAll
 show wpAny _ _ ((forIn [Value.ref l1,Value.ref l2] (#[]:Array Value) _>>=_)>>=_) _ _ s
 rw[Atj]
 refine Aqq (Aqq (Aqq (Aqq (Asn (Avq ⟨_,h1,rfl,n1.1,rfl⟩ (Aqt ?_))))))
 have k1:∀c o,s.heap.get? c=some o->(s.heap.push (Ey l1 0)).get? c=some o:=λc o e=>Aqr _ e
 have g1:(s.heap.push (Ey l1 0)).get? s.heap.objs.size=some (Ey l1 0):=Aq1 _ rfl
 have z1:(s.heap.push (Ey l1 0)).objs.size=s.heap.objs.size+1:=Ar6 ..
 show wpAny _ _ (forIn [Value.ref l2] (#[].push (Value.ref s.heap.objs.size)) _) _ _ {s with heap:=s.heap.push (Ey l1 0)}
 generalize s.heap.push (Ey l1 0)=hA at*
 rw[Atj]
 refine Aqq (Aqq (Asn (Avq (s:={s with heap:=hA}) ⟨_,k1 _ _ h2,rfl,n2.1,rfl⟩ (Aqt ?_))))
 have k2:∀c o,hA.get? c=some o->(hA.push (Ey l2 0)).get? c=some o:=λc o e=>Aqr _ e
 have g2:(hA.push (Ey l2 0)).get? hA.objs.size=some (Ey l2 0):=Aq1 _ rfl
 have z2:(hA.push (Ey l2 0)).objs.size=hA.objs.size+1:=Ar6 ..
 show wpAny _ _ (forIn [] ((#[].push (Value.ref s.heap.objs.size)).push (Value.ref hA.objs.size)) _) _ _ {s with heap:=hA.push (Ey l2 0)}
 generalize hA.push (Ey l2 0)=hB at*
 rw[z1] at g2 z2 ⊢
 rw[List.forIn_nil]
 refine Aqt (Aqt ?_)
 show wpAny _ _ (newTuple [.ref s.heap.objs.size,.ref (s.heap.objs.size+1)]>>=_) _ _ {s with heap:=hB}
 simp only[newTuple]
 refine Aqq (Ar2 ?_ (by size_fits))
 have k3:∀c o,hB.get? c=some o->(hB.push (Nk (.ref s.heap.objs.size) (.ref (s.heap.objs.size+1)))).get? c=some o:=λc o e=>Aqr _ e
 have g3:(hB.push (Nk (.ref s.heap.objs.size) (.ref (s.heap.objs.size+1)))).get? hB.objs.size=some (Nk (.ref s.heap.objs.size) (.ref (s.heap.objs.size+1))):=Aq1 _ rfl
 have z3:(hB.push (Nk (.ref s.heap.objs.size) (.ref (s.heap.objs.size+1)))).objs.size=hB.objs.size+1:=Ar6 ..
 show wpAny _ _ _ _ _ {s with heap:=hB.push (Nk (.ref s.heap.objs.size) (.ref (s.heap.objs.size+1)))}
 generalize hB.push (Nk (.ref s.heap.objs.size) (.ref (s.heap.objs.size+1)))=hC at*
 show wpAny _ _ (newTuple [.none,.none]>>=_) _ _ {s with heap:=hC}
 simp only[newTuple]
 refine Aqq (Ar2 ?_ (by size_fits))
 have k4:∀c o,hC.get? c=some o->(hC.push (Nk .none .none)).get? c=some o:=λc o e=>Aqr _ e
 have g4:(hC.push (Nk .none .none)).get? hC.objs.size=some (Nk .none .none):=Aq1 _ rfl
 have z4:(hC.push (Nk .none .none)).objs.size=hC.objs.size+1:=Ar6 ..
 show wpAny _ _ _ _ _ {s with heap:=hC.push (Nk .none .none)}
 generalize hC.push (Nk .none .none)=hD at*
 have e2:hB.objs.size=s.heap.objs.size+2:=z2
 have e3:hC.objs.size=s.heap.objs.size+3:=by rw[z3,e2]
 have e4:hD.objs.size=s.heap.objs.size+4:=by rw[z4,e3]
 rw[e2] at g3
 rw[e3] at g4
 show wpAny _ _ (newObj (.type "zip") (.fields #[.none,.bool false,.bool false,.ref hB.objs.size,.ref hC.objs.size])>>=_) _ _ {s with heap:=hD}
 rw[e2,e3]
 refine Aqq (Ar2 ?_ (by size_fits))
 show wpAny _ _ (ret (.ref hD.objs.size)) _ _ {s with heap:=hD.push (Z3 .none false (s.heap.objs.size+2) (s.heap.objs.size+3))}
 rw[e4]
 have k5:∀c o,hD.get? c=some o->(hD.push (Z3 .none false (s.heap.objs.size+2) (s.heap.objs.size+3))).get? c=some o:=λc o e=>Aqr _ e
 have g5:(hD.push (Z3 .none false (s.heap.objs.size+2) (s.heap.objs.size+3))).get? (s.heap.objs.size+4)=some (Z3 .none false (s.heap.objs.size+2) (s.heap.objs.size+3)):=by rw[←e4];exact Aq1 _ rfl
 exact Aqt (h _ g5 (k5 _ _ (k4 _ _ g3)) (k5 _ _ g4) (k5 _ _ (k4 _ _ (k3 _ _ (k2 _ _ g1)))) (k5 _ _ (k4 _ _ (k3 _ _ g2))) λc o e=>k5 _ _ (k4 _ _ (k3 _ _ (k2 _ _ (k1 _ _ e)))))
theorem Acw (h1:s.heap.get? l1=some (v9 xs n1))(h2:s.heap.get? l2=some (v9 ys n2))
  (h:∀h',h'.get? (s.heap.objs.size+4)=some (Z3 .none false (s.heap.objs.size+2) (s.heap.objs.size+3))->h'.get? (s.heap.objs.size+2)=some (Nk (.ref s.heap.objs.size) (.ref (s.heap.objs.size+1)))->h'.get? (s.heap.objs.size+3)=some (Nk .none .none)->
   h'.get? s.heap.objs.size=some (Ey l1 0)->h'.get? (s.heap.objs.size+1)=some (Ey l2 0)->(∀c o,s.heap.get? c=some o->h'.get? c=some o)->Q (.ref (s.heap.objs.size+4)) {s with heap:=h'}):
  wpAny (model prog w) A (call (.type "zip") [.ref l1,.ref l2]) Q E s:=by
 obtain⟨c,tl,hmro⟩:=F.called_zip.mro
 have m1:=F.called_zip.made
 have m2:=F.called_zip.sub
 have m3:=F.called_zip.notType
 have m4:=F.called_zip.canCreate
 have m5:=F.typeCall_zip_2 (.ref l1) (.ref l2)
 refine Ave (Auu ?_)
 show wpAny _ _ (callAny (.type "zip") _) _ _ _
 refine Aqt ⟨At7 _ dkk,Asg Avt ?_⟩
 rw[Avr (Au2 "zip" [.ref l1,.ref l2] []) rfl]
 repeat (any_goals (first|assumption|wp_step))
 refine As7 (Afc (E:=E) (Q₁:=λv s1=>v=.ref (s.heap.objs.size+4)/\∃h',s1={s with heap:=h'}/\h'.get? (s.heap.objs.size+4)=some (Z3 .none false (s.heap.objs.size+2) (s.heap.objs.size+3))/\h'.get? (s.heap.objs.size+2)=some (Nk (.ref s.heap.objs.size) (.ref (s.heap.objs.size+1)))/\h'.get? (s.heap.objs.size+3)=some (Nk .none .none)/\
   h'.get? s.heap.objs.size=some (Ey l1 0)/\h'.get? (s.heap.objs.size+1)=some (Ey l2 0)/\∀c o,s.heap.get? c=some o->h'.get? c=some o) h1 h2 λh' a1 a2 a3 a4 a5 a6=>⟨rfl,h',rfl,a1,a2,a3,a4,a5,a6⟩) λr s1 hr=>?_
 rcases r with e|f
 · exact hr
 cases f with
 |
  ret v=>
  obtain⟨rfl,h',rfl,a1,a2,a3,a4,a5,a6⟩:=hr
  have hT:Shared.TypeIs {s with heap:=h'} (.ref (s.heap.objs.size+4)) "zip":=⟨_,a1,rfl⟩
  have i1:=F.called_zip.init.lookup
  have i2:=F.called_zip.init.bind (.ref (s.heap.objs.size+4))
  repeat (any_goals (first|assumption|wp_step))
  refine Auf F.called_zip.init.plain F.entry_object_init (F.called_zip.init.check _ _ _ _ _ _ _ _ hT (F.args_object_init_3 _ _ _) ?_)
  show wpAny _ _ (Builtin.«object.__init__» ⟨[.ref (s.heap.objs.size+4),.ref l1,.ref l2],[]⟩) _ _ _
  unfold Builtin.«object.__init__»
  wp_walk
  exact h h' a1 a2 a3 a4 a5 a6
 | _=>exact hr.elim
structure ZSt (N:Nat)(z TI TO i1 i2 l1 l2:Addr)(xs ys:Array Value)(n1 n2:TM)(h:Heap)(i:Nat)(ts:List Addr):Prop where
 ti:h.get? TI=some (Nk (.ref i1) (.ref i2))
 a1:h.get? i1=some (Ey l1 i)
 a2:h.get? i2=some (Ey l2 i)
 b1:h.get? l1=some (v9 xs n1)
 b2:h.get? l2=some (v9 ys n2)
 fl:(∃a0 b0,h.get? z=some (Z3 .none false TI TO)/\h.get? TO=some (Nk a0 b0))∨∃(T:Nat)(b:Bool),h.get? z=some (Z3 (rawInt (T:Int)) b TI TO)/\T∈ts
 len:ts.length=i
 prs:∀(j:Nat)(T:Addr),ts[j]?=some T->N<=T/\∃x y,xs[j]?=some x/\ys[j]?=some y/\h.get? T=some (Nk x y)
structure ZAp (N:Nat)(z TI TO i1 i2 l1 l2 S:Addr):Prop extends ZipApart z TI TO i1 i2 l1 l2 where
 lz:z<N
 lTI:TI<N
 lTO:TO<N
 li1:i1<N
 li2:i2<N
 ll1:l1<N
 ll2:l2<N
 lS:S<N
 Sz:S≠z
 STI:S≠TI
 STO:S≠TO
 Si1:S≠i1
 Si2:S≠i2
 Sl1:S≠l1
 Sl2:S≠l2
abbrev v7 (ts:List Addr)(c:Nat):Obj:={cls:=.type "list",data:=.seq (ts.map Value.ref).toArray c}
theorem Agj {N:Nat}{z TI TO i1 i2 l1 l2 S:Addr}{xs ys:Array Value}{n1 n2:TM}{R:Result->Shared->Prop}{res:Value}(hh:A.handled=none)(D:ZAp N z TI TO i1 i2 l1 l2 S)(hxy:xs.size=ys.size)(hsz:xs.size<=1000):
  ∀(k i:Nat)(s:Shared)(ts:List Addr)(c:Nat),xs.size-i=k->i<=xs.size->ZSt N z TI TO i1 i2 l1 l2 xs ys n1 n2 s.heap i ts->s.heap.get? S=some (v7 ts c)->N<=s.heap.objs.size->
   (∀h' ts' c',(∀b o,b≠z->b≠TO->b≠i1->b≠i2->b≠S->s.heap.get? b=some o->h'.get? b=some o)->h'.get? S=some (v7 ts' c')->ts'.length=xs.size->(∀(j:Nat)(T:Addr),ts'[j]?=some T->N<=T/\∃x y,xs[j]?=some x/\ys[j]?=some y/\h'.get? T=some (Nk x y))->R (.ok (.ret res)) {s with heap:=h'})->
   codeAny (model prog w) A (.builtin "list.extend.loop" ⟨[.ref S,.ref z,res],[]⟩) R s:=by
 intro k
 induction k with
 |
  zero=>
  intro i s ts c hk hi Z hS hN hR
  have e:i=xs.size:=by lia
  have hx:xs[i]?=none:=by rw[Array.getElem?_eq_none_iff];lia
  refine Asg F.entry_extend_loop ?_
  rw[Asv Avf _]
  show wpAny _ A.in1 (pyNext (.ref z)>>=_) _ _ s
  have fin:∀h',(∀c o,c≠z->c≠i1->s.heap.get? c=some o->h'.get? c=some o)->R (.ok (.ret res)) {s with heap:=h'}:=λh' kp=>
   hR h' ts c (λb o q1 q2 q3 q4 q5 e=>kp b o q1 q3 e) (kp _ _ D.Sz D.Si1 hS) (by rw[Z.len];exact e) λj T hj=>by
    obtain⟨p1,x,y,p2,p3,p4⟩:=Z.prs j T hj
    exact⟨p1,x,y,p2,p3,kp _ _ (λq=>absurd D.lz (Avi.mpr (q▸p1))) (λq=>absurd D.li1 (Avi.mpr (q▸p1))) p4⟩
  rcases Z.fl with⟨a0,b0,f1,f2⟩|⟨T,b,f1,f2⟩
  · exact Aqq (Afs (A:=A.in1) hh D.toZipApart f1 Z.ti Z.a1 Z.b1 hx λh' kp=>Aqt (fin h' kp))
  ·
   obtain⟨j,hj⟩:=Ar5 f2
   obtain⟨_,x,y,_,_,p4⟩:=Z.prs j T hj
   exact Aqq (Agc (A:=A.in1) hh D.toZipApart f1 Z.ti p4 Z.a1 Z.b1 hx λh' kp=>Aqt (fin h' kp))
 |
  succ k ih=>
  intro i s ts c hk hi Z hS hN hR
  have hlt:i<xs.size:=by lia
  have hx:xs[i]?=some xs[i]:=Arh hlt
  have hy:ys[i]?=some (ys[i]'dkl):=Arh dkl
  generalize xs[i]=x at hx
  generalize ys[i]'dkl=y at hy
  refine Asg F.entry_extend_loop ?_
  rw[Asv Avf _]
  show wpAny _ A.in1 (pyNext (.ref z)>>=_) _ _ s
  have nn:∀{b:Addr},b<N->b≠s.heap.objs.size:=λh e=>absurd (Arq h hN) (by rw[e];exact Asd _)
  have nT:∀{b T:Addr},b<N->N<=T->T≠b:=λh1 h2 e=>absurd h1 (Avi.mpr (e▸h2))
  have old:∀{T:Addr},T∈ts->N<=T/\∃o,s.heap.get? T=some o:=λh=>by
   obtain⟨j,hj⟩:=Ar5 h
   obtain⟨p1,_,_,_,_,p4⟩:=Z.prs j _ hj
   exact⟨p1,_,p4⟩
  have go:∀(h':Heap),((∃(T:Nat)(b:Bool),h'.get? z=some (Z3 (rawInt (T:Int)) b TI TO)/\T∈ts++[s.heap.objs.size]))->h'.get? i1=some (Ey l1 (i+1))->h'.get? i2=some (Ey l2 (i+1))->h'.get? s.heap.objs.size=some (Nk x y)->s.heap.objs.size<=h'.objs.size->(∀c o,c≠z->c≠TO->c≠i1->c≠i2->s.heap.get? c=some o->h'.get? c=some o)->
    wpAny (model prog w) A.in1 (do Builtin.List.listUpdate (.ref S) (λq=>q.push (.ref s.heap.objs.size));again (.builtin "list.extend.loop" ⟨[.ref S,.ref z,res],[]⟩)) (λfin s'=>match fin with
      | .done f=>R (.ok f) s'
      | .again c'=>c'.quiet=true/\codeAny (model prog w) A c' R s') (λe s'=>R (.error e) s') {s with heap:=h'}:=λh' hf g1 g2 g3 gs kp=>by
   have hS':h'.get? S=some (v7 ts c):=kp _ _ D.Sz D.STO D.Si1 D.Si2 hS
   refine Aqq (listUpdate_at (s:={s with heap:=h'}) hS' rfl ?_ (by simp only[Aq2,Aqv];rw[Z.len];exact Aq3 (by lia:i<=1000) dkd) (by simp only[As6,Aq2,Aqv];rw[Z.len];exact Aq3 (by lia:i+1<=1000) dkd))
   have sU:Heap.SameBut S h' (h'.update S (Obj.mapSeq λq=>q.push (.ref s.heap.objs.size))):=Arf ..
   have gU:(h'.update S (Obj.mapSeq λq=>q.push (.ref s.heap.objs.size))).get? S=some (v7 (ts++[s.heap.objs.size]) (c+1)):=by
    refine(Ari _ hS' rfl).trans ?_
    simp[Obj.mapSeq,v7]
   generalize h'.update S (Obj.mapSeq λq=>q.push (.ref s.heap.objs.size))=hU at*
   refine Aqt ⟨Aut Avf _,ih (i+1) {s with heap:=hU} (ts++[s.heap.objs.size]) (c+1) dkl hlt ?_ gU (by show N<=hU.objs.size;rw[sU.1];exact Aq3 hN gs) λh2 ts' c' kp2 q1 q2 q3=>?_⟩
   ·
    have up:∀{b:Addr}{o:Obj},b≠z->b≠TO->b≠i1->b≠i2->b≠S->s.heap.get? b=some o->hU.get? b=some o:=λn1 n2 n3 n4 n5 e=>(sU.2 _ n5).trans (kp _ _ n1 n2 n3 n4 e)
    refine⟨up D.TIz D.TITO D.TIi1 D.TIi2 D.STI.symm Z.ti,(sU.2 _ D.Si1.symm).trans g1,(sU.2 _ D.Si2.symm).trans g2,up D.l1z D.l1TO D.l1i1 D.l1i2 D.Sl1.symm Z.b1,up D.l2z D.l2TO D.l2i1 D.l2i2 D.Sl2.symm Z.b2,?_,by rw[Aqw,Z.len];rfl,λj T hj=>?_⟩
    ·
     obtain⟨T,b,f1,f2⟩:=hf
     exact .inr ⟨T,b,(sU.2 _ D.Sz.symm).trans f1,f2⟩
    ·
     by_cases hj':j<ts.length
     ·
      rw[Ate hj'] at hj
      obtain⟨p1,x',y',p2,p3,p4⟩:=Z.prs j T hj
      exact⟨p1,x',y',p2,p3,up (nT D.lz p1) (nT D.lTO p1) (nT D.li1 p1) (nT D.li2 p1) (nT D.lS p1) p4⟩
     ·
      rw[As9 dkl] at hj
      have hj2:j-ts.length=0:=by
       have:=(Aq5.mp hj).1
       simp at this
       lia
      rw[hj2] at hj
      cases hj
      have:j=i:=by rw[←Z.len];lia
      subst this
      exact⟨hN,x,y,hx,hy,(sU.2 _ (nn D.lS).symm).trans g3⟩
   · exact hR h2 ts' c' (λb o n1 n2 n3 n4 n5 e=>kp2 b o n1 n2 n3 n4 n5 ((sU.2 _ n5).trans (kp _ _ n1 n2 n3 n4 e))) q1 q2 q3
  rcases Z.fl with⟨a0,b0,f1,f2⟩|⟨T,b,f1,f2⟩
  · exact Aqq (Ade (A:=A.in1) D.toZipApart f1 Z.ti f2 Z.a1 Z.a2 Z.b1 Z.b2 hx hy λh' o g0 g1 g2 g3 g4 kp=>go h' ⟨_,_,g0,Aq8 _ (List.mem_singleton.mpr rfl)⟩ g2 g3 g4 (Atl (Aqy g4)) kp)
  ·
   obtain⟨p1,oT,p4⟩:=old f2
   exact Aqq (Aec (A:=A.in1) D.toZipApart f1 Z.ti p4 Z.a1 Z.a2 Z.b1 Z.b2 hx hy λh' g0 g2 g3 g4 kp=>go h' ⟨T,true,g0,Asa _ f2⟩ g2 g3 g4 (Atl (Aqy g4)) λc o n1 n2 n3 n4 e=>kp c o n1 n3 n4 e)
def Aak:typeLookup (.type "zip") (Str.ofString "__len__")=pure none:=by rw[Awd,Au3];kernel_rfl
def wj:typeLookup (.type "zip") (Str.ofString "__length_hint__")=pure none:=by rw[Awd,Au3];kernel_rfl
def Ag4 (hT:s.TypeIs (.ref z) "zip")(h:Q true s):wpAny (model prog w) A (Builtin.List.listLengthHint (.ref z)) Q E s:=by
 unfold Builtin.List.listLengthHint
 refine Aqq (Awb hT Aak ?_)
 refine Atp (λq=>absurd q dkk) (λ_=>?_)
 refine Atp (λq=>absurd q dkd) (λ_=>?_)
 refine Aqq (Awb hT wj ?_)
 exact Aqt h
theorem Aal {z TI TO i1 i2 l1 l2:Addr}{xs ys:Array Value}{n1 n2:TM}{Q:Value->Shared->Prop}(hh:A.handled=none)(D:ZipApart z TI TO i1 i2 l1 l2)(hxy:xs.size=ys.size)(hsz:xs.size<=1000)
  (hz:s.heap.get? z=some (Z3 .none false TI TO)) (hTO:s.heap.get? TO=some (Nk .none .none)) (ti:s.heap.get? TI=some (Nk (.ref i1) (.ref i2))) (a1:s.heap.get? i1=some (Ey l1 0)) (a2:s.heap.get? i2=some (Ey l2 0)) (b1:s.heap.get? l1=some (v9 xs n1)) (b2:s.heap.get? l2=some (v9 ys n2))
  (h:∀h' ts c,(∀b o,b≠z->b≠TO->b≠i1->b≠i2->s.heap.get? b=some o->h'.get? b=some o)->h'.get? s.heap.objs.size=some (v7 ts c)->ts.length=xs.size->(∀(j:Nat)(T:Addr),ts[j]?=some T->s.heap.objs.size<=T/\∃x y,xs[j]?=some x/\ys[j]?=some y/\h'.get? T=some (Nk x y))->Q (.ref s.heap.objs.size) {s with heap:=h'}):
  wpAny (model prog w) A (call (.type "list") [.ref z]) Q E s:=by
 obtain⟨c,tl,hmro⟩:=F.called_list.mro
 have m1:=F.called_list.made
 have m2:=F.called_list.sub
 have m3:=F.called_list.notType
 have m4:=F.called_list.canCreate
 have m5:=F.typeCall_list_1 (.ref z)
 refine Ave (Auu ?_)
 show wpAny _ _ (callAny (.type "list") _) _ _ _
 refine Aqt ⟨At7 _ dkk,Asg Avt ?_⟩
 rw[Avr (Au2 "list" [.ref z] []) rfl]
 repeat (any_goals (first|assumption|wp_step))
 refine As7 (code_list_new (.ref z) (E:=E) (Q₁:=λv s1=>v=.ref s.heap.objs.size/\s1={s with heap:=s.heap.push (v7 [] 0)}) ⟨rfl,rfl⟩) λr s1 hr=>?_
 rcases r with e|f
 · exact hr
 cases f with
 |
  ret v=>
  obtain⟨rfl,rfl⟩:=hr
  have hS:(s.heap.push (v7 [] 0)).get? s.heap.objs.size=some (v7 [] 0):=Aq1 _ rfl
  have kp0:∀b o,s.heap.get? b=some o->(s.heap.push (v7 [] 0)).get? b=some o:=λb o e=>Aqr _ e
  have sz0:(s.heap.push (v7 [] 0)).objs.size=s.heap.objs.size+1:=Ar6 ..
  generalize s.heap.push (v7 [] 0)=hA at*
  have hT:Shared.TypeIs {s with heap:=hA} (.ref s.heap.objs.size) "list":=⟨_,hS,rfl⟩
  have i1':=F.called_list.init.lookup
  have i2':=F.called_list.init.bind (.ref s.heap.objs.size)
  repeat (any_goals (first|assumption|wp_step))
  refine As7 (Auf (R:=wants (λr s2=>r=.none/\∃h' ts c,s2={s with heap:=h'}/\(∀b o,b≠z->b≠TO->b≠i1->b≠i2->s.heap.get? b=some o->h'.get? b=some o)/\h'.get? s.heap.objs.size=some (v7 ts c)/\ts.length=xs.size/\(∀(j:Nat)(T:Addr),ts[j]?=some T->s.heap.objs.size<=T/\∃x y,xs[j]?=some x/\ys[j]?=some y/\h'.get? T=some (Nk x y))) E) F.called_list.init.plain F.entry_list_init (F.called_list.init.check _ _ _ _ _ _ _ _ hT (F.args_list_init_2 _ _) ?_)) λr2 s2 h2=>?_
  ·
   show wpAny _ A.in1.in1 (Builtin.«list.__init__» ⟨[.ref s.heap.objs.size,.ref z],[]⟩) _ _ _
   unfold Builtin.«list.__init__»
   generalize hLE:Builtin.List.listExtendWith=LE
   wp_walk
   subst hLE
   have sB:Heap.SameBut s.heap.objs.size hA (hA.update s.heap.objs.size (Obj.mapSeq λx=>#[])):=Arf ..
   obtain⟨cB,gB⟩:∃c,(hA.update s.heap.objs.size (Obj.mapSeq λx=>#[])).get? s.heap.objs.size=some (v7 [] c):=⟨_,Ari _ hS rfl⟩
   generalize hA.update s.heap.objs.size (Obj.mapSeq λx=>#[])=hB at*
   have kpB:∀b o,s.heap.get? b=some o->hB.get? b=some o:=λb o e=>(sB.2 _ (Arc (Aqy e))).trans (kp0 _ _ e)
   have hzS:s.heap.objs.size≠z:=Asl (Aqy hz)
   unfold Builtin.List.listExtendWith
   refine Aqq (Avp (T:="zip") ⟨_,kpB _ _ hz,rfl⟩ ?_)
   have e1:Builtin.List.listSameRef (.ref s.heap.objs.size) (.ref z)=false:=by simp[Builtin.List.listSameRef,hzS]
   have e2:(Value.type "zip"==Value.type "list")=false:=by decide
   have e3:(Value.type "zip"==Value.type "tuple")=false:=by decide
   simp only[e1,e2,e3,Avo,Atd,Av1]
   refine Aqq (wpAny_pyIter_zip (s:={s with heap:=hB}) (TI:=TI) (TO:=TO) (f0:=.none) (kpB _ _ hz) ?_)
   refine Aqq (Asn (Ag4 (s:={s with heap:=hB}) ⟨_,kpB _ _ hz,rfl⟩ ?_))
   refine Atp (λ_=>?_) (λq=>absurd (by rw[Avy]) q)
   refine Aqq (As8 (Aqq ?_))
   show wpAny _ _ (updateSeq s.heap.objs.size (·.push .none)>>= λ_=>updateSeq s.heap.objs.size (·.pop)) _ _ {s with heap:=hB}
   refine Aqq (Aus (s:={s with heap:=hB}) gB rfl ?_)
   have g2:=Ari (Obj.mapSeq (·.push Value.none)) gB rfl
   have s2:Heap.SameBut s.heap.objs.size hB (hB.update s.heap.objs.size (Obj.mapSeq (·.push Value.none))):=Arf ..
   generalize hB.update s.heap.objs.size (Obj.mapSeq (·.push Value.none))=hC at*
   refine Aus (s:={s with heap:=hC}) (hz:=by seq_fits) g2 rfl ?_
   obtain⟨cD,g3⟩:∃c,(hC.update s.heap.objs.size (Obj.mapSeq (·.pop))).get? s.heap.objs.size=some (v7 [] c):=⟨_,Ari _ g2 rfl⟩
   have s3:Heap.SameBut s.heap.objs.size hC (hC.update s.heap.objs.size (Obj.mapSeq (·.pop))):=Arf ..
   generalize hC.update s.heap.objs.size (Obj.mapSeq (·.pop))=hD at*
   have kpD:∀b o,s.heap.get? b=some o->hD.get? b=some o:=λb o e=>(s3.2 _ (Arc (Aqy e))).trans ((s2.2 _ (Arc (Aqy e))).trans (kpB _ _ e))
   have szD:hD.objs.size=s.heap.objs.size+1:=by rw[s3.1,s2.1,sB.1,sz0]
   have lt:∀{b:Addr}{o:Obj},s.heap.get? b=some o->b<s.heap.objs.size+1:=λe=>Asw (Aqy e)
   have ne:∀{b:Addr}{o:Obj},s.heap.get? b=some o->s.heap.objs.size≠b:=λe=>Asl (Aqy e)
   refine Aqt ⟨Aut Avf _,Agj (N:=s.heap.objs.size+1) (A:=A.in1) hh ⟨D,lt hz,lt ti,lt hTO,lt a1,lt a2,lt b1,lt b2,Asj _,ne hz,ne ti,ne hTO,ne a1,ne a2,ne b1,ne b2⟩ hxy hsz xs.size 0 {s with heap:=hD} [] cD rfl (Ar3 _) ⟨kpD _ _ ti,kpD _ _ a1,kpD _ _ a2,kpD _ _ b1,kpD _ _ b2,.inl ⟨_,_,kpD _ _ hz,kpD _ _ hTO⟩,rfl,λj T hj=>nomatch hj⟩ g3 (by show _<=hD.objs.size;rw[szD];exact Aq0 _) λh' ts' c' kp q1 q2 q3=>?_⟩
   exact⟨rfl,h',ts',c',rfl,λb o n1 n2 n3 n4 e=>kp b o n1 n2 n3 n4 (Arc (Aqy e)) (kpD _ _ e),q1,q2,λj T hj=>let ⟨p1,p2⟩:=q3 j T hj;⟨Nat.le_of_succ_le p1,p2⟩⟩
  ·
   rcases r2 with e|f2
   · exact h2
   cases f2 with
   |
    ret r=>
    obtain⟨rfl,h',ts,c',rfl,q1,q2,q3,q4⟩:=h2
    repeat (any_goals (first|assumption|wp_step))
    exact h h' ts c' q1 q2 q3 q4
   | _=>exact h2.elim
 | _=>exact hr.elim
def Age (I:Inv X pins σ H s)(k:∀b u,s.heap.get? b=some u->h'.get? b=some u)(hS:s.heap.objs.size<=S)
  (hSo:h'.get? S=some (v7 (rs.map (·.1)) c)) (hz:rs.length<=sizeLine) (hr:∀x∈rs,s.heap.objs.size<=x.1/\∃t u,h'.get? x.1=some (Nk (.int x.2.1 t) (.int x.2.2 u))):
  ∃H',Inv X pins σ H' {s with heap:=h'}/\Same H H'/\H' S=some (.lst (refs rs))/\RowOk H' rs:=by
 let H':Hp:=λb=>if b=S then some (.lst (refs rs)) else match rs.find? λx=>decide (x.1=b) with
  | some x=>some (.tup [.int x.2.1,.int x.2.2])
  | none=>H b
 have hs:H' S=some (.lst (refs rs)):=if_pos rfl
 have hnS:∀x∈rs,x.1≠S:=λx hx e=>by
  obtain⟨_,t,u,h1⟩:=hr x hx
  rw[e,hSo] at h1
  have h1:=At5 Obj.cls (Arl h1)
  simp at h1
 have hrow:∀x∈rs,H' x.1=some (.tup [.int x.2.1,.int x.2.2]):=λx hx=>by
  show(if x.1=S then _ else _)=_
  rw[if_neg (hnS x hx)]
  cases hf:rs.find? λy=>decide (y.1=x.1) with
  | none=>exact absurd (Aqs (rfl:x.1=x.1)) (List.find?_eq_none.mp hf x hx)
  |
   some y=>
   have e:y.1=x.1:=Aqu (by simpa using List.find?_some hf)
   obtain⟨_,t,u,h1⟩:=hr y (Avd hf)
   obtain⟨_,t',u',h2⟩:=hr x hx
   rw[e,h2] at h1
   simp only[Awg,Obj.mk.injEq,Data.seq.injEq,Array.mk.injEq,List.cons.injEq,Value.int.injEq,and_true,true_and] at h1
   show some (HO.tup [.int y.2.1,.int y.2.2])=_
   rw[h1.1.1,h1.2.1]
 have hold:∀b,b<s.heap.objs.size->H' b=H b:=λb hb=>by
  show(if b=S then _ else _)=_
  rw[if_neg (Arc (Arq hb hS))]
  cases hf:rs.find? λy=>decide (y.1=b) with
  | none=>rfl
  |
   some y=>
   have e:y.1=b:=Aqu (by simpa using List.find?_some hf)
   have:=(hr y (Avd hf)).1
   rw[e] at this
   exact absurd hb (Avi.mpr this)
 have hsame:Same H H':=λb u e=>by rw[hold b (I.hok.lt e)];exact e
 have hcase:∀b u,H' b=some u->H b=some u∨(b=S/\u=.lst (refs rs))∨∃x∈rs,x.1=b/\u=.tup [.int x.2.1,.int x.2.2]:=λb u e=>by
  by_cases hb:b=S
  ·
   subst hb
   rw[hs] at e
   cases e
   exact .inr (.inl ⟨rfl,rfl⟩)
  ·
   have e':(match rs.find? λx=>decide (x.1=b) with
    | some x=>some (HO.tup [.int x.2.1,.int x.2.2])
    | none=>H b)=some u:=by
    have:H' b=_:=if_neg hb
    rw[this] at e
    exact e
   cases hf:rs.find? λy=>decide (y.1=b) with
   | none=>rw[hf] at e';exact .inl e'
   |
    some y=>
    rw[hf] at e'
    cases e'
    exact .inr (.inr ⟨y,Avd hf,Aqu (by simpa using List.find?_some hf),rfl⟩)
 have hok:HOk X.prog X.w H' h':=λb u e=>by
  rcases hcase b u e with e|⟨rfl,rfl⟩|⟨x,hx,rfl,rfl⟩
  · exact(I.hok b u e).stay (λc v _ q=>k c v q) (λ_ q=>hsame _ _ q) λ_ _ q=>hsame _ _ q
  ·
   refine⟨by rw[Q5];exact hz,(rs.map (·.1)).map Value.ref,c,?_,hSo⟩
   refine Vals.of_get (by rw[Q5,Aqv,Aqv]) λj x u a b=>?_
   obtain⟨y,hy,_,rfl⟩:=ql a
   rw[Are,Are,hy] at b
   cases b
   rfl
  ·
   obtain⟨_,t,u,h1⟩:=hr x hx
   exact⟨by show 2<=sizeLine;decide,[.int x.2.1 t,.int x.2.2 u],.cons ⟨t,rfl⟩ (.cons ⟨u,rfl⟩ .nil),⟨_,h1,rfl,_,rfl⟩⟩
 refine⟨H',I.un (t':=s.toks) ⟨λb u q _ _ _=>k b u q,λb u q _ _ _=>⟨u.slots,k b u q⟩,λb u q n _=>by rw[hold b (Aqy q)];exact n,λb u q _=>⟨u,k b u q⟩,λb ys q=>hsame _ _ q,λb o u q=>hsame _ _ q,λb ps q=>⟨#[],by rw[hsame _ _ q];simp⟩⟩ hok,hsame,hs,hrow⟩
def Aog (K:W.Frag)(ta:TA):TE:=λσ H Q=>ta σ H λvs H1=>∃(l1 l2:Addr)(xs ys:List Int),vs=[.ref l1,.ref l2]/\SqT K H1 l1 (xs.map V.int)/\SqT K H1 l2 (ys.map V.int)/\xs.length=ys.length/\xs.length<=1000/\
 ∀(L:Addr)H'(rs:List RA),Same H1 H'->H' L=some (.lst (refs rs))->RowOk H' rs->sps rs=xs.zip ys->Q (.ref L) H'
theorem Aaf {X:Cx}{K:W.Frag}{a b:Expr}{ta:TA}{p pos p2 pos2:Pos}(hK:X.K=K)(hc:X.calm=true)(hgl:Gl X "list")(hml:X.mg "list"=none)(hg:Gl X "zip")(hm:X.mg "zip"=none)(ha:PA X [a,b] ta)
  (hs:starEach [a,b] X.env=[(false,eval a X.env),(false,eval b X.env)]:=by rfl) (hs2:starEach [b] X.env=[(false,eval b X.env)]:=by rfl)
  (hs3:starEach [.Call (.Name "zip" p2) [a,b] [] pos2] X.env=[(false,eval (.Call (.Name "zip" p2) [a,b] [] pos2) X.env)]:=by rfl):
  PE X (.Call (.Name "list" p) [.Call (.Name "zip" p2) [a,b] [] pos2] [] pos) (Aog K ta):=by
 subst hK
 intro pins s σ H Q I h
 refine As2 (i7 I hgl hml boot_list ?_)
 refine As5 ?_ (by rw[hs3];rfl) (by rfl)
 rw[hs3]
 show wpAny _ _ (spliced [(false,eval (.Call (.Name "zip" p2) [a,b] [] pos2) X.env)]) _ _ s
 refine Calls.spliced_cons (As2 (i7 I hg hm boot_zip (As5 (thn (ha pos2 pins s σ H _ I h) λus s1 ⟨vs,H1,I1,r1,q1⟩=>?_) (by rw[hs,hs2]) (by rw[hs2];rfl))))
 obtain⟨l1,l2,xs,ys,rfl,hq1,hq2,hl,hz,q⟩:=q1
 cases r1 with
 |
  cons r rr=>
  cases rr with
  |
   cons r' rr=>
   cases rr
   cases r
   cases r'
   obtain⟨its1,rv1,p1,hz1⟩:=I1.tuple hq1
   obtain⟨its2,rv2,p2,hz2⟩:=I1.tuple hq2
   obtain⟨⟨c1,d1,s1',sl1⟩,ho1,hc1,n1,hd1⟩:=p1
   obtain⟨⟨c2,d2,s2',sl2⟩,ho2,hc2,n2,hd2⟩:=p2
   simp only at hc1 hd1 hc2 hd2
   subst hc1 hd1 hc2 hd2
   have k1:=rv1.length
   have k2:=rv2.length
   rw[Aqv] at k1 k2
   have lt1:l1<s1.heap.objs.size:=Aqy ho1
   have lt2:l2<s1.heap.objs.size:=Aqy ho2
   refine Acw (n1:=(n1,d1,sl1)) (n2:=(n2,d2,sl2)) ho1 ho2 λh' g1 g2 g3 g4 g5 kp=>Calls.spliced_nil ?_
   refine Aal (s:={s1 with heap:=h'}) (xs:=its1.toArray) (ys:=its2.toArray) (n1:=(n1,d1,sl1)) (n2:=(n2,d2,sl2)) (I1.ok.hd hc) (zipApart_new lt1 lt2) (by rw[Aq2,Aq2];lia) (by rw[Aq2];lia) g1 g3 g2 g4 g5 (kp _ _ ho1) (kp _ _ ho2) λh2 ts c kp2 q1 q2 q3=>?_
   have hn:s1.heap.objs.size+4<h'.objs.size:=Aqy g1
   obtain⟨rs,e1,e2,e3⟩:∃rs:List RA,rs.map (·.1)=ts/\sps rs=xs.zip ys/\∀x∈rs,h'.objs.size<=x.1/\∃t u,h2.get? x.1=some (Nk (.int x.2.1 t) (.int x.2.2 u)):=by
    have hlen:ts.length=(xs.zip ys).length:=by rw[q2,Aq2,List.length_zip];lia
    refine⟨ts.zip (xs.zip ys),List.map_fst_zip dkl,List.map_snd_zip dkl,λx hx=>?_⟩
    obtain⟨j,hj⟩:=Ar5 hx
    rw[List.getElem?_zip_eq_some] at hj
    obtain⟨hj1,hj2⟩:=hj
    rw[List.getElem?_zip_eq_some] at hj2
    obtain⟨p1,a1,a2,b1,b2,b3⟩:=q3 j _ hj1
    refine⟨p1,?_⟩
    obtain⟨u1,hu1,ru1⟩:=rv1.get (show(xs.map V.int)[j]?=some (.int x.2.1) by rw[Are,hj2.1];rfl)
    obtain⟨u2,hu2,ru2⟩:=rv2.get (show(ys.map V.int)[j]?=some (.int x.2.2) by rw[Are,hj2.2];rfl)
    obtain⟨t,rfl⟩:=ru1
    obtain⟨u,rfl⟩:=ru2
    have b1':its1[j]?=some a1:=by simpa using b1
    have b2':its2[j]?=some a2:=by simpa using b2
    rw[hu1] at b1'
    rw[hu2] at b2'
    cases b1'
    cases b2'
    exact⟨t,u,b3⟩
   have kp3:∀b o,s1.heap.get? b=some o->h2.get? b=some o:=λb o e=>by
    have hb:=Aqy e
    have ne:∀i,b≠s1.heap.objs.size+i:=λi z=>by rw[z] at hb;exact absurd hb (Avi.mpr (Atr _ _))
    exact kp2 b o (ne 4) (ne 3) (ne 0) (ne 1) (kp b o e)
   have hge:s1.heap.objs.size<=h'.objs.size:=Atl (Asr (Atr _ _) hn)
   have hrl:rs.length<=sizeLine:=by
    rw[←Ni,e2,List.length_zip]
    exact Aq3 (by lia:_<=1000) dkd
   obtain⟨H',I2,sm,hL,hok⟩:=Age I1 kp3 hge (by rw[e1];exact q1) hrl λx hx=>let ⟨p,r⟩:=e3 x hx;⟨Aq3 hge p,r⟩
   exact⟨.ref h'.objs.size,H',I2,rfl,q _ H' rs sm hL hok e2⟩
end L2
namespace L2
open PySem PySem.Spec PyProof.Rows PySem.Calls PySem.SeqAt
variable {X:Cx}
end L2
namespace L2
open PySem PySem.Spec PyProof.Rows
abbrev AtM (K:W.Frag)(n:Str)(f:Addr):Prop:=W.nsIn K mainGlobals n=some (some (.ref f))
abbrev AtC (K:W.Frag)(x:Addr)(n:Str)(f:Addr):Prop:=W.findIn K (.ref x) n=some (some (.ref f))
abbrev NoA (K:W.Frag)(x:Addr)(n:Str):Prop:=W.findIn K (.ref x) n=some none
abbrev IsF (K:W.Frag)(f:Addr):Prop:=W.isFn K (.ref f)=true
abbrev NoM (K:W.Frag)(n:Str):Prop:=W.nsIn K mainGlobals n=some none
def Fun.b1 {K:W.Frag}{x qual:Str}{st:Stmt}{f:Addr}{fd:FuncData}{p1:Str}(F:Fun K x qual st f fd)(h:∀(u1:Value)(kV doc pm:Value)(an:Option Addr)(cdv ct:Value),bindArgs (W.fnOf x qual (A4 st) (Ay st) (Ah st) .none kV doc pm an cdv ct) ⟨[u1],[]⟩=pure [(p1,u1)]):Binds K fd [p1] []:=F.binds λa b c d e g us hl=>by obtain⟨u1,rfl⟩:=ex1 hl;exact h u1 a b c d e g
def Fun.b2 {K:W.Frag}{x qual:Str}{st:Stmt}{f:Addr}{fd:FuncData}{p1 p2:Str}(F:Fun K x qual st f fd)(h:∀(u1 u2:Value)(kV doc pm:Value)(an:Option Addr)(cdv ct:Value),bindArgs (W.fnOf x qual (A4 st) (Ay st) (Ah st) .none kV doc pm an cdv ct) ⟨[u1,u2],[]⟩=pure [(p1,u1),(p2,u2)]):Binds K fd [p1,p2] []:=F.binds λa b c d e g us hl=>by obtain⟨u1,u2,rfl⟩:=ex2 hl;exact h u1 u2 a b c d e g
def Fun.b3 {K:W.Frag}{x qual:Str}{st:Stmt}{f:Addr}{fd:FuncData}{p1 p2 p3:Str}(F:Fun K x qual st f fd)(h:∀(u1 u2 u3:Value)(kV doc pm:Value)(an:Option Addr)(cdv ct:Value),bindArgs (W.fnOf x qual (A4 st) (Ay st) (Ah st) .none kV doc pm an cdv ct) ⟨[u1,u2,u3],[]⟩=pure [(p1,u1),(p2,u2),(p3,u3)]):Binds K fd [p1,p2,p3] []:=F.binds λa b c d e g us hl=>by obtain⟨u1,u2,u3,rfl⟩:=ex3 hl;exact h u1 u2 u3 a b c d e g
def Fun.b4 {K:W.Frag}{x qual:Str}{st:Stmt}{f:Addr}{fd:FuncData}{p1 p2 p3 p4:Str}(F:Fun K x qual st f fd)(h:∀(u1 u2 u3 u4:Value)(kV doc pm:Value)(an:Option Addr)(cdv ct:Value),bindArgs (W.fnOf x qual (A4 st) (Ay st) (Ah st) .none kV doc pm an cdv ct) ⟨[u1,u2,u3,u4],[]⟩=pure [(p1,u1),(p2,u2),(p3,u3),(p4,u4)]):Binds K fd [p1,p2,p3,p4] []:=F.binds λa b c d e g us hl=>by obtain⟨u1,u2,u3,u4,rfl⟩:=ex4 hl;exact h u1 u2 u3 u4 a b c d e g
def Fun.b5 {K:W.Frag}{x qual:Str}{st:Stmt}{f:Addr}{fd:FuncData}{p1 p2 p3 p4 p5:Str}(F:Fun K x qual st f fd)(h:∀(u1 u2 u3 u4 u5:Value)(kV doc pm:Value)(an:Option Addr)(cdv ct:Value),bindArgs (W.fnOf x qual (A4 st) (Ay st) (Ah st) .none kV doc pm an cdv ct) ⟨[u1,u2,u3,u4,u5],[]⟩=pure [(p1,u1),(p2,u2),(p3,u3),(p4,u4),(p5,u5)]):Binds K fd [p1,p2,p3,p4,p5] []:=F.binds λa b c d e g us hl=>by obtain⟨u1,u2,u3,u4,u5,rfl⟩:=ex5 hl;exact h u1 u2 u3 u4 u5 a b c d e g
end L2
namespace DN
open DF
def No (r:Rl)(b c:Int):Prop:=∀k,b<=k->k<c->fl r k=false
def ze (ok:Ok r)(h:fl r d=true):0<=d/\d<146097:=by
 by_cases hd:d<0∨146097<=d
 · rw[ah ok hd] at h;cases h
 · lia
def No.stop (ok:Ok r)(h:No r b c)(hc:e<=c∨146097<=c):No r b e:=λk h1 h2=>by
 by_cases hk:k<c
 · exact h k h1 hk
 · exact ah ok dkl
def No.step (h:No r b c)(hc:fl r c=false):No r b (c+1):=λk h1 h2=>by
 by_cases hk:k<c
 · exact h k h1 hk
 · rw[show k=c by lia];exact hc
def zm (st fi B:Int)(hs:1<=st):B<=B+(fi-B)%st/\(B+(fi-B)%st-fi)%st=0/\∀k,B<=k->k<B+(fi-B)%st->(k-fi)%st≠0:=by
 have h0:=Arp (fi-B) (by lia:st≠0)
 have h1:=Aro (fi-B) (by lia:0<st)
 have hd:st ∣ (fi-B)-(fi-B)%st:=Int.dvd_self_sub_emod
 refine⟨dkl,?_,λk k1 k2 hk=>?_⟩
 ·
  obtain⟨q,hq⟩:=hd
  exact Avn ⟨-q,by rw[Int.mul_neg,←hq];lia⟩
 ·
  obtain⟨q,hq⟩:=hd
  obtain⟨p,hp⟩:=Ato hk
  have e:k-B=(fi-B)%st+st*(q+p):=by rw[Int.mul_add];lia
  have hlt:k-B<(fi-B)%st:=by lia
  have:st*(q+p)<0:=by lia
  have hneg:q+p<= -1:=by
   by_cases z:0<=q+p
   · have:=Int.mul_nonneg (by lia:0<=st) z;lia
   · lia
  have:st*(q+p)<=st*(-1):=Atw hneg dkl
  lia
def Ah8 (ok:Ok (.ev st fi))(hB:B=if fi>b then fi else b):(B+(fi-B)%st<(if 146097<e then 146097 else e)->(b<=B+(fi-B)%st/\B+(fi-B)%st<e/\fl (.ev st fi) (B+(fi-B)%st)=true/\No (.ev st fi) b (B+(fi-B)%st)))/\
  (¬B+(fi-B)%st<(if 146097<e then 146097 else e)->No (.ev st fi) b e):=by
 obtain⟨s1,s2,f0,f1⟩:=ok
 obtain⟨m1,m2,m3⟩:=zm st fi B s1
 have hB1:b<=B/\fi<=B:=by subst hB;split<;>lia
 have key:∀k,b<=k->k<B+(fi-B)%st->fl (.ev st fi) k=false:=λk k1 k2=>by
  show(isD k&&(decide (fi<=k)&&decide ((k-fi)%st=0)))=false
  by_cases h1:fi<=k
  ·
   have hk:B<=k:=by subst hB;split<;>lia
   rw[Aqz (m3 k hk k2),Atf,Atf]
  · rw[Aqz h1,As3,Atf]
 refine⟨λh=>?_,λh k k1 k2=>?_⟩
 ·
  have he:B+(fi-B)%st<e/\B+(fi-B)%st<146097:=by
   split at h
   · lia
   · lia
  refine⟨dkl,he.1,?_,key⟩
  show(isD _&&(decide (fi<=_)&&decide (_=0)))=true
  rw[Il.mpr ⟨dkl,he.2⟩,Aqs dkl,Aqs m2]
  rfl
 ·
  by_cases hk:k<B+(fi-B)%st
  · exact key k k1 hk
  ·
   refine ah (r:=.ev st fi) ⟨s1,s2,f0,f1⟩ ?_
   split at h
   · lia
   · lia
def Aia (h1:1<=e)(ho:o=((f+5)/7-(fi+5)/7)%e)(hp:0<o):f<((f+5)/7+e-o)*7-5/\∀k,f<=k->k<((f+5)/7+e-o)*7-5->fl (.wk mk fi e) k=false:=by
 have hl:=Aro ((f+5)/7-(fi+5)/7) (by lia:0<e)
 rw[←ho] at hl
 refine⟨dkl,λk k1 k2=>?_⟩
 have hw:(f+5)/7<=(k+5)/7/\(k+5)/7<(f+5)/7+e-o:=by lia
 have hne:((k+5)/7-(fi+5)/7)%e≠0:=by
  have e1:(k+5)/7-(fi+5)/7=((k+5)/7-(f+5)/7)+((f+5)/7-(fi+5)/7):=by lia
  rw[e1,Int.add_emod,←ho,Int.emod_eq_of_lt (a:=(k+5)/7-(f+5)/7) dkl dkl,Int.emod_eq_of_lt dkl dkl]
  lia
 show(if isD k=true/\fi<=k then _ else false)=false
 split
 · rw[Aqz hne,As3]
 · rfl
def Ani (h0:0<=f)(h1:f<146097)(hf:fi<=f):fl (.wk mk fi e) f=(decide (((f+5)/7-(fi+5)/7)%e=0)&&decide (mk/2 ^ ((f+5)%7).toNat%2=1)):=Amg h0 h1 hf
def fiM:Rl->Int
 | .mo _ fi _=>fi
 | .nt _ _ fi _=>fi
 | .yr _ _ fi _=>fi
 | _=>0
def orM:Rl->Int
 | .mo _ fi _=>DM.mo fi
 | .nt _ _ fi _=>DM.mo fi
 | .yr mn _ fi _=>DM.mo fi/12*12+mn-1
 | _=>0
def stM:Rl->Int
 | .mo _ _ e=>e
 | .nt _ _ _ e=>e
 | .yr _ _ _ e=>e*12
 | _=>1
def gM:Rl->Int->Option Int
 | .mo dt _ _,n=>Cb n dt
 | .nt w wd _ _,n=>K5 n w wd
 | .yr _ dt _ _,n=>Cb n dt
 | _,_=>none
def isM:Rl->Prop
 | .mo _ _ _=>True
 | .nt _ _ _ _=>True
 | .yr _ _ _ _=>True
 | _=>False
theorem flM (h:isM r)(d:Int):fl r d=byM (orM r) (stM r) (fiM r) (gM r) d:=by
 cases r with
 | mo dt fi e=>rfl
 | nt w wd fi e=>rfl
 | yr mn dt fi e=>rfl
 | _=>exact h.elim
theorem Aka (h:gM r n=some d):DM.mb n<=d/\d<DM.mb (n+1):=by
 have inw_in:∀{b e f d:Int},inw b e f=some d->b<=d/\d<e:=λ{b e f d}h=>by
  unfold inw at h
  split at h
  · cases h;assumption
  · cases h
 cases r with
 | mo dt fi e=>exact inw_in h
 | nt w wd fi e=>exact inw_in h
 | yr mn dt fi e=>exact inw_in h
 | _=>cases h
def Afa (r:Rl)(b s n:Int):Prop:=∀k,b<=k->0<=k->k<s->DM.mo k<n->fl r k=false
def vh (hm:isM r)(hs:1<=stM r)(g:Afa r b s n)(hc:n<=c)(h:∀j,n<=j->j<c->(j-orM r)%stM r≠0):Afa r b s c:=λk k0 k1 k2 k3=>by
 by_cases hk:DM.mo k<n
 · exact g k k0 k1 k2 hk
 ·
  rw[flM hm]
  unfold byM
  split
  · rw[Aqz (h _ dkl k3),As3]
  · rfl
def Abl (s1:s<=146097)(hm:isM r)(hs:1<=stM r)(hf:0<=fiM r)(hB:B=if fiM r>b then fiM r else b)(h1:B<146097):Afa r b s (DM.mo B+(orM r-DM.mo B)%stM r)/\DM.mo B<=DM.mo B+(orM r-DM.mo B)%stM r/\(DM.mo B+(orM r-DM.mo B)%stM r-orM r)%stM r=0:=by
 obtain⟨m1,m2,m3⟩:=zm (stM r) (orM r) (DM.mo B) hs
 have hB1:b<=B/\fiM r<=B:=by subst hB;split<;>lia
 obtain⟨o1,o2,_,_⟩:=DM.j5 (d:=B) dkl h1
 refine⟨vh (n:=DM.mo B) hm hs (λk k0 k1 k2 k3=>?_) m1 m3,m1,m2⟩
 obtain⟨p1,p2,_,_⟩:=DM.j5 k1 dkl
 have hlt:k<B:=by
  have:=DM.O4 (a:=DM.mo k+1) (b:=DM.mo B) dkl
  lia
 rw[flM hm]
 refine uu ?_
 subst hB
 split at hlt<;>lia
def ix (hm:isM r)(hs:1<=stM r)(g:Afa r b s n)(hn:(n-orM r)%stM r=0)(h:∀k,b<=k->k<s->DM.mo k=n->fl r k=false):Afa r b s (n+stM r)/\(n+stM r-orM r)%stM r=0:=by
 have g1:Afa r b s (n+1):=λk k0 k1 k2 k3=>by
  by_cases hk:DM.mo k<n
  · exact g k k0 k1 k2 hk
  · exact h k k0 k2 dkl
 refine⟨vh hm hs g1 dkl λj j1 j2 hj=>?_,?_⟩
 ·
  obtain⟨p,hp⟩:=Ato hn
  obtain⟨q,hq⟩:=Ato hj
  have e:j-n=stM r*(q-p):=by rw[Int.mul_sub];lia
  have h1:0<stM r*(q-p):=by lia
  have h2:stM r*(q-p)<stM r:=by lia
  have h3:1<=q-p:=by
   by_cases z:q-p<=0
   · have:=Atw z (by lia:0<=stM r);lia
   · lia
  have:=Atw h3 (by lia:0<=stM r)
  lia
 ·
  rw[show n+stM r-orM r=(n-orM r)+stM r by lia,Int.add_emod_right]
  exact hn
def Afd (hm:isM r)(h0:0<=d)(h1:d<146097)(hf:fiM r<=d)(hn:(n-orM r)%stM r=0)(hg:gM r n=some d):fl r d=true/\DM.mo d=n:=by
 obtain⟨g1,g2⟩:=Aka hg
 have e:=DM.Afv h0 h1 g1 g2
 rw[flM hm,nz h0 h1 hf,e,Aqs hn,Aqs hg]
 exact⟨rfl,rfl⟩
def Aav (hm:isM r)(g:Afa r b s n)(ds:d<s)(h0:0<=d)(h1:d<146097)(hf:fiM r<=d)(hn:(n-orM r)%stM r=0)(hg:gM r n=some d)(ok:Ok r):fl r d=true/\No r b d:=by
 obtain⟨e1,e2⟩:=Afd hm h0 h1 hf hn hg
 refine⟨e1,λk k1 k2=>?_⟩
 by_cases hk:k<0
 · exact ah ok (.inl hk)
 ·
  obtain⟨p1,p2,_,_⟩:=DM.j5 (d:=k) dkl dkl
  obtain⟨q1,q2,_,_⟩:=DM.j5 h0 h1
  by_cases hl:DM.mo k<n
  · exact g k k1 dkl dkl hl
  ·
   have hkn:DM.mo k=n:=by
    by_cases hgt:n<DM.mo k
    ·
     have:=DM.O4 (a:=DM.mo d+1) (b:=DM.mo k) dkl
     lia
    · lia
   rw[flM hm]
   unfold byM
   split
   · rw[hkn,hg,show decide (some d=some k)=false from Aqz λz=>by have:=Arl z;lia,Atf]
   · rfl
def gone_none (hm:isM r)(hs:∀d,gM r n=some d->¬((if fiM r>b then fiM r else b)<=d/\d<s))(k0:b<=k)(k1:k<s)(hk:DM.mo k=n):fl r k=false:=by
 rw[flM hm]
 unfold byM
 split
 ·
  rename_i hc
  by_cases hg:gM r (DM.mo k)=some k
  ·
   rw[hk] at hg
   have:=hs k hg
   split at this<;>lia
  · rw[Aqz hg,Atf]
 · rfl
def Acd (hm:isM r)(ok:Ok r)(g:Afa r b s n)(hs:s<=DM.mb n)(he:s=if 146097<e then 146097 else e):No r b e:=λk k1 k2=>by
 by_cases hk:k<0∨146097<=k
 · exact ah ok hk
 ·
  obtain⟨p1,p2,_,_⟩:=DM.j5 (d:=k) dkl dkl
  have ks:k<s:=by subst he;split<;>lia
  refine g k k1 dkl ks ?_
  by_cases hl:DM.mo k<n
  · exact hl
  ·
   have:=DM.O4 (a:=n) (b:=DM.mo k) dkl
   lia
def none_of (hm:isM r)(ok:Ok r)(hB:B=if fiM r>b then fiM r else b)(hs:s=if 146097<e then 146097 else e)(h:s<=B):No r b e:=λk k1 k2=>by
 by_cases hk:k<fiM r
 · rw[flM hm];exact uu hk
 ·
  refine ah ok ?_
  subst hB hs
  split at h<;>split at h<;>lia
theorem Aiq (hm:isM r)(ok:Ok r):1<=stM r/\0<=fiM r:=by
 cases r with
 | mo dt fi e=>obtain⟨_,_,_,f0,f1,e0,e1⟩:=ok;exact⟨e0,f0⟩
 | nt w wd fi e=>obtain⟨_,_,_,_,_,f0,f1,e0,e1⟩:=ok;exact⟨e0,f0⟩
 | yr mn dt fi e=>obtain⟨_,_,_,_,f0,f1,e0,e1⟩:=ok;exact⟨(by show 1<=e*12;lia),f0⟩
 | _=>exact hm.elim
end DN
namespace DR
inductive Rl where
 | nv
 | ev (st fi:Int)
 | dy (ds:List Int)
 | wh (st re:Int)
def fl:Rl->Int->Bool
 | .nv,_=>false
 | .ev st fi,d=>decide (fi<=d)&&decide ((d-fi)%st=0)
 | .dy ds,d=>decide (d∈ds)
 | .wh st re,d=>decide (d%st=re)
def rng (b e:Int):List Int:=(List.range (e-b).toNat).map λ(i:Nat)=>b+(i:Int)
def Ac0:k∈rng b e↔b<=k/\k<e:=by
 unfold rng
 rw[Arz]
 constructor
 ·
  rintro⟨i,hi,rfl⟩
  rw[Aty] at hi
  lia
 ·
  rintro⟨h1,h2⟩
  exact⟨(k-b).toNat,by rw[Aty];lia,dkl⟩
def Afo (b e:Int):(rng b e).Pairwise (· < ·):=by
 unfold rng
 rw[At6]
 exact List.pairwise_lt_range.imp λh=>by lia
theorem Cj:∀{xs ys:List Int},xs.Pairwise (· < ·)->ys.Pairwise (· < ·)->(∀k,k∈xs↔k∈ys)->xs=ys
 | [],[],_,_,_=>rfl
 | [],y::ys,_,_,h=>absurd ((h y).mpr (Arn ..)) dks
 | x::xs,[],_,_,h=>absurd ((h x).mp (Arn ..)) dks
 |
  x::xs,y::ys,hx,hy,h=>by
  obtain⟨x1,x2⟩:=Aug.mp hx
  obtain⟨y1,y2⟩:=Aug.mp hy
  have e:x=y:=by
   rcases Ara.mp ((h x).mp (Arn ..)) with e|e
   · exact e
   ·
    rcases Ara.mp ((h y).mpr (Arn ..)) with f|f
    · exact f.symm
    · have:=y1 x e;have:=x1 y f;lia
  subst e
  refine At5 (x:: ·) (Cj x2 y2 λk=>⟨λhk=>?_,λhk=>?_⟩)
  ·
   rcases Ara.mp ((h k).mp (Ard _ hk)) with e|e
   · have:=x1 k hk;lia
   · exact e
  ·
   rcases Ara.mp ((h k).mpr (Ard _ hk)) with e|e
   · have:=y1 k hk;lia
   · exact e
def days (f:Int->Bool)(b e:Int):List Int:=(rng b e).filter f
def As:k∈days f b e↔b<=k/\k<e/\f k=true:=by
 unfold days
 rw[Asz,Ac0,and_assoc]
def Aw (f:Int->Bool)(b e:Int):(days f b e).Pairwise (· < ·):=(Afo b e).filter _
def Ag1 (f:Int->Bool)(b e:Int):(days f b e).length<=(e-b).toNat:=by
 unfold days
 refine Aq3 (Atc _ _) ?_
 unfold rng
 rw[Aqv,Art]
 exact Aq0 _
def Ss (h:∀k,b<=k->k<e->f k=false):days f b e=[]:=by
 refine Cj (Aw _ _ _) List.Pairwise.nil λk=>?_
 rw[As]
 constructor
 ·
  rintro⟨h1,h2,h3⟩
  rw[h k h1 h2] at h3
  cases h3
 ·
  intro w
  exact nomatch w
def Acm (hb:b<=c)(h1:c<=d)(h2:f d=true)(h3:∀k,c<=k->k<d->f k=false):days f b c++[d]=days f b (d+1):=by
 refine Cj ?_ (Aw _ _ _) λk=>?_
 ·
  rw[Ar7]
  refine⟨Aw _ _ _,List.pairwise_singleton _ _,λx hx y hy=>?_⟩
  rw[Arm] at hy
  have:=(As.mp hx).2.1
  lia
 ·
  rw[Ar0,Arm,As,As]
  constructor
  ·
   rintro(⟨a1,a2,a3⟩|rfl)
   · exact⟨a1,dkl,a3⟩
   · exact⟨dkl,dkl,h2⟩
  ·
   rintro⟨a1,a2,a3⟩
   by_cases hk:k<c
   · exact .inl ⟨a1,hk,a3⟩
   ·
    by_cases hd:k=d
    · exact .inr hd
    · rw[h3 k dkl dkl] at a3;cases a3
def Aca (hb:b<=c)(h1:c<=e)(h3:∀k,c<=k->k<e->f k=false):days f b c=days f b e:=by
 refine Cj (Aw _ _ _) (Aw _ _ _) λk=>?_
 rw[As,As]
 constructor
 ·
  rintro⟨a1,a2,a3⟩
  exact⟨a1,dkl,a3⟩
 ·
  rintro⟨a1,a2,a3⟩
  refine⟨a1,?_,a3⟩
  by_cases hk:k<c
  · exact hk
  · rw[h3 k dkl a2] at a3;cases a3
def Al3 {st fi b d e:Int}{n:Nat}(hs:0<st)(hbd:b<=d)(hd:fl (.ev st fi) d=true)(h0:∀k,b<=k->k<d->fl (.ev st fi) k=false)(hde:d<e)(hn:(n:Int)=(e-d-1)/st+1):
  days (fl (.ev st fi)) b e=(List.range n).map λ(i:Nat)=>d+(i:Int)*st:=by
 have hd':fi<=d/\(d-fi)%st=0:=by
  have:(decide (fi<=d)&&decide ((d-fi)%st=0))=true:=hd
  rw[Aq9] at this
  exact⟨Aqu this.1,Aqu this.2⟩
 refine Cj (Aw _ _ _) ?_ λk=>?_
 ·
  rw[At6]
  refine List.pairwise_lt_range.imp λ{i j}h=>?_
  have:((j:Int)-i)*st>0:=Int.mul_pos dkl hs
  rw[Int.sub_mul] at this
  lia
 ·
  rw[As,Arz]
  constructor
  ·
   rintro⟨a1,a2,a3⟩
   have hkd:d<=k:=Atz.mp λw=>by rw[h0 k a1 w] at a3;cases a3
   have a3':(decide (fi<=k)&&decide ((k-fi)%st=0))=true:=a3
   rw[Aq9] at a3'
   have hz:=Aqu a3'.2
   have e1:=Int.emod_add_mul_ediv (k-fi) st
   have e2:=Int.emod_add_mul_ediv (d-fi) st
   rw[hz] at e1
   rw[hd'.2] at e2
   have hq:k-d=st*((k-fi)/st-(d-fi)/st):=by rw[Int.mul_sub];lia
   generalize (k-fi)/st-(d-fi)/st=q at hq
   have q0:0<=q:=Atz.mp λw=>by
    have:st*q<=st*(-1):=Atw dkl (Int.le_of_lt hs)
    lia
   have hq2:q<=(e-d-1)/st:=by
    rw[Int.le_ediv_iff_mul_le hs,Avb]
    lia
   exact⟨q.toNat,by rw[Aty];lia,by rw[Int.toNat_of_nonneg q0,Avb];lia⟩
  ·
   rintro⟨i,hi,rfl⟩
   rw[Aty] at hi
   have i0:0<=(i:Int)*st:=Int.mul_nonneg dkl dkl
   have i1:(i:Int)*st<=e-d-1:=by
    rw[←Int.le_ediv_iff_mul_le hs]
    lia
   refine⟨dkl,dkl,?_⟩
   show(decide (fi<=d+(i:Int)*st)&&decide ((d+(i:Int)*st-fi)%st=0))=true
   rw[Aqs dkl,Arw]
   refine Aqs ?_
   rw[show d+(i:Int)*st-fi=(d-fi)+(i:Int)*st by lia,Int.add_mul_emod_self_right]
   exact hd'.2
end DR
namespace DJ
open DF (Rl fl isD Ok Il)
open DR (days As Aw Cj)
inductive Rt where
 | s (r:Rl)
 | ei (a b:Rt)
 | bo (a b:Rt)
 | bu (a b:Rt)
 | wi (b e:Int) (r:Rt)
 | sh (n:Int) (r:Rt)
 | ch (r:Rt) (ls ms:List Int) (mv:List (Int×Int))
def dep:Rt->Nat
 | .s _=>0
 | .ei a b=>max (dep a) (dep b)+1
 | .bo a b=>max (dep a) (dep b)+1
 | .bu a b=>max (dep a) (dep b)+1
 | .wi _ _ r=>dep r+1
 | .sh _ r=>dep r+1
 | .ch r _ _ _=>dep r+1
def Tz (f:Int->Bool)(ls ms:List Int)(mv:List (Int×Int)):List Int:=ms++(mv.filter λy=>!decide (y.1∈ls)&&f y.1).map (·.2)
def se (ls:List Int)(mv:List (Int×Int)):List Int:=ls++mv.map (·.1)
def ft:Rt->Int->Bool
 | .s r=>λd=>fl r d
 | .ei a b=>λd=>ft a d||ft b d
 | .bo a b=>λd=>ft a d&&ft b d
 | .bu a b=>λd=>ft a d&&!ft b d
 | .wi b e r=>λd=>(decide (b<=d)&&decide (d<e))&&ft r d
 | .sh n r=>λd=>isD d&&ft r (d-n)
 | .ch r ls ms mv=>λd=>decide (d∈Tz (ft r) ls ms mv)||(!decide (d∈se ls mv)&&ft r d)
def Dy (d:Int):Prop:=0<=d/\d<146097
def Okt:Rt->Prop
 | .s r=>Ok r
 | .ei a b=>Okt a/\Okt b
 | .bo a b=>Okt a/\Okt b
 | .bu a b=>Okt a/\Okt b
 | .wi b e r=>(-(2 ^ 58)<b/\b<2 ^ 58/\ -(2 ^ 58)<e/\e<2 ^ 58)/\Okt r
 | .sh n r=>(-1000<=n/\n<=1000)/\Okt r
 | .ch r ls ms mv=>Okt r/\(ls.length<=10/\ms.length<=10/\mv.length<=10)/\(∀d∈ls,Dy d)/\(∀d∈ms,Dy d)/\∀y∈mv,Dy y.1/\Dy y.2
def Abv (h1:∀d∈ms,Dy d)(h2:∀y∈mv,Dy y.1/\Dy y.2)(hd:d∈Tz f ls ms mv):Dy d:=by
 rcases Ar0.mp hd with h|h
 · exact h1 d h
 ·
  obtain⟨y,hy,rfl⟩:=Arz.mp h
  exact(h2 y (Asz.mp hy).1).2
theorem Xi:∀{t:Rt}{d:Int},Okt t->(d<0∨146097<=d)->ft t d=false
 | .s r,d,ok,hd=>DF.ah ok hd
 | .ei a b,d,ok,hd=>by show(ft a d||ft b d)=false;rw[Xi ok.1 hd,Xi ok.2 hd];rfl
 | .bo a b,d,ok,hd=>by show(ft a d&&ft b d)=false;rw[Xi ok.1 hd];rfl
 | .bu a b,d,ok,hd=>by show(ft a d&&!ft b d)=false;rw[Xi ok.1 hd];rfl
 | .wi b e r,d,ok,hd=>by show((decide (b<=d)&&decide (d<e))&&ft r d)=false;rw[Xi ok.2 hd,Atf]
 |
  .sh n r,d,ok,hd=>by
  show(isD d&&ft r (d-n))=false
  rw[show isD d=false from Aqz dkl,As3]
 |
  .ch r ls ms mv,d,ok,hd=>by
  show(decide (d∈Tz (ft r) ls ms mv)||(!decide (d∈se ls mv)&&ft r d))=false
  rw[Xi ok.1 hd,Atf,Avo]
  refine Aqz λh=>?_
  obtain⟨_,_,_,h1,h2⟩:=ok
  obtain⟨d0,d1⟩:=Abv h1 h2 h
  lia
def va (ok:Okt t)(h:ft t d=true):0<=d/\d<146097:=by
 by_cases hd:d<0∨146097<=d
 · rw[Xi ok hd] at h;cases h
 · lia
def yp {f:Int->Bool}{b e:Int}(hf:∀d,f d=true->0<=d/\d<146097){n:Nat}(h:(if 146097<e then 146097 else e)-(if 0>b then 0 else b)<=(n:Int)):(days f b e).length<=n:=by
 have e1:days f b e=days f (if 0>b then 0 else b) (if 146097<e then 146097 else e):=by
  refine Cj (Aw _ _ _) (Aw _ _ _) λk=>?_
  rw[As,As]
  constructor
  ·
   rintro⟨a1,a2,a3⟩
   have:=hf k a3
   refine⟨?_,?_,a3⟩<;>split<;>lia
  ·
   rintro⟨a1,a2,a3⟩
   refine⟨?_,?_,a3⟩
   · split at a1<;>lia
   · split at a2<;>lia
 rw[e1]
 refine Aq3 (DR.Ag1 _ _ _) ?_
 lia
def dz {f:Int->Bool}{b e:Int}(hf:∀d,f d=true->0<=d/\d<146097):(days f b e).length<=146097:=
 yp hf (n:=146097) (by split<;>split<;>lia)
def Aig (h1:ms.Pairwise (· < ·))(h2:∀k,k∈ms↔k∈days (ft a) x y∨k∈days (ft b) x y):ms=days (ft (.ei a b)) x y:=by
 refine Cj h1 (Aw _ _ _) λk=>?_
 rw[h2,As,As,As]
 show _↔x<=k/\k<y/\(ft a k||ft b k)=true
 rw[Bool.or_eq_true]
 constructor
 ·
  rintro(⟨a1,a2,a3⟩|⟨a1,a2,a3⟩)
  · exact⟨a1,a2,.inl a3⟩
  · exact⟨a1,a2,.inr a3⟩
 ·
  rintro⟨a1,a2,a3|a3⟩
  · exact .inl ⟨a1,a2,a3⟩
  · exact .inr ⟨a1,a2,a3⟩
def Ahy:(days (ft a) x y).filter (ft b)=days (ft (.bo a b)) x y:=by
 refine Cj ((Aw _ _ _).filter _) (Aw _ _ _) λk=>?_
 rw[Asz,As,As]
 show _↔x<=k/\k<y/\(ft a k&&ft b k)=true
 rw[Aq9]
 exact⟨λ⟨⟨a1,a2,a3⟩,a4⟩=>⟨a1,a2,a3,a4⟩,λ⟨a1,a2,a3,a4⟩=>⟨⟨a1,a2,a3⟩,a4⟩⟩
def Ahw:(days (ft a) x y).filter (λd=>!ft b d)=days (ft (.bu a b)) x y:=by
 refine Cj ((Aw _ _ _).filter _) (Aw _ _ _) λk=>?_
 rw[Asz,As,As]
 show _↔x<=k/\k<y/\(ft a k&&!ft b k)=true
 rw[Aq9]
 exact⟨λ⟨⟨a1,a2,a3⟩,a4⟩=>⟨a1,a2,a3,a4⟩,λ⟨a1,a2,a3,a4⟩=>⟨⟨a1,a2,a3⟩,a4⟩⟩
def Aja:days (ft r) (if wb>x then wb else x) (if we<y then we else y)=days (ft (.wi wb we r)) x y:=by
 refine Cj (Aw _ _ _) (Aw _ _ _) λk=>?_
 rw[As,As]
 show _↔x<=k/\k<y/\((decide (wb<=k)&&decide (k<we))&&ft r k)=true
 rw[Aq9,Aq9,As0,As0]
 constructor
 ·
  rintro⟨a1,a2,a3⟩
  refine⟨?_,?_,⟨?_,?_⟩,a3⟩
  · split at a1<;>lia
  · split at a2<;>lia
  · split at a1<;>lia
  · split at a2<;>lia
 ·
  rintro⟨a1,a2,⟨a3,a4⟩,a5⟩
  exact⟨by split<;>lia,by split<;>lia,a5⟩
def Ajz:(days (ft r) ((if 0>x then 0 else x)-n) ((if 146097<y then 146097 else y)-n)).map (· +n)=days (ft (.sh n r)) x y:=by
 refine Cj ?_ (Aw _ _ _) λk=>?_
 ·
  rw[At6]
  exact(Aw _ _ _).imp λh=>by lia
 ·
  rw[Arz,As]
  show _↔x<=k/\k<y/\(isD k&&ft r (k-n))=true
  rw[Aq9,Il]
  constructor
  ·
   rintro⟨d,hd,rfl⟩
   obtain⟨a1,a2,a3⟩:=As.mp hd
   rw[show d+n-n=d by lia]
   refine⟨?_,?_,⟨?_,?_⟩,a3⟩
   · split at a1<;>lia
   · split at a2<;>lia
   · split at a1<;>lia
   · split at a2<;>lia
  ·
   rintro⟨a1,a2,⟨a3,a4⟩,a5⟩
   exact⟨k-n,As.mpr ⟨by split<;>lia,by split<;>lia,a5⟩,dkl⟩
def Aiz {r:Rt}{ls ms:List Int}{mv:List (Int×Int)}{x y:Int}{gs qs:List Int}(h1:qs.Pairwise (· < ·))(hg:∀k,k∈gs↔k∈Tz (ft r) ls ms mv)
  (h2:∀k,k∈qs↔k∈(days (ft r) x y).filter (λd=>!decide (d∈se ls mv))∨(k∈gs/\x<=k/\k<y)):qs=days (ft (.ch r ls ms mv)) x y:=by
 refine Cj h1 (Aw _ _ _) λk=>?_
 rw[h2,Asz,As,As,hg]
 show _↔x<=k/\k<y/\(decide (k∈Tz (ft r) ls ms mv)||(!decide (k∈se ls mv)&&ft r k))=true
 rw[Bool.or_eq_true,Aq9,As0]
 constructor
 ·
  rintro(⟨⟨a1,a2,a3⟩,a4⟩|⟨a1,a2,a3⟩)
  · exact⟨a1,a2,.inr ⟨a4,a3⟩⟩
  · exact⟨a2,a3,.inl a1⟩
 ·
  rintro⟨a1,a2,a3|⟨a3,a4⟩⟩
  · exact .inr ⟨a3,a1,a2⟩
  · exact .inl ⟨⟨a1,a2,a4⟩,a3⟩
def yo (hr:DC.Abs gs):∀k,k∈(gs.take (DC.below gs y)).drop (DC.below gs x)↔k∈gs/\x<=k/\k<y:=by
 intro k
 rw[List.mem_iff_getElem?]
 constructor
 ·
  rintro⟨i,hi⟩
  rw[Ava,Aui] at hi
  split at hi
  ·
   rename_i hlt
   have h1:=(DC.Et hr (x:=y) hi).mp hlt
   have h2:¬k<x:=λw=>by
    have:=(DC.Et hr (x:=x) hi).mpr w
    lia
   exact⟨Asf hi,dkl,h1⟩
  · cases hi
 ·
  rintro⟨hk,h1,h2⟩
  obtain⟨j,hj⟩:=Ar5 hk
  have a1:=(DC.Et hr (x:=y) hj).mpr h2
  have a2:¬j<DC.below gs x:=λw=>by
   have:=(DC.Et hr (x:=x) hj).mp w
   lia
  refine⟨j-DC.below gs x,?_⟩
  rw[Ava,Aui,if_pos dkl,show DC.below gs x+(j-DC.below gs x)=j by lia]
  exact hj
def yx (hr:DC.Abs gs):(∃a,gs[DC.below gs x]?=some a/\a=x)↔x∈gs:=by
 constructor
 ·
  rintro⟨a,h,rfl⟩
  exact Asf h
 ·
  intro h
  obtain⟨j,hj⟩:=Ar5 h
  have a1:¬j<DC.below gs x:=λw=>by
   have:=(DC.Et hr (x:=x) hj).mp w
   lia
  have a2:j<DC.below gs (x+1):=(DC.Et hr (x:=x+1) hj).mpr dkl
  by_cases hjb:DC.below gs x=j
  · rw[hjb];exact⟨x,hj,rfl⟩
  ·
   have hlt:DC.below gs x<gs.length:=by have:=(Aq5.mp hj).1;lia
   have hb:=Aq6 hlt
   have a3:¬gs[DC.below gs x]<x:=λw=>by
    have:=(DC.Et hr (x:=x) hb).mpr w
    lia
   have a4:gs[DC.below gs x]<x:=by
    obtain⟨hj2,e⟩:=Aq5.mp hj
    have:=Asx.mp hr (DC.below gs x) j hlt hj2 dkl
    lia
   exact absurd a4 a3
def Ag0 (hb:b<=c)(hce:c<=e∨c=b)(h:∀k,c<=k->k<e->f k=false):days f b c=days f b e:=by
 rcases hce with hc|rfl
 · exact DR.Aca hb hc h
 · rw[DR.Ss h,DR.Ss λk h1 h2=>by lia]
def Aej {st fi b d e e1:Int}{n:Nat}(ok:Ok (.ev st fi))(he:e1=if 146097<e then 146097 else e)(h1:b<=d)(h2:d<e)(h3:fl (.ev st fi) d=true)(h4:DN.No (.ev st fi) b d)(hn:(n:Int)=(e1-d-1)/st+1):
  days (fl (.ev st fi)) b e=(List.range n).map λ(i:Nat)=>d+(i:Int)*st:=by
 obtain⟨s1,s2,f0,f1⟩:=ok
 have hd:=DN.ze (r:=.ev st fi) ⟨s1,s2,f0,f1⟩ h3
 have h3':(isD d&&(decide (fi<=d)&&decide ((d-fi)%st=0)))=true:=h3
 rw[Aq9] at h3'
 have e1d:d<e1:=by rw[he];split<;>lia
 rw[←DR.Al3 (b:=d) dkl (Avm d) h3'.2 (λk w1 w2=>by lia) e1d hn]
 refine Cj (Aw _ _ _) (Aw _ _ _) λk=>?_
 rw[As,As]
 show b<=k/\k<e/\(isD k&&(decide (fi<=k)&&decide ((k-fi)%st=0)))=true↔d<=k/\k<e1/\(decide (fi<=k)&&decide ((k-fi)%st=0))=true
 rw[Aq9,Il]
 constructor
 ·
  rintro⟨a1,a2,⟨a3,a4⟩,a5⟩
  refine⟨?_,by rw[he];split<;>lia,a5⟩
  by_cases hk:d<=k
  · exact hk
  ·
   have:=h4 k a1 dkl
   have this:(isD k&&(decide (fi<=k)&&decide ((k-fi)%st=0)))=false:=this
   rw[a5,Il.mpr ⟨a3,a4⟩] at this
   cases this
 ·
  rintro⟨a1,a2,a3⟩
  have:e1<=146097/\e1<=e:=by rw[he];split<;>lia
  exact⟨dkl,dkl,⟨dkl,dkl⟩,a3⟩
def Nar (b e:Int):Prop:=(if 146097<e then 146097 else e)-(if 0>b then 0 else b)<=125
def Nar.few {t:Rt}{b e:Int}(h:Nar b e)(ok:Okt t):(days (ft t) b e).length<=1000:=Aq3 (yp (λd hd=>va ok hd) (n:=125) h) dkd
def Nar.wi (h:Nar x y):Nar (if wb>x then wb else x) (if we<y then we else y):=by
 unfold Nar at h ⊢
 (repeat' split at h)<;>(repeat' split)<;>lia
def Nar.sh (h:Nar x y):Nar ((if 0>x then 0 else x)-n) ((if 146097<y then 146097 else y)-n):=by
 unfold Nar at h ⊢
 (repeat' split at h)<;>(repeat' split)<;>lia
end DJ
namespace DV
open DF (Rl fl isD Ok Il)
open DJ (Rt ft Okt)
open DR (days As Aw Cj)
def clip {r:Rt}(ok:Okt r){b e b' e':Int}(h1:b'=b∨(b<=b'/\b'=0))(h2:e'=e∨(e'<=e/\e'=146097)):days (ft r) b' e'=days (ft r) b e:=by
 refine Cj (Aw _ _ _) (Aw _ _ _) λk=>?_
 rw[As,As]
 constructor
 ·
  rintro⟨a1,a2,a3⟩
  exact⟨dkl,dkl,a3⟩
 ·
  rintro⟨a1,a2,a3⟩
  have:=DJ.va ok a3
  exact⟨dkl,dkl,a3⟩
def cat {f:Int->Bool}{b c e:Int}(h1:b<=c)(h2:c<=e):days f b e=days f b c++days f c e:=by
 refine Cj (Aw _ _ _) ?_ λk=>?_
 ·
  rw[Ar7]
  refine⟨Aw _ _ _,Aw _ _ _,λx hx y hy=>?_⟩
  have a:=As.mp hx
  have b:=As.mp hy
  lia
 ·
  rw[Ar0,As,As,As]
  constructor
  ·
   rintro⟨a1,a2,a3⟩
   by_cases h:k<c
   · exact .inl ⟨a1,h,a3⟩
   · exact .inr ⟨dkl,a2,a3⟩
  ·
   rintro(⟨a1,a2,a3⟩|⟨a1,a2,a3⟩)
   · exact⟨a1,dkl,a3⟩
   · exact⟨dkl,a2,a3⟩
def part {f p:Int->Bool}{B E b e:Int}(hp:∀k,B<=k->k<E->(p k=true↔b<=k/\k<e))(h1:B<=b∨e<=B)(h2:e<=E∨E<=b)(h0:∀k,f k=true->b<=k->k<e->B<=k/\k<E):(days f B E).filter p=days f b e:=by
 refine Cj ((Aw _ _ _).filter _) (Aw _ _ _) λk=>?_
 rw[Asz,As,As]
 constructor
 ·
  rintro⟨⟨a1,a2,a3⟩,a4⟩
  have:=(hp k a1 a2).mp a4
  exact⟨this.1,this.2,a3⟩
 ·
  rintro⟨a1,a2,a3⟩
  have:=h0 k a3 a1 a2
  exact⟨⟨this.1,this.2,a3⟩,(hp k this.1 this.2).mpr ⟨a1,a2⟩⟩
def none {f:Int->Bool}{b e:Int}(h:e<=b):days f b e=[]:=DR.Ss λk a b=>by lia
def Ajv {f:Int->Bool}{c u e:Int}{k:Nat}(h1:c<=u)(h2:u<=e)(hk:k<(days f c u).length):(days f c e)[k]?=(days f c u)[k]?:=by
 rw[cat h1 h2,Ate hk]
def Agd {f:Int->Bool}{c u e:Int}{k:Nat}(h1:c<=u)(h2:u<=e)(hk:¬k<(days f c u).length):(days f c e)[k]?=(days f u e)[k-(days f c u).length]?:=by
 rw[cat h1 h2,As9 dkl]
def ox {st fi:Int}(ok:Ok (.ev st fi)){n:Nat}(hn:(n:Int)=(146097-fi-1)/st+1):days (ft (.s (.ev st fi))) 0 146097=(List.range n).map λ(i:Nat)=>fi+(i:Int)*st:=by
 have ok':=ok
 obtain⟨s1,s2,f0,f1⟩:=ok
 refine DJ.Aej (e:=146097) (e1:=146097) ok' dkd f0 f1 ?_ ?_ hn
 ·
  show(isD fi&&(decide (fi<=fi)&&decide ((fi-fi)%st=0)))=true
  rw[Il.mpr ⟨f0,f1⟩,Aqs (Avm _),Int.sub_self,Int.zero_emod,Aqs rfl]
  rfl
 ·
  intro k k0 k1
  show(isD k&&(decide (fi<=k)&&decide ((k-fi)%st=0)))=false
  rw[Aqz (by lia:¬fi<=k),As3,Atf]
def Amo {st fi:Int}(ok:Ok (.ev st fi)){k:Int}{i:Nat}(hk:k=fi+(i:Int)*st)(h:k<146097):ft (.s (.ev st fi)) k=true:=by
 obtain⟨s1,s2,f0,f1⟩:=ok
 have hp:0<=(i:Int)*st:=Int.mul_nonneg dkl dkl
 show(isD k&&(decide (fi<=k)&&decide ((k-fi)%st=0)))=true
 rw[Il.mpr ⟨dkl,h⟩,Aqs (by lia:fi<=k),show k-fi=(i:Int)*st by lia,Int.mul_emod_left,Aqs rfl]
 rfl
theorem Akw {st fi:Int}(ok:Ok (.ev st fi))(hst:9000<=st/\st<29000)(hfi:fi<9000):1<(days (ft (.s (.ev st fi))) 50000 146097).length:=by
 have f0:=ok.2.2.1
 have q0:0<=(50000-fi)/st:=Avx dkl dkl
 obtain⟨i,hi⟩:=Int.eq_ofNat_of_zero_le q0
 have e1:=Int.mul_ediv_add_emod (50000-fi) st
 have e2:=Aro (50000-fi) (show 0<st by lia)
 have e3:=Arp (50000-fi) (show st≠0 by lia)
 rw[hi] at e1
 have m1:(((i+1:Nat):Int))*st=st*(i:Int)+st:=by rw[Int.natCast_add,Int.add_mul,Avb];lia
 have m2:(((i+2:Nat):Int))*st=st*(i:Int)+2*st:=by rw[Int.natCast_add,Int.add_mul,Avb];lia
 have d1:fi+(((i+1:Nat):Int))*st∈days (ft (.s (.ev st fi))) 50000 146097:=As.mpr ⟨dkl,dkl,Amo ok rfl dkl⟩
 have d2:fi+(((i+2:Nat):Int))*st∈days (ft (.s (.ev st fi))) 50000 146097:=As.mpr ⟨dkl,dkl,Amo ok rfl dkl⟩
 match h:days (ft (.s (.ev st fi))) 50000 146097 with
 | []=>rw[h] at d1;cases d1
 |
  [x]=>
  rw[h] at d1 d2
  have:=Arm.mp d1
  have:=Arm.mp d2
  lia
 | x::y::zs=>rw[Arx,Arx];lia
def Agl {st fi:Int}(hst:9000<=st/\st<29000)(hfi:0<=fi/\fi<9000):2<=(146097-fi-1)/st:=Int.le_ediv_of_mul_le dkl dkl
def Ake {st fi:Int}(hst:9000<=st/\st<29000)(hfi:0<=fi/\fi<9000):(146097-fi-1)/st<100:=Int.ediv_lt_of_lt_mul dkl dkl
def Apc:days (ft (.s (.dy [5,3]))) 0 146097=[3,5]:=by
 refine Cj (Aw _ _ _) dkd λk=>?_
 rw[As]
 show 0<=k/\k<146097/\decide (k∈[5,3])=true↔_
 rw[As0]
 simp only[Ara,Ata,Awa]
 lia
end DV
namespace L2
open PySem PySem.Spec PyProof.Rows PySem.SeqAt
variable {X:Cx}
def om (hu:X.A.units+2<cLine):OpR X (compareOp .Eq) (λx y H Q=>∃(a b:Addr)(ns:List Int),x=.ref a/\y=.ref b/\H a=some (.lst (ns.map V.int))/\H b=some (.lst (ns.map V.int))/\Q (.bl true) H):=by
 intro pins s σ H x y v u Q I rx ry h
 obtain⟨a,b,ns,rfl,rfl,ha,hb,q⟩:=h
 cases rx
 cases ry
 obtain⟨its,rv,pl,hz⟩:=I.list (Aws (K:=X.K) ha)
 obtain⟨its2,rv2,pl2,hz2⟩:=I.list (Aws (K:=X.K) hb)
 have l1:=rv.length
 have l2:=rv2.length
 refine eq_listAt (e:=λ_=>true) pl.isList pl2.isList (by rw[Aq2,Aq2,←l1,←l2]) dkl (λj h1 h2=>?_) ?_
 ·
  rw[Aq2] at h1 h2
  have hj:j<ns.length:=by rw[←l1,Aqv] at h1;exact h1
  have e:(ns.map V.int)[j]?=some (.int (ns[j])):=by rw[Are,Aq6 hj];rfl
  obtain⟨u1,g1,t1,r1⟩:=rv.get e
  obtain⟨u2,g2,t2,r2⟩:=rv2.get e
  rw[Aq6 h1] at g1
  rw[Aq6 h2] at g2
  have k1:its.toArray[j]=.int ns[j] t1:=by rw[Auz,←r1];exact Arl g1
  have k2:its2.toArray[j]=.int ns[j] t2:=by rw[Auz,←r2];exact Arl g2
  rw[k1,k2]
  have z:=EqAt.int_int (A:=X.A.in1) (s:=s) ns[j] t1 ns[j] t2
  rw[Awo] at z
  exact z
 ·
  have ee:((List.range its.toArray.size).all λ_=>true)=true:=Atv.mpr λ_ _=>rfl
  rw[ee]
  exact⟨.bl true,H,I,rfl,q⟩
end L2
namespace L2
open PySem PySem.Spec PySem.Calls PyProof.Rows
def asV (o:Option (Option V))(k:V->Prop):Prop:=match o with|some (some v)=>k v|_=>False
def asI (x:V)(k:Int->Prop):Prop:=match x with| .int i=>k i|_=>False
def asB (x:V)(k:Bool->Prop):Prop:=match x with| .bl i=>k i|_=>False
def asR (x:V)(k:Addr->Prop):Prop:=match x with| .ref i=>k i|_=>False
def asN (x:V)(k:Prop):Prop:=match x with| .non=>k|_=>False
def as2 (xs:List V)(k:V->V->Prop):Prop:=match xs with|[x,y]=>k x y|_=>False
def Aoh (j:Int)(k:Prop):Prop:=match j with| .ofNat (n+1)=>cond (Nat.ble (n+1) 1073741823) k False|_=>False
def Aox (j:Int)(k:Prop):Prop:=match j with| .ofNat (_+1)=>k|_=>False
def tupQ (n:Nat)(k:Prop):Prop:=cond (Nat.ble n 1000) k False
def Ao2 (vs:List V)(n:Nat)(k:Prop):Prop:=cond (Nat.beq vs.length n) k False
def Al8 (h:asV o k):∃v,o=some (some v)/\k v:=match o,h with|some (some v),h=>⟨v,rfl,h⟩|some none,h=>h.elim|none,h=>h.elim
def Pz (h:asI x k):∃i,x=.int i/\k i:=by cases x<;>first|exact⟨_,rfl,h⟩|exact h.elim
def Xg (h:asB x k):∃i,x=.bl i/\k i:=by cases x<;>first|exact⟨_,rfl,h⟩|exact h.elim
def nh (h:asR x k):∃i,x=.ref i/\k i:=by cases x<;>first|exact⟨_,rfl,h⟩|exact h.elim
def Ahi (h:asN x k):x=.non/\k:=by cases x<;>first|exact⟨rfl,h⟩|exact h.elim
def Ag7 (h:as2 xs k):∃x y,xs=[x,y]/\k x y:=match xs,h with|[x,y],h=>⟨x,y,rfl,h⟩|[],h=>h.elim|[_],h=>h.elim|_::_::_::_,h=>h.elim
def cond_of (h:cond b k False):b=true/\k:=by cases b with|true=>exact⟨rfl,h⟩|false=>exact h.elim
theorem Aiy (h:Aoh j k):(0<j/\j<1073741824)/\k:=by
 match j,h with
 |
  .ofNat (n+1),h=>
  obtain⟨e,q⟩:=cond_of h
  have:=Atb e
  refine⟨⟨?_,?_⟩,q⟩<;>simp only[Int.ofNat_eq_natCast]<;>lia
theorem Aie (h:Aox j k):0<j/\k:=by
 match j,h with
 | .ofNat (n+1),h=>exact⟨by simp only[Int.ofNat_eq_natCast];lia,h⟩
def Ad9 (h:tupQ n k):n<=sizeLine/\k:=by
 obtain⟨e,q⟩:=cond_of h
 exact⟨Aq3 (Atb e) dkd,q⟩
def Aju (h:Ao2 vs n k):vs.length=n/\k:=by
 obtain⟨e,q⟩:=cond_of h
 exact⟨Nat.eq_of_beq_eq_true e,q⟩
structure Br (b:Bool)(A B:Prop):Prop where
 t:b=true->A
 f:¬b=true->B
def Br.of (h:Br b A B):if b=true then A else B:=by cases b with|true=>exact h.t rfl|false=>exact h.f dkd
def Fs (h:A):Br true A B:=⟨λ_=>h,λe=>absurd rfl e⟩
def Cu (h:B):Br false A B:=⟨λe=>(nomatch e),λ_=>h⟩
def yc [Decidable c](hc:c)(h:B):Br (!decide c) A B:=by rw[Aqs hc];exact Cu h
def Er (e:b=false)(h:B):Br b A B:=⟨λz=>(nomatch e.symm.trans z),λ_=>h⟩
def ed (e:b=true)(h:A):Br b A B:=⟨λ_=>h,λz=>absurd e z⟩
noncomputable def slot (σ:St)(i:Nat):Option (Option V):=List.rec (motive:=λ_=>Nat->Option (Option V)) (λ_=>none) (λa _ ih i=>Nat.rec (some a) (λj _=>ih j) i) σ i
theorem Aet:∀(σ:St)(i:Nat),slot σ i=σ[i]?
 | [],_=>rfl
 | _::_,0=>rfl
 | _::σ,i+1=>by rw[List.getElem?_cons_succ];exact Aet σ i
noncomputable def Ao4 (i:Nat):TE:=λσ H Q=>asV (slot σ i) λv=>Q v H
def Anb:R2:=λx y H Q=>asI x λi=>asI y λj=>Q (.int (i+j)) H
def Am6:R2:=λx y H Q=>asI x λi=>asI y λj=>Q (.int (i-j)) H
def Apu:R2:=λx y H Q=>asI x λi=>asI y λj=>Q (.bl (decide (i<j))) H
def Aqd:R2:=λx y H Q=>asI x λi=>asI y λj=>Q (.bl (decide (i<=j))) H
def Apn:R2:=λx y H Q=>asI x λi=>asI y λj=>Q (.bl (decide (j<i))) H
def Apq:R2:=λx y H Q=>asI x λi=>asI y λj=>Q (.bl (decide (j<=i))) H
def Anh:R2:=λx y H Q=>asI x λi=>asI y λj=>Aox j (Q (.int (i%j)) H)
def Aon:R2:=λx y H Q=>asI x λi=>asI y λj=>Aoh j (Q (.int (i/j)) H)
def Anj:V->Hp->VK->Prop:=λx H Q=>asI x λi=>Q (.int (-i)) H
def Ap8:R2:=λx y H Q=>cond (Ak7 x y) (Q (.bl (decide (x=y))) H) False
def Aqn:R2:=λx y H Q=>cond (Ak7 x y) (Q (.bl (!decide (x=y))) H) False
def Ap2:R2:=λx y H Q=>asN y (Q (.bl (decide (x=.non))) H)
def Apw:R2:=λx y H Q=>asN y (Q (.bl (!decide (x=.non))) H)
def Ajo (t:TE):TT:=λσ H Q=>t σ H λx H'=>asB x λk=>Q k H'
def Anu (ta tb:TE):TE:=λσ H Q=>ta σ H λx H1=>asB x λc=>Br c (tb σ H1 Q) (Q (.bl false) H1)
def Apz (ta tb:TE):TE:=λσ H Q=>ta σ H λx H1=>asB x λc=>Br c (Q (.bl true) H1) (tb σ H1 Q)
def qIf (t:TT)(ta tb:TE):TE:=λσ H Q=>t σ H λc H1=>Br c (ta σ H1 Q) (tb σ H1 Q)
def Aqm (c:TT)(t u:TS):TS:=λD σ H=>c σ H λb H1=>Br b (t D σ H1) (u D σ H1)
def Ap7 (t u:TT):TT:=λσ H Q=>t σ H λc H1=>Br c (u σ H1 Q) (Q false H1)
def qOr (t u:TT):TT:=λσ H Q=>t σ H λc H1=>Br c (Q true H1) (u σ H1 Q)
def Aml (c:TT)(tb:TS):TS:=λD σ H=>∃W:Nat->St->Hp->Prop,(∃m,W m σ H)/\∀m σ H,W m σ H->
 c σ H λb H1=>Br b (∃N:St->Hp->Prop,(∀σ' H',N σ' H'->∃m',m'<m/\W m' σ' H')/\tb {D with nx:=N,ct:=N,bk:=D.nx} σ H1) (D.nx σ H1)
def Ahk (r r':R2)(ta tb tc:TE):TE:=λσ H Q=>ta σ H λx H1=>tb σ H1 λy H2=>r x y H2 λz H3=>asB z λk=>Br k (tc σ H3 λw' H4=>r' y w' H4 Q) (Q (.bl false) H3)
def Ano (ta:TE):TE:=λσ H Q=>ta σ H λx H1=>asB x λc=>Q (.bl (!c)) H1
def Ap9 (t:TA):TE:=λσ H Q=>t σ H λxs H1=>tupQ xs.length (∀p,H1 p=none->Q (.ref p) (upd H1 p (.tup xs)))
def Aqk (t:TA):TE:=λσ H Q=>t σ H λxs H1=>tupQ xs.length (∀p,H1 p=none->Q (.ref p) (upd H1 p (.lst xs)))
def Anq:List V->Hp->VK->Prop:=λxs H Q=>as2 xs λx y=>asI x λi=>asI y λj=>Q (.int (if j>i then j else i)) H
def Ank:List V->Hp->VK->Prop:=λxs H Q=>as2 xs λx y=>asI x λi=>asI y λj=>Q (.int (if j<i then j else i)) H
inductive IxT (K:W.Frag)(H:Hp)(p:Addr)(i:Int)(k:V->Prop):Prop where
 | mk {xs:List V} {v:V} (h:SqT K H p xs) (e:atI xs i=some v) (q:k v):IxT K H p i k
inductive IxL (K:W.Frag)(H:Hp)(p:Addr)(i:Int)(k:V->Prop):Prop where
 | mk {xs:List V} {v:V} (h:SqL K H p xs) (e:atI xs i=some v) (q:k v):IxL K H p i k
def rQT (K:W.Frag):R2:=λx y H Q=>asR x λp=>asI y λi=>IxT K H p i λv=>Q v H
def rQL (K:W.Frag):R2:=λx y H Q=>asR x λp=>asI y λi=>IxL K H p i λv=>Q v H
inductive FdQ (K:W.Frag)(H:Hp)(a:Addr)(f:Str)(k:V->Prop):Prop where
 | mk {C dx:Addr} {fs:List (Str×V)} {v:V} (h:H a=some (.ins C dx fs)) (c:Cls K C) (n:NoAttr K C f) (e:fs.lookup f=some v) (q:k v):FdQ K H a f k
def Aov (K:W.Frag)(ta:TE)(f:Str):TE:=λσ H Q=>ta σ H λx H1=>asR x λa=>FdQ K H1 a f λv=>Q v H1
def Ah3 (f:Str)(v:V):List (Str×V)->List (Str×V)
 | []=>[(f,v)]
 | (g,x)::r=>cond (g==f) ((g,v)::r) ((g,x)::Ah3 f v r)
theorem Adv (f:Str)(v:V):∀fs:List (Str×V),Ah3 f v fs=rl f v fs
 | []=>rfl
 |
  (g,x)::r=>by
  show cond (g==f) ((g,v)::r) ((g,x)::Ah3 f v r)=if g=f then(g,v)::r else(g,x)::rl f v r
  rw[Adv f v r]
  by_cases h:g=f
  · rw[if_pos h,show(g==f)=true by rw[beq_iff_eq];exact h];rfl
  · rw[if_neg h,show(g==f)=false by rw[beq_eq_false_iff_ne];exact h];rfl
def shQ (n:Nat)(k:Prop):Prop:=cond (Nat.ble n 999) k False
def Aly (h:shQ n k):n<1000/\k:=by
 obtain⟨e,q⟩:=cond_of h
 exact⟨Nat.lt_succ_of_le (Atb e),q⟩
inductive SfQ (K:W.Frag)(H:Hp)(a:Addr)(f:Str)(y:V)(k:Hp->Prop):Prop where
 | mk {C dx:Addr} {fs:List (Str×V)} (h:H a=some (.ins C dx fs)) (c:Cls K C) (n:NoAttr K C f) (q:shQ fs.length (k (upd H a (.ins C dx (Ah3 f y fs))))):SfQ K H a f y k
def An7 (K:W.Frag)(ta tv:TE)(f:Str):TS:=λD σ H=>tv σ H λy H1=>ta σ H1 λx H2=>asR x λa=>SfQ K H2 a f y (D.nx σ)
inductive MtQ (H:Hp)(a:Addr)(m:Str)(D:Addr->(V->List V->Hp->VK->Prop)->Prop)(k:(V->List V->Hp->VK->Prop)->Prop):Prop where
 | mk {C dx:Addr} {fs:List (Str×V)} {R:V->List V->Hp->VK->Prop} (h:H a=some (.ins C dx fs)) (e:fs.lookup m=none) (d:D C R) (q:k R):MtQ H a m D k
def Akb (m:Str)(n:Nat)(D:Addr->(V->List V->Hp->VK->Prop)->Prop)(ta:TE)(t:TA):TE:=λσ H Q=>ta σ H λx H1=>asR x λa=>MtQ H1 a m D λR=>t σ H1 λvs H2=>Ao2 vs n (R x vs H2 Q)
def Al7 (m:Str)(D:Addr->(V->List V->Hp->VK->Prop)->Prop)(ta:TE):TE:=λσ H Q=>ta σ H λx H1=>asR x λa=>MtQ H1 a m D λR=>R x [] H1 Q
variable {X:Cx}
def OpR.mono (h:OpR X f r)(m:∀x y H Q,r' x y H Q->r x y H Q):OpR X f r':=λp s σ H x y v u Q I rx ry q=>h p s σ H x y v u Q I rx ry (m x y H Q q)
def PE.mono (h:PE X e t)(m:∀σ H Q,t' σ H Q->t σ H Q):PE X e t':=λp s σ H Q I q=>h p s σ H Q I (m σ H Q q)
def PT.mono (h:PT X e t)(m:∀σ H Q,t' σ H Q->t σ H Q):PT X e t':=λp s σ H Q I q=>h p s σ H Q I (m σ H Q q)
def Aj0 (h:OpR X f (rI0 g)):OpR X f (λx y H Q=>asI x λi=>asI y λj=>Q (g i j) H):=h.mono λx y H Q q=>by
 obtain⟨i,rfl,q1⟩:=Pz q
 obtain⟨j,rfl,q2⟩:=Pz q1
 exact⟨i,j,rfl,rfl,q2⟩
def Ap5 (h:OpR X f (rI C g))(hc:∀i j:Int,0<j->j<1073741824->C i j):OpR X f (λx y H Q=>asI x λi=>asI y λj=>Aoh j (Q (g i j) H)):=h.mono λx y H Q q=>by
 obtain⟨i,rfl,q1⟩:=Pz q
 obtain⟨j,rfl,q2⟩:=Pz q1
 obtain⟨⟨l,u⟩,q⟩:=Aiy q2
 exact⟨i,j,rfl,rfl,hc i j l u,q⟩
def Aq:OpR X (binaryOp .Add) Anb:=Aj0 Ams
def Bc:OpR X (binaryOp .Sub) Am6:=Aj0 Alk
def Lq:OpR X (compareOp .Lt) Apu:=Aj0 An8
def ie:OpR X (compareOp .LtE) Aqd:=Aj0 Anf
def qd:OpR X (compareOp .Gt) Apn:=Aj0 An2
def Aao:OpR X (compareOp .GtE) Apq:=Aj0 Aoj
def Av:OpR X (binaryOp .Mod) Anh:=M8.mono λx y H Q q=>by
 obtain⟨i,rfl,q1⟩:=Pz q
 obtain⟨j,rfl,q2⟩:=Pz q1
 exact⟨i,j,rfl,rfl,Aie q2⟩
def Az:OpR X (binaryOp .FloorDiv) Aon:=Ap5 xa λ_ _ h g=>⟨h,g⟩
def Bg:OpR X (compareOp .Eq) Ap8:=Ah2.mono λ_ _ _ _ q=>cond_of q
def pf:OpR X (compareOp .NotEq) Aqn:=Aoe.mono λ_ _ _ _ q=>cond_of q
def ke:OpR X (compareOp .Is) Ap2:=Akz.mono λ_ _ _ _ q=>Ahi q
def wt:OpR X (compareOp .IsNot) Apw:=Aid.mono λ_ _ _ _ q=>Ahi q
def j9:UnR X (unaryOp .USub) Anj:=λp s σ H x v Q I rx q=>Ahd p s σ H x v Q I rx (Pz q)
def qv (i:Nat)(hN:X.N[i]?=some x:=by rfl)(hv:Vis X.env.scope x:=by first|exact Or.inl rfl|exact Or.inr (Or.inl rfl)|exact Or.inr (Or.inr rfl))(hd:(x==("__debug__":Str))=false:=by decide)
 (hcd:(x==("__classdict__":Str))=false:=by decide):PE X (.Name x pos) (Ao4 i):=(Akp hN hv hd hcd).mono λσ _ _ q=>by rw[Ao4,Aet] at q;exact Al8 q
def clo (t:TE):TE:=λσ H Q=>∃R,t σ H R/\∀x H1,R x H1->Q x H1
def Apo (t:TA):TA:=λσ H Q=>∃R,t σ H R/\∀x H1,R x H1->Q x H1
theorem PE.clo (h:PE X e t):PE X e (clo t):=λp s σ H _ I ⟨R,q,m⟩=>thn (h p s σ H R I q) λ_ _ ⟨v,H1,I1,r,q⟩=>⟨v,H1,I1,r,m v H1 q⟩
def PA.clo (h:PA X es t):PA X es (Apo t):=λo p s σ H _ I ⟨R,q,m⟩=>thn (h o p s σ H R I q) λ_ _ ⟨v,H1,I1,r,q⟩=>⟨v,H1,I1,r,m v H1 q⟩
def OpR.clo (h:OpR X f r):OpR X f (λx y H Q=>∃R,r x y H R/\∀x H1,R x H1->Q x H1):=λp s σ H x y v u _ I rx ry ⟨R,q,m⟩=>thn (h p s σ H x y v u R I rx ry q) λ_ _ ⟨v,H1,I1,r,q⟩=>⟨v,H1,I1,r,m v H1 q⟩
def Ap3 (t:TT):TT:=λσ H Q=>∃R,t σ H R/\∀x H1,R x H1->Q x H1
def PT.clo (h:PT X e t):PT X e (Ap3 t):=λp s σ H _ I ⟨R,q,m⟩=>thn (h p s σ H R I q) λ_ _ ⟨H1,I1,q⟩=>⟨H1,I1,m _ H1 q⟩
def Ak (ho:OpR X (compareOp op) r)(ha:PE X a ta)(hb:PE X b tb)(hm:behindInMarks op b=false):PT X (.Compare a [op] [b] pos) (Ajo (tOp r ta tb)):=
 (Ajc ho.clo ha.clo hb.clo hm).mono λ_ _ _ q=>⟨_,q,λ_ _ q=>⟨_,q,λ_ _ q=>⟨_,q,λ_ _ q=>Xg q⟩⟩⟩
def Dg (h:PE X e t)(he:∀whole,isTrue e X.env whole=(do let v ←whole;standAt e.pos;holding [v] (truthy v)):=by intro _;rfl):PT X e (Ajo t):=
 (Al6 h.clo he).mono λ_ _ _ q=>⟨_,q,λ_ _ q=>Xg q⟩
def Dk {a:Expr}{ta tb:TE}{pos:Pos}{rest:List Expr}(ha:PE X a ta)(hb:PE X (.BoolOp .And (b::rest) pos) tb):PE X (.BoolOp .And (a::b::rest) pos) (Anu ta tb):=(Akt ha.clo hb).mono λ_ _ _ q=>⟨_,q,λ_ _ q=>(Xg q).elim λc q=>⟨c,q.1,q.2.of⟩⟩
def Ac8 {a:Expr}{ta tb:TE}{pos:Pos}{rest:List Expr}(ha:PE X a ta)(hb:PE X (.BoolOp .Or (b::rest) pos) tb):PE X (.BoolOp .Or (a::b::rest) pos) (Apz ta tb):=(Am7 ha.clo hb).mono λ_ _ _ q=>⟨_,q,λ_ _ q=>(Xg q).elim λc q=>⟨c,q.1,q.2.of⟩⟩
def Ob {a:Expr}{pos:Pos}{rest:List Expr}{tA tB':TT}(ha:PT X a tA)(hb:PW X (.BoolOp .And (b::rest) pos) tB'):PW X (.BoolOp .And (a::b::rest) pos) (Ap7 tA tB'):=λwh p s σ H Q I q=>Ak3 ha.clo hb wh p s σ H Q I ⟨_,q,λ_ _ q=>q.of⟩
def cg {a:Expr}{pos:Pos}{rest:List Expr}{tA tB':TT}(ha:PT X a tA)(hb:PW X (.BoolOp .Or (b::rest) pos) tB'):PW X (.BoolOp .Or (a::b::rest) pos) (qOr tA tB'):=λwh p s σ H Q I q=>Anl ha.clo hb wh p s σ H Q I ⟨_,q,λ_ _ q=>q.of⟩
def El (hc:PT X c tA)(ha:PE X a ta)(hb:PE X b tb):PE X (.IfExp c a b pos) (qIf tA ta tb):=(Agi hc.clo ha hb).mono λ_ _ _ q=>⟨_,q,λ_ _ q=>q.of⟩
def A2 (hc:PT X c tc)(ha:PSs X sa t)(hb:PSs X sb u):PS X (.If c sa sb pos) (Aqm tc t u):=λp s σ H D I q=>Anz hc.clo ha hb p s σ H D I ⟨_,q,λ_ _ q=>q.of⟩
def T6 (hp:PassesOwn (model X.prog X.w) X.A X.env X.xe)(hc:PT X c tc)(hb:PSs X body tb):PS X (.While c body [] pos) (Aml tc tb):=λp s σ H D I ⟨W,w,q⟩=>Af5 hp hc.clo hb p s σ H D I ⟨W,w,λm σ H w=>⟨_,q m σ H w,λ_ _ q=>q.of⟩⟩
def ot (ho:OpR X (compareOp op) r)(ho':OpR X (compareOp op') r')(ha:PE X a ta)(hb:PE X b tb)(hc:PE X c tc)
  (hm:lastMarks [op,op'] [b,c]=false:=by with_unfolding_all rfl):PE X (.Compare a [op,op'] [b,c] pos) (Ahk r r' ta tb tc):=
 (Agq ho.clo ho'.clo ha.clo hb.clo hc.clo hm).mono λ_ _ _ q=>⟨_,q,λ_ _ q=>⟨_,q,λ_ _ q=>⟨_,q,λ_ _ q=>(Xg q).elim λc q=>⟨c,q.1,by
  have:=q.2.of
  cases c with
  | true=>exact⟨_,this,λ_ _ q=>⟨_,q,λ_ _ q=>q⟩⟩
  | false=>exact this⟩⟩⟩⟩
def d7 (ho:OpR X (compareOp op) r)(ho':OpR X (compareOp op') r')(ha:PE X a ta)(hb:PE X b tb)(hc:PE X c tc)
  (hm:lastMarks [op,op'] [b,c]=false:=by with_unfolding_all rfl):PT X (.Compare a [op,op'] [b,c] pos) (Ajo (Ahk r r' ta tb tc)):=
 (Agh ho.clo ho'.clo ha.clo hb.clo hc.clo hm).mono λ_ _ _ q=>⟨_,q,λ_ _ q=>⟨_,q,λ_ _ q=>⟨_,q,λ_ _ q=>(Xg q).elim λc q=>⟨c,q.1,by
  have:=q.2.of
  cases c with
  | true=>exact⟨_,this,λ_ _ q=>⟨_,q,λ_ _ q=>Xg q⟩⟩
  | false=>exact Xg this⟩⟩⟩⟩
def Ad0 (ha:PE X a ta):PE X (.UnaryOp .Not a pos) (Ano ta):=(Amk ha.clo).mono λ_ _ _ q=>⟨_,q,λ_ _ q=>Xg q⟩
def Ea {x1}(h:PA X es t):PE X (.Tuple es x1 pos) (Ap9 t):=(Amn h.clo).mono λ_ _ _ q=>⟨_,q,λ_ _ q=>Ad9 q⟩
def Lv (h:PA X es t):PE X (.List es pos) (Aqk t):=(Aj7 h.clo).mono λ_ _ _ q=>⟨_,q,λ_ _ q=>Ad9 q⟩
def M7 (hc:X.calm=true):Lc X (.builtin "max") Anq:=λp s σ H xs us Q I r q=>Ad1 hc p s σ H xs us Q I r (by
 obtain⟨x,y,rfl,q0⟩:=Ag7 q
 obtain⟨i,rfl,q1⟩:=Pz q0
 obtain⟨j,rfl,q2⟩:=Pz q1
 exact⟨i,j,rfl,q2⟩)
def Ip (hc:X.calm=true):Lc X (.builtin "min") Ank:=λp s σ H xs us Q I r q=>Ab9 hc p s σ H xs us Q I r (by
 obtain⟨x,y,rfl,q0⟩:=Ag7 q
 obtain⟨i,rfl,q1⟩:=Pz q0
 obtain⟨j,rfl,q2⟩:=Pz q1
 exact⟨i,j,rfl,q2⟩)
def IxR.mono (h:IxR X r)(m:∀x y H Q,r' x y H Q->r x y H Q):IxR X r':=λa b p s σ H x y v u Q I rx ry q=>h a b p s σ H x y v u Q I rx ry (m x y H Q q)
def Adf {K:W.Frag}(hK:X.K=K):IxR X (rQT K):=(Ajn hK).mono λx y H Q q=>by
 obtain⟨p,rfl,q0⟩:=nh q
 obtain⟨i,rfl,h,e,q⟩:=Pz q0
 exact⟨p,_,i,_,rfl,rfl,h,e,q⟩
def i5 {K:W.Frag}(hK:X.K=K):IxR X (rQL K):=(Afr hK).mono λx y H Q q=>by
 obtain⟨p,rfl,q0⟩:=nh q
 obtain⟨i,rfl,h,e,q⟩:=Pz q0
 exact⟨p,_,i,_,rfl,rfl,h,e,q⟩
def Akx {e:Expr}{ta:TE}{K:W.Frag}{f:Str}(hK:X.K=K)(he:PE X e ta)(hb:attributeBase e f X.env (eval e X.env)=eval e X.env:=by rfl):PE X (.Attribute e f pos) (Aov K ta f):=(Aiu hK he.clo hb).mono λ_ _ _ q=>⟨_,q,λ_ _ q=>by
 obtain⟨p,rfl,h,c,n,e,q⟩:=nh q
 exact⟨p,_,_,_,_,rfl,h,c,n,e,q⟩⟩
def Ce {ta:TE}{pos:Pos}{K:W.Frag}{f:Str}{o value:Expr}{tv:TE}{pos':Pos}(hK:X.K=K)(ha:PE X o ta)(hv:PE X value tv)(hs:swapsWith value (some (.Attribute o f pos')) pos.line X.env=pure false:=by rfl):PS X (.Assign [.Attribute o f pos'] value pos) (An7 K ta tv f):=
 λp s σ H D I q=>Ai9 hK ha.clo hv.clo hs p s σ H D I ⟨_,q,λ_ _ q=>⟨_,q,λ_ _ q=>by
  obtain⟨p,rfl,h,c,n,q⟩:=nh q
  obtain⟨l,q⟩:=Aly q
  rw[Adv] at q
  exact⟨p,_,_,_,rfl,h,c,n,l,q⟩⟩⟩
def Ba (he:PE X o ta)(hD:∀C R,D C R->Ans X m n C R)(ha:PA X (e::es) t)
  (hst:starEach (e::es) X.env=(false,eval e X.env)::starEach es X.env:=by rfl) (hpl:(backTo pos (starEach es X.env)).any (·.1)=false:=by rfl)
  (ht:eval (.Call (.Attribute o m apos) (e::es) [] pos) X.env=(do
   let ov ←eval o X.env
   standAt apos.atName
   let (f,first) ←holding [ov] (getMethod ov m pl)
   callWith pos f first (backTo pos (starEach (e::es) X.env)) (backToKw pos (keywordEach [] X.env))):=by rfl):
  PE X (.Call (.Attribute o m apos) (e::es) [] pos) (Akb m n D ta t):=(Af2 he.clo hD ha.clo hst hpl ht).mono λ_ _ _ q=>⟨_,q,λ_ _ q=>by
 obtain⟨p,rfl,h,e,d,q⟩:=nh q
 exact⟨p,_,_,_,_,rfl,h,e,d,_,q,λ_ _ q=>Aju q⟩⟩
def ur (he:PE X o ta)(hD:∀C R,D C R->Ans X m 0 C R)
  (ht:eval (.Call (.Attribute o m apos) [] [] pos) X.env=(do
   let ov ←eval o X.env
   standAt apos.atName
   let (f,first) ←holding [ov] (getMethod ov m pl)
   callWith pos f first (backTo pos (starEach [] X.env)) (backToKw pos (keywordEach [] X.env))):=by rfl):
  PE X (.Call (.Attribute o m apos) [] [] pos) (Al7 m D ta):=(Ado he.clo hD ht).mono λ_ _ _ q=>⟨_,q,λ_ _ q=>by
 obtain⟨p,rfl,h,e,d,q⟩:=nh q
 exact⟨p,_,_,_,_,rfl,h,e,d,q⟩⟩
def qc {es:List Expr}{t:TA}{x:Str}{j k:Nat}{f:Addr}{fd:FuncData}{ps:List Str}{sp:Sp}{x1 x2:Str}{st:Stmt}(F:FnOk X.prog X.w X.K X.mg X.base CX0 true j f fd ps sp)(hr:Room true k X.A)(hm:X.mg x=some (.ref f))(G:Fun X.K x1 x2 st f fd)(hb:Binds X.K fd ps [])(ha:PA X (e::es) t)
 (hj:j<=k:=by first|decide|lia) (hg:Gl X x:=by rfl) (hdb:(x==("__debug__":Str))=false:=by decide) (he:starEach (e::es) X.env=(false,eval e X.env)::starEach es X.env:=by rfl) (hpl:(backTo pos (starEach es X.env)).any (·.1)=false:=by rfl):
 PE X (.Call (.Name x p) (e::es) [] pos) (Aix sp [] E0 t):=A5 (F.mono hj) hr hg hm G.kp hb .nil Bl ha hdb he hpl
def Eh (i:Nat)(hN:X.N.Nodup)(he:PE X e te)(hi:X.N[i]?=some x:=by rfl)(hx:Loc X.env.scope x:=by first|exact .inl rfl|exact .inr rfl)(hs:swapsWith e (some (.Name x pos')) pos.line X.env=pure false:=by rfl)
 (hf:X.fn x=true∨X.env.scope.names.lookup x=some .local:=by first|exact .inl rfl|exact .inr rfl|assumption):PS X (.Assign [.Name x pos'] e pos) (Am1 te (fj i)):=Fv hN hi hx he hs hf
def qnm (i:Nat)(hN:X.N.Nodup)(hi:X.N[i]?=some x:=by rfl)(hx:Loc X.env.scope x:=by first|exact .inl rfl|exact .inr rfl)
 (hf:X.fn x=true∨X.env.scope.names.lookup x=some .local:=by first|exact .inl rfl|exact .inr rfl|assumption):PG X (.Name x pos) (fj i):=Fq hN hi hx hf
def qsc (h1:s.kind=.function:=by rfl)(h2:s.isCoroutine=false:=by rfl)(h3:s.isGenerator=false:=by rfl)(h4:N.Nodup:=by decide+kernel)(h5:N.take P.length=P:=by rfl)
 (h6:∀x∈P,s.names.lookup x=some .local∨s.names.lookup x=some .cell:=by decide+kernel) (h7:∀y∈s.names,y.2≠ .free:=by decide+kernel):Au N P s:=⟨h1,h2,h3,h4,h5,h6,h7⟩
def qix (K)(ha:PE X a ta)(hb:PE X b tb)(hK:X.K=K:=by rfl)(hs:xc b:=by exact λ_ _=>rfl):PE X (.Subscript a b pos) (tOp (rQT K) ta tb):=sv (Adf hK) ha hb hs
def qil (K)(ha:PE X a ta)(hb:PE X b tb)(hK:X.K=K:=by rfl)(hs:xc b:=by exact λ_ _=>rfl):PE X (.Subscript a b pos) (tOp (rQL K) ta tb):=sv (i5 hK) ha hb hs
def qf (K)(he:PE X e te)(hK:X.K=K:=by rfl)(hb:attributeBase e f' X.env (eval e X.env)=eval e X.env:=by rfl):PE X (.Attribute e f' pos) (Aov K te f'):=Akx hK he hb
def Fun.go {P:Program}{w:World}{K:W.Frag}{mg:Str->Option Value}{base:Heap}{cm:Bool}{x qual:Str}{st:Stmt}{f:Addr}{fd:FuncData}{N ps:List Str}{k:Nat}{sp:Sp}(F:Fun K x qual st f fd)(S:Au N ps (Ah st))
 (hbody:∀(cdv:Value)(A:Around)(outer:List Env)(s:Shared)(H:Hp)(vs:List V)(Q:VK)(E:XK),Room cm k (A.deeper (envOfC qual (Ah st) s.heap.objs.size f cdv))->sp vs H Q E->
  ∃t,PSs (zz CX0 cm P w K mg base N qual (Ah st) f cdv A outer s H E).nox (Ay st) t/\t {nx:=λ_ H'=>Q .non H',rt:=λ_=>Q} (start N vs) H)
 (len:∀vs H Q E,sp vs H Q E->vs.length=ps.length:=by intro vs H Q E h;(repeat (first|(obtain⟨e,_⟩:=h;subst e;rfl)|obtain⟨_,h⟩:=h))):FnOk P w K mg base CX0 cm (k+1) f fd ps sp:=F.ok S len hbody
def Fun.gq {P:Program}{w:World}{K:W.Frag}{mg:Str->Option Value}{base:Heap}{cm:Bool}{x qual:Str}{st:Stmt}{f:Addr}{fd:FuncData}{ps:List Str}{k:Nat}{sp:Sp}(F:Fun K x qual st f fd)(N:List Str)
 (hbody:∀(cdv:Value)(A:Around)(outer:List Env)(s:Shared)(H:Hp)(vs:List V)(Q:VK)(E:XK),Room cm k (A.deeper (envOfC qual (Ah st) s.heap.objs.size f cdv))->sp vs H Q E->
  ∃t,PSs (zz CX0 cm P w K mg base N qual (Ah st) f cdv A outer s H E).nox (Ay st) t/\t {nx:=λ_ H'=>Q .non H',rt:=λ_=>Q} (start N vs) H)
 (S:Au N ps (Ah st):=by exact qsc) (len:∀vs H Q E,sp vs H Q E->vs.length=ps.length:=by intro vs H Q E h;(repeat (first|(obtain⟨e,_⟩:=h;subst e;rfl)|obtain⟨_,h⟩:=h))):FnOk P w K mg base CX0 cm (k+1) f fd ps sp:=F.ok S len hbody
def FunD.go {P:Program}{w:World}{K:W.Frag}{mg:Str->Option Value}{base:Heap}{cm:Bool}{x qual:Str}{st:Stmt}{f:Addr}{fd:FuncData}{N ps:List Str}{k:Nat}{sp:Sp}(F:FunD K x qual st f fd)(S:Au N ps (Ah st))
 (hbody:∀(cdv:Value)(A:Around)(outer:List Env)(s:Shared)(H:Hp)(vs:List V)(Q:VK)(E:XK),Room cm k (A.deeper (envOfC qual (Ah st) s.heap.objs.size f cdv))->sp vs H Q E->
  ∃t,PSs (zz CX0 cm P w K mg base N qual (Ah st) f cdv A outer s H E).nox (Ay st) t/\t {nx:=λ_ H'=>Q .non H',rt:=λ_=>Q} (start N vs) H)
 (len:∀vs H Q E,sp vs H Q E->vs.length=ps.length:=by intro vs H Q E h;(repeat (first|(obtain⟨e,_⟩:=h;subst e;rfl)|obtain⟨_,h⟩:=h))):FnOk P w K mg base CX0 cm (k+1) f fd ps sp:=F.ok S len hbody
def FunD.gq {P:Program}{w:World}{K:W.Frag}{mg:Str->Option Value}{base:Heap}{cm:Bool}{x qual:Str}{st:Stmt}{f:Addr}{fd:FuncData}{ps:List Str}{k:Nat}{sp:Sp}(F:FunD K x qual st f fd)(N:List Str)
 (hbody:∀(cdv:Value)(A:Around)(outer:List Env)(s:Shared)(H:Hp)(vs:List V)(Q:VK)(E:XK),Room cm k (A.deeper (envOfC qual (Ah st) s.heap.objs.size f cdv))->sp vs H Q E->
  ∃t,PSs (zz CX0 cm P w K mg base N qual (Ah st) f cdv A outer s H E).nox (Ay st) t/\t {nx:=λ_ H'=>Q .non H',rt:=λ_=>Q} (start N vs) H)
 (S:Au N ps (Ah st):=by exact qsc) (len:∀vs H Q E,sp vs H Q E->vs.length=ps.length:=by intro vs H Q E h;(repeat (first|(obtain⟨e,_⟩:=h;subst e;rfl)|obtain⟨_,h⟩:=h))):FnOk P w K mg base CX0 cm (k+1) f fd ps sp:=F.ok S len hbody
def qan (c:Cls X.K C)(hm:Meth X.K C m f)(F:FnOk X.prog X.w X.K X.mg X.base CX0 cm k f fd ps sp)(hr:Room cm k X.A)(hb:Binds X.K fd ps []):Ans X m n C (λx vs H Q=>sp (x::(vs++[])) H Q E0):=
 ⟨c,_,_,_,_,_,_,_,_,_,_,hm,F,hr,hb,.nil,Bl,λ_ _ _ _ _ h=>h⟩
def qb {es:List Expr}{t:TA}{x:Str}{id:String}{r:List V->Hp->VK->Prop}(hc:Lc X (.builtin id) r)(hm:X.mg x=none)(ha:PA X (e::es) t)(hg:Gl X x:=by rfl)(hv:bootBuiltins x=some (.builtin id):=by decide+kernel)(hn:x≠"__name__":=by decide)(hdb:(x==("__debug__":Str))=false:=by decide)
 (he:starEach (e::es) X.env=(false,eval e X.env)::starEach es X.env:=by rfl) (hpl:(backTo pos (starEach es X.env)).any (·.1)=false:=by rfl):PE X (.Call (.Name x p) (e::es) [] pos) (tCB r t):=Bi hc hg hm hv ha hn hdb he hpl
def qty (hc:Lc X (.type T) r)(hm:X.mg x=none)(ha:PA X (e::es) t)(hg:Gl X x:=by rfl)(hv:bootBuiltins x=some (.type T):=by decide+kernel)(hn:x≠"__name__":=by decide)(hdb:(x==("__debug__":Str))=false:=by decide)
 (he:starEach (e::es) X.env=(false,eval e X.env)::starEach es X.env:=by rfl) (hpl:(backTo pos (starEach es X.env)).any (·.1)=false:=by rfl):PE X (.Call (.Name x p) (e::es) [] pos) (tCB r t):=K9 hc hg hm hv ha hn hdb he hpl
def qm (M:Mk X.K C f)(F:FnOk X.prog X.w X.K X.mg X.base CX0 true j f fd ps sp)(hr:Room true (k+1) X.A)(hm:X.mg x=some (.ref C))(hb:Binds X.K fd ps [])(ha:PA X (e::es) t)(hj:j<=k:=by first|decide|lia)(hg:Gl X x:=by rfl)
 (hdb:(x==("__debug__":Str))=false:=by decide) (he:starEach (e::es) X.env=(false,eval e X.env)::starEach es X.env:=by rfl) (hpl:(backTo pos (starEach es X.env)).any (·.1)=false:=by rfl):
 PE X (.Call (.Name x p) (e::es) [] pos) (Akf C sp [] E0 t):=Fw M (F.mono hj) hr hg hm hb .nil Bl ha hdb he hpl
end L2
set_option smartUnfolding false
namespace K15
open PySem L2
def top (i:Nat):Stmt:=PySem.Challenge.pw_hourhouse_k15_whole_days_of_rules.main.body.getD i (.Pass ⟨0,0,0,0⟩)
abbrev zr:Stmt:=top 11
abbrev vy:Stmt:=top 12
abbrev Sy:Stmt:=top 14
abbrev sg:Stmt:=top 18
abbrev Vh:Stmt:=top 27
abbrev Qn:Stmt:=top 34
abbrev Cw:Stmt:=inClass (top 35) 1
abbrev Tu:Stmt:=inClass (top 35) 0
abbrev By:Stmt:=inClass (top 36) 2
abbrev Rm:Stmt:=inClass (top 38) 0
abbrev Vp:Stmt:=inClass (top 43) 0
abbrev zf:Stmt:=top 47
abbrev Pd:Stmt:=inClass (top 49) 1
abbrev T4:Stmt:=inClass (top 49) 0
abbrev Sr:Stmt:=inClass (top 50) 1
abbrev O8:Stmt:=inClass (top 50) 2
abbrev W5:Stmt:=inClass (top 50) 0
abbrev Q3:Stmt:=inClass (top 51) 2
abbrev Vj:Stmt:=inClass (top 51) 1
abbrev ag:Stmt:=inClass (top 51) 0
abbrev Tg:Stmt:=inClass (top 52) 0
abbrev Pj:Stmt:=inClass (top 52) 1
abbrev R4:Stmt:=inClass (top 52) 2
abbrev Ga:Stmt:=inClass (top 53) 2
abbrev Hf:Stmt:=inClass (top 54) 2
abbrev Dl:Stmt:=inClass (top 54) 1
abbrev Bm:Stmt:=inClass (top 54) 0
abbrev Wk:Stmt:=top 56
abbrev Yn:Stmt:=top 57
abbrev m9:Stmt:=top 58
abbrev Yt:Stmt:=top 60
abbrev nu:Stmt:=top 65
abbrev i6:Stmt:=top 67
abbrev ab:Stmt:=top 13
abbrev Qk:Stmt:=top 15
abbrev iq:Stmt:=top 28
abbrev uj:Stmt:=top 30
abbrev Z7:Stmt:=top 31
abbrev M4:Stmt:=inClass (top 36) 3
abbrev R6:Stmt:=inClass (top 36) 1
abbrev Lw:Stmt:=inClass (top 37) 1
abbrev B8:Stmt:=inClass (top 42) 2
abbrev Ll:Stmt:=inClass (top 43) 1
abbrev R7:Stmt:=inClass (top 49) 2
abbrev Rj:Stmt:=inClass (top 53) 0
abbrev Oc:Stmt:=inClass (top 53) 1
abbrev F8:Stmt:=inClass (top 54) 5
abbrev Gg:Stmt:=inClass (top 54) 3
abbrev ak:Stmt:=top 59
abbrev iw:Stmt:=top 66
abbrev Qw:Stmt:=top 69
abbrev Zp:Stmt:=top 16
abbrev Xf:Stmt:=top 29
abbrev Qa:Stmt:=top 32
abbrev Tv:Stmt:=top 33
abbrev C0:Stmt:=inClass (top 36) 0
abbrev M6:Stmt:=inClass (top 37) 2
abbrev Q6:Stmt:=inClass (top 42) 0
abbrev Sq:Stmt:=inClass (top 42) 1
abbrev Bv:Stmt:=inClass (top 43) 2
abbrev Of:Stmt:=inClass (top 54) 4
abbrev Zk:Stmt:=top 61
abbrev iy:Stmt:=top 62
abbrev ju:Stmt:=top 17
abbrev Bn:Stmt:=inClass (top 37) 4
abbrev Cd:Stmt:=inClass (top 37) 0
abbrev P4:Stmt:=inClass (top 37) 3
abbrev B0:Stmt:=inClass (top 39) 0
abbrev R0:Stmt:=inClass (top 39) 1
abbrev Ei:Stmt:=inClass (top 40) 0
abbrev Z9:Stmt:=inClass (top 40) 1
abbrev Sv:Stmt:=inClass (top 41) 1
abbrev Ox:Stmt:=top 63
abbrev N1:Stmt:=top 68
abbrev Lh:Stmt:=top 71
abbrev Bj:Stmt:=inClass (top 38) 3
abbrev Ik:Stmt:=inClass (top 38) 2
abbrev Bx:Stmt:=inClass (top 41) 0
abbrev Wc:Stmt:=top 72
abbrev Oy:Stmt:=top 75
abbrev Hm:Stmt:=top 76
abbrev O6:Stmt:=inClass (top 35) 2
abbrev Iw:Stmt:=top 21
abbrev U2:Stmt:=top 64
abbrev Y4:Stmt:=top 70
abbrev Q2:Stmt:=top 73
abbrev F3:Stmt:=top 22
abbrev Mn:Stmt:=top 23
abbrev Xs:Stmt:=top 74
abbrev Ja:Stmt:=top 78
abbrev Yz:Stmt:=top 77
abbrev K0:Stmt:=top 79
abbrev Aat:Stmt:=top 80
set_option genInjectivity false
set_option genSizeOf false
structure Adr where
 fg:Addr
 dv:FuncData
 Xq:Addr
 X0:FuncData
 Nl:Addr
 Ol:FuncData
 Wx:Addr
 Wo:FuncData
 K3:Addr
 Ky:FuncData
 Ml:Addr
 Me:FuncData
 Kp:Addr
 Kz:FuncData
 Jm:Addr
 Hw:FuncData
 Jf:Addr
 Ij:FuncData
 Eu:Addr
 G7:FuncData
 Kq:Addr
 Km:FuncData
 ef:Addr
 fc:FuncData
 Ef:Addr
 D6:FuncData
 Jq:Addr
 Jo:FuncData
 Fl:Addr
 Fu:FuncData
 Gk:Addr
 Gq:FuncData
 Mj:Addr
 Md:FuncData
 Hx:Addr
 Ih:FuncData
 Gp:Addr
 Gj:FuncData
 N2:Addr
 Oe:FuncData
 Hz:Addr
 Jh:FuncData
 D4:Addr
 D7:FuncData
 E4:Addr
 Ez:FuncData
 Eb:Addr
 Ed:FuncData
 Eo:Addr
 Ep:FuncData
 Dr:Addr
 Dq:FuncData
 G3:Addr
 Co:FuncData
 L7:Addr
 L8:FuncData
 Ud:Addr
 Ug:FuncData
 U1:Addr
 Uz:FuncData
 Ux:Addr
 Uk:FuncData
 Uy:Addr
 Uj:FuncData
 Qm:Addr
 Qb:FuncData
 N4:Addr
 Nq:FuncData
 Mi:Addr
 Mh:FuncData
 Qz:Addr
 Q9:FuncData
 Xe:Addr
 Yb:FuncData
 Og:Addr
 Ny:FuncData
 Jc:Addr
 Ii:FuncData
 G0:Addr
 Gy:FuncData
 Dt:Addr
 Dv:FuncData
 Kv:Addr
 Ko:FuncData
 G2:Addr
 Gv:FuncData
 Ex:Addr
 E3:FuncData
 Gw:Addr
 Gx:FuncData
 Dj:Addr
 Df:FuncData
 D9:Addr
 Dz:FuncData
 Dw:Addr
 Dx:FuncData
 Nt:Addr
 Nz:FuncData
 Qj:Addr
 Qs:FuncData
 Qe:Addr
 Qu:FuncData
 Uh:Addr
 Ui:FuncData
 L3:Addr
 Mf:FuncData
 Mb:Addr
 Ma:FuncData
 Oa:Addr
 Oh:FuncData
 Kl:Addr
 Gm:FuncData
 Ek:Addr
 Em:FuncData
 Mc:Addr
 Mg:FuncData
 Iz:Addr
 Hy:FuncData
 Jg:Addr
 Ir:FuncData
 Dm:Addr
 Dp:FuncData
 Ul:Addr
 Uc:FuncData
 Wh:Addr
 Xn:FuncData
 W0:Addr
 Xl:FuncData
 G6:Addr
 G4:FuncData
 Im:Addr
 Eg:FuncData
 Gb:Addr
 F9:FuncData
 G5:Addr
 Dd:FuncData
 Gr:Addr
 G8:FuncData
 Oo:Addr
 Hk:FuncData
 Nm:Addr
 N6:FuncData
 Io:Addr
 Iv:FuncData
 Ki:Addr
 Kx:FuncData
 Np:Addr
 N8:FuncData
 Gz:Addr
 G1:FuncData
 C7:Addr
 F7:FuncData
 Cm:Addr
 Fc:FuncData
 Jr:Addr
 D8:FuncData
 Ra:Addr
 Q0:FuncData
 Kr:Addr
 Ku:FuncData
 Pb:Addr
 U0:FuncData
 Bt:Addr
 Kn:FuncData
 Xw:Addr
 P6:FuncData
 Kd:Addr
 Jx:FuncData
 Kc:Addr
 J4:FuncData
 Hb:Addr
 Hh:FuncData
 Uq:Addr
 Mo:FuncData
 d8:Addr
 Uw:FuncData
 Wt:Addr
 Ye:FuncData
 Ji:Addr
 Jn:FuncData
 Kb:Addr
 Ke:FuncData
 Kt:Addr
 K1:FuncData
 Abe:Addr
 yd:FuncData
 J5:Addr
 A8:Addr
 Fo:Addr
 C8:Addr
 Fd:Addr
 L6:Addr
 Bb:Addr
 Am:Addr
 Fe:Addr
 Bq:Addr
 Cg:Addr
 Ax:Addr
 Fb:Addr
 Gd:Addr
 Bh:Addr
 A3:Addr
 B4:Addr
 Bk:Addr
 A0:Addr
structure Txt (K:W.Frag)(mg:Str->Option Value)(a:Adr):Prop where
 N5:Fun K "is_day" "is_day" zr a.fg a.dv
 Rg:mg "is_day"=some (.ref a.fg)
 Qg:Binds K a.dv ["number"] []
 jk:Fun K "is_leap" "is_leap" vy a.Xq a.X0
 sk:mg "is_leap"=some (.ref a.Xq)
 tm:Binds K a.X0 ["year"] []
 Z0:Fun K "year_begin" "year_begin" Sy a.Nl a.Ol
 t8:mg "year_begin"=some (.ref a.Nl)
 uc:Binds K a.Ol ["year"] []
 Py:Fun K "weekday" "weekday" sg a.Wx a.Wo
 T5:mg "weekday"=some (.ref a.Wx)
 Tj:Binds K a.Wo ["day"] []
 Bu:Fun K "check_bounds" "check_bounds" Vh a.K3 a.Ky
 B6:mg "check_bounds"=some (.ref a.K3)
 B7:Binds K a.Ky ["number","least","most"] []
 Jj:Fun K "count_below" "count_below" Qn a.Ml a.Me
 L4:mg "count_below"=some (.ref a.Ml)
 L9:Binds K a.Me ["days","number"] []
 k8:FunD K "next_in" "Rule.next_in" Cw a.Kp a.Kz
 lq:Binds K a.Kz ["self","day","end"] []
 gw:Fun K "falls_on" "Rule.falls_on" Tu a.Jm a.Hw
 kc:Binds K a.Hw ["self","day"] []
 gf:FunD K "next_in" "Every.next_in" By a.Jf a.Ij
 Su:Binds K a.Ij ["self","day","end"] []
 dj:Fun K "__init__" "ByMonth.__init__" Rm a.Eu a.G7
 Lp:Binds K a.G7 ["self","origin","stride","first"] []
 mz:Fun K "__init__" "Where.__init__" Vp a.Kq a.Km
 mw:Binds K a.Km ["self","test"] []
 o6:Fun K "merged" "merged" zf a.ef a.fc
 y9:mg "merged"=some (.ref a.ef)
 yt:Binds K a.fc ["one","other"] []
 Yh:Fun K "falls_on" "Either.falls_on" Pd a.Ef a.D6
 Zf:Binds K a.D6 ["self","day"] []
 gc:Fun K "__init__" "Either.__init__" T4 a.Jq a.Jo
 kf:Binds K a.Jo ["self","one","other"] []
 f7:Fun K "falls_on" "Both.falls_on" Sr a.Fl a.Fu
 i4:Binds K a.Fu ["self","day"] []
 ky:Fun K "days_in" "Both.days_in" O8 a.Gk a.Gq
 mh:Binds K a.Gq ["self","begin","end"] []
 qz:Fun K "__init__" "Both.__init__" W5 a.Mj a.Md
 o8:Binds K a.Md ["self","one","other"] []
 pk:Fun K "days_in" "But.days_in" Q3 a.Hx a.Ih
 ou:Binds K a.Ih ["self","begin","end"] []
 ll:Fun K "falls_on" "But.falls_on" Vj a.Gp a.Gj
 ko:Binds K a.Gj ["self","day"] []
 uf:Fun K "__init__" "But.__init__" ag a.N2 a.Oe
 rz:Binds K a.Oe ["self","one","other"] []
 gy:Fun K "__init__" "Within.__init__" Tg a.Hz a.Jh
 ka:Binds K a.Jh ["self","rule","begin","end"] []
 Yj:Fun K "falls_on" "Within.falls_on" Pj a.D4 a.D7
 Yq:Binds K a.D7 ["self","day"] []
 ba:Fun K "days_in" "Within.days_in" R4 a.E4 a.Ez
 bz:Binds K a.Ez ["self","begin","end"] []
 Zq:Fun K "days_in" "Shifted.days_in" Ga a.Eb a.Ed
 Ze:Binds K a.Ed ["self","begin","end"] []
 V9:Fun K "days_lost" "Changed.days_lost" Hf a.Eo a.Ep
 Vz:Binds K a.Ep ["self"] []
 Tw:Fun K "days_gained" "Changed.days_gained" Dl a.Dr a.Dq
 Ta:Binds K a.Dq ["self"] []
 dg:FunD K "__init__" "Changed.__init__" Bm a.G3 a.Co
 cy:Binds K a.Co ["self","rule","left","more","moved"] []
 N3:∃ds,Binds K a.Co ["self","rule","left","more","moved"] ds/\Vals [.non] ds
 Nw:∃ds,Binds K a.Co ["self","rule","left","more","moved"] ds/\Vals [.non,.non] ds
 N9:∃ds,Binds K a.Co ["self","rule","left","more","moved"] ds/\Vals [.non,.non,.non] ds
 B9:Fun K "_law_cell_at" "_law_cell_at" Wk a.L7 a.L8
 Cr:mg "_law_cell_at"=some (.ref a.L7)
 Cq:Binds K a.L8 ["_law_script","_law_k"] []
 Ck:Fun K "_law_next" "_law_next" Yn a.Ud a.Ug
 C3:mg "_law_next"=some (.ref a.Ud)
 C5:Binds K a.Ug ["_law_pick"] []
 oa:Fun K "_law_leap" "_law_leap" m9 a.U1 a.Uz
 Abn:mg "_law_leap"=some (.ref a.U1)
 Aa4:Binds K a.Uz ["_law_year_here"] []
 Ph:Fun K "_law_year" "_law_year" Yt a.Ux a.Uk
 Ut:mg "_law_year"=some (.ref a.Ux)
 U4:Binds K a.Uk ["_law_year_here"] []
 F4:Fun K "_law_near" "_law_near" nu a.Uy a.Uj
 Ht:mg "_law_near"=some (.ref a.Uy)
 Hj:Binds K a.Uj ["_law_pick","_law_base"] []
 h8:Fun K "_law_often" "_law_often" i6 a.Qm a.Qb
 xt:mg "_law_often"=some (.ref a.Qm)
 w8:Binds K a.Qb ["_law_pick"] []
 ao:Fun K "month_days" "month_days" ab a.N4 a.Nq
 t4:mg "month_days"=some (.ref a.N4)
 sj:Binds K a.Nq ["year","month"] []
 Cv:Fun K "month_begin" "month_begin" Qk a.Mi a.Mh
 Di:mg "month_begin"=some (.ref a.Mi)
 De:Binds K a.Mh ["number"] []
 Hg:Fun K "check_day" "check_day" iq a.Qz a.Q9
 J2:mg "check_day"=some (.ref a.Qz)
 Jv:Binds K a.Q9 ["number"] []
 Xv:Fun K "week_of" "week_of" uj a.Xe a.Yb
 gb:mg "week_of"=some (.ref a.Xe)
 ic:Binds K a.Yb ["day"] []
 Zv:Fun K "week_begin" "week_begin" Z7 a.Og a.Ny
 tu:mg "week_begin"=some (.ref a.Og)
 rq:Binds K a.Ny ["number"] []
 gk:Fun K "days_in" "Every.days_in" M4 a.Jc a.Ii
 ip:Binds K a.Ii ["self","begin","end"] []
 cz:Fun K "falls_on" "Every.falls_on" R6 a.G0 a.Gy
 cq:Binds K a.Gy ["self","day"] []
 Vb:Fun K "has_weekday" "Weekly.has_weekday" Lw a.Dt a.Dv
 Lu:Binds K a.Dv ["self","day"] []
 lu:FunD K "next_in" "Days.next_in" B8 a.Kv a.Ko
 Vi:Binds K a.Ko ["self","day","end"] []
 cu:Fun K "falls_on" "Where.falls_on" Ll a.G2 a.Gv
 Rp:Binds K a.Gv ["self","day"] []
 cb:Fun K "days_in" "Either.days_in" R7 a.Ex a.E3
 br:Binds K a.E3 ["self","begin","end"] []
 di:Fun K "__init__" "Shifted.__init__" Rj a.Gw a.Gx
 df:Binds K a.Gx ["self","rule","many"] []
 Xt:Fun K "falls_on" "Shifted.falls_on" Oc a.Dj a.Df
 Xz:Binds K a.Df ["self","day"] []
 Zj:Fun K "days_in" "Changed.days_in" F8 a.D9 a.Dz
 Zn:Binds K a.Dz ["self","begin","end"] []
 U6:Fun K "has_gained" "Changed.has_gained" Gg a.Dw a.Dx
 U7:Binds K a.Dx ["self","day"] []
 Hr:Fun K "_law_length" "_law_length" ak a.Nt a.Nz
 Lf:mg "_law_length"=some (.ref a.Nt)
 Lb:Binds K a.Nz ["_law_year_here","_law_month"] []
 j6:Fun K "_law_first" "_law_first" iw a.Qj a.Qs
 wo:mg "_law_first"=some (.ref a.Qj)
 x5:Binds K a.Qs ["_law_pick","_law_base"] []
 My:Fun K "_law_spots" "_law_spots" Qw a.Qe a.Qu
 Qx:mg "_law_spots"=some (.ref a.Qe)
 Rc:Binds K a.Qu ["_law_pick","_law_base","_law_many"] []
 Mq:Fun K "month_of" "month_of" Zp a.Uh a.Ui
 Pk:mg "month_of"=some (.ref a.Uh)
 Po:Binds K a.Ui ["day"] []
 Jl:Fun K "check_every" "check_every" Xf a.L3 a.Mf
 Lz:mg "check_every"=some (.ref a.L3)
 L5:Binds K a.Mf ["first","every"] []
 Qf:Fun K "day_of_date" "day_of_date" Qa a.Mb a.Ma
 Wz:mg "day_of_date"=some (.ref a.Mb)
 Yd:Binds K a.Ma ["number","date"] []
 aa:Fun K "day_of_nth" "day_of_nth" Tv a.Oa a.Oh
 t7:mg "day_of_nth"=some (.ref a.Oa)
 vo:Binds K a.Oh ["number","which","weekday_of"] []
 kz:FunD K "__init__" "Every.__init__" C0 a.Kl a.Gm
 Vg:Binds K a.Gm ["self","step","first"] []
 Rk:∃ds,Binds K a.Gm ["self","step","first"] ds/\Vals [.int 0] ds
 Wf:Fun K "weeks_over" "Weekly.weeks_over" M6 a.Ek a.Em
 Nh:Binds K a.Em ["self","day"] []
 qi:Fun K "__init__" "Days.__init__" Q6 a.Mc a.Mg
 Qt:Binds K a.Mg ["self","days"] []
 kj:Fun K "falls_on" "Days.falls_on" Sq a.Iz a.Hy
 ib:Binds K a.Hy ["self","day"] []
 kg:FunD K "next_in" "Where.next_in" Bv a.Jg a.Ir
 gp:Binds K a.Ir ["self","day","end"] []
 Xy:Fun K "falls_on" "Changed.falls_on" Of a.Dm a.Dp
 W3:Binds K a.Dp ["self","day"] []
 Hn:Fun K "_law_date" "_law_date" Zk a.Ul a.Uc
 Jw:mg "_law_date"=some (.ref a.Ul)
 J0:Binds K a.Uc ["_law_day_here"] []
 v5:Fun K "_law_day" "_law_day" iy a.Wh a.Xn
 Adt:mg "_law_day"=some (.ref a.Wh)
 Acy:Binds K a.Xn ["_law_year_here","_law_month","_law_date_here"] []
 r9:Fun K "date_of" "date_of" ju a.W0 a.Xl
 Ael:mg "date_of"=some (.ref a.W0)
 Adb:Binds K a.Xl ["day"] []
 bp:FunD K "next_in" "Weekly.next_in" Bn a.G6 a.G4
 cx:Binds K a.G4 ["self","day","end"] []
 g9:FunD K "__init__" "Weekly.__init__" Cd a.Im a.Eg
 gn:Binds K a.Eg ["self","mask","first","every"] []
 Pl:∃ds,Binds K a.Eg ["self","mask","first","every"] ds/\Vals [.int 1] ds
 Pq:∃ds,Binds K a.Eg ["self","mask","first","every"] ds/\Vals [.int 0,.int 1] ds
 Zb:Fun K "falls_on" "Weekly.falls_on" P4 a.Gb a.F9
 Yk:Binds K a.F9 ["self","day"] []
 az:FunD K "__init__" "Monthly.__init__" B0 a.G5 a.Dd
 dq:Binds K a.Dd ["self","date","first","every"] []
 Om:∃ds,Binds K a.Dd ["self","date","first","every"] ds/\Vals [.int 1] ds
 N7:∃ds,Binds K a.Dd ["self","date","first","every"] ds/\Vals [.int 0,.int 1] ds
 bq:Fun K "day_in" "Monthly.day_in" R0 a.Gr a.G8
 Rn:Binds K a.G8 ["self","number"] []
 um:FunD K "__init__" "Nth.__init__" Ei a.Oo a.Hk
 tp:Binds K a.Hk ["self","which","weekday_of","first","every"] []
 Vn:∃ds,Binds K a.Hk ["self","which","weekday_of","first","every"] ds/\Vals [.int 1] ds
 Ve:∃ds,Binds K a.Hk ["self","which","weekday_of","first","every"] ds/\Vals [.int 0,.int 1] ds
 vj:Fun K "day_in" "Nth.day_in" Z9 a.Nm a.N6
 Zy:Binds K a.N6 ["self","number"] []
 i3:Fun K "day_in" "Yearly.day_in" Sv a.Io a.Iv
 Sg:Binds K a.Iv ["self","number"] []
 Vm:Fun K "_law_some_day" "_law_some_day" Ox a.Ki a.Kx
 mf:mg "_law_some_day"=some (.ref a.Ki)
 l9:Binds K a.Kx ["_law_cell"] []
 Zu:Fun K "_law_simple" "_law_simple" N1 a.Np a.N8
 vb:mg "_law_simple"=some (.ref a.Np)
 vk:Binds K a.N8 ["_law_pick","_law_base"] []
 R3:Fun K "_law_months_off" "_law_months_off" Lh a.Gz a.G1
 de:mg "_law_months_off"=some (.ref a.Gz)
 a8:Binds K a.G1 ["_law_day_here","_law_date_here","_law_first_here","_law_often_here"] []
 Yo:FunD K "next_in" "ByMonth.next_in" Bj a.C7 a.F7
 Jz:Binds K a.F7 ["self","day","end"] []
 Yg:Fun K "falls_on" "ByMonth.falls_on" Ik a.Cm a.Fc
 Jb:Binds K a.Fc ["self","day"] []
 gg:FunD K "__init__" "Yearly.__init__" Bx a.Jr a.D8
 jv:Binds K a.D8 ["self","month","date","first","every"] []
 Pr:∃ds,Binds K a.D8 ["self","month","date","first","every"] ds/\Vals [.int 1] ds
 O9:∃ds,Binds K a.D8 ["self","month","date","first","every"] ds/\Vals [.int 0,.int 1] ds
 jb:Fun K "_law_plain" "_law_plain" Wc a.Ra a.Q0
 xu:mg "_law_plain"=some (.ref a.Ra)
 yb:Binds K a.Q0 ["_law_rule_here","_law_day_here","_law_date_here"] []
 Vk:Fun K "_law_by_month" "_law_by_month" Oy a.Kr a.Ku
 mq:mg "_law_by_month"=some (.ref a.Kr)
 l7:Binds K a.Ku ["_law_tree_here","_law_short"] []
 nj:Fun K "_law_rule" "_law_rule" Hm a.Pb a.U0
 Aac:mg "_law_rule"=some (.ref a.Pb)
 Aas:Binds K a.U0 ["_law_tree_here","_law_short"] []
 lr:Fun K "days_in" "Rule.days_in" O6 a.Bt a.Kn
 Ds:Binds K a.Kn ["self","begin","end"] []
 Jp:FunD K "days_of" "days_of" Iw a.Xw a.P6
 La:mg "days_of"=some (.ref a.Xw)
 Tx:Binds K a.P6 ["rule","begin","end"] []
 il:∃ds,Binds K a.P6 ["rule","begin","end"] ds/\Vals [.int 146097] ds
 Qy:∃ds,Binds K a.P6 ["rule","begin","end"] ds/\Vals [.int 0,.int 146097] ds
 Mr:Fun K "_law_same" "_law_same" U2 a.Kd a.Jx
 Pm:mg "_law_same"=some (.ref a.Kd)
 P0:Binds K a.Jx ["_law_found","_law_due_here"] []
 Um:Fun K "_law_tree" "_law_tree" Y4 a.Kc a.J4
 Y9:mg "_law_tree"=some (.ref a.Kc)
 Zr:Binds K a.J4 ["_law_pick","_law_base","_law_deep"] []
 Fx:Fun K "_law_falls" "_law_falls" Q2 a.Hb a.Hh
 Ha:mg "_law_falls"=some (.ref a.Hb)
 Hd:Binds K a.Hh ["_law_rule_here","_law_day_here","_law_date_here"] []
 Uo:FunD K "count_of" "count_of" F3 a.Uq a.Mo
 Zg:mg "count_of"=some (.ref a.Uq)
 Aan:Binds K a.Mo ["rule","begin","end"] []
 ae:∃ds,Binds K a.Mo ["rule","begin","end"] ds/\Vals [.int 146097] ds
 Zx:∃ds,Binds K a.Mo ["rule","begin","end"] ds/\Vals [.int 0,.int 146097] ds
 X4:FunD K "nth_of" "nth_of" Mn a.d8 a.Uw
 d5:mg "nth_of"=some (.ref a.d8)
 Afk:Binds K a.Uw ["rule","many","begin","end"] []
 nq:∃ds,Binds K a.Uw ["rule","many","begin","end"] ds/\Vals [.int 146097] ds
 Uv:∃ds,Binds K a.Uw ["rule","many","begin","end"] ds/\Vals [.int 0,.int 146097] ds
 uh:Fun K "_law_due" "_law_due" Xs a.Wt a.Ye
 Aef:mg "_law_due"=some (.ref a.Wt)
 Ae5:Binds K a.Ye ["_law_rule_here","_law_begin","_law_end"] []
 Nf:Fun K "_law_part_good" "_law_part_good" Ja a.Ji a.Jn
 Tr:mg "_law_part_good"=some (.ref a.Ji)
 So:Binds K a.Jn ["_law_made_here","_law_due_here","_law_begin","_law_end","_law_cell"] []
 Ee:Fun K "_law_made" "_law_made" Yz a.Kb a.Ke
 E8:mg "_law_made"=some (.ref a.Kb)
 E7:Binds K a.Ke ["_law_tree_here","_law_short"] []
 Vr:Fun K "_law_left_out" "_law_left_out" K0 a.Kt a.K1
 my:mg "_law_left_out"=some (.ref a.Kt)
 ml:Binds K a.K1 ["_law_cell"] []
 An3:Fun K "law" "law" Aat a.Abe a.yd
 Anr:mg "law"=some (.ref a.Abe)
 Aqa:Binds K a.yd ["_law_script"] []
 Nj:∃t,mg "DAYS"=some (.int 146097 t)
 Ld:mg "DAYS_AHEAD"=some (.ref a.Fo)
 vx:∀H:Hp,SqT K H a.Fo [.int 0,.int 31,.int 59,.int 90,.int 120,.int 151,.int 181,.int 212,.int 243,.int 273,.int 304,.int 334]
 Ff:∃t,mg "FIRST_WEEKDAY"=some (.int 5 t)
 Ci:∃t,mg "FIRST_WIDTH_listing"=some (.int 64 t)
 Ej:∃t,mg "FIRST_YEAR"=some (.int 2000 t)
 Mz:∃t,mg "LONG_YEAR"=some (.int 2000 t)
 X9:∃t,mg "MONTHS"=some (.int 4800 t)
 Fp:mg "MONTH_LENGTHS"=some (.ref a.C8)
 Tc:∀H:Hp,SqT K H a.C8 [.int 31,.int 28,.int 31,.int 30,.int 31,.int 30,.int 31,.int 31,.int 30,.int 31,.int 30,.int 31]
 Lg:∃t,mg "MOST_EVERY"=some (.int 1000 t)
 J7:∃t,mg "MOST_MANY"=some (.int 1000 t)
 J9:Aj9 K a.Bb "__init__" a.Eu
 Akl:mg "Both"=some (.ref a.Fd)
 Ti:Cls K a.Fd
 fh:Mk K a.Fd a.Mj
 Yr:NoAttr K a.Fd "one"
 Sx:NoAttr K a.Fd "other"
 g8:Meth K a.Fd "days_in" a.Gk
 a9:Meth K a.Fd "falls_on" a.Fl
 Anx:mg "But"=some (.ref a.L6)
 au:Cls K a.L6
 uo:Mk K a.L6 a.N2
 fm:NoAttr K a.L6 "one"
 V7:NoAttr K a.L6 "other"
 l8:Meth K a.L6 "days_in" a.Hx
 jq:Meth K a.L6 "falls_on" a.Gp
 jg:mg "ByMonth"=some (.ref a.Bb)
 Aj1:Cls K a.Bb
 U3:Mk K a.Bb a.Eu
 Abr:NoAttr K a.Bb "origin"
 Abt:NoAttr K a.Bb "stride"
 Aeq:NoAttr K a.Bb "first"
 Xr:mg "Changed"=some (.ref a.Am)
 Ar:Cls K a.Am
 Hu:Mk K a.Am a.G3
 Kh:NoAttr K a.Am "rule"
 Gh:NoAttr K a.Am "left"
 Kw:NoAttr K a.Am "more"
 Fh:NoAttr K a.Am "moved"
 Cn:NoAttr K a.Am "gained"
 O0:NoAttr K a.Am "lost"
 Sb:Meth K a.Am "days_gained" a.Dr
 W9:Meth K a.Am "days_in" a.D9
 U5:Meth K a.Am "days_lost" a.Eo
 V4:Meth K a.Am "falls_on" a.Dm
 Ts:Meth K a.Am "has_gained" a.Dw
 Aeo:mg "Days"=some (.ref a.Fe)
 Qc:Cls K a.Fe
 Vv:Mk K a.Fe a.Mc
 Mx:NoAttr K a.Fe "days"
 ir:Meth K a.Fe "days_in" a.Bt
 c8:Meth K a.Fe "falls_on" a.Iz
 Tb:Meth K a.Fe "next_in" a.Kv
 Af0:mg "Either"=some (.ref a.Bq)
 K7:Cls K a.Bq
 Tf:Mk K a.Bq a.Jq
 T3:NoAttr K a.Bq "one"
 O7:NoAttr K a.Bq "other"
 Zd:Meth K a.Bq "days_in" a.Ex
 W6:Meth K a.Bq "falls_on" a.Ef
 x4:mg "Every"=some (.ref a.Cg)
 F1:Cls K a.Cg
 Q1:Mk K a.Cg a.Kl
 Oi:NoAttr K a.Cg "step"
 Ib:NoAttr K a.Cg "first"
 ay:Meth K a.Cg "days_in" a.Jc
 Yy:Meth K a.Cg "falls_on" a.G0
 Rx:Meth K a.Cg "next_in" a.Jf
 jf:mg "Monthly"=some (.ref a.Ax)
 C6:Cls K a.Ax
 Jy:Mk K a.Ax a.G5
 Vl:NoAttr K a.Ax "date"
 jn:NoAttr K a.Ax "every"
 Lk:NoAttr K a.Ax "origin"
 Ln:NoAttr K a.Ax "stride"
 Ng:NoAttr K a.Ax "first"
 Px:Meth K a.Ax "day_in" a.Gr
 Wv:Meth K a.Ax "days_in" a.Bt
 Vx:Meth K a.Ax "falls_on" a.Cm
 Wl:Meth K a.Ax "next_in" a.C7
 Ah5:mg "Nth"=some (.ref a.Fb)
 M1:Cls K a.Fb
 jt:Mk K a.Fb a.Oo
 fq:NoAttr K a.Fb "which"
 Rv:NoAttr K a.Fb "weekday_of"
 wa:NoAttr K a.Fb "every"
 To:NoAttr K a.Fb "origin"
 Tq:NoAttr K a.Fb "stride"
 Vy:NoAttr K a.Fb "first"
 Wu:Meth K a.Fb "day_in" a.Nm
 k7:Meth K a.Fb "days_in" a.Bt
 fu:Meth K a.Fb "falls_on" a.Cm
 me:Meth K a.Fb "next_in" a.C7
 Ala:mg "Rule"=some (.ref a.Gd)
 xg:Cls K a.Gd
 Ai2:MkN K a.Gd
 gx:Meth K a.Gd "days_in" a.Bt
 c7:Meth K a.Gd "falls_on" a.Jm
 jy:Meth K a.Gd "next_in" a.Kp
 Ad6:mg "Shifted"=some (.ref a.Bh)
 E6:Cls K a.Bh
 Pu:Mk K a.Bh a.Gw
 Oq:NoAttr K a.Bh "rule"
 Gi:NoAttr K a.Bh "many"
 Wm:Meth K a.Bh "days_in" a.Eb
 Wb:Meth K a.Bh "falls_on" a.Dj
 o7:mg "Weekly"=some (.ref a.A3)
 Cp:Cls K a.A3
 Mt:Mk K a.A3 a.Im
 Wj:NoAttr K a.A3 "mask"
 Ks:NoAttr K a.A3 "first"
 Ou:NoAttr K a.A3 "every"
 Y8:Meth K a.A3 "days_in" a.Bt
 Xu:Meth K a.A3 "falls_on" a.Gb
 K8:Meth K a.A3 "has_weekday" a.Dt
 Zl:Meth K a.A3 "next_in" a.G6
 Ly:Meth K a.A3 "weeks_over" a.Ek
 Ajf:mg "Where"=some (.ref a.B4)
 Uu:Cls K a.B4
 X8:Mk K a.B4 a.Kq
 Z4:NoAttr K a.B4 "test"
 bg:Meth K a.B4 "days_in" a.Bt
 P8:Meth K a.B4 "falls_on" a.G2
 bh:Meth K a.B4 "next_in" a.Jg
 Af3:mg "Within"=some (.ref a.Bk)
 Fj:Cls K a.Bk
 Sj:Mk K a.Bk a.Hz
 Qo:NoAttr K a.Bk "rule"
 O5:NoAttr K a.Bk "begin"
 Tt:NoAttr K a.Bk "end"
 Yi:Meth K a.Bk "days_in" a.E4
 W4:Meth K a.Bk "falls_on" a.D4
 rh:mg "Yearly"=some (.ref a.A0)
 Dn:Cls K a.A0
 Na:Mk K a.A0 a.Jr
 lh:NoAttr K a.A0 "month"
 Yf:NoAttr K a.A0 "date"
 ku:NoAttr K a.A0 "every"
 M9:NoAttr K a.A0 "origin"
 Nc:NoAttr K a.A0 "stride"
 Ov:NoAttr K a.A0 "first"
 Ro:Meth K a.A0 "day_in" a.Io
 Y5:Meth K a.A0 "days_in" a.Bt
 W7:Meth K a.A0 "falls_on" a.Cm
 Yp:Meth K a.A0 "next_in" a.C7
 Aa3:mg "abs"=none
 Z5:mg "bool"=none
 qe:mg "int"=none
 Bp:mg "isinstance"=none
 P7:mg "len"=none
 Tp:mg "list"=none
 V2:mg "max"=none
 Se:mg "min"=none
 Iu:mg "range"=none
 xo:mg "set"=none
 Rf:mg "sorted"=none
 Abi:mg "str"=none
 Ab3:mg "sum"=none
 Es:mg "tuple"=none
 Ac7:mg "zip"=none
 xn:Zo K a.Pb=some a.J5
structure Wg (K:W.Frag)(mg:Str->Option Value)(base:Heap)(a:Adr):Prop extends Txt K mg a where
 Abk:MkL mg base a.J5 a.A8
abbrev B1:Expr:=Ang (Amr (Ao8 (Ald (Ao8 (Ay Hm) 3)) 0)) 0
abbrev Ur:Str:=("_law_rule"++".<locals>.")++"<lambda>"
def vn:qt "_law_day_here" ["_law_tree_here"] (ek B1):=⟨rfl,rfl,rfl,dkk,dkk,dkk,dkk,dkk⟩
def rm:∀(u:Value)(cl:List (Str×Addr))(pm cd ctv:Value),bindArgs (W.kla_fn "<lambda>" Ur (xk B1) (yh B1) (ek B1) cl pm cd ctv) ⟨[u],[]⟩=pure [(("_law_day_here":Str),u)]:=λ_ _ _ _ _=>rfl
def n6:Sp:=λvs H Q _=>∃y:Int,vs=[.int y]/\Q (.bl (DM.leap y)) H
def qq:Sp:=λvs H Q _=>∃y m:Int,vs=[.int y,.int m]/\1<=m/\m<=12/\Q (.int (DM.len y m)) H
def Xx:Sp:=λvs H Q _=>∃y:Int,vs=[.int y]/\Q (.int (DM.year y)) H
def m6:Sp:=λvs H Q _=>∃n:Int,vs=[.int n]/\Q (.int (DM.mb n)) H
def x8:Sp:=λvs H Q _=>∃d:Int,vs=[.int d]/\Q (.int (DM.mo d)) H
def Aa1:Sp:=λvs H Q _=>∃d:Int,vs=[.int d]/\Q (.int ((d+5)%7)) H
def lj (K:W.Frag):Sp:=λvs H Q _=>∃(p:Addr)(ns:List Int)(k:Int),vs=[.ref p,.int k]/\SqL K H p (ns.map V.int)/\0<=k/\∀v:Int,Q (.int v) H
def w6:Sp:=λvs H Q _=>∃p:Int,vs=[.int p]/\∀n:Int,0<=n->Q (.int n) H
def oz:Sp:=λvs H Q _=>∃y m:Int,vs=[.int y,.int m]/\∀H',Same H H'->Q (.int (DM.len y m)) H'
def xm:Sp:=λvs H Q _=>∃d:Int,vs=[.int d]/\0<=d/\d<146097/\∀p H',Same H H'->H p=none->H' p=some (.tup [.int (2000+DM.mo d/12),.int (DM.mo d%12+1),.int (d-DM.mb (DM.mo d)+1)])->Q (.ref p) H'
def Aa5:Sp:=λvs H Q _=>∃y m d:Int,vs=[.int y,.int m,.int d]/\1<=m/\m<=12/\∀H',Same H H'->Q (.int (DM.mb (12*(y-2000)+(m-1))+d-1)) H'
def kh:Sp:=λvs H Q _=>∃c:Int,vs=[.int c]/\∀(d:Int)H',0<=d->d<146097->Same H H'->Q (.int d) H'
def Ak0 (h1:1<=m)(h2:m<=12)(h:¬(m=2/\DM.leap y=true)):atI [V.int 31,.int 28,.int 31,.int 30,.int 31,.int 30,.int 31,.int 31,.int 30,.int 31,.int 30,.int 31] (m-1)=some (.int (DM.len y m)):=by
 have hm:m=1∨m=2∨m=3∨m=4∨m=5∨m=6∨m=7∨m=8∨m=9∨m=10∨m=11∨m=12:=by lia
 rcases hm with e|e|e|e|e|e|e|e|e|e|e|e<;>subst e
 case inr.inl=>
  have e:DM.leap y=false:=by simpa using h
  simp only[DM.len,e]
  rfl
 all_goals rfl
def Aof (n:Int):atI [V.int 0,.int 31,.int 59,.int 90,.int 120,.int 151,.int 181,.int 212,.int 243,.int 273,.int 304,.int 334] (n%12+1-1)=some (.int (DM.ahead (n%12+1))):=by
 have hr:n%12=0∨n%12=1∨n%12=2∨n%12=3∨n%12=4∨n%12=5∨n%12=6∨n%12=7∨n%12=8∨n%12=9∨n%12=10∨n%12=11:=by lia
 rcases hr with e|e|e|e|e|e|e|e|e|e|e|e<;>rw[e]<;>rfl
theorem ny (y:Int):∀n:Nat,((List.range n).map λ(i:Nat)=>DM.len y (1+(i:Int))).sum=DM.sums y n
 | 0=>rfl
 |
  n+1=>by
  rw[List.range_succ,Ati,List.sum_append,ny y n]
  rw[DM.Adj]
  simp[Int.add_comm]
def Aif:∀t∈([0,146096,59,60,365,366,36584,36583,73108,146037,146036,1460]:List Int),0<=t/\t<146097:=by decide
def Sf:decide (V.int i=V.int j)=decide (i=j):=Asi.mpr (by rw[V.int.injEq])
def Wr {ts:List Int}{i:Int}(lo hi:Int)(h0:0<=i)(h1:i<ts.length)(hb:∀t∈ts,lo<=t/\t<=hi):∃t,lo<=t/\t<=hi/\atI (ts.map V.int) i=some (.int t):=by
 obtain⟨t,ht,e⟩:=eo (ts:=ts) h0 h1
 exact⟨t,(hb t ht).1,(hb t ht).2,e⟩
def mi (K:W.Frag):Sp:=λvs H Q _=>∃(p:Addr)(ns:List Int)(x:Int),vs=[.ref p,.int x]/\SqT K H p (ns.map V.int)/\DC.Abs ns/\ns.length<=1000/\Q (.int (DC.below ns x:Nat)) H
def half {lo hi:Nat}:((lo:Int)+(hi:Int))/2=(((lo+hi)/2:Nat):Int):=by lia
def Ae1 {ns:List Int}{i:Nat}{a:Int}(h:ns[i]?=some a):(ns.map V.int)[i]?=some (.int a):=by rw[Are,h];rfl
def Ab2 {ns:List Int}{i:Nat}(h:i<ns.length):∃a,ns[i]?=some a:=⟨ns[i],by simp[h]⟩
def Ait {a b:Str}{v:V}{r:List (Str×V)}(h:(a==b)=false):List.lookup a ((b,v)::r)=List.lookup a r:=by
 show(match a==b with|true=>some v|false=>List.lookup a r)=_
 rw[h]
open DF (Rl fl Cb K5 isD byM Ok Fi)
def oV:Option Int->V
 | some d=>.int d
 | none=>.non
structure RAd where
 r:Addr
 e:Addr
 k:Addr
 m:Addr
 n:Addr
 y:Addr
 d:Addr
 w:Addr
def TreeAt (H:Hp)(t:Addr):Rl->Prop
 | .nv=>H t=some (.tup [.str "never"])
 | .ev st fi=>H t=some (.tup [.str "every",.int st,.int fi])
 | .wk mk fi e=>H t=some (.tup [.str "weekly",.int mk,.int fi,.int e])
 | .mo dt fi e=>H t=some (.tup [.str "monthly",.int dt,.int fi,.int e])
 | .nt w wd fi e=>H t=some (.tup [.str "nth",.int w,.int wd,.int fi,.int e])
 | .yr mn dt fi e=>H t=some (.tup [.str "yearly",.int mn,.int dt,.int fi,.int e])
 | .dy ds=>∃u,H t=some (.tup [.str "days",.ref u])/\H u=some (.tup (ds.map V.int))
 | .wh m r=>H t=some (.tup [.str "where",.int m,.int r])
theorem TreeAt.up (h:TreeAt H t r)(s:Same H H'):TreeAt H' t r:=by
 cases r with
 | dy ds=>obtain⟨u,e1,e2⟩:=h;exact⟨u,s _ _ e1,s _ _ e2⟩
 | _=>exact s _ _ h
abbrev Aqh (H:Hp)(f t:Addr):Prop:=∃cl cd,LamIs H f (xk B1) (yh B1) (ek B1) Ur ["_law_tree_here"] [.ref t] cl cd
abbrev Aj2 (H:Hp)(pt:Addr):Prop:=LTab H pt (Aht B1) Ur
def RuleAt (A:RAd)(H:Hp)(x:Addr):Rl->Prop
 | .nv=>∃dx,H x=some (.ins A.r dx [])
 | .ev st fi=>∃dx,H x=some (.ins A.e dx [("step",.int st),("first",.int fi)])
 | .wk mk fi e=>∃dx,H x=some (.ins A.k dx [("mask",.int mk),("first",.int fi),("every",.int e)])
 | .mo dt fi e=>∃dx,H x=some (.ins A.m dx [("origin",.int (DM.mo fi)),("stride",.int e),("first",.int fi),("date",.int dt),("every",.int e)])
 | .nt w wd fi e=>∃dx,H x=some (.ins A.n dx [("origin",.int (DM.mo fi)),("stride",.int e),("first",.int fi),("which",.int w),("weekday_of",.int wd),("every",.int e)])
 | .yr mn dt fi e=>∃dx,H x=some (.ins A.y dx [("origin",.int (DM.mo fi/12*12+mn-1)),("stride",.int (e*12)),("first",.int fi),("month",.int mn),("date",.int dt),("every",.int e)])
 | .dy ds=>∃dx d ms,H x=some (.ins A.d dx [("days",.ref d)])/\H d=some (.tup (ms.map V.int))/\DC.Abs ms/\ms.length<=1000/\∀k,k∈ms↔k∈ds
 | .wh m r=>∃dx f t,H x=some (.ins A.w dx [("test",.ref f)])/\Aqh H f t/\H t=some (.tup [.str "where",.int m,.int r])
theorem RuleAt.up (h:RuleAt A H x r)(s:Same H H'):RuleAt A H' x r:=by
 cases r with
 | dy ds=>obtain⟨dx,d,ms,e,f,g⟩:=h;exact⟨dx,d,ms,s _ _ e,s _ _ f,g⟩
 | wh m r=>obtain⟨dx,f,t,e,⟨cl,cd,L⟩,g⟩:=h;exact⟨dx,f,t,s _ _ e,⟨cl,cd,L.same s⟩,s _ _ g⟩
 | _=>obtain⟨dx,e⟩:=h;exact⟨dx,s _ _ e⟩
abbrev ad (a:Adr):RAd:=⟨a.Gd,a.Cg,a.A3,a.Ax,a.Fb,a.A0,a.Fe,a.B4⟩
def Ae6:Sp:=λvs H Q _=>∃d:Int,vs=[.int d]/\Q (.bl (isD d)) H
def Aag:Sp:=λvs H Q _=>∃d:Int,vs=[.int d]/\0<=d/\d<146097/\∀p H',Same H H'->H p=none->H' p=some (.tup [.int (2000+DM.mo d/12),.int (DM.mo d%12+1),.int (d-DM.mb (DM.mo d)+1)])->Q (.ref p) H'
def j4:Sp:=λvs H Q _=>∃n l m:Int,vs=[.int n,.int l,.int m]/\l<=n/\n<=m/\Q .non H
def sd:Sp:=λvs H Q _=>∃n:Int,vs=[.int n]/\0<=n/\n<146097/\Q .non H
def m8:Sp:=λvs H Q _=>∃f e:Int,vs=[.int f,.int e]/\Fi f e/\Q .non H
def Abg:Sp:=λvs H Q _=>∃d:Int,vs=[.int d]/\Q (.int ((d+5)/7)) H
def k6:Sp:=λvs H Q _=>∃n dt:Int,vs=[.int n,.int dt]/\Q (oV (Cb n dt)) H
def pz:Sp:=λvs H Q _=>∃n w wd:Int,vs=[.int n,.int w,.int wd]/\Q (oV (K5 n w wd)) H
def Fon (A:RAd)(r:Rl->Prop):Sp:=λvs H Q _=>∃(x:Addr)(d:Int)(r0:Rl),vs=[.ref x,.int d]/\r r0/\RuleAt A H x r0/\Ok r0/\Q (.bl (fl r0 d)) H
def dk:Sp:=λvs H Q _=>∃(x:Addr)(d:Int),vs=[.ref x,.int d]/\Q (.bl false) H
def Yw (A:RAd):Sp:=λvs H Q _=>∃(x:Addr)(d st fi:Int),vs=[.ref x,.int d]/\RuleAt A H x (.ev st fi)/\Ok (.ev st fi)/\Q (.bl (fl (.ev st fi) d)) H
def Fg (A:RAd):Sp:=λvs H Q _=>∃(x:Addr)(d mk fi e:Int),vs=[.ref x,.int d]/\RuleAt A H x (.wk mk fi e)/\Q (.bl (decide (mk/2 ^ ((d+5)%7).toNat%2=1))) H
def Gf (A:RAd):Sp:=λvs H Q _=>∃(x:Addr)(d mk fi e:Int),vs=[.ref x,.int d]/\RuleAt A H x (.wk mk fi e)/\1<=e/\Q (.int (((d+5)/7-(fi+5)/7)%e)) H
def W2 (A:RAd):Sp:=λvs H Q _=>∃(x:Addr)(d mk fi e:Int),vs=[.ref x,.int d]/\RuleAt A H x (.wk mk fi e)/\Ok (.wk mk fi e)/\Q (.bl (fl (.wk mk fi e) d)) H
def isM:Rl->Prop
 | .mo _ _ _=>True
 | .nt _ _ _ _=>True
 | .yr _ _ _ _=>True
 | _=>False
def Vs (A:RAd):Sp:=Fon A isM
def J3 (A:RAd):Sp:=λvs H Q _=>∃(x:Addr)(n dt fi e:Int),vs=[.ref x,.int n]/\RuleAt A H x (.mo dt fi e)/\Q (oV (Cb n dt)) H
def Ql (A:RAd):Sp:=λvs H Q _=>∃(x:Addr)(n w wd fi e:Int),vs=[.ref x,.int n]/\RuleAt A H x (.nt w wd fi e)/\Q (oV (K5 n w wd)) H
def Lr (A:RAd):Sp:=λvs H Q _=>∃(x:Addr)(n mn dt fi e:Int),vs=[.ref x,.int n]/\RuleAt A H x (.yr mn dt fi e)/\Q (oV (Cb n dt)) H
def ck (A:RAd):Sp:=λvs H Q _=>∃(x:Addr)(d:Int)(ds:List Int),vs=[.ref x,.int d]/\RuleAt A H x (.dy ds)/\Q (.bl (fl (.dy ds) d)) H
def T2 (A:RAd):Sp:=λvs H Q _=>∃(x:Addr)(b e:Int)(ds:List Int),vs=[.ref x,.int b,.int e]/\RuleAt A H x (.dy ds)/\(∀d,b<=d->d<e->d∈ds->(∀k,b<=k->k<d->k∉ds)->Q (.int d) H)/\((∀k,b<=k->k<e->k∉ds)->Q .non H)
def Pn (A:RAd):Sp:=λvs H Q _=>∃(x:Addr)(d m r:Int),vs=[.ref x,.int d]/\RuleAt A H x (.wh m r)/\1<=m/\ -(2 ^ 63)<d/\d<2 ^ 63/\Q (.bl (fl (.wh m r) d)) H
def jx (K:W.Frag):Sp:=λvs H Q _=>∃(x c dx:Addr)(o s f:Int),vs=[.ref x,.int o,.int s,.int f]/\(Cls K c/\NoAttr K c "origin"/\NoAttr K c "stride"/\NoAttr K c "first")/\H x=some (.ins c dx [])/\∀H',F5 x H H'->H' x=some (.ins c dx [("origin",.int o),("stride",.int s),("first",.int f)])->Q .non H'
def ri (A:RAd):Sp:=λvs H Q _=>∃(x dx:Addr)(st fi:Int),vs=[.ref x,.int st,.int fi]/\H x=some (.ins A.e dx [])/\Ok (.ev st fi)/\∀H',F5 x H H'->RuleAt A H' x (.ev st fi)->Q .non H'
def m7 (A:RAd):Sp:=λvs H Q _=>∃(x dx:Addr)(mk fi e:Int),vs=[.ref x,.int mk,.int fi,.int e]/\H x=some (.ins A.k dx [])/\Ok (.wk mk fi e)/\∀H',F5 x H H'->RuleAt A H' x (.wk mk fi e)->Q .non H'
def jj (A:RAd):Sp:=λvs H Q _=>∃(x dx:Addr)(dt fi e:Int),vs=[.ref x,.int dt,.int fi,.int e]/\H x=some (.ins A.m dx [])/\Ok (.mo dt fi e)/\∀H',F5 x H H'->RuleAt A H' x (.mo dt fi e)->Q .non H'
def ye (A:RAd):Sp:=λvs H Q _=>∃(x dx:Addr)(w wd fi e:Int),vs=[.ref x,.int w,.int wd,.int fi,.int e]/\H x=some (.ins A.n dx [])/\Ok (.nt w wd fi e)/\∀H',F5 x H H'->RuleAt A H' x (.nt w wd fi e)->Q .non H'
def kr (A:RAd):Sp:=λvs H Q _=>∃(x dx:Addr)(mn dt fi e:Int),vs=[.ref x,.int mn,.int dt,.int fi,.int e]/\H x=some (.ins A.y dx [])/\Ok (.yr mn dt fi e)/\∀H',F5 x H H'->RuleAt A H' x (.yr mn dt fi e)->Q .non H'
def ro (A:RAd):Sp:=λvs H Q _=>∃(x dx p:Addr)(ds:List Int),vs=[.ref x,.ref p]/\H x=some (.ins A.d dx [])/\H p=some (.tup (ds.map V.int))/\Ok (.dy ds)/\∀H',F5 x H H'->RuleAt A H' x (.dy ds)->Q .non H'
def X7 (C:Addr):Sp:=λvs H Q _=>∃(x dx f:Addr),vs=[.ref x,.ref f]/\H x=some (.ins C dx [])/\∀H',F5 x H H'->H' x=some (.ins C dx [("test",.ref f)])->Q .non H'
def Ag6 (h1: -b<=i)(h2:i<=b)(h3:i≠0):1<=(if i<0 then-i else i)/\(if i<0 then-i else i)<=b:=by split<;>lia
theorem jo:∀{ms ds:List Int},ms.Nodup->(∀k∈ms,k∈ds)->ms.length<=ds.length
 | [],_,_,_=>Ar3 _
 |
  x::ms,ds,h,hs=>by
  obtain⟨h1,h2⟩:=Au5.mp h
  have hx:=hs x (Arn ..)
  have ih:=jo (ds:=ds.erase x) h2 λk hk=>(List.mem_erase_of_ne (λe=>h1 (by rw[←e];exact hk))).mpr (hs k (Ard _ hk))
  rw[List.length_erase_of_mem hx] at ih
  have:0<ds.length:=List.length_pos_of_mem hx
  show ms.length+1<=ds.length
  lia
def wy (o:Option Int)(d:Int):Ak7 (oV o) (.int d)=true:=by cases o<;>rfl
theorem Ai0 (o:Option Int)(d:Int):decide (oV o=V.int d)=decide (o=some d):=by
 cases o with
 | none=>rfl
 | some z=>exact Asi.mpr (by show V.int z=V.int d↔_;rw[V.int.injEq,Awg])
def xv:Sp:=λvs H Q _=>∃p b:Int,vs=[.int p,.int b]/\∀v:Int,0<=v->v<146097->Q (.int v) H
def rn:Sp:=λvs H Q _=>∃p b:Int,vs=[.int p,.int b]/\∀(v:Int)H',0<=v->v<146097->Same H H'->Q (.int v) H'
def ud:Sp:=λvs H Q _=>∃p:Int,vs=[.int p]/\∀(v:Int)H',1<=v->v<=1000->Same H H'->Q (.int v) H'
def ph:Sp:=λvs H Q _=>∃p b:Int,vs=[.int p,.int b]/\∀(t:Addr)(r:Rl)H',Same H H'->TreeAt H' t r->Ok r->Q (.ref t) H'
abbrev Ajy (d:Int):HO:=.tup [.int (2000+DM.mo d/12),.int (DM.mo d%12+1),.int (d-DM.mb (DM.mo d)+1)]
def Za:Sp:=λvs H Q _=>∃(d:Int)(p:Addr)(fi e:Int),vs=[.int d,.ref p,.int fi,.int e]/\H p=some (Ajy d)/\0<=fi/\fi<146097/\1<=e/\∀H',Same H H'->Q (.int ((DM.mo d-DM.mo fi)%e)) H'
def sf:Sp:=λvs H Q _=>∃(t p:Addr)(d:Int)(r:Rl),vs=[.ref t,.int d,.ref p]/\TreeAt H t r/\Ok r/\0<=d/\d<146097/\H p=some (Ajy d)/\∀H',Same H H'->Q (.bl (fl r d)) H'
def Aez {ts:List Int}{i:Int}(P:Int->Prop)(h0:0<=i)(h1:i<ts.length)(hb:∀t∈ts,P t):∃t,P t/\atI (ts.map V.int) i=some (.int t):=by
 obtain⟨t,ht,e⟩:=eo (ts:=ts) h0 h1
 exact⟨t,hb t ht,e⟩
def Alb:∀t∈([1,2,5, -1, -5,3, -2,4, -3, -4]:List Int), -5<=t/\t<=5/\t≠0:=by decide
def Aoq (d:Int):atI [V.int 1,.int 2,.int 4,.int 8,.int 16,.int 32,.int 64] ((d+5)%7)=some (.int (2 ^ ((d+5)%7).toNat)):=by
 have h0:0<=(d+5)%7:=Arp _ dkd
 have h1:(d+5)%7<7:=Aro _ dkd
 have e:=DF.Ahv ⟨((d+5)%7).toNat,dkl⟩
 have:atI (([1,2,4,8,16,32,64]:List Int).map V.int) (((d+5)%7).toNat:Int)=some (.int (2 ^ ((d+5)%7).toNat)):=Ow (by rw[Are,e];rfl)
 rw[Int.toNat_of_nonneg h0] at this
 exact this
def Alu (d:Int):0<(2:Int) ^ ((d+5)%7).toNat/\(2:Int) ^ ((d+5)%7).toNat<1073741824:=by
 have h1:(d+5)%7<7:=Aro _ dkd
 have:∀k:Fin 7,0<(2:Int) ^ k.val/\(2:Int) ^ k.val<1073741824:=by decide
 exact this ⟨((d+5)%7).toNat,dkl⟩
def Als:atI [u,v] (if c=true then 1 else 0)=some (if c=true then v else u):=by cases c<;>rfl
theorem V0 {P:Int->Prop}:∀{ys:List V},(∀v∈ys,∃d:Int,v=.int d/\P d)->∃ds:List Int,ys=ds.map V.int/\∀d∈ds,P d
 | [],_=>⟨[],rfl,λ_ h=>nomatch h⟩
 |
  y::ys,h=>by
  obtain⟨d,rfl,hd⟩:=h y (Arn ..)
  obtain⟨ds,rfl,hds⟩:=V0 λv hv=>h v (Ard _ hv)
  exact⟨d::ds,rfl,λz hz=>by
   rcases Ara.mp hz with rfl|hz
   · exact hd
   · exact hds z hz⟩
def Hv (nx:H1 x=none)(ndx:H1 dx=none)(S:Same H H1)(sx:F5 x (upd (upd H1 dx (.own x)) x (.ins C dx [])) H3):Same H H3:=λq u eq=>by
 have e1:=S _ _ eq
 exact sx _ _ (Ap e1 nx) (by rw[An (Ap e1 nx),An (Ap e1 ndx)];exact e1)
def j7 (A:RAd):Sp:=λvs H Q _=>∃(t:Addr)(b:Bool)(r:Rl),vs=[.ref t,.bl b]/\TreeAt H t r/\Ok r/\isM r/\∀x H',Same H H'->RuleAt A H' x r->Q (.ref x) H'
def xq (A:RAd)(pt:Addr):Sp:=λvs H Q _=>∃(t:Addr)(b:Bool)(r:Rl),vs=[.ref t,.bl b]/\TreeAt H t r/\Ok r/\Aj2 H pt/\∀x H',F5 pt H H'->Aj2 H' pt->RuleAt A H' x r->Q (.ref x) H'
def Aqo (a b c d:V):Aba [a,b,c,d] (some (-2)) none=[c,d]:=rfl
def Apf (a b c d e:V):Aba [a,b,c,d,e] (some (-2)) none=[d,e]:=rfl
def NX (r:Rl)(b e:Int)(Q:VK)(H:Hp):Prop:=(∀d,b<=d->d<e->fl r d=true->DN.No r b d->Q (.int d) H)/\(DN.No r b e->Q .non H)
def ki:Sp:=λvs H Q _=>∃(x:Addr)(b e:Int),vs=[.ref x,.int b,.int e]/\Q .non H
def Wi (b e:Int):Prop:= -(2 ^ 60)<b/\b<2 ^ 60/\ -(2 ^ 60)<e/\e<2 ^ 60
def Ru (A:RAd):Sp:=λvs H Q _=>∃(x:Addr)(b e st fi:Int),vs=[.ref x,.int b,.int e]/\RuleAt A H x (.ev st fi)/\Ok (.ev st fi)/\NX (.ev st fi) b e Q H
def Ym (A:RAd):Sp:=λvs H Q _=>∃(x:Addr)(b e mk fi ev:Int),vs=[.ref x,.int b,.int e]/\RuleAt A H x (.wk mk fi ev)/\Ok (.wk mk fi ev)/\NX (.wk mk fi ev) b e Q H
def Xk (A:RAd):Sp:=λvs H Q _=>∃(x:Addr)(b e:Int)(r:Rl),vs=[.ref x,.int b,.int e]/\DN.isM r/\RuleAt A H x r/\Ok r/\NX r b e Q H
def bj (A:RAd):Sp:=λvs H Q _=>∃(x:Addr)(b e m r:Int),vs=[.ref x,.int b,.int e]/\RuleAt A H x (.wh m r)/\Ok (.wh m r)/\Wi b e/\NX (.wh m r) b e Q H
def rf:Sp:=λvs H Q _=>∃n:Int,vs=[.int n]/\Q (.int (n*7-5)) H
def Ahb (a:Adr):Addr->(V->List V->Hp->VK->Prop)->Prop:=λC R=>(C=a.Ax/\R=λx vs H Q=>(J3 (ad a)) (x::(vs++([]:List V))) H Q E0)∨(C=a.Fb/\R=λx vs H Q=>(Ql (ad a)) (x::(vs++([]:List V))) H Q E0)∨(C=a.A0/\R=λx vs H Q=>(Lr (ad a)) (x::(vs++([]:List V))) H Q E0)
theorem Abz (T:Wg K mg base a)(hm:DN.isM r)(hr:RuleAt (ad a) H x r):∃(C dx:Addr)(fs:List (Str×V)),H x=some (.ins C dx fs)/\Cls K C/\(NoAttr K C "first"/\fs.lookup ("first":Str)=some (.int (DN.fiM r)))/\(NoAttr K C "origin"/\fs.lookup ("origin":Str)=some (.int (DN.orM r)))/\(NoAttr K C "stride"/\fs.lookup ("stride":Str)=some (.int (DN.stM r)))/\fs.lookup ("day_in":Str)=none/\
  ∃R':V->List V->Hp->VK->Prop,Ahb a C R'/\∀(n:Int)(R:VK),R (oV (DN.gM r n)) H->R' (.ref x) [.int n] H R:=by
 cases r with
 | mo dt fi e=>obtain⟨dx,hx⟩:=id hr;exact⟨_,dx,_,hx,T.C6,⟨T.Ng,rfl⟩,⟨T.Lk,rfl⟩,⟨T.Ln,rfl⟩,rfl,_,.inl ⟨rfl,rfl⟩,λn R k=>⟨x,n,dt,fi,e,rfl,hr,k⟩⟩
 | nt w wd fi e=>obtain⟨dx,hx⟩:=id hr;exact⟨_,dx,_,hx,T.M1,⟨T.Vy,rfl⟩,⟨T.To,rfl⟩,⟨T.Tq,rfl⟩,rfl,_,.inr (.inl ⟨rfl,rfl⟩),λn R k=>⟨x,n,w,wd,fi,e,rfl,hr,k⟩⟩
 | yr mn dt fi e=>obtain⟨dx,hx⟩:=id hr;exact⟨_,dx,_,hx,T.Dn,⟨T.Ov,rfl⟩,⟨T.M9,rfl⟩,⟨T.Nc,rfl⟩,rfl,_,.inr (.inr ⟨rfl,rfl⟩),λn R k=>⟨x,n,mn,dt,fi,e,rfl,hr,k⟩⟩
 | _=>exact hm.elim
open DJ (Rt ft dep Okt Tz se Dy)
open DR (days)
theorem noK {m:Str}:∀{fs:List (Str×V)}{ks:List Str},fs.map (·.1)=ks->(ks.all λk=>!(m==k))=true->fs.lookup m=none
 | [],_,_,_=>rfl
 |
  (k,v)::fs,_,rfl,h=>by
  rw[Ar1,List.all_cons,Aq9,Awj] at h
  rw[Ait h.1]
  exact noK rfl h.2
structure JAd where
 s:RAd
 ei:Addr
 bo:Addr
 bu:Addr
 wi:Addr
 sh:Addr
 ch:Addr
abbrev jd (a:Adr):JAd:=⟨ad a,a.Bq,a.Fd,a.L6,a.Bk,a.Bh,a.Am⟩
abbrev F2 (y z:Addr):List (Str×V):=[("one",.ref y),("other",.ref z)]
abbrev FW (y:Addr)(b e:Int):List (Str×V):=[("rule",.ref y),("begin",.int b),("end",.int e)]
abbrev FS (y:Addr)(n:Int):List (Str×V):=[("rule",.ref y),("many",.int n)]
abbrev FC (y p q o g l:Addr):List (Str×V):=[("rule",.ref y),("left",.ref p),("more",.ref q),("moved",.ref o),("gained",.ref g),("lost",.ref l)]
def RtAt (A:JAd)(H:Hp):Rt->Addr->Prop
 | .s r=>λx=>RuleAt A.s H x r
 | .ei a b=>λx=>∃dx y z,H x=some (.ins A.ei dx (F2 y z))/\RtAt A H a y/\RtAt A H b z
 | .bo a b=>λx=>∃dx y z,H x=some (.ins A.bo dx (F2 y z))/\RtAt A H a y/\RtAt A H b z
 | .bu a b=>λx=>∃dx y z,H x=some (.ins A.bu dx (F2 y z))/\RtAt A H a y/\RtAt A H b z
 | .wi b e r=>λx=>∃dx y,H x=some (.ins A.wi dx (FW y b e))/\RtAt A H r y
 | .sh n r=>λx=>∃dx y,H x=some (.ins A.sh dx (FS y n))/\RtAt A H r y
 | .ch r ls ms mv=>λx=>∃dx y p q o g l gs kvs,H x=some (.ins A.ch dx (FC y p q o g l))/\RtAt A H r y/\(H g=some (.tup (gs.map V.int))/\DC.Abs gs/\gs.length<=20/\∀k,k∈gs↔k∈Tz (ft r) ls ms mv)/\H l=some (.dK kvs)/\∀k:Int,(Us kvs (Sum.inl k)).isSome=decide (k∈se ls mv)
set_option smartUnfolding true in
theorem RtAt.up (s:Same H H'):∀{t:Rt}{x:Addr},RtAt A H t x->RtAt A H' t x
 | .s r,x,h=>RuleAt.up h s
 | .ei a b,x,hz=>by obtain⟨dx,y,z,h,h1,h2⟩:=hz;exact⟨dx,y,z,s _ _ h,h1.up s,h2.up s⟩
 | .bo a b,x,hz=>by obtain⟨dx,y,z,h,h1,h2⟩:=hz;exact⟨dx,y,z,s _ _ h,h1.up s,h2.up s⟩
 | .bu a b,x,hz=>by obtain⟨dx,y,z,h,h1,h2⟩:=hz;exact⟨dx,y,z,s _ _ h,h1.up s,h2.up s⟩
 | .wi b e r,x,hz=>by obtain⟨dx,y,h,h1⟩:=hz;exact⟨dx,y,s _ _ h,h1.up s⟩
 | .sh n r,x,hz=>by obtain⟨dx,y,h,h1⟩:=hz;exact⟨dx,y,s _ _ h,h1.up s⟩
 | .ch r ls ms mv,x,hz=>by obtain⟨dx,y,p,q,o,g,l,gs,kvs,h,h1,⟨h2,h3⟩,h4,h5⟩:=hz;exact⟨dx,y,p,q,o,g,l,gs,kvs,s _ _ h,h1.up s,⟨s _ _ h2,h3⟩,s _ _ h4,h5⟩
set_option smartUnfolding true in
def RtAt.isEi:RtAt A H (.ei p q) x↔ ∃dx y z,H x=some (.ins A.ei dx (F2 y z))/\RtAt A H p y/\RtAt A H q z:=Au6
set_option smartUnfolding true in
def RtAt.isBo:RtAt A H (.bo p q) x↔ ∃dx y z,H x=some (.ins A.bo dx (F2 y z))/\RtAt A H p y/\RtAt A H q z:=Au6
set_option smartUnfolding true in
def RtAt.isBu:RtAt A H (.bu p q) x↔ ∃dx y z,H x=some (.ins A.bu dx (F2 y z))/\RtAt A H p y/\RtAt A H q z:=Au6
set_option smartUnfolding true in
def RtAt.isWi:RtAt A H (.wi b e r) x↔ ∃dx y,H x=some (.ins A.wi dx (FW y b e))/\RtAt A H r y:=Au6
set_option smartUnfolding true in
def RtAt.isSh:RtAt A H (.sh n r) x↔ ∃dx y,H x=some (.ins A.sh dx (FS y n))/\RtAt A H r y:=Au6
set_option smartUnfolding true in
def RtAt.isCh:RtAt A H (.ch r ls ms mv) x↔ ∃dx y p q o g l gs kvs,H x=some (.ins A.ch dx (FC y p q o g l))/\RtAt A H r y/\(H g=some (.tup (gs.map V.int))/\DC.Abs gs/\gs.length<=20/\∀k,k∈gs↔k∈Tz (ft r) ls ms mv)/\H l=some (.dK kvs)/\∀k:Int,(Us kvs (Sum.inl k)).isSome=decide (k∈se ls mv):=Au6
def kd:Rt->Nat
 | .s .nv=>0
 | .s (.ev _ _)=>1
 | .s (.wk _ _ _)=>2
 | .s (.mo _ _ _)=>3
 | .s (.nt _ _ _ _)=>4
 | .s (.yr _ _ _ _)=>5
 | .s (.dy _)=>6
 | .s (.wh _ _)=>7
 | .ei _ _=>8
 | .bo _ _=>9
 | .bu _ _=>10
 | .wi _ _ _=>11
 | .sh _ _=>12
 | .ch _ _ _ _=>13
def jc (A:JAd):Nat->Addr
 | 0=>A.s.r
 | 1=>A.s.e
 | 2=>A.s.k
 | 3=>A.s.m
 | 4=>A.s.n
 | 5=>A.s.y
 | 6=>A.s.d
 | 7=>A.s.w
 | 8=>A.ei
 | 9=>A.bo
 | 10=>A.bu
 | 11=>A.wi
 | 12=>A.sh
 | _=>A.ch
theorem Ale (t):kd t<14:=by
 cases t with
 | s r=>cases r<;>exact Atb rfl
 | _=>exact Atb rfl
def kdP (t:Rt):Nat->Prop
 | 0=>t=.s .nv
 | 1=>∃x0 x1,t=.s (.ev x0 x1)
 | 2=>∃x0 x1 x2,t=.s (.wk x0 x1 x2)
 | 3=>∃x0 x1 x2,t=.s (.mo x0 x1 x2)
 | 4=>∃x0 x1 x2 x3,t=.s (.nt x0 x1 x2 x3)
 | 5=>∃x0 x1 x2 x3,t=.s (.yr x0 x1 x2 x3)
 | 6=>∃x0,t=.s (.dy x0)
 | 7=>∃x0 x1,t=.s (.wh x0 x1)
 | 8=>∃x0 x1,t=.ei x0 x1
 | 9=>∃x0 x1,t=.bo x0 x1
 | 10=>∃x0 x1,t=.bu x0 x1
 | 11=>∃x0 x1 x2,t=.wi x0 x1 x2
 | 12=>∃x0 x1,t=.sh x0 x1
 | _=>∃x0 x1 x2 x3,t=.ch x0 x1 x2 x3
theorem kdA:∀t,kdP t (kd t)
 | .s .nv=>rfl
 | .s (.ev _ _)=>⟨_,_,rfl⟩
 | .s (.wk _ _ _)=>⟨_,_,_,rfl⟩
 | .s (.mo _ _ _)=>⟨_,_,_,rfl⟩
 | .s (.nt _ _ _ _)=>⟨_,_,_,_,rfl⟩
 | .s (.yr _ _ _ _)=>⟨_,_,_,_,rfl⟩
 | .s (.dy _)=>⟨_,rfl⟩
 | .s (.wh _ _)=>⟨_,_,rfl⟩
 | .ei _ _=>⟨_,_,rfl⟩
 | .bo _ _=>⟨_,_,rfl⟩
 | .bu _ _=>⟨_,_,rfl⟩
 | .wi _ _ _=>⟨_,_,_,rfl⟩
 | .sh _ _=>⟨_,_,rfl⟩
 | .ch _ _ _ _=>⟨_,_,_,_,rfl⟩
def kdJ (h:kd t=i):kdP t i:=h▸kdA t
def kd0 (h:kd t=0):t=.s .nv:=kdJ h
theorem Ao0 (hk:kd t=i)(hi:8<=i)(hd:dep t<=0):False:=by
 subst hk
 cases t with
 | s r=>cases r<;>exact absurd (show false=true from Nat.ble_eq_true_of_le hi) dkd
 | _=>exact absurd hd (Nat.not_succ_le_zero _)
def Nom (fs:List (Str×V)):Prop:=fs.lookup ("falls_on":Str)=none/\fs.lookup ("days_in":Str)=none/\fs.lookup ("next_in":Str)=none
def P5 (h:fs.map (·.1)=ks)(h1:(ks.all λk=>!(("falls_on":Str)==k)&&!(("days_in":Str)==k)&&!(("next_in":Str)==k))=true):Nom fs:=by
 have all:=List.all_eq_true.mp h1
 refine⟨noK h (Atv.mpr λk hk=>?_),noK h (Atv.mpr λk hk=>?_),noK h (Atv.mpr λk hk=>?_)⟩
 all_goals
  have:=all k hk
  rw[Aq9,Aq9] at this
  first|exact this.1.1|exact this.1.2|exact this.2
set_option smartUnfolding true in
theorem Acj:∀{t:Rt}{x:Addr},RtAt (jd a) H t x->∃dx fs,H x=some (.ins (jc (jd a) (kd t)) dx fs)/\Nom fs
 | .s .nv,x,hz=>by obtain⟨dx,h⟩:=hz;exact⟨dx,_,h,rfl,rfl,rfl⟩
 | .s (.ev _ _),x,hz=>by obtain⟨dx,h⟩:=hz;exact⟨dx,_,h,P5 (ks:=["step","first"]) rfl dkk⟩
 | .s (.wk _ _ _),x,hz=>by obtain⟨dx,h⟩:=hz;exact⟨dx,_,h,P5 (ks:=["mask","first","every"]) rfl dkk⟩
 | .s (.mo _ _ _),x,hz=>by obtain⟨dx,h⟩:=hz;exact⟨dx,_,h,P5 (ks:=["origin","stride","first","date","every"]) rfl dkk⟩
 | .s (.nt _ _ _ _),x,hz=>by obtain⟨dx,h⟩:=hz;exact⟨dx,_,h,P5 (ks:=["origin","stride","first","which","weekday_of","every"]) rfl dkk⟩
 | .s (.yr _ _ _ _),x,hz=>by obtain⟨dx,h⟩:=hz;exact⟨dx,_,h,P5 (ks:=["origin","stride","first","month","date","every"]) rfl dkk⟩
 | .s (.dy _),x,hz=>by obtain⟨dx,u,ms,h,_⟩:=hz;exact⟨dx,_,h,P5 (ks:=["days"]) rfl dkk⟩
 | .s (.wh _ _),x,hz=>by obtain⟨dx,f,t,h,_⟩:=hz;exact⟨dx,_,h,P5 (ks:=["test"]) rfl dkk⟩
 | .ei _ _,x,hz=>by obtain⟨dx,y,z,h,_⟩:=hz;exact⟨dx,_,h,P5 (ks:=["one","other"]) rfl dkk⟩
 | .bo _ _,x,hz=>by obtain⟨dx,y,z,h,_⟩:=hz;exact⟨dx,_,h,P5 (ks:=["one","other"]) rfl dkk⟩
 | .bu _ _,x,hz=>by obtain⟨dx,y,z,h,_⟩:=hz;exact⟨dx,_,h,P5 (ks:=["one","other"]) rfl dkk⟩
 | .wi _ _ _,x,hz=>by obtain⟨dx,y,h,_⟩:=hz;exact⟨dx,_,h,P5 (ks:=["rule","begin","end"]) rfl dkk⟩
 | .sh _ _,x,hz=>by obtain⟨dx,y,h,_⟩:=hz;exact⟨dx,_,h,P5 (ks:=["rule","many"]) rfl dkk⟩
 | .ch _ _ _ _,x,hz=>by obtain⟨dx,y,p,q,o,g,l,gs,kvs,h,_⟩:=hz;exact⟨dx,_,h,P5 (ks:=["rule","left","more","moved","gained","lost"]) rfl dkk⟩
def Bd (d:Int):Prop:= -(2 ^ 61)<d/\d<2 ^ 61
def spF (A:JAd)(n i:Nat):Sp:=λvs H Q _=>∃(x:Addr)(d:Int)(t:Rt),vs=[.ref x,.int d]/\kd t=i/\dep t<=n/\RtAt A H t x/\Okt t/\Bd d/\Q (.bl (ft t d)) H
def dF (a:Adr)(n:Nat):Addr->(V->List V->Hp->VK->Prop)->Prop:=λC R=>∃i,i<14/\C=jc (jd a) i/\R=λx vs H Q=>spF (jd a) n i (x::(vs++[])) H Q E0
def Gu (hr:RtAt (jd a) H t x)(hn:dep t<=n)(ok:Okt t)(hd:Bd d):
  ∃(C dx:Addr)(fs:List (Str×V))(R':V->List V->Hp->VK->Prop),H x=some (.ins C dx fs)/\fs.lookup ("falls_on":Str)=none/\dF a n C R'/\∀R:VK,R (.bl (ft t d)) H->R' (.ref x) [.int d] H R:=by
 obtain⟨dx,fs,h,h1,_⟩:=Acj hr
 exact⟨_,dx,fs,_,h,h1,⟨kd t,Ale t,rfl,rfl⟩,λR k=>⟨x,d,t,rfl,rfl,hn,hr,ok,hd,k⟩⟩
def Le (C:Addr):Sp:=λvs H Q _=>∃(x dx y p q o g l:Addr)(gs:List Int)(d:Int),vs=[.ref x,.int d]/\H x=some (.ins C dx (FC y p q o g l))/\H g=some (.tup (gs.map V.int))/\DC.Abs gs/\gs.length<=20/\Q (.bl (decide (d∈gs))) H
def Nx (r:Rl)(b e:Int):Option Int->Prop
 | some d=>b<=d/\d<e/\fl r d=true/\DN.No r b d
 | none=>DN.No r b e
def NX.of (k:∀o,Nx r b e o->Q (oV o) H):NX r b e Q H:=⟨λd h1 h2 h3 h4=>k (some d) ⟨h1,h2,h3,h4⟩,λh=>k none h⟩
theorem NX.dy (k:NX (.dy ds) b e Q H):(∀d,b<=d->d<e->d∈ds->(∀k,b<=k->k<d->k∉ds)->Q (.int d) H)/\((∀k,b<=k->k<e->k∉ds)->Q .non H):=
 ⟨λd h1 h2 h3 h4=>k.1 d h1 h2 (Aqs h3) λz z1 z2=>Aqz (h4 z z1 z2),λh=>k.2 λz z1 z2=>Aqz (h z z1 z2)⟩
def spS (A:RAd)(i:Nat):Sp:=λvs H Q _=>∃(x:Addr)(b e:Int)(r:Rl),vs=[.ref x,.int b,.int e]/\kd (.s r)=i/\RuleAt A H x r/\Ok r/\Wi b e/\NX r b e Q H
def dS (a:Adr):Addr->(V->List V->Hp->VK->Prop)->Prop:=λC R=>∃i,i<8/\C=jc (jd a) i/\R=λx vs H Q=>spS (ad a) i (x::(vs++[])) H Q E0
def Akj (r):kd (.s r)<8:=by cases r<;>exact Atb rfl
def Ahn (hr:RuleAt (ad a) H x r)(ok:Ok r)(hw:Wi b e):
  ∃(C dx:Addr)(fs:List (Str×V))(R':V->List V->Hp->VK->Prop),H x=some (.ins C dx fs)/\fs.lookup ("next_in":Str)=none/\dS a C R'/\∀R:VK,(∀o,Nx r b e o->R (oV o) H)->R' (.ref x) [.int b,.int e] H R:=by
 obtain⟨dx,fs,h,_,_,h1⟩:=Acj (a:=a) (t:=.s r) hr
 exact⟨_,dx,fs,_,h,h1,⟨kd (.s r),Akj r,rfl,rfl⟩,λR k=>⟨x,b,e,r,rfl,rfl,hr,ok,hw,NX.of k⟩⟩
def f6 (A:RAd):Sp:=λvs H Q _=>∃(x:Addr)(b e:Int)(r:Rl),vs=[.ref x,.int b,.int e]/\RuleAt A H x r/\Ok r/\Wi b e/\∀(D:Addr)H',Same H H'->H' D=some (.lst ((days (fl r) b e).map V.int))->H D=none->Q (.ref D) H'
def bx (A:RAd):Sp:=λvs H Q _=>∃(x:Addr)(b e st fi:Int),vs=[.ref x,.int b,.int e]/\RuleAt A H x (.ev st fi)/\Ok (.ev st fi)/\Wi b e/\∀(D:Addr)H',Same H H'->H' D=some (.lst ((days (fl (.ev st fi)) b e).map V.int))->H D=none->Q (.ref D) H'
def msO:Option Int->Nat
 | some d=>(146097-d).toNat+1
 | none=>0
def Ack:Sp:=λvs H Q _=>∃(p q:Addr)(xs ys:List Int),vs=[.ref p,.ref q]/\H p=some (.lst (xs.map V.int))/\H q=some (.lst (ys.map V.int))/\xs.length<=2000/\ys.length<=2000/\xs.Pairwise (· < ·)/\ys.Pairwise (· < ·)/\(∀qs:List Int,qs.Nodup->(∀z∈qs,z∈xs∨z∈ys)->qs.length<200)/\
 ∀(D:Addr)H'(ms:List Int),Same H H'->H' D=some (.lst (ms.map V.int))->ms.Pairwise (· < ·)->(∀k,k∈ms↔k∈xs∨k∈ys)->H D=none->Q (.ref D) H'
def Akv (xs:List Int):(xs.map V.int).isEmpty=xs.isEmpty:=by cases xs<;>rfl
def Wn (n:Nat)(b e:Int):Prop:=n<=100/\ -(2 ^ 60-4000*(n:Int))<b/\b<2 ^ 60-4000*(n:Int)/\ -(2 ^ 60-4000*(n:Int))<e/\e<2 ^ 60-4000*(n:Int)
def Wn.wi (h:Wn n b e):Wi b e:=by
 obtain⟨h0,h1,h2,h3,h4⟩:=h
 exact⟨dkl,dkl,dkl,dkl⟩
def Sz (t:Rt)(b e:Int):Prop:=DJ.Nar b e∨(∃r,t=.s r)∨∃ds ls ms mv,t=.ch (.s (.dy ds)) ls ms mv/\ds.length<=40
theorem none_of (s:Same H H')(h:H' D=none):H D=none:=by
 cases e:H D with
 | none=>rfl
 | some u=>rw[s _ _ e] at h;cases h
def DLt (t:Rt)(b e:Int)(Q:VK)(H:Hp):Prop:=∀(D:Addr)H',Same H H'->H' D=some (.lst ((days (ft t) b e).map V.int))->H D=none->Q (.ref D) H'
def spD (A:JAd)(n i:Nat):Sp:=λvs H Q _=>∃(x:Addr)(b e:Int)(t:Rt),vs=[.ref x,.int b,.int e]/\kd t=i/\dep t<=n/\RtAt A H t x/\Okt t/\Wn n b e/\Sz t b e/\DLt t b e Q H
def dD (a:Adr)(n:Nat):Addr->(V->List V->Hp->VK->Prop)->Prop:=λC R=>∃i,i<14/\C=jc (jd a) i/\R=λx vs H Q=>spD (jd a) n i (x::(vs++[])) H Q E0
def Sh (hr:RtAt (jd a) H t x)(hn:dep t<=n)(ok:Okt t)(hw:Wn n b e)(hs:Sz t b e):
  ∃(C dx:Addr)(fs:List (Str×V))(R':V->List V->Hp->VK->Prop),H x=some (.ins C dx fs)/\fs.lookup ("days_in":Str)=none/\dD a n C R'/\∀R:VK,(∀(D:Addr)H',Same H H'->H' D=some (.lst ((days (ft t) b e).map V.int))->H D=none->R (.ref D) H')->R' (.ref x) [.int b,.int e] H R:=by
 obtain⟨dx,fs,h,_,h1,_⟩:=Acj hr
 exact⟨_,dx,fs,_,h,h1,⟨kd t,Ale t,rfl,rfl⟩,λR k=>⟨x,b,e,t,rfl,rfl,hn,hr,ok,hw,hs,k⟩⟩
def qx (ok:Okt t)(h:z∈days (ft t) b e):b<=z/\z<e/\0<=z/\z<146097:=by
 obtain⟨a1,a2,a3⟩:=DR.As.mp h
 have:=DJ.va ok a3
 exact⟨a1,a2,this.1,this.2⟩
def Aho {b e:Int}{qs:List Int}(h:DJ.Nar b e)(nd:qs.Nodup)(hq:∀z∈qs,b<=z/\z<e/\0<=z/\z<146097):qs.length<200:=by
 have hl:=jo (ds:=DR.rng (if 0>b then 0 else b) (if 146097<e then 146097 else e)) nd λz hz=>by
  obtain⟨a1,a2,a3,a4⟩:=hq z hz
  rw[DR.Ac0]
  constructor<;>split<;>lia
 have h2:(DR.rng (if 0>b then 0 else b) (if 146097<e then 146097 else e)).length<=125:=by
  unfold DR.rng
  rw[Aqv,Art]
  unfold DJ.Nar at h
  lia
 lia
def Ae7 (p:Int->Bool):V->Bool
 | .int d=>p d
 | _=>false
theorem Aj6 {p:Int->Bool}{ds:List Int}:(ds.map V.int).filter (Ae7 p)=(ds.filter p).map V.int:=by
 induction ds with
 | nil=>rfl
 |
  cons d ds ih=>
  rw[Ar1,List.filter_cons,List.filter_cons]
  show(if p d=true then _ else _)=_
  split
  · rw[Ar1,ih]
  · exact ih
def Aji {xs:List V}{i j:Nat}(h:j<=xs.length)(hi:i<=xs.length):Aba xs (some (i:Int)) (some (j:Int))=(xs.take j).drop i:=by
 unfold Aba
 rw[HT.yl,HT.yl,Nat.min_eq_left h,Nat.min_eq_left hi,List.drop_take]
def Sz.sub (h:Sz t b e)(h1:b<=c)(h2:u<=e)(h3:0<=c):Sz t c u:=by
 rcases h with h|h
 ·
  refine .inl ?_
  unfold DJ.Nar at h ⊢
  (repeat' split at h)<;>(repeat' split)<;>lia
 · exact .inr h
def iz (a b c d:V):List.lookup ("days_gained":Str) ([("rule",a),("left",b),("more",c),("moved",d)]:List (Str×V))=none:=noK (ks:=["rule","left","more","moved"]) rfl dkk
abbrev FC4 (y p q o:Addr):List (Str×V):=[("rule",.ref y),("left",.ref p),("more",.ref q),("moved",.ref o)]
abbrev FC5 (y p q o g:Addr):List (Str×V):=[("rule",.ref y),("left",.ref p),("more",.ref q),("moved",.ref o),("gained",.ref g)]
def Aen (ls:List Int):(ls.map V.int).all qh=true:=by rw[List.all_map];exact Atv.mpr λ_ _=>rfl
def V6 (C:Addr):Sp:=λvs H Q _=>∃(x dx y z:Addr),vs=[.ref x,.ref y,.ref z]/\H x=some (.ins C dx [])/\∀H',F5 x H H'->H' x=some (.ins C dx (F2 y z))->Q .non H'
def kx (C:Addr):Sp:=λvs H Q _=>∃(x dx y:Addr)(b e:Int),vs=[.ref x,.ref y,.int b,.int e]/\H x=some (.ins C dx [])/\∀H',F5 x H H'->H' x=some (.ins C dx (FW y b e))->Q .non H'
def gu (C:Addr):Sp:=λvs H Q _=>∃(x dx y:Addr)(m:Int),vs=[.ref x,.ref y,.int m]/\ -1000<=m/\m<=1000/\H x=some (.ins C dx [])/\∀H',F5 x H H'->H' x=some (.ins C dx (FS y m))->Q .non H'
def Gs (H:Hp)(g:Addr)(gs:List Int)(f:Int->Bool)(ls ms:List Int)(mv:List (Int×Int)):Prop:=H g=some (.tup (gs.map V.int))/\DC.Abs gs/\gs.length<=20/\∀k,k∈gs↔k∈Tz f ls ms mv
def OkC (ls ms:List Int)(mv:List (Int×Int)):Prop:=(ls.length<=10/\ms.length<=10/\mv.length<=10)/\(∀d∈ls,Dy d)/\(∀d∈ms,Dy d)/\∀y∈mv,Dy y.1/\Dy y.2
def MvAt (H:Hp)(o:Addr)(mv:List (Int×Int)):Prop:=∃rs:List RA,H o=some (.tup (refs rs))/\RowOk H rs/\sps rs=mv
theorem MvAt.up (h:MvAt H o mv)(s:Same H H'):MvAt H' o mv:=by
 obtain⟨rs,h1,h2,h3⟩:=h
 exact⟨rs,s _ _ h1,h2.up s,h3⟩
def Vq (A:JAd)(n:Nat):Sp:=λvs H Q _=>∃(x dx y p q o:Addr)(r:Rt)(ls ms:List Int)(mv:List (Int×Int)),vs=[.ref x]/\H x=some (.ins A.ch dx (FC4 y p q o))/\RtAt A H r y/\dep r<=n/\Okt r/\H p=some (.tup (ls.map V.int))/\H q=some (.tup (ms.map V.int))/\MvAt H o mv/\OkC ls ms mv/\
 ∀g gs H',Same H H'->Gs H' g gs (ft r) ls ms mv->Q (.ref g) H'
def Ls (H:Hp)(l:Addr)(ls:List Int)(mv:List (Int×Int)):Prop:=∃kvs,H l=some (.dK kvs)/\∀k:Int,(Us kvs (Sum.inl k)).isSome=decide (k∈se ls mv)
def aq (C:Addr):Sp:=λvs H Q _=>∃(x dx y p q o g:Addr)(ls:List Int)(mv:List (Int×Int)),vs=[.ref x]/\H x=some (.ins C dx (FC5 y p q o g))/\H p=some (.tup (ls.map V.int))/\MvAt H o mv/\ls.length<=10/\mv.length<=10/\
 ∀l H',Same H H'->Ls H' l ls mv->Q (.ref l) H'
def OT (H:Hp)(v:V)(ls:List Int):Prop:=(v=.non/\ls=[])∨∃p,v=.ref p/\H p=some (.tup (ls.map V.int))
def OM (H:Hp)(v:V)(mv:List (Int×Int)):Prop:=(v=.non/\mv=[])∨∃o,v=.ref o/\MvAt H o mv
def Te (A:JAd)(n:Nat):Sp:=λvs H Q _=>∃(x dx y:Addr)(v1 v2 v3:V)(r:Rt)(ls ms:List Int)(mv:List (Int×Int))(H0:Hp),vs=[.ref x,.ref y,v1,v2,v3]/\H x=some (.ins A.ch dx [])/\H0 x=none/\Same H0 H/\RtAt A H0 r y/\dep r<=n/\Okt r/\OT H0 v1 ls/\OT H0 v2 ms/\OM H0 v3 mv/\OkC ls ms mv/\
 ∀H',F5 x H H'->RtAt A H' (.ch r ls ms mv) x->Q .non H'
def Ag8:(Us (putK kvs (Sum.inl k:Key) v) (Sum.inl j)).isSome=(decide (j=k)||(Us kvs (Sum.inl j)).isSome):=by
 rw[Qv]
 by_cases h:j=k
 · rw[if_pos (by rw[h]),Aqs h];rfl
 · rw[if_neg (λe=>h (Sum.inl.inj e)),Aqz h,Bool.false_or]
def zb {kvs:List (Key×V)}{k:Key}{v:V}:(putK kvs k v).length<=kvs.length+1:=by
 unfold putK
 split
 · rw[Aqv];lia
 · rw[Aqw];exact Aq0 _
def sx0 (h0:H0 x=none)(s:Same H0 H)(sx:F5 x H H'):Same H0 H':=λc u e=>sx _ _ (λz=>by rw[z,h0] at e;cases e) (s _ _ e)
set_option smartUnfolding true in
def TrAt (H:Hp):Rt->Addr->Prop
 | .s r=>λt=>TreeAt H t r
 | .ei a b=>λt=>∃y z,H t=some (.tup [.str "either",.ref y,.ref z])/\TrAt H a y/\TrAt H b z
 | .bo a b=>λt=>∃y z,H t=some (.tup [.str "both",.ref y,.ref z])/\TrAt H a y/\TrAt H b z
 | .bu a b=>λt=>∃y z,H t=some (.tup [.str "but",.ref y,.ref z])/\TrAt H a y/\TrAt H b z
 | .wi b e r=>λt=>∃y,H t=some (.tup [.str "within",.int b,.int e,.ref y])/\TrAt H r y
 | .sh n r=>λt=>∃y,H t=some (.tup [.str "shifted",.int n,.ref y])/\TrAt H r y
 | .ch r ls ms mv=>λt=>∃y p q o,H t=some (.tup [.str "changed",.ref y,.ref p,.ref q,.ref o])/\TrAt H r y/\H p=some (.tup (ls.map V.int))/\H q=some (.tup (ms.map V.int))/\MvAt H o mv
set_option smartUnfolding true in
theorem TrAt.ei:TrAt H (.ei p q) t↔ ∃y z,H t=some (.tup [.str "either",.ref y,.ref z])/\TrAt H p y/\TrAt H q z:=Au6
set_option smartUnfolding true in
theorem TrAt.bo:TrAt H (.bo p q) t↔ ∃y z,H t=some (.tup [.str "both",.ref y,.ref z])/\TrAt H p y/\TrAt H q z:=Au6
set_option smartUnfolding true in
theorem TrAt.bu:TrAt H (.bu p q) t↔ ∃y z,H t=some (.tup [.str "but",.ref y,.ref z])/\TrAt H p y/\TrAt H q z:=Au6
set_option smartUnfolding true in
theorem TrAt.wi:TrAt H (.wi b e r) t↔ ∃y,H t=some (.tup [.str "within",.int b,.int e,.ref y])/\TrAt H r y:=Au6
set_option smartUnfolding true in
theorem TrAt.sh:TrAt H (.sh n r) t↔ ∃y,H t=some (.tup [.str "shifted",.int n,.ref y])/\TrAt H r y:=Au6
set_option smartUnfolding true in
theorem TrAt.ch:TrAt H (.ch r ls ms mv) t↔ ∃y p q o,H t=some (.tup [.str "changed",.ref y,.ref p,.ref q,.ref o])/\TrAt H r y/\H p=some (.tup (ls.map V.int))/\H q=some (.tup (ms.map V.int))/\MvAt H o mv:=Au6
theorem MvAt.by {H H':Hp}{o:Addr}{mv:List (Int×Int)}(h:MvAt H o mv)(ne:∀{b:Addr}{xs:List V},H b=some (.tup xs)->H' b=some (.tup xs)):MvAt H' o mv:=by
 obtain⟨rs,h1,h2,h3⟩:=h
 exact⟨rs,ne h1,λx hx=>ne (h2 x hx),h3⟩
set_option smartUnfolding true in
theorem TrAt.by {H H':Hp}(ne:∀{b:Addr}{xs:List V},H b=some (.tup xs)->H' b=some (.tup xs)):∀{r:Rt}{t:Addr},TrAt H r t->TrAt H' r t
 | .s .nv,t,h=>ne h
 | .s (.ev _ _),t,h=>ne h
 | .s (.wk _ _ _),t,h=>ne h
 | .s (.mo _ _ _),t,h=>ne h
 | .s (.nt _ _ _ _),t,h=>ne h
 | .s (.yr _ _ _ _),t,h=>ne h
 | .s (.dy _),t,hz=>by obtain⟨u,h1,h2⟩:=hz;exact⟨u,ne h1,ne h2⟩
 | .s (.wh _ _),t,h=>ne h
 | .ei a b,t,hz=>by obtain⟨y,z,h,h1,h2⟩:=hz;exact⟨y,z,ne h,TrAt.by ne h1,TrAt.by ne h2⟩
 | .bo a b,t,hz=>by obtain⟨y,z,h,h1,h2⟩:=hz;exact⟨y,z,ne h,TrAt.by ne h1,TrAt.by ne h2⟩
 | .bu a b,t,hz=>by obtain⟨y,z,h,h1,h2⟩:=hz;exact⟨y,z,ne h,TrAt.by ne h1,TrAt.by ne h2⟩
 | .wi b e r,t,hz=>by obtain⟨y,h,h1⟩:=hz;exact⟨y,ne h,TrAt.by ne h1⟩
 | .sh n r,t,hz=>by obtain⟨y,h,h1⟩:=hz;exact⟨y,ne h,TrAt.by ne h1⟩
 | .ch r ls ms mv,t,hz=>by obtain⟨y,p,q,o,h,h1,h2,h3,h4⟩:=hz;exact⟨y,p,q,o,ne h,TrAt.by ne h1,ne h2,ne h3,h4.by ne⟩
abbrev _root_.Awv:=@TrAt.by
def TrAt.up {H H':Hp}{r:Rt}{t:Addr}(h:TrAt H r t)(s:Same H H'):TrAt H' r t:=Awv (λe=>s _ _ e) h
def TrAt.upX {H H':Hp}{r:Rt}{t pt:Addr}{tb:Array Value}(h:TrAt H r t)(hp:H pt=some (.tbl tb))(s:F5 pt H H'):TrAt H' r t:=Awv (λe=>s _ _ (λz=>by rw[z,hp] at e;cases e) e) h
def Aed {xs ys:List V}{G:V->V->Prop}(hl:ys.length=xs.length)(hG:∀(i:Nat)x v,xs[i]?=some x->ys[i]?=some v->G x v):∀v∈ys,∃x∈xs,G x v:=λv hv=>by
 obtain⟨i,hi⟩:=Ar5 hv
 have h1:i<xs.length:=by rw[←hl];exact(Aq5.mp hi).1
 exact⟨xs[i],Asu h1,hG i _ v (Aq6 h1) hi⟩
def vq:Sp:=λvs H Q _=>∃p b m:Int,vs=[.int p,.int b,.int m]/\0<=m/\m<=10/\∀(t:Addr)(ds:List Int)H',Same H H'->H' t=some (.tup (ds.map V.int))->ds.length=m.toNat->(∀d∈ds,Dy d)->Q (.ref t) H'
def Q4 (n:Nat):Sp:=λvs H Q _=>∃p b dp:Int,vs=[.int p,.int b,.int dp]/\0<=b/\b<146097/\0<=dp/\dp<(n:Int)/\∀(t:Addr)(r:Rt)H',Same H H'->TrAt H' r t->Okt r->dep r<=dp.toNat->Q (.ref t) H'
def Nn (n:Nat):Sp:=λvs H Q _=>∃(t p:Addr)(d:Int)(r:Rt),vs=[.ref t,.int d,.ref p]/\TrAt H r t/\Okt r/\dep r<n/\0<=d/\d<146097/\H p=some (Ajy d)/\∀H',Same H H'->Q (.bl (ft r d)) H'
def Al0 (h0:0<=i)(h4:i<4):∃w:Str,atI [V.str "either",V.str "both",V.str "but",V.str "either"] i=some (V.str w)/\(w="either"∨w="both"∨w="but"):=by
 have h:i=0∨i=1∨i=2∨i=3:=by lia
 rcases h with rfl|rfl|rfl|rfl
 · exact⟨"either",rfl,.inl rfl⟩
 · exact⟨"both",rfl,.inr (.inl rfl)⟩
 · exact⟨"but",rfl,.inr (.inr rfl)⟩
 · exact⟨"either",rfl,.inl rfl⟩
theorem Apy (xs:List V):Aba xs none (some 1)=xs.take 1:=by
 match xs with
 | []=>rfl
 | [x]=>rfl
 |
  x::y::zs=>
  unfold Aba
  rw[show HT.sIx (x::y::zs).length (x::y::zs).length (some 1)=1 from by rw[show(1:Int)=((1:Nat):Int) from rfl,HT.yl];rw[Arx,Arx];lia,show HT.sIx (x::y::zs).length 0 none=0 from rfl]
  rfl
abbrev W8:List Str:=["never","days","where","every","weekly","yearly","monthly","nth"]
theorem vm:∀{r:Rl},TreeAt H t r->∃w vs,H t=some (.tup (.str w::vs))/\w∈W8
 | .nv,h=>⟨_,_,h,dkk⟩
 | .ev _ _,h=>⟨_,_,h,dkk⟩
 | .wk _ _ _,h=>⟨_,_,h,dkk⟩
 | .mo _ _ _,h=>⟨_,_,h,dkk⟩
 | .nt _ _ _ _,h=>⟨_,_,h,dkk⟩
 | .yr _ _ _ _,h=>⟨_,_,h,dkk⟩
 | .dy _,⟨u,h,_⟩=>⟨_,_,h,dkk⟩
 | .wh _ _,h=>⟨_,_,h,dkk⟩
def Anc:∀w∈W8,inV (.str w) [.str "either",.str "both",.str "but"]=false:=by decide+kernel
def Amc:∀w∈W8,decide (V.str w=V.str "within")=false:=by decide+kernel
def Amq:∀w∈W8,decide (V.str w=V.str "shifted")=false:=by decide+kernel
def Alf:∀w∈W8,decide (V.str w=V.str "changed")=false:=by decide+kernel
def Aod:∀w∈W8,decide (V.str w=V.str "either")=false:=by decide+kernel
def Anp:∀w∈W8,decide (V.str w=V.str "both")=false:=by decide+kernel
def An1:∀w∈W8,decide (V.str w=V.str "but")=false:=by decide+kernel
def Agr (x y z:V):Us (ai [] [((Sum.inr "either":Key),x),(Sum.inr "both",y),(Sum.inr "but",z)]) (Sum.inr "either")=some x:=by
 show Us (putK (putK (putK [] (Sum.inr "either":Key) x) (Sum.inr "both") y) (Sum.inr "but") z) _=_
 rw[Qv,if_neg dkk,Qv,if_neg dkk,Qv,if_pos rfl]
def Af9 (x y z:V):Us (ai [] [((Sum.inr "either":Key),x),(Sum.inr "both",y),(Sum.inr "but",z)]) (Sum.inr "both")=some y:=by
 show Us (putK (putK (putK [] (Sum.inr "either":Key) x) (Sum.inr "both") y) (Sum.inr "but") z) _=_
 rw[Qv,if_neg dkk,Qv,if_pos rfl]
def Afy (x y z:V):Us (ai [] [((Sum.inr "either":Key),x),(Sum.inr "both",y),(Sum.inr "but",z)]) (Sum.inr "but")=some z:=by
 show Us (putK (putK (putK [] (Sum.inr "either":Key) x) (Sum.inr "both") y) (Sum.inr "but") z) _=_
 rw[Qv,if_pos rfl]
def dgk (e:H a=some (.dK kvs))(h:Us kvs k=some v):DGet H a (kV k) (some v):=h▸DGet.k e
def Ew (h:H p=none):Same H (upd (upd H p o) p o'):=λc u e=>by
 rw[An (Ap e h),An (Ap e h)]
 exact e
def Aga (h1:d∉ms)(h2:∀y∈mv,¬(y.2=d/\y.1∉ls/\f y.1=true)):decide (d∈Tz f ls ms mv)=false:=by
 refine Aqz λh=>?_
 rcases Ar0.mp h with h|h
 · exact h1 h
 ·
  obtain⟨y,hy,rfl⟩:=Arz.mp h
  obtain⟨a1,a2⟩:=Asz.mp hy
  rw[Aq9,Awj,decide_eq_false_iff_not] at a2
  exact h2 y a1 ⟨rfl,a2⟩
def Ah4 (hy:y∈mv)(h1:y.1∉ls)(h2:f y.1=true):decide (y.2∈Tz f ls ms mv)=true:=by
 refine Aqs (Aq8 _ (Arz.mpr ⟨y,List.mem_filter.mpr ⟨hy,?_⟩,rfl⟩))
 rw[Aq9,Awj,decide_eq_false_iff_not]
 exact⟨h1,h2⟩
def at0 (x:V)(xs:List V):atI (x::xs) 0=some x:=by show atI _ ((0:Nat):Int)=_;rw[Ow];rfl
theorem RuleAt.upX (h:RuleAt A H x r)(hp:H pt=some (.tbl tb))(s:F5 pt H H'):RuleAt A H' x r:=by
 have ne:∀{b:Addr}{o:HO},H b=some o->(∀ps,o≠ .tbl ps)->H' b=some o:=λe hn=>s _ _ (λz=>by rw[z,hp] at e;cases e;exact hn _ rfl) e
 cases r with
 | dy ds=>obtain⟨dx,d,ms,e,f,g⟩:=h;exact⟨dx,d,ms,ne e (λ_ z=>nomatch z),ne f (λ_ z=>nomatch z),g⟩
 | wh m r=>obtain⟨dx,f,t,e,⟨cl,cd,L⟩,g⟩:=h;exact⟨dx,f,t,ne e (λ_ z=>nomatch z),⟨cl,cd,L.up hp s⟩,ne g (λ_ z=>nomatch z)⟩
 | nv=>obtain⟨dx,e⟩:=h;exact⟨dx,ne e (λ_ z=>nomatch z)⟩
 | ev _ _=>obtain⟨dx,e⟩:=h;exact⟨dx,ne e (λ_ z=>nomatch z)⟩
 | wk _ _ _=>obtain⟨dx,e⟩:=h;exact⟨dx,ne e (λ_ z=>nomatch z)⟩
 | mo _ _ _=>obtain⟨dx,e⟩:=h;exact⟨dx,ne e (λ_ z=>nomatch z)⟩
 | nt _ _ _ _=>obtain⟨dx,e⟩:=h;exact⟨dx,ne e (λ_ z=>nomatch z)⟩
 | yr _ _ _ _=>obtain⟨dx,e⟩:=h;exact⟨dx,ne e (λ_ z=>nomatch z)⟩
set_option smartUnfolding true in
theorem RtAt.upX (hp:H pt=some (.tbl tb))(s:F5 pt H H'):∀{t:Rt}{x:Addr},RtAt A H t x->RtAt A H' t x
 | .s r,x,h=>RuleAt.upX h hp s
 | .ei a b,x,hz=>by obtain⟨dx,y,z,h,h1,h2⟩:=hz;exact⟨dx,y,z,s _ _ (λe=>by rw[e,hp] at h;cases h) h,RtAt.upX hp s h1,RtAt.upX hp s h2⟩
 | .bo a b,x,hz=>by obtain⟨dx,y,z,h,h1,h2⟩:=hz;exact⟨dx,y,z,s _ _ (λe=>by rw[e,hp] at h;cases h) h,RtAt.upX hp s h1,RtAt.upX hp s h2⟩
 | .bu a b,x,hz=>by obtain⟨dx,y,z,h,h1,h2⟩:=hz;exact⟨dx,y,z,s _ _ (λe=>by rw[e,hp] at h;cases h) h,RtAt.upX hp s h1,RtAt.upX hp s h2⟩
 | .wi b e r,x,hz=>by obtain⟨dx,y,h,h1⟩:=hz;exact⟨dx,y,s _ _ (λe=>by rw[e,hp] at h;cases h) h,RtAt.upX hp s h1⟩
 | .sh n r,x,hz=>by obtain⟨dx,y,h,h1⟩:=hz;exact⟨dx,y,s _ _ (λe=>by rw[e,hp] at h;cases h) h,RtAt.upX hp s h1⟩
 | .ch r ls ms mv,x,hz=>by obtain⟨dx,y,p,q,o,g,l,gs,kvs,h,h1,⟨h2,h3⟩,h4,h5⟩:=hz;exact⟨dx,y,p,q,o,g,l,gs,kvs,s _ _ (λe=>by rw[e,hp] at h;cases h) h,RtAt.upX hp s h1,⟨s _ _ (λe=>by rw[e,hp] at h2;cases h2) h2,h3⟩,s _ _ (λe=>by rw[e,hp] at h4;cases h4) h4,h5⟩
abbrev _root_.Awu:=@RtAt.upX
def Qd (A:JAd)(pt:Addr)(n:Nat):Sp:=λvs H Q _=>∃(t:Addr)(b:Bool)(r:Rt),vs=[.ref t,.bl b]/\TrAt H r t/\Okt r/\dep r<n/\Aj2 H pt/\∀x H',F5 pt H H'->Aj2 H' pt->RtAt A H' r x->Q (.ref x) H'
def Ae9 (hp:H pt=some (.tbl tb))(s:F5 pt H H')(e:H b=some (.tup xs)):H' b=some (.tup xs):=s _ _ (λz=>by rw[z,hp] at e;cases e) e
def wq (h:(xs.map V.int).isEmpty=true):xs=[]:=by cases xs with|nil=>rfl|cons _ _=>cases h
def Adx (h:(refs rs).isEmpty=true):sps rs=[]:=by cases rs with|nil=>rfl|cons _ _=>cases h
def RtOk (A:JAd)(H:Hp)(r:Rt)(x:Addr):Prop:=RtAt A H r x/\dep r<=4/\Okt r
theorem RtOk.up (h:RtOk A H r x)(s:Same H H'):RtOk A H' r x:=⟨h.1.up s,h.2⟩
def Win (r:Rt)(b e:Int):Prop:=Wn 4 b e/\Sz r b e
theorem Win.sub (h:Win r b e)(h1:b<=c)(h2:u<=e)(h3:0<=c)(h4:c<=146097∨c=b)(h5:0<=u∨u=e):Win r c u:=by
 obtain⟨⟨h0,a1,a2,a3,a4⟩,hs⟩:=h
 exact⟨⟨h0,dkl,dkl,dkl,dkl⟩,hs.sub h1 h2 h3⟩
def Aaz (A:JAd):Sp:=λvs H Q _=>∃(x:Addr)(b e:Int)(r:Rt),vs=[.ref x,.int b,.int e]/\RtOk A H r x/\Win r b e/\DLt r b e Q H
def yg (A:JAd):Sp:=λvs H Q _=>∃(x:Addr)(b e:Int)(r:Rt),vs=[.ref x,.int b,.int e]/\RtOk A H r x/\Win r b e/\∀H',Same H H'->Q (.int ((days (ft r) b e).length:Nat)) H'
def Adl (A:JAd):Sp:=λvs H Q _=>∃(x:Addr)(m b e:Int)(r:Rt),vs=[.ref x,.int m,.int b,.int e]/\0<=m/\RtOk A H r x/\Win r b e/\∀H',Same H H'->Q (oV ((days (ft r) b e)[m.toNat]?)) H'
def Aaj:Sp:=λvs H Q _=>∃(t:Addr)(b e:Int)(r:Rt),vs=[.ref t,.int b,.int e]/\TrAt H r t/\Okt r/\dep r<4/\ -100000<b/\b<=e/\e<400000/\e-b<=1000/\DLt r b e Q H
def SmA (H:Hp)(n:Nat)(v u:V):Prop:=0<n/\((∃o:Option Int,v=oV o/\u=oV o)∨(1<n/\∃(p q:Addr)(ns:List Int),v=.ref p/\u=.ref q/\H p=some (.tup (ns.map V.int))/\H q=some (.tup (ns.map V.int))/\ns.length<=1000))
def SmA.one (d:Int):SmA H (n+1) (.int d) (.int d):=⟨Nat.succ_pos _,.inl ⟨some d,rfl,rfl⟩⟩
def SmA.op (o:Option Int):SmA H (n+1) (oV o) (oV o):=⟨Nat.succ_pos _,.inl ⟨o,rfl,rfl⟩⟩
def Rh (n:Nat):Sp:=λvs H Q _=>∃v u,vs=[v,u]/\SmA H n v u/\∀H',Same H H'->Q (.bl true) H'
def Amj (f:Int->Bool)(lo hi:Int):((((List.range (hi-lo).toNat).map λ(i:Nat)=>V.int (lo+(i:Int))).filter (Ae7 f)).map λv=>v)=(days f lo hi).map V.int:=by
 have e:(((List.range (hi-lo).toNat).map λ(i:Nat)=>V.int (lo+(i:Int))):List V)=(DR.rng lo hi).map V.int:=by unfold DR.rng;rw[At3];rfl
 rw[e,Aj6,List.map_id']
 rfl
def Aeh {f:Int->Bool}{b e:Int}{k:Nat}{d:Int}(h:(days f b e)[k]?=some d):atI ((days f b e).map V.int) (k:Int)=some (.int d):=Ow (by rw[Are,h];rfl)
def Ajq (ds:List Int)(h:k<ds.length+2):atI (ds.map V.int++[.non,.non]) (k:Int)=some (oV ds[k]?):=by
 refine Ow ?_
 by_cases hk:k<ds.length
 ·
  rw[Ate (by rw[Aqv];exact hk),Are,Aq6 hk]
  rfl
 ·
  rw[As9 (by rw[Aqv];lia),Aqv,Aux (by lia:ds.length<=k)]
  have:k-ds.length=0∨k-ds.length=1:=by lia
  rcases this with e|e<;>rw[e]<;>rfl
def Af4 {xs:List V}:(xs.filter λ_=>false)=[]:=List.filter_eq_nil_iff.mpr λ_ _ z=>nomatch z
def inW (b e:Int):Int->Bool:=λd=>decide (b<=d)&&decide (d<e)
def Ajs (h1:B<=b)(h2:e<=E):((((days f B E).map V.int).filter (Ae7 (inW b e))).map λv=>v)=(days f b e).map V.int:=by
 rw[Aj6,List.map_id',DV.part (b:=b) (e:=e) (λk _ _=>?_) (.inl h1) (.inl h2) λk _ a1 a2=>⟨dkl,dkl⟩]
 unfold inW
 rw[Aq9,As0,As0]
def Afu:((((days f 0 146097).map V.int).filter (Ae7 λd=>decide (d≥50000))).map λv=>v)=(days f 50000 146097).map V.int:=by
 rw[Aj6,List.map_id',DV.part (b:=50000) (e:=146097) (λk _ a2=>?_) (.inl dkd) (.inl dkd) λk _ a1 a2=>⟨dkl,dkl⟩]
 rw[As0]
 lia
def xy (ok:Okt r)(h:DJ.Nar b e):(days (ft r) b e).length<=1000:=h.few ok
def dh (A:JAd):Sp:=λvs H Q _=>∃(x D:Addr)(b e c B E:Int)(r:Rt),vs=[.ref x,.ref D,.int b,.int e,.int c]/\RtOk A H r x/\H D=some (.lst ((days (ft r) B E).map V.int))/\B<=b/\e<=E/\Win r b e/\DJ.Nar b e/\DJ.Nar B E/\∀H',Same H H'->Q (.bl true) H'
def gh (pt:Addr):Sp:=λvs H Q _=>∃c:Int,vs=[.int c]/\∀H',Same H H'->Q (.bl true) H'
def Aa2 (hb: -10<=b)(hb2:b<=146097)(he:0<=e)(he2:e<=146097):Win (.s (.ev st fi)) b e:=⟨⟨dkd,dkl,dkl,dkl,dkl⟩,.inr (.inl ⟨_,rfl⟩)⟩
def Apg (hb: -10<=b)(hb2:b<=146097)(he:0<=e)(he2:e<=146097):Win (.s r) b e:=⟨⟨dkd,dkl,dkl,dkl,dkl⟩,.inr (.inl ⟨_,rfl⟩)⟩
def Air {st fi:Int}(ok:DF.Ok (.ev st fi)){n:Nat}(hn:(n:Int)=(146097-fi-1)/st+1):Abf fi st n=(days (ft (.s (.ev st fi))) 0 146097).map V.int:=by
 rw[DV.ox ok hn,At3]
 rfl
def z5 {ds:List Int}{k:Nat}{d:Int}(h:ds[k]?=some d):atI (ds.map V.int) (k:Int)=some (.int d):=Ow (by rw[Are,h];rfl)
def Ahg (nx:H1 x=none)(ndx:H1 dx=none)(hp:H1 p=some u):(upd (upd H1 dx (.own x)) x (.ins C dx [])) p=some u:=by
 rw[An (Ap hp nx),An (Ap hp ndx)]
 exact hp
def Aqi (h:SqL K H c xs)(hp:H pt=some (.tbl tb))(s:F5 pt H H'):SqL K H' c xs:=by
 rcases h with(h|⟨o,h⟩)|h
 · exact .inl (.inl (s _ _ (λz=>by rw[z,hp] at h;cases h) h))
 · exact .inl (.inr ⟨o,s _ _ (λz=>by rw[z,hp] at h;cases h) h⟩)
 · exact .inr h
def zh (K:W.Frag)(pt:Addr):Sp:=λvs H Q _=>∃(a:Addr)(ns:List Int),vs=[.ref a]/\SqL K H a (ns.map V.int)/\ns.length<=63/\H pt=some (.tbl #[])/\∀H',Q (.bl true) H'
def Agn (s:Same H H1)(h:H D=none):Same H (upd H1 D u):=λq v e=>by rw[An (Ap e h)];exact s _ _ e
def Acf (h:e-b<=125)(h2:b<=e):DJ.Nar b e:=by
 unfold DJ.Nar
 (repeat' split)<;>lia
def Ahr (h:e-b<=125)(h2:b<=e)(h3: -100000<b)(h4:b<200000):Win r b e:=⟨⟨dkd,dkl,dkl,dkl,dkl⟩,.inl (Acf h h2)⟩
end K15
abbrev K15.Fk (P w)(_:K15.Wg K mg base a):=L2.FnOk P w K mg base L2.CX0 true
namespace K15
open PySem L2
open DF (Rl fl Cb K5 isD byM Ok Fi)
open DJ (Rt ft dep Okt Tz se Dy)
open DR (days)
section
variable {P:Program}{w:World}{K:W.Frag}{mg:Str->Option Value}{base:Heap}{a:Adr}(T:Wg K mg base a)
def M3:Fk P w T 1 a.fg a.dv ["number"] (Ae6):=by
 refine T.N5.gq ["number"] λcdv A outer s H vs Q E hr h=>?_
 obtain⟨d,rfl,k⟩:=h
 refine⟨_,(Af (Aj (ot ie Lq Ab (qv 0) (B2 rfl T.Nj)))),?_⟩
 replace k:Q (.bl (decide (0<=d/\d<146097))) H:=k
 refine⟨λe=>?_,λe=>?_⟩
 ·
  have e':0<=d:=Aqu e
  rw[show decide (0<=d/\d<146097)=decide (d<146097) from Asi.mpr ⟨λz=>z.2,λz=>⟨e',z⟩⟩] at k
  exact k
 ·
  rw[Aqz (λz=>e (Aqs z.1))] at k
  exact k
def oe:Fk P w T 1 a.Xq a.X0 ["year"] (n6):=by
 refine T.jk.gq ["year"] λcdv A outer s H vs Q E hr h=>?_
 obtain⟨y,rfl,k⟩:=h
 refine⟨_,(Af (Aj (Ac8 (A6 Bg (Ag Av (qv 0) Ab) Ab (Al _)) (Dc (Dk (A6 Bg (Ag Av (qv 0) Ab) Ab (Al _)) (Dc (A6 pf (Ag Av (qv 0) Ab) Ab (Al _)))))))),?_⟩
 refine⟨λh1=>?_,λh1=>?_⟩
 ·
  rw[Sf] at h1
  have e:DM.leap y=true:=by rw[DM.yw];exact .inl (Aqu h1)
  rw[e] at k
  exact k
 ·
  rw[Sf] at h1
  refine⟨λh2=>?_,λh2=>?_⟩
  ·
   rw[Sf] at h2
   conv=>whnf
   have e:DM.leap y= !decide (V.int (y%100)=V.int 0):=by
    unfold DM.leap
    rw[Sf,h2]
    simp at h1
    simp[h1]
   rw[e] at k
   exact k
  ·
   rw[Sf] at h2
   have e:DM.leap y=false:=by
    unfold DM.leap
    simp at h1 h2
    simp[h1,h2]
   rw[e] at k
   exact k
def Q7:Au ["year","past","leaps"] ["year"] (Ah Sy):=qsc
def pj:Fk P w T 1 a.Nl a.Ol ["year"] (Xx):=by
 refine T.Z0.go Q7 λcdv A outer s H vs Q E hr h=>?_
 obtain⟨y,rfl,k⟩:=h
 refine⟨_,(Ac (Eh 1 Q7.nd (Ag Bc (qv 0) (B2 rfl T.Ej)))
  (Ac (Eh 2 Q7.nd (Ag Aq (Ag Bc (Ag Az (Ag Aq (qv 1) Ab) Ab) (Ag Az (Ag Aq (qv 1) Ab) Ab)) (Ag Az (Ag Aq (qv 1) Ab) Ab)))
  (Af (Aj (Ag Aq (Ag Mv (qv 1) Ab) (qv 2)))))),?_⟩
 refine⟨_,_,rfl,rfl,.inr ⟨dkd,dkd⟩,?_⟩
 have e:DM.year y=(y-2000)*365+((y-2000+3)/4-(y-2000+99)/100+(y-2000+399)/400):=by unfold DM.year;lia
 rw[e] at k
 exact k
def Pa:Fk P w T 1 a.Wx a.Wo ["day"] (Aa1):=by
 refine T.Py.gq ["day"] λcdv A outer s H vs Q E hr h=>?_
 obtain⟨d,rfl,k⟩:=h
 refine⟨_,(Af (Aj (Ag Av (Ag Aq (qv 0) (B2 rfl T.Ff)) Ab))),?_⟩
 exact k
def Bw:Fk P w T 1 a.K3 a.Ky ["number","least","most"] (j4):=by
 refine T.Bu.gq ["number","least","most"] λcdv A outer s H vs Q E hr h=>?_
 obtain⟨n,l,m,rfl,h0,h1,k⟩:=h
 refine⟨_,(Af (A2 (Awt (cg (Ak Lq (qv 0) (qv 1) (Al _)) (Vd (Ak qd (qv 0) (qv 2) (Al _))))) (Af Je) Ao)),?_⟩
 refine⟨λz=>absurd (Aqu z) dkl,λ_=>?_⟩
 exact⟨λz=>absurd (Aqu z) dkl,λ_=>k⟩
def E5:Au ["days","number","low","high","middle"] ["days","number"] (Ah Qn):=qsc
def Kg:Fk P w T 1 a.Ml a.Me ["days","number"] (mi K):=by
 refine T.Jj.go E5 λcdv A outer s H vs Q E hr h=>?_
 obtain⟨p,ns,x,rfl,hS,hr1,hz,k⟩:=h
 refine⟨_,(Ac (Eh 2 E5.nd Ab)
  (Ac (Eh 3 E5.nd (qb (A7 (K:=K) rfl) T.P7 (Aa (qv 0) Ad)))
  (Ac (T6 Ash (Ak Lq (qv 2) (qv 3) (Al _)) (Ac (Eh 4 E5.nd (Ag Az (Ag Aq (qv 2) (qv 3)) Ab))
  (Af (A2 (Ak Lq (qix K (qv 0) (qv 4)) (qv 1) (Al _)) (Af (Eh 2 E5.nd (Ag Aq (qv 4) Ab))) (Af (Eh 3 E5.nd (qv 4)))))))
  (Af (Aj (qv 2)))))),?_⟩
 refine⟨p,_,rfl,.inr hS,?_⟩
 conv=>whnf
 rw[Aqv]
 refine⟨λm σ H'=>H'=H/\∃(lo hi:Nat)(y:Option V),m=hi-lo/\lo<=hi/\hi<=ns.length/\(∀(i:Nat)a,i<lo->ns[i]?=some a->a<x)/\(∀(i:Nat)a,hi<=i->ns[i]?=some a->¬a<x)/\σ=[some (.ref p),some (.int x),some (.int (lo:Int)),some (.int (hi:Int)),y],⟨_,rfl,0,ns.length,none,rfl,Ar3 _,Aq0 _,λi _ h=>absurd h (At2 _),λi a h e=>by obtain⟨z,_⟩:=Aq5.mp e;lia,rfl⟩,?_⟩
 rintro m σ H1 ⟨rfl,lo,hi,y,rfl,h1,h2,h3,h4,rfl⟩
 refine⟨λe=>?_,λe=>?_⟩
 ·
  have e':lo<hi:=by have:=Aqu e;lia
  obtain⟨a,ha⟩:=Ab2 (ns:=ns) (i:=(lo+hi)/2) dkl
  refine⟨λσ' H'=>H'=H1/\∃(lo' hi':Nat)(y:Option V),hi'-lo'<hi-lo/\lo'<=hi'/\hi'<=ns.length/\(∀(i:Nat)a,i<lo'->ns[i]?=some a->a<x)/\(∀(i:Nat)a,hi'<=i->ns[i]?=some a->¬a<x)/\σ'=[some (.ref p),some (.int x),some (.int (lo':Int)),some (.int (hi':Int)),y],?_,?_⟩
  ·
   rintro σ' H' ⟨rfl,lo',hi',y,l1,l2,l3,l4,l5,rfl⟩
   exact⟨hi'-lo',l1,rfl,lo',hi',y,rfl,l2,l3,l4,l5,rfl⟩
  have A1:atI (ns.map V.int) (((lo:Int)+(hi:Int))/2)=some (.int a):=by rw[half];exact Ow (Ae1 ha)
  have E1:((lo:Int)+(hi:Int))/2=(((lo+hi)/2:Nat):Int):=half
  have E2:((lo:Int)+(hi:Int))/2+1=(((lo+hi)/2+1:Nat):Int):=by lia
  refine⟨hS,A1,?_⟩
  refine⟨λz=>?_,λz=>?_⟩
  ·
   have z':=Aqu z
   refine⟨rfl,(lo+hi)/2+1,hi,some (.int (((lo:Int)+(hi:Int))/2)),dkl,dkl,h2,λi b hi' hb=>?_,h4,At5 (λ(z:Int)=>([some (.ref p),some (.int x),some (.int z),some (.int (hi:Int)),some (.int (((lo:Int)+(hi:Int))/2))]:St)) E2⟩
   have:=DC.xi hr1 hb ha dkl
   lia
  ·
   have z':¬a<x:=λw=>z (Aqs w)
   refine⟨rfl,lo,(lo+hi)/2,some (.int (((lo:Int)+(hi:Int))/2)),dkl,dkl,dkl,h3,λi b hi' hb=>?_,At5 (λ(z:Int)=>([some (.ref p),some (.int x),some (.int (lo:Int)),some (.int z),some (.int (((lo:Int)+(hi:Int))/2))]:St)) E1⟩
   have:=DC.xi hr1 ha hb hi'
   lia
 ·
  have e':lo=hi:=by
   have:¬(lo:Int)<(hi:Int):=λw=>e (Aqs w)
   lia
  subst e'
  rw[DC.below_at h2 h3 h4] at k
  exact k
def ja:Fk P w T 1 a.Kp a.Kz ["self","day","end"] (ki):=by
 refine T.k8.gq ["self","day","end"] λcdv A outer s H vs Q E hr h=>?_
 obtain⟨x,b,e,rfl,k⟩:=h
 refine⟨_,(Af (Aj F0)),?_⟩
 exact k
def ax:Fk P w T 1 a.Jm a.Hw ["self","day"] (dk):=by
 refine T.gw.gq ["self","day"] λcdv A outer s H vs Q E hr h=>?_
 obtain⟨x,d,rfl,k⟩:=h
 refine⟨_,(Af (Aj Yc)),?_⟩
 exact k
def Lo:Au ["self","day","end","begin","found"] ["self","day","end"] (Ah By):=qsc
def Rw:Fk P w T 1 a.Jf a.Ij ["self","day","end"] (Ru (ad a)):=by
 refine T.gf.go Lo λcdv A outer s H vs Q E hr h=>?_
 obtain⟨x,b,e,st,fi,rfl,⟨dx,hx⟩,ok,k1,k2⟩:=h
 refine⟨_,(Ac (Eh 3 Lo.nd (qb (M7 rfl) T.V2 (Aa (qv 1) (Aa (qf K (qv 0)) Ad))))
  (Ac (Eh 4 Lo.nd (Ag Aq (qv 3) (Ag M8 (Ag Bc (qf K (qv 0)) (qv 3)) (qf K (qv 0)))))
  (Af (Aj (El (Ak Lq (qv 4) (qb (Ip rfl) T.Se (Aa (qv 2) (Aa (B2 rfl T.Nj) Ad))) (Al _)) (qv 4) F0))))),?_⟩
 have ok1:=ok
 obtain⟨s1,s2,f0,f1⟩:=ok
 obtain⟨n1,n2⟩:=DN.Ah8 (b:=b) (e:=e) ok1 rfl
 refine⟨hx,T.F1,T.Ib,rfl,?_⟩
 refine⟨hx,T.F1,T.Ib,rfl,hx,T.F1,T.Oi,rfl,_,_,rfl,rfl,(by show(0:Int)<st;lia),?_⟩
 refine⟨λz=>?_,λz=>?_⟩
 ·
  obtain⟨a1,a2,a3,a4⟩:=n1 (Aqu z)
  exact k1 _ a1 a2 a3 a4
 · exact k2 (n2 λw=>z (Aqs w))
def Ka:Fk P w T 1 a.Eu a.G7 ["self","origin","stride","first"] (jx K):=by
 refine T.dj.gq ["self","origin","stride","first"] λcdv A outer s H vs Q E hr h=>?_
 obtain⟨x,c,dx,o,st,f,rfl,⟨c1,c2,c3,c4⟩,hx,k⟩:=h
 refine⟨_,(Ac (Ce (K:=K) rfl (qv 0) (qv 1))
  (Ac (Ce (K:=K) rfl (qv 0) (qv 2))
  (Af (Ce (K:=K) rfl (qv 0) (qv 3))))),?_⟩
 refine⟨hx,c1,c2,?_⟩
 refine⟨Ae,c1,c3,?_⟩
 refine⟨Ae,c1,c4,?_⟩
 exact k _ (λc u hc e=>by rw[An hc,An hc,An hc];exact e) Ae
def fz:Fk P w T 1 a.Kq a.Km ["self","test"] (X7 a.B4):=by
 refine T.mz.gq ["self","test"] λcdv A outer s H vs Q E hr h=>?_
 obtain⟨x,dx,f,rfl,hx,k⟩:=h
 refine⟨_,(Af (Ce (K:=K) rfl (qv 0) (qv 1))),?_⟩
 refine⟨hx,T.Uu,T.Z4,?_⟩
 exact k _ (λc u hc e=>by rw[An hc];exact e) Ae
theorem r8:Fk P w T 1 a.ef a.fc ["one","other"] (Ack):=by
 refine T.o6.gq ["one","other"] λcdv A outer s H vs Q E hr h=>?_
 obtain⟨p,q,xs,ys,rfl,hp,hq,lx,ly,px,py,few,k⟩:=h
 refine⟨_,(Af (Aj (El (Awt (Ob (oy (qv 0) (λ_=>rfl)) (J1 (oy (qv 1) (λ_=>rfl))))) (qb (Sn rfl) T.Rf (Aa (qty (su rfl) T.xo (Aa (Ag zl (qv 0) (qv 1)) Ad)) Ad)) (Ag zl (qv 0) (qv 1))))),?_⟩
 conv=>whnf
 have hcat:(xs.map V.int).length+(ys.map V.int).length<=sizeLine:=by
  rw[Aqv,Aqv]
  exact Aq3 (by lia:_<=4000) dkd
 refine⟨!xs.isEmpty,.inl ⟨_,Aws hp,by rw[Akv]⟩,?_⟩
 cases xs with
 |
  nil=>
  refine Cu (Cu ⟨p,q,_,_,rfl,rfl,hp,hq,hcat,λl hl=>?_⟩)
  refine k l _ ys (Ai hl) (by rw[Ae];rfl) py (λz=>?_) hl
  exact⟨λh=>.inr h,λh=>h.elim (λw=>nomatch w) id⟩
 | cons x0 xs0=>
 refine Fs ⟨!ys.isEmpty,.inl ⟨_,Aws hq,by rw[Akv]⟩,?_⟩
 cases ys with
 |
  nil=>
  refine Cu ⟨p,q,_,_,rfl,rfl,hp,hq,hcat,λl hl=>?_⟩
  refine k l _ (x0::xs0) (Ai hl) (by rw[Ae,Auw,Ark]) px (λz=>?_) hl
  exact⟨λh=>.inl h,λh=>h.elim id (λw=>nomatch w)⟩
 | cons y0 ys0=>
 refine Fs ⟨p,q,_,_,rfl,rfl,hp,hq,hcat,λl hl=>?_⟩
 have hl1:(upd H l (.lst ((x0::xs0).map V.int++(y0::ys0).map V.int))) l=some (.lst ((x0::xs0++y0::ys0).map V.int)):=by rw[Ae,Ati]
 refine⟨l,_,rfl,hl1,?_,λD qs hD hmem hnd=>?_⟩
 ·
  rw[Aqw]
  lia
 refine⟨D,qs,rfl,Ae,λD2 ms hD2 hpm hlt=>?_⟩
 refine k D2 _ ms (((Ai hl).trans (Ai hD)).trans (Ai hD2)) Ae hlt (λz=>?_) (none_of ((Ai hl).trans (Ai hD)) hD2)
 conv=>whnf
 rw[hpm.mem_iff,hmem,Ar0]
theorem Zi:Fk P w T 2 a.G0 a.Gy ["self","day"] (Yw (ad a)):=by
 refine T.cz.gq ["self","day"] λcdv A outer s H vs Q E hr h=>?_
 obtain⟨x,d,st,fi,rfl,⟨dx,hx⟩,⟨s1,s2,f0,f1⟩,k⟩:=h
 refine⟨_,(Af (Aj (Dk (qc (M3 T) hr T.Rg T.N5 T.Qg (Aa (qv 1) Ad)) (Dk (A6 Aao (qv 1) (qf K (qv 0)) (Al _)) (Dc (A6 Bg (Ag M8 (Ag Bc (qv 1) (qf K (qv 0))) (qf K (qv 0))) Ab (Al _))))))),?_⟩
 have k2:Q (.bl (isD d&&(decide (fi<=d)&&decide ((d-fi)%st=0)))) H:=k
 refine⟨d,rfl,?_⟩
 conv=>whnf
 cases e1:isD d with
 | false=>rw[e1] at k2;exact Cu k2
 | true=>
 rw[e1,Arw] at k2
 refine Fs ⟨hx,T.F1,T.Ib,rfl,?_⟩
 conv=>whnf
 cases e2:decide (fi<=d) with
 | false=>rw[e2] at k2;exact Cu k2
 | true=>
 rw[e2,Arw] at k2
 refine Fs ⟨hx,T.F1,T.Ib,rfl,hx,T.F1,T.Oi,rfl,_,_,rfl,rfl,(by show(0:Int)<st;lia),?_⟩
 conv=>whnf
 rw[Sf]
 exact k2
def K4:Fk P w T 2 a.Dt a.Dv ["self","day"] (Fg (ad a)):=by
 refine T.Vb.gq ["self","day"] λcdv A outer s H vs Q E hr h=>?_
 obtain⟨x,d,mk,fi,e,rfl,⟨dx,hx⟩,k⟩:=h
 refine⟨_,(Af (Aj (A6 Bg (Ag Av (Ag Ak5 (qf K (qv 0)) (qc (Pa T) hr T.T5 T.Py T.Tj (Aa (qv 1) Ad))) Ab) Ab (Al _)))),?_⟩
 refine⟨hx,T.Cp,T.Wj,rfl,d,rfl,_,_,rfl,rfl,Arp _ dkd,?_⟩
 conv=>whnf
 rw[Sf]
 exact k
def Yv:Fk P w T 2 a.Xe a.Yb ["day"] (Abg):=by
 refine T.Xv.gq ["day"] λcdv A outer s H vs Q E hr h=>?_
 obtain⟨d,rfl,k⟩:=h
 refine⟨_,(Af (Aj (Ag Az (Ag Aq (qv 0) (qc (Pa T) hr T.T5 T.Py T.Tj (Aa Ab Ad))) Ab))),?_⟩
 exact⟨0,rfl,k⟩
def Lx:Fk P w T 3 a.Ek a.Em ["self","day"] (Gf (ad a)):=by
 refine T.Wf.gq ["self","day"] λcdv A outer s H vs Q E hr h=>?_
 obtain⟨x,d,mk,fi,e,rfl,⟨dx,hx⟩,e0,k⟩:=h
 refine⟨_,(Af (Aj (Ag M8 (Ag Bc (qc (Yv T) hr T.gb T.Xv T.ic (Aa (qv 1) Ad)) (qc (Yv T) hr T.gb T.Xv T.ic (Aa (qf K (qv 0)) Ad))) (qf K (qv 0))))),?_⟩
 exact⟨d,rfl,hx,T.Cp,T.Ks,rfl,fi,rfl,hx,T.Cp,T.Ou,rfl,_,_,rfl,rfl,(by show(0:Int)<e;lia),k⟩
theorem Xm:Fk P w T 4 a.Gb a.F9 ["self","day"] (W2 (ad a)):=by
 refine T.Zb.gq ["self","day"] λcdv A outer s H vs Q E hr h=>?_
 obtain⟨x,d,mk,fi,e,rfl,hr0,⟨m0,m1,f0,f1,e0,e9⟩,k⟩:=h
 refine⟨_,(Ac (A2 (Awt (cg (Od (Dg (qc (M3 T) hr T.Rg T.N5 T.Qg (Aa (qv 1) Ad)))) (Vd (Ak Lq (qv 1) (qf K (qv 0)) (Al _))))) (Af (Aj Yc)) Ao)
  (Af (Aj (Dk (A6 Bg (Ba (n:=1) (D:=λC R=>(C=a.A3/\R=λx vs H Q=>(Gf (ad a)) (x::(vs++([]:List V))) H Q E0)) (qv 0) (by rintro C R ⟨rfl,rfl⟩<;>first|exact(qan T.Cp T.Ly ((Lx T).mono dkd) hr T.Nh)) (Aa (qv 1) Ad)) Ab (Al _)) (Dc (Ba (n:=1) (D:=λC R=>(C=a.A3/\R=λx vs H Q=>(Fg (ad a)) (x::(vs++([]:List V))) H Q E0)) (qv 0) (by rintro C R ⟨rfl,rfl⟩<;>first|exact(qan T.Cp T.K8 ((K4 T).mono dkd) hr T.Lu)) (Aa (qv 1) Ad))))))),?_⟩
 obtain⟨dx,hx⟩:=id hr0
 have kT:isD d=true/\fi<=d->Q (.bl (decide (((d+5)/7-(fi+5)/7)%e=0)&&decide (mk/2 ^ ((d+5)%7).toNat%2=1))) H:=λw=>by have k2:Q (.bl (if isD d=true/\fi<=d then _ else false)) H:=k;rw[if_pos w] at k2;exact k2
 have kF:¬(isD d=true/\fi<=d)->Q (.bl false) H:=λw=>by have k2:Q (.bl (if isD d=true/\fi<=d then _ else false)) H:=k;rw[if_neg w] at k2;exact k2
 clear k
 refine⟨d,rfl,?_⟩
 conv=>whnf
 cases e1:isD d with
 | false=>exact⟨λ_=>Fs (kF (λw=>by rw[e1] at w;cases w.1)),λz=>absurd rfl z⟩
 | true=>
 refine Cu ⟨hx,T.Cp,T.Ks,rfl,⟨λz=>kF (λw=>by have:=w.2;have:=Aqu z;lia),λz=>?_⟩⟩
 have hf:fi<=d:=Atz.mp λw=>z (Aqs w)
 have kk:=kT ⟨e1,hf⟩
 clear kT kF z
 refine⟨hx,rfl,⟨rfl,rfl⟩,x,d,mk,fi,e,rfl,hr0,e0,?_⟩
 conv=>whnf
 rw[Sf]
 cases e2:decide (((d+5)/7-(fi+5)/7)%e=0) with
 | false=>rw[e2] at kk;exact Cu kk
 | true=>
 rw[e2,Arw] at kk
 exact Fs ⟨hx,rfl,⟨rfl,rfl⟩,x,d,mk,fi,e,rfl,hr0,kk⟩
def K2:Au ["number","year","month","begin"] ["number"] (Ah Qk):=qsc
def Cz:Fk P w T 2 a.Mi a.Mh ["number"] (m6):=by
 refine T.Cv.go K2 λcdv A outer s H vs Q E hr h=>?_
 obtain⟨n,rfl,k⟩:=h
 refine⟨_,(Ac (Eh 1 K2.nd (Ag Aq (B2 rfl T.Ej) (Ag Az (qv 0) Ab)))
  (Ac (Eh 2 K2.nd (Ag Aq (Ag Av (qv 0) Ab) Ab))
  (Ac (Eh 3 K2.nd (Ag Aq (qc (pj T) hr T.t8 T.Z0 T.uc (Aa (qv 1) Ad)) (qix K (zx rfl T.Ld) (Ag Bc (qv 2) Ab))))
  (Ac (A2 (Awt (Ob (Ak qd (qv 2) Ab (Al _)) (J1 (Dg (qc (oe T) hr T.sk T.jk T.tm (Aa (qv 1) Ad)))))) (Af (Aj (Ag Aq (qv 3) Ab))) Ao)
  (Af (Aj (qv 3))))))),?_⟩
 refine⟨_,rfl,T.vx _,Aof n,?_⟩
 refine⟨λe1=>?_,λe1=>?_⟩
 ·
  have e1':=Aqu e1
  refine⟨_,rfl,?_⟩
  refine⟨λe2=>?_,λe2=>?_⟩
  ·
   have e:DM.mb n=DM.year (2000+n/12)+DM.ahead (n%12+1)+1:=by unfold DM.mb;rw[if_pos ⟨e1',e2⟩]
   rw[e] at k
   exact k
  ·
   have e:DM.mb n=DM.year (2000+n/12)+DM.ahead (n%12+1):=by unfold DM.mb;rw[if_neg (λz=>e2 z.2),Int.add_zero]
   rw[e] at k
   exact k
 ·
  have e:DM.mb n=DM.year (2000+n/12)+DM.ahead (n%12+1):=by unfold DM.mb;rw[if_neg (λz=>e1 (Aqs z.1)),Int.add_zero]
  rw[e] at k
  refine Cu ?_
  exact k
def Kj:Au ["number","date","begin","end","found"] ["number","date"] (Ah Qa):=qsc
def Vc:Fk P w T 3 a.Mb a.Ma ["number","date"] (k6):=by
 refine T.Qf.go Kj λcdv A outer s H vs Q E hr h=>?_
 obtain⟨n,dt,rfl,k⟩:=h
 refine⟨_,(Ac (Eh 2 Kj.nd (qc (Cz T) hr T.Di T.Cv T.De (Aa (qv 0) Ad)))
  (Ac (Eh 3 Kj.nd (qc (Cz T) hr T.Di T.Cv T.De (Aa (Ag Aq (qv 0) Ab) Ad)))
  (Ac (Eh 4 Kj.nd (El (Ak qd (qv 1) Ab (Al _)) (Ag Bc (Ag Aq (qv 2) (qv 1)) Ab) (Ag Aq (qv 3) (qv 1))))
  (Af (Aj (El (d7 ie Lq (qv 2) (qv 4) (qv 3)) (qv 4) F0)))))),?_⟩
 unfold Cb DF.inw at k
 refine⟨n,rfl,_,rfl,⟨λz=>?_,λz=>?_⟩⟩
 ·
  rw[if_pos (show dt>0 from Aqu z)] at k
  refine⟨λz=>?_,λz=>?_⟩
  ·
   have z1:=Aqu z
   refine⟨λy=>?_,λy=>?_⟩
   ·
    rw[if_pos ⟨z1,Aqu y⟩] at k
    exact k
   ·
    rw[if_neg (λw=>y (Aqs w.2))] at k
    exact k
  ·
   rw[if_neg (λw=>z (Aqs w.1))] at k
   exact Cu k
 ·
  rw[if_neg (λw:dt>0=>z (Aqs w))] at k
  refine⟨λz=>?_,λz=>?_⟩
  ·
   have z1:=Aqu z
   refine⟨λy=>?_,λy=>?_⟩
   ·
    rw[if_pos ⟨z1,Aqu y⟩] at k
    exact k
   ·
    rw[if_neg (λw=>y (Aqs w.2))] at k
    exact k
  ·
   rw[if_neg (λw=>z (Aqs w.1))] at k
   exact Cu k
def Pg:Fk P w T 4 a.Gr a.G8 ["self","number"] (J3 (ad a)):=by
 refine T.bq.gq ["self","number"] λcdv A outer s H vs Q E hr h=>?_
 obtain⟨x,n,dt,fi,e,rfl,⟨dx,hx⟩,k⟩:=h
 refine⟨_,(Af (Aj (qc (Vc T) hr T.Wz T.Qf T.Yd (Aa (qv 1) (Aa (qf K (qv 0)) Ad))))),?_⟩
 exact⟨hx,T.C6,T.Vl,rfl,n,dt,rfl,k⟩
def Iy:Au ["number","which","weekday_of","begin","end","found"] ["number","which","weekday_of"] (Ah Tv):=qsc
def qa:Fk P w T 3 a.Oa a.Oh ["number","which","weekday_of"] (pz):=by
 refine T.aa.go Iy λcdv A outer s H vs Q E hr h=>?_
 obtain⟨n,w,wd,rfl,k⟩:=h
 refine⟨_,(Ac (Eh 3 Iy.nd (qc (Cz T) hr T.Di T.Cv T.De (Aa (qv 0) Ad)))
  (Ac (Eh 4 Iy.nd (qc (Cz T) hr T.Di T.Cv T.De (Aa (Ag Aq (qv 0) Ab) Ad)))
  (Ac (A2 (Ak qd (qv 1) Ab (Al _)) (Af (Eh 5 Iy.nd (Ag Aq (Ag Aq (qv 3) (Ag Av (Ag Bc (qv 2) (qc (Pa T) hr T.T5 T.Py T.Tj (Aa (qv 3) Ad))) Ab)) (Ag Mv (Ag Bc (qv 1) Ab) Ab)))) (Af (Eh 5 Iy.nd (Ag Aq (Ag Bc (Ag Bc (qv 4) Ab) (Ag Av (Ag Bc (qc (Pa T) hr T.T5 T.Py T.Tj (Aa (Ag Bc (qv 4) Ab) Ad)) (qv 2)) Ab)) (Ag Mv (Ag Aq (qv 1) Ab) Ab)))))
  (Af (Aj (El (d7 ie Lq (qv 3) (qv 5) (qv 4)) (qv 5) F0)))))),?_⟩
 unfold K5 DF.inw at k
 refine⟨n,rfl,_,rfl,⟨λz=>?_,λz=>?_⟩⟩
 ·
  rw[if_pos (show w>0 from Aqu z)] at k
  refine⟨_,rfl,_,_,rfl,rfl,.inr ⟨dkd,dkd⟩,?_⟩
  refine⟨λz=>?_,λz=>?_⟩
  ·
   have z1:=Aqu z
   refine⟨λy=>?_,λy=>?_⟩
   ·
    rw[if_pos ⟨z1,Aqu y⟩] at k
    exact k
   ·
    rw[if_neg (λw=>y (Aqs w.2))] at k
    exact k
  ·
   rw[if_neg (λw=>z (Aqs w.1))] at k
   exact Cu k
 ·
  rw[if_neg (λy:w>0=>z (Aqs y))] at k
  refine⟨_,rfl,_,_,rfl,rfl,.inr ⟨dkd,dkd⟩,?_⟩
  refine⟨λz=>?_,λz=>?_⟩
  ·
   have z1:=Aqu z
   refine⟨λy=>?_,λy=>?_⟩
   ·
    rw[if_pos ⟨z1,Aqu y⟩] at k
    exact k
   ·
    rw[if_neg (λw=>y (Aqs w.2))] at k
    exact k
  ·
   rw[if_neg (λw=>z (Aqs w.1))] at k
   exact Cu k
def Xo:Fk P w T 4 a.Nm a.N6 ["self","number"] (Ql (ad a)):=by
 refine T.vj.gq ["self","number"] λcdv A outer s H vs Q E hr h=>?_
 obtain⟨x,n,w,wd,fi,e,rfl,⟨dx,hx⟩,k⟩:=h
 refine⟨_,(Af (Aj (qc (qa T) hr T.t7 T.aa T.vo (Aa (qv 1) (Aa (qf K (qv 0)) (Aa (qf K (qv 0)) Ad)))))),?_⟩
 exact⟨hx,T.M1,T.fq,rfl,hx,T.M1,T.Rv,rfl,n,w,wd,rfl,k⟩
def R8:Fk P w T 4 a.Io a.Iv ["self","number"] (Lr (ad a)):=by
 refine T.i3.gq ["self","number"] λcdv A outer s H vs Q E hr h=>?_
 obtain⟨x,n,mn,dt,fi,e,rfl,⟨dx,hx⟩,k⟩:=h
 refine⟨_,(Af (Aj (qc (Vc T) hr T.Wz T.Qf T.Yd (Aa (qv 1) (Aa (qf K (qv 0)) Ad))))),?_⟩
 exact⟨hx,T.Dn,T.Yf,rfl,n,dt,rfl,k⟩
def g7:Au ["day","guess"] ["day"] (Ah Zp):=qsc
def Mu:Fk P w T 3 a.Uh a.Ui ["day"] (x8):=by
 refine T.Mq.go g7 λcdv A outer s H vs Q E hr h=>?_
 obtain⟨d,rfl,k⟩:=h
 refine⟨_,(Ac (Eh 1 g7.nd (Ag xa (Ag Mv (qv 0) (B2 rfl T.X9)) (B2 rfl T.Nj)))
  (Ac (A2 (Ak qd (qc (Cz T) hr T.Di T.Cv T.De (Aa (qv 1) Ad)) (qv 0) (Al _)) (Af (Aj (Ag Bc (qv 1) Ab))) Ao)
  (Ac (A2 (Ak ie (qc (Cz T) hr T.Di T.Cv T.De (Aa (Ag Aq (qv 1) Ab) Ad)) (qv 0) (Al _)) (Af (Aj (Ag Aq (qv 1) Ab))) Ao)
  (Af (Aj (qv 1)))))),?_⟩
 refine⟨_,_,rfl,rfl,.inr ⟨dkd,dkd⟩,_,_,rfl,rfl,⟨dkd,dkd⟩,?_⟩
 refine⟨_,rfl,?_⟩
 refine⟨λe1=>?_,λe1=>?_⟩
 ·
  have e:DM.mo d=d*4800/146097-1:=by unfold DM.mo;rw[if_pos (Aqu e1)]
  rw[e] at k
  exact k
 ·
  refine⟨_,rfl,?_⟩
  refine⟨λe2=>?_,λe2=>?_⟩
  ·
   have e:DM.mo d=d*4800/146097+1:=by unfold DM.mo;rw[if_neg (λz=>e1 (Aqs z)),if_pos (Aqu e2)]
   rw[e] at k
   exact k
  ·
   have e:DM.mo d=d*4800/146097:=by unfold DM.mo;rw[if_neg (λz=>e1 (Aqs z)),if_neg (λz=>e2 (Aqs z))]
   rw[e] at k
   exact k
def M0:Au ["self","day","number"] ["self","day"] (Ah Ik):=qsc
theorem He:Fk P w T 5 a.Cm a.Fc ["self","day"] (Vs (ad a)):=by
 refine T.Yg.go M0 λcdv A outer s H vs Q E hr h=>?_
 obtain⟨x,d,r0,rfl,hm,hr0,ok,k⟩:=h
 refine⟨_,(Ac (A2 (Awt (cg (Od (Dg (qc (M3 T) hr T.Rg T.N5 T.Qg (Aa (qv 1) Ad)))) (Vd (Ak Lq (qv 1) (qf K (qv 0)) (Al _))))) (Af (Aj Yc)) Ao)
  (Ac (Eh 2 M0.nd (qc (Mu T) hr T.Pk T.Mq T.Po (Aa (qv 1) Ad)))
  (Af (Aj (Dk (A6 Ah2 (Ag M8 (Ag Bc (qv 2) (qf K (qv 0))) (qf K (qv 0))) Ab (Al _)) (Dc (A6 Ah2 (Ba (n:=1) (D:=λC R=>(C=a.Ax/\R=λx vs H Q=>(J3 (ad a)) (x::(vs++([]:List V))) H Q E0)∨(C=a.Fb/\R=λx vs H Q=>(Ql (ad a)) (x::(vs++([]:List V))) H Q E0)∨(C=a.A0/\R=λx vs H Q=>(Lr (ad a)) (x::(vs++([]:List V))) H Q E0)) (qv 0) (by rintro C R (⟨rfl,rfl⟩|⟨rfl,rfl⟩|⟨rfl,rfl⟩)<;>first|exact(qan T.C6 T.Px ((Pg T).mono dkd) hr T.Rn)|exact(qan T.M1 T.Wu ((Xo T).mono dkd) hr T.Zy)|exact(qan T.Dn T.Ro ((R8 T).mono dkd) hr T.Sg)) (Aa (qv 2) Ad)) (qv 1) (Al _)))))))),?_⟩
 cases r0 with
 |
  mo dt fi e=>
  obtain⟨d0,d1,d2,f0,f1,e0,e9⟩:=ok
  obtain⟨dx,hx⟩:=id hr0
  have kT:isD d=true/\fi<=d->Q (.bl (decide ((DM.mo d-(DM.mo fi))%e=0)&&decide (Cb (DM.mo d) dt=some d))) H:=λhw=>by have k2:Q (.bl (byM (DM.mo fi) e fi (λn=>Cb n dt) d)) H:=k;unfold byM at k2;rw[if_pos hw] at k2;exact k2
  have kF:¬(isD d=true/\fi<=d)->Q (.bl false) H:=λhw=>by have k2:Q (.bl (byM (DM.mo fi) e fi (λn=>Cb n dt) d)) H:=k;unfold byM at k2;rw[if_neg hw] at k2;exact k2
  clear k
  refine⟨d,rfl,?_⟩
  conv=>whnf
  cases e1:isD d with
  | false=>exact⟨λ_=>Fs (kF (λw=>by rw[e1] at w;cases w.1)),λz=>absurd rfl z⟩
  | true=>
  refine Cu ⟨hx,T.C6,T.Ng,rfl,⟨λz=>kF (λw=>by have:=w.2;have:=Aqu z;lia),λz=>?_⟩⟩
  have hf:fi<=d:=Atz.mp λw=>z (Aqs w)
  have kk:=kT ⟨e1,hf⟩
  clear kT kF z
  refine⟨d,rfl,hx,T.C6,T.Lk,rfl,hx,T.C6,T.Ln,rfl,_,_,rfl,rfl,(by show(0:Int)<e;lia),rfl,?_⟩
  conv=>whnf
  rw[Sf]
  cases e2:decide ((DM.mo d-(DM.mo fi))%e=0) with
  | false=>rw[e2] at kk;exact Cu kk
  | true=>
  rw[e2,Arw] at kk
  refine Fs ⟨hx,rfl,.inl ⟨rfl,rfl⟩,x,_,dt,fi,e,rfl,hr0,wy _ _,?_⟩
  conv=>whnf
  rw[Ai0]
  exact kk
 |
  nt w wd fi e=>
  obtain⟨d0,d1,d2,w0,w1,f0,f1,e0,e9⟩:=ok
  obtain⟨dx,hx⟩:=id hr0
  have kT:isD d=true/\fi<=d->Q (.bl (decide ((DM.mo d-(DM.mo fi))%e=0)&&decide (K5 (DM.mo d) w wd=some d))) H:=λhw=>by have k2:Q (.bl (byM (DM.mo fi) e fi (λn=>K5 n w wd) d)) H:=k;unfold byM at k2;rw[if_pos hw] at k2;exact k2
  have kF:¬(isD d=true/\fi<=d)->Q (.bl false) H:=λhw=>by have k2:Q (.bl (byM (DM.mo fi) e fi (λn=>K5 n w wd) d)) H:=k;unfold byM at k2;rw[if_neg hw] at k2;exact k2
  clear k
  refine⟨d,rfl,?_⟩
  conv=>whnf
  cases e1:isD d with
  | false=>exact⟨λ_=>Fs (kF (λw=>by rw[e1] at w;cases w.1)),λz=>absurd rfl z⟩
  | true=>
  refine Cu ⟨hx,T.M1,T.Vy,rfl,⟨λz=>kF (λw=>by have:=w.2;have:=Aqu z;lia),λz=>?_⟩⟩
  have hf:fi<=d:=Atz.mp λw=>z (Aqs w)
  have kk:=kT ⟨e1,hf⟩
  clear kT kF z
  refine⟨d,rfl,hx,T.M1,T.To,rfl,hx,T.M1,T.Tq,rfl,_,_,rfl,rfl,(by show(0:Int)<e;lia),rfl,?_⟩
  conv=>whnf
  rw[Sf]
  cases e2:decide ((DM.mo d-(DM.mo fi))%e=0) with
  | false=>rw[e2] at kk;exact Cu kk
  | true=>
  rw[e2,Arw] at kk
  refine Fs ⟨hx,rfl,.inr (.inl ⟨rfl,rfl⟩),x,_,w,wd,fi,e,rfl,hr0,wy _ _,?_⟩
  conv=>whnf
  rw[Ai0]
  exact kk
 |
  yr mn dt fi e=>
  obtain⟨m0,m1,d0,d1,f0,f1,e0,e9⟩:=ok
  obtain⟨dx,hx⟩:=id hr0
  have kT:isD d=true/\fi<=d->Q (.bl (decide ((DM.mo d-(DM.mo fi/12*12+mn-1))%(e*12)=0)&&decide (Cb (DM.mo d) dt=some d))) H:=λhw=>by have k2:Q (.bl (byM (DM.mo fi/12*12+mn-1) (e*12) fi (λn=>Cb n dt) d)) H:=k;unfold byM at k2;rw[if_pos hw] at k2;exact k2
  have kF:¬(isD d=true/\fi<=d)->Q (.bl false) H:=λhw=>by have k2:Q (.bl (byM (DM.mo fi/12*12+mn-1) (e*12) fi (λn=>Cb n dt) d)) H:=k;unfold byM at k2;rw[if_neg hw] at k2;exact k2
  clear k
  refine⟨d,rfl,?_⟩
  conv=>whnf
  cases e1:isD d with
  | false=>exact⟨λ_=>Fs (kF (λw=>by rw[e1] at w;cases w.1)),λz=>absurd rfl z⟩
  | true=>
  refine Cu ⟨hx,T.Dn,T.Ov,rfl,⟨λz=>kF (λw=>by have:=w.2;have:=Aqu z;lia),λz=>?_⟩⟩
  have hf:fi<=d:=Atz.mp λw=>z (Aqs w)
  have kk:=kT ⟨e1,hf⟩
  clear kT kF z
  refine⟨d,rfl,hx,T.Dn,T.M9,rfl,hx,T.Dn,T.Nc,rfl,_,_,rfl,rfl,(by show(0:Int)<(e*12);lia),rfl,?_⟩
  conv=>whnf
  rw[Sf]
  cases e2:decide ((DM.mo d-(DM.mo fi/12*12+mn-1))%(e*12)=0) with
  | false=>rw[e2] at kk;exact Cu kk
  | true=>
  rw[e2,Arw] at kk
  refine Fs ⟨hx,rfl,.inr (.inr ⟨rfl,rfl⟩),x,_,mn,dt,fi,e,rfl,hr0,wy _ _,?_⟩
  conv=>whnf
  rw[Ai0]
  exact kk
 | nv=>exact hm.elim
 | ev _ _=>exact hm.elim
 | wk _ _ _=>exact hm.elim
 | dy _=>exact hm.elim
 | wh _ _=>exact hm.elim
def Sm:Au ["self","day","end","place"] ["self","day","end"] (Ah B8):=qsc
def Si:Fk P w T 2 a.Kv a.Ko ["self","day","end"] (T2 (ad a)):=by
 refine T.lu.go Sm λcdv A outer s H vs Q E hr h=>?_
 obtain⟨x,b,e,ds,rfl,⟨dx,d,ms,hx,hd,hri,hlen,hmem⟩,k1,k2⟩:=h
 refine⟨_,(Ac (Eh 3 Sm.nd (qc (Kg T) hr T.L4 T.Jj T.L9 (Aa (qf K (qv 0)) (Aa (qv 1) Ad))))
  (Ac (A2 (Awt (cg (Ak Bg (qv 3) (qb (A7 (K:=K) rfl) T.P7 (Aa (qf K (qv 0)) Ad)) (Al _)) (Vd (Ak Aao (qix K (qf K (qv 0)) (qv 3)) (qv 2) (Al _))))) (Af (Aj F0)) Ao)
  (Af (Aj (qix K (qf K (qv 0)) (qv 3)))))),?_⟩
 have hS:SqT K H d (ms.map V.int):=Awq hd
 refine⟨hx,T.Qc,T.Mx,rfl,d,ms,b,rfl,hS,hri,hlen,?_⟩
 conv=>whnf
 have hle:=DC.d6 ms b
 generalize hn:DC.below ms b=n at*
 have before:∀k∈ms,k<b∨∃i,n<=i/\ms[i]?=some k:=λk hk=>by
  obtain⟨i,hi⟩:=Ar5 hk
  by_cases hin:i<n
  · rw[←hn] at hin;exact .inl ((DC.Et hri hi).mp hin)
  · exact .inr ⟨i,dkl,hi⟩
 refine⟨hx,T.Qc,T.Mx,rfl,d,_,rfl,.inr hS,?_⟩
 conv=>whnf
 rw[Aqv]
 refine⟨λz=>Fs ?_,λz=>?_⟩
 ·
  have z':(n:Int)=(ms.length:Int):=V.int.inj (Aqu z)
  refine k2 λk h1 h2=>?_
  refine λhk=>?_
  rcases before k ((hmem k).mpr hk) with w|⟨i,w1,w2⟩
  · lia
  ·
   obtain⟨w3,_⟩:=Aq5.mp w2
   lia
 have hlt:n<ms.length:=by
  have:¬(n:Int)=(ms.length:Int):=λw=>z (Aqs (by rw[w]))
  lia
 obtain⟨v,hv⟩:=Ab2 (ns:=ms) (i:=n) hlt
 have hA:atI (ms.map V.int) (n:Int)=some (.int v):=Ow (Ae1 hv)
 have hvb:b<=v:=Atz.mp λw=>by have:=(DC.Et hri hv).mpr w;lia
 have first:∀k,b<=k->k<v->k∉ds:=λk h1 h2=>by
  refine λhk=>?_
  rcases before k ((hmem k).mpr hk) with w|⟨i,w1,w2⟩
  · lia
  ·
   have:=DC.xi hri hv w2 w1
   lia
 refine⟨hx,T.Qc,T.Mx,rfl,hS,hA,?_⟩
 refine⟨λz=>?_,λz=>?_⟩
 ·
  have z':e<=v:=Aqu z
  exact k2 λk h1 h2=>first k h1 dkl
 ·
  have z':¬e<=v:=λw=>z (Aqs w)
  exact⟨hx,T.Qc,T.Mx,rfl,hS,hA,k1 v hvb dkl ((hmem v).mp (Asf hv)) first⟩
def cj:Fk P w T 3 a.Iz a.Hy ["self","day"] (ck (ad a)):=by
 refine T.kj.gq ["self","day"] λcdv A outer s H vs Q E hr h=>?_
 obtain⟨x,d,ds,rfl,hr0,k⟩:=h
 refine⟨_,(Af (Aj (A6 wt (Ba (n:=2) (D:=λC R=>(C=a.Fe/\R=λx vs H Q=>(T2 (ad a)) (x::(vs++([]:List V))) H Q E0)) (qv 0) (by rintro C R ⟨rfl,rfl⟩<;>first|exact(qan T.Qc T.Tb ((Si T).mono dkd) hr T.Vi)) (Aa (qv 1) (Aa (Ag Aq (qv 1) Ab) Ad))) F0 (Al _)))),?_⟩
 obtain⟨dx,d0,ms,hx,_⟩:=id hr0
 have k2:Q (.bl (decide (d∈ds))) H:=k
 refine⟨hx,rfl,⟨rfl,rfl⟩,x,d,_,ds,rfl,hr0,λz z1 z2 z3 _=>?_,λhn=>?_⟩
 ·
  rw[Aqs (show d∈ds by rw[show d=z by lia];exact z3)] at k2
  conv=>whnf
  rw[Aqz (λw=>nomatch w)]
  exact k2
 ·
  rw[Aqz (hn d dkl dkl)] at k2
  exact k2
def Pe:Au ["self","day","test"] ["self","day"] (Ah Ll):=qsc
theorem Pw:Fk P w T 2 a.G2 a.Gv ["self","day"] (Pn (ad a)):=by
 refine T.cu.go Pe λcdv A outer s H vs Q E hr h=>?_
 obtain⟨x,d,m,r,rfl,⟨dx,f,t,hx,⟨cl,cd,L⟩,ht⟩,m1,b0,b1,k⟩:=h
 refine⟨_,(Ac (Eh 2 Pe.nd (qf K (qv 0)))
  (Af (Aj (Dk (qc (M3 T) hr T.Rg T.N5 T.Qg (Aa (qv 1) Ad)) (Dc (qty Aah T.Z5 (Aa (Afn vn rm hr (λ_ _ _ _ _ _ _=>(A6 Bg (Ag M8 (Ag Mv (qv 0) (qv 0)) (qix K (qv 1) Ab)) (qix K (qv 1) Ab) (Al _))) (qv 2) (Aa (qv 1) Ad)) Ad))))))),?_⟩
 have k2:Q (.bl (isD d&&decide (d*d%m=r))) H:=k
 refine⟨hx,T.Uu,T.Z4,rfl,?_⟩
 refine⟨d,rfl,?_⟩
 conv=>whnf
 cases e1:isD d with
 | false=>rw[e1] at k2;exact Cu k2
 | true=>
 rw[e1,Arw] at k2
 refine Fs ⟨f,_,cl,cd,rfl,L,_,rfl,L,?_⟩
 conv=>whnf
 have ht2:V1 cl H t=some (.tup [.str "where",.int m,.int r]):=by
  rw[Tn (λw=>?_)]
  · exact ht
  ·
   obtain⟨q,hq,e⟩:=Arz.mp w
   obtain⟨z,hz⟩:=L.all q hq
   rw[e,ht] at hz
   cases hz
 refine⟨_,_,rfl,rfl,.inl ⟨dkl,dkl⟩,Awq ht2,rfl,_,_,rfl,rfl,(by show(0:Int)<m;lia),Awq ht2,rfl,rfl,.inr ⟨_,rfl,?_⟩⟩
 conv=>whnf
 rw[Sf]
 exact k2
def Ya (P:Program)(w:World)(K:W.Frag)(mg:Str->Option Value)(base:Heap)(a:Adr)(n:Nat):Prop:=
 FnOk P w K mg base CX0 true (20+n) a.Ef a.D6 ["self","day"] (spF (jd a) n 8)/\
 FnOk P w K mg base CX0 true (20+n) a.Fl a.Fu ["self","day"] (spF (jd a) n 9)/\
 FnOk P w K mg base CX0 true (20+n) a.Gp a.Gj ["self","day"] (spF (jd a) n 10)/\
 FnOk P w K mg base CX0 true (20+n) a.D4 a.D7 ["self","day"] (spF (jd a) n 11)/\
 FnOk P w K mg base CX0 true (20+n) a.Dj a.Df ["self","day"] (spF (jd a) n 12)/\
 FnOk P w K mg base CX0 true (20+n) a.Dm a.Dp ["self","day"] (spF (jd a) n 13)
theorem Abp (T:Wg K mg base a)(IH:Ya P w K mg base a n)(e1:X.prog=P)(e2:X.w=w)(e3:X.K=K)(e4:X.mg=mg)(e5:X.base=base)(hr:Room true kk X.A)(hk:20+n<=kk):∀C R,dF a n C R->Ans X "falls_on" 1 C R:=by
 subst e1 e2 e3 e4 e5
 obtain⟨i8,i9,i10,i11,i12,i13⟩:=IH
 rintro C R ⟨i,hi,rfl,rfl⟩
 match i,hi with
 |
  0,_=>
  refine(qan T.xg T.c7 (((ax T).imp λvs H Q E h=>?_).mono (Aq3 dkl hk)) hr T.kc)
  obtain⟨x,d,t,rfl,hk,hn,hr,ok,hd,k⟩:=h
  obtain rfl:=kd0 hk
  exact⟨x,d,rfl,k⟩
 |
  1,_=>
  refine(qan T.F1 T.Yy (((Zi T).imp λvs H Q E h=>?_).mono (Aq3 dkl hk)) hr T.cq)
  obtain⟨x,d,t,rfl,hk,hn,hr,ok,hd,k⟩:=h
  obtain⟨q1,q2,rfl⟩:=kdJ hk
  exact⟨x,d,_,_,rfl,hr,ok,k⟩
 |
  2,_=>
  refine(qan T.Cp T.Xu (((Xm T).imp λvs H Q E h=>?_).mono (Aq3 dkl hk)) hr T.Yk)
  obtain⟨x,d,t,rfl,hk,hn,hr,ok,hd,k⟩:=h
  obtain⟨q1,q2,q3,rfl⟩:=kdJ hk
  exact⟨x,d,_,_,_,rfl,hr,ok,k⟩
 |
  3,_=>
  refine(qan T.C6 T.Vx (((He T).imp λvs H Q E h=>?_).mono (Aq3 dkl hk)) hr T.Jb)
  obtain⟨x,d,t,rfl,hk,hn,hr,ok,hd,k⟩:=h
  obtain⟨q1,q2,q3,rfl⟩:=kdJ hk
  exact⟨x,d,.mo q1 q2 q3,rfl,trivial,hr,ok,k⟩
 |
  4,_=>
  refine(qan T.M1 T.fu (((He T).imp λvs H Q E h=>?_).mono (Aq3 dkl hk)) hr T.Jb)
  obtain⟨x,d,t,rfl,hk,hn,hr,ok,hd,k⟩:=h
  obtain⟨q1,q2,q3,q4,rfl⟩:=kdJ hk
  exact⟨x,d,.nt q1 q2 q3 q4,rfl,trivial,hr,ok,k⟩
 |
  5,_=>
  refine(qan T.Dn T.W7 (((He T).imp λvs H Q E h=>?_).mono (Aq3 dkl hk)) hr T.Jb)
  obtain⟨x,d,t,rfl,hk,hn,hr,ok,hd,k⟩:=h
  obtain⟨q1,q2,q3,q4,rfl⟩:=kdJ hk
  exact⟨x,d,.yr q1 q2 q3 q4,rfl,trivial,hr,ok,k⟩
 |
  6,_=>
  refine(qan T.Qc T.c8 (((cj T).imp λvs H Q E h=>?_).mono (Aq3 dkl hk)) hr T.ib)
  obtain⟨x,d,t,rfl,hk,hn,hr,ok,hd,k⟩:=h
  obtain⟨q1,rfl⟩:=kdJ hk
  exact⟨x,d,_,rfl,hr,k⟩
 |
  7,_=>
  refine(qan T.Uu T.P8 (((Pw T).imp λvs H Q E h=>?_).mono (Aq3 dkl hk)) hr T.Rp)
  obtain⟨x,d,t,rfl,hk,hn,hr,ok,hd,k⟩:=h
  obtain⟨q1,q2,rfl⟩:=kdJ hk
  exact⟨x,d,_,_,rfl,hr,ok,by have:=hd.1;lia,by have:=hd.2;lia,k⟩
 | 8,_=>exact(qan T.K7 T.W6 ((i8).mono hk) hr T.Zf)
 | 9,_=>exact(qan T.Ti T.a9 ((i9).mono hk) hr T.i4)
 | 10,_=>exact(qan T.au T.jq ((i10).mono hk) hr T.ko)
 | 11,_=>exact(qan T.Fj T.W4 ((i11).mono hk) hr T.Yq)
 | 12,_=>exact(qan T.E6 T.Wb ((i12).mono hk) hr T.Xz)
 | 13,_=>exact(qan T.Ar T.V4 ((i13).mono hk) hr T.W3)
theorem X6 (T:Wg K mg base a)(n:Nat)(IH:Ya P w K mg base a n):FnOk P w K mg base CX0 true (20+n+1) a.Ef a.D6 ["self","day"] (spF (jd a) (n+1) 8):=by
 refine T.Yh.gq ["self","day"] λcdv A outer s H vs Q E hr h=>?_
 obtain⟨x,d,t,rfl,hk,hn,hr0,ok,bd,k⟩:=h
 refine⟨_,(Af (Aj (Ac8 (Ba (n:=1) (D:=dF a n) (qf K (qv 0)) (Abp T IH rfl rfl rfl rfl rfl hr dkl) (Aa (qv 1) Ad)) (Dc (Ba (n:=1) (D:=dF a n) (qf K (qv 0)) (Abp T IH rfl rfl rfl rfl rfl hr dkl) (Aa (qv 1) Ad)))))),?_⟩
 obtain⟨p,q,rfl⟩:=kdJ hk
 obtain⟨dx,y,z,hx,h1,h2⟩:=RtAt.isEi.mp hr0
 have n1:dep p<=n/\dep q<=n:=by have:max (dep p) (dep q)+1<=n+1:=hn;lia
 obtain⟨C1,dx1,fs1,R1,ea1,eb1,ec1,ed1⟩:=Gu (a:=a) h1 (n:=n) n1.1 ok.1 bd
 obtain⟨C2,dx2,fs2,R2,ea2,eb2,ec2,ed2⟩:=Gu (a:=a) h2 (n:=n) n1.2 ok.2 bd
 refine⟨hx,T.K7,T.T3,rfl,ea1,eb1,ec1,ed1 _ ?_⟩
 have k0:Q (.bl (ft p d||ft q d)) H:=k
 conv=>whnf
 cases e:ft p d with
 | true=>rw[e] at k0;exact Fs k0
 |
  false=>
  rw[e] at k0
  exact Cu ⟨hx,T.K7,T.O7,rfl,ea2,eb2,ec2,ed2 _ k0⟩
def dc:Fk P w T 1 a.Jq a.Jo ["self","one","other"] (V6 a.Bq):=by
 refine T.gc.gq ["self","one","other"] λcdv A outer s H vs Q E hr h=>?_
 obtain⟨x,dx,y,z,rfl,hx,k⟩:=h
 refine⟨_,(Ac (Ce (K:=K) rfl (qv 0) (qv 1))
  (Af (Ce (K:=K) rfl (qv 0) (qv 2)))),?_⟩
 refine⟨hx,T.K7,T.T3,?_⟩
 refine⟨Ae,T.K7,T.O7,?_⟩
 exact k _ (λc u hc e=>by rw[An hc,An hc];exact e) Ae
theorem cw (T:Wg K mg base a)(n:Nat)(IH:Ya P w K mg base a n):FnOk P w K mg base CX0 true (20+n+1) a.Fl a.Fu ["self","day"] (spF (jd a) (n+1) 9):=by
 refine T.f7.gq ["self","day"] λcdv A outer s H vs Q E hr h=>?_
 obtain⟨x,d,t,rfl,hk,hn,hr0,ok,bd,k⟩:=h
 refine⟨_,(Af (Aj (Dk (Ba (n:=1) (D:=dF a n) (qf K (qv 0)) (Abp T IH rfl rfl rfl rfl rfl hr dkl) (Aa (qv 1) Ad)) (Dc (Ba (n:=1) (D:=dF a n) (qf K (qv 0)) (Abp T IH rfl rfl rfl rfl rfl hr dkl) (Aa (qv 1) Ad)))))),?_⟩
 obtain⟨p,q,rfl⟩:=kdJ hk
 obtain⟨dx,y,z,hx,h1,h2⟩:=RtAt.isBo.mp hr0
 have n1:dep p<=n/\dep q<=n:=by have:max (dep p) (dep q)+1<=n+1:=hn;lia
 obtain⟨C1,dx1,fs1,R1,ea1,eb1,ec1,ed1⟩:=Gu (a:=a) h1 (n:=n) n1.1 ok.1 bd
 obtain⟨C2,dx2,fs2,R2,ea2,eb2,ec2,ed2⟩:=Gu (a:=a) h2 (n:=n) n1.2 ok.2 bd
 refine⟨hx,T.Ti,T.Yr,rfl,ea1,eb1,ec1,ed1 _ ?_⟩
 have k0:Q (.bl (ft p d&&ft q d)) H:=k
 conv=>whnf
 cases e:ft p d with
 | false=>rw[e] at k0;exact Cu k0
 |
  true=>
  rw[e] at k0
  exact Fs ⟨hx,T.Ti,T.Sx,rfl,ea2,eb2,ec2,ed2 _ k0⟩
def qk:Fk P w T 2 a.Og a.Ny ["number"] (rf):=by
 refine T.Zv.gq ["number"] λcdv A outer s H vs Q E hr h=>?_
 obtain⟨n,rfl,k⟩:=h
 refine⟨_,(Af (Aj (Ag Bc (Ag Mv (qv 0) Ab) (qc (Pa T) hr T.T5 T.Py T.Tj (Aa Ab Ad))))),?_⟩
 exact⟨_,_,rfl,rfl,.inr ⟨dkd,dkd⟩,0,rfl,k⟩
def C4:Au ["self","day","end","found","stop","over"] ["self","day","end"] (Ah Bn):=qsc
def Yx:Fk P w T 4 a.G6 a.G4 ["self","day","end"] (Ym (ad a)):=by
 refine T.bp.go C4 λcdv A outer s H vs Q E hr h=>?_
 obtain⟨x,b,e,mk,fi,ev,rfl,hr0,ok,k1,k2⟩:=h
 refine⟨_,(Nb (Eh 3 C4.nd (qb (M7 rfl) T.V2 (Aa (qv 1) (Aa (qf K (qv 0)) Ad))))
  (Nb (Eh 4 C4.nd (qb (Ip rfl) T.Se (Aa (qv 2) (Aa (B2 rfl T.Nj) Ad))))
  (Ac (T6 Ash (Ak Lq (qv 3) (qv 4) (Al _)) (Ac (Eh 5 C4.nd (Ba (n:=1) (D:=λC R=>(C=a.A3/\R=λx vs H Q=>(Gf (ad a)) (x::(vs++([]:List V))) H Q E0)) (qv 0) (by rintro C R ⟨rfl,rfl⟩<;>first|exact(qan T.Cp T.Ly ((Lx T).mono dkd) hr T.Nh)) (Aa (qv 3) Ad)))
  (Af (A2 (Ak qd (qv 5) Ab (Al _)) (Af (Eh 3 C4.nd (qc (qk T) hr T.tu T.Zv T.rq (Aa (Ag Bc (Ag Aq (qc (Yv T) hr T.gb T.Xv T.ic (Aa (qv 3) Ad)) (qf K (qv 0))) (qv 5)) Ad)))) (Af (A2 (Dg (Ba (n:=1) (D:=λC R=>(C=a.A3/\R=λx vs H Q=>(Fg (ad a)) (x::(vs++([]:List V))) H Q E0)) (qv 0) (by rintro C R ⟨rfl,rfl⟩<;>first|exact(qan T.Cp T.K8 ((K4 T).mono dkd) hr T.Lu)) (Aa (qv 3) Ad))) (Af (Aj (qv 3))) (Af (vc (i:=3) C4.nd rfl (Or.inl rfl) Ab zg))))))))
  (Af (Aj F0))))),?_⟩
 obtain⟨dx,hx⟩:=id hr0
 have ok1:=ok
 obtain⟨m0,m1,f0,f1,e0,e1⟩:=ok
 refine⟨λσ' H'=>H=H'/\∃f:Int,b<=f/\fi<=f/\DN.No (.wk mk fi ev) b f/\σ'=[some (.ref x),some (.int b),some (.int e),some (.int f),none,none],?_,?_⟩
 ·
  refine⟨hx,T.Cp,T.Ks,rfl,rfl,(if fi>b then fi else b),?_,?_,λk h1 h2=>?_,rfl⟩
  · split<;>lia
  · split<;>lia
  ·
   refine DF.Aes (r:=.wk mk fi ev) ?_
   conv=>whnf
   show k<fi
   split at h2<;>lia
 rintro σ _ ⟨rfl,f,bf,ff,hno,rfl⟩
 refine⟨λσ' H'=>H=H'/\∃s:Int,s=(if 146097<e then 146097 else e)/\σ'=[some (.ref x),some (.int b),some (.int e),some (.int f),some (.int s),none],⟨rfl,_,rfl,rfl⟩,?_⟩
 rintro σ _ ⟨rfl,s,hs,rfl⟩
 have hs1:s<=146097/\s<=e:=by rw[hs];split<;>lia
 refine⟨λm σ H'=>H=H'/\∃(f:Int)(y:Option V),m=(s-f).toNat/\b<=f/\fi<=f/\DN.No (.wk mk fi ev) b f/\σ=[some (.ref x),some (.int b),some (.int e),some (.int f),some (.int s),y],⟨_,rfl,f,_,rfl,bf,ff,hno,rfl⟩,?_⟩
 rintro m σ _ ⟨rfl,f,y,rfl,bf,ff,hno,rfl⟩
 refine⟨λz=>?_,λz=>?_⟩
 ·
  have hfs:f<s:=Aqu z
  refine⟨λσ' H'=>∃m',m'<(s-f).toNat/\H=H'/\∃(f:Int)(y:Option V),m'=(s-f).toNat/\b<=f/\fi<=f/\DN.No (.wk mk fi ev) b f/\σ'=[some (.ref x),some (.int b),some (.int e),some (.int f),some (.int s),y],λσ' H' h=>h,?_⟩
  refine⟨hx,rfl,⟨rfl,rfl⟩,x,f,mk,fi,ev,rfl,hr0,e0,?_⟩
  refine⟨λz=>?_,λz=>?_⟩
  ·
   have ho:=Aqu z
   obtain⟨w1,w2⟩:=DN.Aia (mk:=mk) (fi:=fi) (f:=f) e0 rfl ho
   refine⟨f,rfl,hx,T.Cp,T.Ou,rfl,_,rfl,?_⟩
   refine⟨_,?_,rfl,_,_,rfl,?_,?_,λk h1 h2=>?_,rfl⟩
   · lia
   · lia
   · lia
   ·
    by_cases hk:k<f
    · exact hno k h1 hk
    · exact w2 k dkl h2
  ·
   have hz:((f+5)/7-(fi+5)/7)%ev=0:=by
    have:=Arp ((f+5)/7-(fi+5)/7) (by lia:ev≠0)
    have:¬0<((f+5)/7-(fi+5)/7)%ev:=λw=>z (Aqs w)
    lia
   have hat:=DN.Ani (mk:=mk) (e:=ev) (f:=f) dkl dkl ff
   rw[Aqs hz,Arw] at hat
   refine⟨hx,rfl,⟨rfl,rfl⟩,x,f,mk,fi,ev,rfl,hr0,⟨λz=>?_,λz=>?_⟩⟩
   · exact k1 f bf dkl (hat.trans z) hno
   ·
    have hff:fl (.wk mk fi ev) f=false:=by
     rw[hat]
     exact Bool.eq_false_iff.mpr z
    exact⟨_,rfl,_,_,rfl,rfl,(s-(f+1)).toNat,dkl,rfl,f+1,_,rfl,dkl,dkl,hno.step hff,rfl⟩
 ·
  have hfs:¬f<s:=λw=>z (Aqs w)
  refine k2 (hno.stop ok1 ?_)
  conv=>whnf
  rw[hs] at hfs
  split at hfs<;>lia
def Bz:Au ["self","day","end","begin","stop","number","found"] ["self","day","end"] (Ah Bj):=qsc
def Ig:Fk P w T 5 a.C7 a.F7 ["self","day","end"] (Xk (ad a)):=by
 refine T.Yo.go Bz λcdv A outer s H vs Q E hr h=>?_
 obtain⟨x,b,e,r,rfl,hm,hr0,ok,k1,k2⟩:=h
 refine⟨_,(Nb (Eh 3 Bz.nd (qb (M7 rfl) T.V2 (Aa (qv 1) (Aa (qf K (qv 0)) Ad))))
  (Nb (Eh 4 Bz.nd (qb (Ip rfl) T.Se (Aa (qv 2) (Aa (B2 rfl T.Nj) Ad))))
  (Ac (A2 (Ak Aao (qv 3) (qv 4) (Al _)) (Af (Aj F0)) Ao)
  (Ac (Eh 5 Bz.nd (qc (Mu T) hr T.Pk T.Mq T.Po (Aa (qv 3) Ad)))
  (Nb (vc (i:=5) Bz.nd rfl (Or.inl rfl) (Ag M8 (Ag Bc (qf K (qv 0)) (qv 5)) (qf K (qv 0))) zg)
  (Ac (T6 Ash (Ak Lq (qc (Cz T) hr T.Di T.Cv T.De (Aa (qv 5) Ad)) (qv 4) (Al _)) (Ac (Eh 6 Bz.nd (Ba (n:=1) (D:=Ahb a) (qv 0) (by rintro C R (⟨rfl,rfl⟩|⟨rfl,rfl⟩|⟨rfl,rfl⟩)<;>first|exact(qan T.C6 T.Px ((Pg T).mono dkd) hr T.Rn)|exact(qan T.M1 T.Wu ((Xo T).mono dkd) hr T.Zy)|exact(qan T.Dn T.Ro ((R8 T).mono dkd) hr T.Sg)) (Aa (qv 5) Ad)))
  (Ac (A2 (Awt (Ob (Ak wt (qv 6) F0 (Al _)) (J1 (d7 ie Lq (qv 3) (qv 6) (qv 4))))) (Af (Aj (qv 6))) Ao)
  (Af (vc (i:=5) Bz.nd rfl (Or.inl rfl) (qf K (qv 0)) zg)))))
  (Af (Aj F0)))))))),?_⟩
 obtain⟨C,dx,fs,hx,hC,hfi,hor,hst,hno,R2,hD,hR⟩:=Abz T hm hr0
 obtain⟨st1,f0⟩:=DN.Aiq hm ok
 refine⟨λσ' H'=>H=H'/\∃B:Int,B=(if DN.fiM r>b then DN.fiM r else b)/\σ'=[some (.ref x),some (.int b),some (.int e),some (.int B),none,none,none],⟨hx,hC,hfi.1,hfi.2,rfl,_,rfl,rfl⟩,?_⟩
 rintro σ _ ⟨rfl,B,hB,rfl⟩
 refine⟨λσ' H'=>H=H'/\∃s:Int,s=(if 146097<e then 146097 else e)/\σ'=[some (.ref x),some (.int b),some (.int e),some (.int B),some (.int s),none,none],⟨rfl,_,rfl,rfl⟩,?_⟩
 rintro σ _ ⟨rfl,s,hs,rfl⟩
 have hs1:s<=146097/\s<=e:=by rw[hs];split<;>lia
 have hB1:b<=B/\DN.fiM r<=B:=by rw[hB];split<;>lia
 refine⟨λz=>?_,λz=>?_⟩
 · exact k2 (DN.none_of hm ok hB hs (Aqu z))
 have hlt:B<s:=Int.not_le.mp λw=>z (Aqs w)
 obtain⟨q1,q2,q3⟩:=DN.Abl (s:=s) hs1.1 hm st1 f0 hB dkl
 refine⟨B,rfl,?_⟩
 refine⟨λσ' H'=>H=H'/\∃n:Int,n=DM.mo B+(DN.orM r-DM.mo B)%DN.stM r/\σ'=[some (.ref x),some (.int b),some (.int e),some (.int B),some (.int s),some (.int n),none],?_,?_⟩
 · exact⟨_,rfl,hx,hC,hor.1,hor.2,hx,hC,hst.1,hst.2,_,_,rfl,rfl,(by show(0:Int)<DN.stM r;lia),_,_,rfl,rfl,rfl,_,rfl,rfl⟩
 rintro σ _ ⟨rfl,n0,hn0,rfl⟩
 rw[←hn0] at q1 q2 q3
 refine⟨λm σ H'=>H=H'/\∃(n:Int)(y:Option V),m=(s-DM.mb n).toNat/\DN.Afa r b s n/\(n-DN.orM r)%DN.stM r=0/\σ=[some (.ref x),some (.int b),some (.int e),some (.int B),some (.int s),some (.int n),y],⟨_,rfl,n0,_,rfl,q1,q3,rfl⟩,?_⟩
 rintro m σ _ ⟨rfl,n,y,rfl,hg,hn,rfl⟩
 refine⟨n,rfl,⟨λz=>?_,λz=>?_⟩⟩
 ·
  have hms:DM.mb n<s:=Aqu z
  refine⟨λσ' H'=>∃m',m'<(s-DM.mb n).toNat/\H=H'/\∃(n:Int)(y:Option V),m'=(s-DM.mb n).toNat/\DN.Afa r b s n/\(n-DN.orM r)%DN.stM r=0/\σ'=[some (.ref x),some (.int b),some (.int e),some (.int B),some (.int s),some (.int n),y],λσ' H' h=>h,?_⟩
  refine⟨hx,hno,hD,hR _ _ ?_⟩
  conv=>whnf
  cases hgn:DN.gM r n with
  |
   none=>
   refine⟨λz=>absurd z dkd,λ_=>Cu ?_⟩
   obtain⟨g1,g2⟩:=DN.ix hm st1 hg hn (λk k0 k1 k3=>DN.gone_none hm (by rw[←hB];exact(λd hd=>by rw[hgn] at hd;cases hd)) k0 k1 k3)
   have hmono:=DM.O4 (a:=n) (b:=n+DN.stM r) dkl
   exact⟨_,rfl,hx,hC,hst.1,hst.2,_,_,rfl,rfl,(s-DM.mb (n+DN.stM r)).toNat,dkl,rfl,n+DN.stM r,_,rfl,g1,g2,rfl⟩
  |
   some d=>
   obtain⟨i1,i2⟩:=DN.Aka hgn
   refine⟨λ_=>?_,λz=>absurd (by rw[Aqz (λe=>nomatch e)];rfl) z⟩
   refine⟨λz=>?_,λz=>Cu ?_⟩
   ·
    have z1:B<=d:=Aqu z
    refine⟨λy=>?_,λy=>?_⟩
    ·
     have y1:d<s:=Aqu y
     obtain⟨c1,c2⟩:=DN.Aav hm hg y1 dkl dkl dkl hn hgn ok
     exact k1 d dkl dkl c1 c2
    ·
     skip
     obtain⟨g1,g2⟩:=DN.ix hm st1 hg hn (λk k0 k1 k3=>DN.gone_none hm (by rw[←hB];exact(λq hq w=>by rw[hgn] at hq;cases hq;exact y (Aqs w.2))) k0 k1 k3)
     have hmono:=DM.O4 (a:=n) (b:=n+DN.stM r) dkl
     exact⟨_,rfl,hx,hC,hst.1,hst.2,_,_,rfl,rfl,(s-DM.mb (n+DN.stM r)).toNat,dkl,rfl,n+DN.stM r,_,rfl,g1,g2,rfl⟩
   ·
    skip
    obtain⟨g1,g2⟩:=DN.ix hm st1 hg hn (λk k0 k1 k3=>DN.gone_none hm (by rw[←hB];exact(λq hq w=>by rw[hgn] at hq;cases hq;exact z (Aqs w.1))) k0 k1 k3)
    have hmono:=DM.O4 (a:=n) (b:=n+DN.stM r) dkl
    exact⟨_,rfl,hx,hC,hst.1,hst.2,_,_,rfl,rfl,(s-DM.mb (n+DN.stM r)).toNat,dkl,rfl,n+DN.stM r,_,rfl,g1,g2,rfl⟩
 · exact k2 (DN.Acd hm ok hg (Atz.mp λw=>z (Aqs w)) hs)
def Ry:Au ["self","day","end","found"] ["self","day","end"] (Ah Bv):=qsc
def bt:Fk P w T 3 a.Jg a.Ir ["self","day","end"] (bj (ad a)):=by
 refine T.kg.go Ry λcdv A outer s H vs Q E hr h=>?_
 obtain⟨x,b,e,m,r,rfl,hr0,ok,⟨w1,w2,w3,w4⟩,k1,k2⟩:=h
 refine⟨_,(Ac (aj Ash rfl (kn rfl T.Iu (Aa (qb (M7 rfl) T.V2 (Aa (qv 1) (Aa Ab Ad))) (Aa (qb (Ip rfl) T.Se (Aa (qv 2) (Aa (B2 rfl T.Nj) Ad))) Ad))) (qnm 3 Ry.nd) (Af (A2 (Dg (Ba (n:=1) (D:=λC R=>(C=a.B4/\R=λx vs H Q=>(Pn (ad a)) (x::(vs++([]:List V))) H Q E0)) (qv 0) (by rintro C R ⟨rfl,rfl⟩<;>first|exact(qan T.Uu T.P8 ((Pw T).mono dkd) hr T.Rp)) (Aa (qv 3) Ad))) (Af (Aj (qv 3))) Ao)))
  (Af (Aj F0))),?_⟩
 obtain⟨dx,f,t,hx,hl⟩:=id hr0
 refine⟨_,_,rfl,?_,?_⟩
 · refine⟨?_,?_,?_,?_⟩<;>split<;>lia
 generalize hlo:(if 0>b then 0 else b)=lo
 have l1:0<=lo/\b<=lo:=by rw[←hlo];split<;>lia
 have l2:∀k,b<=k->k<lo->k<0:=λk h1 h2=>by rw[←hlo] at h2;split at h2<;>lia
 generalize hhi:(if 146097<e then 146097 else e)=hi
 have u1:hi<=e/\hi<=146097:=by rw[←hhi];split<;>lia
 have u2:e<=hi∨146097<=hi:=by rw[←hhi];split<;>lia
 refine Abw (λi σ H'=>H=H'/\DN.No (.wh m r) b (lo+(i:Int))/\∃y,σ=[some (.ref x),some (.int b),some (.int e),y]) ⟨rfl,(λk h1 h2=>DF.ah ok (.inl (l2 k h1 dkl))),_,rfl⟩ ?_ ?_
 ·
  rintro i σ _ hi1 ⟨rfl,hn,y,rfl⟩
  refine⟨hx,rfl,⟨rfl,rfl⟩,x,_,m,r,rfl,hr0,ok,dkl,dkl,?_⟩
  conv=>whnf
  cases hv:fl (.wh m r) (lo+(i:Int)) with
  | true=>exact Fs (k1 _ dkl dkl hv hn)
  |
   false=>
   refine Cu ⟨rfl,?_,_,rfl⟩
   have:=hn.step hv
   rwa[show lo+((i+1:Nat):Int)=lo+(i:Int)+1 by lia]
 ·
  rintro σ _ ⟨rfl,hn,y,rfl⟩
  exact k2 (hn.stop ok dkl)
theorem Aou (T:Wg K mg base a)(e1:X.prog=P)(e2:X.w=w)(e3:X.K=K)(e4:X.mg=mg)(e5:X.base=base)(hr:Room true kk X.A)(hk:8<=kk):∀C R,dS a C R->Ans X "next_in" 2 C R:=by
 subst e1 e2 e3 e4 e5
 rintro C R ⟨i,hi,rfl,rfl⟩
 match i,hi with
 |
  0,_=>
  refine(qan T.xg T.jy (((ja T).imp λvs H Q E h=>?_).mono (Aq3 dkd hk)) hr T.lq)
  obtain⟨x,b,e,r,rfl,hk,hr,ok,hw,k⟩:=h
  obtain e:=kd0 hk
  cases e
  exact⟨x,b,e,rfl,k.2 λ_ _ _=>rfl⟩
 |
  1,_=>
  refine(qan T.F1 T.Rx (((Rw T).imp λvs H Q E h=>?_).mono (Aq3 dkd hk)) hr T.Su)
  obtain⟨x,b,e,r,rfl,hk,hr,ok,hw,k⟩:=h
  obtain⟨q1,q2,e⟩:=kdJ hk
  cases e
  exact⟨x,b,e,_,_,rfl,hr,ok,k⟩
 |
  2,_=>
  refine(qan T.Cp T.Zl (((Yx T).imp λvs H Q E h=>?_).mono (Aq3 dkd hk)) hr T.cx)
  obtain⟨x,b,e,r,rfl,hk,hr,ok,hw,k⟩:=h
  obtain⟨q1,q2,q3,e⟩:=kdJ hk
  cases e
  exact⟨x,b,e,_,_,_,rfl,hr,ok,k⟩
 |
  3,_=>
  refine(qan T.C6 T.Wl (((Ig T).imp λvs H Q E h=>?_).mono (Aq3 dkd hk)) hr T.Jz)
  obtain⟨x,b,e,r,rfl,hk,hr,ok,hw,k⟩:=h
  obtain⟨q1,q2,q3,e⟩:=kdJ hk
  cases e
  exact⟨x,b,e,.mo q1 q2 q3,rfl,trivial,hr,ok,k⟩
 |
  4,_=>
  refine(qan T.M1 T.me (((Ig T).imp λvs H Q E h=>?_).mono (Aq3 dkd hk)) hr T.Jz)
  obtain⟨x,b,e,r,rfl,hk,hr,ok,hw,k⟩:=h
  obtain⟨q1,q2,q3,q4,e⟩:=kdJ hk
  cases e
  exact⟨x,b,e,.nt q1 q2 q3 q4,rfl,trivial,hr,ok,k⟩
 |
  5,_=>
  refine(qan T.Dn T.Yp (((Ig T).imp λvs H Q E h=>?_).mono (Aq3 dkd hk)) hr T.Jz)
  obtain⟨x,b,e,r,rfl,hk,hr,ok,hw,k⟩:=h
  obtain⟨q1,q2,q3,q4,e⟩:=kdJ hk
  cases e
  exact⟨x,b,e,.yr q1 q2 q3 q4,rfl,trivial,hr,ok,k⟩
 |
  6,_=>
  refine(qan T.Qc T.Tb (((Si T).imp λvs H Q E h=>?_).mono (Aq3 dkd hk)) hr T.Vi)
  obtain⟨x,b,e,r,rfl,hk,hr,ok,hw,k⟩:=h
  obtain⟨q1,e⟩:=kdJ hk
  cases e
  exact⟨x,b,e,_,rfl,hr,k.dy⟩
 |
  7,_=>
  refine(qan T.Uu T.bh (((bt T).imp λvs H Q E h=>?_).mono (Aq3 dkd hk)) hr T.gp)
  obtain⟨x,b,e,r,rfl,hk,hr,ok,hw,k⟩:=h
  obtain⟨q1,q2,e⟩:=kdJ hk
  cases e
  exact⟨x,b,e,_,_,rfl,hr,ok,hw,k⟩
def Jk:Au ["self","begin","end","found","day"] ["self","begin","end"] (Ah O6):=qsc
theorem C9:Fk P w T 10 a.Bt a.Kn ["self","begin","end"] (f6 (ad a)):=by
 refine T.lr.go Jk λcdv A outer s H vs Q E hr h=>?_
 obtain⟨x,b,e,r,rfl,hr0,ok,hw,k⟩:=h
 refine⟨_,(Ac (Eh 3 Jk.nd (Lv Ad))
  (Ac (Eh 4 Jk.nd (Ba (n:=2) (D:=dS a) (qv 0) (Aou T rfl rfl rfl rfl rfl hr dkl) (Aa (qv 1) (Aa (qv 2) Ad))))
  (Ac (T6 Ash (Ak wt (qv 4) F0 (Al _)) (Ac (Ct (Ane PySem.F.plainAttrs_list PySem.F.slot_list_append PySem.F.type_list_append gz (qv 3) (Aa (qv 4) Ad)))
  (Af (Eh 4 Jk.nd (Ba (n:=2) (D:=dS a) (qv 0) (Aou T rfl rfl rfl rfl rfl hr dkl) (Aa (Ag Aq (qv 4) Ab) (Aa (qv 2) Ad)))))))
  (Af (Aj (qv 3)))))),?_⟩
 refine λL hL=>?_
 have u1:=Ai (o:=.lst []) hL
 have hL1:(upd H L (.lst [])) L=some (.lst []):=Ae
 obtain⟨C1,dx1,fs1,R1,ea1,eb1,ec1,ed1⟩:=Ahn (a:=a) (hr0.up u1) ok hw
 refine⟨ea1,eb1,ec1,ed1 _ λo ho=>?_⟩
 refine⟨λm σ H'=>∃c o,b<=c/\(c<=e∨c=b)/\Nx r c e o/\m=msO o/\Same H H'/\H' L=some (.lst ((days (fl r) b c).map V.int))/\σ=[some (.ref x),some (.int b),some (.int e),some (.ref L),some (oV o)],⟨_,b,o,Avm _,.inr rfl,ho,rfl,u1,by rw[hL1,DR.Ss λk h1 h2=>by lia];rfl,rfl⟩,?_⟩
 rintro m σ H1 ⟨c,o,bc,hce,ho,rfl,s1,hLc,rfl⟩
 cases o with
 |
  none=>
  refine⟨λz=>absurd z dkd,λ_=>?_⟩
  exact k L _ s1 (by rw[hLc,DJ.Ag0 bc hce ho]) hL
 |
  some d=>
  obtain⟨o1,o2,o3,o4⟩:=ho
  have hd:=DN.ze ok o3
  refine⟨λ_=>?_,λz=>absurd (by rw[Aqz (λe=>nomatch e)];rfl) z⟩
  refine⟨λσ' H'=>∃m',m'<msO (some d)/\∃c o,b<=c/\(c<=e∨c=b)/\Nx r c e o/\m'=msO o/\Same H H'/\H' L=some (.lst ((days (fl r) b c).map V.int))/\σ'=[some (.ref x),some (.int b),some (.int e),some (.ref L),some (oV o)],λσ' H' h=>h,?_⟩
  have hlen:(days (fl r) b c).length<=146097:=DJ.dz λq hq=>DN.ze ok hq
  refine⟨.inl ⟨rfl,_,Aws hLc⟩,L,_,_,rfl,rfl,hLc,(by rw[Aqv];exact Asr hlen dkd),?_⟩
  conv=>whnf
  have s2:Same H (upd H1 L (.lst ((days (fl r) b c).map V.int++[.int d]))):=λq u ec=>by rw[An (Ap ec hL)];exact s1 _ _ ec
  have hL2:(upd H1 L (.lst ((days (fl r) b c).map V.int++[.int d]))) L=some (.lst ((days (fl r) b (d+1)).map V.int)):=by
   rw[Ae,←DR.Acm bc o1 o3 o4,Ati]
   rfl
  obtain⟨w1,w2,w3,w4⟩:=hw
  obtain⟨C2,dx2,fs2,R2,ea2,eb2,ec2,ed2⟩:=Ahn (a:=a) (b:=d+1) (e:=e) (hr0.up s2) ok ⟨dkl,dkl,w3,w4⟩
  refine⟨ea2,eb2,ec2,ed2 _ λo' ho'=>?_⟩
  refine⟨msO o',?_,d+1,o',dkl,.inl dkl,ho',rfl,s2,hL2,rfl⟩
  cases o' with
  | none=>show 0<(146097-d).toNat+1;lia
  |
   some d'=>
   have:=ho'.1
   show(146097-d').toNat+1<(146097-d).toNat+1
   lia
def Ri:Au ["self","begin","end","day"] ["self","begin","end"] (Ah M4):=qsc
def cn:Fk P w T 2 a.Jc a.Ii ["self","begin","end"] (bx (ad a)):=by
 refine T.gk.go Ri λcdv A outer s H vs Q E hr h=>?_
 obtain⟨x,b,e,st,fi,rfl,hr0,ok,hw,k⟩:=h
 refine⟨_,(Ac (Eh 3 Ri.nd (Ba (n:=2) (D:=λC R=>(C=a.Cg/\R=λx vs H Q=>(Ru (ad a)) (x::(vs++([]:List V))) H Q E0)) (qv 0) (by rintro C R ⟨rfl,rfl⟩<;>first|exact(qan T.F1 T.Rx ((Rw T).mono dkd) hr T.Su)) (Aa (qv 1) (Aa (qv 2) Ad))))
  (Af (Aj (El (Ak ke (qv 3) F0 (Al _)) (Lv Ad) (qty (Vo rfl) T.Tp (Aa (qty Z8 T.Iu (Aa (qv 3) (Aa (qb (Ip rfl) T.Se (Aa (qv 2) (Aa (B2 rfl T.Nj) Ad))) (Aa (qf K (qv 0)) Ad)))) Ad)))))),?_⟩
 obtain⟨dx,hx⟩:=id hr0
 obtain⟨s1,s2,f0,f1⟩:=id ok
 refine⟨hx,noK (ks:=["step","first"]) rfl dkk,⟨rfl,rfl⟩,x,b,e,st,fi,rfl,hr0,ok,λd h1 h2 h3 h4=>?_,λhn=>?_⟩
 ·
  refine⟨λz=>absurd (Aqu z) (λw=>nomatch w),λ_=>?_⟩
  conv=>whnf
  generalize he1:(if 146097<e then 146097 else e)=e1
  have hd:=DN.ze ok h3
  have e1d:d<e1/\e1<=146097:=by rw[←he1];split<;>lia
  have hq:0<=(e1-d-1)/st:=Avx dkl dkl
  have hq2:(e1-d-1)/st<=e1-d-1:=Int.ediv_le_self _ dkl
  refine⟨hx,T.F1,T.Oi,rfl,d,e1,st,rfl,dkl,dkl,⟨dkl,dkl,dkl,dkl⟩,λr hr1=>⟨r,d,e1,st,((e1-d-1)/st+1).toNat,rfl,Ae,dkl,dkl,⟨dkl,dkl,dkl,dkl⟩,?_,dkl,λl hl=>?_⟩⟩
  ·
   unfold Builtin.Range.rangeSize
   rw[if_pos dkl,if_pos e1d.1]
   lia
  ·
   refine k l _ ((Ai hr1).trans (Ai hl)) ?_ (none_of (Ai hr1) hl)
   conv=>whnf
   rw[Ae,DJ.Aej (n:=((e1-d-1)/st+1).toNat) ok he1.symm h1 h2 h3 h4 dkl,At3]
   rfl
 ·
  refine⟨λ_=>?_,λz=>absurd (Aqs rfl) z⟩
  refine λl hl=>k l _ (Ai hl) ?_ hl
  conv=>whnf
  rw[Ae,DR.Ss hn]
  rfl
def Zt (P:Program)(w:World)(K:W.Frag)(mg:Str->Option Value)(base:Heap)(a:Adr)(n:Nat):Prop:=
 FnOk P w K mg base CX0 true (20+n) a.Ex a.E3 ["self","begin","end"] (spD (jd a) n 8)/\
 FnOk P w K mg base CX0 true (20+n) a.Gk a.Gq ["self","begin","end"] (spD (jd a) n 9)/\
 FnOk P w K mg base CX0 true (20+n) a.Hx a.Ih ["self","begin","end"] (spD (jd a) n 10)/\
 FnOk P w K mg base CX0 true (20+n) a.E4 a.Ez ["self","begin","end"] (spD (jd a) n 11)/\
 FnOk P w K mg base CX0 true (20+n) a.Eb a.Ed ["self","begin","end"] (spD (jd a) n 12)/\
 FnOk P w K mg base CX0 true (20+n) a.D9 a.Dz ["self","begin","end"] (spD (jd a) n 13)
theorem Ahm (T:Wg K mg base a)(ID:Zt P w K mg base a n)(e1:X.prog=P)(e2:X.w=w)(e3:X.K=K)(e4:X.mg=mg)(e5:X.base=base)(hr:Room true kk X.A)(hk:20+n<=kk):∀C R,dD a n C R->Ans X "days_in" 2 C R:=by
 subst e1 e2 e3 e4 e5
 obtain⟨i8,i9,i10,i11,i12,i13⟩:=ID
 rintro C R ⟨i,hi,rfl,rfl⟩
 match i,hi with
 |
  0,_=>
  refine(qan T.xg T.gx (((C9 T).imp λvs H Q E h=>?_).mono (Aq3 dkl hk)) hr T.Ds)
  obtain⟨x,b,e,t,rfl,hk,hn,hr,ok,hw,hs,k⟩:=h
  obtain rfl:=kd0 hk
  exact⟨x,b,e,.nv,rfl,hr,ok,hw.wi,k⟩
 |
  1,_=>
  refine(qan T.F1 T.ay (((cn T).imp λvs H Q E h=>?_).mono (Aq3 dkl hk)) hr T.ip)
  obtain⟨x,b,e,t,rfl,hk,hn,hr,ok,hw,hs,k⟩:=h
  obtain⟨q1,q2,rfl⟩:=kdJ hk
  exact⟨x,b,e,q1,q2,rfl,hr,ok,hw.wi,k⟩
 |
  2,_=>
  refine(qan T.Cp T.Y8 (((C9 T).imp λvs H Q E h=>?_).mono (Aq3 dkl hk)) hr T.Ds)
  obtain⟨x,b,e,t,rfl,hk,hn,hr,ok,hw,hs,k⟩:=h
  obtain⟨q1,q2,q3,rfl⟩:=kdJ hk
  exact⟨x,b,e,.wk q1 q2 q3,rfl,hr,ok,hw.wi,k⟩
 |
  3,_=>
  refine(qan T.C6 T.Wv (((C9 T).imp λvs H Q E h=>?_).mono (Aq3 dkl hk)) hr T.Ds)
  obtain⟨x,b,e,t,rfl,hk,hn,hr,ok,hw,hs,k⟩:=h
  obtain⟨q1,q2,q3,rfl⟩:=kdJ hk
  exact⟨x,b,e,.mo q1 q2 q3,rfl,hr,ok,hw.wi,k⟩
 |
  4,_=>
  refine(qan T.M1 T.k7 (((C9 T).imp λvs H Q E h=>?_).mono (Aq3 dkl hk)) hr T.Ds)
  obtain⟨x,b,e,t,rfl,hk,hn,hr,ok,hw,hs,k⟩:=h
  obtain⟨q1,q2,q3,q4,rfl⟩:=kdJ hk
  exact⟨x,b,e,.nt q1 q2 q3 q4,rfl,hr,ok,hw.wi,k⟩
 |
  5,_=>
  refine(qan T.Dn T.Y5 (((C9 T).imp λvs H Q E h=>?_).mono (Aq3 dkl hk)) hr T.Ds)
  obtain⟨x,b,e,t,rfl,hk,hn,hr,ok,hw,hs,k⟩:=h
  obtain⟨q1,q2,q3,q4,rfl⟩:=kdJ hk
  exact⟨x,b,e,.yr q1 q2 q3 q4,rfl,hr,ok,hw.wi,k⟩
 |
  6,_=>
  refine(qan T.Qc T.ir (((C9 T).imp λvs H Q E h=>?_).mono (Aq3 dkl hk)) hr T.Ds)
  obtain⟨x,b,e,t,rfl,hk,hn,hr,ok,hw,hs,k⟩:=h
  obtain⟨q1,rfl⟩:=kdJ hk
  exact⟨x,b,e,.dy q1,rfl,hr,ok,hw.wi,k⟩
 |
  7,_=>
  refine(qan T.Uu T.bg (((C9 T).imp λvs H Q E h=>?_).mono (Aq3 dkl hk)) hr T.Ds)
  obtain⟨x,b,e,t,rfl,hk,hn,hr,ok,hw,hs,k⟩:=h
  obtain⟨q1,q2,rfl⟩:=kdJ hk
  exact⟨x,b,e,.wh q1 q2,rfl,hr,ok,hw.wi,k⟩
 | 8,_=>exact(qan T.K7 T.Zd ((i8).mono hk) hr T.br)
 | 9,_=>exact(qan T.Ti T.g8 ((i9).mono hk) hr T.mh)
 | 10,_=>exact(qan T.au T.l8 ((i10).mono hk) hr T.ou)
 | 11,_=>exact(qan T.Fj T.Yi ((i11).mono hk) hr T.bz)
 | 12,_=>exact(qan T.E6 T.Wm ((i12).mono hk) hr T.Ze)
 | 13,_=>exact(qan T.Ar T.W9 ((i13).mono hk) hr T.Zn)
def jh (T:Wg K mg base a)(n:Nat)(IH:Ya P w K mg base a n)(ID:Zt P w K mg base a n):FnOk P w K mg base CX0 true (20+n+1) a.Gk a.Gq ["self","begin","end"] (spD (jd a) (n+1) 9):=by
 refine T.ky.gq ["self","begin","end"] λcdv A outer s H vs Q E hr h=>?_
 obtain⟨x,b,e,t,rfl,hk,hn,hr0,ok,hw,hs,k⟩:=h
 refine⟨_,(Af (Aj (Oz (N:=["day","self"]) (cap:=[none,some 0]) (by show Cf (Ah O8) _ ["self","begin","end"] _ _;exact⟨rfl,dkk,dkk,dkk,dkk,rfl,dkk⟩) rfl (T7 (K:=K) rfl (Ba (n:=2) (D:=dD a n) (qf K (qv 0)) (Ahm T ID rfl rfl rfl rfl rfl hr dkl) (Aa (qv 1) (Aa (qv 2) Ad)))) (λC s H fp=>⟨(Fq (i:=0) (by show(["day","self"]:List Str).Nodup;decide+kernel) rfl (Or.inl rfl) (.inr rfl)),(af (Dg (Ba (n:=1) (D:=dF a n) (qf K (qv 1)) (Abp T IH rfl rfl rfl rfl rfl hr dkl) (Aa (qv 0) Ad)))),(qv 0)⟩)))),?_⟩
 obtain⟨p,q,rfl⟩:=kdJ hk
 obtain⟨dx,y,z,hx,h1,h2⟩:=RtAt.isBo.mp hr0
 have n1:dep p<=n/\dep q<=n:=by have:max (dep p) (dep q)+1<=n+1:=hn;lia
 have hw1:Wn n b e:=by obtain⟨h0,h1,h2,h3,h4⟩:=hw;exact⟨dkl,dkl,dkl,dkl,dkl⟩
 have hN:DJ.Nar b e:=by rcases hs with h|⟨_,h⟩|⟨_,_,_,_,h,_⟩<;>first|exact h|cases h
 obtain⟨C1,dx1,fs1,R1,ea1,eb1,ec1,ed1⟩:=Sh (a:=a) (n:=n) h1 n1.1 ok.1 hw1 (.inl hN)
 refine⟨hx,T.Ti,T.Yr,rfl,ea1,eb1,ec1,ed1 _ λD1 H1 u1 hD1 f1=>⟨D1,rfl,⟨_,Aws hD1⟩,?_⟩⟩
 have hlen:=hN.few ok.1
 refine Ie (Ua (K:=K) (Aws hD1)) (Ae7 (ft q)) id (by rw[Aqv];lia) ?_ (λv hv _ H' _ R hR=>hR H' (Awr _)) (λD H2 s2 hD0 hD=>?_)
 ·
  intro v hv H' sm R hR
  obtain⟨d,hd,rfl⟩:=Arz.mp hv
  obtain⟨d1,d2,d3⟩:=DR.As.mp hd
  have dd:=DJ.va ok.1 d3
  have bd:Bd d:=⟨dkl,dkl⟩
  obtain⟨C2,dx2,fs2,R2,ea2,eb2,ec2,ed2⟩:=Gu (a:=a) (h2.up (u1.trans sm)) (n:=n) n1.2 ok.2 bd
  exact⟨(u1.trans sm) _ _ hx,T.Ti,T.Sx,rfl,ea2,eb2,ec2,ed2 _ (hR H' (Awr _))⟩
 rw[List.map_id,Aj6,DJ.Ahy] at hD
 exact k D H2 (u1.trans s2) hD (none_of u1 hD0)
def kq:Fk P w T 1 a.Mj a.Md ["self","one","other"] (V6 a.Fd):=by
 refine T.qz.gq ["self","one","other"] λcdv A outer s H vs Q E hr h=>?_
 obtain⟨x,dx,y,z,rfl,hx,k⟩:=h
 refine⟨_,(Ac (Ce (K:=K) rfl (qv 0) (qv 1))
  (Af (Ce (K:=K) rfl (qv 0) (qv 2)))),?_⟩
 refine⟨hx,T.Ti,T.Yr,?_⟩
 refine⟨Ae,T.Ti,T.Sx,?_⟩
 exact k _ (λc u hc e=>by rw[An hc,An hc];exact e) Ae
def ma (T:Wg K mg base a)(n:Nat)(IH:Ya P w K mg base a n)(ID:Zt P w K mg base a n):FnOk P w K mg base CX0 true (20+n+1) a.Hx a.Ih ["self","begin","end"] (spD (jd a) (n+1) 10):=by
 refine T.pk.gq ["self","begin","end"] λcdv A outer s H vs Q E hr h=>?_
 obtain⟨x,b,e,t,rfl,hk,hn,hr0,ok,hw,hs,k⟩:=h
 refine⟨_,(Af (Aj (Oz (N:=["day","self"]) (cap:=[none,some 0]) (by show Cf (Ah Q3) _ ["self","begin","end"] _ _;exact⟨rfl,dkk,dkk,dkk,dkk,rfl,dkk⟩) rfl (T7 (K:=K) rfl (Ba (n:=2) (D:=dD a n) (qf K (qv 0)) (Ahm T ID rfl rfl rfl rfl rfl hr dkl) (Aa (qv 1) (Aa (qv 2) Ad)))) (λC s H fp=>⟨(Fq (i:=0) (by show(["day","self"]:List Str).Nodup;decide+kernel) rfl (Or.inl rfl) (.inr rfl)),(af (Od (Dg (Ba (n:=1) (D:=dF a n) (qf K (qv 1)) (Abp T IH rfl rfl rfl rfl rfl hr dkl) (Aa (qv 0) Ad))))),(qv 0)⟩)))),?_⟩
 obtain⟨p,q,rfl⟩:=kdJ hk
 obtain⟨dx,y,z,hx,h1,h2⟩:=RtAt.isBu.mp hr0
 have n1:dep p<=n/\dep q<=n:=by have:max (dep p) (dep q)+1<=n+1:=hn;lia
 have hw1:Wn n b e:=by obtain⟨h0,h1,h2,h3,h4⟩:=hw;exact⟨dkl,dkl,dkl,dkl,dkl⟩
 have hN:DJ.Nar b e:=by rcases hs with h|⟨_,h⟩|⟨_,_,_,_,h,_⟩<;>first|exact h|cases h
 obtain⟨C1,dx1,fs1,R1,ea1,eb1,ec1,ed1⟩:=Sh (a:=a) (n:=n) h1 n1.1 ok.1 hw1 (.inl hN)
 refine⟨hx,T.au,T.fm,rfl,ea1,eb1,ec1,ed1 _ λD1 H1 u1 hD1 f1=>⟨D1,rfl,⟨_,Aws hD1⟩,?_⟩⟩
 have hlen:=hN.few ok.1
 refine Ie (Ua (K:=K) (Aws hD1)) (Ae7 (λd=>!ft q d)) id (by rw[Aqv];lia) ?_ (λv hv _ H' _ R hR=>hR H' (Awr _)) (λD H2 s2 hD0 hD=>?_)
 ·
  intro v hv H' sm R hR
  obtain⟨d,hd,rfl⟩:=Arz.mp hv
  obtain⟨d1,d2,d3⟩:=DR.As.mp hd
  have dd:=DJ.va ok.1 d3
  have bd:Bd d:=⟨dkl,dkl⟩
  obtain⟨C2,dx2,fs2,R2,ea2,eb2,ec2,ed2⟩:=Gu (a:=a) (h2.up (u1.trans sm)) (n:=n) n1.2 ok.2 bd
  exact⟨(u1.trans sm) _ _ hx,T.au,T.V7,rfl,ea2,eb2,ec2,ed2 _ (hR H' (Awr _))⟩
 rw[List.map_id,Aj6,DJ.Ahw] at hD
 exact k D H2 (u1.trans s2) hD (none_of u1 hD0)
theorem ig (T:Wg K mg base a)(n:Nat)(IH:Ya P w K mg base a n):FnOk P w K mg base CX0 true (20+n+1) a.Gp a.Gj ["self","day"] (spF (jd a) (n+1) 10):=by
 refine T.ll.gq ["self","day"] λcdv A outer s H vs Q E hr h=>?_
 obtain⟨x,d,t,rfl,hk,hn,hr0,ok,bd,k⟩:=h
 refine⟨_,(Af (Aj (Dk (Ba (n:=1) (D:=dF a n) (qf K (qv 0)) (Abp T IH rfl rfl rfl rfl rfl hr dkl) (Aa (qv 1) Ad)) (Dc (Ad0 (Ba (n:=1) (D:=dF a n) (qf K (qv 0)) (Abp T IH rfl rfl rfl rfl rfl hr dkl) (Aa (qv 1) Ad))))))),?_⟩
 obtain⟨p,q,rfl⟩:=kdJ hk
 obtain⟨dx,y,z,hx,h1,h2⟩:=RtAt.isBu.mp hr0
 have n1:dep p<=n/\dep q<=n:=by have:max (dep p) (dep q)+1<=n+1:=hn;lia
 obtain⟨C1,dx1,fs1,R1,ea1,eb1,ec1,ed1⟩:=Gu (a:=a) h1 (n:=n) n1.1 ok.1 bd
 obtain⟨C2,dx2,fs2,R2,ea2,eb2,ec2,ed2⟩:=Gu (a:=a) h2 (n:=n) n1.2 ok.2 bd
 refine⟨hx,T.au,T.fm,rfl,ea1,eb1,ec1,ed1 _ ?_⟩
 have k0:Q (.bl (ft p d&&!ft q d)) H:=k
 conv=>whnf
 cases e:ft p d with
 | false=>rw[e] at k0;exact Cu k0
 |
  true=>
  rw[e] at k0
  exact Fs ⟨hx,T.au,T.V7,rfl,ea2,eb2,ec2,ed2 _ (k0)⟩
def qw:Fk P w T 1 a.N2 a.Oe ["self","one","other"] (V6 a.L6):=by
 refine T.uf.gq ["self","one","other"] λcdv A outer s H vs Q E hr h=>?_
 obtain⟨x,dx,y,z,rfl,hx,k⟩:=h
 refine⟨_,(Ac (Ce (K:=K) rfl (qv 0) (qv 1))
  (Af (Ce (K:=K) rfl (qv 0) (qv 2)))),?_⟩
 refine⟨hx,T.au,T.fm,?_⟩
 refine⟨Ae,T.au,T.V7,?_⟩
 exact k _ (λc u hc e=>by rw[An hc,An hc];exact e) Ae
def du:Fk P w T 1 a.Hz a.Jh ["self","rule","begin","end"] (kx a.Bk):=by
 refine T.gy.gq ["self","rule","begin","end"] λcdv A outer s H vs Q E hr h=>?_
 obtain⟨x,dx,y,b,e,rfl,hx,k⟩:=h
 refine⟨_,(Ac (Ce (K:=K) rfl (qv 0) (qv 1))
  (Ac (Ce (K:=K) rfl (qv 0) (qv 2))
  (Af (Ce (K:=K) rfl (qv 0) (qv 3))))),?_⟩
 refine⟨hx,T.Fj,T.Qo,?_⟩
 refine⟨Ae,T.Fj,T.O5,?_⟩
 refine⟨Ae,T.Fj,T.Tt,?_⟩
 exact k _ (λc u hc e=>by rw[An hc,An hc,An hc];exact e) Ae
theorem Xd (T:Wg K mg base a)(n:Nat)(IH:Ya P w K mg base a n):FnOk P w K mg base CX0 true (20+n+1) a.D4 a.D7 ["self","day"] (spF (jd a) (n+1) 11):=by
 refine T.Yj.gq ["self","day"] λcdv A outer s H vs Q E hr h=>?_
 obtain⟨x,d,t,rfl,hk,hn,hr0,ok,bd,k⟩:=h
 refine⟨_,(Af (Aj (Dk (ot ie Lq (qf K (qv 0)) (qv 1) (qf K (qv 0))) (Dc (Ba (n:=1) (D:=dF a n) (qf K (qv 0)) (Abp T IH rfl rfl rfl rfl rfl hr dkl) (Aa (qv 1) Ad)))))),?_⟩
 obtain⟨wb,we,r,rfl⟩:=kdJ hk
 obtain⟨dx,y,hx,h1⟩:=RtAt.isWi.mp hr0
 have n1:dep r<=n:=by have:dep r+1<=n+1:=hn;lia
 obtain⟨C1,dx1,fs1,R1,ea1,eb1,ec1,ed1⟩:=Gu (a:=a) h1 (n:=n) n1 ok.2 bd
 have k0:Q (.bl ((decide (wb<=d)&&decide (d<we))&&ft r d)) H:=k
 refine⟨hx,T.Fj,T.O5,rfl,?_⟩
 conv=>whnf
 cases e1:decide (wb<=d) with
 | false=>rw[e1] at k0;exact Cu (Cu k0)
 |
  true=>
  rw[e1,Arw] at k0
  refine Fs ⟨hx,T.Fj,T.Tt,rfl,?_⟩
  conv=>whnf
  cases e2:decide (d<we) with
  | false=>rw[e2] at k0;exact Cu k0
  |
   true=>
   rw[e2,Arw] at k0
   exact Fs ⟨hx,T.Fj,T.Qo,rfl,ea1,eb1,ec1,ed1 _ k0⟩
def Y0 (T:Wg K mg base a)(n:Nat)(IH:Ya P w K mg base a n)(ID:Zt P w K mg base a n):FnOk P w K mg base CX0 true (20+n+1) a.E4 a.Ez ["self","begin","end"] (spD (jd a) (n+1) 11):=by
 refine T.ba.gq ["self","begin","end"] λcdv A outer s H vs Q E hr h=>?_
 obtain⟨x,b,e,t,rfl,hk,hn,hr0,ok,hw,hs,k⟩:=h
 refine⟨_,(Af (Aj (Ba (n:=2) (D:=dD a n) (qf K (qv 0)) (Ahm T ID rfl rfl rfl rfl rfl hr dkl) (Aa (qb (M7 rfl) T.V2 (Aa (qv 1) (Aa (qf K (qv 0)) Ad))) (Aa (qb (Ip rfl) T.Se (Aa (qv 2) (Aa (qf K (qv 0)) Ad))) Ad))))),?_⟩
 obtain⟨wb,we,r,rfl⟩:=kdJ hk
 obtain⟨dx,y,hx,h1⟩:=RtAt.isWi.mp hr0
 have n1:dep r<=n:=by have:dep r+1<=n+1:=hn;lia
 have hN:DJ.Nar b e:=by rcases hs with h|⟨_,h⟩|⟨_,_,_,_,h,_⟩<;>first|exact h|cases h
 obtain⟨⟨wb1,wb2,we1,we2⟩,ok2⟩:=id ok
 have hw2:Wn n (if wb>b then wb else b) (if we<e then we else e):=by
  obtain⟨h0,h1,h2,h3,h4⟩:=hw
  refine⟨dkl,?_,?_,?_,?_⟩<;>split<;>lia
 obtain⟨C1,dx1,fs1,R1,ea1,eb1,ec1,ed1⟩:=Sh (a:=a) (n:=n) h1 n1 ok2 hw2 (.inl hN.wi)
 exact⟨hx,T.Fj,T.Qo,rfl,ea1,eb1,ec1,hx,T.Fj,T.O5,rfl,hx,T.Fj,T.Tt,rfl,ed1 _ λD1 H1 u1 hD1 f1=>k D1 H1 u1 (by rw[hD1,DJ.Aja]) f1⟩
def Nr:Au ["self","begin","end","found"] ["self","begin","end"] (Ah Ga):=qsc
def Xc (T:Wg K mg base a)(n:Nat)(IH:Ya P w K mg base a n)(ID:Zt P w K mg base a n):FnOk P w K mg base CX0 true (20+n+1) a.Eb a.Ed ["self","begin","end"] (spD (jd a) (n+1) 12):=by
 refine T.Zq.go Nr λcdv A outer s H vs Q E hr h=>?_
 obtain⟨x,b,e,t,rfl,hk,hn,hr0,ok,hw,hs,k⟩:=h
 refine⟨_,(Ac (Eh 3 Nr.nd (Ba (n:=2) (D:=dD a n) (qf K (qv 0)) (Ahm T ID rfl rfl rfl rfl rfl hr dkl) (Aa (Ag Bc (qb (M7 rfl) T.V2 (Aa (qv 1) (Aa Ab Ad))) (qf K (qv 0))) (Aa (Ag Bc (qb (Ip rfl) T.Se (Aa (qv 2) (Aa (B2 rfl T.Nj) Ad))) (qf K (qv 0))) Ad))))
  (Af (Aj (Oz (N:=["day","self"]) (cap:=[none,some 0]) (by show Cf (Ah Ga) _ ["self","begin","end","found"] _ _;exact⟨rfl,dkk,dkk,dkk,dkk,rfl,dkk⟩) rfl (T7 (K:=K) rfl (qv 3)) (λC s H fp=>⟨(Fq (i:=0) (by show(["day","self"]:List Str).Nodup;decide+kernel) rfl (Or.inl rfl) (.inr rfl)),Ys,(Ag Aq (qv 0) (qf K (qv 1)))⟩))))),?_⟩
 obtain⟨m,r,rfl⟩:=kdJ hk
 obtain⟨dx,y,hx,h1⟩:=RtAt.isSh.mp hr0
 have n1:dep r<=n:=by have:dep r+1<=n+1:=hn;lia
 have hN:DJ.Nar b e:=by rcases hs with h|⟨_,h⟩|⟨_,_,_,_,h,_⟩<;>first|exact h|cases h
 obtain⟨⟨m1,m2⟩,ok2⟩:=id ok
 have hw2:Wn n ((if 0>b then 0 else b)-m) ((if 146097<e then 146097 else e)-m):=by
  obtain⟨h0,h1,h2,h3,h4⟩:=hw
  refine⟨dkl,?_,?_,?_,?_⟩<;>split<;>lia
 obtain⟨C1,dx1,fs1,R1,ea1,eb1,ec1,ed1⟩:=Sh (a:=a) (n:=n) h1 n1 ok2 hw2 (.inl hN.sh)
 refine⟨hx,T.E6,T.Oq,rfl,ea1,eb1,ec1,hx,T.E6,T.Gi,rfl,hx,T.E6,T.Gi,rfl,ed1 _ λD1 H1 u1 hD1 f1=>⟨D1,rfl,⟨_,Aws hD1⟩,?_⟩⟩
 have hlen:=(hN.sh (n:=m)).few ok2
 refine Ie (Ua (K:=K) (Aws hD1)) (λ_=>true) (λv=>match v with| .int d=>.int (d+m)|v=>v) (by rw[Aqv];lia) (λ_ _ H' _ R hR=>hR H' (Awr _)) ?_ (λD H2 s2 hD0 hD=>?_)
 ·
  intro v hv _ H' sm R hR
  obtain⟨d,hd,rfl⟩:=Arz.mp hv
  exact⟨(u1.trans sm) _ _ hx,T.E6,T.Gi,rfl,hR H' (Awr _)⟩
 refine k D H2 (u1.trans s2) ?_ (none_of u1 hD0)
 conv=>whnf
 rw[hD,Av7.mpr (λ_ _=>rfl),At3,←DJ.Ajz,At3]
 rfl
def Du:Au ["self","lost","day","pair"] ["self"] (Ah Hf):=qsc
def U9:Fk P w T 1 a.Eo a.Ep ["self"] (aq a.Am):=by
 refine T.V9.go Du λcdv A outer s H vs Q E hr h=>?_
 obtain⟨x,dx,y,p,q,o,g,ls,mv,rfl,hx,hp,⟨rs,ho,hok,rfl⟩,l1,l3,k⟩:=h
 refine⟨_,(Ac (Eh 1 Du.nd Afh)
  (Ac (aj Ash rfl (Sl (K:=K) rfl (qf K (qv 0))) (qnm 2 Du.nd) (Af (Ad2 (Acg hr) (qv 1) (qv 2) Yc rfl)))
  (Ac (aj Ash rfl (Sl (K:=K) rfl (qf K (qv 0))) (qnm 3 Du.nd) (Af (Ad2 (Acg hr) (qv 1) (qix K (qv 3) Ab) Yc rfl)))
  (Af (Aj (qv 1)))))),?_⟩
 have l4:rs.length<=10:=by rw[←Ni];exact l3
 refine λL hL=>?_
 have s0:=Ai (o:=.dK []) hL
 refine⟨(s0 _ _ hx),T.Ar,T.Gh,rfl,p,rfl,⟨_,Awq (s0 _ _ hp)⟩,?_⟩
 conv=>whnf
 have keep:∀{H1:Hp}{kvs:List (Key×V)},Same H H1->Same H (upd H1 L (.dK kvs)):=λs c u e=>by
  rw[An (Ap e hL)]
  exact s _ _ e
 refine V3 (H0:=H) (Sw (Awq hp)) (λi σ H'=>∃kvs,H' L=some (.dK kvs)/\kvs.length<=i/\Same H H'/\(∀z:Int,(Us kvs (Sum.inl z)).isSome=decide (z∈ls.take i))/\∃y1 y2,σ=[some (.ref x),some (.ref L),y1,y2]) ⟨[],Ae,Aq0 _,s0,(λz=>rfl),_,_,rfl⟩ (λ_ _ _ _ ⟨_,_,_,s,_⟩=>s) ?_ ?_
 ·
  rintro i v σ H1 hv ⟨kvs,hL1,hk,s1,hv1,y1,y2,rfl⟩
  have hi:i<ls.length:=by have:=(Aq5.mp hv).1;rwa[Aqv] at this
  rw[Are,Aq6 hi] at hv
  cases hv
  refine⟨L,_,rfl,DPut.k (k:=Sum.inl ls[i]) hL1 (Asr (by lia:_<=10) dkd),_,Ae,(Aq3 zb dkl),keep s1,λz=>?_,_,_,rfl⟩
  rw[Ag8,hv1 z,Aum hi,←Bool.decide_or,Asi,Ar0,Arm]
  exact Or.comm
 rintro σ H1 ⟨kvs0,hL1,hk0,s1,hv1,y1,y2,rfl⟩
 rw[Aqv] at hk0
 rw[Aqv,Ats] at hv1
 refine⟨(s1 _ _ hx),T.Ar,T.Fh,rfl,o,rfl,⟨_,Awq (s1 _ _ ho)⟩,?_⟩
 refine V3 (H0:=H) (Sw (Awq ho)) (λi σ H'=>∃kvs,H' L=some (.dK kvs)/\kvs.length<=10+i/\Same H H'/\(∀z:Int,(Us kvs (Sum.inl z)).isSome=decide (z∈ls++((sps rs).take i).map (·.1)))/\∃y1 y2,σ=[some (.ref x),some (.ref L),y1,y2]) ⟨kvs0,hL1,dkl,s1,(λz=>by rw[hv1 z,Avc,Auw,Ark]),_,_,rfl⟩ (λ_ _ _ _ ⟨_,_,_,s,_⟩=>s) ?_ ?_
 ·
  rintro i v σ H2 hv ⟨kvs,hL2,hk,s2,hv2,z1,z2,rfl⟩
  have hi:i<rs.length:=by have:=(Aq5.mp hv).1;rwa[Q5] at this
  have hv':(refs rs)[i]?=some (.ref rs[i].1):=by show(rs.map _)[i]?=_;rw[Are,Aq6 hi];rfl
  rw[hv'] at hv
  cases hv
  have hz:=s2 _ _ (hok _ (Asu hi))
  refine⟨Awq hz,rfl,L,_,rfl,DPut.k (k:=Sum.inl rs[i].2.1) hL2 (Asr (by lia:_<=20) dkd),_,Ae,(Aq3 zb dkl),keep s2,λz=>?_,_,_,rfl⟩
  have hi2:i<(sps rs).length:=by rw[Ni];exact hi
  have e2:(sps rs)[i]=rs[i].2:=by unfold sps;exact List.getElem_map _
  rw[Ag8,hv2 z,Aum hi2,←Bool.decide_or,Asi,Ati,←As4,Ar0 (s:=ls++_),e2]
  show _↔_∨z∈[rs[i].2.1]
  rw[Arm]
  exact Or.comm
 rintro σ H2 ⟨kvs,hL2,hk,s2,hv2,z1,z2,rfl⟩
 refine k L H2 s2 ⟨kvs,hL2,λz=>?_⟩
 conv=>whnf
 rw[hv2 z,Q5,←Ni,Ats]
 rfl
theorem Vw (T:Wg K mg base a)(n:Nat)(IH:Ya P w K mg base a n):FnOk P w K mg base CX0 true (20+n+1) a.Dj a.Df ["self","day"] (spF (jd a) (n+1) 12):=by
 refine T.Xt.gq ["self","day"] λcdv A outer s H vs Q E hr h=>?_
 obtain⟨x,d,t,rfl,hk,hn,hr0,ok,bd,k⟩:=h
 refine⟨_,(Af (Aj (Dk (qc (M3 T) hr T.Rg T.N5 T.Qg (Aa (qv 1) Ad)) (Dc (Ba (n:=1) (D:=dF a n) (qf K (qv 0)) (Abp T IH rfl rfl rfl rfl rfl hr dkl) (Aa (Ag Bc (qv 1) (qf K (qv 0))) Ad)))))),?_⟩
 obtain⟨m,r,rfl⟩:=kdJ hk
 obtain⟨dx,y,hx,h1⟩:=RtAt.isSh.mp hr0
 have n1:dep r<=n:=by have:dep r+1<=n+1:=hn;lia
 have k0:Q (.bl (isD d&&ft r (d-m))) H:=k
 refine⟨d,rfl,?_⟩
 conv=>whnf
 cases e1:isD d with
 | false=>rw[e1] at k0;exact Cu k0
 |
  true=>
  rw[e1,Arw] at k0
  have hd2:=DF.Il.mp e1
  have hm:=ok.1
  have bd2:Bd (d-m):=⟨dkl,dkl⟩
  obtain⟨C1,dx1,fs1,R1,ea1,eb1,ec1,ed1⟩:=Gu (a:=a) h1 (n:=n) n1 ok.2 bd2
  exact Fs ⟨hx,T.E6,T.Oq,rfl,ea1,eb1,ec1,hx,T.E6,T.Gi,rfl,ed1 _ k0⟩
def K6:Au ["self","day","place"] ["self","day"] (Ah Gg):=qsc
def Sk:Fk P w T 2 a.Dw a.Dx ["self","day"] (Le a.Am):=by
 refine T.U6.go K6 λcdv A outer s H vs Q E hr h=>?_
 obtain⟨x,dx,y,p,q,o,g,l,gs,d,rfl,hx,hg,hr1,hl,k⟩:=h
 refine⟨_,(Ac (Eh 2 K6.nd (qc (Kg T) hr T.L4 T.Jj T.L9 (Aa (qf K (qv 0)) (Aa (qv 1) Ad))))
  (Af (Aj (Dk (A6 Lq (qv 2) (qb (A7 (K:=K) rfl) T.P7 (Aa (qf K (qv 0)) Ad)) (Al _)) (Dc (A6 Bg (qix K (qf K (qv 0)) (qv 2)) (qv 1) (Al _))))))),?_⟩
 refine⟨hx,T.Ar,T.Cn,rfl,g,gs,d,rfl,Awq hg,hr1,dkl,?_⟩
 refine⟨hx,T.Ar,T.Cn,rfl,g,_,rfl,.inr (Awq hg),?_⟩
 conv=>whnf
 have hb:=DC.d6 gs d
 rw[Aqv]
 by_cases hlt:DC.below gs d<gs.length
 ·
  rw[Aqs (by lia:((DC.below gs d:Nat):Int)<(gs.length:Nat))]
  have hget:(gs.map V.int)[DC.below gs d]?=some (.int gs[DC.below gs d]):=by rw[Are,Aq6 hlt];rfl
  refine Fs ⟨hx,T.Ar,T.Cn,rfl,Awq hg,(by rw[Ow];exact hget),?_⟩
  conv=>whnf
  rw[Sf]
  have e:decide (gs[DC.below gs d]=d)=decide (d∈gs):=by
   rw[Asi,←DJ.yx hr1]
   exact⟨λe=>⟨_,Aq6 hlt,e⟩,λ⟨a,h1,h2⟩=>by rw[Aq6 hlt] at h1;cases h1;exact h2⟩
  rw[e]
  exact k
 ·
  rw[Aqz (by lia:¬((DC.below gs d:Nat):Int)<(gs.length:Nat))]
  refine Cu ?_
  have e:decide (d∈gs)=false:=Aqz λw=>by
   obtain⟨a,h1,_⟩:=(DJ.yx hr1).mpr w
   exact hlt (Aq5.mp h1).1
  rw[e] at k
  exact k
theorem Vt (T:Wg K mg base a)(n:Nat)(IH:Ya P w K mg base a n):FnOk P w K mg base CX0 true (20+n+1) a.Dm a.Dp ["self","day"] (spF (jd a) (n+1) 13):=by
 refine T.Xy.gq ["self","day"] λcdv A outer s H vs Q E hr h=>?_
 obtain⟨x,d,t,rfl,hk,hn,hr0,ok,bd,k⟩:=h
 refine⟨_,(Af (Aj (Ac8 (Ba (n:=1) (D:=λC R=>(C=a.Am/\R=λx vs H Q=>(Le a.Am) (x::(vs++([]:List V))) H Q E0)) (qv 0) (by rintro C R ⟨rfl,rfl⟩<;>first|exact(qan T.Ar T.Ts ((Sk T).mono dkl) hr T.U7)) (Aa (qv 1) Ad)) (Dc (Dk (Akg (t6 (Acg hr) (qv 1) (qf K (qv 0))) (by with_unfolding_all rfl)) (Dc (Ba (n:=1) (D:=dF a n) (qf K (qv 0)) (Abp T IH rfl rfl rfl rfl rfl hr dkl) (Aa (qv 1) Ad)))))))),?_⟩
 obtain⟨r,ls,ms,mv,rfl⟩:=kdJ hk
 obtain⟨dx,y,p,q,o,g,l,gs,kvs,hx,h1,⟨hg,hr1,hgl,hgm⟩,hl,hlm⟩:=RtAt.isCh.mp hr0
 have n1:dep r<=n:=by have:dep r+1<=n+1:=hn;lia
 obtain⟨C1,dx1,fs1,R1,ea1,eb1,ec1,ed1⟩:=Gu (a:=a) h1 (n:=n) n1 ok.1 bd
 have k0:Q (.bl (decide (d∈Tz (ft r) ls ms mv)||(!decide (d∈se ls mv)&&ft r d))) H:=k
 have eg:decide (d∈gs)=decide (d∈Tz (ft r) ls ms mv):=by rw[Asi];exact hgm d
 rw[←eg] at k0
 refine⟨hx,rfl,⟨rfl,rfl⟩,x,dx,y,p,q,o,g,l,gs,d,rfl,hx,hg,hr1,hgl,?_⟩
 conv=>whnf
 cases e1:decide (d∈gs) with
 | true=>rw[e1] at k0;exact Fs k0
 |
  false=>
  rw[e1,Bool.false_or] at k0
  refine Cu ⟨hx,T.Ar,T.O0,rfl,l,_,rfl,DGet.k (k:=Sum.inl d) hl,?_⟩
  conv=>whnf
  rw[hlm d]
  cases e2:decide (d∈se ls mv) with
  | true=>rw[e2] at k0;exact Cu k0
  |
   false=>
   rw[e2] at k0
   exact Fs ⟨hx,T.Ar,T.Kh,rfl,ea1,eb1,ec1,ed1 _ k0⟩
def Aj4 (hi:8<=i):FnOk P w K mg base CX0 true (20+0) f fd ["self","day"] (spF (jd a) 0 i):=by
 have no:∀{vs:List V}{H:Hp}{Q:VK}{E:XK},spF (jd a) 0 i vs H Q E->False:=λh=>by
  obtain⟨x,d,t,rfl,hk,hd,_⟩:=h
  exact Ao0 hk hi hd
 exact⟨λvs H Q E h=>(no h).elim,λA outer s H args us vs Q E _ _ _ _ h=>(no h).elim⟩
theorem gj (T:Wg K mg base a):∀n,Ya P w K mg base a n
 | 0=>⟨Aj4 dkd,Aj4 dkd,Aj4 dkd,Aj4 dkd,Aj4 dkd,Aj4 dkd⟩
 | n+1=>have IH:=gj T n;⟨X6 T n IH,cw T n IH,ig T n IH,Xd T n IH,Vw T n IH,Vt T n IH⟩
def Jt:Au ["self","goals"] ["self"] (Ah Dl):=qsc
def Sd (T:Wg K mg base a)(n:Nat):FnOk P w K mg base CX0 true (20+n+1) a.Dr a.Dq ["self"] (Vq (jd a) n):=by
 refine T.Tw.go Jt λcdv A outer s H vs Q E hr h=>?_
 obtain⟨x,dx,y,p,q,o,r,ls,ms,mv,rfl,hx,hr0,hn,ok,hp,hq,⟨rs,ho,hok,rfl⟩,⟨⟨l1,l2,l3⟩,hls,hms,hmv⟩,k⟩:=h
 refine⟨_,(Ac (Ue (i0:=1) Jt.nd rfl rfl (N:=["day","goal","self"]) (cap:=[none,none,some 0]) (by show Cf (Ah Dl) _ ["self","goals"] _ _;exact⟨rfl,dkk,dkk,dkk,dkk,rfl,dkk⟩) rfl (Sl (K:=K) rfl (qf K (qv 0))) (λC s H fp=>⟨(Aib (K:=K) (n:=2) rfl rfl (Mm (Fq (i:=0) (by show(["day","goal","self"]:List Str).Nodup;decide+kernel) rfl (Or.inl rfl) (.inr rfl)) (Mm (Fq (i:=1) (by show(["day","goal","self"]:List Str).Nodup;decide+kernel) rfl (Or.inl rfl) (.inr rfl)) pq))),(af (Awt (Ob (Ak (Ws (K:=K) rfl) (qv 0) (qf K (qv 2)) (by with_unfolding_all rfl)) (J1 (Dg (Ba (n:=1) (D:=dF a n) (qf K (qv 2)) (Abp T (gj T n) rfl rfl rfl rfl rfl hr dkl) (Aa (qv 0) Ad))))))),(qv 1)⟩))
  (Af (Aj (qty (Bf (K:=K) rfl) T.Es (Aa (qb (Sn rfl) T.Rf (Aa (qty (su rfl) T.xo (Aa (Ag zl (qty (Qr (K:=K) rfl) T.Tp (Aa (qf K (qv 0)) Ad)) (qv 1)) Ad)) Ad)) Ad))))),?_⟩
 have l4:rs.length<=10:=by rw[←Ni];exact l3
 refine⟨hx,T.Ar,T.Fh,rfl,o,rfl,⟨_,Awq ho⟩,?_⟩
 refine Acv (K:=K) (Sw (Awq ho)) hok (λz=>!decide (z.1∈ls)&&ft r z.1) (λz=>.int z.2) dkl ?_ (λz hz _ H' _ R hR=>hR H' (Awr _)) (λD H1 s1 _ hD=>?_)
 ·
  intro z hz H' sm R hR
  have hd:=(hmv z.2 (Arz.mpr ⟨z,hz,rfl⟩)).1
  have bd:Bd z.2.1:=⟨by have:=hd.1;lia,by have:=hd.2;lia⟩
  obtain⟨C1,dx1,fs1,R1,ea1,eb1,ec1,ed1⟩:=Gu (a:=a) (hr0.up sm) (n:=n) hn ok bd
  refine⟨(sm _ _ hx),T.Ar,T.Gh,rfl,p,_,rfl,.inr (Awq (sm _ _ hp)),rfl,Aen _,?_⟩
  conv=>whnf
  rw[if_pos rfl,Nu]
  have hR0:∀H'',Same H' H''->R (!decide (z.2.1∈ls)&&ft r z.2.1) H'':=hR
  cases e1:decide (z.2.1∈ls) with
  |
   true=>
   rw[e1] at hR0
   exact Cu (hR0 H' (Awr _))
  |
   false=>
   rw[e1] at hR0
   exact Fs ⟨(sm _ _ hx),T.Ar,T.Kh,rfl,ea1,eb1,ec1,ed1 _ (hR0 H' (Awr _))⟩
 have hD':H1 D=some (.lst ((((sps rs).filter λz=>!decide (z.1∈ls)&&ft r z.1).map (·.2)).map V.int)):=by
  rw[hD,At3]
  rfl
 generalize hgo:((sps rs).filter λz=>!decide (z.1∈ls)&&ft r z.1).map (·.2)=go at hD'
 have hgl:go.length<=10:=by
  rw[←hgo,Aqv]
  exact Aq3 (Atc _ _) l3
 refine⟨(s1 _ _ hx),T.Ar,T.Kw,rfl,q,_,rfl,.inr (Awq (s1 _ _ hq)),λL hL=>?_⟩
 have s2:=s1.trans (Ai (o:=.lst (ms.map V.int)) hL)
 refine⟨L,D,_,_,rfl,rfl,Ae,(Ai hL) _ _ hD',(by rw[Aqv,Aqv];exact Aq3 (by lia:_<=20) dkd),λL2 hL2=>?_⟩
 have s3:=s2.trans (Ai (o:=.lst (ms.map V.int++go.map V.int)) hL2)
 refine⟨L2,ms++go,rfl,(by rw[Ae,Ati]),(by rw[Aqw];lia),λS qs hS hmem hnd=>?_⟩
 have s4:=s3.trans (Ai (o:=.ext (SetI P w S qs)) hS)
 have hlen:=jo hnd λz hz=>(hmem z).mp hz
 rw[Aqw] at hlen
 refine⟨S,qs,rfl,Ae,λD2 ts hD2 hpm hlt=>?_⟩
 have s5:=s4.trans (Ai (o:=.lst (ts.map V.int)) hD2)
 refine⟨D2,_,rfl,.inl ⟨Aws Ae,λg hg=>?_⟩⟩
 refine k g ts _ (s5.trans (Ai hg)) ⟨Ae,hlt,(by rw[hpm.length_eq];lia),λz=>?_⟩
 conv=>whnf
 rw[hpm.mem_iff,hmem,←hgo]
 exact Au6
def Hq:Fk P w T 2 a.Qz a.Q9 ["number"] (sd):=by
 refine T.Hg.gq ["number"] λcdv A outer s H vs Q E hr h=>?_
 obtain⟨n,rfl,h0,h1,k⟩:=h
 refine⟨_,(Af (A2 (Od (Dg (qc (M3 T) hr T.Rg T.N5 T.Qg (Aa (qv 0) Ad)))) (Af Je) Ao)),?_⟩
 exact⟨n,rfl,yc ⟨h0,h1⟩ k⟩
def Kf:Au ["self","rule","left","more","moved","day","pair"] ["self","rule","left","more","moved"] (Ah Bm):=qsc
def F6 (T:Wg K mg base a)(n:Nat):FnOk P w K mg base CX0 true (24+n+1) a.G3 a.Co ["self","rule","left","more","moved"] (Te (jd a) n):=by
 refine T.dg.go Kf λcdv A outer s H vs Q E hr h=>?_
 obtain⟨x,dx,y,v1,v2,v3,r,ls,ms,mv,H0,rfl,hx,h0,s0,hr0,hn,ok,o1,o2,o3,⟨⟨l1,l2,l3⟩,hls,hms,hmv⟩,k⟩:=h
 refine⟨_,(Ac (Ce (K:=K) rfl (qv 0) (qv 1))
  (Nb (Ce (K:=K) rfl (qv 0) (El (Ak ke (qv 2) F0 (Al _)) (Ea Ad) (qty (Bf (K:=K) rfl) T.Es (Aa (qv 2) Ad))))
  (Nb (Ce (K:=K) rfl (qv 0) (El (Ak ke (qv 3) F0 (Al _)) (Ea Ad) (qty (Bf (K:=K) rfl) T.Es (Aa (qv 3) Ad))))
  (Nb (Ce (K:=K) rfl (qv 0) (El (Ak ke (qv 4) F0 (Al _)) (Ea Ad) (qty (Bf (K:=K) rfl) T.Es (Aa (qv 4) Ad))))
  (Ac (aj Ash rfl (Sl (K:=K) rfl (Ag Ae3 (qf K (qv 0)) (qf K (qv 0)))) (qnm 5 Kf.nd) (Af (Ct (qc (Hq T) hr T.J2 T.Hg T.Jv (Aa (qv 5) Ad)))))
  (Ac (aj Ash rfl (Sl (K:=K) rfl (qf K (qv 0))) (qnm 6 Kf.nd) (Ac (Ct (qc (Hq T) hr T.J2 T.Hg T.Jv (Aa (qix K (qv 6) Ab) Ad)))
  (Af (Ct (qc (Hq T) hr T.J2 T.Hg T.Jv (Aa (qix K (qv 6) Ab) Ad))))))
  (Ac (Ce (K:=K) rfl (qv 0) (ur (D:=λC R=>(C=a.Am/\R=λx vs H Q=>Vq (jd a) n (x::(vs++([]:List V))) H Q E0)) (qv 0) (by rintro C R ⟨rfl,rfl⟩;exact(qan T.Ar T.Sb ((Sd T n).mono dkl) hr T.Ta))))
  (Af (Ce (K:=K) rfl (qv 0) (ur (D:=λC R=>(C=a.Am/\R=λx vs H Q=>(aq a.Am) (x::(vs++([]:List V))) H Q E0)) (qv 0) (by rintro C R ⟨rfl,rfl⟩<;>first|exact(qan T.Ar T.U5 ((U9 T).mono dkl) hr T.Vz)))))))))))),?_⟩
 refine⟨hx,T.Ar,T.Kh,?_⟩
 conv=>whnf
 rw[show Ah3 "rule" (V.ref y) []=([("rule",V.ref y)]:List (Str×V)) from rfl]
 have sX1:F5 x H (upd H x (.ins a.Am dx [("rule",V.ref y)])):=λc u hc e=>by rw[An hc];exact e
 have hx1:(upd H x (.ins a.Am dx [("rule",V.ref y)])) x=some (.ins a.Am dx [("rule",V.ref y)]):=Ae
 generalize upd H x (.ins a.Am dx [("rule",V.ref y)])=H1 at*
 refine⟨λσ H'=>∃p,F5 x H H'/\H' x=some (.ins a.Am dx [("rule",V.ref y),("left",V.ref p)])/\H' p=some (.tup (ls.map V.int))/\σ=[some (.ref x),some (.ref y),some v1,some v2,some v3,none,none],?_,?_⟩
 ·
  rcases o1 with⟨rfl,rfl⟩|⟨p,rfl,ht⟩
  ·
   refine⟨λ_=>?_,λz=>absurd (Aqs rfl) z⟩
   refine λp nw=>?_
   have nn:p≠x:=λz=>by rw[z,hx1] at nw;cases nw
   refine⟨(Ai nw) _ _ hx1,T.Ar,T.Gh,?_⟩
   exact⟨p,(λc u hc e=>by rw[An hc];exact(Ai nw) _ _ (sX1 _ _ hc e)),Ae,(by rw[An nn];exact Ae),rfl⟩
  ·
   have S0:=sx0 h0 s0 sX1
   refine⟨λz=>absurd (Aqu z) (λe=>nomatch e),λ_=>?_⟩
   refine⟨p,_,rfl,.inr ⟨Awq (S0 _ _ ht),?_⟩⟩
   refine⟨hx1,T.Ar,T.Gh,?_⟩
   have sx2:F5 x H (upd _ x (.ins a.Am dx [("rule",V.ref y),("left",V.ref p)])):=λc u hc e=>by rw[An hc];exact sX1 _ _ hc e
   have S:=sx0 h0 s0 sx2
   exact⟨p,sx2,Ae,S _ _ ht,rfl⟩
 rintro σ H2 ⟨p,sX2,hx2,hp,rfl⟩
 refine⟨λσ H'=>∃p q,F5 x H H'/\H' x=some (.ins a.Am dx [("rule",V.ref y),("left",V.ref p),("more",V.ref q)])/\H' p=some (.tup (ls.map V.int))/\H' q=some (.tup (ms.map V.int))/\σ=[some (.ref x),some (.ref y),some v1,some v2,some v3,none,none],?_,?_⟩
 ·
  rcases o2 with⟨rfl,rfl⟩|⟨q,rfl,ht⟩
  ·
   refine⟨λ_=>?_,λz=>absurd (Aqs rfl) z⟩
   refine λq nw=>?_
   have nn:q≠x:=λz=>by rw[z,hx2] at nw;cases nw
   refine⟨(Ai nw) _ _ hx2,T.Ar,T.Kw,?_⟩
   exact⟨p,q,(λc u hc e=>by rw[An hc];exact(Ai nw) _ _ (sX2 _ _ hc e)),Ae,(by rw[An (λe=>by rw[e,hx2] at hp;cases hp)];exact(Ai nw) _ _ hp),(by rw[An nn];exact Ae),rfl⟩
  ·
   have S0:=sx0 h0 s0 sX2
   refine⟨λz=>absurd (Aqu z) (λe=>nomatch e),λ_=>?_⟩
   refine⟨q,_,rfl,.inr ⟨Awq (S0 _ _ ht),?_⟩⟩
   refine⟨hx2,T.Ar,T.Kw,?_⟩
   have sx2:F5 x H (upd _ x (.ins a.Am dx [("rule",V.ref y),("left",V.ref p),("more",V.ref q)])):=λc u hc e=>by rw[An hc];exact sX2 _ _ hc e
   have S:=sx0 h0 s0 sx2
   exact⟨p,q,sx2,Ae,(by rw[An (λe=>by rw[e,hx2] at hp;cases hp)];exact hp),S _ _ ht,rfl⟩
 rintro σ H3 ⟨p,q,sX3,hx3,hp,hq,rfl⟩
 refine⟨λσ H'=>∃p q o,F5 x H H'/\H' x=some (.ins a.Am dx [("rule",V.ref y),("left",V.ref p),("more",V.ref q),("moved",V.ref o)])/\H' p=some (.tup (ls.map V.int))/\H' q=some (.tup (ms.map V.int))/\MvAt H' o mv/\σ=[some (.ref x),some (.ref y),some v1,some v2,some v3,none,none],?_,?_⟩
 ·
  rcases o3 with⟨rfl,rfl⟩|⟨o,rfl,ht⟩
  ·
   refine⟨λ_=>?_,λz=>absurd (Aqs rfl) z⟩
   refine λo nw=>?_
   have nn:o≠x:=λz=>by rw[z,hx3] at nw;cases nw
   refine⟨(Ai nw) _ _ hx3,T.Ar,T.Fh,?_⟩
   exact⟨p,q,o,(λc u hc e=>by rw[An hc];exact(Ai nw) _ _ (sX3 _ _ hc e)),Ae,(by rw[An (λe=>by rw[e,hx3] at hp;cases hp)];exact(Ai nw) _ _ hp),(by rw[An (λe=>by rw[e,hx3] at hq;cases hq)];exact(Ai nw) _ _ hq),⟨[],by rw[An nn];exact Ae,RowOk.nil,rfl⟩,rfl⟩
  ·
   have S0:=sx0 h0 s0 sX3
   refine⟨λz=>absurd (Aqu z) (λe=>nomatch e),λ_=>?_⟩
   refine⟨o,_,rfl,.inr ⟨Awq (S0 _ _ ht.choose_spec.1),?_⟩⟩
   refine⟨hx3,T.Ar,T.Fh,?_⟩
   have sx2:F5 x H (upd _ x (.ins a.Am dx [("rule",V.ref y),("left",V.ref p),("more",V.ref q),("moved",V.ref o)])):=λc u hc e=>by rw[An hc];exact sX3 _ _ hc e
   have S:=sx0 h0 s0 sx2
   exact⟨p,q,o,sx2,Ae,(by rw[An (λe=>by rw[e,hx3] at hp;cases hp)];exact hp),(by rw[An (λe=>by rw[e,hx3] at hq;cases hq)];exact hq),ht.up S,rfl⟩
 rintro σ H4 ⟨p,q,o,sX4,hx4,hp,hq,ho,rfl⟩
 refine⟨hx4,T.Ar,T.Gh,rfl,hx4,T.Ar,T.Kw,rfl,p,q,_,_,rfl,rfl,hp,hq,?_,λc H5 s5 hcc=>⟨c,rfl,⟨_,Awq hcc⟩,?_⟩⟩
 ·
  rw[Aqv,Aqv]
  exact Aq3 (by lia:_<=20) dkd
 rw[←Ati] at hcc
 refine V3 (H0:=H5) (Sw (Awq hcc)) (λi σ H'=>H5=H'/\∃z,σ=[some (.ref x),some (.ref y),some v1,some v2,some v3,z,none]) ⟨rfl,_,rfl⟩ (λ_ _ _ _ h=>h.1▸Awr _) ?_ ?_
 ·
  rintro i v σ _ hv ⟨rfl,z,rfl⟩
  obtain⟨b,hb,rfl⟩:=Arz.mp (Asf hv)
  have hd:Dy b:=(Ar0.mp hb).elim (hls b) (hms b)
  exact⟨b,rfl,hd.1,hd.2,rfl,_,rfl⟩
 rintro σ _ ⟨rfl,z1,rfl⟩
 have hx5:=s5 _ _ hx4
 obtain⟨rs,hor,hok,hrs⟩:=id (ho.up s5)
 refine⟨hx5,T.Ar,T.Fh,rfl,o,rfl,⟨_,Awq hor⟩,?_⟩
 refine V3 (H0:=H5) (Sw (Awq hor)) (λi σ H'=>H5=H'/\∃z,σ=[some (.ref x),some (.ref y),some v1,some v2,some v3,z1,z]) ⟨rfl,_,rfl⟩ (λ_ _ _ _ h=>h.1▸Awr _) ?_ ?_
 ·
  rintro i v σ _ hv ⟨rfl,z,rfl⟩
  obtain⟨u,hu,hum,rfl⟩:=ql hv
  have hu1:=hok u hum
  have hd:=hmv u.2 (hrs▸List.mem_map_of_mem hum)
  exact⟨Awq hu1,rfl,u.2.1,rfl,hd.1.1,hd.1.2,Awq hu1,rfl,u.2.2,rfl,hd.2.1,hd.2.2,rfl,_,rfl⟩
 rintro σ _ ⟨rfl,z2,rfl⟩
 have S5:=(sx0 h0 s0 sX4).trans s5
 refine⟨hx5,iz _ _ _ _,⟨rfl,rfl⟩,x,dx,y,p,q,o,r,ls,ms,mv,rfl,hx5,hr0.up S5,hn,ok,s5 _ _ hp,s5 _ _ hq,ho.up s5,⟨⟨l1,l2,l3⟩,hls,hms,hmv⟩,λg gs H6 s6 hg=>?_⟩
 have hx6:=s6 _ _ hx5
 refine⟨hx6,T.Ar,T.Cn,?_⟩
 conv=>whnf
 rw[show Ah3 "gained" (V.ref g) [("rule",V.ref y),("left",V.ref p),("more",V.ref q),("moved",V.ref o)]=([("rule",V.ref y),("left",V.ref p),("more",V.ref q),("moved",V.ref o),("gained",V.ref g)]:List (Str×V)) from rfl]
 have nx:∀{b:Addr}{xs:List V},H6 b=some (.tup xs)->b≠x:=λh e=>by rw[e,hx6] at h;cases h
 have sX7:F5 x H6 (upd H6 x (.ins a.Am dx [("rule",V.ref y),("left",V.ref p),("more",V.ref q),("moved",V.ref o),("gained",V.ref g)])):=λc u hc e=>by rw[An hc];exact e
 have hx7:(upd H6 x (.ins a.Am dx [("rule",V.ref y),("left",V.ref p),("more",V.ref q),("moved",V.ref o),("gained",V.ref g)])) x=some (.ins a.Am dx [("rule",V.ref y),("left",V.ref p),("more",V.ref q),("moved",V.ref o),("gained",V.ref g)]):=Ae
 have sX07:F5 x H (upd H6 x (.ins a.Am dx [("rule",V.ref y),("left",V.ref p),("more",V.ref q),("moved",V.ref o),("gained",V.ref g)])):=λc u hc e=>sX7 _ _ hc (s6 _ _ (s5 _ _ (sX4 _ _ hc e)))
 generalize upd H6 x (.ins a.Am dx [("rule",V.ref y),("left",V.ref p),("more",V.ref q),("moved",V.ref o),("gained",V.ref g)])=H7 at*
 have hm7:MvAt H7 o mv:=by
  obtain⟨rs,a1,a2,a3⟩:=(ho.up s5).up s6
  exact⟨rs,sX7 _ _ (nx a1) a1,λu hu=>sX7 _ _ (nx (a2 u hu)) (a2 u hu),a3⟩
 have hg7:H7 g=some (.tup (gs.map V.int)):=sX7 _ _ (nx hg.1) hg.1
 have hp6:=s6 _ _ (s5 _ _ hp)
 refine⟨hx7,rfl,⟨rfl,rfl⟩,x,dx,y,p,q,o,g,ls,mv,rfl,hx7,sX7 _ _ (nx hp6) hp6,hm7,l1,l3,λl H8 s8 hl=>?_⟩
 have hx8:=s8 _ _ hx7
 refine⟨hx8,T.Ar,T.O0,?_⟩
 conv=>whnf
 rw[show Ah3 "lost" (V.ref l) [("rule",V.ref y),("left",V.ref p),("more",V.ref q),("moved",V.ref o),("gained",V.ref g)]=([("rule",V.ref y),("left",V.ref p),("more",V.ref q),("moved",V.ref o),("gained",V.ref g),("lost",V.ref l)]:List (Str×V)) from rfl]
 have nx8:∀{b:Addr}{ho:HO},H8 b=some ho->(∀C dx fs,ho≠ .ins C dx fs)->b≠x:=λh hh e=>by rw[e,hx8] at h;cases h;exact hh _ _ _ rfl
 have sX9:F5 x H8 (upd H8 x (.ins a.Am dx [("rule",V.ref y),("left",V.ref p),("more",V.ref q),("moved",V.ref o),("gained",V.ref g),("lost",V.ref l)])):=λc u hc e=>by rw[An hc];exact e
 have hx9:(upd H8 x (.ins a.Am dx [("rule",V.ref y),("left",V.ref p),("more",V.ref q),("moved",V.ref o),("gained",V.ref g),("lost",V.ref l)])) x=some (.ins a.Am dx [("rule",V.ref y),("left",V.ref p),("more",V.ref q),("moved",V.ref o),("gained",V.ref g),("lost",V.ref l)]):=Ae
 have sX09:F5 x H (upd H8 x (.ins a.Am dx [("rule",V.ref y),("left",V.ref p),("more",V.ref q),("moved",V.ref o),("gained",V.ref g),("lost",V.ref l)])):=λc u hc e=>sX9 _ _ hc (s8 _ _ (sX07 _ _ hc e))
 generalize upd H8 x (.ins a.Am dx [("rule",V.ref y),("left",V.ref p),("more",V.ref q),("moved",V.ref o),("gained",V.ref g),("lost",V.ref l)])=H9 at*
 obtain⟨kvs,hl1,hl2⟩:=hl
 have hg8:=s8 _ _ hg7
 exact k H9 sX09 (RtAt.isCh.mpr ⟨dx,y,p,q,o,g,l,gs,kvs,hx9,hr0.up (sx0 h0 s0 sX09),⟨sX9 _ _ (nx8 hg8 (λ_ _ _ e=>nomatch e)) hg8,hg.2⟩,sX9 _ _ (nx8 hl1 (λ_ _ _ e=>nomatch e)) hl1,hl2⟩)
def Ca:Fk P w T 1 a.L7 a.L8 ["_law_script","_law_k"] (lj K):=by
 refine T.B9.gq ["_law_script","_law_k"] λcdv A outer s H vs Q E hr h=>?_
 obtain⟨p,ns,i,rfl,hS,h0,k⟩:=h
 refine⟨_,(Ac (A2 (Ak Lq (qv 1) (qb (A7 (K:=K) rfl) T.P7 (Aa (qv 0) Ad)) (Al _)) (Af (Aj (qil K (qv 0) (qv 1)))) Ao)
  (Af (Aj Ab))),?_⟩
 refine⟨p,_,rfl,.inl hS,?_⟩
 refine⟨λe1=>?_,λe1=>k 0⟩
 have e1':=Aqu e1
 rw[Aqv] at e1'
 obtain⟨t,_,et⟩:=eo h0 e1'
 exact⟨hS,et,k t⟩
def fk:Au ["_law_pick","_law_more"] ["_law_pick"] (Ah Yn):=qsc
def B5:Fk P w T 1 a.Ud a.Ug ["_law_pick"] (w6):=by
 refine T.Ck.go fk λcdv A outer s H vs Q E hr h=>?_
 obtain⟨p,rfl,k⟩:=h
 refine⟨_,(Ac (Eh 1 fk.nd (Ag Av (Ag Aq (Ag Mv (qv 0) Ab) Ab) Ab))
  (Af (Aj (Ag Av (Ag Mv (qv 1) (qv 1)) Ab)))),?_⟩
 refine⟨_,_,rfl,rfl,.inr ⟨dkd,dkd⟩,?_⟩
 have b0:0<=(p*48271+11)%2147483647:=Arp _ dkd
 have b1:(p*48271+11)%2147483647<2147483647:=Aro _ dkd
 refine⟨_,_,rfl,rfl,.inl ⟨dkl,dkl⟩,?_⟩
 exact k _ (Arp _ dkd)
def x6:Fk P w T 1 a.U1 a.Uz ["_law_year_here"] (n6):=by
 refine T.oa.gq ["_law_year_here"] λcdv A outer s H vs Q E hr h=>?_
 obtain⟨y,rfl,k⟩:=h
 refine⟨_,(Af (Aj (Ac8 (A6 Bg (Ag Av (qv 0) Ab) Ab (Al _)) (Dc (Dk (A6 Bg (Ag Av (qv 0) Ab) Ab (Al _)) (Dc (A6 pf (Ag Av (qv 0) Ab) Ab (Al _)))))))),?_⟩
 refine⟨λh1=>?_,λh1=>?_⟩
 ·
  rw[Sf] at h1
  have e:DM.leap y=true:=by rw[DM.yw];exact .inl (Aqu h1)
  rw[e] at k
  exact k
 ·
  rw[Sf] at h1
  refine⟨λh2=>?_,λh2=>?_⟩
  ·
   rw[Sf] at h2
   conv=>whnf
   have e:DM.leap y= !decide (V.int (y%100)=V.int 0):=by
    unfold DM.leap
    rw[Sf,h2]
    simp at h1
    simp[h1]
   rw[e] at k
   exact k
  ·
   rw[Sf] at h2
   have e:DM.leap y=false:=by
    unfold DM.leap
    simp at h1 h2
    simp[h1,h2]
   rw[e] at k
   exact k
def jr:Au ["_law_year_here","_law_many"] ["_law_year_here"] (Ah Yt):=qsc
def Rb:Fk P w T 1 a.Ux a.Uk ["_law_year_here"] (Xx):=by
 refine T.Ph.go jr λcdv A outer s H vs Q E hr h=>?_
 obtain⟨y,rfl,k⟩:=h
 refine⟨_,(Ac (Eh 1 jr.nd (Ag Bc (qv 0) Ab))
  (Af (Aj (Ag Aq (Ag Bc (Ag Aq (Ag Mv (qv 1) Ab) (Ag Az (Ag Aq (qv 1) Ab) Ab)) (Ag Az (Ag Aq (qv 1) Ab) Ab)) (Ag Az (Ag Aq (qv 1) Ab) Ab))))),?_⟩
 refine⟨_,_,rfl,rfl,.inr ⟨dkd,dkd⟩,?_⟩
 exact k
def Ft:Fk P w T 1 a.Uy a.Uj ["_law_pick","_law_base"] (xv):=by
 refine T.F4.gq ["_law_pick","_law_base"] λcdv A outer s H vs Q E hr h=>?_
 obtain⟨p,b,rfl,k⟩:=h
 refine⟨_,(Af (Aj (qb (Ip rfl) T.Se (Aa Ab (Aa (qb (M7 rfl) T.V2 (Aa Ab (Aa (Ag Bc (Ag Aq (qv 1) (Ag Av (qv 0) Ab)) Ab) Ad))) Ad))))),?_⟩
 refine k _ ?_ ?_
 ·
  split
  · split<;>lia
  · lia
 ·
  split
  · lia
  · lia
def vi:Fk P w T 1 a.Qm a.Qb ["_law_pick"] (ud):=by
 refine T.h8.gq ["_law_pick"] λcdv A outer s H vs Q E hr h=>?_
 obtain⟨p,rfl,k⟩:=h
 refine⟨_,(Af (Aj (qil K (Lv (Aa Ab (Aa Ab (Aa Ab (Aa Ab (Aa (Ag Aq Ab (Ag Av (Ag Az (qv 0) Ab) Ab)) (Aa Ab (Aa (Ag Aq Ab (Ag Av (Ag Az (qv 0) Ab) Ab)) Ad)))))))) (Ag Av (qv 0) Ab)))),?_⟩
 refine λL hL=>?_
 obtain⟨t,t0,t1,ht⟩:=Wr (ts:=[1,1,2,3,1+p/7%9,12,1+p/7%1000]) (i:=p%7) 1 1000 (Arp _ dkd) (Aro _ dkd) (λt ht=>by
  rcases Ara.mp ht with rfl|ht;· decide
  rcases Ara.mp ht with rfl|ht;· decide
  rcases Ara.mp ht with rfl|ht;· decide
  rcases Ara.mp ht with rfl|ht;· decide
  rcases Ara.mp ht with rfl|ht;· lia
  rcases Ara.mp ht with rfl|ht;· decide
  rw[Arm] at ht;subst ht;lia)
 exact⟨Aws Ae,ht,k t _ t0 t1 (Ai hL)⟩
def o5:Fk P w T 2 a.N4 a.Nq ["year","month"] (qq):=by
 refine T.ao.gq ["year","month"] λcdv A outer s H vs Q E hr h=>?_
 obtain⟨y,m,rfl,h1,h2,k⟩:=h
 refine⟨_,(Ac (A2 (Awt (Ob (Ak Bg (qv 1) Ab (Al _)) (J1 (Dg (qc (oe T) hr T.sk T.jk T.tm (Aa (qv 0) Ad)))))) (Af (Aj Ab)) Ao)
  (Af (Aj (qix K (zx rfl T.Fp) (Ag Bc (qv 1) Ab))))),?_⟩
 refine⟨λe1=>?_,λe1=>?_⟩
 ·
  rw[Sf] at e1
  have e1':m=2:=Aqu e1
  refine⟨y,rfl,?_⟩
  refine⟨λe2=>?_,λe2=>?_⟩
  ·
   have e:DM.len y m=29:=by unfold DM.len;rw[if_pos e1',if_pos e2]
   rw[e] at k
   exact k
  · exact⟨T.Tc _,Ak0 h1 h2 (λz=>e2 z.2),k⟩
 ·
  rw[Sf] at e1
  refine Cu ?_
  exact⟨T.Tc _,Ak0 h1 h2 (λz=>e1 (Aqs z.1)),k⟩
def Y6 (T:Wg K mg base a)(n:Nat)(IH:Ya P w K mg base a n)(ID:Zt P w K mg base a n):FnOk P w K mg base CX0 true (20+n+1) a.Ex a.E3 ["self","begin","end"] (spD (jd a) (n+1) 8):=by
 refine T.cb.gq ["self","begin","end"] λcdv A outer s H vs Q E hr h=>?_
 obtain⟨x,b,e,t,rfl,hk,hn,hr0,ok,hw,hs,k⟩:=h
 refine⟨_,(Af (Aj (qc (r8 T) hr T.y9 T.o6 T.yt (Aa (Ba (n:=2) (D:=dD a n) (qf K (qv 0)) (Ahm T ID rfl rfl rfl rfl rfl hr dkl) (Aa (qv 1) (Aa (qv 2) Ad))) (Aa (Ba (n:=2) (D:=dD a n) (qf K (qv 0)) (Ahm T ID rfl rfl rfl rfl rfl hr dkl) (Aa (qv 1) (Aa (qv 2) Ad))) Ad))))),?_⟩
 obtain⟨p,q,rfl⟩:=kdJ hk
 obtain⟨dx,y,z,hx,h1,h2⟩:=RtAt.isEi.mp hr0
 have n1:dep p<=n/\dep q<=n:=by have:max (dep p) (dep q)+1<=n+1:=hn;lia
 have hw1:Wn n b e:=by obtain⟨h0,h1,h2,h3,h4⟩:=hw;exact⟨dkl,dkl,dkl,dkl,dkl⟩
 have hN:DJ.Nar b e:=by rcases hs with h|⟨_,h⟩|⟨_,_,_,_,h,_⟩<;>first|exact h|cases h
 obtain⟨C1,dx1,fs1,R1,ea1,eb1,ec1,ed1⟩:=Sh (a:=a) (n:=n) h1 n1.1 ok.1 hw1 (.inl hN)
 refine⟨hx,T.K7,T.T3,rfl,ea1,eb1,ec1,ed1 _ λD1 H1 u1 hD1 f1=>?_⟩
 obtain⟨C2,dx2,fs2,R2,ea2,eb2,ec2,ed2⟩:=Sh (a:=a) (n:=n) (h2.up u1) n1.2 ok.2 hw1 (.inl hN)
 refine⟨u1 _ _ hx,T.K7,T.O7,rfl,ea2,eb2,ec2,ed2 _ λD2 H2 u2 hD2 f2=>?_⟩
 refine⟨D1,D2,_,_,rfl,u2 _ _ hD1,hD2,Aq3 (hN.few ok.1) dkd,Aq3 (hN.few ok.2) dkd,DR.Aw _ _ _,DR.Aw _ _ _,(λqs nd hq=>Aho hN nd λz hz=>(hq z hz).elim (λw=>qx ok.1 w) λw=>qx ok.2 w),λD H' ms s' hD hp hm f'=>k D H' ((u1.trans u2).trans s') (by rw[hD,DJ.Aig hp hm]) (none_of (u1.trans u2) f')⟩
def Yu:Fk P w T 2 a.Gw a.Gx ["self","rule","many"] (gu a.Bh):=by
 refine T.di.gq ["self","rule","many"] λcdv A outer s H vs Q E hr h=>?_
 obtain⟨x,dx,y,m,rfl,m0,m1,hx,k⟩:=h
 refine⟨_,(Ac (Ct (qc (Bw T) hr T.B6 T.Bu T.B7 (Aa (qv 2) (Aa (vz j9 (B2 rfl T.J7)) (Aa (B2 rfl T.J7) Ad)))))
  (Ac (Ce (K:=K) rfl (qv 0) (qv 1))
  (Af (Ce (K:=K) rfl (qv 0) (qv 2))))),?_⟩
 refine⟨m, -1000,1000,rfl,m0,m1,?_⟩
 refine⟨hx,T.E6,T.Oq,?_⟩
 refine⟨Ae,T.E6,T.Gi,?_⟩
 exact k _ (λc u hc e=>by rw[An hc,An hc];exact e) Ae
def Jd:Au ["self","begin","end","kept","gained"] ["self","begin","end"] (Ah F8):=qsc
def X5 (T:Wg K mg base a)(n:Nat)(IH:Ya P w K mg base a n)(ID:Zt P w K mg base a n):FnOk P w K mg base CX0 true (20+n+1) a.D9 a.Dz ["self","begin","end"] (spD (jd a) (n+1) 13):=by
 refine T.Zj.go Jd λcdv A outer s H vs Q E hr h=>?_
 obtain⟨x,b,e,t,rfl,hk,hn,hr0,ok,hw,hs,k⟩:=h
 refine⟨_,(Ac (Ue (i0:=3) Jd.nd rfl rfl (N:=["day","self"]) (cap:=[none,some 0]) (by show Cf (Ah F8) _ ["self","begin","end","kept","gained"] _ _;exact⟨rfl,dkk,dkk,dkk,dkk,rfl,dkk⟩) rfl (T7 (K:=K) rfl (Ba (n:=2) (D:=dD a n) (qf K (qv 0)) (Ahm T ID rfl rfl rfl rfl rfl hr dkl) (Aa (qv 1) (Aa (qv 2) Ad)))) (λC s H fp=>⟨(Fq (i:=0) (by show(["day","self"]:List Str).Nodup;decide+kernel) rfl (Or.inl rfl) (.inr rfl)),(af (Ami (t6 (Acg hr) (qv 0) (qf K (qv 1))) (by with_unfolding_all rfl))),(qv 0)⟩))
  (Ac (Eh 4 Jd.nd (pv Adc (qf K (qv 0)) (qg (qc (Kg T) hr T.L4 T.Jj T.L9 (Aa (qf K (qv 0)) (Aa (qv 1) Ad)))) (qg (qc (Kg T) hr T.L4 T.Jj T.L9 (Aa (qf K (qv 0)) (Aa (qv 2) Ad))))))
  (Af (Aj (qc (r8 T) hr T.y9 T.o6 T.yt (Aa (qv 3) (Aa (qty (Qr (K:=K) rfl) T.Tp (Aa (qv 4) Ad)) Ad))))))),?_⟩
 obtain⟨r,ls,ms,mv,rfl⟩:=kdJ hk
 obtain⟨dx,y,p,q,o,g,l,gs,kvs,hx,h1,⟨hg,hr1,hgl,hgm⟩,hl,hlm⟩:=RtAt.isCh.mp hr0
 have n1:dep r<=n:=by have:dep r+1<=n+1:=hn;lia
 have hw1:Wn n b e:=by obtain⟨h0,h1,h2,h3,h4⟩:=hw;exact⟨dkl,dkl,dkl,dkl,dkl⟩
 have hs2:Sz r b e:=by
  rcases hs with h|⟨_,h⟩|⟨_,_,_,_,h,_⟩
  · exact .inl h
  · cases h
  · cases h;exact .inr (.inl ⟨_,rfl⟩)
 have hlen:(days (ft r) b e).length<=1000:=by
  rcases hs with h|⟨_,h⟩|⟨ds,_,_,_,h,h40⟩
  · exact h.few ok.1
  · cases h
  ·
   cases h
   have:=jo ((DR.Aw (ft (.s (.dy ds))) b e).imp λh=>by lia) λz hz=>Aqu (DR.As.mp hz).2.2
   lia
 obtain⟨C1,dx1,fs1,R1,ea1,eb1,ec1,ed1⟩:=Sh (a:=a) (n:=n) h1 n1 ok.1 hw1 hs2
 refine⟨hx,T.Ar,T.Kh,rfl,ea1,eb1,ec1,ed1 _ λD1 H1 u1 hD1 f1=>⟨D1,rfl,⟨_,Aws hD1⟩,?_⟩⟩
 refine Ie (Ua (K:=K) (Aws hD1)) (Ae7 (λd=>!decide (d∈se ls mv))) id (by rw[Aqv];lia) ?_ (λv hv _ H' _ R hR=>hR H' (Awr _)) (λD H2 s2 hD0 hD=>?_)
 ·
  intro v hv H' sm R hR
  obtain⟨d,hd,rfl⟩:=Arz.mp hv
  refine⟨(u1.trans sm) _ _ hx,T.Ar,T.O0,rfl,l,_,rfl,DGet.k (k:=Sum.inl d) ((u1.trans sm) _ _ hl),_,rfl,?_⟩
  conv=>whnf
  rw[hlm d]
  exact hR H' (Awr _)
 rw[List.map_id,Aj6] at hD
 have S2:=u1.trans s2
 have bl:=DC.d6 gs b
 have el:=DC.d6 gs e
 refine⟨S2 _ _ hx,T.Ar,T.Cn,rfl,S2 _ _ hx,T.Ar,T.Cn,rfl,g,gs,b,rfl,Awq (S2 _ _ hg),hr1,dkl,_,rfl,S2 _ _ hx,T.Ar,T.Cn,rfl,g,gs,e,rfl,Awq (S2 _ _ hg),hr1,dkl,_,rfl,g,_,rfl,S2 _ _ hg,λp2 H3 s3 hp2=>?_⟩
 rw[Aji (by rw[Aqv];exact el) (by rw[Aqv];exact bl),←List.map_take,←List.map_drop] at hp2
 refine⟨p2,_,rfl,.inr (Awq hp2),λl4 hl4=>?_⟩
 have s4:=Ai (o:=.lst (((gs.take (DC.below gs e)).drop (DC.below gs b)).map V.int)) hl4
 refine⟨D,l4,_,_,rfl,s4 _ _ (s3 _ _ hD),Ae,?_,?_,(DR.Aw _ _ _).filter _,(hr1.sublist (List.take_sublist _ _)).sublist (List.drop_sublist _ _),?_,λD5 H5 ms5 s5 hD5 hp5 hm5 f5=>?_⟩
 · exact Aq3 (Atc _ _) dkl
 ·
  rw[Ast,Ar4]
  lia
 ·
  intro qs nd hq
  rcases hs with h|⟨_,h⟩|⟨ds,_,_,_,h,h40⟩
  ·
   refine Aho h nd λz hz=>?_
   rcases hq z hz with w|w
   · exact qx ok.1 (Asz.mp w).1
   ·
    obtain⟨w1,w2,w3⟩:=(DJ.yo hr1 z).mp w
    have:=DJ.Abv ok.2.2.2.1 ok.2.2.2.2 ((hgm z).mp w1)
    exact⟨w2,w3,this.1,this.2⟩
  · cases h
  ·
   cases h
   have hl:=jo (ds:=ds++gs) nd λz hz=>by
    rcases hq z hz with w|w
    · exact Asa _ (Aqu (DR.As.mp (Asz.mp w).1).2.2)
    · exact Aq8 _ (List.mem_of_mem_take (List.mem_of_mem_drop w))
   rw[Aqw] at hl
   lia
 refine k D5 H5 (((S2.trans s3).trans s4).trans s5) ?_ (none_of ((S2.trans s3).trans s4) f5)
 conv=>whnf
 rw[hD5,DJ.Aiz hp5 hgm λz=>by rw[hm5,DJ.yo hr1]]
def Ia:Fk P w T 2 a.Nt a.Nz ["_law_year_here","_law_month"] (oz):=by
 refine T.Hr.gq ["_law_year_here","_law_month"] λcdv A outer s H vs Q E hr h=>?_
 obtain⟨y,m,rfl,k⟩:=h
 refine⟨_,(Ac (A2 (Ak Bg (qv 1) Ab (Al _)) (Af (Aj (Ag Aq Ab (qty Xp T.qe (Aa (qc (x6 T) hr T.Abn T.oa T.Aa4 (Aa (qv 0) Ad)) Ad))))) Ao)
  (Af (Aj (Ag Aq Ab (qty Xp T.qe (Aa (A6 (Mp (K:=K) rfl) (qv 1) (Ea (P9 [.int 1,.int 3,.int 5,.int 7,.int 8,.int 10,.int 12] dkk)) (by with_unfolding_all rfl)) Ad)))))),?_⟩
 refine⟨λe1=>?_,λe1=>?_⟩
 ·
  rw[Sf] at e1
  have e1':m=2:=Aqu e1
  refine⟨y,rfl,.inr ⟨_,rfl,?_⟩⟩
  conv=>whnf
  have q:=k H (Awr _)
  have e:DM.len y m=28+(if DM.leap y=true then 1 else 0):=by
   unfold DM.len
   rw[if_pos e1']
   cases DM.leap y<;>rfl
  rw[e] at q
  exact q
 ·
  rw[Sf] at e1
  have e1':¬m=2:=λz=>e1 (Aqs z)
  refine λp hp=>⟨p,_,rfl,.inr (Awq Ae),rfl,rfl,.inr ⟨_,rfl,?_⟩⟩
  conv=>whnf
  have e:DM.len y m=30+(if(if false=true then !inV (.int m) [.int 1,.int 3,.int 5,.int 7,.int 8,.int 10,.int 12] else inV (.int m) [.int 1,.int 3,.int 5,.int 7,.int 8,.int 10,.int 12])=true then 1 else 0):=by
   unfold DM.len
   rw[if_neg e1',if_neg Arj]
   have:inV (.int m) [.int 1,.int 3,.int 5,.int 7,.int 8,.int 10,.int 12]=decide (m=1∨m=3∨m=5∨m=7∨m=8∨m=10∨m=12):=by
    refine Eq.trans (Nu m [1,3,5,7,8,10,12]) (Asi.mpr ?_)
    conv=>whnf
    simp only[Ara,Ata,Awa]
   rw[this]
   by_cases z:m=1∨m=3∨m=5∨m=7∨m=8∨m=10∨m=12
   · rw[if_pos z,Aqs z];rfl
   · rw[if_neg z,Aqz z];rfl
  rw[e] at k
  exact k _ (Ai hp)
def si:Fk P w T 2 a.Qj a.Qs ["_law_pick","_law_base"] (rn):=by
 refine T.j6.gq ["_law_pick","_law_base"] λcdv A outer s H vs Q E hr h=>?_
 obtain⟨p,b,rfl,k⟩:=h
 refine⟨_,(Af (Aj (qil K (Lv (Aa Ab (Aa (qc (Ft T) hr T.Ht T.F4 T.Hj (Aa (Ag Az (qv 0) Ab) (Aa (qv 1) Ad))) (Aa (Ag Av (Ag Az (qv 0) Ab) Ab) (Aa (qc (Ft T) hr T.Ht T.F4 T.Hj (Aa (Ag Az (qv 0) Ab) (Aa (qv 1) Ad))) (Aa Ab Ad)))))) (Ag Av (qv 0) Ab)))),?_⟩
 refine⟨_,b,rfl,λv1 v10 v11=>?_⟩
 refine⟨_,b,rfl,λv2 v20 v21=>?_⟩
 refine λL hL=>?_
 obtain⟨t,t0,t1,ht⟩:=Wr (ts:=[0,v1,p/7%146097,v2,0]) (i:=p%5) 0 146096 (Arp _ dkd) (Aro _ dkd) (λt ht=>by
  rcases Ara.mp ht with rfl|ht;· decide
  rcases Ara.mp ht with rfl|ht;· lia
  rcases Ara.mp ht with rfl|ht;· lia
  rcases Ara.mp ht with rfl|ht;· lia
  rw[Arm] at ht;subst ht;decide)
 exact⟨Aws Ae,ht,k t _ t0 dkl (Ai hL)⟩
def Nv:Fk P w T 2 a.Qe a.Qu ["_law_pick","_law_base","_law_many"] (vq):=by
 refine T.My.gq ["_law_pick","_law_base","_law_many"] λcdv A outer s H vs Q E hr h=>?_
 obtain⟨p,b,m,rfl,m0,m1,k⟩:=h
 refine⟨_,(Ac (A2 (Ak Bg (Ag Av (qv 0) Ab) Ab (Al _)) (Af (Aj (qty (Bf (K:=K) rfl) T.Es (Aa (Oz (N:=["_law_k","_law_base","_law_pick"]) (cap:=[none,some 1,some 0]) (by show Cf (Ah Qw) _ ["_law_pick","_law_base","_law_many"] _ _;exact⟨rfl,dkk,dkk,dkk,dkk,rfl,dkk⟩) rfl (Th rfl T.Iu (Aa (qv 2) Ad)) (λC s H fp=>⟨(Fq (i:=0) (by show(["_law_k","_law_base","_law_pick"]:List Str).Nodup;decide+kernel) rfl (Or.inl rfl) (.inr rfl)),Ys,(qb (Ip rfl) T.Se (Aa Ab (Aa (Ag Aq (qc (Ft T) hr T.Ht T.F4 T.Hj (Aa (Ag Az (qv 2) Ab) (Aa (qv 1) Ad))) (qv 0)) Ad)))⟩)) Ad)))) Ao)
  (Af (Aj (qty (Bf (K:=K) rfl) T.Es (Aa (Oz (N:=["_law_k","_law_base","_law_pick"]) (cap:=[none,some 1,some 0]) (by show Cf (Ah Qw) _ ["_law_pick","_law_base","_law_many"] _ _;exact⟨rfl,dkk,dkk,dkk,dkk,rfl,dkk⟩) rfl (Th rfl T.Iu (Aa (qv 2) Ad)) (λC s H fp=>⟨(Fq (i:=0) (by show(["_law_k","_law_base","_law_pick"]:List Str).Nodup;decide+kernel) rfl (Or.inl rfl) (.inr rfl)),Ys,(qc (Ft T) hr T.Ht T.F4 T.Hj (Aa (qc (B5 T) hr T.C3 T.Ck T.C5 (Aa (Ag Aq (qv 2) (Ag Mv Ab (qv 0))) Ad)) (Aa (qv 1) Ad)))⟩)) Ad))))),?_⟩
 refine⟨λ_=>?_,λ_=>?_⟩
 ·
  refine⟨_,rfl,dkl,dkl,?_⟩
  refine za (Nd 0 m.toNat _) (λ_ v=>∃d:Int,v=.int d/\Dy d) (by rw[Aqv,Art];lia) (λx _ H' _ R hR=>hR) ?_ (λD H3 ys s3 _ hD hlen hG=>?_)
  ·
   intro x hx H' sm R hR
   obtain⟨i,hi,rfl⟩:=Arz.mp hx
   exact⟨_,b,rfl,λv v0 v1=>hR _ H' (Awr _) ⟨_,rfl,by constructor<;>split<;>lia⟩⟩
  obtain⟨ds,rfl,hds⟩:=V0 λv hv=>(Aed hlen hG v hv).choose_spec.2
  rw[Aqv,Aqv,Art] at hlen
  exact⟨D,_,rfl,.inl ⟨Aws hD,λu hu=>k u ds _ (s3.trans (Ai hu)) Ae hlen hds⟩⟩
 ·
  refine⟨_,rfl,dkl,dkl,?_⟩
  refine za (Nd 0 m.toNat _) (λ_ v=>∃d:Int,v=.int d/\Dy d) (by rw[Aqv,Art];lia) (λx _ H' _ R hR=>hR) ?_ (λD H3 ys s3 _ hD hlen hG=>?_)
  ·
   intro x hx H' sm R hR
   obtain⟨i,hi,rfl⟩:=Arz.mp hx
   exact⟨_,_,rfl,rfl,.inl ⟨dkd,dkd⟩,_,rfl,λn n0=>⟨_,b,rfl,λv v0 v1=>hR _ H' (Awr _) ⟨v,rfl,v0,v1⟩⟩⟩
  obtain⟨ds,rfl,hds⟩:=V0 λv hv=>(Aed hlen hG v hv).choose_spec.2
  rw[Aqv,Aqv,Art] at hlen
  exact⟨D,_,rfl,.inl ⟨Aws hD,λu hu=>k u ds _ (s3.trans (Ai hu)) Ae hlen hds⟩⟩
def Kk:Fk P w T 3 a.L3 a.Mf ["first","every"] (m8):=by
 refine T.Jl.gq ["first","every"] λcdv A outer s H vs Q E hr h=>?_
 obtain⟨f,e,rfl,⟨f0,f1,e0,e1⟩,k⟩:=h
 refine⟨_,(Ac (Ct (qc (Hq T) hr T.J2 T.Hg T.Jv (Aa (qv 0) Ad)))
  (Af (Ct (qc (Bw T) hr T.B6 T.Bu T.B7 (Aa (qv 1) (Aa Ab (Aa (B2 rfl T.Lg) Ad))))))),?_⟩
 exact⟨f,rfl,f0,f1,e,1,1000,rfl,e0,e1,k⟩
def M5:Fk P w T 3 a.Kl a.Gm ["self","step","first"] (ri (ad a)):=by
 refine T.kz.gq ["self","step","first"] λcdv A outer s H vs Q E hr h=>?_
 obtain⟨x,dx,st,fi,rfl,hx,⟨s1,s2,f0,f1⟩,k⟩:=h
 refine⟨_,(Ac (Ct (qc (Bw T) hr T.B6 T.Bu T.B7 (Aa (qv 1) (Aa Ab (Aa (Ag Bc (B2 rfl T.Nj) Ab) Ad)))))
  (Ac (Ct (qc (Hq T) hr T.J2 T.Hg T.Jv (Aa (qv 2) Ad)))
  (Ac (Ce (K:=K) rfl (qv 0) (qv 1))
  (Af (Ce (K:=K) rfl (qv 0) (qv 2)))))),?_⟩
 refine⟨st,1,_,rfl,s1,(by show st<=146097-1;lia),?_⟩
 refine⟨fi,rfl,f0,f1,?_⟩
 refine⟨hx,T.F1,T.Oi,?_⟩
 refine⟨Ae,T.F1,T.Ib,?_⟩
 exact k _ (λc u hc e=>by rw[An hc,An hc];exact e) ⟨dx,Ae⟩
def Vf:Au ["self","days","day"] ["self","days"] (Ah Q6):=qsc
def Ot:Fk P w T 3 a.Mc a.Mg ["self","days"] (ro (ad a)):=by
 refine T.qi.go Vf λcdv A outer s H vs Q E hr h=>?_
 obtain⟨x,dx,p,ds,rfl,hx,hp,⟨hl0,hb⟩,k⟩:=h
 refine⟨_,(Ac (aj Ash rfl (Sl (K:=K) rfl (qv 1)) (qnm 2 Vf.nd) (Af (Ct (qc (Hq T) hr T.J2 T.Hg T.Jv (Aa (qv 2) Ad)))))
  (Af (Ce (K:=K) rfl (qv 0) (qty (Bf (K:=K) rfl) T.Es (Aa (qb (Sn rfl) T.Rf (Aa (qty (Acl rfl) T.xo (Aa (qv 1) Ad)) Ad)) Ad))))),?_⟩
 refine⟨p,rfl,⟨_,Awq hp⟩,?_⟩
 refine V3 (Sw (Awq hp)) (λi σ H'=>H'=H/\∃y,σ=[some (.ref x),some (.ref p),y]) ⟨rfl,_,rfl⟩ (λ_ _ _ _ h=>h.1▸Awr _) ?_ ?_
 ·
  rintro i v σ H1 hv ⟨rfl,y,rfl⟩
  obtain⟨b,hbm,rfl⟩:=Arz.mp (Asf hv)
  obtain⟨b0,b1⟩:=hb b hbm
  exact⟨b,rfl,b0,b1,rfl,_,rfl⟩
 rintro σ H1 ⟨rfl,y,rfl⟩
 refine⟨p,ds,rfl,hp,dkl,λD qs hD hmem hnd=>?_⟩
 have u1:=Ai (o:=.ext (SetI P w D qs)) hD
 have hq:=jo hnd λz hz=>(hmem z).mp hz
 refine⟨D,qs,rfl,Ae,λD2 ms hD2 hpm hlt=>?_⟩
 have hms:∀z,z∈ms↔z∈ds:=λz=>by rw[hpm.mem_iff,hmem]
 have hlen:ms.length<=1000:=by
  have:=jo (hlt.imp λh=>by lia) λz hz=>(hms z).mp hz
  lia
 have u2:=Ai (o:=.lst (ms.map V.int)) hD2
 refine⟨D2,_,rfl,.inl ⟨Aws Ae,λd hd=>?_⟩⟩
 have u3:=Ai (o:=.tup (ms.map V.int)) hd
 have U:=(u1.trans u2).trans u3
 have nd:d≠x:=λe=>by rw[e,(u1.trans u2) _ _ hx] at hd;cases hd
 refine⟨U _ _ hx,T.Qc,T.Mx,?_⟩
 exact k _ (λc u hc e=>by rw[An hc];exact U _ _ e) ⟨dx,d,ms,Ae,by rw[An nd];exact Ae,hlt,hlen,hms⟩
def Fz:Au ["_law_day_here","_law_year_here","_law_left","_law_month"] ["_law_day_here"] (Ah Zk):=qsc
def Hi:Fk P w T 3 a.Ul a.Uc ["_law_day_here"] (xm):=by
 refine T.Hn.go Fz λcdv A outer s H vs Q E hr h=>?_
 obtain⟨d,rfl,h0,h1,k⟩:=h
 refine⟨_,(Ac (Eh 1 Fz.nd (Ag Aq Ab (Ag Az (Ag Mv (qv 0) Ab) Ab)))
  (Ac (A2 (Ak qd (qc (Rb T) hr T.Ut T.Ph T.U4 (Aa (qv 1) Ad)) (qv 0) (Al _)) (Af (Eh 1 Fz.nd (Ag Bc (qv 1) Ab))) (Af (A2 (Ak ie (qc (Rb T) hr T.Ut T.Ph T.U4 (Aa (Ag Aq (qv 1) Ab) Ad)) (qv 0) (Al _)) (Af (Eh 1 Fz.nd (Ag Aq (qv 1) Ab))) Ao)))
  (Ac (Eh 2 Fz.nd (Ag Bc (qv 0) (qc (Rb T) hr T.Ut T.Ph T.U4 (Aa (qv 1) Ad))))
  (Ac (Eh 3 Fz.nd Ab)
  (Ac (T6 Ash (Ak Aao (qv 2) (qc (Ia T) hr T.Lf T.Hr T.Lb (Aa (qv 1) (Aa (qv 3) Ad))) (Al _)) (Ac (Eh 2 Fz.nd (Ag Bc (qv 2) (qc (Ia T) hr T.Lf T.Hr T.Lb (Aa (qv 1) (Aa (qv 3) Ad)))))
  (Af (Eh 3 Fz.nd (Ag Aq (qv 3) Ab)))))
  (Af (Aj (Ea (Aa (qv 1) (Aa (qv 3) (Aa (Ag Aq (qv 2) Ab) Ad))))))))))),?_⟩
 obtain⟨y1,y2,y3,y4⟩:=DM.Aok h0 h1
 refine⟨_,_,rfl,rfl,.inr ⟨dkd,dkd⟩,?_⟩
 refine⟨_,rfl,?_⟩
 refine⟨λe1=>?_,λe1=>?_⟩
 ·
  conv=>whnf
  have e:2000+d*400/146097-1=DM.yr d:=by unfold DM.yr;rw[if_pos (Aqu e1)]
  have z1:DM.year (2000+d*400/146097-1)<=d:=by rw[e];exact y1
  have z2:d<DM.year ((2000+d*400/146097-1)+1):=by rw[e];exact y2
  have z3:2000<=2000+d*400/146097-1:=by rw[e];exact y3
  have z4:2000+d*400/146097-1<2400:=by rw[e];exact y4
  refine⟨_,rfl,?_⟩
  refine⟨λm σ H'=>∃mo left:Int,σ=[some (.int d),some (.int (2000+d*400/146097-1)),some (.int left),some (.int mo)]/\1<=mo/\mo<=12/\0<=left/\DM.mb (12*((2000+d*400/146097-1)-2000)+(mo-1))+left=d/\Same H H'/\m=(12-mo).toNat,⟨11,1,d-DM.year (2000+d*400/146097-1),rfl,dkl,dkl,dkl,?_,Awr _,rfl⟩,?_⟩
  ·
   rw[show(12*((2000+d*400/146097-1)-2000)+(1-1:Int))=12*((2000+d*400/146097-1)-2000) by lia,DM.Wd]
   lia
  ·
   rintro m σ H1 ⟨mo,left,rfl,m1,m2,m3,m4,sm,rfl⟩
   generalize 2000+d*400/146097-1=Y at*
   have en:(12*(Y-2000)+(mo-1))/12=Y-2000:=by lia
   have er:(12*(Y-2000)+(mo-1))%12=mo-1:=by lia
   have ms:=DM.Vu (12*(Y-2000)+(mo-1))
   rw[en,er,show(2000:Int)+(Y-2000)=Y by lia,show mo-1+1=mo by lia] at ms
   refine⟨_,_,rfl,λH2 s2=>?_⟩
   refine⟨λe2=>?_,λe2=>?_⟩
   ·
    have e2':=Aqu e2
    have m12:mo≠12:=by
     intro z
     subst z
     have:=DM.Wd (Y+1)
     rw[show 12*(Y+1-2000)=12*(Y-2000)+(12-1)+1 by lia] at this
     lia
    refine⟨λσ H'=>∃m,m<(12-mo).toNat/\(∃mo left:Int,σ=[some (.int d),some (.int Y),some (.int left),some (.int mo)]/\1<=mo/\mo<=12/\0<=left/\DM.mb (12*(Y-2000)+(mo-1))+left=d/\Same H H'/\m=(12-mo).toNat),λ_ _ z=>z,?_⟩
    refine⟨_,_,rfl,λH3 s3=>?_⟩
    refine⟨(12-(mo+1)).toNat,dkl,mo+1,left-DM.len Y mo,rfl,dkl,dkl,dkl,?_,(sm.trans s2).trans s3,rfl⟩
    rw[show 12*(Y-2000)+(mo+1-1)=12*(Y-2000)+(mo-1)+1 by lia]
    lia
   ·
    have e2':¬DM.len Y mo<=left:=λz=>e2 (Aqs z)
    refine λp hp=>?_
    have em:DM.mo d=12*(Y-2000)+(mo-1):=DM.Afv h0 h1 dkl dkl
    refine k p _ ((sm.trans s2).trans (Ai hp)) ((sm.trans s2).free hp) ?_
    conv=>whnf
    rw[Ae,em,en,er]
    rw[show(2000:Int)+(Y-2000)=Y by lia,show mo-1+1=mo by lia,show d-DM.mb (12*(Y-2000)+(mo-1))+1=left+1 by lia]
 ·
  refine⟨_,rfl,?_⟩
  refine⟨λe3=>?_,λe3=>?_⟩
  ·
   conv=>whnf
   have e:2000+d*400/146097+1=DM.yr d:=by unfold DM.yr;rw[if_neg (λz=>e1 (Aqs z)),if_pos (Aqu e3)]
   have z1:DM.year (2000+d*400/146097+1)<=d:=by rw[e];exact y1
   have z2:d<DM.year ((2000+d*400/146097+1)+1):=by rw[e];exact y2
   have z3:2000<=2000+d*400/146097+1:=by rw[e];exact y3
   have z4:2000+d*400/146097+1<2400:=by rw[e];exact y4
   refine⟨_,rfl,?_⟩
   refine⟨λm σ H'=>∃mo left:Int,σ=[some (.int d),some (.int (2000+d*400/146097+1)),some (.int left),some (.int mo)]/\1<=mo/\mo<=12/\0<=left/\DM.mb (12*((2000+d*400/146097+1)-2000)+(mo-1))+left=d/\Same H H'/\m=(12-mo).toNat,⟨11,1,d-DM.year (2000+d*400/146097+1),rfl,dkl,dkl,dkl,?_,Awr _,rfl⟩,?_⟩
   ·
    rw[show(12*((2000+d*400/146097+1)-2000)+(1-1:Int))=12*((2000+d*400/146097+1)-2000) by lia,DM.Wd]
    lia
   ·
    rintro m σ H1 ⟨mo,left,rfl,m1,m2,m3,m4,sm,rfl⟩
    generalize 2000+d*400/146097+1=Y at*
    have en:(12*(Y-2000)+(mo-1))/12=Y-2000:=by lia
    have er:(12*(Y-2000)+(mo-1))%12=mo-1:=by lia
    have ms:=DM.Vu (12*(Y-2000)+(mo-1))
    rw[en,er,show(2000:Int)+(Y-2000)=Y by lia,show mo-1+1=mo by lia] at ms
    refine⟨_,_,rfl,λH2 s2=>?_⟩
    refine⟨λe2=>?_,λe2=>?_⟩
    ·
     have e2':=Aqu e2
     have m12:mo≠12:=by
      intro z
      subst z
      have:=DM.Wd (Y+1)
      rw[show 12*(Y+1-2000)=12*(Y-2000)+(12-1)+1 by lia] at this
      lia
     refine⟨λσ H'=>∃m,m<(12-mo).toNat/\(∃mo left:Int,σ=[some (.int d),some (.int Y),some (.int left),some (.int mo)]/\1<=mo/\mo<=12/\0<=left/\DM.mb (12*(Y-2000)+(mo-1))+left=d/\Same H H'/\m=(12-mo).toNat),λ_ _ z=>z,?_⟩
     refine⟨_,_,rfl,λH3 s3=>?_⟩
     refine⟨(12-(mo+1)).toNat,dkl,mo+1,left-DM.len Y mo,rfl,dkl,dkl,dkl,?_,(sm.trans s2).trans s3,rfl⟩
     rw[show 12*(Y-2000)+(mo+1-1)=12*(Y-2000)+(mo-1)+1 by lia]
     lia
    ·
     have e2':¬DM.len Y mo<=left:=λz=>e2 (Aqs z)
     refine λp hp=>?_
     have em:DM.mo d=12*(Y-2000)+(mo-1):=DM.Afv h0 h1 dkl dkl
     refine k p _ ((sm.trans s2).trans (Ai hp)) ((sm.trans s2).free hp) ?_
     conv=>whnf
     rw[Ae,em,en,er]
     rw[show(2000:Int)+(Y-2000)=Y by lia,show mo-1+1=mo by lia,show d-DM.mb (12*(Y-2000)+(mo-1))+1=left+1 by lia]
  ·
   have e:2000+d*400/146097=DM.yr d:=by unfold DM.yr;rw[if_neg (λz=>e1 (Aqs z)),if_neg (λz=>e3 (Aqs z))]
   have z1:DM.year (2000+d*400/146097)<=d:=by rw[e];exact y1
   have z2:d<DM.year ((2000+d*400/146097)+1):=by rw[e];exact y2
   have z3:2000<=2000+d*400/146097:=by rw[e];exact y3
   have z4:2000+d*400/146097<2400:=by rw[e];exact y4
   refine⟨_,rfl,?_⟩
   refine⟨λm σ H'=>∃mo left:Int,σ=[some (.int d),some (.int (2000+d*400/146097)),some (.int left),some (.int mo)]/\1<=mo/\mo<=12/\0<=left/\DM.mb (12*((2000+d*400/146097)-2000)+(mo-1))+left=d/\Same H H'/\m=(12-mo).toNat,⟨11,1,d-DM.year (2000+d*400/146097),rfl,dkl,dkl,dkl,?_,Awr _,rfl⟩,?_⟩
   ·
    rw[show(12*((2000+d*400/146097)-2000)+(1-1:Int))=12*((2000+d*400/146097)-2000) by lia,DM.Wd]
    lia
   ·
    rintro m σ H1 ⟨mo,left,rfl,m1,m2,m3,m4,sm,rfl⟩
    generalize 2000+d*400/146097=Y at*
    have en:(12*(Y-2000)+(mo-1))/12=Y-2000:=by lia
    have er:(12*(Y-2000)+(mo-1))%12=mo-1:=by lia
    have ms:=DM.Vu (12*(Y-2000)+(mo-1))
    rw[en,er,show(2000:Int)+(Y-2000)=Y by lia,show mo-1+1=mo by lia] at ms
    refine⟨_,_,rfl,λH2 s2=>?_⟩
    refine⟨λe2=>?_,λe2=>?_⟩
    ·
     have e2':=Aqu e2
     have m12:mo≠12:=by
      intro z
      subst z
      have:=DM.Wd (Y+1)
      rw[show 12*(Y+1-2000)=12*(Y-2000)+(12-1)+1 by lia] at this
      lia
     refine⟨λσ H'=>∃m,m<(12-mo).toNat/\(∃mo left:Int,σ=[some (.int d),some (.int Y),some (.int left),some (.int mo)]/\1<=mo/\mo<=12/\0<=left/\DM.mb (12*(Y-2000)+(mo-1))+left=d/\Same H H'/\m=(12-mo).toNat),λ_ _ z=>z,?_⟩
     refine⟨_,_,rfl,λH3 s3=>?_⟩
     refine⟨(12-(mo+1)).toNat,dkl,mo+1,left-DM.len Y mo,rfl,dkl,dkl,dkl,?_,(sm.trans s2).trans s3,rfl⟩
     rw[show 12*(Y-2000)+(mo+1-1)=12*(Y-2000)+(mo-1)+1 by lia]
     lia
    ·
     have e2':¬DM.len Y mo<=left:=λz=>e2 (Aqs z)
     refine λp hp=>?_
     have em:DM.mo d=12*(Y-2000)+(mo-1):=DM.Afv h0 h1 dkl dkl
     refine k p _ ((sm.trans s2).trans (Ai hp)) ((sm.trans s2).free hp) ?_
     conv=>whnf
     rw[Ae,em,en,er]
     rw[show(2000:Int)+(Y-2000)=Y by lia,show mo-1+1=mo by lia,show d-DM.mb (12*(Y-2000)+(mo-1))+1=left+1 by lia]
def Aad:Fk P w T 3 a.Wh a.Xn ["_law_year_here","_law_month","_law_date_here"] (Aa5):=by
 refine T.v5.gq ["_law_year_here","_law_month","_law_date_here"] λcdv A outer s H vs Q E hr h=>?_
 obtain⟨y,m,d,rfl,h1,h2,k⟩:=h
 refine⟨_,(Af (Aj (Ag Bc (Ag Aq (Ag Aq (qc (Rb T) hr T.Ut T.Ph T.U4 (Aa (qv 0) Ad)) (qb (Aco (K:=K) rfl rfl) T.Ab3 (Aa (Oz (N:=["_law_one","_law_year_here"]) (cap:=[none,some 0]) (by show Cf (Ah iy) _ ["_law_year_here","_law_month","_law_date_here"] _ _;exact⟨rfl,dkk,dkk,dkk,dkk,rfl,dkk⟩) rfl (kn rfl T.Iu (Aa Ab (Aa (qv 1) Ad))) (λC s H fp=>⟨(Fq (i:=0) (by show(["_law_one","_law_year_here"]:List Str).Nodup;decide+kernel) rfl (Or.inl rfl) (.inr rfl)),Ys,(qc (Ia T) hr T.Lf T.Hr T.Lb (Aa (qv 1) (Aa (qv 0) Ad)))⟩)) Ad))) (qv 2)) Ab))),?_⟩
 refine⟨_,rfl,?_⟩
 refine⟨_,_,rfl,⟨dkl,dkl,dkl,dkl⟩,?_⟩
 refine Ie (Nd 1 (m-1).toNat _) (λ_=>true) (λv=>match v with| .int i=>V.int (DM.len y i)|v=>v) ?_ ?_ ?_ ?_
 ·
  rw[Aqv,Art]
  lia
 · exact λx _ H' _ R hR=>hR H' (Awr _)
 ·
  intro x hx _ H' _ R hR
  obtain⟨i,_,rfl⟩:=Arz.mp hx
  exact⟨y,_,rfl,λH2 s2=>hR H2 s2⟩
 ·
  intro D H' sm _ hD
  refine⟨D,(List.range (m-1).toNat).map λ(i:Nat)=>DM.len y (1+(i:Int)),rfl,Aws ?_,?_⟩
  ·
   rw[hD,Av7.mpr (λ_ _=>rfl),At3,At3]
   rfl
  ·
   have q:=k H' sm
   have e:=DM.Acb y (m-1).toNat dkl
   rw[show(((m-1).toNat:Nat):Int)=m-1 by lia] at e
   rw[e,←ny] at q
   exact q
def oo:Au ["day","number"] ["day"] (Ah ju):=qsc
def Aap:Fk P w T 4 a.W0 a.Xl ["day"] (Aag):=by
 refine T.r9.go oo λcdv A outer s H vs Q E hr h=>?_
 obtain⟨d,rfl,h0,h1,k⟩:=h
 refine⟨_,(Ac (A2 (Od (Dg (qc (M3 T) hr T.Rg T.N5 T.Qg (Aa (qv 0) Ad)))) (Af Je) Ao)
  (Ac (Eh 1 oo.nd (qc (Mu T) hr T.Pk T.Mq T.Po (Aa (qv 0) Ad)))
  (Af (Aj (Ea (Aa (Ag Aq (B2 rfl T.Ej) (Ag Az (qv 1) Ab)) (Aa (Ag Aq (Ag Av (qv 1) Ab) Ab) (Aa (Ag Aq (Ag Bc (qv 0) (qc (Cz T) hr T.Di T.Cv T.De (Aa (qv 1) Ad))) Ab) Ad)))))))),?_⟩
 refine⟨d,rfl,?_⟩
 refine yc ⟨h0,h1⟩ ?_
 refine⟨_,rfl,?_⟩
 exact⟨_,rfl,λp hp=>k p _ (Ai hp) hp Ae⟩
def Li:Fk P w T 4 a.Im a.Eg ["self","mask","first","every"] (m7 (ad a)):=by
 refine T.g9.gq ["self","mask","first","every"] λcdv A outer s H vs Q E hr h=>?_
 obtain⟨x,dx,mk,fi,e,rfl,hx,⟨m0,m1,hf⟩,k⟩:=h
 refine⟨_,(Ac (Ct (qc (Bw T) hr T.B6 T.Bu T.B7 (Aa (qv 1) (Aa Ab (Aa Ab Ad)))))
  (Ac (Ct (qc (Kk T) hr T.Lz T.Jl T.L5 (Aa (qv 2) (Aa (qv 3) Ad))))
  (Ac (Ce (K:=K) rfl (qv 0) (qv 1))
  (Ac (Ce (K:=K) rfl (qv 0) (qv 2))
  (Af (Ce (K:=K) rfl (qv 0) (qv 3))))))),?_⟩
 refine⟨mk,1,127,rfl,m0,m1,?_⟩
 refine⟨fi,e,rfl,hf,?_⟩
 refine⟨hx,T.Cp,T.Wj,?_⟩
 refine⟨Ae,T.Cp,T.Ks,?_⟩
 refine⟨Ae,T.Cp,T.Ou,?_⟩
 exact k _ (λc u hc e=>by rw[An hc,An hc,An hc];exact e) ⟨dx,Ae⟩
def Ju:Fk P w T 4 a.G5 a.Dd ["self","date","first","every"] (jj (ad a)):=by
 refine T.az.gq ["self","date","first","every"] λcdv A outer s H vs Q E hr h=>?_
 obtain⟨x,dx,dt,fi,e,rfl,hx,⟨d0,d1,d2,hf⟩,k⟩:=h
 refine⟨_,(Ac (Ct (qc (Bw T) hr T.B6 T.Bu T.B7 (Aa (qb z6 T.Aa3 (Aa (qv 1) Ad)) (Aa Ab (Aa Ab Ad)))))
  (Ac (Ct (qc (Kk T) hr T.Lz T.Jl T.L5 (Aa (qv 2) (Aa (qv 3) Ad))))
  (Ac (Ct (qr T.J9 ((Ka T).mono dkd) hr rfl T.jg T.Lp .nil Bl (Aa (qv 0) (Aa (qc (Mu T) hr T.Pk T.Mq T.Po (Aa (qv 2) Ad)) (Aa (qv 3) (Aa (qv 2) Ad))))))
  (Ac (Ce (K:=K) rfl (qv 0) (qv 1))
  (Af (Ce (K:=K) rfl (qv 0) (qv 3))))))),?_⟩
 obtain⟨a1,a2⟩:=Ag6 d0 d1 d2
 refine⟨dt,rfl,_,1,31,rfl,a1,a2,?_⟩
 refine⟨fi,e,rfl,hf,?_⟩
 refine⟨fi,rfl,x,_,dx,_,_,fi,rfl,⟨T.C6,T.Lk,T.Ln,T.Ng⟩,hx,λH1 s1 hx1=>?_⟩
 refine⟨hx1,T.C6,T.Vl,?_⟩
 refine⟨Ae,T.C6,T.jn,?_⟩
 exact k _ (λc u hc e=>by rw[An hc,An hc];exact s1 _ _ hc e) ⟨dx,Ae⟩
def Q8:Fk P w T 4 a.Oo a.Hk ["self","which","weekday_of","first","every"] (ye (ad a)):=by
 refine T.um.gq ["self","which","weekday_of","first","every"] λcdv A outer s H vs Q E hr h=>?_
 obtain⟨x,dx,w,wd,fi,e,rfl,hx,⟨d0,d1,d2,w0,w1,hf⟩,k⟩:=h
 refine⟨_,(Ac (Ct (qc (Bw T) hr T.B6 T.Bu T.B7 (Aa (qb z6 T.Aa3 (Aa (qv 1) Ad)) (Aa Ab (Aa Ab Ad)))))
  (Ac (Ct (qc (Bw T) hr T.B6 T.Bu T.B7 (Aa (qv 2) (Aa Ab (Aa Ab Ad)))))
  (Ac (Ct (qc (Kk T) hr T.Lz T.Jl T.L5 (Aa (qv 3) (Aa (qv 4) Ad))))
  (Ac (Ct (qr T.J9 ((Ka T).mono dkd) hr rfl T.jg T.Lp .nil Bl (Aa (qv 0) (Aa (qc (Mu T) hr T.Pk T.Mq T.Po (Aa (qv 3) Ad)) (Aa (qv 4) (Aa (qv 3) Ad))))))
  (Ac (Ce (K:=K) rfl (qv 0) (qv 1))
  (Ac (Ce (K:=K) rfl (qv 0) (qv 2))
  (Af (Ce (K:=K) rfl (qv 0) (qv 4))))))))),?_⟩
 obtain⟨a1,a2⟩:=Ag6 d0 d1 d2
 refine⟨w,rfl,_,1,5,rfl,a1,a2,?_⟩
 refine⟨wd,0,6,rfl,w0,w1,?_⟩
 refine⟨fi,e,rfl,hf,?_⟩
 refine⟨fi,rfl,x,_,dx,_,_,fi,rfl,⟨T.M1,T.To,T.Tq,T.Vy⟩,hx,λH1 s1 hx1=>?_⟩
 refine⟨hx1,T.M1,T.fq,?_⟩
 refine⟨Ae,T.M1,T.Rv,?_⟩
 refine⟨Ae,T.M1,T.wa,?_⟩
 exact k _ (λc u hc e=>by rw[An hc,An hc,An hc];exact s1 _ _ hc e) ⟨dx,Ae⟩
def Td:Au ["_law_cell","_law_some"] ["_law_cell"] (Ah Ox):=qsc
def jw:Fk P w T 4 a.Ki a.Kx ["_law_cell"] (kh):=by
 refine T.Vm.go Td λcdv A outer s H vs Q E hr h=>?_
 obtain⟨c,rfl,k⟩:=h
 refine⟨_,(Ac (Eh 1 Td.nd (Lv (P9 [.int 0,.int 146096,.int 59,.int 60,.int 365,.int 366,.int 36584,.int 36583,.int 73108,.int 146037,.int 146036,.int 1460] dkk)))
  (Ac (A2 (Ak Bg (Ag Av (qv 0) Ab) Ab (Al _)) (Af (Aj (qil K (qv 1) (Ag Av (Ag Az (qv 0) Ab) Ab)))) Ao)
  (Ac (A2 (Ak Bg (Ag Av (qv 0) Ab) Ab (Al _)) (Af (Aj (qc (Aad T) hr T.Adt T.v5 T.Acy (Aa (Ag Aq Ab (Ag Av (Ag Az (qv 0) Ab) Ab)) (Aa (Ag Aq Ab (Ag Av (Ag Az (qv 0) Ab) Ab)) (Aa (Ag Aq Ab (Ag Av (Ag Az (qv 0) Ab) Ab)) Ad)))))) Ao)
  (Af (Aj (Ag Av (Ag Az (qv 0) Ab) Ab)))))),?_⟩
 refine λl hl=>?_
 refine⟨λe1=>?_,λe1=>?_⟩
 ·
  have i0:0<=c/4%12:=Arp _ dkd
  have i1:c/4%12<12:=Aro _ dkd
  obtain⟨t,ht,et⟩:=eo (ts:=[0,146096,59,60,365,366,36584,36583,73108,146037,146036,1460]) i0 i1
  have ht':=Aif t ht
  exact⟨Aws Ae,et,k t _ ht'.1 ht'.2 (Ai hl)⟩
 refine⟨λe2=>?_,λe2=>?_⟩
 ·
  have a0:0<=c/4%400:=Arp _ dkd
  have a1:c/4%400<400:=Aro _ dkd
  have b0:0<=c/1600%12:=Arp _ dkd
  have b1:c/1600%12<12:=Aro _ dkd
  have c0:0<=c/19200%28:=Arp _ dkd
  have c1:c/19200%28<28:=Aro _ dkd
  refine⟨_,_,_,rfl,dkl,dkl,λH2 s2=>?_⟩
  conv=>whnf
  generalize c/4%400=ya at*
  generalize c/1600%12=mo at*
  generalize c/19200%28=da at*
  have r:=DM.An0 (n:=12*(2000+ya-2000)+(1+mo-1)) dkl dkl
  have q:=DM.Ali (12*(2000+ya-2000)+(1+mo-1))
  exact k _ H2 dkl dkl ((Ai hl).trans s2)
 · exact k _ _ (Arp _ dkd) (Aro _ dkd) (Ai hl)
def Cs:Au ["_law_pick","_law_base","_law_more","_law_first_here","_law_often_here","_law_way","_law_month","_law_year_here","_law_date_here"] ["_law_pick","_law_base"] (Ah N1):=qsc
def p8:Fk P w T 4 a.Np a.N8 ["_law_pick","_law_base"] (ph):=by
 refine T.Zu.go Cs λcdv A outer s H vs Q E hr h=>?_
 obtain⟨p,b,rfl,k⟩:=h
 refine⟨_,(Ac (Eh 2 Cs.nd (qc (B5 T) hr T.C3 T.Ck T.C5 (Aa (Ag Aq (qv 0) Ab) Ad)))
  (Ac (Eh 3 Cs.nd (qc (si T) hr T.wo T.j6 T.x5 (Aa (qc (B5 T) hr T.C3 T.Ck T.C5 (Aa (Ag Aq (qv 0) Ab) Ad)) (Aa (qv 1) Ad))))
  (Ac (Eh 4 Cs.nd (qc (vi T) hr T.xt T.h8 T.w8 (Aa (qc (B5 T) hr T.C3 T.Ck T.C5 (Aa (Ag Aq (qv 0) Ab) Ad)) Ad)))
  (Ac (Eh 5 Cs.nd (Ag Av (qv 0) Ab))
  (Ac (A2 (Ak Bg (qv 5) Ab (Al _)) (Af (Aj (Ea (Aa Bo (Aa (qil K (Lv (Aa (Ag Aq Ab (Ag Av (Ag Az (qv 2) Ab) Ab)) (Aa (Ag Aq Ab (Ag Av (Ag Az (qv 2) Ab) Ab)) (Aa Ab (Aa (Ag Aq Ab (Ag Av (Ag Az (qv 2) Ab) Ab)) Ad))))) (Ag Av (qv 2) Ab)) (Aa (qv 3) Ad)))))) Ao)
  (Ac (A2 (Ak Bg (qv 5) Ab (Al _)) (Af (Aj (Ea (Aa Bo (Aa (Ag Aq Ab (Ag Av (qv 2) Ab)) (Aa (qv 3) (Aa (qv 4) Ad))))))) Ao)
  (Ac (A2 (Ak Bg (qv 5) Ab (Al _)) (Af (Aj (Ea (Aa Bo (Aa (qil K (Lv (Aa (Ag Aq Ab (Ag Av (Ag Az (qv 2) Ab) Ab)) (Aa (Ag Bc (vz j9 Ab) (Ag Av (Ag Az (qv 2) Ab) Ab)) (Aa Ab (Aa (vz j9 Ab) (Aa Ab Ad)))))) (Ag Av (qv 2) Ab)) (Aa (qv 3) (Aa (qv 4) Ad))))))) Ao)
  (Ac (A2 (Ak Bg (qv 5) Ab (Al _)) (Af (Aj (Ea (Aa Bo (Aa (qil K (Lv (P9 [.int 1,.int 2,.int 5,.int (-1),.int (-5),.int 3,.int (-2),.int 4,.int (-3),.int (-4)] dkk)) (Ag Av (qv 2) Ab)) (Aa (Ag Av (Ag Az (qv 2) Ab) Ab) (Aa (qv 3) (Aa (qv 4) Ad)))))))) Ao)
  (Ac (A2 (Ak Bg (qv 5) Ab (Al _)) (Nb (Eh 6 Cs.nd (Ag Aq Ab (Ag Av (Ag Aq (Ag Bc (qix K (qc (Hi T) hr T.Jw T.Hn T.J0 (Aa (qc (Ft T) hr T.Ht T.F4 T.Hj (Aa (Ag Az (qv 2) Ab) (Aa (qv 1) Ad))) Ad)) Ab) Ab) (Ag Av (qv 2) Ab)) Ab)))
  (Af (Aj (Ea (Aa Bo (Aa (qv 6) (Aa (qil K (Lv (Aa (Ag Aq Ab (Ag Av (Ag Az (qv 2) Ab) Ab)) (Aa (qc (Ia T) hr T.Lf T.Hr T.Lb (Aa Ab (Aa (qv 6) Ad))) Ad))) (qty Xp T.qe (Aa (A6 Bg (Ag Av (qv 2) Ab) Ab (Al _)) Ad))) (Aa (qv 3) (Aa (qv 4) Ad))))))))) Ao)
  (Ac (A2 (Ak Bg (qv 5) Ab (Al _)) (Af (Aj (Ea (Aa Bo (Aa (qty (Bf (K:=K) rfl) T.Es (Aa (Oz (N:=["_law_k","_law_base","_law_more"]) (cap:=[none,some 1,some 2]) (by show Cf (Ah N1) _ ["_law_pick","_law_base","_law_more","_law_first_here","_law_often_here","_law_way","_law_month","_law_year_here","_law_date_here"] _ _;exact⟨rfl,dkk,dkk,dkk,dkk,rfl,dkk⟩) rfl (Th rfl T.Iu (Aa (Ag Av (qv 2) Ab) Ad)) (λC s H fp=>⟨(Fq (i:=0) (by show(["_law_k","_law_base","_law_more"]:List Str).Nodup;decide+kernel) rfl (Or.inl rfl) (.inr rfl)),Ys,(qc (Ft T) hr T.Ht T.F4 T.Hj (Aa (qc (B5 T) hr T.C3 T.Ck T.C5 (Aa (Ag Aq (qv 2) (qv 0)) Ad)) (Aa (qv 1) Ad)))⟩)) Ad)) Ad))))) Ao)
  (Ac (A2 (Ak Bg (qv 5) Ab (Al _)) (Af (Aj (Ea (Aa Bo (Aa (Ag Aq Ab (Ag Av (qv 2) Ab)) (Aa (Ag Av (Ag Az (qv 2) Ab) Ab) Ad)))))) Ao)
  (Ac (A2 (Ak Bg (qv 5) Ab (Al _)) (Af (Aj (Ea (Aa Bo Ad)))) Ao)
  (Ac (Ahh (qc (Hi T) hr T.Jw T.Hn T.J0 (Aa (qc (Ft T) hr T.Ht T.F4 T.Hj (Aa (qv 2) (Aa (qv 1) Ad))) Ad)) (zp rfl (Mm (qnm 7 Cs.nd) (Mm (qnm 6 Cs.nd) (Mm (qnm 8 Cs.nd) pq)))))
  (Af (Aj (Ea (Aa Bo (Aa (qv 6) (Aa (qb (Ip rfl) T.Se (Aa (qv 8) (Aa Ab Ad))) (Aa (qb (M7 rfl) T.V2 (Aa Ab (Aa (Ag Bc (qc (Ft T) hr T.Ht T.F4 T.Hj (Aa (qv 2) (Aa (qv 1) Ad))) (Ag Av (Ag Az (qv 2) Ab) Ab)) Ad))) (Aa (Ag Aq Ab (Ag Av (Ag Az (qv 2) Ab) Ab)) Ad))))))))))))))))))))),?_⟩
 refine⟨_,rfl,λm m0=>?_⟩
 refine⟨_,rfl,λn1 _=>⟨_,b,rfl,λfi H1 f0 f1 s1=>?_⟩⟩
 refine⟨_,rfl,λn2 _=>⟨_,rfl,λe H2 e0 e1 s2=>?_⟩⟩
 have S:=s1.trans s2
 have hf:Fi fi e:=⟨f0,f1,e0,e1⟩
 refine⟨λ_=>?_,λ_=>?_⟩
 ·
  refine λL hL=>?_
  obtain⟨t,t0,t1,ht⟩:=Wr (ts:=[1+m/4%9,1+m/4%60,7,1+m/4%146096]) (i:=m%4) 1 146096 (Arp _ dkd) (Aro _ dkd) (λt ht=>by
   rcases Ara.mp ht with rfl|ht;· lia
   rcases Ara.mp ht with rfl|ht;· lia
   rcases Ara.mp ht with rfl|ht;· decide
   rw[Arm] at ht;subst ht;lia)
  exact⟨Aws Ae,ht,λt ht=>k t (.ev _ fi) _ ((S.trans (Ai hL)).trans (Ai ht)) Ae ⟨t0,t1,f0,f1⟩⟩
 refine⟨λ_=>?_,λ_=>?_⟩
 · exact λt ht=>k t (.wk _ fi e) _ (S.trans (Ai ht)) Ae ⟨dkl,dkl,hf⟩
 refine⟨λ_=>?_,λ_=>?_⟩
 ·
  refine λL hL=>?_
  obtain⟨t,⟨t0,t1,t2⟩,ht⟩:=Aez (ts:=[1+m/5%31, -1-m/5%31,31, -1,29]) (i:=m%5) (λt=> -31<=t/\t<=31/\t≠0) (Arp _ dkd) (Aro _ dkd) (λt ht=>by
   rcases Ara.mp ht with rfl|ht;· show _/\_/\_;lia
   rcases Ara.mp ht with rfl|ht;· show _/\_/\_;lia
   rcases Ara.mp ht with rfl|ht;· decide
   rcases Ara.mp ht with rfl|ht;· decide
   rw[Arm] at ht;subst ht;decide)
  exact⟨Aws Ae,ht,λt ht=>k t (.mo _ fi e) _ ((S.trans (Ai hL)).trans (Ai ht)) Ae ⟨t0,t1,t2,hf⟩⟩
 refine⟨λ_=>?_,λ_=>?_⟩
 ·
  refine λL hL=>?_
  obtain⟨t,⟨t0,t1,t2⟩,ht⟩:=Aez (ts:=[1,2,5, -1, -5,3, -2,4, -3, -4]) (i:=m%10) (λt=> -5<=t/\t<=5/\t≠0) (Arp _ dkd) (Aro _ dkd) Alb
  exact⟨Aws Ae,ht,λt ht=>k t (.nt _ _ fi e) _ ((S.trans (Ai hL)).trans (Ai ht)) Ae ⟨t0,t1,t2,dkl,dkl,hf⟩⟩
 refine⟨λ_=>?_,λ_=>?_⟩
 ·
  refine⟨λσ' H'=>∃mn w:Int,1<=mn/\mn<=12/\Same H2 H'/\σ'=[some (.int p),some (.int b),some (.int m),some (.int fi),some (.int e),some (.int w),some (.int mn),none,none],?_,?_⟩
  ·
   refine⟨_,b,rfl,λv v0 v1=>⟨v,rfl,v0,v1,λq H3 s3 _ hq=>⟨Awq hq,rfl,_,_,?_,?_,s3,rfl⟩⟩⟩
   · lia
   · lia
  rintro σ H3 ⟨mn,w,mn0,mn1,s3,rfl⟩
  have lp:=DM.len_pos 2000 mn
  refine⟨2000,mn,rfl,λH4 s4=>λL hL=>?_⟩
  have S4:=(((S.trans s3).trans s4).trans (Ai (o:=.lst [.int (1+m/31%28),.int (DM.len 2000 mn)]) hL))
  refine .inr ⟨_,rfl,Aws Ae,Als,?_⟩
  conv=>whnf
  generalize decide (V.int (m%3)=V.int 0)=bb
  cases bb with
  | true=>exact λt ht=>k t (.yr mn (DM.len 2000 mn) fi e) _ (S4.trans (Ai ht)) Ae ⟨mn0,mn1,dkl,Avm _,hf⟩
  | false=>exact λt ht=>k t (.yr mn (1+m/31%28) fi e) _ (S4.trans (Ai ht)) Ae ⟨mn0,mn1,dkl,dkl,hf⟩
 refine⟨λ_=>?_,λ_=>?_⟩
 ·
  refine⟨_,rfl,dkl,dkl,?_⟩
  refine Adn (Nd 0 (m%7).toNat _) (λv=>∃d:Int,v=.int d/\0<=d/\d<146097) (by rw[Aqv,Art];lia) (λx _ H' _ R hR=>hR true H' (Awr _)) ?_ (λD H3 ys s3 _ hD hG hle=>?_)
  ·
   intro x hx H' sm R hR
   obtain⟨i,hi,rfl⟩:=Arz.mp hx
   exact⟨_,rfl,λn n0=>⟨_,b,rfl,λv v0 v1=>hR _ H' (Awr _) ⟨v,rfl,v0,v1⟩⟩⟩
  obtain⟨ds,rfl,hds⟩:=V0 hG
  rw[Aqv,Aqv,Art] at hle
  refine⟨D,_,rfl,.inl ⟨Aws hD,λu hu=>λt ht=>?_⟩⟩
  exact k t (.dy ds) _ (((S.trans s3).trans (Ai hu)).trans (Ai ht)) ⟨u,Ae,Ai ht _ _ Ae⟩ ⟨dkl,hds⟩
 refine⟨λ_=>?_,λ_=>?_⟩
 · exact λt ht=>k t (.wh _ _) _ (S.trans (Ai ht)) Ae (show(1:Int)<=2+m%9 by lia)
 refine⟨λ_=>?_,λ_=>?_⟩
 · exact λt ht=>k t (.nv) _ (S.trans (Ai ht)) Ae trivial
 refine⟨_,b,rfl,λv v0 v1=>⟨v,rfl,v0,v1,λq H3 s3 _ hq=>⟨q,_,rfl,Awq hq,rfl,_,_,rfl,_,_,rfl,_,_,rfl,rfl,?_⟩⟩⟩
 obtain⟨o1,o2,o3,o4⟩:=DM.j5 v0 v1
 have lp:=DM.len_pos 2000 (DM.mo v%12+1)
 refine⟨_,b,rfl,λu u0 u1=>λt ht=>k t (.yr _ _ _ _) _ ((S.trans s3).trans (Ai ht)) Ae ⟨dkl,dkl,?_,?_,?_,?_,dkl,dkl⟩⟩
 · split<;>lia
 · split<;>lia
 · split<;>lia
 · split<;>lia
def Pf:Au ["_law_day_here","_law_date_here","_law_first_here","_law_often_here","_law_begin"] ["_law_day_here","_law_date_here","_law_first_here","_law_often_here"] (Ah Lh):=qsc
def Zm:Fk P w T 4 a.Gz a.G1 ["_law_day_here","_law_date_here","_law_first_here","_law_often_here"] (Za):=by
 refine T.R3.go Pf λcdv A outer s H vs Q E hr h=>?_
 obtain⟨d,p,fi,e,rfl,hp,f0,f1,e0,k⟩:=h
 refine⟨_,(Ac (Eh 4 Pf.nd (qc (Hi T) hr T.Jw T.Hn T.J0 (Aa (qv 2) Ad)))
  (Af (Aj (Ag M8 (Ag Bc (Ag Aq (Ag Mv (Ag Bc (qix K (qv 1) Ab) (qix K (qv 4) Ab)) Ab) (qix K (qv 1) Ab)) (qix K (qv 4) Ab)) (qv 3))))),?_⟩
 refine⟨fi,rfl,f0,f1,λq H1 s1 _ hq=>?_⟩
 have hp1:=s1 _ _ hp
 have k1:=k H1 s1
 rw[←DF.Amm (DM.mo d) (DM.mo fi)] at k1
 exact⟨Awq (hp1),rfl,Awq (hq),rfl,_,_,rfl,rfl,.inr ⟨dkd,dkd⟩,Awq (hp1),rfl,Awq (hq),rfl,_,_,rfl,rfl,(by show(0:Int)<e;lia),k1⟩
def Rz:Au ["self","month","date","first","every","year"] ["self","month","date","first","every"] (Ah Bx):=qsc
def Lm:Fk P w T 5 a.Jr a.D8 ["self","month","date","first","every"] (kr (ad a)):=by
 refine T.gg.go Rz λcdv A outer s H vs Q E hr h=>?_
 obtain⟨x,dx,mn,dt,fi,e,rfl,hx,⟨m0,m1,d0,d1,hf⟩,k⟩:=h
 refine⟨_,(Ac (Ct (qc (Bw T) hr T.B6 T.Bu T.B7 (Aa (qv 1) (Aa Ab (Aa Ab Ad)))))
  (Ac (Ct (qc (Bw T) hr T.B6 T.Bu T.B7 (Aa (qv 2) (Aa Ab (Aa (qc (o5 T) hr T.t4 T.ao T.sj (Aa (B2 rfl T.Mz) (Aa (qv 1) Ad))) Ad)))))
  (Ac (Ct (qc (Kk T) hr T.Lz T.Jl T.L5 (Aa (qv 3) (Aa (qv 4) Ad))))
  (Ac (Eh 5 Rz.nd (qix K (qc (Aap T) hr T.Ael T.r9 T.Adb (Aa (qv 3) Ad)) Ab))
  (Ac (Ct (qr T.J9 ((Ka T).mono dkd) hr rfl T.jg T.Lp .nil Bl (Aa (qv 0) (Aa (Ag Bc (Ag Aq (Ag Mv (Ag Bc (qv 5) (B2 rfl T.Ej)) Ab) (qv 1)) Ab) (Aa (Ag Mv (qv 4) Ab) (Aa (qv 3) Ad))))))
  (Ac (Ce (K:=K) rfl (qv 0) (qv 1))
  (Ac (Ce (K:=K) rfl (qv 0) (qv 2))
  (Af (Ce (K:=K) rfl (qv 0) (qv 4)))))))))),?_⟩
 refine⟨mn,1,12,rfl,m0,m1,?_⟩
 refine⟨2000,mn,rfl,m0,m1,dt,1,_,rfl,d0,d1,?_⟩
 refine⟨fi,e,rfl,hf,?_⟩
 refine⟨fi,rfl,hf.1,hf.2.1,λp H0 s0 hp0 hp=>?_⟩
 refine⟨Awq hp,rfl,?_⟩
 have hx0:=s0 _ _ hx
 refine⟨_,_,rfl,rfl,.inr ⟨dkd,dkd⟩,_,_,rfl,rfl,.inr ⟨dkd,dkd⟩,x,_,dx,_,_,fi,rfl,⟨T.Dn,T.M9,T.Nc,T.Ov⟩,hx0,λH1 s1 hx1=>?_⟩
 rw[show 2000+DM.mo fi/12-2000=DM.mo fi/12 by lia] at hx1
 refine⟨hx1,T.Dn,T.lh,?_⟩
 refine⟨Ae,T.Dn,T.Yf,?_⟩
 refine⟨Ae,T.Dn,T.ku,?_⟩
 exact k _ (λc u hc e=>by rw[An hc,An hc,An hc];exact s1 _ _ hc (s0 _ _ e)) ⟨dx,Ae⟩
def Fm:Au ["_law_rule_here","_law_day_here","_law_date_here","_law_word","_law_weeks","_law_last","_law_years","_law_turn"] ["_law_rule_here","_law_day_here","_law_date_here"] (Ah Wc):=qsc
theorem ug:Fk P w T 5 a.Ra a.Q0 ["_law_rule_here","_law_day_here","_law_date_here"] (sf):=by
 refine T.jb.go Fm λcdv A outer s H vs Q E hr h=>?_
 obtain⟨t,p,d,r,rfl,ht,ok,d0,d1,hp,k⟩:=h
 refine⟨_,(Ac (Eh 3 Fm.nd (qix K (qv 0) Ab))
  (Ac (A2 (Ak Bg (qv 3) Bo (Al _)) (Af (Aj Yc)) Ao)
  (Ac (A2 (Ak Bg (qv 3) Bo (Al _)) (Af (Aj (A6 (Mp (K:=K) rfl) (qv 1) (qix K (qv 0) Ab) (by with_unfolding_all rfl)))) Ao)
  (Ac (A2 (Ak Bg (qv 3) Bo (Al _)) (Af (Aj (A6 Bg (Ag M8 (Ag Mv (qv 1) (qv 1)) (qix K (qv 0) Ab)) (qix K (qv 0) Ab) (Al _)))) Ao)
  (Ac (A2 (Ak Bg (qv 3) Bo (Al _)) (Af (Aj (Dk (A6 Aao (qv 1) (qix K (qv 0) Ab) (Al _)) (Dc (A6 Bg (Ag M8 (Ag Bc (qv 1) (qix K (qv 0) Ab)) (qix K (qv 0) Ab)) Ab (Al _)))))) Ao)
  (Ac (A2 (Ak Lq (qv 1) (qix K (qv 0) (vz j9 Ab)) (Al _)) (Af (Aj Yc)) Ao)
  (Ac (A2 (Ak Bg (qv 3) Bo (Al _)) (Ac (Eh 4 Fm.nd (Ag Bc (Ag Az (Ag Aq (qv 1) Ab) Ab) (Ag Az (Ag Aq (qix K (qv 0) Ab) Ab) Ab)))
  (Af (Aj (Dk (A6 Bg (Ag M8 (qv 4) (qix K (qv 0) Ab)) Ab (Al _)) (Dc (A6 Bg (Ag Av (Ag xa (qix K (qv 0) Ab) (qil K (Lv (P9 [.int 1,.int 2,.int 4,.int 8,.int 16,.int 32,.int 64] dkk)) (Ag Av (Ag Aq (qv 1) Ab) Ab))) Ab) Ab (Al _))))))) Ao)
  (Ac (Eh 5 Fm.nd (qc (Ia T) hr T.Lf T.Hr T.Lb (Aa (qix K (qv 2) Ab) (Aa (qix K (qv 2) Ab) Ad))))
  (Ac (A2 (Ak Bg (qv 3) Bo (Al _)) (Ac (Eh 6 Fm.nd (Ag Bc (qix K (qv 2) Ab) (qix K (qc (Hi T) hr T.Jw T.Hn T.J0 (Aa (qix K (qv 0) Ab) Ad)) Ab)))
  (Af (Aj (Dk (A6 Bg (Ag M8 (qv 6) (qix K (qv 0) Ab)) Ab (Al _)) (Dk (A6 Bg (qix K (qv 2) Ab) (qix K (qv 0) Ab) (Al _)) (Dc (A6 Bg (qix K (qv 2) Ab) (qix K (qv 0) Ab) (Al _)))))))) Ao)
  (Ac (A2 (Ak qd (qc (Zm T) hr T.de T.R3 T.a8 (Aa (qv 1) (Aa (qv 2) (Aa (qix K (qv 0) (vz j9 Ab)) (Aa (qix K (qv 0) (vz j9 Ab)) Ad))))) Ab (Al _)) (Af (Aj Yc)) Ao)
  (Ac (A2 (Ak Bg (qv 3) Bo (Al _)) (Af (Aj (A6 Bg (qix K (qv 2) Ab) (qil K (Lv (Aa (qix K (qv 0) Ab) (Aa (Ag Aq (Ag Aq (qv 5) Ab) (qix K (qv 0) Ab)) Ad))) (qty Xp T.qe (Aa (A6 Lq (qix K (qv 0) Ab) Ab (Al _)) Ad))) (Al _)))) Ao)
  (Ac (Eh 7 Fm.nd (Ag Az (Ag Aq (qix K (qv 2) Ab) Ab) Ab))
  (Ac (A2 (Ak Lq (qix K (qv 0) Ab) Ab (Al _)) (Af (Eh 7 Fm.nd (Ag Bc Ab (Ag Az (Ag Aq (Ag Bc (qv 5) (qix K (qv 2) Ab)) Ab) Ab)))) Ao)
  (Af (Aj (Dk (A6 Bg (Ag Av (Ag Aq (qv 1) Ab) Ab) (qix K (qv 0) Ab) (Al _)) (Dc (A6 Bg (qv 7) (qix K (qv 0) Ab) (Al _))))))))))))))))))),?_⟩
 cases r with
 |
  nv=>
  refine⟨Awq (ht),rfl,?_⟩
  refine ed dkk ?_
  exact k H (Awr _)
 |
  dy ds=>
  obtain⟨u,ht,hu⟩:=ht
  refine⟨Awq (ht),rfl,?_⟩
  refine Er dkk ?_
  refine ed dkk ?_
  refine⟨Awq (ht),rfl,u,_,rfl,.inr (Awq hu),rfl,?_,?_⟩
  · rw[List.all_map];exact Atv.mpr λ_ _=>rfl
  ·
   show Q (.bl (inV (.int d) (ds.map V.int))) H
   rw[Nu]
   exact k H (Awr _)
 |
  wh m r=>
  refine⟨Awq (ht),rfl,?_⟩
  refine Er dkk ?_
  refine Er dkk ?_
  refine ed dkk ?_
  have k0:Q (.bl (isD d&&decide (d*d%m=r))) H:=k H (Awr _)
  rw[DF.Akd d0 d1,Arw] at k0
  have m1:1<=m:=ok
  refine⟨_,_,rfl,rfl,.inl ⟨dkl,dkl⟩,Awq (ht),rfl,_,_,rfl,rfl,(by show(0:Int)<m;lia),Awq (ht),rfl,?_⟩
  conv=>whnf
  rw[Sf]
  exact k0
 |
  ev st fi=>
  refine⟨Awq (ht),rfl,?_⟩
  refine Er dkk ?_
  refine Er dkk ?_
  refine Er dkk ?_
  refine ed dkk ?_
  obtain⟨s1,s2,f0,f1⟩:=ok
  have k0:Q (.bl (isD d&&(decide (fi<=d)&&decide ((d-fi)%st=0)))) H:=k H (Awr _)
  rw[DF.Akd d0 d1,Arw] at k0
  refine⟨Awq (ht),rfl,?_⟩
  conv=>whnf
  cases e2:decide (fi<=d) with
  | false=>rw[e2] at k0;exact Cu k0
  | true=>
  rw[e2,Arw] at k0
  refine Fs ?_
  refine⟨Awq (ht),rfl,Awq (ht),rfl,_,_,rfl,rfl,(by show(0:Int)<st;lia),?_⟩
  conv=>whnf
  rw[Sf]
  exact k0
 |
  wk mk fi e=>
  refine⟨Awq (ht),rfl,?_⟩
  refine Er dkk ?_
  refine Er dkk ?_
  refine Er dkk ?_
  refine Er dkk ?_
  obtain⟨m0,m1,f0,f1,e0,e1⟩:=ok
  refine⟨Awq (ht),rfl,⟨λz=>?_,λz=>?_⟩⟩
  ·
   have z':d<fi:=Aqu z
   have k0:=k H (Awr _)
   rw[DF.Aes z'] at k0
   exact k0
  have hf:fi<=d:=Atz.mp λw=>z (Aqs w)
  clear z
  refine ed dkk ?_
  have k0:=k
  refine⟨Awq (ht),rfl,?_⟩
  have pw:=DF.Amg (mk:=mk) (e:=e) d0 d1 hf
  refine⟨Awq (ht),rfl,_,_,rfl,rfl,(by show(0:Int)<e;lia),?_⟩
  conv=>whnf
  rw[Sf]
  rw[pw] at k0
  cases e2:decide (((d+5)/7-(fi+5)/7)%e=0) with
  |
   false=>
   have k1:=k0 H (Awr _)
   rw[e2] at k1
   exact Cu k1
  | true=>
  rw[e2,Arw] at k0
  refine Fs ⟨Awq (ht),rfl,λL hL=>?_⟩
  refine⟨Aws Ae,Aoq d,_,_,rfl,rfl,Alu d,?_⟩
  conv=>whnf
  rw[Sf]
  exact k0 _ (Ai hL)
 |
  yr mn dt fi e=>
  refine⟨Awq (ht),rfl,?_⟩
  refine Er dkk ?_
  refine Er dkk ?_
  refine Er dkk ?_
  refine Er dkk ?_
  have ok0:=ok
  obtain⟨m0,m1,t0,t1,fo⟩:=ok
  refine⟨Awq (ht),rfl,⟨λz=>?_,λz=>?_⟩⟩
  ·
   have z':d<fi:=Aqu z
   have k0:=k H (Awr _)
   rw[DF.Aes z'] at k0
   exact k0
  have hf:fi<=d:=Atz.mp λw=>z (Aqs w)
  clear z
  refine Er dkk ?_
  refine⟨Awq (hp),rfl,Awq (hp),rfl,_,_,rfl,λH1 s1=>?_⟩
  have ht1:=s1 _ _ ht
  have hp1:=s1 _ _ hp
  refine ed dkk ?_
  have py:=DF.Ant d0 d1 hf ok0
  rw[py] at k
  refine⟨Awq (hp1),rfl,Awq (ht1),rfl,fi,rfl,fo.1,fo.2.1,λq H2 s2 _ hq=>?_⟩
  have ht2:=s2 _ _ ht1
  have hp2:=s2 _ _ hp1
  have k0:=k H2 (s1.trans s2)
  refine⟨Awq hq,rfl,?_⟩
  refine⟨Awq (ht2),rfl,_,_,rfl,rfl,(by show(0:Int)<e;exact fo.2.2.1),?_⟩
  conv=>whnf
  rw[Sf]
  cases e2:decide ((2000+DM.mo d/12-(2000+DM.mo fi/12))%e=0) with
  | false=>rw[e2] at k0;exact Cu k0
  | true=>
  rw[e2,Arw] at k0
  refine Fs ?_
  refine⟨Awq (hp2),rfl,Awq (ht2),rfl,?_⟩
  conv=>whnf
  rw[Sf]
  cases e3:decide (DM.mo d%12+1=mn) with
  | false=>rw[e3] at k0;exact Cu k0
  | true=>
  rw[e3,Arw] at k0
  refine Fs ?_
  refine⟨Awq (hp2),rfl,Awq (ht2),rfl,?_⟩
  conv=>whnf
  rw[Sf]
  exact k0
 |
  mo dt fi e=>
  refine⟨Awq (ht),rfl,?_⟩
  refine Er dkk ?_
  refine Er dkk ?_
  refine Er dkk ?_
  refine Er dkk ?_
  have ok0:=ok
  obtain⟨t0,t1,t2,fo⟩:=ok
  refine⟨Awq (ht),rfl,⟨λz=>?_,λz=>?_⟩⟩
  ·
   have z':d<fi:=Aqu z
   have k0:=k H (Awr _)
   rw[DF.Aes z'] at k0
   exact k0
  have hf:fi<=d:=Atz.mp λw=>z (Aqs w)
  clear z
  refine Er dkk ?_
  refine⟨Awq (hp),rfl,Awq (hp),rfl,_,_,rfl,λH1 s1=>?_⟩
  have ht1:=s1 _ _ ht
  have hp1:=s1 _ _ hp
  refine Er dkk ?_
  refine⟨Awq (ht1),rfl,Awq (ht1),rfl,d,p,fi,e,rfl,hp1,fo.1,fo.2.1,fo.2.2.1,λH2 s2=>?_⟩
  have ht2:=s2 _ _ ht1
  have hp2:=s2 _ _ hp1
  refine⟨λz=>?_,λz=>?_⟩
  ·
   have k0:=k H2 (s1.trans s2)
   rw[DF.Alz d0 d1 hf (Aqu z)] at k0
   exact k0
  rw[DF.Aob d0 d1 hf ok0 (λw=>z (Aqs w))] at k
  refine ed dkk ?_
  refine⟨Awq (hp2),rfl,Awq (ht2),rfl,Awq (ht2),rfl,λL hL=>?_⟩
  have ht3:=Ai (o:=.lst [.int dt,.int (DM.len (2000+DM.mo d/12) (DM.mo d%12+1)+1+dt)]) hL _ _ ht2
  refine⟨Awq (ht3),rfl,.inr ⟨_,rfl,Aws Ae,Als,?_⟩⟩
  conv=>whnf
  have k0:=k _ ((s1.trans s2).trans (Ai (o:=.lst [.int dt,.int (DM.len (2000+DM.mo d/12) (DM.mo d%12+1)+1+dt)]) hL))
  by_cases hd:dt<0
  ·
   rw[if_pos hd] at k0
   rw[Aqs hd,if_pos rfl]
   conv=>whnf
   rw[Sf]
   exact k0
  ·
   rw[if_neg hd] at k0
   rw[Aqz hd,if_neg dkd]
   conv=>whnf
   rw[Sf]
   exact k0
 |
  nt w wd fi e=>
  refine⟨Awq (ht),rfl,?_⟩
  refine Er dkk ?_
  refine Er dkk ?_
  refine Er dkk ?_
  refine Er dkk ?_
  have ok0:=ok
  obtain⟨t0,t1,t2,w0,w1,fo⟩:=ok
  refine⟨Awq (ht),rfl,⟨λz=>?_,λz=>?_⟩⟩
  ·
   have z':d<fi:=Aqu z
   have k0:=k H (Awr _)
   rw[DF.Aes z'] at k0
   exact k0
  have hf:fi<=d:=Atz.mp λw=>z (Aqs w)
  clear z
  refine Er dkk ?_
  refine⟨Awq (hp),rfl,Awq (hp),rfl,_,_,rfl,λH1 s1=>?_⟩
  have ht1:=s1 _ _ ht
  have hp1:=s1 _ _ hp
  refine Er dkk ?_
  refine⟨Awq (ht1),rfl,Awq (ht1),rfl,d,p,fi,e,rfl,hp1,fo.1,fo.2.1,fo.2.2.1,λH2 s2=>?_⟩
  have ht2:=s2 _ _ ht1
  have hp2:=s2 _ _ hp1
  refine⟨λz=>?_,λz=>?_⟩
  ·
   have k0:=k H2 (s1.trans s2)
   rw[DF.Al4 d0 d1 hf (Aqu z)] at k0
   exact k0
  have k0:=k H2 (s1.trans s2)
  rw[DF.Am8 d0 d1 hf ok0 (λw=>z (Aqs w))] at k0
  refine Er dkk ?_
  refine⟨Awq (hp2),rfl,Awq (ht2),rfl,⟨λz=>?_,λz=>?_⟩⟩
  ·
   rw[if_pos (Aqu z)] at k0
   refine⟨Awq (hp2),rfl,?_⟩
   refine⟨Awq (ht2),rfl,?_⟩
   conv=>whnf
   rw[Sf]
   cases e2:decide ((d+5)%7=wd) with
   | false=>rw[e2] at k0;exact Cu k0
   | true=>
   rw[e2,Arw] at k0
   refine Fs ?_
   refine⟨Awq (ht2),rfl,?_⟩
   conv=>whnf
   rw[Sf]
   exact k0
  ·
   rw[if_neg (λw=>z (Aqs w))] at k0
   refine⟨Awq (ht2),rfl,?_⟩
   conv=>whnf
   rw[Sf]
   cases e2:decide ((d+5)%7=wd) with
   | false=>rw[e2] at k0;exact Cu k0
   | true=>
   rw[e2,Arw] at k0
   refine Fs ?_
   refine⟨Awq (ht2),rfl,?_⟩
   conv=>whnf
   rw[Sf]
   exact k0
def Mw:Au ["_law_tree_here","_law_short","_law_first_here","_law_often_here"] ["_law_tree_here","_law_short"] (Ah Oy):=qsc
theorem gr:Fk P w T 7 a.Kr a.Ku ["_law_tree_here","_law_short"] (j7 (ad a)):=by
 refine T.Vk.go Mw λcdv A outer s H vs Q E hr h=>?_
 obtain⟨t,b,r,rfl,ht,ok0,hm,k⟩:=h
 refine⟨_,(Ac (Ahh (pv (Ajw (K:=K) rfl) (qv 0) (qg (vz j9 Ab)) Ab7) (zp rfl (Mm (qnm 2 Mw.nd) (Mm (qnm 3 Mw.nd) pq))))
  (Ac (A2 (Ak Bg (qix K (qv 0) Ab) Bo (Al _)) (Ac (A2 (Awt (Ob (Dg (qv 1)) (J1 (Ak Bg (qv 3) Ab (Al _))))) (Af (Aj (El (Ak Bg (qv 2) Ab (Al _)) (Fw T.Jy ((Ju T).mono dkd) hr rfl T.jf T.N7.choose_spec.1 T.N7.choose_spec.2 Bl (Aa (qix K (qv 0) Ab) Ad)) (Fw T.Jy ((Ju T).mono dkd) hr rfl T.jf T.Om.choose_spec.1 T.Om.choose_spec.2 Bl (Aa (qix K (qv 0) Ab) (Aa (qv 2) Ad)))))) Ao)
  (Af (Aj (qm T.Jy (Ju T) hr T.jf T.dq (Aa (qix K (qv 0) Ab) (Aa (qv 2) (Aa (qv 3) Ad))))))) Ao)
  (Ac (A2 (Ak Bg (qix K (qv 0) Ab) Bo (Al _)) (Ac (A2 (Awt (Ob (Dg (qv 1)) (J1 (Ak Bg (qv 3) Ab (Al _))))) (Af (Aj (El (Ak Bg (qv 2) Ab (Al _)) (Fw T.jt ((Q8 T).mono dkd) hr rfl T.Ah5 T.Ve.choose_spec.1 T.Ve.choose_spec.2 Bl (Aa (qix K (qv 0) Ab) (Aa (qix K (qv 0) Ab) Ad))) (Fw T.jt ((Q8 T).mono dkd) hr rfl T.Ah5 T.Vn.choose_spec.1 T.Vn.choose_spec.2 Bl (Aa (qix K (qv 0) Ab) (Aa (qix K (qv 0) Ab) (Aa (qv 2) Ad))))))) Ao)
  (Af (Aj (qm T.jt (Q8 T) hr T.Ah5 T.tp (Aa (qix K (qv 0) Ab) (Aa (qix K (qv 0) Ab) (Aa (qv 2) (Aa (qv 3) Ad)))))))) Ao)
  (Ac (A2 (Awt (Ob (Dg (qv 1)) (J1 (Ak Bg (qv 3) Ab (Al _))))) (Af (Aj (El (Ak Bg (qv 2) Ab (Al _)) (Fw T.Na ((Lm T).mono dkd) hr rfl T.rh T.O9.choose_spec.1 T.O9.choose_spec.2 Bl (Aa (qix K (qv 0) Ab) (Aa (qix K (qv 0) Ab) Ad))) (Fw T.Na ((Lm T).mono dkd) hr rfl T.rh T.Pr.choose_spec.1 T.Pr.choose_spec.2 Bl (Aa (qix K (qv 0) Ab) (Aa (qix K (qv 0) Ab) (Aa (qv 2) Ad))))))) Ao)
  (Af (Aj (qm T.Na (Lm T) hr T.rh T.jv (Aa (qix K (qv 0) Ab) (Aa (qix K (qv 0) Ab) (Aa (qv 2) (Aa (qv 3) Ad))))))))))),?_⟩
 cases r with
 |
  mo dt fi e=>
  refine⟨_,rfl,t,_,rfl,Awq ht,(by show ¬(HT.sIx 4 0 (some (-2))=0/\HT.sIx 4 4 none=4);decide),λp hp=>?_⟩
  conv=>whnf
  rw[Aqo]
  refine⟨p,_,rfl,Awq Ae,rfl,_,_,rfl,_,_,rfl,rfl,?_⟩
  conv=>whnf
  have S:=Ai (o:=.tup [.int fi,.int e]) hp
  have ht1:=S _ _ ht
  generalize upd H p (.tup [.int fi,.int e])=H1 at*
  refine⟨Awq (ht1),rfl,ed dkk ?_⟩
  cases b with
  |
   false=>
   refine Cu (Cu ?_)
   refine⟨Awq (ht1),rfl,λx dx nx ndx nex=>⟨x,dx,dt,fi,e,rfl,Ae,ok0,λH3 sx hr3=>⟨rfl,k x H3 ((Hv nx ndx S sx)) hr3⟩⟩⟩
  | true=>
  refine Fs (⟨λz=>?_,λz=>?_⟩)
  ·
   have z1:e=1:=V.int.inj (Aqu z)
   subst z1
   refine⟨λz=>?_,λz=>?_⟩
   ·
    have z0:fi=0:=V.int.inj (Aqu z)
    subst z0
    refine⟨Awq (ht1),rfl,λx dx nx ndx nex=>⟨x,dx,dt,0,1,rfl,Ae,ok0,λH3 sx hr3=>⟨rfl,k x H3 ((Hv nx ndx S sx)) hr3⟩⟩⟩
   · refine⟨Awq (ht1),rfl,λx dx nx ndx nex=>⟨x,dx,dt,fi,1,rfl,Ae,ok0,λH3 sx hr3=>⟨rfl,k x H3 ((Hv nx ndx S sx)) hr3⟩⟩⟩
  · refine⟨Awq (ht1),rfl,λx dx nx ndx nex=>⟨x,dx,dt,fi,e,rfl,Ae,ok0,λH3 sx hr3=>⟨rfl,k x H3 ((Hv nx ndx S sx)) hr3⟩⟩⟩
 |
  nt w wd fi e=>
  refine⟨_,rfl,t,_,rfl,Awq ht,(by show ¬(HT.sIx 5 0 (some (-2))=0/\HT.sIx 5 5 none=5);decide),λp hp=>?_⟩
  conv=>whnf
  rw[Apf]
  refine⟨p,_,rfl,Awq Ae,rfl,_,_,rfl,_,_,rfl,rfl,?_⟩
  conv=>whnf
  have S:=Ai (o:=.tup [.int fi,.int e]) hp
  have ht1:=S _ _ ht
  generalize upd H p (.tup [.int fi,.int e])=H1 at*
  refine⟨Awq (ht1),rfl,Er dkk ?_⟩
  refine⟨Awq (ht1),rfl,ed dkk ?_⟩
  cases b with
  |
   false=>
   refine Cu (Cu ?_)
   refine⟨Awq (ht1),rfl,Awq (ht1),rfl,λx dx nx ndx nex=>⟨x,dx,w,wd,fi,e,rfl,Ae,ok0,λH3 sx hr3=>⟨rfl,k x H3 ((Hv nx ndx S sx)) hr3⟩⟩⟩
  | true=>
  refine Fs (⟨λz=>?_,λz=>?_⟩)
  ·
   have z1:e=1:=V.int.inj (Aqu z)
   subst z1
   refine⟨λz=>?_,λz=>?_⟩
   ·
    have z0:fi=0:=V.int.inj (Aqu z)
    subst z0
    refine⟨Awq (ht1),rfl,Awq (ht1),rfl,λx dx nx ndx nex=>⟨x,dx,w,wd,0,1,rfl,Ae,ok0,λH3 sx hr3=>⟨rfl,k x H3 ((Hv nx ndx S sx)) hr3⟩⟩⟩
   · refine⟨Awq (ht1),rfl,Awq (ht1),rfl,λx dx nx ndx nex=>⟨x,dx,w,wd,fi,1,rfl,Ae,ok0,λH3 sx hr3=>⟨rfl,k x H3 ((Hv nx ndx S sx)) hr3⟩⟩⟩
  · refine⟨Awq (ht1),rfl,Awq (ht1),rfl,λx dx nx ndx nex=>⟨x,dx,w,wd,fi,e,rfl,Ae,ok0,λH3 sx hr3=>⟨rfl,k x H3 ((Hv nx ndx S sx)) hr3⟩⟩⟩
 |
  yr mn dt fi e=>
  refine⟨_,rfl,t,_,rfl,Awq ht,(by show ¬(HT.sIx 5 0 (some (-2))=0/\HT.sIx 5 5 none=5);decide),λp hp=>?_⟩
  conv=>whnf
  rw[Apf]
  refine⟨p,_,rfl,Awq Ae,rfl,_,_,rfl,_,_,rfl,rfl,?_⟩
  conv=>whnf
  have S:=Ai (o:=.tup [.int fi,.int e]) hp
  have ht1:=S _ _ ht
  generalize upd H p (.tup [.int fi,.int e])=H1 at*
  refine⟨Awq (ht1),rfl,Er dkk ?_⟩
  refine⟨Awq (ht1),rfl,Er dkk ?_⟩
  cases b with
  |
   false=>
   refine Cu (Cu ?_)
   refine⟨Awq (ht1),rfl,Awq (ht1),rfl,λx dx nx ndx nex=>⟨x,dx,mn,dt,fi,e,rfl,Ae,ok0,λH3 sx hr3=>⟨rfl,k x H3 ((Hv nx ndx S sx)) hr3⟩⟩⟩
  | true=>
  refine Fs (⟨λz=>?_,λz=>?_⟩)
  ·
   have z1:e=1:=V.int.inj (Aqu z)
   subst z1
   refine⟨λz=>?_,λz=>?_⟩
   ·
    have z0:fi=0:=V.int.inj (Aqu z)
    subst z0
    refine⟨Awq (ht1),rfl,Awq (ht1),rfl,λx dx nx ndx nex=>⟨x,dx,mn,dt,0,1,rfl,Ae,ok0,λH3 sx hr3=>⟨rfl,k x H3 ((Hv nx ndx S sx)) hr3⟩⟩⟩
   · refine⟨Awq (ht1),rfl,Awq (ht1),rfl,λx dx nx ndx nex=>⟨x,dx,mn,dt,fi,1,rfl,Ae,ok0,λH3 sx hr3=>⟨rfl,k x H3 ((Hv nx ndx S sx)) hr3⟩⟩⟩
  · refine⟨Awq (ht1),rfl,Awq (ht1),rfl,λx dx nx ndx nex=>⟨x,dx,mn,dt,fi,e,rfl,Ae,ok0,λH3 sx hr3=>⟨rfl,k x H3 ((Hv nx ndx S sx)) hr3⟩⟩⟩
 | nv=>exact hm.elim
 | ev _ _=>exact hm.elim
 | wk _ _ _=>exact hm.elim
 | dy _=>exact hm.elim
 | wh _ _=>exact hm.elim
def f9:Au ["_law_tree_here","_law_short","_law_word"] ["_law_tree_here","_law_short"] (Ah Hm):=qsc
def yf:Fk P w T 9 a.Pb a.U0 ["_law_tree_here","_law_short"] (xq (ad a) a.A8):=by
 refine T.nj.okC f9 T.xn (λvs H Q E h=>?_) (λA outer s H vs Q E hr h=>?_)
 · obtain⟨t,b,r,rfl,_⟩:=h;rfl
 ·
  obtain⟨t,b,r,rfl,ht,ok0,tab,k⟩:=h
  refine⟨_,(Ac (Eh 2 f9.nd (qix K (qv 0) Ab))
   (Ac (A2 (Ak Bg (qv 2) Bo (Al _)) (Af (Aj (Agw T.Ai2 rfl T.Ala))) Ao)
   (Ac (A2 (Ak Bg (qv 2) Bo (Al _)) (Af (Aj (qm T.Vv (Ot T) hr T.Aeo T.Qt (Aa (qix K (qv 0) Ab) Ad)))) Ao)
   (Ac (A2 (Ak Bg (qv 2) Bo (Al _)) (Af (Aj (qm T.X8 (fz T) hr T.Ajf T.mw (Aa (Alv T.Abk rfl) Ad)))) Ao)
   (Ac (A2 (Ak Bg (qv 2) Bo (Al _)) (Af (Aj (El (Awt (Ob (Dg (qv 1)) (J1 (Ak Bg (qix K (qv 0) Ab) Ab (Al _))))) (Fw T.Q1 ((M5 T).mono dkd) hr rfl T.x4 T.Rk.choose_spec.1 T.Rk.choose_spec.2 Bl (Aa (qix K (qv 0) Ab) Ad)) (qm T.Q1 (M5 T) hr T.x4 T.Vg (Aa (qix K (qv 0) Ab) (Aa (qix K (qv 0) Ab) Ad)))))) Ao)
   (Ac (A2 (Ak Bg (qv 2) Bo (Al _)) (Ac (A2 (Awt (Ob (Dg (qv 1)) (J1 (Ak Bg (qix K (qv 0) Ab) Ab (Al _))))) (Af (Aj (El (Ak Bg (qix K (qv 0) Ab) Ab (Al _)) (Fw T.Mt ((Li T).mono dkd) hr rfl T.o7 T.Pq.choose_spec.1 T.Pq.choose_spec.2 Bl (Aa (qix K (qv 0) Ab) Ad)) (Fw T.Mt ((Li T).mono dkd) hr rfl T.o7 T.Pl.choose_spec.1 T.Pl.choose_spec.2 Bl (Aa (qix K (qv 0) Ab) (Aa (qix K (qv 0) Ab) Ad)))))) Ao)
   (Af (Aj (qm T.Mt (Li T) hr T.o7 T.gn (Aa (qix K (qv 0) Ab) (Aa (qix K (qv 0) Ab) (Aa (qix K (qv 0) Ab) Ad))))))) Ao)
   (Af (Aj (qc (gr T) hr T.mq T.Vk T.l7 (Aa (qv 0) (Aa (qv 1) Ad))))))))))),?_⟩
  have k':∀x H',Same H H'->RuleAt (ad a) H' x r->Q (.ref x) H':=λx H' s hr=>k x H' (λq u _ eq=>s _ _ eq) (tab.same s) hr
  cases r with
  |
   nv=>
   refine⟨Awq (ht),rfl,?_⟩
   refine ed dkk ?_
   refine λx dx nx ndx nex=>⟨[],(λ_ h=>nomatch h),.nil,λ_=>k' x _ (λq u eq=>?_) ⟨dx,Ae⟩⟩
   show upd (upd H dx (HO.own x)) x (HO.ins a.Gd dx []) q=some u
   rw[An (Ap eq nx),An (Ap eq ndx)]
   exact eq
  |
   dy ds=>
   obtain⟨u,ht,hu⟩:=ht
   refine⟨Awq (ht),rfl,?_⟩
   refine Er dkk ?_
   refine ed dkk ?_
   refine⟨Awq (ht),rfl,λx dx nx ndx nex=>⟨x,dx,u,ds,rfl,Ae,?_,ok0,λH3 sx hr3=>⟨rfl,[],(λ_ h=>nomatch h),.nil,λ_=>k' x H3 (Hv nx ndx (Awr _) sx) hr3⟩⟩⟩
   rw[An (Ap hu nx),An (Ap hu ndx)]
   exact hu
  |
   wh m r=>
   have htt:H t=some (.tup [.str "where",.int m,.int r]):=ht
   refine⟨Awq (ht),rfl,?_⟩
   refine Er dkk ?_
   refine Er dkk ?_
   refine ed dkk ?_
   have key:=Ae4 (H:=H) (P:=a.A8) (pos:=Aht B1) (q:=Ur) (ps:=xk B1) (b:=yh B1) (sc:=ek B1) (cl:=[("_law_tree_here",s.heap.objs.size+1)])
    (Q:=λv H'=>∀x dx,H' x=none->H' dx=none->dx≠x->X7 a.B4 [.ref x,v] (upd (upd H' dx (.own x)) x (.ins a.B4 dx [])) (λv2 H2=>v2=.non/\RC ["_law_tree_here","_law_short","_law_word"] (Ah Hm) (s.heap.objs.size+1) Q [some (.ref t),some (.bl b),some (.str "where")] (.ref x) H2) E0) tab ?_
   · exact⟨tab,key.1,key.2⟩
   refine λf cd H1 s1 t1 hf hcd=>?_
   refine λx dx nx ndx nex=>⟨x,dx,f,rfl,Ae,λH3 sx hx3=>⟨rfl,?_⟩⟩
   have S3:=Hv nx ndx (Awr _) sx
   obtain⟨tb,htb⟩:=tab.tbl
   have npt:t≠a.A8:=λz=>by rw[z,htb] at htt;cases htt
   refine⟨[(0,("_law_tree_here":Str),s.heap.objs.size+1,.ref t)],λp hp=>?_,dks,λhn=>?_⟩
   ·
    rw[Arm] at hp
    subst hp
    exact⟨rfl,rfl,rfl,rfl⟩
   have hc:H3 (s.heap.objs.size+1)=none:=hn _ (List.mem_singleton.mpr rfl)
   have up:∀q u,H3 q=some u->(T1 [(0,("_law_tree_here":Str),s.heap.objs.size+1,.ref t)] H3) q=some u:=λq u eq=>by
    show upd H3 _ _ q=some u
    rw[An (Ap eq hc)]
    exact eq
   refine k x _ (λq u hq eq=>up _ _ (S3 _ _ (s1 _ _ hq eq))) (t1.same λq u eq=>up _ _ (S3 _ _ eq)) ⟨dx,f,t,up _ _ hx3,⟨_,cd,up _ _ (S3 _ _ hf),up _ _ (S3 _ _ hcd),dks,rfl,λi y z h1 h2=>?_,λp hp=>?_⟩,up _ _ (S3 _ _ (s1 _ _ npt htt))⟩
   ·
    match i,h1,h2 with
    |
     0,h1,h2=>
     cases h1
     cases h2
     exact⟨s.heap.objs.size+1,List.lookup_cons_self ..,Ae⟩
    | i+1,h1,h2=>exact absurd h1 dks
   ·
    rw[Arm] at hp
    subst hp
    exact⟨.ref t,Ae⟩
  |
   ev st fi=>
   refine⟨Awq (ht),rfl,?_⟩
   refine Er dkk ?_
   refine Er dkk ?_
   refine Er dkk ?_
   refine ed dkk ?_
   cases b with
   |
    false=>
    refine Cu (Cu ?_)
    refine⟨Awq (ht),rfl,Awq (ht),rfl,λx dx nx ndx nex=>⟨x,dx,st,fi,rfl,Ae,ok0,λH3 sx hr3=>⟨rfl,[],(λ_ h=>nomatch h),.nil,λ_=>k' x H3 (Hv nx ndx (Awr _) sx) hr3⟩⟩⟩
   | true=>
   refine Fs ⟨Awq (ht),rfl,⟨λz=>?_,λz=>?_⟩⟩
   ·
    have z0:fi=0:=V.int.inj (Aqu z)
    subst z0
    refine⟨Awq (ht),rfl,λx dx nx ndx nex=>⟨x,dx,st,0,rfl,Ae,ok0,λH3 sx hr3=>⟨rfl,[],(λ_ h=>nomatch h),.nil,λ_=>k' x H3 (Hv nx ndx (Awr _) sx) hr3⟩⟩⟩
   · refine⟨Awq (ht),rfl,Awq (ht),rfl,λx dx nx ndx nex=>⟨x,dx,st,fi,rfl,Ae,ok0,λH3 sx hr3=>⟨rfl,[],(λ_ h=>nomatch h),.nil,λ_=>k' x H3 (Hv nx ndx (Awr _) sx) hr3⟩⟩⟩
  |
   wk mk fi e=>
   refine⟨Awq (ht),rfl,?_⟩
   refine Er dkk ?_
   refine Er dkk ?_
   refine Er dkk ?_
   refine Er dkk ?_
   refine ed dkk ?_
   cases b with
   |
    false=>
    refine Cu (Cu ?_)
    refine⟨Awq (ht),rfl,Awq (ht),rfl,Awq (ht),rfl,λx dx nx ndx nex=>⟨x,dx,mk,fi,e,rfl,Ae,ok0,λH3 sx hr3=>⟨rfl,[],(λ_ h=>nomatch h),.nil,λ_=>k' x H3 (Hv nx ndx (Awr _) sx) hr3⟩⟩⟩
   | true=>
   refine Fs ⟨Awq (ht),rfl,⟨λz=>?_,λz=>?_⟩⟩
   ·
    have z1:e=1:=V.int.inj (Aqu z)
    subst z1
    refine⟨Awq (ht),rfl,⟨λz=>?_,λz=>?_⟩⟩
    ·
     have z0:fi=0:=V.int.inj (Aqu z)
     subst z0
     refine⟨Awq (ht),rfl,λx dx nx ndx nex=>⟨x,dx,mk,0,1,rfl,Ae,ok0,λH3 sx hr3=>⟨rfl,[],(λ_ h=>nomatch h),.nil,λ_=>k' x H3 (Hv nx ndx (Awr _) sx) hr3⟩⟩⟩
    · refine⟨Awq (ht),rfl,Awq (ht),rfl,λx dx nx ndx nex=>⟨x,dx,mk,fi,1,rfl,Ae,ok0,λH3 sx hr3=>⟨rfl,[],(λ_ h=>nomatch h),.nil,λ_=>k' x H3 (Hv nx ndx (Awr _) sx) hr3⟩⟩⟩
   · refine⟨Awq (ht),rfl,Awq (ht),rfl,Awq (ht),rfl,λx dx nx ndx nex=>⟨x,dx,mk,fi,e,rfl,Ae,ok0,λH3 sx hr3=>⟨rfl,[],(λ_ h=>nomatch h),.nil,λ_=>k' x H3 (Hv nx ndx (Awr _) sx) hr3⟩⟩⟩
  |
   mo dt fi e=>
   refine⟨Awq (ht),rfl,?_⟩
   refine Er dkk ?_
   refine Er dkk ?_
   refine Er dkk ?_
   refine Er dkk ?_
   refine Er dkk ?_
   exact⟨t,b,_,rfl,ht,ok0,trivial,λx H' s' hr=>⟨[],(λ_ h=>nomatch h),.nil,λ_=>k' x H' s' hr⟩⟩
  |
   nt w wd fi e=>
   refine⟨Awq (ht),rfl,?_⟩
   refine Er dkk ?_
   refine Er dkk ?_
   refine Er dkk ?_
   refine Er dkk ?_
   refine Er dkk ?_
   exact⟨t,b,_,rfl,ht,ok0,trivial,λx H' s' hr=>⟨[],(λ_ h=>nomatch h),.nil,λ_=>k' x H' s' hr⟩⟩
  |
   yr mn dt fi e=>
   refine⟨Awq (ht),rfl,?_⟩
   refine Er dkk ?_
   refine Er dkk ?_
   refine Er dkk ?_
   refine Er dkk ?_
   refine Er dkk ?_
   exact⟨t,b,_,rfl,ht,ok0,trivial,λx H' s' hr=>⟨[],(λ_ h=>nomatch h),.nil,λ_=>k' x H' s' hr⟩⟩
def Aj5 (hi:8<=i):FnOk P w K mg base CX0 true (20+0) f fd ["self","begin","end"] (spD (jd a) 0 i):=by
 have no:∀{vs:List V}{H:Hp}{Q:VK}{E:XK},spD (jd a) 0 i vs H Q E->False:=λh=>by
  obtain⟨x,b,e,t,rfl,hk,hd,_⟩:=h
  exact Ao0 hk hi hd
 exact⟨λvs H Q E h=>(no h).elim,λA outer s H args us vs Q E _ _ _ _ h=>(no h).elim⟩
theorem dz (T:Wg K mg base a):∀n,Zt P w K mg base a n
 | 0=>⟨Aj5 dkd,Aj5 dkd,Aj5 dkd,Aj5 dkd,Aj5 dkd,Aj5 dkd⟩
 | n+1=>have ID:=dz T n;have IH:=gj T n;⟨Y6 T n IH ID,jh T n IH ID,ma T n IH ID,Y0 T n IH ID,Xc T n IH ID,X5 T n IH ID⟩
def Aae:Au ["rule","begin","end"] ["rule","begin","end"] (Ah Iw):=⟨rfl,rfl,rfl,dkk,rfl,dkk,dkk⟩
def Hs:Fk P w T 30 a.Xw a.P6 ["rule","begin","end"] (Aaz (jd a)):=by
 refine T.Jp.ok Aae (λvs H Q E h=>?_) (λcdv A outer s H vs Q E hr h=>?_)
 · obtain⟨x,b,e,r,rfl,_⟩:=h;rfl
 ·
  obtain⟨x,b,e,r,rfl,hr0,hw,k⟩:=h
  refine⟨_,(Af (Aj (Ba (n:=2) (D:=dD a 4) (qv 0) (Ahm T (dz T 4) rfl rfl rfl rfl rfl hr dkd) (Aa (Bi (M7 rfl) rfl T.V2 dkk (Aa (qv 1) (Aa Ab Ad))) (Aa (Bi (Ip rfl) rfl T.Se dkk (Aa (qv 2) (Aa (B2 rfl T.Nj) Ad))) Ad))))),?_⟩
  have hw2:Win r (if 0>b then 0 else b) (if 146097<e then 146097 else e):=hw.sub (by split<;>lia) (by split<;>lia) (by split<;>lia) (by split<;>lia) (by split<;>lia)
  obtain⟨C1,dx1,fs1,R1,ea1,eb1,ec1,ed1⟩:=Sh (a:=a) (n:=4) hr0.1 hr0.2.1 hr0.2.2 hw2.1 hw2.2
  refine⟨ea1,eb1,ec1,ed1 _ λD H1 s1 hD f1=>?_⟩
  rw[DV.clip hr0.2.2 (b:=b) (e:=e) (by split<;>lia) (by split<;>lia)] at hD
  exact k D H1 s1 hD f1
def xr:Au ["_law_found","_law_due_here"] ["_law_found","_law_due_here"] (Ah U2):=⟨rfl,rfl,rfl,dkk,rfl,dkk,dkk⟩
def p6 (T:Wg K mg base a)(n:Nat)(IH:FnOk P w K mg base CX0 true (20+n) a.Kd a.Jx ["_law_found","_law_due_here"] (Rh n)):FnOk P w K mg base CX0 true (20+n+1) a.Kd a.Jx ["_law_found","_law_due_here"] (Rh (n+1)):=by
 refine T.Mr.ok xr (λvs H Q E h=>?_) (λcdv A outer s H vs Q E hr h=>?_)
 · obtain⟨v,u,rfl,_⟩:=h;rfl
 ·
  obtain⟨v,u,rfl,⟨_,hA⟩,k⟩:=h
  refine⟨_,(Ac (A2 (Dg (Bi (Dh (K:=K) rfl) rfl T.Bp dkk (Aa (qv 1) (Aa (Qi (v:=.ty "tuple") rfl T.Es dkk rfl) Ad)))) (Ac (A2 (Awt (cg (Od (Dg (Bi (Dh (K:=K) rfl) rfl T.Bp dkk (Aa (qv 0) (Aa (Qi (v:=.ty "tuple") rfl T.Es dkk rfl) Ad))))) (Vd (Ak pf (Bi (A7 (K:=K) rfl) rfl T.P7 dkk (Aa (qv 0) Ad)) (Bi (A7 (K:=K) rfl) rfl T.P7 dkk (Aa (qv 1) Ad)) (Al _))))) (Af (Aj Yc)) Ao)
   (Af (Aj (A6 Bg (Bi (A7 (K:=K) rfl) rfl T.P7 dkk (Aa (Oz (N:=["_law_k","_law_found","_law_due_here"]) (cap:=[none,some 0,some 1]) (by show Cf (Ah U2) _ ["_law_found","_law_due_here"] _ _;exact⟨rfl,dkk,dkk,dkk,dkk,rfl,dkk⟩) rfl (Th rfl T.Iu (Aa (Bi (A7 (K:=K) rfl) rfl T.P7 dkk (Aa (qv 1) Ad)) Ad)) (λC s H fp=>⟨(Fq (i:=0) (by show(["_law_k","_law_found","_law_due_here"]:List Str).Nodup;decide+kernel) rfl (Or.inl rfl) (.inr rfl)),(af (Od (Dg (A5 ((IH).mono dkl) hr rfl T.Pm T.Mr.kp T.P0 .nil Bl (Aa (sv (Adf (K:=K) rfl) (qv 1) (qv 0) (λ_ _=>rfl)) (Aa (sv (Adf (K:=K) rfl) (qv 2) (qv 0) (λ_ _=>rfl)) Ad)))))),(qv 0)⟩)) Ad)) Ab (Al _))))) Ao)
   (Ac (A2 (Dg (Bi (Dh (K:=K) rfl) rfl T.Bp dkk (Aa (qv 1) (Aa (Qi (v:=.ty "str") rfl T.Abi dkk rfl) Ad)))) (Af (Aj (Dk (Bi (Dh (K:=K) rfl) rfl T.Bp dkk (Aa (qv 0) (Aa (Qi (v:=.ty "str") rfl T.Abi dkk rfl) Ad))) (Dc (A6 Bg (qv 0) (qv 1) (Al _)))))) Ao)
   (Ac (A2 (Ak ke (qv 1) F0 (Al _)) (Af (Aj (A6 ke (qv 0) F0 (Al _)))) Ao)
   (Ac (A2 (Dg (Bi (Dh (K:=K) rfl) rfl T.Bp dkk (Aa (qv 1) (Aa (Qi (v:=.ty "bool") rfl T.Z5 dkk rfl) Ad)))) (Af (Aj (Dk (Bi (Dh (K:=K) rfl) rfl T.Bp dkk (Aa (qv 0) (Aa (Qi (v:=.ty "bool") rfl T.Z5 dkk rfl) Ad))) (Dc (A6 Bg (qv 0) (qv 1) (Al _)))))) Ao)
   (Af (Aj (Dk (Bi (Dh (K:=K) rfl) rfl T.Bp dkk (Aa (qv 0) (Aa (Qi (v:=.ty "int") rfl T.qe dkk rfl) Ad))) (Dk (Ad0 (Bi (Dh (K:=K) rfl) rfl T.Bp dkk (Aa (qv 0) (Aa (Qi (v:=.ty "bool") rfl T.Z5 dkk rfl) Ad)))) (Dc (A6 Bg (qv 0) (qv 1) (Al _))))))))))),?_⟩
  rcases hA with⟨o,rfl,rfl⟩|⟨hn,p,q,ns,rfl,rfl,hp,hq,hz⟩
  ·
   have k:=k H (Awr _)
   cases o with
   |
    some d=>
    have ij:d=d:=rfl
    refine⟨_,_,_,_,rfl,d4.int _,rfl,Cu ?_⟩
    refine⟨_,_,_,_,rfl,d4.int _,rfl,Cu ?_⟩
    refine⟨λz=>absurd z (by simp[oV]),λ_=>?_⟩
    refine⟨_,_,_,_,rfl,d4.int _,rfl,Cu ?_⟩
    refine⟨_,_,_,_,rfl,d4.int _,rfl,Fs ?_⟩
    refine⟨_,_,_,_,rfl,d4.int _,rfl,?_⟩
    refine⟨λ_=>?_,λz=>absurd rfl z⟩
    conv=>whnf
    rw[Aqs rfl]
    exact k
   |
    none=>
    refine⟨_,_,_,_,rfl,d4.non,rfl,Cu ?_⟩
    refine⟨_,_,_,_,rfl,d4.non,rfl,Cu ?_⟩
    refine⟨λ_=>?_,λz=>absurd dkd z⟩
    exact k
  ·
   refine⟨_,_,_,_,rfl,d4.tup hq,rfl,Fs ?_⟩
   refine⟨_,_,_,_,rfl,d4.tup hp,rfl,Cu ?_⟩
   refine⟨p,_,rfl,.inr (Awq hp),q,_,rfl,.inr (Awq hq),?_⟩
   refine yc rfl ?_
   refine⟨q,_,rfl,.inr (Awq hq),(ns.length:Int),by rw[Aqv],dkl,dkl,?_⟩
   refine Ie (Nd 0 _ H) (λ_=>false) (λv=>v) (by rw[Aqv,Art];lia) ?_ (λ_ _ z=>nomatch z) (λD H1 s1 _ hD=>?_)
   ·
    intro v hv H' sm R hR
    obtain⟨j,hj,rfl⟩:=Arz.mp hv
    have hj:=Aty.mp hj
    have j1:j<ns.length:=by lia
    have a1:atI (ns.map V.int) (0+(j:Int))=some (.int ns[j]):=by rw[show(0+(j:Int))=((j:Nat):Int) by lia];exact Ow (by rw[Are,Aq6 j1];rfl)
    obtain⟨n1,rfl⟩:∃n1,n=n1+1:=⟨n-1,dkl⟩
    exact⟨Awq (sm _ _ hp),a1,Awq (sm _ _ hq),a1,_,_,rfl,SmA.one _,λH3 s3=>hR H3 s3⟩
   rw[Af4,Auw] at hD
   refine⟨D,_,rfl,.inl (Aws hD),?_⟩
   conv=>whnf
   rw[Aqs (show V.int (([]:List V).length:Int)=V.int 0 from rfl)]
   exact k H1 s1
theorem Zw (T:Wg K mg base a):∀n,FnOk P w K mg base CX0 true (20+n) a.Kd a.Jx ["_law_found","_law_due_here"] (Rh n)
 | 0=>⟨λvs H Q E h=>by obtain⟨v,u,rfl,h1,_⟩:=h;exact absurd h1.1 (Asd _),λA outer s H args us vs Q E _ _ _ _ h=>by obtain⟨v,u,rfl,h1,_⟩:=h;exact absurd h1.1 (Asd _)⟩
 | n+1=>p6 T n (Zw T n)
def Qq:Fk P w T 30 a.Kd a.Jx ["_law_found","_law_due_here"] (Rh 2):=(Zw T 2).mono dkd
def B3:Au ["_law_pick","_law_base","_law_deep","_law_more","_law_way","_law_one","_law_word","_law_begin","_law_far","_law_left","_law_extra","_law_begins","_law_pairs"] ["_law_pick","_law_base","_law_deep"] (Ah Y4):=qsc
def pe (T:Wg K mg base a)(n:Nat)(IH:FnOk P w K mg base CX0 true (20+n) a.Kc a.J4 ["_law_pick","_law_base","_law_deep"] (Q4 n)):FnOk P w K mg base CX0 true (20+n+1) a.Kc a.J4 ["_law_pick","_law_base","_law_deep"] (Q4 (n+1)):=by
 refine T.Um.go B3 λcdv A outer s H vs Q E hr h=>?_
 obtain⟨p,b,dp,rfl,b0,b1,dp0,dp1,k⟩:=h
 refine⟨_,(Ac (Eh 3 B3.nd (qc (B5 T) hr T.C3 T.Ck T.C5 (Aa (Ag Aq (qv 0) Ab) Ad)))
  (Ac (Eh 4 B3.nd (Ag Av (Ag Az (qv 0) Ab) Ab))
  (Ac (A2 (Awt (cg (Ak Bg (qv 2) Ab (Al _)) (Vd (Ak qd (qv 4) Ab (Al _))))) (Af (Aj (qc (p8 T) hr T.vb T.Zu T.vk (Aa (qc (B5 T) hr T.C3 T.Ck T.C5 (Aa (qv 0) Ad)) (Aa (qv 1) Ad))))) Ao)
  (Ac (Eh 5 B3.nd (qc IH hr T.Y9 T.Um T.Zr (Aa (qc (B5 T) hr T.C3 T.Ck T.C5 (Aa (qv 3) Ad)) (Aa (qv 1) (Aa (Ag Bc (qv 2) Ab) Ad)))))
  (Ac (A2 (Ak Lq (qv 4) Ab (Al _)) (Ac (Eh 6 B3.nd (qil K (Lv (P9 [.str "either",.str "both",.str "but",.str "either"] dkk)) (qv 4)))
  (Af (Aj (Ea (Aa (qv 6) (Aa (qv 5) (Aa (qc IH hr T.Y9 T.Um T.Zr (Aa (qc (B5 T) hr T.C3 T.Ck T.C5 (Aa (Ag Aq (qv 3) Ab) Ad)) (Aa (qv 1) (Aa (Ag Bc (qv 2) Ab) Ad)))) Ad))))))) Ao)
  (Ac (A2 (Ak Bg (qv 4) Ab (Al _)) (Ac (Eh 7 B3.nd (Ag Bc (Ag Aq (qv 1) (Ag Av (qv 3) Ab)) Ab))
  (Ac (A2 (Ak Bg (Ag Av (Ag Az (qv 3) Ab) Ab) Ab (Al _)) (Ac (Eh 8 B3.nd (qil K (Lv (Aa (Ag Abx Ab Ab) (Aa (Ag Abx Ab Ab) (Aa (Ag Abx Ab Ab) Ad)))) (Ag Av (qv 3) Ab)))
  (Af (Aj (Ea (Aa Bo (Aa (Ag Bc (qv 7) (qv 8)) (Aa (Ag Aq (Ag Aq (qv 7) (qv 8)) (Ag Av (qv 3) Ab)) (Aa (qv 5) Ad)))))))) Ao)
  (Af (Aj (Ea (Aa Bo (Aa (qv 7) (Aa (Ag Aq (qv 7) (Ag Av (Ag Az (qv 3) Ab) Ab)) (Aa (qv 5) Ad))))))))) Ao)
  (Ac (A2 (Ak Bg (qv 4) Ab (Al _)) (Af (Aj (Ea (Aa Bo (Aa (qil K (Lv (Aa (Ag Bc (Ag Av (qv 3) Ab) Ab) (Aa (Ag Bc (Ag Av (qv 3) Ab) Ab) Ad))) (Ag Av (Ag Az (qv 3) Ab) Ab)) (Aa (qv 5) Ad)))))) Ao)
  (Nb (A2 (Ak Bg (Ag Av (Ag Az (qv 3) Ab) Ab) Ab (Al _)) (Af (Eh 5 B3.nd (Ea (Aa Bo (Aa (Ag Aq Ab (Ag Av (Ag Az (qv 3) Ab) Ab)) (Aa Ab Ad)))))) Ao)
  (Ac (Eh 9 B3.nd (qc (Nv T) hr T.Qx T.My T.Rc (Aa (Ag Az (qv 3) Ab) (Aa (qv 1) (Aa (Ag Av (qv 3) Ab) Ad)))))
  (Ac (Eh 10 B3.nd (qc (Nv T) hr T.Qx T.My T.Rc (Aa (Ag Aq (qv 3) Ab) (Aa (qv 1) (Aa (Ag Av (Ag Az (qv 3) Ab) Ab) Ad)))))
  (Ac (Eh 11 B3.nd (qc (Nv T) hr T.Qx T.My T.Rc (Aa (Ag Aq (qv 3) Ab) (Aa (qv 1) (Aa (Ag Av (Ag Az (qv 3) Ab) Ab) Ad)))))
  (Nb (A2 (Ak Bg (Ag Av (Ag Az (qv 3) Ab) Ab) Ab (Al _)) (Af (Eh 11 B3.nd (Ag Ae3 (pv Adc (qv 11) Ab7 (qg Ab)) (qv 9)))) Ao)
  (Ac (Eh 12 B3.nd (Aaf (K:=K) rfl rfl rfl T.Tp rfl T.Ac7 (Aa (qv 11) (Aa (qc (Nv T) hr T.Qx T.My T.Rc (Aa (Ag Aq (qv 3) Ab) (Aa (qv 1) (Aa (qb (A7 (K:=K) rfl) T.P7 (Aa (qv 11) Ad)) Ad)))) Ad))))
  (Af (Aj (Ea (Aa Bo (Aa (qv 5) (Aa (qv 9) (Aa (qv 10) (Aa (qty (Bf (K:=K) rfl) T.Es (Aa (qv 12) Ad)) Ad))))))))))))))))))))),?_⟩
 have hdp:dp<=(n:Int):=by lia
 refine⟨_,rfl,λm m0=>?_⟩
 have w0:0<=p/9%10:=Arp _ dkd
 have simple:∀{D:Ends},True:=λ{_}=>trivial
 refine⟨λz=>Fs ?_,λz=>⟨λ_=>?_,λ_=>?_⟩⟩
 · exact⟨_,rfl,λq _=>⟨_,b,rfl,λt r H2 s2 ht ok=>k t (.s r) H2 s2 ht ok (Ar3 _)⟩⟩
 · exact⟨_,rfl,λq _=>⟨_,b,rfl,λt r H2 s2 ht ok=>k t (.s r) H2 s2 ht ok (Ar3 _)⟩⟩
 have dpos:1<=dp:=by
  have:dp≠0:=λe=>z (Aqs (by rw[e]))
  lia
 refine⟨_,rfl,λq1 _=>⟨_,b,_,rfl,b0,b1,dkl,dkl,λy1 r1 H1 s1 h1 ok1 d1=>?_⟩⟩
 refine⟨λz=>?_,λ_=>?_⟩
 ·
  have z4:p/9%10<4:=Aqu z
  obtain⟨wd,hwd,hw3⟩:=Al0 w0 z4
  refine λL hL=>⟨Aws Ae,hwd,?_⟩
  have u2:=Ai (o:=.lst [V.str "either",V.str "both",V.str "but",V.str "either"]) hL
  refine⟨_,rfl,λq2 _=>⟨_,b,_,rfl,b0,b1,dkl,dkl,λy2 r2 H3 s3 h2 ok2 d2=>?_⟩⟩
  refine λt ht=>?_
  have S3:=(s1.trans u2).trans s3
  have ST:=S3.trans (Ai (o:=.tup [.str wd,.ref y1,.ref y2]) ht)
  have a1:=((h1.up u2).up s3).up (Ai (o:=.tup [.str wd,.ref y1,.ref y2]) ht)
  have a2:=h2.up (Ai (o:=.tup [.str wd,.ref y1,.ref y2]) ht)
  rcases hw3 with rfl|rfl|rfl
  · exact k t (.ei r1 r2) _ ST (TrAt.ei.mpr ⟨y1,y2,Ae,a1,a2⟩) ⟨ok1,ok2⟩ (by show max (dep r1) (dep r2)+1<=_;lia)
  · exact k t (.bo r1 r2) _ ST (TrAt.bo.mpr ⟨y1,y2,Ae,a1,a2⟩) ⟨ok1,ok2⟩ (by show max (dep r1) (dep r2)+1<=_;lia)
  · exact k t (.bu r1 r2) _ ST (TrAt.bu.mpr ⟨y1,y2,Ae,a1,a2⟩) ⟨ok1,ok2⟩ (by show max (dep r1) (dep r2)+1<=_;lia)
 refine⟨λ_=>?_,λ_=>?_⟩
 ·
  conv=>whnf
  refine⟨λ_=>?_,λ_=>?_⟩
  ·
   refine⟨_,_,rfl,rfl,⟨dkd,dkd,dkd⟩,_,_,rfl,rfl,⟨dkd,dkd,dkd⟩,_,_,rfl,rfl,⟨dkd,dkd,dkd⟩,λL hL=>?_⟩
   obtain⟨far,f0,f1,hf⟩:=Wr (ts:=[10 ^ (9:Int).toNat,10 ^ (12:Int).toNat,10 ^ (17:Int).toNat]) (i:=m%3) 0 (10 ^ 17) (Arp _ dkd) (Aro _ dkd) dkk
   have S5:=Ai (o:=.lst [V.int (10 ^ (9:Int).toNat),V.int (10 ^ (12:Int).toNat),V.int (10 ^ (17:Int).toNat)]) hL
   refine⟨Aws Ae,hf,?_⟩
   refine λt ht=>?_
   have ST:=(s1.trans S5).trans (Ai (o:=.tup [.str "within",.int (b+m%50-10-far),.int (b+m%50-10+far+m%9),.ref y1]) ht)
   exact k t (.wi (b+m%50-10-far) (b+m%50-10+far+m%9) r1) _ ST (TrAt.wi.mpr ⟨y1,Ae,(h1.up S5).up (Ai ht)⟩) ⟨⟨dkl,dkl,dkl,dkl⟩,ok1⟩ (by show dep r1+1<=_;lia)
  ·
   have S5:=Awr H1
   refine λt ht=>?_
   have ST:=s1.trans (Ai (o:=.tup [.str "within",.int (b+m%50-10),.int (b+m%50-10+m/50%90),.ref y1]) ht)
   exact k t (.wi (b+m%50-10) (b+m%50-10+m/50%90) r1) _ ST (TrAt.wi.mpr ⟨y1,Ae,(h1.up S5).up (Ai ht)⟩) ⟨⟨dkl,dkl,dkl,dkl⟩,ok1⟩ (by show dep r1+1<=_;lia)
 refine⟨λ_=>?_,λ_=>?_⟩
 ·
  refine λL hL=>?_
  obtain⟨v,v0,v1,hv⟩:=Wr (ts:=[m%15-7,m%2001-1000]) (i:=m/2001%2) (-1000) 1000 (Arp _ dkd) (Aro _ dkd) (λt ht=>by
   rcases Ara.mp ht with rfl|ht;· lia
   rw[Arm] at ht;subst ht;lia)
  have S5:=Ai (o:=.lst [V.int (m%15-7),V.int (m%2001-1000)]) hL
  refine⟨Aws Ae,hv,λt ht=>?_⟩
  exact k t (.sh v r1) _ ((s1.trans S5).trans (Ai ht)) (TrAt.sh.mpr ⟨y1,Ae,(h1.up S5).up (Ai ht)⟩) ⟨⟨v0,v1⟩,ok1⟩ (by show dep r1+1<=_;lia)
 refine⟨λσ H'=>∃(y:Addr)(r:Rt),Same H H'/\TrAt H' r y/\Okt r/\dep r<=(dp-1).toNat/\σ=[some (.int p),some (.int b),some (.int dp),some (.int m),some (.int (p/9%10)),some (.ref y),none,none,none,none,none,none,none],?_,?_⟩
 ·
  refine⟨λ_=>?_,λ_=>?_⟩
  ·
   refine λt ht=>?_
   exact⟨t,.s (.ev (1+m/192%2) 0),s1.trans (Ai ht),Ae,(show Ok (.ev (1+m/192%2) 0) from ⟨dkl,dkl,dkd,dkd⟩),Ar3 _,rfl⟩
  · exact⟨y1,r1,s1,h1,ok1,d1,rfl⟩
 rintro σ H2 ⟨y,r,s2,h2,ok2,d2,rfl⟩
 refine⟨_,b,_,rfl,dkl,dkl,λl1 ls H3 s3 hl1 ln1 hd1=>?_⟩
 refine⟨_,b,_,rfl,dkl,dkl,λl2 ms H4 s4 hl2 ln2 hd2=>?_⟩
 refine⟨_,b,_,rfl,dkl,dkl,λl3 bs H5 s5 hl3 ln3 hd3=>?_⟩
 refine⟨λσ H'=>∃(l4:Addr)(cs:List Int),Same H5 H'/\H' l4=some (.tup (cs.map V.int))/\cs.length<=4/\(∀d∈cs,Dy d)/\σ=[some (.int p),some (.int b),some (.int dp),some (.int m),some (.int (p/9%10)),some (.ref y),none,none,none,some (.ref l1),some (.ref l2),some (.ref l4),none],?_,?_⟩
 ·
  refine⟨λ_=>?_,λ_=>?_⟩
  ·
   refine⟨_,rfl,l3,_,rfl,hl3,λl5 H6 s6 hl5=>?_⟩
   rw[Apy,←List.map_take] at hl5
   refine⟨l5,l1,_,_,rfl,rfl,hl5,s6 _ _ (s5 _ _ (s4 _ _ hl1)),(by rw[Aqv,Aqv,Ar4];exact Aq3 (by lia:_<=10) dkd),λl6 H7 s7 hl6=>?_⟩
   rw[←Ati] at hl6
   refine⟨l6,_,s6.trans s7,hl6,by rw[Aqw,Ar4];lia,λd hd=>?_,rfl⟩
   rcases Ar0.mp hd with hd|hd
   · exact hd3 d (List.mem_of_mem_take hd)
   · exact hd1 d hd
  · exact⟨l3,bs,Awr _,hl3,dkl,hd3,rfl⟩
 rintro σ H6 ⟨l4,cs,s6,hl4,lc,hdc,rfl⟩
 refine⟨l4,_,rfl,.inr (Awq hl4),_,b,_,rfl,dkl,(by rw[Aqv];lia),λl5 es H7 s7 hl5 ln5 hd5=>?_⟩
 rw[Aqv] at ln5
 have l45:cs.length=es.length:=by lia
 refine⟨l4,l5,cs,es,rfl,Awq (s7 _ _ hl4),Awq hl5,l45,dkl,λL H8 rs s8 hL hok hrs=>?_⟩
 refine⟨L,_,rfl,.inl ⟨Aws hL,λo ho=>λt ht=>?_⟩⟩
 have u9:=Ai (o:=.tup (refs rs)) ho
 have u10:=Ai (o:=.tup [.str "changed",.ref y,.ref l1,.ref l2,.ref o]) ht
 have S58:=(s6.trans s7).trans s8
 have S8:=((s3.trans s4).trans s5).trans S58
 have hmv:∀z∈cs.zip es,Dy z.1/\Dy z.2:=λz hz=>⟨hdc _ (Auh hz).1,hd5 _ (Auh hz).2⟩
 refine k t (.ch r ls ms (cs.zip es)) _ (((s2.trans S8).trans u9).trans u10) (TrAt.ch.mpr ⟨y,l1,l2,o,Ae,((h2.up S8).up u9).up u10,u10 _ _ (u9 _ _ (S58 _ _ (s5 _ _ (s4 _ _ hl1)))),u10 _ _ (u9 _ _ (S58 _ _ (s5 _ _ hl2))),⟨rs,u10 _ _ Ae,(hok.up u9).up u10,hrs⟩⟩) ⟨ok2,⟨dkl,dkl,by rw[List.length_zip];lia⟩,hd1,hd2,hmv⟩ (by show dep r+1<=_;lia)
theorem Zz (T:Wg K mg base a):∀n,FnOk P w K mg base CX0 true (20+n) a.Kc a.J4 ["_law_pick","_law_base","_law_deep"] (Q4 n)
 | 0=>⟨λvs H Q E h=>by obtain⟨p,b,dp,rfl,b0,b1,d0,d1,_⟩:=h;exact absurd (Int.lt_of_le_of_lt d0 d1) (Int.lt_irrefl _),λA outer s H args us vs Q E _ _ _ _ h=>by obtain⟨p,b,dp,rfl,b0,b1,d0,d1,_⟩:=h;exact absurd (Int.lt_of_le_of_lt d0 d1) (Int.lt_irrefl _)⟩
 | n+1=>pe T n (Zz T n)
def xp:Fk P w T 30 a.Kc a.J4 ["_law_pick","_law_base","_law_deep"] (Q4 4):=(Zz T 4).mono dkd
def Fy:Au ["_law_rule_here","_law_day_here","_law_date_here","_law_word","_law_one","_law_other","_law_begin","_law_goal"] ["_law_rule_here","_law_day_here","_law_date_here"] (Ah Q2):=qsc
theorem md (
      T:Wg K mg base a) (n:Nat) (IH:FnOk P w K mg base CX0 true (20+n) a.Hb a.Hh ["_law_rule_here","_law_day_here","_law_date_here"] (Nn n)):FnOk P w K mg base CX0 true (20+n+1) a.Hb a.Hh ["_law_rule_here","_law_day_here","_law_date_here"] (Nn (n+1)):=by
 refine T.Fx.go Fy λcdv A outer s H vs Q E hr h=>?_
 obtain⟨t,p,d,r,rfl,ht,ok,hn,d0,d1,hp,k⟩:=h
 refine⟨_,(Ac (Eh 3 Fy.nd (qix K (qv 0) Ab))
  (Ac (A2 (Od (d7 ie Lq Ab (qv 1) Ab)) (Af (Aj Yc)) Ao)
  (Ac (A2 (Ak (Mp (K:=K) rfl) (qv 3) (Ea (P9 [.str "either",.str "both",.str "but"] dkk)) (by with_unfolding_all rfl)) (Ac (Eh 4 Fy.nd (qc IH hr T.Ha T.Fx T.Hd (Aa (qix K (qv 0) Ab) (Aa (qv 1) (Aa (qv 2) Ad)))))
  (Ac (Eh 5 Fy.nd (qc IH hr T.Ha T.Fx T.Hd (Aa (qix K (qv 0) Ab) (Aa (qv 1) (Aa (qv 2) Ad)))))
  (Af (Aj (Ah0 (Acg hr) (Aim (qo Bo (Ac8 (qv 4) (Dc (qv 5))) (qo Bo (Dk (qv 4) (Dc (qv 5))) (qo Bo (Dk (qv 4) (Dc (Ad0 (qv 5)))) Aio))) rfl rfl dkd dkd) (qv 3) (λ_ _=>rfl)))))) Ao)
  (Ac (A2 (Ak Bg (qv 3) Bo (Al _)) (Af (Aj (Dk (A6 ie (qix K (qv 0) Ab) (qv 1) (Al _)) (Dk (A6 Lq (qv 1) (qix K (qv 0) Ab) (Al _)) (Dc (qc IH hr T.Ha T.Fx T.Hd (Aa (qix K (qv 0) Ab) (Aa (qv 1) (Aa (qv 2) Ad))))))))) Ao)
  (Ac (A2 (Ak Bg (qv 3) Bo (Al _)) (Ac (Eh 5 Fy.nd (Ag Bc (qv 1) (qix K (qv 0) Ab)))
  (Af (Aj (Dk (ot ie Lq Ab (qv 5) Ab) (Dc (qc IH hr T.Ha T.Fx T.Hd (Aa (qix K (qv 0) Ab) (Aa (qv 5) (Aa (qc (Hi T) hr T.Jw T.Hn T.J0 (Aa (qv 5) Ad)) Ad))))))))) Ao)
  (Ac (A2 (Ak pf (qv 3) Bo (Al _)) (Af (Aj (qc (ug T) hr T.xu T.jb T.yb (Aa (qv 0) (Aa (qv 1) (Aa (qv 2) Ad)))))) Ao)
  (Ac (A2 (Ak (Mp (K:=K) rfl) (qv 1) (qix K (qv 0) Ab) (by with_unfolding_all rfl)) (Af (Aj Yc)) Ao)
  (Ac (aj Ash rfl (Sl (K:=K) rfl (qix K (qv 0) Ab)) (zp rfl (Mm (qnm 6 Fy.nd) (Mm (qnm 7 Fy.nd) pq))) (Af (A2 (Awt (Ob (Ak Bg (qv 7) (qv 1) (Al _)) (Ob (Ak (Ws (K:=K) rfl) (qv 6) (qix K (qv 0) Ab) (by with_unfolding_all rfl)) (J1 (Dg (qc IH hr T.Ha T.Fx T.Hd (Aa (qix K (qv 0) Ab) (Aa (qv 6) (Aa (qc (Hi T) hr T.Jw T.Hn T.J0 (Aa (qv 6) Ad)) Ad))))))))) (Af (Aj Yc)) Ao)))
  (Ac (A2 (Awt (cg (Ak (Mp (K:=K) rfl) (qv 1) (qix K (qv 0) Ab) (by with_unfolding_all rfl)) (Vd (Ak (Mp (K:=K) rfl) (qv 1) (Oz (N:=["_law_pair"]) (cap:=[none]) (by show Cf (Ah Q2) _ ["_law_rule_here","_law_day_here","_law_date_here","_law_word","_law_one","_law_other","_law_begin","_law_goal"] _ _;exact⟨rfl,dkk,dkk,dkk,dkk,rfl,dkk⟩) rfl (Sl (K:=K) rfl (qix K (qv 0) Ab)) (λC s H fp=>⟨(Fq (i:=0) (by show(["_law_pair"]:List Str).Nodup;decide+kernel) rfl (Or.inl rfl) (.inr rfl)),Ys,(qix K (qv 0) Ab)⟩)) (by with_unfolding_all rfl))))) (Af (Aj Yc)) Ao)
  (Af (Aj (qc IH hr T.Ha T.Fx T.Hd (Aa (qix K (qv 0) Ab) (Aa (qv 1) (Aa (qv 2) Ad))))))))))))))),?_⟩
 cases r with
 |
  s r0=>
  obtain⟨w0,vs,htw,hw⟩:=vm (r:=r0) ht
  refine⟨Awq (htw),at0 _ _,?_⟩
  refine⟨λ_=>⟨λz=>absurd z (by rw[Aqs d1];decide),λ_=>?_⟩,λz=>absurd (Aqs d0) z⟩
  refine λc hc=>⟨c,_,rfl,.inr (Awq Ae),rfl,dkk,?_⟩
  conv=>whnf
  have sc:=Ai (o:=.tup [.str "either",.str "both",.str "but"]) hc
  generalize upd H c (.tup [.str "either",.str "both",.str "but"])=Hc at*
  refine⟨λz=>absurd ((Anc w0 hw).symm.trans z) dkd,λ_=>?_⟩
  refine⟨λz=>absurd ((Amc w0 hw).symm.trans z) dkd,λ_=>?_⟩
  refine⟨λz=>absurd ((Amq w0 hw).symm.trans z) dkd,λ_=>?_⟩
  refine⟨λ_=>?_,λz=>absurd (by rw[Alf w0 hw];rfl) z⟩
  exact⟨t,p,d,r0,rfl,TreeAt.up ht sc,ok,d0,d1,sc _ _ hp,λH' s'=>k H' (sc.trans s')⟩
 |
  ei r1 r2=>
  obtain⟨y,z,htw,h1,h2⟩:=TrAt.ei.mp ht
  have n1:dep r1<n/\dep r2<n:=by have:max (dep r1) (dep r2)+1<n+1:=hn;lia
  refine⟨Awq (htw),rfl,?_⟩
  refine⟨λ_=>⟨λz=>absurd z (by rw[Aqs d1];decide),λ_=>?_⟩,λz=>absurd (Aqs d0) z⟩
  refine λc hc=>⟨c,_,rfl,.inr (Awq Ae),rfl,dkk,?_⟩
  conv=>whnf
  have sc:=Ai (o:=.tup [.str "either",.str "both",.str "but"]) hc
  generalize upd H c (.tup [.str "either",.str "both",.str "but"])=Hc at*
  refine ed dkk ?_
  refine⟨Awq (sc _ _ htw),rfl,y,p,d,r1,rfl,h1.up sc,ok.1,n1.1,d0,d1,sc _ _ hp,λH1 s1=>?_⟩
  refine⟨Awq (s1 _ _ (sc _ _ htw)),rfl,z,p,d,r2,rfl,(h2.up sc).up s1,ok.2,n1.2,d0,d1,s1 _ _ (sc _ _ hp),λH2 s2=>?_⟩
  have S:=(sc.trans s1).trans s2
  have k0:∀H',Same H H'->Q (.bl (ft r1 d||ft r2 d)) H':=k
  refine λD hD=>?_
  conv=>whnf
  generalize ft r1 d=o1 at*
  generalize ft r2 d=o2 at*
  cases o1 with
  |
   true=>
   cases o2 with
   | true=>exact Fs (Fs (Fs ⟨Ae,[((Sum.inr "either":Key),.bl true),(Sum.inr "both",.bl true),(Sum.inr "but",.bl false)],rfl,dkd,D,_,rfl,dgk (k:=Sum.inr "either") Ae (Agr _ _ _),k0 _ (S.trans (Ew hD))⟩))
   | false=>exact Fs (Fs (Fs ⟨Ae,[((Sum.inr "either":Key),.bl true),(Sum.inr "both",.bl false),(Sum.inr "but",.bl true)],rfl,dkd,D,_,rfl,dgk (k:=Sum.inr "either") Ae (Agr _ _ _),k0 _ (S.trans (Ew hD))⟩))
  |
   false=>
   cases o2 with
   | true=>exact Cu (Cu (Cu ⟨Ae,[((Sum.inr "either":Key),.bl true),(Sum.inr "both",.bl false),(Sum.inr "but",.bl false)],rfl,dkd,D,_,rfl,dgk (k:=Sum.inr "either") Ae (Agr _ _ _),k0 _ (S.trans (Ew hD))⟩))
   | false=>exact Cu (Cu (Cu ⟨Ae,[((Sum.inr "either":Key),.bl false),(Sum.inr "both",.bl false),(Sum.inr "but",.bl false)],rfl,dkd,D,_,rfl,dgk (k:=Sum.inr "either") Ae (Agr _ _ _),k0 _ (S.trans (Ew hD))⟩))
 |
  bo r1 r2=>
  obtain⟨y,z,htw,h1,h2⟩:=TrAt.bo.mp ht
  have n1:dep r1<n/\dep r2<n:=by have:max (dep r1) (dep r2)+1<n+1:=hn;lia
  refine⟨Awq (htw),rfl,?_⟩
  refine⟨λ_=>⟨λz=>absurd z (by rw[Aqs d1];decide),λ_=>?_⟩,λz=>absurd (Aqs d0) z⟩
  refine λc hc=>⟨c,_,rfl,.inr (Awq Ae),rfl,dkk,?_⟩
  conv=>whnf
  have sc:=Ai (o:=.tup [.str "either",.str "both",.str "but"]) hc
  generalize upd H c (.tup [.str "either",.str "both",.str "but"])=Hc at*
  refine ed dkk ?_
  refine⟨Awq (sc _ _ htw),rfl,y,p,d,r1,rfl,h1.up sc,ok.1,n1.1,d0,d1,sc _ _ hp,λH1 s1=>?_⟩
  refine⟨Awq (s1 _ _ (sc _ _ htw)),rfl,z,p,d,r2,rfl,(h2.up sc).up s1,ok.2,n1.2,d0,d1,s1 _ _ (sc _ _ hp),λH2 s2=>?_⟩
  have S:=(sc.trans s1).trans s2
  have k0:∀H',Same H H'->Q (.bl (ft r1 d&&ft r2 d)) H':=k
  refine λD hD=>?_
  conv=>whnf
  generalize ft r1 d=o1 at*
  generalize ft r2 d=o2 at*
  cases o1 with
  |
   true=>
   cases o2 with
   | true=>exact Fs (Fs (Fs ⟨Ae,[((Sum.inr "either":Key),.bl true),(Sum.inr "both",.bl true),(Sum.inr "but",.bl false)],rfl,dkd,D,_,rfl,dgk (k:=Sum.inr "both") Ae (Af9 _ _ _),k0 _ (S.trans (Ew hD))⟩))
   | false=>exact Fs (Fs (Fs ⟨Ae,[((Sum.inr "either":Key),.bl true),(Sum.inr "both",.bl false),(Sum.inr "but",.bl true)],rfl,dkd,D,_,rfl,dgk (k:=Sum.inr "both") Ae (Af9 _ _ _),k0 _ (S.trans (Ew hD))⟩))
  |
   false=>
   cases o2 with
   | true=>exact Cu (Cu (Cu ⟨Ae,[((Sum.inr "either":Key),.bl true),(Sum.inr "both",.bl false),(Sum.inr "but",.bl false)],rfl,dkd,D,_,rfl,dgk (k:=Sum.inr "both") Ae (Af9 _ _ _),k0 _ (S.trans (Ew hD))⟩))
   | false=>exact Cu (Cu (Cu ⟨Ae,[((Sum.inr "either":Key),.bl false),(Sum.inr "both",.bl false),(Sum.inr "but",.bl false)],rfl,dkd,D,_,rfl,dgk (k:=Sum.inr "both") Ae (Af9 _ _ _),k0 _ (S.trans (Ew hD))⟩))
 |
  bu r1 r2=>
  obtain⟨y,z,htw,h1,h2⟩:=TrAt.bu.mp ht
  have n1:dep r1<n/\dep r2<n:=by have:max (dep r1) (dep r2)+1<n+1:=hn;lia
  refine⟨Awq (htw),rfl,?_⟩
  refine⟨λ_=>⟨λz=>absurd z (by rw[Aqs d1];decide),λ_=>?_⟩,λz=>absurd (Aqs d0) z⟩
  refine λc hc=>⟨c,_,rfl,.inr (Awq Ae),rfl,dkk,?_⟩
  conv=>whnf
  have sc:=Ai (o:=.tup [.str "either",.str "both",.str "but"]) hc
  generalize upd H c (.tup [.str "either",.str "both",.str "but"])=Hc at*
  refine ed dkk ?_
  refine⟨Awq (sc _ _ htw),rfl,y,p,d,r1,rfl,h1.up sc,ok.1,n1.1,d0,d1,sc _ _ hp,λH1 s1=>?_⟩
  refine⟨Awq (s1 _ _ (sc _ _ htw)),rfl,z,p,d,r2,rfl,(h2.up sc).up s1,ok.2,n1.2,d0,d1,s1 _ _ (sc _ _ hp),λH2 s2=>?_⟩
  have S:=(sc.trans s1).trans s2
  have k0:∀H',Same H H'->Q (.bl (ft r1 d&&!ft r2 d)) H':=k
  refine λD hD=>?_
  conv=>whnf
  generalize ft r1 d=o1 at*
  generalize ft r2 d=o2 at*
  cases o1 with
  |
   true=>
   cases o2 with
   | true=>exact Fs (Fs (Fs ⟨Ae,[((Sum.inr "either":Key),.bl true),(Sum.inr "both",.bl true),(Sum.inr "but",.bl false)],rfl,dkd,D,_,rfl,dgk (k:=Sum.inr "but") Ae (Afy _ _ _),k0 _ (S.trans (Ew hD))⟩))
   | false=>exact Fs (Fs (Fs ⟨Ae,[((Sum.inr "either":Key),.bl true),(Sum.inr "both",.bl false),(Sum.inr "but",.bl true)],rfl,dkd,D,_,rfl,dgk (k:=Sum.inr "but") Ae (Afy _ _ _),k0 _ (S.trans (Ew hD))⟩))
  |
   false=>
   cases o2 with
   | true=>exact Cu (Cu (Cu ⟨Ae,[((Sum.inr "either":Key),.bl true),(Sum.inr "both",.bl false),(Sum.inr "but",.bl false)],rfl,dkd,D,_,rfl,dgk (k:=Sum.inr "but") Ae (Afy _ _ _),k0 _ (S.trans (Ew hD))⟩))
   | false=>exact Cu (Cu (Cu ⟨Ae,[((Sum.inr "either":Key),.bl false),(Sum.inr "both",.bl false),(Sum.inr "but",.bl false)],rfl,dkd,D,_,rfl,dgk (k:=Sum.inr "but") Ae (Afy _ _ _),k0 _ (S.trans (Ew hD))⟩))
 |
  wi wb we r1=>
  obtain⟨y,htw,h1⟩:=TrAt.wi.mp ht
  have n1:dep r1<n:=by have:dep r1+1<n+1:=hn;lia
  refine⟨Awq (htw),rfl,?_⟩
  refine⟨λ_=>⟨λz=>absurd z (by rw[Aqs d1];decide),λ_=>?_⟩,λz=>absurd (Aqs d0) z⟩
  refine λc hc=>⟨c,_,rfl,.inr (Awq Ae),rfl,dkk,?_⟩
  conv=>whnf
  have sc:=Ai (o:=.tup [.str "either",.str "both",.str "but"]) hc
  generalize upd H c (.tup [.str "either",.str "both",.str "but"])=Hc at*
  refine Er dkk ?_
  refine ed dkk ?_
  have k0:∀H',Same H H'->Q (.bl ((decide (wb<=d)&&decide (d<we))&&ft r1 d)) H':=k
  refine⟨Awq (sc _ _ htw),rfl,?_⟩
  conv=>whnf
  cases e1:decide (wb<=d) with
  | false=>rw[e1] at k0;exact Cu (k0 _ sc)
  |
   true=>
   rw[e1,Arw] at k0
   refine Fs ⟨Awq (sc _ _ htw),rfl,?_⟩
   conv=>whnf
   cases e2:decide (d<we) with
   | false=>rw[e2] at k0;exact Cu (k0 _ sc)
   |
    true=>
    rw[e2,Arw] at k0
    exact Fs ⟨Awq (sc _ _ htw),rfl,y,p,d,r1,rfl,h1.up sc,ok.2,n1,d0,d1,sc _ _ hp,λH' s'=>k0 H' (sc.trans s')⟩
 |
  sh sm r1=>
  obtain⟨y,htw,h1⟩:=TrAt.sh.mp ht
  have n1:dep r1<n:=by have:dep r1+1<n+1:=hn;lia
  refine⟨Awq (htw),rfl,?_⟩
  refine⟨λ_=>⟨λz=>absurd z (by rw[Aqs d1];decide),λ_=>?_⟩,λz=>absurd (Aqs d0) z⟩
  refine λc hc=>⟨c,_,rfl,.inr (Awq Ae),rfl,dkk,?_⟩
  conv=>whnf
  have sc:=Ai (o:=.tup [.str "either",.str "both",.str "but"]) hc
  generalize upd H c (.tup [.str "either",.str "both",.str "but"])=Hc at*
  refine Er dkk ?_
  refine Er dkk ?_
  refine ed dkk ?_
  have k0:∀H',Same H H'->Q (.bl (ft r1 (d-sm))) H':=λH' s'=>by
   have k1:Q (.bl (isD d&&ft r1 (d-sm))) H':=k H' s'
   rw[DF.Il.mpr ⟨d0,d1⟩,Arw] at k1
   exact k1
  refine⟨Awq (sc _ _ htw),rfl,?_⟩
  conv=>whnf
  by_cases g0:0<=d-sm
  ·
   rw[Aqs g0]
   refine Fs ?_
   conv=>whnf
   by_cases g1:d-sm<146097
   ·
    rw[Aqs g1]
    exact Fs ⟨Awq (sc _ _ htw),rfl,d-sm,rfl,g0,g1,λq H3 s3 _ hq=>⟨y,q,d-sm,r1,rfl,(h1.up sc).up s3,ok.2,n1,g0,g1,hq,λH' s'=>k0 H' ((sc.trans s3).trans s')⟩⟩
   ·
    rw[Aqz g1]
    have:=k0 _ sc
    rw[DJ.Xi ok.2 (.inr dkl)] at this
    exact Cu this
  ·
   rw[Aqz g0]
   have:=k0 _ sc
   rw[DJ.Xi ok.2 (.inl dkl)] at this
   exact Cu (Cu this)
 |
  ch r1 ls ms mv=>
  obtain⟨y,l1,l2,o,htw,h1,hl1,hl2,rs,ho,hok,rfl⟩:=TrAt.ch.mp ht
  have n1:dep r1<n:=by have:dep r1+1<n+1:=hn;lia
  obtain⟨ok1,⟨c1,c2,c3⟩,hd1,hd2,hd3⟩:=ok
  refine⟨Awq (htw),rfl,?_⟩
  refine⟨λ_=>⟨λz=>absurd z (by rw[Aqs d1];decide),λ_=>?_⟩,λz=>absurd (Aqs d0) z⟩
  refine λc hc=>⟨c,_,rfl,.inr (Awq Ae),rfl,dkk,?_⟩
  conv=>whnf
  have sc:=Ai (o:=.tup [.str "either",.str "both",.str "but"]) hc
  generalize upd H c (.tup [.str "either",.str "both",.str "but"])=Hc at*
  refine Er dkk ?_
  refine Er dkk ?_
  refine Er dkk ?_
  refine Er dkk ?_
  have k0:∀H',Same H H'->Q (.bl (decide (d∈Tz (ft r1) ls ms (sps rs))||(!decide (d∈se ls (sps rs))&&ft r1 d))) H':=k
  clear k
  refine⟨Awq (sc _ _ htw),rfl,l2,_,rfl,.inr (Awq (sc _ _ hl2)),rfl,Aen _,?_⟩
  conv=>whnf
  show Br (inV (.int d) (ms.map V.int)) _ _
  rw[Nu]
  by_cases hms:d∈ms
  ·
   rw[Aqs hms]
   have:=k0 _ sc
   rw[Aqs (show d∈Tz (ft r1) ls ms (sps rs) from Asa _ hms),Avy] at this
   exact Fs this
  rw[Aqz hms]
  refine Cu ⟨Awq (sc _ _ htw),rfl,o,rfl,⟨_,Awq (sc _ _ ho)⟩,?_⟩
  refine V3 (H0:=Hc) (Sw (Awq (sc _ _ ho))) (λi σ H'=>Same Hc H'/\(∀q∈(sps rs).take i,¬(q.2=d/\q.1∉ls/\ft r1 q.1=true))/\∃z1 z2,σ=[some (.ref t),some (.int d),some (.ref p),some (.str "changed"),none,none,z1,z2]) ⟨Awr _,(λq hq=>nomatch hq),_,_,rfl⟩ (λ_ _ _ _ h=>h.1) ?_ ?_
  ·
   rintro i x σ H1 hx ⟨s1,hno,z1,z2,rfl⟩
   obtain⟨u,hu,hum,rfl⟩:=ql hx
   have S1:=sc.trans s1
   have hu1:=S1 _ _ (hok u hum)
   have hus:u.2∈sps rs:=List.mem_map_of_mem hum
   have hts:(sps rs)[i]?=some u.2:=by unfold sps;rw[Are,hu];rfl
   have step:¬(u.2.2=d/\u.2.1∉ls/\ft r1 u.2.1=true)->∀q∈(sps rs).take (i+1),¬(q.2=d/\q.1∉ls/\ft r1 q.1=true):=λg q hq=>by
    rw[List.take_succ,hts] at hq
    rcases Ar0.mp hq with hq|hq
    · exact hno q hq
    ·
     rw[show q=u.2 from Arm.mp hq]
     exact g
   refine⟨u.1,_,rfl,Awq hu1,rfl,_,_,rfl,_,_,rfl,rfl,?_⟩
   conv=>whnf
   rw[Sf]
   by_cases hg:u.2.2=d
   ·
    rw[Aqs hg]
    refine Fs ⟨Awq (S1 _ _ htw),rfl,l1,_,rfl,.inr (Awq (S1 _ _ hl1)),rfl,Aen _,?_⟩
    conv=>whnf
    rw[if_pos rfl,Nu]
    by_cases hb:u.2.1∈ls
    ·
     rw[Aqs hb]
     exact Cu (Cu ⟨s1,step (λw=>w.2.1 hb),_,_,rfl⟩)
    ·
     rw[Aqz hb]
     have hdy:=(hd3 u.2 hus).1
     refine Fs ⟨Awq (S1 _ _ htw),rfl,u.2.1,rfl,hdy.1,hdy.2,λq H3 s3 _ hq=>⟨y,q,u.2.1,r1,rfl,(h1.up S1).up s3,ok1,n1,hdy.1,hdy.2,hq,λH4 s4=>?_⟩⟩
     conv=>whnf
     have S4:=(s1.trans s3).trans s4
     cases hf:ft r1 u.2.1 with
     | false=>exact Cu ⟨S4,step (λw=>by rw[hf] at w;exact absurd w.2.2 dkd),_,_,rfl⟩
     |
      true=>
      have:=k0 _ (sc.trans S4)
      rw[←hg,Ah4 (ms:=ms) hus hb hf,Avy] at this
      exact Fs this
   ·
    rw[Aqz hg]
    exact Cu (Cu ⟨s1,step (λw=>hg w.1),_,_,rfl⟩)
  rintro σ H1 ⟨s1,hno,z1,z2,rfl⟩
  rw[Q5,←Ni,Ats] at hno
  have S1:=sc.trans s1
  rw[Aga hms hno] at k0
  refine⟨Awq (S1 _ _ htw),rfl,l1,_,rfl,.inr (Awq (S1 _ _ hl1)),rfl,Aen _,?_⟩
  conv=>whnf
  show Br (inV (.int d) (ls.map V.int)) _ _
  rw[Nu]
  by_cases hls:d∈ls
  ·
   rw[Aqs hls]
   have:=k0 _ S1
   rw[Aqs (show d∈se ls (sps rs) from Asa _ hls)] at this
   exact Fs (Fs this)
  rw[Aqz hls]
  refine Cu ⟨Awq (S1 _ _ htw),rfl,o,rfl,⟨_,Awq (S1 _ _ ho)⟩,?_⟩
  refine Afe (Sw (K:=K) (Awq (S1 _ _ ho))) (hok.up S1) (λ_=>true) (λq=>.int q.1) (by rw[←Ni];lia) (λ_ _ H' _ R hR=>hR H' (Awr _)) (λu hu _ H' sm R hR=>⟨Awq (sm _ _ (S1 _ _ (hok u hu))),rfl,hR H' (Awr _)⟩) (λD H2 s2 _ hD=>?_)
  conv=>whnf
  have hD':H2 D=some (.lst (((sps rs).map (·.1)).map V.int)):=by
   rw[hD,Av7.mpr (λ_ _=>rfl),At3]
   rfl
  refine⟨D,_,rfl,.inl (Aws hD'),rfl,Aen _,?_⟩
  conv=>whnf
  show Br (inV (.int d) (((sps rs).map (·.1)).map V.int)) _ _
  rw[Nu]
  have S2:=S1.trans s2
  by_cases hmv:d∈(sps rs).map (·.1)
  ·
   rw[Aqs hmv]
   have:=k0 _ S2
   rw[Aqs (show d∈se ls (sps rs) from Aq8 _ hmv)] at this
   exact Fs this
  rw[Aqz hmv]
  have hlo:decide (d∈se ls (sps rs))=false:=Aqz λw=>(Ar0.mp w).elim hls hmv
  rw[hlo] at k0
  exact Cu ⟨Awq (S2 _ _ htw),rfl,y,p,d,r1,rfl,h1.up S2,ok1,n1,d0,d1,S2 _ _ hp,λH' s'=>k0 H' (S2.trans s')⟩
theorem Ww (T:Wg K mg base a):∀n,FnOk P w K mg base CX0 true (20+n) a.Hb a.Hh ["_law_rule_here","_law_day_here","_law_date_here"] (Nn n)
 | 0=>⟨λvs H Q E h=>by obtain⟨t,p,d,r,rfl,h1,h2,h3,_⟩:=h;exact absurd h3 (At2 _),λA outer s H args us vs Q E _ _ _ _ h=>by obtain⟨t,p,d,r,rfl,h1,h2,h3,_⟩:=h;exact absurd h3 (At2 _)⟩
 | n+1=>md T n (Ww T n)
def ve:Fk P w T 30 a.Hb a.Hh ["_law_rule_here","_law_day_here","_law_date_here"] (Nn 5):=(Ww T 5).mono dkd
def xj:Au ["rule","begin","end"] ["rule","begin","end"] (Ah F3):=⟨rfl,rfl,rfl,dkk,rfl,dkk,dkk⟩
def We:Fk P w T 32 a.Uq a.Mo ["rule","begin","end"] (yg (jd a)):=by
 refine T.Uo.ok xj (λvs H Q E h=>?_) (λcdv A outer s H vs Q E hr h=>?_)
 · obtain⟨x,b,e,r,rfl,_⟩:=h;rfl
 ·
  obtain⟨x,b,e,r,rfl,hr0,hw,k⟩:=h
  refine⟨_,(Af (Aj (Bi (A7 (K:=K) rfl) rfl T.P7 dkk (Aa (A5 ((Hs T).mono dkd) hr rfl T.La T.Jp.kp T.Tx .nil Bl (Aa (qv 0) (Aa (qv 1) (Aa (qv 2) Ad)))) Ad)))),?_⟩
  refine⟨x,b,e,r,rfl,hr0,hw,λD H1 s1 hD _=>⟨D,_,rfl,.inl (Aws hD),?_⟩⟩
  conv=>whnf
  rw[Aqv]
  exact k H1 s1
def Gn:Au ["rule","many","begin","end","day","stop","ahead","width","upto","found"] ["rule","many","begin","end"] (Ah Mn):=⟨rfl,rfl,rfl,dkk,rfl,dkk,dkk⟩
def Xh:Fk P w T 32 a.d8 a.Uw ["rule","many","begin","end"] (Adl (jd a)):=by
 refine T.X4.ok Gn (λvs H Q E h=>?_) (λcdv A outer s H vs Q E hr h=>?_)
 · obtain⟨x,m,b,e,r,rfl,_⟩:=h;rfl
 ·
  obtain⟨x,m,b,e,r,rfl,m0,hr0,hw,k⟩:=h
  refine⟨_,(Ac (Fv (i:=4) Gn.nd rfl (Or.inl rfl) (Bi (M7 rfl) rfl T.V2 dkk (Aa (qv 2) (Aa Ab Ad))))
   (Ac (Fv (i:=5) Gn.nd rfl (Or.inl rfl) (Bi (Ip rfl) rfl T.Se dkk (Aa (qv 3) (Aa (B2 rfl T.Nj) Ad))))
   (Ac (Fv (i:=6) Gn.nd rfl (Or.inl rfl) (qv 1))
   (Ac (Fv (i:=7) Gn.nd rfl (Or.inl rfl) (B2 rfl T.Ci))
   (Ac (T6 Ash (Ak Lq (qv 4) (qv 5) (Al _)) (Ac (Fv (i:=8) Gn.nd rfl (Or.inl rfl) (Bi (Ip rfl) rfl T.Se dkk (Aa (Ag Aq (qv 4) (qv 7)) (Aa (qv 5) Ad))))
   (Ac (Fv (i:=9) Gn.nd rfl (Or.inl rfl) (A5 ((Hs T).mono dkd) hr rfl T.La T.Jp.kp T.Tx .nil Bl (Aa (qv 0) (Aa (qv 4) (Aa (qv 8) Ad)))))
   (Ac (A2 (Ak Lq (qv 6) (Bi (A7 (K:=K) rfl) rfl T.P7 dkk (Aa (qv 9) Ad)) (Al _)) (Af (Aj (sv (i5 (K:=K) rfl) (qv 9) (qv 6) (λ_ _=>rfl)))) Ao)
   (Ac (vc (i:=6) Gn.nd rfl (Or.inl rfl) (Bi (A7 (K:=K) rfl) rfl T.P7 dkk (Aa (qv 9) Ad)) Alj)
   (Ac (Fv (i:=4) Gn.nd rfl (Or.inl rfl) (qv 8))
   (Af (vc (i:=7) Gn.nd rfl (Or.inl rfl) (qv 7) zg))))))))
   (Af (Aj F0))))))),?_⟩
  conv=>whnf
  have hcl:=DV.clip hr0.2.2 (b:=b) (e:=e) (b':=if 0>b then 0 else b) (e':=if 146097<e then 146097 else e) (by split<;>lia) (by split<;>lia)
  generalize hlo:(if 0>b then 0 else b)=lo at*
  have l1:0<=lo/\b<=lo:=by rw[←hlo];split<;>lia
  generalize hhi:(if 146097<e then 146097 else e)=hi at*
  have u1:hi<=e/\hi<=146097:=by rw[←hhi];split<;>lia
  refine⟨λmm σ H'=>∃(c wd av:Int)(y1 y2:Option V),mm=(hi-c).toNat/\lo<=c/\64<=wd/\0<=av/\Same H H'/\(days (ft r) b e)[m.toNat]?=(days (ft r) c hi)[av.toNat]?/\σ=[some (.ref x),some (.int m),some (.int b),some (.int e),some (.int c),some (.int hi),some (.int av),some (.int wd),y1,y2],⟨_,lo,64,m,_,_,rfl,Avm _,dkd,m0,Awr _,by rw[hcl],rfl⟩,?_⟩
  rintro mm σ H1 ⟨c,wd,av,y1,y2,rfl,hc,hwd,av0,s1,hg,rfl⟩
  refine⟨λz=>?_,λz=>?_⟩
  ·
   have hlt:c<hi:=Aqu z
   refine⟨λσ' H'=>∃m',m'<(hi-c).toNat/\∃(c wd av:Int)(y1 y2:Option V),m'=(hi-c).toNat/\lo<=c/\64<=wd/\0<=av/\Same H H'/\(days (ft r) b e)[m.toNat]?=(days (ft r) c hi)[av.toNat]?/\σ'=[some (.ref x),some (.int m),some (.int b),some (.int e),some (.int c),some (.int hi),some (.int av),some (.int wd),y1,y2],λσ' H' h=>h,?_⟩
   conv=>whnf
   generalize hup:(if hi<c+wd then hi else c+wd)=up
   have hu:c<up/\up<=hi:=by rw[←hup];split<;>lia
   refine⟨x,c,up,r,rfl,hr0.up s1,hw.sub dkl dkl dkl dkl dkl,λD H2 s2 hD _=>?_⟩
   have hln:=Aqv (as:=days (ft r) c up) V.int
   refine⟨D,_,rfl,.inl (Aws hD),⟨λz2=>?_,λz2=>?_⟩⟩
   ·
    have hl:av.toNat<(days (ft r) c up).length:=by have:=Aqu z2;lia
    rw[DV.Ajv dkl hu.2 hl,Aq6 hl] at hg
    have hat:=Aeh (Aq6 hl)
    rw[show((av.toNat:Nat):Int)=av by lia] at hat
    have q:=k H2 (s1.trans s2)
    rw[hg] at q
    exact⟨Aws hD,hat,q⟩
   ·
    have hl:¬av.toNat<(days (ft r) c up).length:=λw=>z2 (Aqs (by rw[hln];lia))
    rw[DV.Agd dkl hu.2 hl] at hg
    refine⟨_,rfl,D,_,rfl,.inl (Aws hD),_,_,rfl,rfl,_,rfl,_,_,rfl,rfl,(hi-up).toNat,dkl,up,wd+wd,_,_,_,rfl,dkl,dkl,?_,s1.trans s2,?_,rfl⟩
    ·
     dsimp only
     rw[hln]
     lia
    ·
     rw[hg]
     conv=>whnf
     try dsimp only
     rw[hln]
     congr 1
     lia
  ·
   have hge:¬c<hi:=λw=>z (Aqs w)
   rw[DV.none (b:=c) (e:=hi) dkl] at hg
   have q:=k H1 s1
   rw[hg] at q
   exact q
def Abm:Au ["_law_rule_here","_law_begin","_law_end"] ["_law_rule_here","_law_begin","_law_end"] (Ah Xs):=⟨rfl,rfl,rfl,dkk,rfl,dkk,dkk⟩
def Abd:Fk P w T 34 a.Wt a.Ye ["_law_rule_here","_law_begin","_law_end"] (Aaj):=by
 refine T.uh.ok Abm (λvs H Q E h=>?_) (λcdv A outer s H vs Q E hr h=>?_)
 · obtain⟨t,b,e,r,rfl,_⟩:=h;rfl
 ·
  obtain⟨t,b,e,r,rfl,ht,ok,hd,b0,be,e0,hz,k⟩:=h
  refine⟨_,(Af (Aj (Oz (N:=["_law_day_here","_law_rule_here"]) (cap:=[none,some 0]) (by show Cf (Ah Xs) _ ["_law_rule_here","_law_begin","_law_end"] _ _;exact⟨rfl,dkk,dkk,dkk,dkk,rfl,dkk⟩) rfl (kn rfl T.Iu (Aa (Bi (M7 rfl) rfl T.V2 dkk (Aa Ab (Aa (qv 1) Ad))) (Aa (Bi (Ip rfl) rfl T.Se dkk (Aa Ab (Aa (qv 2) Ad))) Ad))) (λC s H fp=>⟨(Fq (i:=0) (by show(["_law_day_here","_law_rule_here"]:List Str).Nodup;decide+kernel) rfl (Or.inl rfl) (.inr rfl)),(af (Dg (A5 ((ve T).mono dkd) hr rfl T.Ha T.Fx.kp T.Hd .nil Bl (Aa (qv 1) (Aa (qv 0) (Aa (A5 ((Hi T).mono dkd) hr rfl T.Jw T.Hn.kp T.J0 .nil Bl (Aa (qv 0) Ad)) Ad)))))),(qv 0)⟩)))),?_⟩
  have hcl:=DV.clip ok (b:=b) (e:=e) (b':=if b>0 then b else 0) (e':=if e<146097 then e else 146097) (by split<;>lia) (by split<;>lia)
  conv=>whnf
  generalize hlo:(if b>0 then b else 0)=lo at*
  have l1:0<=lo/\b<=lo/\lo<400000:=by rw[←hlo];split<;>lia
  generalize hhi:(if e<146097 then e else 146097)=hi at*
  have u1:hi<=e/\hi<=146097/\ -100000<hi:=by rw[←hhi];split<;>lia
  refine⟨_,_,rfl,⟨dkl,dkl,dkl,dkl⟩,?_⟩
  refine Ie (Nd lo (hi-lo).toNat _) (Ae7 (ft r)) (λv=>v) (by rw[Aqv,Art];lia) ?_ ?_ (λD H1 s1 f1 hD=>?_)
  ·
   intro v hv H' sm R hR
   obtain⟨i,hi',rfl⟩:=Arz.mp hv
   have hi':=Aty.mp hi'
   exact⟨_,rfl,dkl,dkl,λq H9 s9 _ hq=>⟨t,q,_,r,rfl,(ht.up sm).up s9,ok,dkl,dkl,dkl,hq,λH10 s10=>hR H10 (s9.trans s10)⟩⟩
  ·
   intro v hv _ H' sm R hR
   exact hR H' (Awr _)
  rw[Amj,hcl] at hD
  exact k D H1 s1 hD f1
def Lj:Au ["_law_made_here","_law_due_here","_law_begin","_law_end","_law_cell","_law_some","_law_many"] ["_law_made_here","_law_due_here","_law_begin","_law_end","_law_cell"] (Ah Ja):=⟨rfl,rfl,rfl,dkk,rfl,dkk,dkk⟩
def Rr:Fk P w T 36 a.Ji a.Jn ["_law_made_here","_law_due_here","_law_begin","_law_end","_law_cell"] (dh (jd a)):=by
 refine T.Nf.ok Lj (λvs H Q E h=>?_) (λcdv A outer s H vs Q E hr h=>?_)
 · obtain⟨x,D,b,e,c,B,E0,r,rfl,_⟩:=h;rfl
 ·
  obtain⟨x,D,b,e,c,B,E9,r,rfl,hr0,hD,hB,hE,hw,hN,hNB,k⟩:=h
  refine⟨_,(Ac (Ue (i0:=5) Lj.nd rfl rfl (N:=["_law_day_here","_law_begin","_law_end"]) (cap:=[none,some 2,some 3]) (by show Cf (Ah Ja) _ ["_law_made_here","_law_due_here","_law_begin","_law_end","_law_cell","_law_some","_law_many"] _ _;exact⟨rfl,dkk,dkk,dkk,dkk,rfl,dkk⟩) rfl (T7 (K:=K) rfl (qv 1)) (λC s H fp=>⟨(Fq (i:=0) (by show(["_law_day_here","_law_begin","_law_end"]:List Str).Nodup;decide+kernel) rfl (Or.inl rfl) (.inr rfl)),(af (Awt (Ob (Ak ie (qv 1) (qv 0) (Al _)) (J1 (Ak Lq (qv 0) (qv 2) (Al _)))))),(qv 0)⟩))
   (Ac (A2 (Od (Dg (A5 ((Qq T).mono dkd) hr rfl T.Pm T.Mr.kp T.P0 .nil Bl (Aa (K9 (Bf (K:=K) rfl) rfl T.Es dkk (Aa (A5 ((Hs T).mono dkd) hr rfl T.La T.Jp.kp T.Tx .nil Bl (Aa (qv 0) (Aa (qv 2) (Aa (qv 3) Ad)))) Ad)) (Aa (K9 (Bf (K:=K) rfl) rfl T.Es dkk (Aa (qv 5) Ad)) Ad))))) (Af Je) Ao)
   (Ac (A2 (Od (Dg (A5 ((Qq T).mono dkd) hr rfl T.Pm T.Mr.kp T.P0 .nil Bl (Aa (A5 ((We T).mono dkd) hr rfl T.Zg T.Uo.kp T.Aan .nil Bl (Aa (qv 0) (Aa (qv 2) (Aa (qv 3) Ad)))) (Aa (Bi (A7 (K:=K) rfl) rfl T.P7 dkk (Aa (qv 5) Ad)) Ad))))) (Af Je) Ao)
   (Ac (Fv (i:=6) Lj.nd rfl (Or.inl rfl) (Ag M8 (qv 4) (Ag Aq (Bi (A7 (K:=K) rfl) rfl T.P7 dkk (Aa (qv 5) Ad)) Ab)))
   (Af (Aj (A5 ((Qq T).mono dkd) hr rfl T.Pm T.Mr.kp T.P0 .nil Bl (Aa (A5 ((Xh T).mono dkd) hr rfl T.d5 T.X4.kp T.Afk .nil Bl (Aa (qv 0) (Aa (qv 6) (Aa (qv 2) (Aa (qv 3) Ad))))) (Aa (sv (i5 (K:=K) rfl) (Ag zl (qv 5) (Lv (Aa F0 (Aa F0 Ad)))) (qv 6) (λ_ _=>rfl)) Ad))))))))),?_⟩
  have ok:=hr0.2.2
  have hln:=xy ok hN
  have hlB:=xy ok hNB
  refine⟨D,rfl,⟨_,Aws hD⟩,?_⟩
  refine Ie (Ua (K:=K) (Aws hD)) (Ae7 (inW b e)) (λv=>v) (by rw[Aqv];lia) ?_ (λv _ _ H' _ R hR=>hR H' (Awr _)) (λU H1 s1 _ hU=>?_)
  ·
   intro v hv H' sm R hR
   obtain⟨d,hd,rfl⟩:=Arz.mp hv
   have hR:=hR H' (Awr _)
   have hR2:R (decide (b<=d)&&decide (d<e)) H':=hR
   refine⟨λz=>?_,λz=>?_⟩
   ·
    rw[z,Arw] at hR2
    exact hR2
   ·
    rw[Bool.eq_false_iff.mpr z,As3] at hR2
    exact hR2
  rw[Ajs hB hE] at hU
  refine⟨x,b,e,r,rfl,hr0.up s1,hw,λD1 H2 s2 hD1 _=>⟨D1,_,rfl,.inl ⟨Aws hD1,λu1 hu1=>⟨U,_,rfl,.inl ⟨Aws ((Ai hu1) _ _ (s2 _ _ hU)),λu2 hu2=>⟨_,_,rfl,?_,λH5 s5=>Cu ?_⟩⟩⟩⟩⟩⟩
  · exact⟨dkd,.inr ⟨dkd,u1,u2,_,rfl,rfl,(Ai hu2) _ _ Ae,Ae,hln⟩⟩
  have S5:=(((s1.trans s2).trans (Ai hu1)).trans (Ai hu2)).trans s5
  have hU5:H5 U=some (.lst ((days (ft r) b e).map V.int)):=s5 _ _ ((Ai hu2) _ _ ((Ai hu1) _ _ (s2 _ _ hU)))
  clear s1 s2 hu1 hu2 s5 hD1 hU
  have e7:=Aqv (as:=days (ft r) b e) V.int
  refine⟨x,b,e,r,rfl,hr0.up S5,hw,λH6 s6=>⟨U,_,rfl,.inl (Aws (s6 _ _ hU5)),_,_,rfl,?_,λH7 s7=>Cu ?_⟩⟩
  ·
   rw[e7]
   exact SmA.one _
  have S7:=(S5.trans s6).trans s7
  have hU7:=s7 _ _ (s6 _ _ hU5)
  have w0:(0:Int)<(((days (ft r) b e).map V.int).length:Int)+2:=by lia
  refine⟨U,_,rfl,.inl (Aws hU7),_,_,rfl,rfl,w0,?_⟩
  conv=>whnf
  conv=>whnf
  try dsimp only
  have m0:0<=c%((((days (ft r) b e).map V.int).length:Int)+2):=Arp _ dkl
  have m1:c%((((days (ft r) b e).map V.int).length:Int)+2)<(((days (ft r) b e).map V.int).length:Int)+2:=Aro _ w0
  generalize c%((((days (ft r) b e).map V.int).length:Int)+2)=mn at*
  refine⟨x,mn,b,e,r,rfl,m0,hr0.up S7,hw,λH8 s8=>?_⟩
  have hU8:=s8 _ _ hU7
  refine λL hL=>⟨U,L,_,_,rfl,rfl,(Ai hL) _ _ hU8,Ae,?_,λL2 hL2=>⟨Aws Ae,?_,_,_,rfl,SmA.op _,λH9 s9=>?_⟩⟩
  ·
   rw[e7]
   exact Aq3 (by show _+2<=2000;lia) dkd
  ·
   have:=Ajq (days (ft r) b e) (k:=mn.toNat) (by rw[e7] at m1;lia)
   rw[show((mn.toNat:Nat):Int)=mn by lia] at this
   exact this
  exact k H9 ((((S7.trans s8).trans (Ai hL)).trans (Ai hL2)).trans s9)
def Wa:Au ["_law_tree_here","_law_short","_law_word","_law_inner"] ["_law_tree_here","_law_short"] (Ah Yz):=qsc
theorem pb (
      T:Wg K mg base a) (n:Nat) (IH:FnOk P w K mg base CX0 true (n+32) a.Kb a.Ke ["_law_tree_here","_law_short"] (Qd (jd a) a.A8 n)):FnOk P w K mg base CX0 true (n+32+1) a.Kb a.Ke ["_law_tree_here","_law_short"] (Qd (jd a) a.A8 (n+1)):=by
 refine T.Ee.go Wa λcdv A outer s H vs Q E hr h=>?_
 obtain⟨t,b,r,rfl,ht,ok,hn,tab,k⟩:=h
 refine⟨_,(Ac (Eh 2 Wa.nd (qix K (qv 0) Ab))
  (Ac (A2 (Ak Bg (qv 2) Bo (Al _)) (Af (Aj (qm T.Tf (dc T) hr T.Af0 T.kf (Aa (qc IH hr T.E8 T.Ee T.E7 (Aa (qix K (qv 0) Ab) (Aa (qv 1) Ad))) (Aa (qc IH hr T.E8 T.Ee T.E7 (Aa (qix K (qv 0) Ab) (Aa (qv 1) Ad))) Ad))))) Ao)
  (Ac (A2 (Ak Bg (qv 2) Bo (Al _)) (Af (Aj (qm T.fh (kq T) hr T.Akl T.o8 (Aa (qc IH hr T.E8 T.Ee T.E7 (Aa (qix K (qv 0) Ab) (Aa (qv 1) Ad))) (Aa (qc IH hr T.E8 T.Ee T.E7 (Aa (qix K (qv 0) Ab) (Aa (qv 1) Ad))) Ad))))) Ao)
  (Ac (A2 (Ak Bg (qv 2) Bo (Al _)) (Af (Aj (qm T.uo (qw T) hr T.Anx T.rz (Aa (qc IH hr T.E8 T.Ee T.E7 (Aa (qix K (qv 0) Ab) (Aa (qv 1) Ad))) (Aa (qc IH hr T.E8 T.Ee T.E7 (Aa (qix K (qv 0) Ab) (Aa (qv 1) Ad))) Ad))))) Ao)
  (Ac (A2 (Ak Bg (qv 2) Bo (Al _)) (Af (Aj (qm T.Sj (du T) hr T.Af3 T.ka (Aa (qc IH hr T.E8 T.Ee T.E7 (Aa (qix K (qv 0) Ab) (Aa (qv 1) Ad))) (Aa (qix K (qv 0) Ab) (Aa (qix K (qv 0) Ab) Ad)))))) Ao)
  (Ac (A2 (Ak Bg (qv 2) Bo (Al _)) (Af (Aj (qm T.Pu (Yu T) hr T.Ad6 T.df (Aa (qc IH hr T.E8 T.Ee T.E7 (Aa (qix K (qv 0) Ab) (Aa (qv 1) Ad))) (Aa (qix K (qv 0) Ab) Ad))))) Ao)
  (Ac (A2 (Ak pf (qv 2) Bo (Al _)) (Af (Aj (qc (yf T) hr T.Aac T.nj T.Aas (Aa (qv 0) (Aa (qv 1) Ad))))) Ao)
  (Ac (Eh 3 Wa.nd (qc IH hr T.E8 T.Ee T.E7 (Aa (qix K (qv 0) Ab) (Aa (qv 1) Ad))))
  (Ac (A2 (Awt (Ob (oy (qv 1) (λ_=>rfl)) (J1 (Ak (wu (hu2 hr)) (qix K (qv 0) Ab) (Ea Ad) (Al _))))) (Ac (A2 (Ak (wu (hu2 hr)) (qix K (qv 0) Ab) (Ea Ad) (Al _)) (Af (Aj (El (Ak (wu (hu2 hr)) (qix K (qv 0) Ab) (Ea Ad) (Al _)) (Fw T.Hu ((F6 T n).mono dkl) hr rfl T.Xr T.N9.choose_spec.1 T.N9.choose_spec.2 Bl (Aa (qv 3) Ad)) (Fw T.Hu ((F6 T n).mono dkl) hr rfl T.Xr T.Nw.choose_spec.1 T.Nw.choose_spec.2 Bl (Aa (qv 3) (Aa (qix K (qv 0) Ab) Ad)))))) Ao)
  (Af (Aj (Fw T.Hu ((F6 T n).mono dkl) hr rfl T.Xr T.N3.choose_spec.1 T.N3.choose_spec.2 Bl (Aa (qv 3) (Aa (qix K (qv 0) Ab) (Aa (qix K (qv 0) Ab) Ad))))))) Ao)
  (Af (Aj (Fw T.Hu ((F6 T n).mono dkl) hr rfl T.Xr T.cy .nil Bl (Aa (qv 3) (Aa (qix K (qv 0) Ab) (Aa (qix K (qv 0) Ab) (Aa (qix K (qv 0) Ab) Ad)))))))))))))))),?_⟩
 obtain⟨tb0,e0⟩:=tab.tbl
 cases r with
 |
  s r0=>
  obtain⟨w0,vs,htw,hw⟩:=vm (r:=r0) ht
  refine⟨Awq (htw),at0 _ _,?_⟩
  refine⟨λz=>absurd ((Aod w0 hw).symm.trans z) dkd,λ_=>?_⟩
  refine⟨λz=>absurd ((Anp w0 hw).symm.trans z) dkd,λ_=>?_⟩
  refine⟨λz=>absurd ((An1 w0 hw).symm.trans z) dkd,λ_=>?_⟩
  refine⟨λz=>absurd ((Amc w0 hw).symm.trans z) dkd,λ_=>?_⟩
  refine⟨λz=>absurd ((Amq w0 hw).symm.trans z) dkd,λ_=>?_⟩
  refine⟨λ_=>?_,λz=>absurd (by rw[Alf w0 hw];rfl) z⟩
  exact⟨t,b,r0,rfl,ht,ok,tab,λx H' s' t' hr=>k x H' s' t' hr⟩
 |
  ei r1 r2=>
  obtain⟨y,z,htw,h1,h2⟩:=TrAt.ei.mp ht
  have n1:dep r1<n/\dep r2<n:=by have:max (dep r1) (dep r2)+1<n+1:=hn;lia
  refine⟨Awq (htw),rfl,?_⟩
  refine ed dkk ?_
  refine⟨Awq (htw),rfl,y,b,r1,rfl,h1,ok.1,n1.1,tab,λx1 H1 s1 t1 q1=>?_⟩
  obtain⟨tb1,e1⟩:=t1.tbl
  refine⟨Awq (Ae9 e0 s1 htw),rfl,z,b,r2,rfl,h2.upX e0 s1,ok.2,n1.2,t1,λx2 H2 s2 t2 q2=>?_⟩
  refine λx dx nx ndx nex=>⟨x,dx,x1,x2,rfl,Ae,λH3 sx hx3=>⟨rfl,?_⟩⟩
  have S3:=Hv nx ndx (Awr _) sx
  exact k x H3 (λq u hq e=>S3 _ _ (s2 _ _ hq (s1 _ _ hq e))) (t2.same S3) (RtAt.isEi.mpr ⟨dx,x1,x2,hx3,(Awu e1 s2 q1).up S3,q2.up S3⟩)
 |
  bo r1 r2=>
  obtain⟨y,z,htw,h1,h2⟩:=TrAt.bo.mp ht
  have n1:dep r1<n/\dep r2<n:=by have:max (dep r1) (dep r2)+1<n+1:=hn;lia
  refine⟨Awq (htw),rfl,?_⟩
  refine Er dkk ?_
  refine ed dkk ?_
  refine⟨Awq (htw),rfl,y,b,r1,rfl,h1,ok.1,n1.1,tab,λx1 H1 s1 t1 q1=>?_⟩
  obtain⟨tb1,e1⟩:=t1.tbl
  refine⟨Awq (Ae9 e0 s1 htw),rfl,z,b,r2,rfl,h2.upX e0 s1,ok.2,n1.2,t1,λx2 H2 s2 t2 q2=>?_⟩
  refine λx dx nx ndx nex=>⟨x,dx,x1,x2,rfl,Ae,λH3 sx hx3=>⟨rfl,?_⟩⟩
  have S3:=Hv nx ndx (Awr _) sx
  exact k x H3 (λq u hq e=>S3 _ _ (s2 _ _ hq (s1 _ _ hq e))) (t2.same S3) (RtAt.isBo.mpr ⟨dx,x1,x2,hx3,(Awu e1 s2 q1).up S3,q2.up S3⟩)
 |
  bu r1 r2=>
  obtain⟨y,z,htw,h1,h2⟩:=TrAt.bu.mp ht
  have n1:dep r1<n/\dep r2<n:=by have:max (dep r1) (dep r2)+1<n+1:=hn;lia
  refine⟨Awq (htw),rfl,?_⟩
  refine Er dkk ?_
  refine Er dkk ?_
  refine ed dkk ?_
  refine⟨Awq (htw),rfl,y,b,r1,rfl,h1,ok.1,n1.1,tab,λx1 H1 s1 t1 q1=>?_⟩
  obtain⟨tb1,e1⟩:=t1.tbl
  refine⟨Awq (Ae9 e0 s1 htw),rfl,z,b,r2,rfl,h2.upX e0 s1,ok.2,n1.2,t1,λx2 H2 s2 t2 q2=>?_⟩
  refine λx dx nx ndx nex=>⟨x,dx,x1,x2,rfl,Ae,λH3 sx hx3=>⟨rfl,?_⟩⟩
  have S3:=Hv nx ndx (Awr _) sx
  exact k x H3 (λq u hq e=>S3 _ _ (s2 _ _ hq (s1 _ _ hq e))) (t2.same S3) (RtAt.isBu.mpr ⟨dx,x1,x2,hx3,(Awu e1 s2 q1).up S3,q2.up S3⟩)
 |
  wi wb we r1=>
  obtain⟨y,htw,h1⟩:=TrAt.wi.mp ht
  have n1:dep r1<n:=by have:dep r1+1<n+1:=hn;lia
  refine⟨Awq (htw),rfl,?_⟩
  refine Er dkk ?_
  refine Er dkk ?_
  refine Er dkk ?_
  refine ed dkk ?_
  refine⟨Awq (htw),rfl,y,b,r1,rfl,h1,ok.2,n1,tab,λx1 H1 s1 t1 q1=>?_⟩
  have htw1:=Ae9 e0 s1 htw
  refine⟨Awq (htw1),rfl,Awq (htw1),rfl,λx dx nx ndx nex=>⟨x,dx,x1,wb,we,rfl,Ae,λH3 sx hx3=>⟨rfl,?_⟩⟩⟩
  have S3:=Hv nx ndx (Awr _) sx
  exact k x H3 (λq u hq e=>S3 _ _ (s1 _ _ hq e)) (t1.same S3) (RtAt.isWi.mpr ⟨dx,x1,hx3,q1.up S3⟩)
 |
  sh sm r1=>
  obtain⟨y,htw,h1⟩:=TrAt.sh.mp ht
  have n1:dep r1<n:=by have:dep r1+1<n+1:=hn;lia
  refine⟨Awq (htw),rfl,?_⟩
  refine Er dkk ?_
  refine Er dkk ?_
  refine Er dkk ?_
  refine Er dkk ?_
  refine ed dkk ?_
  refine⟨Awq (htw),rfl,y,b,r1,rfl,h1,ok.2,n1,tab,λx1 H1 s1 t1 q1=>?_⟩
  have htw1:=Ae9 e0 s1 htw
  refine⟨Awq (htw1),rfl,λx dx nx ndx nex=>⟨x,dx,x1,sm,rfl,ok.1.1,ok.1.2,Ae,λH3 sx hx3=>⟨rfl,?_⟩⟩⟩
  have S3:=Hv nx ndx (Awr _) sx
  exact k x H3 (λq u hq e=>S3 _ _ (s1 _ _ hq e)) (t1.same S3) (RtAt.isSh.mpr ⟨dx,x1,hx3,q1.up S3⟩)
 |
  ch r1 ls ms mv=>
  obtain⟨y,l1,l2,o,htw,h1,hl1,hl2,rs,ho,hok,rfl⟩:=TrAt.ch.mp ht
  have n1:dep r1<n:=by have:dep r1+1<n+1:=hn;lia
  obtain⟨ok1,okc⟩:=ok
  refine⟨Awq (htw),rfl,?_⟩
  refine Er dkk ?_
  refine Er dkk ?_
  refine Er dkk ?_
  refine Er dkk ?_
  refine Er dkk ?_
  refine Er dkk ?_
  refine⟨Awq (htw),rfl,y,b,r1,rfl,h1,ok1,n1,tab,λx1 H1 s1 t1 q1=>?_⟩
  have fin:∀(H2:Hp)(v1 v2 v3:V),F5 a.A8 H H2->Aj2 H2 a.A8->RtAt (jd a) H2 r1 x1->OT H2 v1 ls->OT H2 v2 ms->OM H2 v3 (sps rs)->∀x dx:Addr,H2 x=none->H2 dx=none->Te (jd a) n [.ref x,.ref x1,v1,v2,v3] (upd (upd H2 dx (.own x)) x (.ins a.Am dx [])) (λv H'=>v=.non/\Q (.ref x) H') E0:=λH2 v1 v2 v3 g1 g2 g3 g4 g5 g6 x dx nx ndx=>by
   refine⟨x,dx,x1,v1,v2,v3,r1,ls,ms,sps rs,H2,rfl,Ae,nx,(λq u e=>by rw[An (Ap e nx),An (Ap e ndx)];exact e),g3,dkl,ok1,g4,g5,g6,okc,λH3 sx hr3=>⟨rfl,?_⟩⟩
   have S3:=Hv nx ndx (Awr _) sx
   exact k x H3 (λq u hq e=>S3 _ _ (g1 _ _ hq e)) (g2.same S3) hr3
  have a0:=Ae9 e0 s1 htw
  have a1:=Ae9 e0 s1 hl1
  have a2:=Ae9 e0 s1 hl2
  have a3:=Ae9 e0 s1 ho
  have a4:RowOk H1 rs:=λz hz=>Ae9 e0 s1 (hok z hz)
  have all:∀{H9:Hp},Same H1 H9->F5 a.A8 H H9/\Aj2 H9 a.A8/\RtAt (jd a) H9 r1 x1/\H9 t=some (.tup [.str "changed",.ref y,.ref l1,.ref l2,.ref o])/\OT H9 (.ref l1) ls/\OT H9 (.ref l2) ms/\OM H9 (.ref o) (sps rs):=λs9=>
   ⟨λq u hq e=>s9 _ _ (s1 _ _ hq e),t1.same s9,q1.up s9,s9 _ _ a0,.inr ⟨l1,rfl,s9 _ _ a1⟩,.inr ⟨l2,rfl,s9 _ _ a2⟩,.inr ⟨o,rfl,rs,s9 _ _ a3,a4.up s9,rfl⟩⟩
  refine⟨_,rfl,?_⟩
  cases b with
  |
   false=>
   obtain⟨S9,T9,R9,A9,O1,O2,O3⟩:=all (Awr _)
   refine Cu (Cu ?_)
   exact⟨Awq (A9),rfl,Awq (A9),rfl,Awq (A9),rfl,λx dx nx ndx nex=>fin _ _ _ _ S9 T9 R9 O1 O2 O3 x dx nx ndx⟩
  |
   true=>
   refine Fs ⟨Awq (a0),rfl,λem hem=>⟨o,em,_,rfl,rfl,(Ai hem) _ _ a3,Ae,⟨λz3=>?_,λ_=>?_⟩⟩⟩
   ·
    have u1:=Ai (o:=.tup []) hem
    generalize upd H1 em (.tup [])=H5 at*
    refine⟨Awq (u1 _ _ a0),rfl,λem2 hem2=>⟨l2,em2,_,rfl,rfl,(Ai hem2) _ _ (u1 _ _ a2),Ae,⟨λz2=>?_,λ_=>?_⟩⟩⟩
    ·
     have u2:=Ai (o:=.tup []) hem2
     generalize upd H5 em2 (.tup [])=H6 at*
     refine⟨Awq (u2 _ _ (u1 _ _ a0)),rfl,λem3 hem3=>⟨l1,em3,_,rfl,rfl,(Ai hem3) _ _ (u2 _ _ (u1 _ _ a1)),Ae,⟨λz1=>?_,λ_=>?_⟩⟩⟩
     ·
      obtain⟨S9,T9,R9,A9,O1,O2,O3⟩:=all ((u1.trans u2).trans (Ai (o:=.tup []) hem3))
      exact λx dx nx ndx nex=>fin _ .non .non .non S9 T9 R9 (.inl ⟨rfl,wq z1⟩) (.inl ⟨rfl,wq z2⟩) (.inl ⟨rfl,Adx z3⟩) x dx nx ndx
     ·
      obtain⟨S9,T9,R9,A9,O1,O2,O3⟩:=all ((u1.trans u2).trans (Ai (o:=.tup []) hem3))
      exact⟨Awq (A9),rfl,λx dx nx ndx nex=>fin _ _ .non .non S9 T9 R9 O1 (.inl ⟨rfl,wq z2⟩) (.inl ⟨rfl,Adx z3⟩) x dx nx ndx⟩
    ·
     obtain⟨S9,T9,R9,A9,O1,O2,O3⟩:=all (u1.trans (Ai (o:=.tup []) hem2))
     exact⟨Awq (A9),rfl,Awq (A9),rfl,λx dx nx ndx nex=>fin _ _ _ .non S9 T9 R9 O1 O2 (.inl ⟨rfl,Adx z3⟩) x dx nx ndx⟩
   ·
    obtain⟨S9,T9,R9,A9,O1,O2,O3⟩:=all (Ai (o:=.tup []) hem)
    exact⟨Awq (A9),rfl,Awq (A9),rfl,Awq (A9),rfl,λx dx nx ndx nex=>fin _ _ _ _ S9 T9 R9 O1 O2 O3 x dx nx ndx⟩
theorem Zs (T:Wg K mg base a):∀n,FnOk P w K mg base CX0 true (n+32) a.Kb a.Ke ["_law_tree_here","_law_short"] (Qd (jd a) a.A8 n)
 | 0=>⟨λvs H Q E h=>by obtain⟨t,b,r,rfl,h1,h2,h3,_⟩:=h;exact absurd h3 (At2 _),λA outer s H args us vs Q E _ _ _ _ h=>by obtain⟨t,b,r,rfl,h1,h2,h3,_⟩:=h;exact absurd h3 (At2 _)⟩
 | n+1=>pb T n (Zs T n)
def wz:Fk P w T 40 a.Kb a.Ke ["_law_tree_here","_law_short"] (Qd (jd a) a.A8 5):=(Zs T 5).mono dkd
def Ec:Au ["_law_cell","_law_step","_law_first_here","_law_due_here","_law_made_here","_law_later"] ["_law_cell"] (Ah K0):=⟨rfl,rfl,rfl,dkk,rfl,dkk,dkk⟩
def ji:Fk P w T 46 a.Kt a.K1 ["_law_cell"] (gh a.A8):=by
 refine T.Vr.ok Ec (λvs H Q E h=>?_) (λcdv A outer s H vs Q E hr h=>?_)
 · obtain⟨c,rfl,_⟩:=h;rfl
 ·
  obtain⟨c,rfl,k⟩:=h
  refine⟨_,(Ac (Fv (i:=1) Ec.nd rfl (Or.inl rfl) (Ag Aq Ab (Ag Av (qv 0) Ab)))
   (Ac (Fv (i:=2) Ec.nd rfl (Or.inl rfl) (Ag Av (Ag Az (qv 0) Ab) Ab))
   (Ac (Fv (i:=3) Ec.nd rfl (Or.inl rfl) (K9 (Vo rfl) rfl T.Tp dkk (Aa (K9 Z8 rfl T.Iu dkk (Aa (qv 2) (Aa Ab (Aa (qv 1) Ad)))) Ad)))
   (Ac (Fv (i:=4) Ec.nd rfl (Or.inl rfl) (Fw T.Q1 ((M5 T).mono dkd) hr rfl T.x4 T.Vg .nil Bl (Aa (qv 1) (Aa (qv 2) Ad))))
   (Ac (A2 (Awt (cg (Ak (Y7 (hu2 hr)) (A5 ((Hs T).mono dkd) hr rfl T.La T.Jp.kp T.Qy.choose_spec.1 T.Qy.choose_spec.2 Bl (Aa (qv 4) Ad)) (qv 3) (Al _)) (cg (Ak pf (A5 ((We T).mono dkd) hr rfl T.Zg T.Uo.kp T.Zx.choose_spec.1 T.Zx.choose_spec.2 Bl (Aa (qv 4) Ad)) (Bi (A7 (K:=K) rfl) rfl T.P7 dkk (Aa (qv 3) Ad)) (Al _)) (Vd (Ak pf (A5 ((Xh T).mono dkd) hr rfl T.d5 T.X4.kp T.Uv.choose_spec.1 T.Uv.choose_spec.2 Bl (Aa (qv 4) (Aa Ab Ad))) (sv (i5 (K:=K) rfl) (qv 3) Ab (λ_ _=>rfl)) (Al _)))))) (Af Je) Ao)
   (Ac (Ue (i0:=5) Ec.nd rfl rfl (N:=["_law_day_here"]) (cap:=[none]) (by show Cf (Ah K0) _ ["_law_cell","_law_step","_law_first_here","_law_due_here","_law_made_here","_law_later"] _ _;exact⟨rfl,dkk,dkk,dkk,dkk,rfl,dkk⟩) rfl (T7 (K:=K) rfl (qv 3)) (λC s H fp=>⟨(Fq (i:=0) (by show(["_law_day_here"]:List Str).Nodup;decide+kernel) rfl (Or.inl rfl) (.inr rfl)),(af (Ak Aao (qv 0) Ab (Al _))),(qv 0)⟩))
   (Ac (A2 (Awt (cg (Ak (Y7 (hu2 hr)) (A5 ((Hs T).mono dkd) hr rfl T.La T.Jp.kp T.il.choose_spec.1 T.il.choose_spec.2 Bl (Aa (qv 4) (Aa Ab Ad))) (qv 5) (Al _)) (cg (Ak pf (A5 ((We T).mono dkd) hr rfl T.Zg T.Uo.kp T.ae.choose_spec.1 T.ae.choose_spec.2 Bl (Aa (qv 4) (Aa Ab Ad))) (Bi (A7 (K:=K) rfl) rfl T.P7 dkk (Aa (qv 5) Ad)) (Al _)) (Vd (Ak pf (A5 ((Xh T).mono dkd) hr rfl T.d5 T.X4.kp T.nq.choose_spec.1 T.nq.choose_spec.2 Bl (Aa (qv 4) (Aa Ab (Aa Ab Ad)))) (sv (i5 (K:=K) rfl) (qv 5) Ab (λ_ _=>rfl)) (Al _)))))) (Af Je) Ao)
   (Af (Aj (Dk (A6 (om (hu2 hr)) (A5 ((Hs T).mono dkd) hr rfl T.La T.Jp.kp T.Qy.choose_spec.1 T.Qy.choose_spec.2 Bl (Aa (Fw T.Vv ((Ot T).mono dkd) hr rfl T.Aeo T.Qt .nil Bl (Aa (Ea (P9 [.int 5,.int 3] dkk)) Ad)) Ad)) (Lv (P9 [.int 3,.int 5] dkk)) (Al _)) (Dc (A6 ke (A5 ((Xh T).mono dkd) hr rfl T.d5 T.X4.kp T.Uv.choose_spec.1 T.Uv.choose_spec.2 Bl (Aa (Fw T.Vv ((Ot T).mono dkd) hr rfl T.Aeo T.Qt .nil Bl (Aa (Ea (P9 [.int 5,.int 3] dkk)) Ad)) (Aa Ab Ad))) F0 (Al _))))))))))))),?_⟩
  conv=>whnf
  conv=>whnf
  try dsimp only
  have b1:9000<=9000+c%20000/\9000+c%20000<29000:=by lia
  have b2:0<=c/7%9000/\c/7%9000<9000:=by lia
  generalize 9000+c%20000=st at*
  generalize c/7%9000=fi at*
  have ok:DF.Ok (.ev st fi):=⟨dkl,dkl,dkl,dkl⟩
  have d0:0<=(146097-fi-1)/st:=Avx dkl dkl
  have hn:((((146097-fi-1)/st+1).toNat:Nat):Int)=(146097-fi-1)/st+1:=by lia
  have d1:(146097-fi-1)/st<=146097:=Int.le_trans (Int.ediv_le_self _ dkl) dkl
  refine⟨fi,146097,st,rfl,dkl,dkl,⟨dkl,dkl,dkl,dkl⟩,λR hR=>⟨R,fi,146097,st,((146097-fi-1)/st+1).toNat,rfl,Ae,dkl,dkl,⟨dkl,dkl,dkl,dkl⟩,?_,dkl,λD hD=>?_⟩⟩
  ·
   unfold Builtin.Range.rangeSize
   rw[if_pos dkl,if_pos dkl]
   lia
  rw[Air ok hn]
  have u0:=(Ai hR).trans (Ai (o:=.lst ((days (ft (.s (.ev st fi))) 0 146097).map V.int)) hD)
  have hD0:(upd (upd H R (Aj3 R fi 146097 st)) D (.lst ((days (ft (.s (.ev st fi))) 0 146097).map V.int))) D=some (.lst ((days (ft (.s (.ev st fi))) 0 146097).map V.int)):=Ae
  generalize upd (upd H R (Aj3 R fi 146097 st)) D (.lst ((days (ft (.s (.ev st fi))) 0 146097).map V.int))=H0 at*
  clear hR
  refine λx dx nx ndx nex=>⟨x,dx,st,fi,rfl,Ae,ok,λHA sx hr1=>⟨rfl,?_⟩⟩
  conv=>whnf
  have SA:=Hv nx ndx (Awr _) sx
  have hD:=SA _ _ hD0
  have SA:=u0.trans SA
  have hR:RtOk (jd a) HA (.s (.ev st fi)) x:=⟨hr1,by show 0<=4;decide,ok⟩
  clear hr1 sx nx ndx nex u0
  have l2:2<(days (ft (.s (.ev st fi))) 0 146097).length:=by
   rw[DV.ox ok hn,Aqv,Art]
   have:=DV.Agl b1 b2
   lia
  obtain⟨ds,hds⟩:∃ds,days (ft (.s (.ev st fi))) 0 146097=ds:=⟨_,rfl⟩
  rw[hds] at hD l2
  have g2:=Aq6 l2
  refine⟨x,0,146097,_,rfl,hR,Aa2 dkd dkd dkd dkd,λD1 H1 s1 hD1 _=>?_⟩
  rw[hds] at hD1
  refine⟨D1,D,_,rfl,rfl,hD1,s1 _ _ hD,Cu ?_⟩
  refine⟨x,0,146097,_,rfl,hR.up s1,Aa2 dkd dkd dkd dkd,λH2 s2=>?_⟩
  conv=>whnf
  rw[hds]
  refine⟨D,_,rfl,.inl (Aws (s2 _ _ (s1 _ _ hD))),yc (by rw[Aqv]) ?_⟩
  refine⟨x,2,0,146097,_,rfl,dkd,(hR.up s1).up s2,Aa2 dkd dkd dkd dkd,λH3 s3=>?_⟩
  conv=>whnf
  rw[hds,show ds[Int.toNat 2]?=some _ from g2]
  refine⟨Aws (s3 _ _ (s2 _ _ (s1 _ _ hD))),z5 (k:=2) g2,yc rfl ?_⟩
  have S3:=(s1.trans s2).trans s3
  have hR:=hR.up S3
  have hD:=S3 _ _ hD
  have SA:=SA.trans S3
  clear S3 s1 s2 s3 hD1
  refine⟨D,rfl,⟨_,Aws hD⟩,?_⟩
  refine Ie (Ua (K:=K) (Aws hD)) (Ae7 λd=>decide (d≥50000)) (λv=>v) (by rw[Aqv,←hds,DV.ox ok hn,Aqv,Art];have:=DV.Ake (st:=st) (fi:=fi) b1 b2;lia) (λv hv H' _ R hR=>?_) (λv _ _ H' _ R hR=>hR H' (Awr _)) (λU H4 s4 _ hU=>?_)
  ·
   obtain⟨d,hd,rfl⟩:=Arz.mp hv
   exact hR H' (Awr _)
  rw[←hds,Afu] at hU
  have hR:=hR.up s4
  have SA:=SA.trans s4
  have l3:=DV.Akw ok b1 b2.2
  obtain⟨es,hes⟩:∃es,days (ft (.s (.ev st fi))) 50000 146097=es:=⟨_,rfl⟩
  rw[hes] at hU l3
  have g3:=Aq6 l3
  clear s4 hD
  refine⟨x,50000,146097,_,rfl,hR,Aa2 dkd dkd dkd dkd,λD1 H1 s1 hD1 _=>?_⟩
  rw[hes] at hD1
  refine⟨D1,U,_,rfl,rfl,hD1,s1 _ _ hU,Cu ?_⟩
  refine⟨x,50000,146097,_,rfl,hR.up s1,Aa2 dkd dkd dkd dkd,λH2 s2=>?_⟩
  conv=>whnf
  rw[hes]
  refine⟨U,_,rfl,.inl (Aws (s2 _ _ (s1 _ _ hU))),yc (by rw[Aqv]) ?_⟩
  refine⟨x,1,50000,146097,_,rfl,dkd,(hR.up s1).up s2,Aa2 dkd dkd dkd dkd,λH3 s3=>?_⟩
  conv=>whnf
  rw[hes,show es[Int.toNat 1]?=some _ from g3]
  refine⟨Aws (s3 _ _ (s2 _ _ (s1 _ _ hU))),z5 (k:=1) g3,yc rfl ?_⟩
  have S3:=(s1.trans s2).trans s3
  have hR:=hR.up S3
  have SA:=SA.trans S3
  clear S3 s1 s2 s3 hD1 hU hR
  refine λp1 hp1=>λx1 dx1 nx ndx nex=>⟨x1,dx1,p1,[5,3],rfl,Ae,Ahg nx ndx Ae,⟨dkd,dkd⟩,λHA1 sx hr1=>⟨rfl,?_⟩⟩
  have SA1:=Hv nx ndx (Ai hp1) sx
  have hR1:RtOk (jd a) HA1 (.s (.dy [5,3])) x1:=⟨hr1,dkd,dkd,dkd⟩
  clear nx ndx nex sx
  refine⟨x1,0,146097,_,rfl,hR1,Apg dkd dkd dkd dkd,λD1 H1 s1 hD1 _=>?_⟩
  rw[DV.Apc] at hD1
  refine λL hL=>⟨D1,L,[3,5],rfl,rfl,(Ai hL) _ _ hD1,Ae,Fs ?_⟩
  have SB:=((SA.trans SA1).trans s1).trans (Ai (o:=.lst [.int 3,.int 5]) hL)
  refine λp2 hp2=>λx2 dx2 nx ndx nex=>⟨x2,dx2,p2,[5,3],rfl,Ae,Ahg nx ndx Ae,⟨dkd,dkd⟩,λHA2 sx hr2=>⟨rfl,?_⟩⟩
  have SA2:=Hv nx ndx (Ai hp2) sx
  have hR2:RtOk (jd a) HA2 (.s (.dy [5,3])) x2:=⟨hr2,dkd,dkd,dkd⟩
  clear nx ndx nex sx
  refine⟨x2,2,0,146097,_,rfl,dkd,hR2,Apg dkd dkd dkd dkd,λH9 s9=>?_⟩
  conv=>whnf
  rw[DV.Apc]
  exact k H9 ((SB.trans SA2).trans s9)
def Sa:Au ["_law_script","_law_base","_law_rule_here","_law_made_here","_law_begin","_law_end","_law_due_here","_law_told","_law_held","_law_k","_law_cell","_law_low"] ["_law_script"] (Ah Aat):=⟨rfl,rfl,rfl,dkk,rfl,dkk,dkk⟩
def Akk:Fk P w T 50 a.Abe a.yd ["_law_script"] (zh K a.A8):=by
 refine T.An3.ok Sa (λvs H Q E h=>?_) (λcdv A outer s H vs Q E hr h=>?_)
 · obtain⟨sa,ns,rfl,_⟩:=h;rfl
 ·
  obtain⟨sa,ns,rfl,hS,hlen,hpt,k⟩:=h
  refine⟨_,(Ac (Fv (i:=1) Sa.nd rfl (Or.inl rfl) (A5 ((jw T).mono dkd) hr rfl T.mf T.Vm.kp T.l9 .nil Bl (Aa (A5 ((B5 T).mono dkd) hr rfl T.C3 T.Ck.kp T.C5 .nil Bl (Aa (A5 ((Ca T).mono dkd) hr rfl T.Cr T.B9.kp T.Cq .nil Bl (Aa (qv 0) (Aa Ab Ad))) Ad)) Ad)))
   (Ac (Fv (i:=2) Sa.nd rfl (Or.inl rfl) (A5 ((xp T).mono dkd) hr rfl T.Y9 T.Um.kp T.Zr .nil Bl (Aa (A5 ((B5 T).mono dkd) hr rfl T.C3 T.Ck.kp T.C5 .nil Bl (Aa (A5 ((Ca T).mono dkd) hr rfl T.Cr T.B9.kp T.Cq .nil Bl (Aa (qv 0) (Aa Ab Ad))) Ad)) (Aa (qv 1) (Aa (Ag Aq Ab (Ag Av (A5 ((Ca T).mono dkd) hr rfl T.Cr T.B9.kp T.Cq .nil Bl (Aa (qv 0) (Aa Ab Ad))) Ab)) Ad)))))
   (Ac (Fv (i:=3) Sa.nd rfl (Or.inl rfl) (A5 ((wz T).mono dkd) hr rfl T.E8 T.Ee.kp T.E7 .nil Bl (Aa (qv 2) (Aa (A6 Bg (Ag Av (A5 ((Ca T).mono dkd) hr rfl T.Cr T.B9.kp T.Cq .nil Bl (Aa (qv 0) (Aa Ab Ad))) Ab) Ab (Al _)) Ad))))
   (Ac (Fv (i:=4) Sa.nd rfl (Or.inl rfl) (Ag Bc (qv 1) (Ag Av (Ag Az (A5 ((Ca T).mono dkd) hr rfl T.Cr T.B9.kp T.Cq .nil Bl (Aa (qv 0) (Aa Ab Ad))) Ab) Ab)))
   (Ac (Fv (i:=5) Sa.nd rfl (Or.inl rfl) (Ag Aq (Ag Aq (qv 4) Ab) (Ag Av (A5 ((Ca T).mono dkd) hr rfl T.Cr T.B9.kp T.Cq .nil Bl (Aa (qv 0) (Aa Ab Ad))) Ab)))
   (Ac (Fv (i:=6) Sa.nd rfl (Or.inl rfl) (A5 ((Abd T).mono dkd) hr rfl T.Aef T.uh.kp T.Ae5 .nil Bl (Aa (qv 2) (Aa (qv 4) (Aa (qv 5) Ad)))))
   (Ac (Fv (i:=7) Sa.nd rfl (Or.inl rfl) (A5 ((Hs T).mono dkd) hr rfl T.La T.Jp.kp T.Tx .nil Bl (Aa (qv 3) (Aa (qv 4) (Aa (qv 5) Ad)))))
   (Ac (A2 (Awt (cg (Od (Dg (Bi (Dh (K:=K) rfl) rfl T.Bp dkk (Aa (qv 7) (Aa (Qi (v:=.ty "list") rfl T.Tp dkk rfl) Ad))))) (Vd (Od (Dg (A5 ((Qq T).mono dkd) hr rfl T.Pm T.Mr.kp T.P0 .nil Bl (Aa (K9 (Bf (K:=K) rfl) rfl T.Es dkk (Aa (qv 7) Ad)) (Aa (K9 (Bf (K:=K) rfl) rfl T.Es dkk (Aa (qv 6) Ad)) Ad)))))))) (Af Je) Ao)
   (Ac (Fv (i:=8) Sa.nd rfl (Or.inl rfl) (K9 (Qr (K:=K) rfl) rfl T.Tp dkk (Aa (qv 7) Ad)))
   (Ac (aj Ash rfl (Th rfl T.Iu (Aa Ab Ad)) (Fq (i:=9) Sa.nd rfl (Or.inl rfl)) (Ac (Fv (i:=10) Sa.nd rfl (Or.inl rfl) (A5 ((B5 T).mono dkd) hr rfl T.C3 T.Ck.kp T.C5 .nil Bl (Aa (Ag Aq (A5 ((Ca T).mono dkd) hr rfl T.Cr T.B9.kp T.Cq .nil Bl (Aa (qv 0) (Aa (Ag Aq Ab (qv 9)) Ad))) (qv 9)) Ad)))
   (Ac (Fv (i:=11) Sa.nd rfl (Or.inl rfl) (Ag Aq (qv 4) (Ag M8 (qv 10) (Ag Bc (qv 5) (qv 4)))))
   (Af (A2 (Od (Dg (A5 ((Rr T).mono dkd) hr rfl T.Tr T.Nf.kp T.So .nil Bl (Aa (qv 3) (Aa (qv 6) (Aa (qv 11) (Aa (Ag Aq (qv 11) (Ag M8 (Ag Az (qv 10) Ab) (Ag Aq (Ag Bc (qv 5) (qv 11)) Ab))) (Aa (Ag Az (qv 10) Ab) Ad)))))))) (Af Je) Ao)))))
   (Ac (A2 (Ak (Y7 (hu2 hr)) (qv 7) (qv 8) (Al _)) (Af Je) Ao)
   (Ac (Ct (Amf PySem.F.plainAttrs_list PySem.F.slot_list_clear PySem.F.type_list_clear Agf (qv 7)))
   (Ac (A2 (Od (Dg (A5 ((ji T).mono dkd) hr rfl T.my T.Vr.kp T.ml .nil Bl (Aa (A5 ((B5 T).mono dkd) hr rfl T.C3 T.Ck.kp T.C5 .nil Bl (Aa (A5 ((Ca T).mono dkd) hr rfl T.Cr T.B9.kp T.Cq .nil Bl (Aa (qv 0) (Aa Ab Ad))) Ad)) Ad)))) (Af Je) Ao)
   (Af (Aj (Dk (A5 ((Rr T).mono dkd) hr rfl T.Tr T.Nf.kp T.So .nil Bl (Aa (qv 3) (Aa (qv 6) (Aa (qv 4) (Aa (qv 5) (Aa (A5 ((Ca T).mono dkd) hr rfl T.Cr T.B9.kp T.Cq .nil Bl (Aa (qv 0) (Aa Ab Ad))) Ad)))))) (Dc (A6 (om (hu2 hr)) (A5 ((Hs T).mono dkd) hr rfl T.La T.Jp.kp T.Tx .nil Bl (Aa (qv 3) (Aa (qv 4) (Aa (qv 5) Ad)))) (qv 8) (Al _))))))))))))))))))),?_⟩
  refine⟨sa,ns,_,rfl,hS,dkd,λc0=>⟨_,rfl,λn _=>⟨_,rfl,λb H1 b0 b1 s1=>?_⟩⟩⟩
  refine⟨sa,ns,_,rfl,s1.seq hS,dkd,λc1=>⟨_,rfl,λn2 _=>⟨sa,ns,_,rfl,s1.seq hS,dkd,λc2=>⟨_,b,_,rfl,b0,b1,dkl,(by show _<((4:Nat):Int);lia),λt r H2 s2 ht ok hd=>?_⟩⟩⟩⟩
  have hd4:dep r<=3:=by lia
  have hS2:=(s1.trans s2).seq hS
  have hpt2:=(s1.trans s2) _ _ hpt
  refine⟨sa,ns,_,rfl,hS2,dkd,λc3=>⟨t,_,r,rfl,ht,ok,dkl,.inl hpt2,λx H3 sx tab3 hr3=>?_⟩⟩
  have hS3:=Aqi hS2 hpt2 sx
  have t3:=ht.upX hpt2 sx
  have hR:RtOk (jd a) H3 r x:=⟨hr3,dkl,ok⟩
  clear sx tab3 hr3 hpt2 hS2 ht s1 s2 hS hpt
  refine⟨sa,ns,_,rfl,hS3,dkd,λc4=>?_⟩
  conv=>whnf
  conv=>whnf
  try dsimp only
  generalize hlo:b-c4/2%50=lo
  have l0: -50<lo/\lo<146097:=by lia
  refine⟨sa,ns,_,rfl,hS3,dkd,λc5=>?_⟩
  conv=>whnf
  conv=>whnf
  try dsimp only
  generalize hhi:lo+40+c5%81=hi
  have h0:lo+40<=hi/\hi<=lo+120:=by lia
  refine⟨t,lo,hi,r,rfl,t3,ok,dkl,dkl,dkl,dkl,dkl,λD H4 s4 hD f4=>?_⟩
  have hR4:=hR.up s4
  have hS4:=s4.seq hS3
  have hW:Win r lo hi:=Ahr dkl dkl dkl dkl
  have hN:DJ.Nar lo hi:=Acf dkl dkl
  refine⟨x,lo,hi,r,rfl,hR4,hW,λD2 H5 s5 hD2 f5=>?_⟩
  refine⟨_,_,_,_,rfl,d4.lst hD2,rfl,Cu ?_⟩
  refine⟨D2,_,rfl,.inl ⟨Aws hD2,λu1 hu1=>⟨D,_,rfl,.inl ⟨Aws ((Ai hu1) _ _ (s5 _ _ hD)),λu2 hu2=>⟨_,_,rfl,?_,λH6 s6=>Cu ?_⟩⟩⟩⟩⟩
  · exact⟨dkd,.inr ⟨dkd,u1,u2,_,rfl,rfl,(Ai hu2) _ _ Ae,Ae,xy ok hN⟩⟩
  have v6:=((Ai (o:=.tup ((days (ft r) lo hi).map V.int)) hu1).trans (Ai (o:=.tup ((days (ft r) lo hi).map V.int)) hu2)).trans s6
  have S6:=s5.trans v6
  have hD26:=v6 _ _ hD2
  clear v6 s6 hu1 hu2
  refine⟨D2,_,rfl,.inl (Aws hD26),λL hL=>?_⟩
  conv=>whnf
  have u7:=Ai (o:=.lst ((days (ft r) lo hi).map V.int)) hL
  have hL7:(upd H6 L (.lst ((days (ft r) lo hi).map V.int))) L=some (.lst ((days (ft r) lo hi).map V.int)):=Ae
  have S7:=S6.trans u7
  have hD27:=u7 _ _ hD26
  have nL:L≠D2:=λz=>by rw[z,hD26] at hL;cases hL
  generalize upd H6 L (.lst ((days (ft r) lo hi).map V.int))=H7 at*
  refine⟨4,rfl,dkd,dkd,?_⟩
  refine V3 (Nd 0 4 H7) (λi σ H'=>Same H7 H'/\∃y1 y2 y3,σ=[some (.ref sa),some (.int b),some (.ref t),some (.ref x),some (.int lo),some (.int hi),some (.ref D),some (.ref D2),some (.ref L),y1,y2,y3]) ⟨Awr _,_,_,_,rfl⟩ (λ_ _ _ _ h=>h.1) ?_ ?_
  ·
   rintro i v σ H8 hv ⟨s8,y1,y2,y3,rfl⟩
   obtain⟨j,hj,rfl⟩:=Arz.mp (Asf hv)
   have S8:=S7.trans s8
   refine⟨sa,ns,_,rfl,S8.seq hS4,dkl,λc6=>⟨_,rfl,λc c0=>?_⟩⟩
   have p1:0<hi-lo:=by lia
   refine⟨_,_,rfl,rfl,p1,?_⟩
   conv=>whnf
   conv=>whnf
   try dsimp only
   have w0:0<=c%(hi-lo):=Arp _ dkl
   have w1:c%(hi-lo)<hi-lo:=Aro _ p1
   generalize hlw:lo+c%(hi-lo)=lw
   have w2:lo<=lw/\lw<hi:=by lia
   have p2:0<hi-lw+1:=by lia
   refine⟨_,_,rfl,rfl,p2,?_⟩
   conv=>whnf
   conv=>whnf
   try dsimp only
   have w3:0<=c/200%(hi-lw+1):=Arp _ dkl
   have w4:c/200%(hi-lw+1)<hi-lw+1:=Aro _ p2
   generalize hhw:lw+c/200%(hi-lw+1)=hw
   refine⟨x,D,lw,hw,_,lo,hi,r,rfl,hR4.up S8,S8 _ _ hD,dkl,dkl,Ahr dkl dkl dkl dkl,Acf dkl dkl,hN,λH9 s9=>Cu ⟨s8.trans s9,_,_,_,rfl⟩⟩
  rintro σ H8 ⟨s8,y1,y2,y3,rfl⟩
  have S8:=S7.trans s8
  refine⟨D2,L,_,rfl,rfl,s8 _ _ hD27,s8 _ _ hL7,Cu ?_⟩
  refine⟨.inl ⟨rfl,_,Aws (s8 _ _ hD27)⟩,D2,_,rfl,rfl,s8 _ _ hD27,?_⟩
  conv=>whnf
  have S9:=Agn (u:=.lst []) S8 f5
  have hL9:(upd H8 D2 (.lst [])) L=some (.lst ((days (ft r) lo hi).map V.int)):=by rw[An nL];exact s8 _ _ hL7
  generalize upd H8 D2 (.lst [])=H9 at*
  refine⟨sa,ns,_,rfl,S9.seq hS4,dkd,λc9=>⟨_,rfl,λn9 n90=>⟨n9,rfl,λH10 s10=>Cu ?_⟩⟩⟩
  have S10:=S9.trans s10
  refine⟨sa,ns,_,rfl,S10.seq hS4,dkd,λc10=>⟨x,D,lo,hi,_,lo,hi,r,rfl,hR4.up S10,S10 _ _ hD,dkl,dkl,hW,hN,hN,λH11 s11=>Fs ?_⟩⟩
  exact⟨x,lo,hi,r,rfl,hR4.up (S10.trans s11),hW,λD3 H12 s12 hD3 _=>⟨D3,L,_,rfl,rfl,hD3,s12 _ _ (s11 _ _ (s10 _ _ hL9)),k _⟩⟩
end
def txt_mk (X:K.In h)(G:h.Ns mainGlobals mg)
  {Fd:Addr}
  {L6:Addr}
  {Bb:Addr}
  {Am:Addr}
  {Fe:Addr}
  {Bq:Addr}
  {Cg:Addr}
  {Ax:Addr}
  {Fb:Addr}
  {Gd:Addr}
  {Bh:Addr}
  {A3:Addr}
  {B4:Addr}
  {Bk:Addr}
  {A0:Addr}
  {fq2j fq2g fq1k fq2b fq15 fq1j fqy fqf fq16 fq2i fqb fqp fqu fq1a fq1c fq1f fq17 fq1o fqz fq8 fqn fqa fq4 fq0 fq1e fq25 fq26 fq20 fq28 fq1w fq1s fq1d fq1y fq2f fq1m fqw fqj fq2 fqe fqk fqm fq7 fqd fq1 fq1n fq1u fq1x fq22 fq1i fq1h fq1r fq3 fq1g fqt fq6 fq27 fq2d fq2c fqc fqo fq1p fq10 fq12 fq1q fqg fq5 fq1t fq19 fq18 fq1z fq21 fq1v fq2e fqq fq29 fq1b:Addr}
  {dq2j dq2g dq1k dq2b dq15 dq1j dqy dqf dq16 dq2i dqb dqp dqu dq1a dq1c dq1f dq17 dq1o dqz dq8 dqn dqa dq4 dq0 dq1e dq25 dq26 dq20 dq28 dq1w dq1s dq1d dq1y dq2f dq1m dqw dqj dq2 dqe dqk dqm dq7 dqd dq1 dq1n dq1u dq1x dq22 dq1i dq1h dq1r dq3 dq1g dqt dq6 dq27 dq2d dq2c dqc dqo dq1p dq10 dq12 dq1q dqg dq5 dq1t dq19 dq18 dq1z dq21 dq1v dq2e dqq dq29 dq1b:FuncData}
  {fq14:Addr} {ocq14 dVq14 kVq14 dcq14 pmq14 cdq14 ctq14:Value} {odq14 anq14:Option Addr} {slq14:Array (Option Value)}
  {tq14:Addr} {otq14:Obj} {uq14_0 uq14_1:Tok} {ntq14:Nat}
  {fqr:Addr} {ocqr dVqr kVqr dcqr pmqr cdqr ctqr:Value} {odqr anqr:Option Addr} {slqr:Array (Option Value)}
  {tqr:Addr} {otqr:Obj} {uqr_0 uqr_1:Tok} {ntqr:Nat}
  {fqi:Addr} {ocqi dVqi kVqi dcqi pmqi cdqi ctqi:Value} {odqi anqi:Option Addr} {slqi:Array (Option Value)}
  {tqi:Addr} {otqi:Obj}  {ntqi:Nat}
  {fq11:Addr} {ocq11 dVq11 kVq11 dcq11 pmq11 cdq11 ctq11:Value} {odq11 anq11:Option Addr} {slq11:Array (Option Value)}
  {tq11:Addr} {otq11:Obj} {uq11_0 uq11_1:Tok} {ntq11:Nat}
  {fq13:Addr} {ocq13 dVq13 kVq13 dcq13 pmq13 cdq13 ctq13:Value} {odq13 anq13:Option Addr} {slq13:Array (Option Value)}
  {tq13:Addr} {otq13:Obj} {uq13_0:Tok} {ntq13:Nat}
  {fqs:Addr} {ocqs dVqs kVqs dcqs pmqs cdqs ctqs:Value} {odqs anqs:Option Addr} {slqs:Array (Option Value)}
  {tqs:Addr} {otqs:Obj} {uqs_0 uqs_1:Tok} {ntqs:Nat}
  {fqh:Addr} {ocqh dVqh kVqh dcqh pmqh cdqh ctqh:Value} {odqh anqh:Option Addr} {slqh:Array (Option Value)}
  {tqh:Addr} {otqh:Obj} {uqh_0 uqh_1:Tok} {ntqh:Nat}
  {fqx:Addr} {ocqx dVqx kVqx dcqx pmqx cdqx ctqx:Value} {odqx anqx:Option Addr} {slqx:Array (Option Value)}
  {tqx:Addr} {otqx:Obj} {uqx_0 uqx_1:Tok} {ntqx:Nat}
  {fql:Addr} {ocql dVql kVql dcql pmql cdql ctql:Value} {odql anql:Option Addr} {slql:Array (Option Value)}
  {tql:Addr} {otql:Obj} {uql_0 uql_1:Tok} {ntql:Nat}
  {fq1l:Addr} {ocq1l dVq1l kVq1l dcq1l pmq1l cdq1l ctq1l:Value} {odq1l anq1l:Option Addr} {slq1l:Array (Option Value)}
  {tq1l:Addr} {otq1l:Obj} {uq1l_0 uq1l_1:Tok} {ntq1l:Nat}
  {fq9:Addr} {ocq9 dVq9 kVq9 dcq9 pmq9 cdq9 ctq9:Value} {odq9 anq9:Option Addr} {slq9:Array (Option Value)}
  {tq9:Addr} {otq9:Obj} {uq9_0 uq9_1:Tok} {ntq9:Nat}
  {fqv:Addr} {ocqv dVqv kVqv dcqv pmqv cdqv ctqv:Value} {odqv anqv:Option Addr} {slqv:Array (Option Value)}
  {tqv:Addr} {otqv:Obj} {uqv_0 uqv_1:Tok} {ntqv:Nat}
  {fq24:Addr} {ocq24 kVq24 dcq24 pmq24 cdq24 ctq24:Value} {odq24 anq24:Option Addr} {slq24:Array (Option Value)}
  {fq2a:Addr} {ocq2a dVq2a kVq2a dcq2a pmq2a cdq2a ctq2a:Value} {odq2a anq2a:Option Addr} {slq2a:Array (Option Value)}
  {tq2a:Addr} {otq2a:Obj} {uq2a_0 uq2a_1:Tok} {ntq2a:Nat}
  {fq23:Addr} {ocq23 dVq23 kVq23 dcq23 pmq23 cdq23 ctq23:Value} {odq23 anq23:Option Addr} {slq23:Array (Option Value)}
  {tq23:Addr} {otq23:Obj} {uq23_0 uq23_1:Tok} {ntq23:Nat}
  {fq2h:Addr} {ocq2h dVq2h kVq2h dcq2h pmq2h cdq2h ctq2h:Value} {odq2h anq2h:Option Addr} {slq2h:Array (Option Value)}
  {tq2h:Addr} {otq2h:Obj} {uq2h_0 uq2h_1:Tok} {ntq2h:Nat}
  {fq2k:Addr} {ocq2k kVq2k dcq2k pmq2k cdq2k ctq2k:Value} {odq2k anq2k:Option Addr} {slq2k:Array (Option Value)}
  {t_DAYS:Tok}
  {Fo:Addr} {o_DAYS_AHEAD:Obj} {n_DAYS_AHEAD:Nat} {t_DAYS_AHEAD_0 t_DAYS_AHEAD_1 t_DAYS_AHEAD_2 t_DAYS_AHEAD_3 t_DAYS_AHEAD_4 t_DAYS_AHEAD_5 t_DAYS_AHEAD_6 t_DAYS_AHEAD_7 t_DAYS_AHEAD_8 t_DAYS_AHEAD_9 t_DAYS_AHEAD_10 t_DAYS_AHEAD_11:Tok}
  {t_FIRST_WEEKDAY:Tok}
  {t_FIRST_WIDTH_listing:Tok}
  {t_FIRST_YEAR:Tok}
  {t_LONG_YEAR:Tok}
  {t_MONTHS:Tok}
  {C8:Addr} {o_MONTH_LENGTHS:Obj} {n_MONTH_LENGTHS:Nat} {t_MONTH_LENGTHS_0 t_MONTH_LENGTHS_1 t_MONTH_LENGTHS_2 t_MONTH_LENGTHS_3 t_MONTH_LENGTHS_4 t_MONTH_LENGTHS_5 t_MONTH_LENGTHS_6 t_MONTH_LENGTHS_7 t_MONTH_LENGTHS_8 t_MONTH_LENGTHS_9 t_MONTH_LENGTHS_10 t_MONTH_LENGTHS_11:Tok}
  {t_MOST_EVERY:Tok}
  {t_MOST_MANY:Tok}
  {ccq24 ptq24:Addr} {u1q24:Value} {u2q24:Option Addr} {u3q24:Array Value} {u4q24:Array (Option Value)}
  (aC_Both:W.nsIn K mainGlobals "Both"=some (some (.ref Fd)))
  (pg_Both:W.plainGet K Fd Str.empty=true)
  (hd_Both:W.hasDictIn K Fd=true)
  (po_Both:W.plainOver K Fd=true)
  (sa_Both:W.findIn K (.ref Fd) "__setattr__"=some (some (.builtin "object.__setattr__")))
  (fh:W.makesIn K Fd=true)
  (kc_Both:W.keepIn K (.ref Fd)=true)
  (nf_one_Both:NoA K Fd "one")
  (nf_other_Both:NoA K Fd "other")
  (aC_But:W.nsIn K mainGlobals "But"=some (some (.ref L6)))
  (pg_But:W.plainGet K L6 Str.empty=true)
  (hd_But:W.hasDictIn K L6=true)
  (po_But:W.plainOver K L6=true)
  (sa_But:W.findIn K (.ref L6) "__setattr__"=some (some (.builtin "object.__setattr__")))
  (uo:W.makesIn K L6=true)
  (kc_But:W.keepIn K (.ref L6)=true)
  (nf_one_But:NoA K L6 "one")
  (nf_other_But:NoA K L6 "other")
  (aC_ByMonth:W.nsIn K mainGlobals "ByMonth"=some (some (.ref Bb)))
  (pg_ByMonth:W.plainGet K Bb Str.empty=true)
  (hd_ByMonth:W.hasDictIn K Bb=true)
  (po_ByMonth:W.plainOver K Bb=true)
  (sa_ByMonth:W.findIn K (.ref Bb) "__setattr__"=some (some (.builtin "object.__setattr__")))
  (U3:W.makesIn K Bb=true)
  (kc_ByMonth:W.keepIn K (.ref Bb)=true)
  (nf_origin_ByMonth:NoA K Bb "origin")
  (nf_stride_ByMonth:NoA K Bb "stride")
  (nf_first_ByMonth:NoA K Bb "first")
  (aC_Changed:W.nsIn K mainGlobals "Changed"=some (some (.ref Am)))
  (pg_Changed:W.plainGet K Am Str.empty=true)
  (hd_Changed:W.hasDictIn K Am=true)
  (po_Changed:W.plainOver K Am=true)
  (sa_Changed:W.findIn K (.ref Am) "__setattr__"=some (some (.builtin "object.__setattr__")))
  (Hu:W.makesIn K Am=true)
  (kc_Changed:W.keepIn K (.ref Am)=true)
  (nf_rule_Changed:NoA K Am "rule")
  (nf_left_Changed:NoA K Am "left")
  (nf_more_Changed:NoA K Am "more")
  (nf_moved_Changed:NoA K Am "moved")
  (nf_gained_Changed:NoA K Am "gained")
  (nf_lost_Changed:NoA K Am "lost")
  (aC_Days:W.nsIn K mainGlobals "Days"=some (some (.ref Fe)))
  (pg_Days:W.plainGet K Fe Str.empty=true)
  (hd_Days:W.hasDictIn K Fe=true)
  (po_Days:W.plainOver K Fe=true)
  (sa_Days:W.findIn K (.ref Fe) "__setattr__"=some (some (.builtin "object.__setattr__")))
  (Vv:W.makesIn K Fe=true)
  (kc_Days:W.keepIn K (.ref Fe)=true)
  (nf_days_Days:NoA K Fe "days")
  (aC_Either:W.nsIn K mainGlobals "Either"=some (some (.ref Bq)))
  (pg_Either:W.plainGet K Bq Str.empty=true)
  (hd_Either:W.hasDictIn K Bq=true)
  (po_Either:W.plainOver K Bq=true)
  (sa_Either:W.findIn K (.ref Bq) "__setattr__"=some (some (.builtin "object.__setattr__")))
  (Tf:W.makesIn K Bq=true)
  (kc_Either:W.keepIn K (.ref Bq)=true)
  (nf_one_Either:NoA K Bq "one")
  (nf_other_Either:NoA K Bq "other")
  (aC_Every:W.nsIn K mainGlobals "Every"=some (some (.ref Cg)))
  (pg_Every:W.plainGet K Cg Str.empty=true)
  (hd_Every:W.hasDictIn K Cg=true)
  (po_Every:W.plainOver K Cg=true)
  (sa_Every:W.findIn K (.ref Cg) "__setattr__"=some (some (.builtin "object.__setattr__")))
  (Q1:W.makesIn K Cg=true)
  (kc_Every:W.keepIn K (.ref Cg)=true)
  (nf_step_Every:NoA K Cg "step")
  (nf_first_Every:NoA K Cg "first")
  (aC_Monthly:W.nsIn K mainGlobals "Monthly"=some (some (.ref Ax)))
  (pg_Monthly:W.plainGet K Ax Str.empty=true)
  (hd_Monthly:W.hasDictIn K Ax=true)
  (po_Monthly:W.plainOver K Ax=true)
  (sa_Monthly:W.findIn K (.ref Ax) "__setattr__"=some (some (.builtin "object.__setattr__")))
  (Jy:W.makesIn K Ax=true)
  (kc_Monthly:W.keepIn K (.ref Ax)=true)
  (nf_date_Monthly:NoA K Ax "date")
  (nf_every_Monthly:NoA K Ax "every")
  (nf_origin_Monthly:NoA K Ax "origin")
  (nf_stride_Monthly:NoA K Ax "stride")
  (nf_first_Monthly:NoA K Ax "first")
  (aC_Nth:W.nsIn K mainGlobals "Nth"=some (some (.ref Fb)))
  (pg_Nth:W.plainGet K Fb Str.empty=true)
  (hd_Nth:W.hasDictIn K Fb=true)
  (po_Nth:W.plainOver K Fb=true)
  (sa_Nth:W.findIn K (.ref Fb) "__setattr__"=some (some (.builtin "object.__setattr__")))
  (jt:W.makesIn K Fb=true)
  (kc_Nth:W.keepIn K (.ref Fb)=true)
  (nf_which_Nth:NoA K Fb "which")
  (nf_weekday_of_Nth:NoA K Fb "weekday_of")
  (nf_every_Nth:NoA K Fb "every")
  (nf_origin_Nth:NoA K Fb "origin")
  (nf_stride_Nth:NoA K Fb "stride")
  (nf_first_Nth:NoA K Fb "first")
  (aC_Rule:W.nsIn K mainGlobals "Rule"=some (some (.ref Gd)))
  (pg_Rule:W.plainGet K Gd Str.empty=true)
  (hd_Rule:W.hasDictIn K Gd=true)
  (po_Rule:W.plainOver K Gd=true)
  (sa_Rule:W.findIn K (.ref Gd) "__setattr__"=some (some (.builtin "object.__setattr__")))
  (mk_Rule:W.makesIn K Gd=true)
  (kc_Rule:W.keepIn K (.ref Gd)=true)
  (oi_Rule:W.findIn K (.ref Gd) "__init__"=some (some (.builtin "object.__init__")))
  (aC_Shifted:W.nsIn K mainGlobals "Shifted"=some (some (.ref Bh)))
  (pg_Shifted:W.plainGet K Bh Str.empty=true)
  (hd_Shifted:W.hasDictIn K Bh=true)
  (po_Shifted:W.plainOver K Bh=true)
  (sa_Shifted:W.findIn K (.ref Bh) "__setattr__"=some (some (.builtin "object.__setattr__")))
  (Pu:W.makesIn K Bh=true)
  (kc_Shifted:W.keepIn K (.ref Bh)=true)
  (nf_rule_Shifted:NoA K Bh "rule")
  (nf_many_Shifted:NoA K Bh "many")
  (aC_Weekly:W.nsIn K mainGlobals "Weekly"=some (some (.ref A3)))
  (pg_Weekly:W.plainGet K A3 Str.empty=true)
  (hd_Weekly:W.hasDictIn K A3=true)
  (po_Weekly:W.plainOver K A3=true)
  (sa_Weekly:W.findIn K (.ref A3) "__setattr__"=some (some (.builtin "object.__setattr__")))
  (Mt:W.makesIn K A3=true)
  (kc_Weekly:W.keepIn K (.ref A3)=true)
  (nf_mask_Weekly:NoA K A3 "mask")
  (nf_first_Weekly:NoA K A3 "first")
  (nf_every_Weekly:NoA K A3 "every")
  (aC_Where:W.nsIn K mainGlobals "Where"=some (some (.ref B4)))
  (pg_Where:W.plainGet K B4 Str.empty=true)
  (hd_Where:W.hasDictIn K B4=true)
  (po_Where:W.plainOver K B4=true)
  (sa_Where:W.findIn K (.ref B4) "__setattr__"=some (some (.builtin "object.__setattr__")))
  (X8:W.makesIn K B4=true)
  (kc_Where:W.keepIn K (.ref B4)=true)
  (nf_test_Where:NoA K B4 "test")
  (aC_Within:W.nsIn K mainGlobals "Within"=some (some (.ref Bk)))
  (pg_Within:W.plainGet K Bk Str.empty=true)
  (hd_Within:W.hasDictIn K Bk=true)
  (po_Within:W.plainOver K Bk=true)
  (sa_Within:W.findIn K (.ref Bk) "__setattr__"=some (some (.builtin "object.__setattr__")))
  (Sj:W.makesIn K Bk=true)
  (kc_Within:W.keepIn K (.ref Bk)=true)
  (nf_rule_Within:NoA K Bk "rule")
  (nf_begin_Within:NoA K Bk "begin")
  (nf_end_Within:NoA K Bk "end")
  (aC_Yearly:W.nsIn K mainGlobals "Yearly"=some (some (.ref A0)))
  (pg_Yearly:W.plainGet K A0 Str.empty=true)
  (hd_Yearly:W.hasDictIn K A0=true)
  (po_Yearly:W.plainOver K A0=true)
  (sa_Yearly:W.findIn K (.ref A0) "__setattr__"=some (some (.builtin "object.__setattr__")))
  (Na:W.makesIn K A0=true)
  (kc_Yearly:W.keepIn K (.ref A0)=true)
  (nf_month_Yearly:NoA K A0 "month")
  (nf_date_Yearly:NoA K A0 "date")
  (nf_every_Yearly:NoA K A0 "every")
  (nf_origin_Yearly:NoA K A0 "origin")
  (nf_stride_Yearly:NoA K A0 "stride")
  (nf_first_Yearly:NoA K A0 "first")
  (aq2j:AtM K "is_day" fq2j) (Fq2j:Fun K "is_day" "is_day" zr fq2j dq2j)
  (aq2g:AtM K "is_leap" fq2g) (Fq2g:Fun K "is_leap" "is_leap" vy fq2g dq2g)
  (aq1k:AtM K "year_begin" fq1k) (Fq1k:Fun K "year_begin" "year_begin" Sy fq1k dq1k)
  (aq2b:AtM K "weekday" fq2b) (Fq2b:Fun K "weekday" "weekday" sg fq2b dq2b)
  (aq15:AtM K "check_bounds" fq15) (Fq15:Fun K "check_bounds" "check_bounds" Vh fq15 dq15)
  (aq1j:AtM K "count_below" fq1j) (Fq1j:Fun K "count_below" "count_below" Qn fq1j dq1j)
  (aq14:W.findIn K (.ref Gd) "next_in"=some (some (.ref fq14))) (lq14:K.lookup fq14=some ⟨ocq14,odq14,.func (W.fnOf "next_in" "Rule.next_in" (A4 Cw) (Ay Cw) (Ah Cw) dVq14 kVq14 dcq14 pmq14 anq14 cdq14 ctq14),slq14⟩) (eq14:W.codeIn K cdq14 "Rule.next_in"=true) (kq14:W.keepIn K (.ref fq14)=true)
  (iq14:W.isFn K (.ref fq14)=true)
  (vq14:dVq14=.ref tq14) (wq14:K.lookup tq14=some otq14) (xq14:otq14.data=.seq #[.int 0 uq14_0,.int 146097 uq14_1] ntq14)
  (aqy:AtC K Gd "falls_on" fqy) (iqy:IsF K fqy) (Fqy:Fun K "falls_on" "Rule.falls_on" Tu fqy dqy)
  (aqr:W.findIn K (.ref Cg) "next_in"=some (some (.ref fqr))) (lqr:K.lookup fqr=some ⟨ocqr,odqr,.func (W.fnOf "next_in" "Every.next_in" (A4 By) (Ay By) (Ah By) dVqr kVqr dcqr pmqr anqr cdqr ctqr),slqr⟩) (eqr:W.codeIn K cdqr "Every.next_in"=true) (kqr:W.keepIn K (.ref fqr)=true)
  (iqr:W.isFn K (.ref fqr)=true)
  (vqr:dVqr=.ref tqr) (wqr:K.lookup tqr=some otqr) (xqr:otqr.data=.seq #[.int 0 uqr_0,.int 146097 uqr_1] ntqr)
  (aqf:AtC K Bb "__init__" fqf) (iqf:IsF K fqf) (Fqf:Fun K "__init__" "ByMonth.__init__" Rm fqf dqf)
  (aq16:AtC K B4 "__init__" fq16) (iq16:IsF K fq16) (Fq16:Fun K "__init__" "Where.__init__" Vp fq16 dq16)
  (aq2i:AtM K "merged" fq2i) (Fq2i:Fun K "merged" "merged" zf fq2i dq2i)
  (aqb:AtC K Bq "falls_on" fqb) (iqb:IsF K fqb) (Fqb:Fun K "falls_on" "Either.falls_on" Pd fqb dqb)
  (aqp:AtC K Bq "__init__" fqp) (iqp:IsF K fqp) (Fqp:Fun K "__init__" "Either.__init__" T4 fqp dqp)
  (aqu:AtC K Fd "falls_on" fqu) (iqu:IsF K fqu) (Fqu:Fun K "falls_on" "Both.falls_on" Sr fqu dqu)
  (aq1a:AtC K Fd "days_in" fq1a) (iq1a:IsF K fq1a) (Fq1a:Fun K "days_in" "Both.days_in" O8 fq1a dq1a)
  (aq1c:AtC K Fd "__init__" fq1c) (iq1c:IsF K fq1c) (Fq1c:Fun K "__init__" "Both.__init__" W5 fq1c dq1c)
  (aq1f:AtC K L6 "days_in" fq1f) (iq1f:IsF K fq1f) (Fq1f:Fun K "days_in" "But.days_in" Q3 fq1f dq1f)
  (aq17:AtC K L6 "falls_on" fq17) (iq17:IsF K fq17) (Fq17:Fun K "falls_on" "But.falls_on" Vj fq17 dq17)
  (aq1o:AtC K L6 "__init__" fq1o) (iq1o:IsF K fq1o) (Fq1o:Fun K "__init__" "But.__init__" ag fq1o dq1o)
  (aqz:AtC K Bk "__init__" fqz) (iqz:IsF K fqz) (Fqz:Fun K "__init__" "Within.__init__" Tg fqz dqz)
  (aq8:AtC K Bk "falls_on" fq8) (iq8:IsF K fq8) (Fq8:Fun K "falls_on" "Within.falls_on" Pj fq8 dq8)
  (aqn:AtC K Bk "days_in" fqn) (iqn:IsF K fqn) (Fqn:Fun K "days_in" "Within.days_in" R4 fqn dqn)
  (aqa:AtC K Bh "days_in" fqa) (iqa:IsF K fqa) (Fqa:Fun K "days_in" "Shifted.days_in" Ga fqa dqa)
  (aq4:AtC K Am "days_lost" fq4) (iq4:IsF K fq4) (Fq4:Fun K "days_lost" "Changed.days_lost" Hf fq4 dq4)
  (aq0:AtC K Am "days_gained" fq0) (iq0:IsF K fq0) (Fq0:Fun K "days_gained" "Changed.days_gained" Dl fq0 dq0)
  (aqi:W.findIn K (.ref Am) "__init__"=some (some (.ref fqi))) (lqi:K.lookup fqi=some ⟨ocqi,odqi,.func (W.fnOf "__init__" "Changed.__init__" (A4 Bm) (Ay Bm) (Ah Bm) dVqi kVqi dcqi pmqi anqi cdqi ctqi),slqi⟩) (eqi:W.codeIn K cdqi "Changed.__init__"=true) (kqi:W.keepIn K (.ref fqi)=true)
  (iqi:W.isFn K (.ref fqi)=true)
  (vqi:dVqi=.ref tqi) (wqi:K.lookup tqi=some otqi) (xqi:otqi.data=.seq #[.none,.none,.none] ntqi)
  (aq1e:AtM K "_law_cell_at" fq1e) (Fq1e:Fun K "_law_cell_at" "_law_cell_at" Wk fq1e dq1e)
  (aq25:AtM K "_law_next" fq25) (Fq25:Fun K "_law_next" "_law_next" Yn fq25 dq25)
  (aq26:AtM K "_law_leap" fq26) (Fq26:Fun K "_law_leap" "_law_leap" m9 fq26 dq26)
  (aq20:AtM K "_law_year" fq20) (Fq20:Fun K "_law_year" "_law_year" Yt fq20 dq20)
  (aq28:AtM K "_law_near" fq28) (Fq28:Fun K "_law_near" "_law_near" nu fq28 dq28)
  (aq1w:AtM K "_law_often" fq1w) (Fq1w:Fun K "_law_often" "_law_often" i6 fq1w dq1w)
  (aq1s:AtM K "month_days" fq1s) (Fq1s:Fun K "month_days" "month_days" ab fq1s dq1s)
  (aq1d:AtM K "month_begin" fq1d) (Fq1d:Fun K "month_begin" "month_begin" Qk fq1d dq1d)
  (aq1y:AtM K "check_day" fq1y) (Fq1y:Fun K "check_day" "check_day" iq fq1y dq1y)
  (aq2f:AtM K "week_of" fq2f) (Fq2f:Fun K "week_of" "week_of" uj fq2f dq2f)
  (aq1m:AtM K "week_begin" fq1m) (Fq1m:Fun K "week_begin" "week_begin" Z7 fq1m dq1m)
  (aqw:AtC K Cg "days_in" fqw) (iqw:IsF K fqw) (Fqw:Fun K "days_in" "Every.days_in" M4 fqw dqw)
  (aqj:AtC K Cg "falls_on" fqj) (iqj:IsF K fqj) (Fqj:Fun K "falls_on" "Every.falls_on" R6 fqj dqj)
  (aq2:AtC K A3 "has_weekday" fq2) (iq2:IsF K fq2) (Fq2:Fun K "has_weekday" "Weekly.has_weekday" Lw fq2 dq2)
  (aq11:W.findIn K (.ref Fe) "next_in"=some (some (.ref fq11))) (lq11:K.lookup fq11=some ⟨ocq11,odq11,.func (W.fnOf "next_in" "Days.next_in" (A4 B8) (Ay B8) (Ah B8) dVq11 kVq11 dcq11 pmq11 anq11 cdq11 ctq11),slq11⟩) (eq11:W.codeIn K cdq11 "Days.next_in"=true) (kq11:W.keepIn K (.ref fq11)=true)
  (iq11:W.isFn K (.ref fq11)=true)
  (vq11:dVq11=.ref tq11) (wq11:K.lookup tq11=some otq11) (xq11:otq11.data=.seq #[.int 0 uq11_0,.int 146097 uq11_1] ntq11)
  (aqe:AtC K B4 "falls_on" fqe) (iqe:IsF K fqe) (Fqe:Fun K "falls_on" "Where.falls_on" Ll fqe dqe)
  (aqk:AtC K Bq "days_in" fqk) (iqk:IsF K fqk) (Fqk:Fun K "days_in" "Either.days_in" R7 fqk dqk)
  (aqm:AtC K Bh "__init__" fqm) (iqm:IsF K fqm) (Fqm:Fun K "__init__" "Shifted.__init__" Rj fqm dqm)
  (aq7:AtC K Bh "falls_on" fq7) (iq7:IsF K fq7) (Fq7:Fun K "falls_on" "Shifted.falls_on" Oc fq7 dq7)
  (aqd:AtC K Am "days_in" fqd) (iqd:IsF K fqd) (Fqd:Fun K "days_in" "Changed.days_in" F8 fqd dqd)
  (aq1:AtC K Am "has_gained" fq1) (iq1:IsF K fq1) (Fq1:Fun K "has_gained" "Changed.has_gained" Gg fq1 dq1)
  (aq1n:AtM K "_law_length" fq1n) (Fq1n:Fun K "_law_length" "_law_length" ak fq1n dq1n)
  (aq1u:AtM K "_law_first" fq1u) (Fq1u:Fun K "_law_first" "_law_first" iw fq1u dq1u)
  (aq1x:AtM K "_law_spots" fq1x) (Fq1x:Fun K "_law_spots" "_law_spots" Qw fq1x dq1x)
  (aq22:AtM K "month_of" fq22) (Fq22:Fun K "month_of" "month_of" Zp fq22 dq22)
  (aq1i:AtM K "check_every" fq1i) (Fq1i:Fun K "check_every" "check_every" Xf fq1i dq1i)
  (aq1h:AtM K "day_of_date" fq1h) (Fq1h:Fun K "day_of_date" "day_of_date" Qa fq1h dq1h)
  (aq1r:AtM K "day_of_nth" fq1r) (Fq1r:Fun K "day_of_nth" "day_of_nth" Tv fq1r dq1r)
  (aq13:W.findIn K (.ref Cg) "__init__"=some (some (.ref fq13))) (lq13:K.lookup fq13=some ⟨ocq13,odq13,.func (W.fnOf "__init__" "Every.__init__" (A4 C0) (Ay C0) (Ah C0) dVq13 kVq13 dcq13 pmq13 anq13 cdq13 ctq13),slq13⟩) (eq13:W.codeIn K cdq13 "Every.__init__"=true) (kq13:W.keepIn K (.ref fq13)=true)
  (iq13:W.isFn K (.ref fq13)=true)
  (vq13:dVq13=.ref tq13) (wq13:K.lookup tq13=some otq13) (xq13:otq13.data=.seq #[.int 0 uq13_0] ntq13)
  (aq3:AtC K A3 "weeks_over" fq3) (iq3:IsF K fq3) (Fq3:Fun K "weeks_over" "Weekly.weeks_over" M6 fq3 dq3)
  (aq1g:AtC K Fe "__init__" fq1g) (iq1g:IsF K fq1g) (Fq1g:Fun K "__init__" "Days.__init__" Q6 fq1g dq1g)
  (aqt:AtC K Fe "falls_on" fqt) (iqt:IsF K fqt) (Fqt:Fun K "falls_on" "Days.falls_on" Sq fqt dqt)
  (aqs:W.findIn K (.ref B4) "next_in"=some (some (.ref fqs))) (lqs:K.lookup fqs=some ⟨ocqs,odqs,.func (W.fnOf "next_in" "Where.next_in" (A4 Bv) (Ay Bv) (Ah Bv) dVqs kVqs dcqs pmqs anqs cdqs ctqs),slqs⟩) (eqs:W.codeIn K cdqs "Where.next_in"=true) (kqs:W.keepIn K (.ref fqs)=true)
  (iqs:W.isFn K (.ref fqs)=true)
  (vqs:dVqs=.ref tqs) (wqs:K.lookup tqs=some otqs) (xqs:otqs.data=.seq #[.int 0 uqs_0,.int 146097 uqs_1] ntqs)
  (aq6:AtC K Am "falls_on" fq6) (iq6:IsF K fq6) (Fq6:Fun K "falls_on" "Changed.falls_on" Of fq6 dq6)
  (aq27:AtM K "_law_date" fq27) (Fq27:Fun K "_law_date" "_law_date" Zk fq27 dq27)
  (aq2d:AtM K "_law_day" fq2d) (Fq2d:Fun K "_law_day" "_law_day" iy fq2d dq2d)
  (aq2c:AtM K "date_of" fq2c) (Fq2c:Fun K "date_of" "date_of" ju fq2c dq2c)
  (aqh:W.findIn K (.ref A3) "next_in"=some (some (.ref fqh))) (lqh:K.lookup fqh=some ⟨ocqh,odqh,.func (W.fnOf "next_in" "Weekly.next_in" (A4 Bn) (Ay Bn) (Ah Bn) dVqh kVqh dcqh pmqh anqh cdqh ctqh),slqh⟩) (eqh:W.codeIn K cdqh "Weekly.next_in"=true) (kqh:W.keepIn K (.ref fqh)=true)
  (iqh:W.isFn K (.ref fqh)=true)
  (vqh:dVqh=.ref tqh) (wqh:K.lookup tqh=some otqh) (xqh:otqh.data=.seq #[.int 0 uqh_0,.int 146097 uqh_1] ntqh)
  (aqx:W.findIn K (.ref A3) "__init__"=some (some (.ref fqx))) (lqx:K.lookup fqx=some ⟨ocqx,odqx,.func (W.fnOf "__init__" "Weekly.__init__" (A4 Cd) (Ay Cd) (Ah Cd) dVqx kVqx dcqx pmqx anqx cdqx ctqx),slqx⟩) (eqx:W.codeIn K cdqx "Weekly.__init__"=true) (kqx:W.keepIn K (.ref fqx)=true)
  (iqx:W.isFn K (.ref fqx)=true)
  (vqx:dVqx=.ref tqx) (wqx:K.lookup tqx=some otqx) (xqx:otqx.data=.seq #[.int 0 uqx_0,.int 1 uqx_1] ntqx)
  (aqc:AtC K A3 "falls_on" fqc) (iqc:IsF K fqc) (Fqc:Fun K "falls_on" "Weekly.falls_on" P4 fqc dqc)
  (aql:W.findIn K (.ref Ax) "__init__"=some (some (.ref fql))) (lql:K.lookup fql=some ⟨ocql,odql,.func (W.fnOf "__init__" "Monthly.__init__" (A4 B0) (Ay B0) (Ah B0) dVql kVql dcql pmql anql cdql ctql),slql⟩) (eql:W.codeIn K cdql "Monthly.__init__"=true) (kql:W.keepIn K (.ref fql)=true)
  (iql:W.isFn K (.ref fql)=true)
  (vql:dVql=.ref tql) (wql:K.lookup tql=some otql) (xql:otql.data=.seq #[.int 0 uql_0,.int 1 uql_1] ntql)
  (aqo:AtC K Ax "day_in" fqo) (iqo:IsF K fqo) (Fqo:Fun K "day_in" "Monthly.day_in" R0 fqo dqo)
  (aq1l:W.findIn K (.ref Fb) "__init__"=some (some (.ref fq1l))) (lq1l:K.lookup fq1l=some ⟨ocq1l,odq1l,.func (W.fnOf "__init__" "Nth.__init__" (A4 Ei) (Ay Ei) (Ah Ei) dVq1l kVq1l dcq1l pmq1l anq1l cdq1l ctq1l),slq1l⟩) (eq1l:W.codeIn K cdq1l "Nth.__init__"=true) (kq1l:W.keepIn K (.ref fq1l)=true)
  (iq1l:W.isFn K (.ref fq1l)=true)
  (vq1l:dVq1l=.ref tq1l) (wq1l:K.lookup tq1l=some otq1l) (xq1l:otq1l.data=.seq #[.int 0 uq1l_0,.int 1 uq1l_1] ntq1l)
  (aq1p:AtC K Fb "day_in" fq1p) (iq1p:IsF K fq1p) (Fq1p:Fun K "day_in" "Nth.day_in" Z9 fq1p dq1p)
  (aq10:AtC K A0 "day_in" fq10) (iq10:IsF K fq10) (Fq10:Fun K "day_in" "Yearly.day_in" Sv fq10 dq10)
  (aq12:AtM K "_law_some_day" fq12) (Fq12:Fun K "_law_some_day" "_law_some_day" Ox fq12 dq12)
  (aq1q:AtM K "_law_simple" fq1q) (Fq1q:Fun K "_law_simple" "_law_simple" N1 fq1q dq1q)
  (aqg:AtM K "_law_months_off" fqg) (Fqg:Fun K "_law_months_off" "_law_months_off" Lh fqg dqg)
  (aq9:W.findIn K (.ref Bb) "next_in"=some (some (.ref fq9))) (lq9:K.lookup fq9=some ⟨ocq9,odq9,.func (W.fnOf "next_in" "ByMonth.next_in" (A4 Bj) (Ay Bj) (Ah Bj) dVq9 kVq9 dcq9 pmq9 anq9 cdq9 ctq9),slq9⟩) (eq9:W.codeIn K cdq9 "ByMonth.next_in"=true) (kq9:W.keepIn K (.ref fq9)=true)
  (iq9:W.isFn K (.ref fq9)=true)
  (vq9:dVq9=.ref tq9) (wq9:K.lookup tq9=some otq9) (xq9:otq9.data=.seq #[.int 0 uq9_0,.int 146097 uq9_1] ntq9)
  (aq5:AtC K Bb "falls_on" fq5) (iq5:IsF K fq5) (Fq5:Fun K "falls_on" "ByMonth.falls_on" Ik fq5 dq5)
  (aqv:W.findIn K (.ref A0) "__init__"=some (some (.ref fqv))) (lqv:K.lookup fqv=some ⟨ocqv,odqv,.func (W.fnOf "__init__" "Yearly.__init__" (A4 Bx) (Ay Bx) (Ah Bx) dVqv kVqv dcqv pmqv anqv cdqv ctqv),slqv⟩) (eqv:W.codeIn K cdqv "Yearly.__init__"=true) (kqv:W.keepIn K (.ref fqv)=true)
  (iqv:W.isFn K (.ref fqv)=true)
  (vqv:dVqv=.ref tqv) (wqv:K.lookup tqv=some otqv) (xqv:otqv.data=.seq #[.int 0 uqv_0,.int 1 uqv_1] ntqv)
  (aq1t:AtM K "_law_plain" fq1t) (Fq1t:Fun K "_law_plain" "_law_plain" Wc fq1t dq1t)
  (aq19:AtM K "_law_by_month" fq19) (Fq19:Fun K "_law_by_month" "_law_by_month" Oy fq19 dq19)
  (aq24:W.nsIn K mainGlobals "_law_rule"=some (some (.ref fq24))) (lq24:K.lookup fq24=some ⟨ocq24,odq24,.func (W.fnOf "_law_rule" "_law_rule" (A4 Hm) (Ay Hm) (Ah Hm) .none kVq24 dcq24 pmq24 anq24 cdq24 ctq24),slq24⟩) (eq24:W.codeIn K cdq24 "_law_rule"=true) (kq24:W.keepIn K (.ref fq24)=true)
  (aq18:AtC K Gd "days_in" fq18) (iq18:IsF K fq18) (Fq18:Fun K "days_in" "Rule.days_in" O6 fq18 dq18)
  (aq2a:W.nsIn K mainGlobals "days_of"=some (some (.ref fq2a))) (lq2a:K.lookup fq2a=some ⟨ocq2a,odq2a,.func (W.fnOf "days_of" "days_of" (A4 Iw) (Ay Iw) (Ah Iw) dVq2a kVq2a dcq2a pmq2a anq2a cdq2a ctq2a),slq2a⟩) (eq2a:W.codeIn K cdq2a "days_of"=true) (kq2a:W.keepIn K (.ref fq2a)=true)
  (vq2a:dVq2a=.ref tq2a) (wq2a:K.lookup tq2a=some otq2a) (xq2a:otq2a.data=.seq #[.int 0 uq2a_0,.int 146097 uq2a_1] ntq2a)
  (aq1z:AtM K "_law_same" fq1z) (Fq1z:Fun K "_law_same" "_law_same" U2 fq1z dq1z)
  (aq21:AtM K "_law_tree" fq21) (Fq21:Fun K "_law_tree" "_law_tree" Y4 fq21 dq21)
  (aq1v:AtM K "_law_falls" fq1v) (Fq1v:Fun K "_law_falls" "_law_falls" Q2 fq1v dq1v)
  (aq23:W.nsIn K mainGlobals "count_of"=some (some (.ref fq23))) (lq23:K.lookup fq23=some ⟨ocq23,odq23,.func (W.fnOf "count_of" "count_of" (A4 F3) (Ay F3) (Ah F3) dVq23 kVq23 dcq23 pmq23 anq23 cdq23 ctq23),slq23⟩) (eq23:W.codeIn K cdq23 "count_of"=true) (kq23:W.keepIn K (.ref fq23)=true)
  (vq23:dVq23=.ref tq23) (wq23:K.lookup tq23=some otq23) (xq23:otq23.data=.seq #[.int 0 uq23_0,.int 146097 uq23_1] ntq23)
  (aq2h:W.nsIn K mainGlobals "nth_of"=some (some (.ref fq2h))) (lq2h:K.lookup fq2h=some ⟨ocq2h,odq2h,.func (W.fnOf "nth_of" "nth_of" (A4 Mn) (Ay Mn) (Ah Mn) dVq2h kVq2h dcq2h pmq2h anq2h cdq2h ctq2h),slq2h⟩) (eq2h:W.codeIn K cdq2h "nth_of"=true) (kq2h:W.keepIn K (.ref fq2h)=true)
  (vq2h:dVq2h=.ref tq2h) (wq2h:K.lookup tq2h=some otq2h) (xq2h:otq2h.data=.seq #[.int 0 uq2h_0,.int 146097 uq2h_1] ntq2h)
  (aq2e:AtM K "_law_due" fq2e) (Fq2e:Fun K "_law_due" "_law_due" Xs fq2e dq2e)
  (aqq:AtM K "_law_part_good" fqq) (Fqq:Fun K "_law_part_good" "_law_part_good" Ja fqq dqq)
  (aq29:AtM K "_law_made" fq29) (Fq29:Fun K "_law_made" "_law_made" Yz fq29 dq29)
  (aq1b:AtM K "_law_left_out" fq1b) (Fq1b:Fun K "_law_left_out" "_law_left_out" K0 fq1b dq1b)
  (aq2k:W.nsIn K mainGlobals "law"=some (some (.ref fq2k))) (lq2k:K.lookup fq2k=some ⟨ocq2k,odq2k,.func (W.fnOf "law" "law" (A4 Aat) (Ay Aat) (Ah Aat) .none kVq2k dcq2k pmq2k anq2k cdq2k ctq2k),slq2k⟩) (eq2k:W.codeIn K cdq2k "law"=true) (kq2k:W.keepIn K (.ref fq2k)=true)
  (j_Days_days_in:AtC K Fe "days_in" fq18)
  (j_Monthly_days_in:AtC K Ax "days_in" fq18)
  (j_Monthly_falls_on:AtC K Ax "falls_on" fq5)
  (j_Monthly_next_in:AtC K Ax "next_in" fq9)
  (j_Nth_days_in:AtC K Fb "days_in" fq18)
  (j_Nth_falls_on:AtC K Fb "falls_on" fq5)
  (j_Nth_next_in:AtC K Fb "next_in" fq9)
  (j_Weekly_days_in:AtC K A3 "days_in" fq18)
  (j_Where_days_in:AtC K B4 "days_in" fq18)
  (j_Yearly_days_in:AtC K A0 "days_in" fq18)
  (j_Yearly_falls_on:AtC K A0 "falls_on" fq5)
  (j_Yearly_next_in:AtC K A0 "next_in" fq9)
  (Nj:W.nsIn K mainGlobals "DAYS"=some (some (.int 146097 t_DAYS)))
  (Ld:W.nsIn K mainGlobals "DAYS_AHEAD"=some (some (.ref Fo))) (o_DAYS_AHEAD':K.lookup Fo=some o_DAYS_AHEAD) (p_DAYS_AHEAD:o_DAYS_AHEAD.cls=.type "tuple") (q_DAYS_AHEAD:o_DAYS_AHEAD.data=.seq #[.int 0 t_DAYS_AHEAD_0,.int 31 t_DAYS_AHEAD_1,.int 59 t_DAYS_AHEAD_2,.int 90 t_DAYS_AHEAD_3,.int 120 t_DAYS_AHEAD_4,.int 151 t_DAYS_AHEAD_5,.int 181 t_DAYS_AHEAD_6,.int 212 t_DAYS_AHEAD_7,.int 243 t_DAYS_AHEAD_8,.int 273 t_DAYS_AHEAD_9,.int 304 t_DAYS_AHEAD_10,.int 334 t_DAYS_AHEAD_11] n_DAYS_AHEAD)
  (Ff:W.nsIn K mainGlobals "FIRST_WEEKDAY"=some (some (.int 5 t_FIRST_WEEKDAY)))
  (Ci:W.nsIn K mainGlobals "FIRST_WIDTH_listing"=some (some (.int 64 t_FIRST_WIDTH_listing)))
  (Ej:W.nsIn K mainGlobals "FIRST_YEAR"=some (some (.int 2000 t_FIRST_YEAR)))
  (Mz:W.nsIn K mainGlobals "LONG_YEAR"=some (some (.int 2000 t_LONG_YEAR)))
  (X9:W.nsIn K mainGlobals "MONTHS"=some (some (.int 4800 t_MONTHS)))
  (Fp:W.nsIn K mainGlobals "MONTH_LENGTHS"=some (some (.ref C8))) (o_MONTH_LENGTHS':K.lookup C8=some o_MONTH_LENGTHS) (p_MONTH_LENGTHS:o_MONTH_LENGTHS.cls=.type "tuple") (q_MONTH_LENGTHS:o_MONTH_LENGTHS.data=.seq #[.int 31 t_MONTH_LENGTHS_0,.int 28 t_MONTH_LENGTHS_1,.int 31 t_MONTH_LENGTHS_2,.int 30 t_MONTH_LENGTHS_3,.int 31 t_MONTH_LENGTHS_4,.int 30 t_MONTH_LENGTHS_5,.int 31 t_MONTH_LENGTHS_6,.int 31 t_MONTH_LENGTHS_7,.int 30 t_MONTH_LENGTHS_8,.int 31 t_MONTH_LENGTHS_9,.int 30 t_MONTH_LENGTHS_10,.int 31 t_MONTH_LENGTHS_11] n_MONTH_LENGTHS)
  (Lg:W.nsIn K mainGlobals "MOST_EVERY"=some (some (.int 1000 t_MOST_EVERY)))
  (J7:W.nsIn K mainGlobals "MOST_MANY"=some (some (.int 1000 t_MOST_MANY)))
  (cg_ByMonth:W.specialIn K (.ref Bb) "__getattribute__"=some (some (.builtin "type.__getattribute__"))) (cr_ByMonth:W.readsIn K Bb (.type "type")=true) (ca_ByMonth___init:W.findCls K (.ref Bb) (.type "type") "__init__"=some (.val (.ref fqf))) (ch_ByMonth___init:W.handedIn (.ref fqf)=true)
  (Aa3:NoM K "abs")
  (Z5:NoM K "bool")
  (qe:NoM K "int")
  (Bp:NoM K "isinstance")
  (P7:NoM K "len")
  (Tp:NoM K "list")
  (V2:NoM K "max")
  (Se:NoM K "min")
  (Iu:NoM K "range")
  (xo:NoM K "set")
  (Rf:NoM K "sorted")
  (Abi:NoM K "str")
  (Ab3:NoM K "sum")
  (Es:NoM K "tuple")
  (Ac7:NoM K "zip")
  (cvq24:cdq24=.ref ccq24) (lkq24:K.lookup ccq24=some ⟨u1q24,u2q24,.fields u3q24,u4q24⟩) (pvq24:u3q24[11]?=some (.ref ptq24)) (npq24:K.lookup ptq24=none):
  ∃a:Adr,Txt K mg a/\a.Abe=fq2k/\W.tabIn K "_law_rule"=some (a.J5,a.A8)/\K.lookup a.A8=none/\∀(s:Shared)(v:Value),BindsTo s a.yd ⟨[v],[]⟩ [("_law_script",v)]:=by
 subst vq14
 have Fq14:=G9 (st:=Cw) lq14 eq14 kq14
 have bq14:Binds K (W.fnOf "next_in" "Rule.next_in" (A4 Cw) (Ay Cw) (Ah Cw) (.ref tq14) kVq14 dcq14 pmq14 anq14 cdq14 ctq14) ["self","day","end"] []:=λs us KX hl=>by obtain⟨_,_,_,rfl⟩:=L2.ex3 (us:=us) (by rw[Ark] at hl;exact hl);exact Aq4 rfl (KX _ _ wq14) xq14 rfl rfl
 subst vqr
 have Fqr:=G9 (st:=By) lqr eqr kqr
 have bqr:Binds K (W.fnOf "next_in" "Every.next_in" (A4 By) (Ay By) (Ah By) (.ref tqr) kVqr dcqr pmqr anqr cdqr ctqr) ["self","day","end"] []:=λs us KX hl=>by obtain⟨_,_,_,rfl⟩:=L2.ex3 (us:=us) (by rw[Ark] at hl;exact hl);exact Aq4 rfl (KX _ _ wqr) xqr rfl rfl
 subst vqi
 have Fqi:=G9 (st:=Bm) lqi eqi kqi
 have bqi:Binds K (W.fnOf "__init__" "Changed.__init__" (A4 Bm) (Ay Bm) (Ah Bm) (.ref tqi) kVqi dcqi pmqi anqi cdqi ctqi) ["self","rule","left","more","moved"] []:=λs us KX hl=>by obtain⟨_,_,_,_,_,rfl⟩:=L2.ex5 (us:=us) (by rw[Ark] at hl;exact hl);exact Aq4 rfl (KX _ _ wqi) xqi rfl rfl
 subst vq11
 have Fq11:=G9 (st:=B8) lq11 eq11 kq11
 have bq11:Binds K (W.fnOf "next_in" "Days.next_in" (A4 B8) (Ay B8) (Ah B8) (.ref tq11) kVq11 dcq11 pmq11 anq11 cdq11 ctq11) ["self","day","end"] []:=λs us KX hl=>by obtain⟨_,_,_,rfl⟩:=L2.ex3 (us:=us) (by rw[Ark] at hl;exact hl);exact Aq4 rfl (KX _ _ wq11) xq11 rfl rfl
 subst vq13
 have Fq13:=G9 (st:=C0) lq13 eq13 kq13
 have bq13:Binds K (W.fnOf "__init__" "Every.__init__" (A4 C0) (Ay C0) (Ah C0) (.ref tq13) kVq13 dcq13 pmq13 anq13 cdq13 ctq13) ["self","step","first"] []:=λs us KX hl=>by obtain⟨_,_,_,rfl⟩:=L2.ex3 (us:=us) (by rw[Ark] at hl;exact hl);exact Aq4 rfl (KX _ _ wq13) xq13 rfl rfl
 subst vqs
 have Fqs:=G9 (st:=Bv) lqs eqs kqs
 have bqs:Binds K (W.fnOf "next_in" "Where.next_in" (A4 Bv) (Ay Bv) (Ah Bv) (.ref tqs) kVqs dcqs pmqs anqs cdqs ctqs) ["self","day","end"] []:=λs us KX hl=>by obtain⟨_,_,_,rfl⟩:=L2.ex3 (us:=us) (by rw[Ark] at hl;exact hl);exact Aq4 rfl (KX _ _ wqs) xqs rfl rfl
 subst vqh
 have Fqh:=G9 (st:=Bn) lqh eqh kqh
 have bqh:Binds K (W.fnOf "next_in" "Weekly.next_in" (A4 Bn) (Ay Bn) (Ah Bn) (.ref tqh) kVqh dcqh pmqh anqh cdqh ctqh) ["self","day","end"] []:=λs us KX hl=>by obtain⟨_,_,_,rfl⟩:=L2.ex3 (us:=us) (by rw[Ark] at hl;exact hl);exact Aq4 rfl (KX _ _ wqh) xqh rfl rfl
 subst vqx
 have Fqx:=G9 (st:=Cd) lqx eqx kqx
 have bqx:Binds K (W.fnOf "__init__" "Weekly.__init__" (A4 Cd) (Ay Cd) (Ah Cd) (.ref tqx) kVqx dcqx pmqx anqx cdqx ctqx) ["self","mask","first","every"] []:=λs us KX hl=>by obtain⟨_,_,_,_,rfl⟩:=L2.ex4 (us:=us) (by rw[Ark] at hl;exact hl);exact Aq4 rfl (KX _ _ wqx) xqx rfl rfl
 subst vql
 have Fql:=G9 (st:=B0) lql eql kql
 have bql:Binds K (W.fnOf "__init__" "Monthly.__init__" (A4 B0) (Ay B0) (Ah B0) (.ref tql) kVql dcql pmql anql cdql ctql) ["self","date","first","every"] []:=λs us KX hl=>by obtain⟨_,_,_,_,rfl⟩:=L2.ex4 (us:=us) (by rw[Ark] at hl;exact hl);exact Aq4 rfl (KX _ _ wql) xql rfl rfl
 subst vq1l
 have Fq1l:=G9 (st:=Ei) lq1l eq1l kq1l
 have bq1l:Binds K (W.fnOf "__init__" "Nth.__init__" (A4 Ei) (Ay Ei) (Ah Ei) (.ref tq1l) kVq1l dcq1l pmq1l anq1l cdq1l ctq1l) ["self","which","weekday_of","first","every"] []:=λs us KX hl=>by obtain⟨_,_,_,_,_,rfl⟩:=L2.ex5 (us:=us) (by rw[Ark] at hl;exact hl);exact Aq4 rfl (KX _ _ wq1l) xq1l rfl rfl
 subst vq9
 have Fq9:=G9 (st:=Bj) lq9 eq9 kq9
 have bq9:Binds K (W.fnOf "next_in" "ByMonth.next_in" (A4 Bj) (Ay Bj) (Ah Bj) (.ref tq9) kVq9 dcq9 pmq9 anq9 cdq9 ctq9) ["self","day","end"] []:=λs us KX hl=>by obtain⟨_,_,_,rfl⟩:=L2.ex3 (us:=us) (by rw[Ark] at hl;exact hl);exact Aq4 rfl (KX _ _ wq9) xq9 rfl rfl
 subst vqv
 have Fqv:=G9 (st:=Bx) lqv eqv kqv
 have bqv:Binds K (W.fnOf "__init__" "Yearly.__init__" (A4 Bx) (Ay Bx) (Ah Bx) (.ref tqv) kVqv dcqv pmqv anqv cdqv ctqv) ["self","month","date","first","every"] []:=λs us KX hl=>by obtain⟨_,_,_,_,_,rfl⟩:=L2.ex5 (us:=us) (by rw[Ark] at hl;exact hl);exact Aq4 rfl (KX _ _ wqv) xqv rfl rfl
 have Fq24:=Adi (st:=Hm) lq24 eq24 kq24
 have bq24:=Fq24.binds (ps:=["_law_tree_here","_law_short"]) λ_ _ _ _ _ _ us hl=>by obtain⟨_,_,rfl⟩:=L2.ex2 hl;exact rfl
 subst vq2a
 have Fq2a:=G9 (st:=Iw) lq2a eq2a kq2a
 have bq2a:Binds K (W.fnOf "days_of" "days_of" (A4 Iw) (Ay Iw) (Ah Iw) (.ref tq2a) kVq2a dcq2a pmq2a anq2a cdq2a ctq2a) ["rule","begin","end"] []:=λs us KX hl=>by obtain⟨_,_,_,rfl⟩:=L2.ex3 (us:=us) (by rw[Ark] at hl;exact hl);exact Aq4 rfl (KX _ _ wq2a) xq2a rfl rfl
 subst vq23
 have Fq23:=G9 (st:=F3) lq23 eq23 kq23
 have bq23:Binds K (W.fnOf "count_of" "count_of" (A4 F3) (Ay F3) (Ah F3) (.ref tq23) kVq23 dcq23 pmq23 anq23 cdq23 ctq23) ["rule","begin","end"] []:=λs us KX hl=>by obtain⟨_,_,_,rfl⟩:=L2.ex3 (us:=us) (by rw[Ark] at hl;exact hl);exact Aq4 rfl (KX _ _ wq23) xq23 rfl rfl
 subst vq2h
 have Fq2h:=G9 (st:=Mn) lq2h eq2h kq2h
 have bq2h:Binds K (W.fnOf "nth_of" "nth_of" (A4 Mn) (Ay Mn) (Ah Mn) (.ref tq2h) kVq2h dcq2h pmq2h anq2h cdq2h ctq2h) ["rule","many","begin","end"] []:=λs us KX hl=>by obtain⟨_,_,_,_,rfl⟩:=L2.ex4 (us:=us) (by rw[Ark] at hl;exact hl);exact Aq4 rfl (KX _ _ wq2h) xq2h rfl rfl
 have Fq2k:=Adi (st:=Aat) lq2k eq2k kq2k
 have bq2k:=Fq2k.binds (ps:=["_law_script"]) λ_ _ _ _ _ _ us hl=>by obtain⟨_,rfl⟩:=L2.ex1 hl;exact rfl
 exact⟨{fg:=fq2j,dv:=_,Xq:=fq2g,X0:=_,Nl:=fq1k,Ol:=_,Wx:=fq2b,Wo:=_,K3:=fq15,Ky:=_,Ml:=fq1j,Me:=_,Kp:=fq14,Kz:=_,Jm:=fqy,Hw:=_,Jf:=fqr,Ij:=_,Eu:=fqf,G7:=_,Kq:=fq16,Km:=_,ef:=fq2i,fc:=_,Ef:=fqb,D6:=_,Jq:=fqp,Jo:=_,Fl:=fqu,Fu:=_,Gk:=fq1a,Gq:=_,Mj:=fq1c,Md:=_,Hx:=fq1f,Ih:=_,Gp:=fq17,Gj:=_,N2:=fq1o,Oe:=_,Hz:=fqz,Jh:=_,D4:=fq8,D7:=_,E4:=fqn,Ez:=_,Eb:=fqa,Ed:=_,Eo:=fq4,Ep:=_,Dr:=fq0,Dq:=_,G3:=fqi,Co:=_,L7:=fq1e,L8:=_,Ud:=fq25,Ug:=_,U1:=fq26,Uz:=_,Ux:=fq20,Uk:=_,Uy:=fq28,Uj:=_,Qm:=fq1w,Qb:=_,N4:=fq1s,Nq:=_,Mi:=fq1d,Mh:=_,Qz:=fq1y,Q9:=_,Xe:=fq2f,Yb:=_,Og:=fq1m,Ny:=_,Jc:=fqw,Ii:=_,G0:=fqj,Gy:=_,Dt:=fq2,Dv:=_,Kv:=fq11,Ko:=_,G2:=fqe,Gv:=_,Ex:=fqk,E3:=_,Gw:=fqm,Gx:=_,Dj:=fq7,Df:=_,D9:=fqd,Dz:=_,Dw:=fq1,Dx:=_,Nt:=fq1n,Nz:=_,Qj:=fq1u,Qs:=_,Qe:=fq1x,Qu:=_,Uh:=fq22,Ui:=_,L3:=fq1i,Mf:=_,Mb:=fq1h,Ma:=_,Oa:=fq1r,Oh:=_,Kl:=fq13,Gm:=_,Ek:=fq3,Em:=_,Mc:=fq1g,Mg:=_,Iz:=fqt,Hy:=_,Jg:=fqs,Ir:=_,Dm:=fq6,Dp:=_,Ul:=fq27,Uc:=_,Wh:=fq2d,Xn:=_,W0:=fq2c,Xl:=_,G6:=fqh,G4:=_,Im:=fqx,Eg:=_,Gb:=fqc,F9:=_,G5:=fql,Dd:=_,Gr:=fqo,G8:=_,Oo:=fq1l,Hk:=_,Nm:=fq1p,N6:=_,Io:=fq10,Iv:=_,Ki:=fq12,Kx:=_,Np:=fq1q,N8:=_,Gz:=fqg,G1:=_,C7:=fq9,F7:=_,Cm:=fq5,Fc:=_,Jr:=fqv,D8:=_,Ra:=fq1t,Q0:=_,Kr:=fq19,Ku:=_,Pb:=fq24,U0:=_,Bt:=fq18,Kn:=_,Xw:=fq2a,P6:=_,Kd:=fq1z,Jx:=_,Kc:=fq21,J4:=_,Hb:=fq1v,Hh:=_,Uq:=fq23,Mo:=_,d8:=fq2h,Uw:=_,Wt:=fq2e,Ye:=_,Ji:=fqq,Jn:=_,Kb:=fq29,Ke:=_,Kt:=fq1b,K1:=_,Abe:=fq2k,yd:=_,Fo:=Fo,C8:=C8,Fd:=Fd,L6:=L6,Bb:=Bb,Am:=Am,Fe:=Fe,Bq:=Bq,Cg:=Cg,Ax:=Ax,Fb:=Fb,Gd:=Gd,Bh:=Bh,A3:=A3,B4:=B4,Bk:=Bk,A0:=A0,J5:=ccq24,A8:=ptq24},⟨Fq2j,Ars X G aq2j,Fq2j.b1 (by intros;rfl),Fq2g,Ars X G aq2g,Fq2g.b1 (by intros;rfl),Fq1k,Ars X G aq1k,Fq1k.b1 (by intros;rfl),Fq2b,Ars X G aq2b,Fq2b.b1 (by intros;rfl),Fq15,Ars X G aq15,Fq15.b3 (by intros;rfl),Fq1j,Ars X G aq1j,Fq1j.b2 (by intros;rfl),Fq14,bq14,Fqy,Fqy.b2 (by intros;rfl),Fqr,bqr,Fqf,Fqf.b4 (by intros;rfl),Fq16,Fq16.b2 (by intros;rfl),Fq2i,Ars X G aq2i,Fq2i.b2 (by intros;rfl),Fqb,Fqb.b2 (by intros;rfl),Fqp,Fqp.b3 (by intros;rfl),Fqu,Fqu.b2 (by intros;rfl),Fq1a,Fq1a.b3 (by intros;rfl),Fq1c,Fq1c.b3 (by intros;rfl),Fq1f,Fq1f.b3 (by intros;rfl),Fq17,Fq17.b2 (by intros;rfl),Fq1o,Fq1o.b3 (by intros;rfl),Fqz,Fqz.b4 (by intros;rfl),Fq8,Fq8.b2 (by intros;rfl),Fqn,Fqn.b3 (by intros;rfl),Fqa,Fqa.b3 (by intros;rfl),Fq4,Fq4.b1 (by intros;rfl),Fq0,Fq0.b1 (by intros;rfl),Fqi,bqi,⟨[.none],(λs us KX hl=>by obtain⟨_,_,_,_,rfl⟩:=L2.ex4 (show us.length=4 by rw[Aqw] at hl;simpa using hl);exact Aq4 rfl (KX _ _ wqi) xqi rfl rfl),(.cons (rfl) .nil)⟩,⟨[.none,.none],(λs us KX hl=>by obtain⟨_,_,_,rfl⟩:=L2.ex3 (show us.length=3 by rw[Aqw] at hl;simpa using hl);exact Aq4 rfl (KX _ _ wqi) xqi rfl rfl),(.cons (rfl) (.cons (rfl) .nil))⟩,⟨[.none,.none,.none],(λs us KX hl=>by obtain⟨_,_,rfl⟩:=L2.ex2 (show us.length=2 by rw[Aqw] at hl;simpa using hl);exact Aq4 rfl (KX _ _ wqi) xqi rfl rfl),(.cons (rfl) (.cons (rfl) (.cons (rfl) .nil)))⟩,Fq1e,Ars X G aq1e,Fq1e.b2 (by intros;rfl),Fq25,Ars X G aq25,Fq25.b1 (by intros;rfl),Fq26,Ars X G aq26,Fq26.b1 (by intros;rfl),Fq20,Ars X G aq20,Fq20.b1 (by intros;rfl),Fq28,Ars X G aq28,Fq28.b2 (by intros;rfl),Fq1w,Ars X G aq1w,Fq1w.b1 (by intros;rfl),Fq1s,Ars X G aq1s,Fq1s.b2 (by intros;rfl),Fq1d,Ars X G aq1d,Fq1d.b1 (by intros;rfl),Fq1y,Ars X G aq1y,Fq1y.b1 (by intros;rfl),Fq2f,Ars X G aq2f,Fq2f.b1 (by intros;rfl),Fq1m,Ars X G aq1m,Fq1m.b1 (by intros;rfl),Fqw,Fqw.b3 (by intros;rfl),Fqj,Fqj.b2 (by intros;rfl),Fq2,Fq2.b2 (by intros;rfl),Fq11,bq11,Fqe,Fqe.b2 (by intros;rfl),Fqk,Fqk.b3 (by intros;rfl),Fqm,Fqm.b3 (by intros;rfl),Fq7,Fq7.b2 (by intros;rfl),Fqd,Fqd.b3 (by intros;rfl),Fq1,Fq1.b2 (by intros;rfl),Fq1n,Ars X G aq1n,Fq1n.b2 (by intros;rfl),Fq1u,Ars X G aq1u,Fq1u.b2 (by intros;rfl),Fq1x,Ars X G aq1x,Fq1x.b3 (by intros;rfl),Fq22,Ars X G aq22,Fq22.b1 (by intros;rfl),Fq1i,Ars X G aq1i,Fq1i.b2 (by intros;rfl),Fq1h,Ars X G aq1h,Fq1h.b2 (by intros;rfl),Fq1r,Ars X G aq1r,Fq1r.b3 (by intros;rfl),Fq13,bq13,⟨[.int 0 uq13_0],(λs us KX hl=>by obtain⟨_,_,rfl⟩:=L2.ex2 (show us.length=2 by rw[Aqw] at hl;simpa using hl);exact Aq4 rfl (KX _ _ wq13) xq13 rfl rfl),(.cons (⟨_,rfl⟩) .nil)⟩,Fq3,Fq3.b2 (by intros;rfl),Fq1g,Fq1g.b2 (by intros;rfl),Fqt,Fqt.b2 (by intros;rfl),Fqs,bqs,Fq6,Fq6.b2 (by intros;rfl),Fq27,Ars X G aq27,Fq27.b1 (by intros;rfl),Fq2d,Ars X G aq2d,Fq2d.b3 (by intros;rfl),Fq2c,Ars X G aq2c,Fq2c.b1 (by intros;rfl),Fqh,bqh,Fqx,bqx,⟨[.int 1 uqx_1],(λs us KX hl=>by obtain⟨_,_,_,rfl⟩:=L2.ex3 (show us.length=3 by rw[Aqw] at hl;simpa using hl);exact Aq4 rfl (KX _ _ wqx) xqx rfl rfl),(.cons (⟨_,rfl⟩) .nil)⟩,⟨[.int 0 uqx_0,.int 1 uqx_1],(λs us KX hl=>by obtain⟨_,_,rfl⟩:=L2.ex2 (show us.length=2 by rw[Aqw] at hl;simpa using hl);exact Aq4 rfl (KX _ _ wqx) xqx rfl rfl),(.cons (⟨_,rfl⟩) (.cons (⟨_,rfl⟩) .nil))⟩,Fqc,Fqc.b2 (by intros;rfl),Fql,bql,⟨[.int 1 uql_1],(λs us KX hl=>by obtain⟨_,_,_,rfl⟩:=L2.ex3 (show us.length=3 by rw[Aqw] at hl;simpa using hl);exact Aq4 rfl (KX _ _ wql) xql rfl rfl),(.cons (⟨_,rfl⟩) .nil)⟩,⟨[.int 0 uql_0,.int 1 uql_1],(λs us KX hl=>by obtain⟨_,_,rfl⟩:=L2.ex2 (show us.length=2 by rw[Aqw] at hl;simpa using hl);exact Aq4 rfl (KX _ _ wql) xql rfl rfl),(.cons (⟨_,rfl⟩) (.cons (⟨_,rfl⟩) .nil))⟩,Fqo,Fqo.b2 (by intros;rfl),Fq1l,bq1l,⟨[.int 1 uq1l_1],(λs us KX hl=>by obtain⟨_,_,_,_,rfl⟩:=L2.ex4 (show us.length=4 by rw[Aqw] at hl;simpa using hl);exact Aq4 rfl (KX _ _ wq1l) xq1l rfl rfl),(.cons (⟨_,rfl⟩) .nil)⟩,⟨[.int 0 uq1l_0,.int 1 uq1l_1],(λs us KX hl=>by obtain⟨_,_,_,rfl⟩:=L2.ex3 (show us.length=3 by rw[Aqw] at hl;simpa using hl);exact Aq4 rfl (KX _ _ wq1l) xq1l rfl rfl),(.cons (⟨_,rfl⟩) (.cons (⟨_,rfl⟩) .nil))⟩,Fq1p,Fq1p.b2 (by intros;rfl),Fq10,Fq10.b2 (by intros;rfl),Fq12,Ars X G aq12,Fq12.b1 (by intros;rfl),Fq1q,Ars X G aq1q,Fq1q.b2 (by intros;rfl),Fqg,Ars X G aqg,Fqg.b4 (by intros;rfl),Fq9,bq9,Fq5,Fq5.b2 (by intros;rfl),Fqv,bqv,⟨[.int 1 uqv_1],(λs us KX hl=>by obtain⟨_,_,_,_,rfl⟩:=L2.ex4 (show us.length=4 by rw[Aqw] at hl;simpa using hl);exact Aq4 rfl (KX _ _ wqv) xqv rfl rfl),(.cons (⟨_,rfl⟩) .nil)⟩,⟨[.int 0 uqv_0,.int 1 uqv_1],(λs us KX hl=>by obtain⟨_,_,_,rfl⟩:=L2.ex3 (show us.length=3 by rw[Aqw] at hl;simpa using hl);exact Aq4 rfl (KX _ _ wqv) xqv rfl rfl),(.cons (⟨_,rfl⟩) (.cons (⟨_,rfl⟩) .nil))⟩,Fq1t,Ars X G aq1t,Fq1t.b3 (by intros;rfl),Fq19,Ars X G aq19,Fq19.b2 (by intros;rfl),Fq24,Ars X G aq24,bq24,Fq18,Fq18.b3 (by intros;rfl),Fq2a,Ars X G aq2a,bq2a,⟨[.int 146097 uq2a_1],(λs us KX hl=>by obtain⟨_,_,rfl⟩:=L2.ex2 (show us.length=2 by rw[Aqw] at hl;simpa using hl);exact Aq4 rfl (KX _ _ wq2a) xq2a rfl rfl),(.cons (⟨_,rfl⟩) .nil)⟩,⟨[.int 0 uq2a_0,.int 146097 uq2a_1],(λs us KX hl=>by obtain⟨_,rfl⟩:=L2.ex1 (show us.length=1 by rw[Aqw] at hl;simpa using hl);exact Aq4 rfl (KX _ _ wq2a) xq2a rfl rfl),(.cons (⟨_,rfl⟩) (.cons (⟨_,rfl⟩) .nil))⟩,Fq1z,Ars X G aq1z,Fq1z.b2 (by intros;rfl),Fq21,Ars X G aq21,Fq21.b3 (by intros;rfl),Fq1v,Ars X G aq1v,Fq1v.b3 (by intros;rfl),Fq23,Ars X G aq23,bq23,⟨[.int 146097 uq23_1],(λs us KX hl=>by obtain⟨_,_,rfl⟩:=L2.ex2 (show us.length=2 by rw[Aqw] at hl;simpa using hl);exact Aq4 rfl (KX _ _ wq23) xq23 rfl rfl),(.cons (⟨_,rfl⟩) .nil)⟩,⟨[.int 0 uq23_0,.int 146097 uq23_1],(λs us KX hl=>by obtain⟨_,rfl⟩:=L2.ex1 (show us.length=1 by rw[Aqw] at hl;simpa using hl);exact Aq4 rfl (KX _ _ wq23) xq23 rfl rfl),(.cons (⟨_,rfl⟩) (.cons (⟨_,rfl⟩) .nil))⟩,Fq2h,Ars X G aq2h,bq2h,⟨[.int 146097 uq2h_1],(λs us KX hl=>by obtain⟨_,_,_,rfl⟩:=L2.ex3 (show us.length=3 by rw[Aqw] at hl;simpa using hl);exact Aq4 rfl (KX _ _ wq2h) xq2h rfl rfl),(.cons (⟨_,rfl⟩) .nil)⟩,⟨[.int 0 uq2h_0,.int 146097 uq2h_1],(λs us KX hl=>by obtain⟨_,_,rfl⟩:=L2.ex2 (show us.length=2 by rw[Aqw] at hl;simpa using hl);exact Aq4 rfl (KX _ _ wq2h) xq2h rfl rfl),(.cons (⟨_,rfl⟩) (.cons (⟨_,rfl⟩) .nil))⟩,Fq2e,Ars X G aq2e,Fq2e.b3 (by intros;rfl),Fqq,Ars X G aqq,Fqq.b5 (by intros;rfl),Fq29,Ars X G aq29,Fq29.b2 (by intros;rfl),Fq1b,Ars X G aq1b,Fq1b.b1 (by intros;rfl),Fq2k,Ars X G aq2k,bq2k,⟨_,Ars X G Nj⟩,Ars X G Ld,λH=>.inr ⟨_,_,_,o_DAYS_AHEAD',p_DAYS_AHEAD,q_DAYS_AHEAD,(by show 12<=sizeLine;decide),(.cons ⟨_,rfl⟩ (.cons ⟨_,rfl⟩ (.cons ⟨_,rfl⟩ (.cons ⟨_,rfl⟩ (.cons ⟨_,rfl⟩ (.cons ⟨_,rfl⟩ (.cons ⟨_,rfl⟩ (.cons ⟨_,rfl⟩ (.cons ⟨_,rfl⟩ (.cons ⟨_,rfl⟩ (.cons ⟨_,rfl⟩ (.cons ⟨_,rfl⟩ .nil))))))))))))⟩,⟨_,Ars X G Ff⟩,⟨_,Ars X G Ci⟩,⟨_,Ars X G Ej⟩,⟨_,Ars X G Mz⟩,⟨_,Ars X G X9⟩,Ars X G Fp,λH=>.inr ⟨_,_,_,o_MONTH_LENGTHS',p_MONTH_LENGTHS,q_MONTH_LENGTHS,(by show 12<=sizeLine;decide),(.cons ⟨_,rfl⟩ (.cons ⟨_,rfl⟩ (.cons ⟨_,rfl⟩ (.cons ⟨_,rfl⟩ (.cons ⟨_,rfl⟩ (.cons ⟨_,rfl⟩ (.cons ⟨_,rfl⟩ (.cons ⟨_,rfl⟩ (.cons ⟨_,rfl⟩ (.cons ⟨_,rfl⟩ (.cons ⟨_,rfl⟩ (.cons ⟨_,rfl⟩ .nil))))))))))))⟩,⟨_,Ars X G Lg⟩,⟨_,Ars X G J7⟩,⟨cg_ByMonth,cr_ByMonth,ca_ByMonth___init,ch_ByMonth___init,Fqf.kp⟩,Ars X G aC_Both,⟨pg_Both,hd_Both,po_Both,sa_Both⟩,⟨fh,aq1c,iq1c,kc_Both⟩,nf_one_Both,nf_other_Both,⟨aq1a,iq1a,Fq1a.kp⟩,⟨aqu,iqu,Fqu.kp⟩,Ars X G aC_But,⟨pg_But,hd_But,po_But,sa_But⟩,⟨uo,aq1o,iq1o,kc_But⟩,nf_one_But,nf_other_But,⟨aq1f,iq1f,Fq1f.kp⟩,⟨aq17,iq17,Fq17.kp⟩,Ars X G aC_ByMonth,⟨pg_ByMonth,hd_ByMonth,po_ByMonth,sa_ByMonth⟩,⟨U3,aqf,iqf,kc_ByMonth⟩,nf_origin_ByMonth,nf_stride_ByMonth,nf_first_ByMonth,Ars X G aC_Changed,⟨pg_Changed,hd_Changed,po_Changed,sa_Changed⟩,⟨Hu,aqi,iqi,kc_Changed⟩,nf_rule_Changed,nf_left_Changed,nf_more_Changed,nf_moved_Changed,nf_gained_Changed,nf_lost_Changed,⟨aq0,iq0,Fq0.kp⟩,⟨aqd,iqd,Fqd.kp⟩,⟨aq4,iq4,Fq4.kp⟩,⟨aq6,iq6,Fq6.kp⟩,⟨aq1,iq1,Fq1.kp⟩,Ars X G aC_Days,⟨pg_Days,hd_Days,po_Days,sa_Days⟩,⟨Vv,aq1g,iq1g,kc_Days⟩,nf_days_Days,⟨j_Days_days_in,iq18,Fq18.kp⟩,⟨aqt,iqt,Fqt.kp⟩,⟨aq11,iq11,kq11⟩,Ars X G aC_Either,⟨pg_Either,hd_Either,po_Either,sa_Either⟩,⟨Tf,aqp,iqp,kc_Either⟩,nf_one_Either,nf_other_Either,⟨aqk,iqk,Fqk.kp⟩,⟨aqb,iqb,Fqb.kp⟩,Ars X G aC_Every,⟨pg_Every,hd_Every,po_Every,sa_Every⟩,⟨Q1,aq13,iq13,kc_Every⟩,nf_step_Every,nf_first_Every,⟨aqw,iqw,Fqw.kp⟩,⟨aqj,iqj,Fqj.kp⟩,⟨aqr,iqr,kqr⟩,Ars X G aC_Monthly,⟨pg_Monthly,hd_Monthly,po_Monthly,sa_Monthly⟩,⟨Jy,aql,iql,kc_Monthly⟩,nf_date_Monthly,nf_every_Monthly,nf_origin_Monthly,nf_stride_Monthly,nf_first_Monthly,⟨aqo,iqo,Fqo.kp⟩,⟨j_Monthly_days_in,iq18,Fq18.kp⟩,⟨j_Monthly_falls_on,iq5,Fq5.kp⟩,⟨j_Monthly_next_in,iq9,kq9⟩,Ars X G aC_Nth,⟨pg_Nth,hd_Nth,po_Nth,sa_Nth⟩,⟨jt,aq1l,iq1l,kc_Nth⟩,nf_which_Nth,nf_weekday_of_Nth,nf_every_Nth,nf_origin_Nth,nf_stride_Nth,nf_first_Nth,⟨aq1p,iq1p,Fq1p.kp⟩,⟨j_Nth_days_in,iq18,Fq18.kp⟩,⟨j_Nth_falls_on,iq5,Fq5.kp⟩,⟨j_Nth_next_in,iq9,kq9⟩,Ars X G aC_Rule,⟨pg_Rule,hd_Rule,po_Rule,sa_Rule⟩,⟨mk_Rule,oi_Rule,kc_Rule⟩,⟨aq18,iq18,Fq18.kp⟩,⟨aqy,iqy,Fqy.kp⟩,⟨aq14,iq14,kq14⟩,Ars X G aC_Shifted,⟨pg_Shifted,hd_Shifted,po_Shifted,sa_Shifted⟩,⟨Pu,aqm,iqm,kc_Shifted⟩,nf_rule_Shifted,nf_many_Shifted,⟨aqa,iqa,Fqa.kp⟩,⟨aq7,iq7,Fq7.kp⟩,Ars X G aC_Weekly,⟨pg_Weekly,hd_Weekly,po_Weekly,sa_Weekly⟩,⟨Mt,aqx,iqx,kc_Weekly⟩,nf_mask_Weekly,nf_first_Weekly,nf_every_Weekly,⟨j_Weekly_days_in,iq18,Fq18.kp⟩,⟨aqc,iqc,Fqc.kp⟩,⟨aq2,iq2,Fq2.kp⟩,⟨aqh,iqh,kqh⟩,⟨aq3,iq3,Fq3.kp⟩,Ars X G aC_Where,⟨pg_Where,hd_Where,po_Where,sa_Where⟩,⟨X8,aq16,iq16,kc_Where⟩,nf_test_Where,⟨j_Where_days_in,iq18,Fq18.kp⟩,⟨aqe,iqe,Fqe.kp⟩,⟨aqs,iqs,kqs⟩,Ars X G aC_Within,⟨pg_Within,hd_Within,po_Within,sa_Within⟩,⟨Sj,aqz,iqz,kc_Within⟩,nf_rule_Within,nf_begin_Within,nf_end_Within,⟨aqn,iqn,Fqn.kp⟩,⟨aq8,iq8,Fq8.kp⟩,Ars X G aC_Yearly,⟨pg_Yearly,hd_Yearly,po_Yearly,sa_Yearly⟩,⟨Na,aqv,iqv,kc_Yearly⟩,nf_month_Yearly,nf_date_Yearly,nf_every_Yearly,nf_origin_Yearly,nf_stride_Yearly,nf_first_Yearly,⟨aq10,iq10,Fq10.kp⟩,⟨j_Yearly_days_in,iq18,Fq18.kp⟩,⟨j_Yearly_falls_on,iq5,Fq5.kp⟩,⟨j_Yearly_next_in,iq9,kq9⟩,Asq X G Aa3,Asq X G Z5,Asq X G qe,Asq X G Bp,Asq X G P7,Asq X G Tp,Asq X G V2,Asq X G Se,Asq X G Iu,Asq X G xo,Asq X G Rf,Asq X G Abi,Asq X G Ab3,Asq X G Es,Asq X G Ac7,Aa0 lq24 cvq24⟩,rfl,Agz aq24 lq24 cvq24 lkq24 pvq24,npq24,λs v=>.of_eq rfl⟩
end K15
namespace K15
open PySem L2
def walk {l:W.OpenLaw}{q:Program}{loose:List Str}{XP:(Str->Option Value)->Heap->Prop}{YP:World->Heap->Prop}{d:DefRec}{K:Params->W.Frag}(hn:l.most=some 63)(hdf:d.params.defaults=[])
  (hY:∀(w:World)(h:Heap),YP w h->(K w.params).In h) (hrec:((PyProof.Rows.recsOf q).find? (λe=>e.name==("_law_rule":Str))).isSome=true)
  (F:∀(w:World)(mg:Str->Option Value)(fa:Addr)(h:Heap),(K w.params).In h->h.Ns mainGlobals mg->mg d.name=some (.ref fa)->
   ∃(fd:FuncData)(cc pt:Addr),W.tabIn (K w.params) "_law_rule"=some (cc,pt)/\(K w.params).lookup pt=none/\(∀(s:Shared)(u:Value),BindsTo s fd ⟨[u],[]⟩ [("_law_script",u)])/\∀base:Heap,(K w.params).In base->base.Ns mainGlobals mg->MkL mg base cc pt->FnOk l.prog w (K w.params) mg base CX0 true 50 fa fd ["_law_script"] (zh (K w.params) pt)):
  W.WalkO q loose XP YP l.row.toRowW d [] (λf vs=>PySem.call f vs):=
 L2.Afm (cm:=true) (n:=63) (k:=50) (x:="_law_script") (y:="_law_rule") (CX:=λ_=>CX0) (sp:=λw pt=>zh (K w.params) pt) hn dkd hdf ⟨λ_=>rfl,dkd,dkd⟩ hY hrec F (λ_ _ a pt ns hl _ hT hS=>⟨a,ns,rfl,hS,hl,hT,λ_=>rfl⟩) λ_ _ _ _ _ z=>z
def all_ok {l:W.OpenLaw}{w:World}{K:W.Frag}{mg:Str->Option Value}{fa f:Addr}(hfa:mg "law"=some (.ref fa))
  (h:∃a:Adr,Txt K mg a/\a.Abe=f/\W.tabIn K "_law_rule"=some (a.J5,a.A8)/\K.lookup a.A8=none/\∀(s:Shared)(v:Value),BindsTo s a.yd ⟨[v],[]⟩ [("_law_script",v)]):
  ∃(fd:FuncData)(cc pt:Addr),W.tabIn K "_law_rule"=some (cc,pt)/\K.lookup pt=none/\(∀(s:Shared)(u:Value),BindsTo s fd ⟨[u],[]⟩ [("_law_script",u)])/\∀base:Heap,K.In base->base.Ns mainGlobals mg->MkL mg base cc pt->FnOk l.prog w K mg base CX0 true 50 fa fd ["_law_script"] (zh K pt):=by
 obtain⟨a,T,_,h1,h2,hb⟩:=h
 have e:=T.Anr
 rw[hfa] at e
 cases e
 exact⟨a.yd,a.J5,a.A8,h1,h2,hb,λbase _ _ M=>Akk ⟨T,M⟩⟩
end K15
open PySem PySem.W PyProof.Rows
set_option maxRecDepth 100000 in
set_option maxHeartbeats 0 in
theorem PySem.Challenge.cw_hourhouse_k15_whole_days_of_rules_holds : PySem.Challenge.rw_hourhouse_k15_whole_days_of_rules.Holds := by
 w_on; o_law; k_head; (case hw => w_witness2)
 k_fill
 refine K15.walk (l := PySem.Challenge.rw_hourhouse_k15_whole_days_of_rules) rfl rfl (λ w h Y => W.km_in_of Y) dkk ?F
 case F =>
  intro w mg fa h KX G hmg
  refine' K15.all_ok hmg (K15.txt_mk KX G ?aC_Both ?pg_Both ?hd_Both ?po_Both ?sa_Both ?fh ?kc_Both ?nf_one_Both ?nf_other_Both ?aC_But ?pg_But ?hd_But ?po_But ?sa_But ?uo ?kc_But ?nf_one_But ?nf_other_But ?aC_ByMonth ?pg_ByMonth ?hd_ByMonth ?po_ByMonth ?sa_ByMonth ?U3 ?kc_ByMonth ?nf_origin_ByMonth ?nf_stride_ByMonth ?nf_first_ByMonth ?aC_Changed ?pg_Changed ?hd_Changed ?po_Changed ?sa_Changed ?Hu ?kc_Changed ?nf_rule_Changed ?nf_left_Changed ?nf_more_Changed ?nf_moved_Changed ?nf_gained_Changed ?nf_lost_Changed ?aC_Days ?pg_Days ?hd_Days ?po_Days ?sa_Days ?Vv ?kc_Days ?nf_days_Days ?aC_Either ?pg_Either ?hd_Either ?po_Either ?sa_Either ?Tf ?kc_Either ?nf_one_Either ?nf_other_Either ?aC_Every ?pg_Every ?hd_Every ?po_Every ?sa_Every ?Q1 ?kc_Every ?nf_step_Every ?nf_first_Every ?aC_Monthly ?pg_Monthly ?hd_Monthly ?po_Monthly ?sa_Monthly ?Jy ?kc_Monthly ?nf_date_Monthly ?nf_every_Monthly ?nf_origin_Monthly ?nf_stride_Monthly ?nf_first_Monthly ?aC_Nth ?pg_Nth ?hd_Nth ?po_Nth ?sa_Nth ?jt ?kc_Nth ?nf_which_Nth ?nf_weekday_of_Nth ?nf_every_Nth ?nf_origin_Nth ?nf_stride_Nth ?nf_first_Nth ?aC_Rule ?pg_Rule ?hd_Rule ?po_Rule ?sa_Rule ?mk_Rule ?kc_Rule ?oi_Rule ?aC_Shifted ?pg_Shifted ?hd_Shifted ?po_Shifted ?sa_Shifted ?Pu ?kc_Shifted ?nf_rule_Shifted ?nf_many_Shifted ?aC_Weekly ?pg_Weekly ?hd_Weekly ?po_Weekly ?sa_Weekly ?Mt ?kc_Weekly ?nf_mask_Weekly ?nf_first_Weekly ?nf_every_Weekly ?aC_Where ?pg_Where ?hd_Where ?po_Where ?sa_Where ?X8 ?kc_Where ?nf_test_Where ?aC_Within ?pg_Within ?hd_Within ?po_Within ?sa_Within ?Sj ?kc_Within ?nf_rule_Within ?nf_begin_Within ?nf_end_Within ?aC_Yearly ?pg_Yearly ?hd_Yearly ?po_Yearly ?sa_Yearly ?Na ?kc_Yearly ?nf_month_Yearly ?nf_date_Yearly ?nf_every_Yearly ?nf_origin_Yearly ?nf_stride_Yearly ?nf_first_Yearly ?aq2j ?Fq2j ?aq2g ?Fq2g ?aq1k ?Fq1k ?aq2b ?Fq2b ?aq15 ?Fq15 ?aq1j ?Fq1j ?aq14 ?lq14 ?eq14 ?kq14 ?iq14 ?vq14 ?wq14 ?xq14 ?aqy ?iqy ?Fqy ?aqr ?lqr ?eqr ?kqr ?iqr ?vqr ?wqr ?xqr ?aqf ?iqf ?Fqf ?aq16 ?iq16 ?Fq16 ?aq2i ?Fq2i ?aqb ?iqb ?Fqb ?aqp ?iqp ?Fqp ?aqu ?iqu ?Fqu ?aq1a ?iq1a ?Fq1a ?aq1c ?iq1c ?Fq1c ?aq1f ?iq1f ?Fq1f ?aq17 ?iq17 ?Fq17 ?aq1o ?iq1o ?Fq1o ?aqz ?iqz ?Fqz ?aq8 ?iq8 ?Fq8 ?aqn ?iqn ?Fqn ?aqa ?iqa ?Fqa ?aq4 ?iq4 ?Fq4 ?aq0 ?iq0 ?Fq0 ?aqi ?lqi ?eqi ?kqi ?iqi ?vqi ?wqi ?xqi ?aq1e ?Fq1e ?aq25 ?Fq25 ?aq26 ?Fq26 ?aq20 ?Fq20 ?aq28 ?Fq28 ?aq1w ?Fq1w ?aq1s ?Fq1s ?aq1d ?Fq1d ?aq1y ?Fq1y ?aq2f ?Fq2f ?aq1m ?Fq1m ?aqw ?iqw ?Fqw ?aqj ?iqj ?Fqj ?aq2 ?iq2 ?Fq2 ?aq11 ?lq11 ?eq11 ?kq11 ?iq11 ?vq11 ?wq11 ?xq11 ?aqe ?iqe ?Fqe ?aqk ?iqk ?Fqk ?aqm ?iqm ?Fqm ?aq7 ?iq7 ?Fq7 ?aqd ?iqd ?Fqd ?aq1 ?iq1 ?Fq1 ?aq1n ?Fq1n ?aq1u ?Fq1u ?aq1x ?Fq1x ?aq22 ?Fq22 ?aq1i ?Fq1i ?aq1h ?Fq1h ?aq1r ?Fq1r ?aq13 ?lq13 ?eq13 ?kq13 ?iq13 ?vq13 ?wq13 ?xq13 ?aq3 ?iq3 ?Fq3 ?aq1g ?iq1g ?Fq1g ?aqt ?iqt ?Fqt ?aqs ?lqs ?eqs ?kqs ?iqs ?vqs ?wqs ?xqs ?aq6 ?iq6 ?Fq6 ?aq27 ?Fq27 ?aq2d ?Fq2d ?aq2c ?Fq2c ?aqh ?lqh ?eqh ?kqh ?iqh ?vqh ?wqh ?xqh ?aqx ?lqx ?eqx ?kqx ?iqx ?vqx ?wqx ?xqx ?aqc ?iqc ?Fqc ?aql ?lql ?eql ?kql ?iql ?vql ?wql ?xql ?aqo ?iqo ?Fqo ?aq1l ?lq1l ?eq1l ?kq1l ?iq1l ?vq1l ?wq1l ?xq1l ?aq1p ?iq1p ?Fq1p ?aq10 ?iq10 ?Fq10 ?aq12 ?Fq12 ?aq1q ?Fq1q ?aqg ?Fqg ?aq9 ?lq9 ?eq9 ?kq9 ?iq9 ?vq9 ?wq9 ?xq9 ?aq5 ?iq5 ?Fq5 ?aqv ?lqv ?eqv ?kqv ?iqv ?vqv ?wqv ?xqv ?aq1t ?Fq1t ?aq19 ?Fq19 ?aq24 ?lq24 ?eq24 ?kq24 ?aq18 ?iq18 ?Fq18 ?aq2a ?lq2a ?eq2a ?kq2a ?vq2a ?wq2a ?xq2a ?aq1z ?Fq1z ?aq21 ?Fq21 ?aq1v ?Fq1v ?aq23 ?lq23 ?eq23 ?kq23 ?vq23 ?wq23 ?xq23 ?aq2h ?lq2h ?eq2h ?kq2h ?vq2h ?wq2h ?xq2h ?aq2e ?Fq2e ?aqq ?Fqq ?aq29 ?Fq29 ?aq1b ?Fq1b ?aq2k ?lq2k ?eq2k ?kq2k ?j_Days_days_in ?j_Monthly_days_in ?j_Monthly_falls_on ?j_Monthly_next_in ?j_Nth_days_in ?j_Nth_falls_on ?j_Nth_next_in ?j_Weekly_days_in ?j_Where_days_in ?j_Yearly_days_in ?j_Yearly_falls_on ?j_Yearly_next_in ?Nj ?Ld ?o_DAYS_AHEAD' ?p_DAYS_AHEAD ?q_DAYS_AHEAD ?Ff ?Ci ?Ej ?Mz ?X9 ?Fp ?o_MONTH_LENGTHS' ?p_MONTH_LENGTHS ?q_MONTH_LENGTHS ?Lg ?J7 ?cg_ByMonth ?cr_ByMonth ?ca_ByMonth___init ?ch_ByMonth___init ?Aa3 ?Z5 ?qe ?Bp ?P7 ?Tp ?V2 ?Se ?Iu ?xo ?Rf ?Abi ?Ab3 ?Es ?Ac7 ?cvq24 ?lkq24 ?pvq24 ?npq24)
  case aC_Both | aC_But | aC_ByMonth | aC_Changed | aC_Days | aC_Either | aC_Every | aC_Monthly | aC_Nth | aC_Rule | aC_Shifted | aC_Weekly | aC_Where | aC_Within | aC_Yearly | Nj | Ld | Ff | Ci | Ej | Mz | X9 | Fp | Lg | J7 => k_is
  case aq2j | aq2g | aq1k | aq2b | aq15 | aq1j | aq2i | aq1e | aq25 | aq26 | aq20 | aq28 | aq1w | aq1s | aq1d | aq1y | aq2f | aq1m | aq1n | aq1u | aq1x | aq22 | aq1i | aq1h | aq1r | aq27 | aq2d | aq2c | aq12 | aq1q | aqg | aq1t | aq19 | aq1z | aq21 | aq1v | aq2e | aqq | aq29 | aq1b => unfold L2.AtM; k_is
  case aq14 | aqr | aqi | aq11 | aq13 | aqs | aqh | aqx | aql | aq1l | aq9 | aqv | aq24 | aq2a | aq23 | aq2h | aq2k => k_is
  case aqy | aqf | aq16 | aqb | aqp | aqu | aq1a | aq1c | aq1f | aq17 | aq1o | aqz | aq8 | aqn | aqa | aq4 | aq0 | aqw | aqj | aq2 | aqe | aqk | aqm | aq7 | aqd | aq1 | aq3 | aq1g | aqt | aq6 | aqc | aqo | aq1p | aq10 | aq5 | aq18 => unfold L2.AtC; k_is
  case lq14 | lqr | lqi | lq11 | lq13 | lqs | lqh | lqx | lql | lq1l | lq9 | lqv | lq24 | lq2a | lq23 | lq2h | lq2k | o_DAYS_AHEAD' | o_MONTH_LENGTHS' => k_is
  case pg_Both | hd_Both | po_Both | sa_Both | fh | kc_Both | pg_But | hd_But | po_But | sa_But | uo | kc_But | pg_ByMonth | hd_ByMonth | po_ByMonth | sa_ByMonth | U3 | kc_ByMonth | pg_Changed | hd_Changed | po_Changed | sa_Changed | Hu | kc_Changed | pg_Days | hd_Days | po_Days | sa_Days | Vv | kc_Days | pg_Either | hd_Either | po_Either | sa_Either | Tf | kc_Either | pg_Every | hd_Every | po_Every | sa_Every | Q1 | kc_Every | pg_Monthly | hd_Monthly | po_Monthly | sa_Monthly | Jy | kc_Monthly | pg_Nth | hd_Nth | po_Nth | sa_Nth | jt | kc_Nth | pg_Rule | hd_Rule | po_Rule | sa_Rule | mk_Rule | kc_Rule | oi_Rule | pg_Shifted | hd_Shifted | po_Shifted | sa_Shifted | Pu | kc_Shifted | pg_Weekly | hd_Weekly | po_Weekly | sa_Weekly | Mt | kc_Weekly | pg_Where | hd_Where | po_Where | sa_Where | X8 | kc_Where | pg_Within | hd_Within | po_Within | sa_Within | Sj | kc_Within | pg_Yearly | hd_Yearly | po_Yearly | sa_Yearly | Na | kc_Yearly | eq14 | kq14 | iq14 | eqr | kqr | iqr | eqi | kqi | iqi | eq11 | kq11 | iq11 | eq13 | kq13 | iq13 | eqs | kqs | iqs | eqh | kqh | iqh | eqx | kqx | iqx | eql | kql | iql | eq1l | kq1l | iq1l | eq9 | kq9 | iq9 | eqv | kqv | iqv | eq24 | kq24 | eq2a | kq2a | eq23 | kq23 | eq2h | kq2h | eq2k | kq2k | cg_ByMonth | cr_ByMonth | ca_ByMonth___init => k_is
  case nf_one_Both | nf_other_Both | nf_one_But | nf_other_But | nf_origin_ByMonth | nf_stride_ByMonth | nf_first_ByMonth | nf_rule_Changed | nf_left_Changed | nf_more_Changed | nf_moved_Changed | nf_gained_Changed | nf_lost_Changed | nf_days_Days | nf_one_Either | nf_other_Either | nf_step_Every | nf_first_Every | nf_date_Monthly | nf_every_Monthly | nf_origin_Monthly | nf_stride_Monthly | nf_first_Monthly | nf_which_Nth | nf_weekday_of_Nth | nf_every_Nth | nf_origin_Nth | nf_stride_Nth | nf_first_Nth | nf_rule_Shifted | nf_many_Shifted | nf_mask_Weekly | nf_first_Weekly | nf_every_Weekly | nf_test_Where | nf_rule_Within | nf_begin_Within | nf_end_Within | nf_month_Yearly | nf_date_Yearly | nf_every_Yearly | nf_origin_Yearly | nf_stride_Yearly | nf_first_Yearly => unfold L2.NoA; k_is
  case Fq2j | Fq2g | Fq1k | Fq2b | Fq15 | Fq1j | Fqy | Fqf | Fq16 | Fq2i | Fqb | Fqp | Fqu | Fq1a | Fq1c | Fq1f | Fq17 | Fq1o | Fqz | Fq8 | Fqn | Fqa | Fq4 | Fq0 | Fq1e | Fq25 | Fq26 | Fq20 | Fq28 | Fq1w | Fq1s | Fq1d | Fq1y | Fq2f | Fq1m | Fqw | Fqj | Fq2 | Fqe | Fqk | Fqm | Fq7 | Fqd | Fq1 | Fq1n | Fq1u | Fq1x | Fq22 | Fq1i | Fq1h | Fq1r | Fq3 | Fq1g | Fqt | Fq6 | Fq27 | Fq2d | Fq2c | Fqc | Fqo | Fq1p | Fq10 | Fq12 | Fq1q | Fqg | Fq5 | Fq1t | Fq19 | Fq18 | Fq1z | Fq21 | Fq1v | Fq2e | Fqq | Fq29 | Fq1b => refine' L2.Adi ?l ?c ?k; (case l => k_is); (case c => k_is); (case k => k_is)
  case iqy | iqf | iq16 | iqb | iqp | iqu | iq1a | iq1c | iq1f | iq17 | iq1o | iqz | iq8 | iqn | iqa | iq4 | iq0 | iqw | iqj | iq2 | iqe | iqk | iqm | iq7 | iqd | iq1 | iq3 | iq1g | iqt | iq6 | iqc | iqo | iq1p | iq10 | iq5 | iq18 => unfold L2.IsF; k_is
  case j_Days_days_in | j_Monthly_days_in | j_Monthly_falls_on | j_Monthly_next_in | j_Nth_days_in | j_Nth_falls_on | j_Nth_next_in | j_Weekly_days_in | j_Where_days_in | j_Yearly_days_in | j_Yearly_falls_on | j_Yearly_next_in => unfold L2.AtC; k_is
  case ch_ByMonth___init => rfl
  case Aa3 | Z5 | qe | Bp | P7 | Tp | V2 | Se | Iu | xo | Rf | Abi | Ab3 | Es | Ac7 => unfold L2.NoM; k_is
  case vq14 | vqr | vqi | vq11 | vq13 | vqs | vqh | vqx | vql | vq1l | vq9 | vqv | vq2a | vq23 | vq2h | p_DAYS_AHEAD | q_DAYS_AHEAD | p_MONTH_LENGTHS | q_MONTH_LENGTHS | cvq24 => rfl
  case wq14 | wqr | wqi | wq11 | wq13 | wqs | wqh | wqx | wql | wq1l | wq9 | wqv | wq2a | wq23 | wq2h | lkq24 => k_is
  case xq14 | xqr | xqi | xq11 | xq13 | xqs | xqh | xqx | xql | xq1l | xq9 | xqv | xq2a | xq23 | xq2h | pvq24 => rfl
  case npq24 => kernel_rfl
