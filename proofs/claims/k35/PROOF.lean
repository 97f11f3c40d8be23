import PyProof.Rows.All
import Wide.All
import OpenK.AllK
import Wide.FinOn
import Lean
import PyProof.EqAt
import PyProof.EqKinds
import PyProof.TupleCall
import PySem.Challenge.RW_hourhouse_k35_places_by_rules
set_option Elab.async false
set_option linter.all false
set_option maxRecDepth 100000
/-! These names are taken so that the head makes no twins of its heaps, trees and objects: the compiled file would be too big. Nothing refers to them, and they prove nothing. -/
def PySem.W.Fast.tw13404822920157293136 : Unit := ()
def PySem.W.Fast.tw9128318810203153454 : Unit := ()
def PySem.W.Fast.tw12285194902071916038 : Unit := ()
def PySem.W.Fast.tw11183173179651325204 : Unit := ()
def PySem.W.Fast.tw2804560626039245783 : Unit := ()
def PySem.W.Fast.tw9502316701985652194 : Unit := ()
def PySem.W.Fast.tw14689578391516131440 : Unit := ()
def PySem.W.Fast.tw17659952471774488590 : Unit := ()
def PySem.W.Fast.tw6019633462137023913 : Unit := ()
def PySem.W.Fast.tw12600948347628443770 : Unit := ()
def PySem.W.Fast.tw15800760819140617630 : Unit := ()
def PySem.W.Fast.tw17275822362198636543 : Unit := ()
def PySem.W.Fast.tw14845931035563673187 : Unit := ()
def PySem.W.Fast.tw14475991287716619233 : Unit := ()
def PySem.W.Fast.tw4983466267349569627 : Unit := ()
def PySem.W.Fast.tw1563637838413945569 : Unit := ()
def PySem.W.Fast.tw534957276297615473 : Unit := ()
def PySem.W.Fast.tw17408164864319378678 : Unit := ()
def PySem.W.Fast.tw13414283645314139612 : Unit := ()
def PySem.W.Fast.tw10299675630232931088 : Unit := ()
def PySem.W.Fast.tw18389239281012632741 : Unit := ()
def PySem.W.Fast.tw1494707428886687065 : Unit := ()
def PySem.W.Fast.tw14525335751320051073 : Unit := ()
def PySem.W.Fast.tw16482618545991921825 : Unit := ()
def PySem.W.Fast.tw1155464500726550200 : Unit := ()
def PySem.W.Fast.tw11591441628725923298 : Unit := ()
def PySem.W.Fast.tw4579056814577006674 : Unit := ()
def PySem.W.Fast.tw17113964849939050511 : Unit := ()
def PySem.W.Fast.tw12686631354071298580 : Unit := ()
def PySem.W.Fast.tw501381624612429614 : Unit := ()
def PySem.W.Fast.tw4418440980555790180 : Unit := ()
def PySem.W.Fast.tw8923167293315759760 : Unit := ()
def PySem.W.Fast.tw10134853373362197675 : Unit := ()
def PySem.W.Fast.tw15119180990089956593 : Unit := ()
def PySem.W.Fast.tw9838333737357084190 : Unit := ()
def PySem.W.Fast.tw10731773365918811808 : Unit := ()
def PySem.W.Fast.tw5907896138326970122 : Unit := ()
def PySem.W.Fast.tw15457865180967387629 : Unit := ()
def PySem.W.Fast.tw4462387510070227736 : Unit := ()
def PySem.W.Fast.tw2757247370032167910 : Unit := ()
def PySem.W.Fast.tw12908128459564589879 : Unit := ()
def PySem.W.Fast.tw358346472632361091 : Unit := ()
def PySem.W.Fast.tw11816027620719281549 : Unit := ()
def PySem.W.Fast.tw5183378352165553307 : Unit := ()
def PySem.W.Fast.tw12347352093530687978 : Unit := ()
def PySem.W.Fast.tw17856328446347611146 : Unit := ()
def PySem.W.Fast.tw4227089675338156074 : Unit := ()
def PySem.W.Fast.tw8559920244933460542 : Unit := ()
def PySem.W.Fast.tw1581304746701928128 : Unit := ()
def PySem.W.Fast.tw1865575778320915326 : Unit := ()
def PySem.W.Fast.tw17777371579732106768 : Unit := ()
def PySem.W.Fast.tw14793971600916676645 : Unit := ()
def PySem.W.Fast.tw2481164047415597869 : Unit := ()
def PySem.W.Fast.tw457048703570061336 : Unit := ()
def PySem.W.Fast.tw6244877795358608348 : Unit := ()
def PySem.W.Fast.tw10162395333069249217 : Unit := ()
def PySem.W.Fast.tw10699482029417428097 : Unit := ()
def PySem.W.Fast.tw9958351193616754426 : Unit := ()
def PySem.W.Fast.tw9732859386577478718 : Unit := ()
def PySem.W.Fast.tw11936104593234047296 : Unit := ()
def PySem.W.Fast.tw14379926634791557902 : Unit := ()
def PySem.W.Fast.tw7965653240930074374 : Unit := ()
def PySem.W.Fast.tw1725463387312444372 : Unit := ()
def PySem.W.Fast.tw5837695954484982769 : Unit := ()
def PySem.W.Fast.tw10028887644629447879 : Unit := ()
def PySem.W.Fast.tw13472060459115259173 : Unit := ()
def PySem.W.Fast.tw14341435968554608594 : Unit := ()
def PySem.W.Fast.tw5313123574261046367 : Unit := ()
def PySem.W.Fast.tw368231953923226299 : Unit := ()
def PySem.W.Fast.tw1206792272450989941 : Unit := ()
def PySem.W.Fast.tw12954622673957756399 : Unit := ()
def PySem.W.Fast.tw1292967961838053618 : Unit := ()
def PySem.W.Fast.tw13425606188036651684 : Unit := ()
def PySem.W.Fast.tw12145885111090742871 : Unit := ()
def PySem.W.Fast.tw8733683141427930057 : Unit := ()
def PySem.W.Fast.tw17218909712563014948 : Unit := ()
def PySem.W.Fast.tw6047406457006762357 : Unit := ()
def PySem.W.Fast.tw2000999081900056263 : Unit := ()
def PySem.W.Fast.tw2924667606232750086 : Unit := ()
def PySem.W.Fast.tw4384988526172381473 : Unit := ()
def PySem.W.Fast.tw5209157637847632923 : Unit := ()
def PySem.W.Fast.tw10236441158988950537 : Unit := ()
def PySem.W.Fast.tw17237675723005771030 : Unit := ()
def PySem.W.Fast.tw16858973573746968456 : Unit := ()
def PySem.W.Fast.tw10736343597595861241 : Unit := ()
def PySem.W.Fast.tw12140743531632040772 : Unit := ()
def PySem.W.Fast.tw12592168585746413327 : Unit := ()
def PySem.W.Fast.tw6088733474144599266 : Unit := ()
def PySem.W.Fast.tw16945336478182179600 : Unit := ()
def PySem.W.Fast.tw687216931946091556 : Unit := ()
def PySem.W.Fast.tw4924126672313239325 : Unit := ()
def PySem.W.Fast.tw13362027157518641471 : Unit := ()
def PySem.W.Fast.tw10176855481326275344 : Unit := ()
def PySem.W.Fast.tw5187005634381342923 : Unit := ()
def PySem.W.Fast.tw5652049212603219150 : Unit := ()
def PySem.W.Fast.tw14605251073653745456 : Unit := ()
def PySem.W.Fast.tw6355397157298570965 : Unit := ()
def PySem.W.Fast.tw12506597899595800549 : Unit := ()
def PySem.W.Fast.tw1359411287326788103 : Unit := ()
def PySem.W.Fast.tw4106701196229671049 : Unit := ()
def PySem.W.Fast.tw3150843206832353703 : Unit := ()
def PySem.W.Fast.tw3564660756204987847 : Unit := ()
def PySem.W.Fast.tw9527649493212680745 : Unit := ()
def PySem.W.Fast.tw11944034719909359333 : Unit := ()
def PySem.W.Fast.tw16079938762868084038 : Unit := ()
def PySem.W.Fast.tw13728556403663064638 : Unit := ()
def PySem.W.Fast.tw11034613160567558721 : Unit := ()
def PySem.W.Fast.tw16316104451428730531 : Unit := ()
def PySem.W.Fast.tw3464012955508219097 : Unit := ()
def PySem.W.Fast.tw13229366750566948424 : Unit := ()
def PySem.W.Fast.tw10158870320337670723 : Unit := ()
def PySem.W.Fast.tw12667239695795219673 : Unit := ()
def PySem.W.Fast.tw6972500712950133642 : Unit := ()
def PySem.W.Fast.tw14779187519683285850 : Unit := ()
def PySem.W.Fast.tw3675538517877013803 : Unit := ()
def PySem.W.Fast.tw14733812262472750349 : Unit := ()
def PySem.W.Fast.tw10084591569590036039 : Unit := ()
def PySem.W.Fast.tw7245078364683117265 : Unit := ()
def PySem.W.Fast.tw6489598770548161982 : Unit := ()
def PySem.W.Fast.tw8584104169464191427 : Unit := ()
def PySem.W.Fast.tw4229066211063379949 : Unit := ()
def PySem.W.Fast.tw17636173574431701339 : Unit := ()
def PySem.W.Fast.tw14625920388024458379 : Unit := ()
def PySem.W.Fast.tw13536194407232440819 : Unit := ()
def PySem.W.Fast.tw7642947751610570733 : Unit := ()
def PySem.W.Fast.tw16273949272823858244 : Unit := ()
def PySem.W.Fast.tw11294789607538178864 : Unit := ()
def PySem.W.Fast.tw1148428823904088071 : Unit := ()
def PySem.W.Fast.tw5835979656096928625 : Unit := ()
def PySem.W.Fast.tw2619303690648379710 : Unit := ()
def PySem.W.Fast.tw5737091932769738657 : Unit := ()
def PySem.W.Fast.tw11742974023640349481 : Unit := ()
def PySem.W.Fast.tw7136647666003619297 : Unit := ()
def PySem.W.Fast.tw9754827799621141118 : Unit := ()
def PySem.W.Fast.tw6072853120373252901 : Unit := ()
def PySem.W.Fast.tw2848512354196985128 : Unit := ()
def PySem.W.Fast.tw1860282862171104178 : Unit := ()
def PySem.W.Fast.tw7429287334661269011 : Unit := ()
def PySem.W.Fast.tw1940219042860636201 : Unit := ()
def PySem.W.Fast.tw18080634216693302791 : Unit := ()
def PySem.W.Fast.tw2642766486607945426 : Unit := ()
def PySem.W.Fast.tw10490162044563943561 : Unit := ()
def PySem.W.Fast.tw764004209017233778 : Unit := ()
def PySem.W.Fast.tw6529036925165175377 : Unit := ()
def PySem.W.Fast.tw2471431859336644668 : Unit := ()
def PySem.W.Fast.tw4667359000714823260 : Unit := ()
def PySem.W.Fast.tw952082910476887206 : Unit := ()
def PySem.W.Fast.tw17994103066378962990 : Unit := ()
def PySem.W.Fast.tw11118573548017132776 : Unit := ()
def PySem.W.Fast.tw675737107945926714 : Unit := ()
def PySem.W.Fast.tw14686021743747342897 : Unit := ()
def PySem.W.Fast.tw17522008692603257752 : Unit := ()
def PySem.W.Fast.tw13022367567237512642 : Unit := ()
def PySem.W.Fast.tw6663321159216201413 : Unit := ()
def PySem.W.Fast.tw2685978832692165651 : Unit := ()
def PySem.W.Fast.tw9950241924209290943 : Unit := ()
def PySem.W.Fast.tw10956902420081315323 : Unit := ()
def PySem.W.Fast.tw6728643523547427940 : Unit := ()
def PySem.W.Fast.tw14476093076748890494 : Unit := ()
def PySem.W.Fast.tw5110842946338573439 : Unit := ()
def PySem.W.Fast.tw922489910539165621 : Unit := ()
def PySem.W.Fast.tw14901653484141755688 : Unit := ()
def PySem.W.Fast.tw13504541890073775677 : Unit := ()
def PySem.W.Fast.tw17816121038864565516 : Unit := ()
def PySem.W.Fast.tw9645546322254639339 : Unit := ()
def PySem.W.Fast.tw1297827066317209793 : Unit := ()
def PySem.W.Fast.tw13127099684474942030 : Unit := ()
def PySem.W.Fast.tw12565790801901743448 : Unit := ()
def PySem.W.Fast.tw542291826369661723 : Unit := ()
def PySem.W.Fast.tw8216940058531189873 : Unit := ()
def PySem.W.Fast.tw17317028029966701941 : Unit := ()
def PySem.W.Fast.tw5973562203941205063 : Unit := ()
def PySem.W.Fast.tw8926677651373152082 : Unit := ()
def PySem.W.Fast.tw13633466141590384292 : Unit := ()
def PySem.W.Fast.tw1478119309487987853 : Unit := ()
def PySem.W.Fast.tw3335572327596864249 : Unit := ()
def PySem.W.Fast.tw6038691787815459459 : Unit := ()
def PySem.W.Fast.tw16347114436455977736 : Unit := ()
def PySem.W.Fast.tw8775605422136069006 : Unit := ()
def PySem.W.Fast.tw3223867417522208727 : Unit := ()
def PySem.W.Fast.tw4127032611787336138 : Unit := ()
def PySem.W.Fast.tw12156069173564450073 : Unit := ()
def PySem.W.Fast.tw16418181048198260902 : Unit := ()
def PySem.W.Fast.tw9370233385359787993 : Unit := ()
def PySem.W.Fast.tw14730155058471238756 : Unit := ()
def PySem.W.Fast.tw16029543750759056389 : Unit := ()
def PySem.W.Fast.tw4032714649765637253 : Unit := ()
def PySem.W.Fast.tw670803343935304351 : Unit := ()
def PySem.W.Fast.tw11590331120987627994 : Unit := ()
def PySem.W.Fast.tw676072601979966096 : Unit := ()
def PySem.W.Fast.tw293393053017309817 : Unit := ()
def PySem.W.Fast.tw14145732302368015653 : Unit := ()
def PySem.W.Fast.tw877313578179956241 : Unit := ()
def PySem.W.Fast.tw11096613157434567342 : Unit := ()
def PySem.W.Fast.tw3902013655292703420 : Unit := ()
def PySem.W.Fast.tw7496924793655569623 : Unit := ()
def PySem.W.Fast.tw16322165857613923016 : Unit := ()
def PySem.W.Fast.tw6541506104128733876 : Unit := ()
def PySem.W.Fast.tw15047029310703547640 : Unit := ()
def PySem.W.Fast.tw10531607093090807987 : Unit := ()
def PySem.W.Fast.tw16033944524479835275 : Unit := ()
def PySem.W.Fast.tw7119842557419926129 : Unit := ()
def PySem.W.Fast.tw706731371757184786 : Unit := ()
def PySem.W.Fast.tw4104365582955088547 : Unit := ()
def PySem.W.Fast.tw1815686885698515267 : Unit := ()
def PySem.W.Fast.tw7517082645089299781 : Unit := ()
def PySem.W.Fast.tw2914560259542522837 : Unit := ()
def PySem.W.Fast.tw128458908209530595 : Unit := ()
def PySem.W.Fast.tw5172576671955475560 : Unit := ()
def PySem.W.Fast.tw6120028866424562132 : Unit := ()
def PySem.W.Fast.tw14190558370867551090 : Unit := ()
def PySem.W.Fast.tw13486582767398210870 : Unit := ()
def PySem.W.Fast.tw8015032267156134050 : Unit := ()
def PySem.W.Fast.tw12006686130177131058 : Unit := ()
def PySem.W.Fast.tw7361361823985666189 : Unit := ()
def PySem.W.Fast.tw6220978337414006348 : Unit := ()
def PySem.W.Fast.tw17706284131015527383 : Unit := ()
def PySem.W.Fast.tw11586842161144837739 : Unit := ()
def PySem.W.Fast.tw6388386303017500981 : Unit := ()
def PySem.W.Fast.tw5002330675107925790 : Unit := ()
def PySem.W.Fast.tw9071555169060010499 : Unit := ()
def PySem.W.Fast.tw12362192580626412249 : Unit := ()
def PySem.W.Fast.tw10514292124965791868 : Unit := ()
def PySem.W.Fast.tw2603808355193158179 : Unit := ()
def PySem.W.Fast.tw7974320844309217676 : Unit := ()
def PySem.W.Fast.tw16936522363745692797 : Unit := ()
def PySem.W.Fast.tw8458396180969940670 : Unit := ()
def PySem.W.Fast.tw18017344734369310740 : Unit := ()
def PySem.W.Fast.tw17457785228044228900 : Unit := ()
def PySem.W.Fast.tw4234572091123039288 : Unit := ()
def PySem.W.Fast.tw11084489754687379325 : Unit := ()
def PySem.W.Fast.tw5499409972397148482 : Unit := ()
def PySem.W.Fast.tw13279991361316794878 : Unit := ()
def PySem.W.Fast.tw6006359799288210999 : Unit := ()
def PySem.W.Fast.tw18341921132264335429 : Unit := ()
def PySem.W.Fast.tw7731447066412525559 : Unit := ()
def PySem.W.Fast.tw16560156295904625843 : Unit := ()
def PySem.W.Fast.tw12342379176330499395 : Unit := ()
def PySem.W.Fast.tw3606840082258120996 : Unit := ()
def PySem.W.Fast.tw6836061455502077416 : Unit := ()
def PySem.W.Fast.tw7996348116759370257 : Unit := ()
def PySem.W.Fast.tw14304161117094054256 : Unit := ()
def PySem.W.Fast.tw11385420461705201831 : Unit := ()
def PySem.W.Fast.tw11122551701293405732 : Unit := ()
def PySem.W.Fast.tw2494360307184026311 : Unit := ()
def PySem.W.Fast.tw13509047702272956781 : Unit := ()
def PySem.W.Fast.tw1560137882162196951 : Unit := ()
def PySem.W.Fast.tw8220440701144800657 : Unit := ()
def PySem.W.Fast.tw6537961155392322422 : Unit := ()
def PySem.W.Fast.tw6820693759549447413 : Unit := ()
def PySem.W.Fast.tw3667027486801665690 : Unit := ()
def PySem.W.Fast.tw4208518720809338607 : Unit := ()
def PySem.W.Fast.tw377635597266821136 : Unit := ()
def PySem.W.Fast.tw5617170141933408674 : Unit := ()
def PySem.W.Fast.tw1772726419429534146 : Unit := ()
def PySem.W.Fast.tw17550972730722460348 : Unit := ()
def PySem.W.Fast.tw4030431505372082275 : Unit := ()
def PySem.W.Fast.tw12612429311053861977 : Unit := ()
def PySem.W.Fast.tw15700740724533619312 : Unit := ()
def PySem.W.Fast.tw2360951674631860439 : Unit := ()
def PySem.W.Fast.tw15677270417412982136 : Unit := ()
def PySem.W.Fast.tw15715267077201674500 : Unit := ()
def PySem.W.Fast.tw12425410032235278755 : Unit := ()
def PySem.W.Fast.tw14563581481690890870 : Unit := ()
def PySem.W.Fast.tw9573900984529370832 : Unit := ()
def PySem.W.Fast.tw16343404516100924226 : Unit := ()
def PySem.W.Fast.tw1621180052916729659 : Unit := ()
def PySem.W.Fast.tw14652880793178222532 : Unit := ()
def PySem.W.Fast.tw12252409981699541608 : Unit := ()
def PySem.W.Fast.tw12732868826887865208 : Unit := ()
def PySem.W.Fast.tw10960022993077991873 : Unit := ()
def PySem.W.Fast.tw285106520993344105 : Unit := ()
def PySem.W.Fast.tw1567160230925352171 : Unit := ()
def PySem.W.Fast.tw17439404931522238118 : Unit := ()
def PySem.W.Fast.tw12079769109158258218 : Unit := ()
def PySem.W.Fast.tw18183295759727990826 : Unit := ()
def PySem.W.Fast.tw16836089556191796901 : Unit := ()
def PySem.W.Fast.tw1422782121493076840 : Unit := ()
def PySem.W.Fast.tw9083591152385100736 : Unit := ()
def PySem.W.Fast.tw3134972758194738366 : Unit := ()
def PySem.W.Fast.tw8844793468109938220 : Unit := ()
def PySem.W.Fast.tw17993395916439408409 : Unit := ()
def PySem.W.Fast.tw15664418601504871862 : Unit := ()
def PySem.W.Fast.tw10695330872996287543 : Unit := ()
def PySem.W.Fast.tw6596150706894940082 : Unit := ()
def PySem.W.Fast.tw3538376518222666080 : Unit := ()
def PySem.W.Fast.tw10085144805178590243 : Unit := ()
def PySem.W.Fast.tw7397241272157747898 : Unit := ()
def PySem.W.Fast.tw17221211140659278926 : Unit := ()
def PySem.W.Fast.tw2646817915874758243 : Unit := ()
def PySem.W.Fast.tw9542189770277937406 : Unit := ()
def PySem.W.Fast.tw6336543358032777342 : Unit := ()
def PySem.W.Fast.tw12742590704533704760 : Unit := ()
def PySem.W.Fast.tw14467246274249896111 : Unit := ()
def PySem.W.Fast.tw16989034328506513433 : Unit := ()
def PySem.W.Fast.tw9768234326282542340 : Unit := ()
def PySem.W.Fast.tw4228368698753734603 : Unit := ()
def PySem.W.Fast.tw4518284782944643072 : Unit := ()
def PySem.W.Fast.tw18352061061977205412 : Unit := ()
def PySem.W.Fast.tw17580504429040078411 : Unit := ()
def PySem.W.Fast.tw2860786556397294869 : Unit := ()
def PySem.W.Fast.tw14711924478817499900 : Unit := ()
def PySem.W.Fast.tw1269793940862647984 : Unit := ()
def PySem.W.Fast.tw8261427133965584041 : Unit := ()
def PySem.W.Fast.tw16106226839027684849 : Unit := ()
def PySem.W.Fast.tw13511054833234382697 : Unit := ()
def PySem.W.Fast.tw15890817738697739349 : Unit := ()
def PySem.W.Fast.tw6618535721193226408 : Unit := ()
def PySem.W.Fast.tw610537931523904087 : Unit := ()
def PySem.W.Fast.tw14185343529081632034 : Unit := ()
def PySem.W.Fast.tw10872564706910828116 : Unit := ()
def PySem.W.Fast.tw3992456830675234019 : Unit := ()
def PySem.W.Fast.tw17942368002450932206 : Unit := ()
def PySem.W.Fast.tw2596387375905462667 : Unit := ()
def PySem.W.Fast.tw7229805713198419741 : Unit := ()
def PySem.W.Fast.tw11923492222127240029 : Unit := ()
def PySem.W.Fast.tw11647849091178351993 : Unit := ()
def PySem.W.Fast.tw17757007848728178708 : Unit := ()
def PySem.W.Fast.tw2437966229568670351 : Unit := ()
def PySem.W.Fast.tw7314670659458206559 : Unit := ()
def PySem.W.Fast.tw3996116180927231462 : Unit := ()
def PySem.W.Fast.tw9520617247656163088 : Unit := ()
def PySem.W.Fast.tw4107334278478532364 : Unit := ()
def PySem.W.Fast.tw10983527678473469086 : Unit := ()
def PySem.W.Fast.tw10064626284178783871 : Unit := ()
def PySem.W.Fast.tw1925744451158866293 : Unit := ()
def PySem.W.Fast.tw8485266501240981138 : Unit := ()
def PySem.W.Fast.tw3909244672194570630 : Unit := ()
def PySem.W.Fast.tw8385637159034672200 : Unit := ()
def PySem.W.Fast.tw6157566132725236848 : Unit := ()
def PySem.W.Fast.tw18082613241137473624 : Unit := ()
def PySem.W.Fast.tw3865331617852270595 : Unit := ()
def PySem.W.Fast.tw14397697362614452734 : Unit := ()
def PySem.W.Fast.tw3220058580891421847 : Unit := ()
def PySem.W.Fast.tw15347749176911194701 : Unit := ()
def PySem.W.Fast.tw10745419129249062347 : Unit := ()
def PySem.W.Fast.tw1888258954444058133 : Unit := ()
def PySem.W.Fast.tw16528471511431908244 : Unit := ()
def PySem.W.Fast.tw18163486114001389353 : Unit := ()
def PySem.W.Fast.tw11108249032617376671 : Unit := ()
def PySem.W.Fast.tw8415019727748470149 : Unit := ()
def PySem.W.Fast.tw9807966851429447986 : Unit := ()
def PySem.W.Fast.tw9974430662915540216 : Unit := ()
def PySem.W.Fast.tw14673185560608795239 : Unit := ()
def PySem.W.Fast.tw18322046632686827263 : Unit := ()
def PySem.W.Fast.tw8544499477055500886 : Unit := ()
def PySem.W.Fast.tw14752266630128749664 : Unit := ()
def PySem.W.Fast.tw12679451338746329446 : Unit := ()
def PySem.W.Fast.tw14590794366822836029 : Unit := ()
def PySem.W.Fast.tw11343578801816638817 : Unit := ()
def PySem.W.Fast.tw16757852240189866466 : Unit := ()
def PySem.W.Fast.tw363907126958365373 : Unit := ()
def PySem.W.Fast.tw84318765259617147 : Unit := ()
def PySem.W.Fast.tw11532318080904917139 : Unit := ()
def PySem.W.Fast.tw886425155654638944 : Unit := ()
def PySem.W.Fast.tw10082005170366167682 : Unit := ()
def PySem.W.Fast.tw2719395618883675332 : Unit := ()
def PySem.W.Fast.tw7670813432884823552 : Unit := ()
def PySem.W.Fast.tw13455842714075130783 : Unit := ()
def PySem.W.Fast.tw15264157195403318864 : Unit := ()
def PySem.W.Fast.tw18357207548067809872 : Unit := ()
def PySem.W.Fast.tw8512839264809251869 : Unit := ()
def PySem.W.Fast.tw6165414963099179955 : Unit := ()
def PySem.W.Fast.tw16487766683457778515 : Unit := ()
def PySem.W.Fast.tw11261074214943263707 : Unit := ()
def PySem.W.Fast.tw15424939248652258294 : Unit := ()
def PySem.W.Fast.tw11691439458989920357 : Unit := ()
def PySem.W.Fast.tw15022612043156263722 : Unit := ()
def PySem.W.Fast.tw10449294758562998384 : Unit := ()
def PySem.W.Fast.tw4931597284836608666 : Unit := ()
def PySem.W.Fast.tw9566731576148027679 : Unit := ()
def PySem.W.Fast.tw8850633452199024103 : Unit := ()
def PySem.W.Fast.tw1161927718186645813 : Unit := ()
def PySem.W.Fast.tw4299547332398850525 : Unit := ()
def PySem.W.Fast.tw14376587560007691813 : Unit := ()
def PySem.W.Fast.tw3824428923703868705 : Unit := ()
def PySem.W.Fast.tw17668869873952842750 : Unit := ()
/-! THE HAND LAYER, for ints, bools, texts, own classes, LISTS and tuples (index, slices, in, append, pop ..), calls, loops. Paste it whole ahead of your own text; what your proof does not reach may be deleted. -/
namespace L2
open PySem PySem.Spec PyProof.Rows

/-- a key: an int or a str -/
abbrev Key := Sum Int Str
def keyIs : Key → Value → Bool
  | .inl k, v => Value.isInt k v
  | .inr x, v => Value.isStrOf x v
def keyH (w : World) : Key → Int
  | .inl k => hashInt k
  | .inr x => hashStr w x
theorem keyIs_shape : ∀ {k : Key} {v : Value}, keyIs k v = true → (∃ i t, k = Sum.inl i ∧ v = Value.int i t) ∨ (∃ x t, k = Sum.inr x ∧ v = Value.str x t)
  | .inl i, v, h => by
    obtain ⟨t, e⟩ := Value.isInt_shape (k := i) (v := v) h
    exact .inl ⟨i, t, rfl, e⟩
  | .inr x, v, h => by
    obtain ⟨t, e⟩ := Value.isStrOf_shape (x := x) (v := v) h
    exact .inr ⟨x, t, rfl, e⟩
theorem keyIs_int (i : Int) (t : Tok) : keyIs (.inl i) (.int i t) = true := by simp [keyIs, Value.isInt]
theorem keyIs_str (x : Str) (t : Tok) : keyIs (.inr x) (.str x t) = true := by simp [keyIs, Value.isStrOf]
theorem key_ll (a b : Int) : decide ((Sum.inl a : Key) = Sum.inl b) = (a == b) := by
  by_cases e : a = b
  · subst e; simp
  · have h : ¬ (Sum.inl a : Key) = Sum.inl b := fun q => e (Sum.inl.inj q)
    rw [decide_eq_false h]
    exact (beq_eq_false_iff_ne.mpr e).symm
theorem key_rr (a b : Str) : decide ((Sum.inr a : Key) = Sum.inr b) = decide (a = b) := by
  by_cases e : a = b
  · subst e; simp
  · have h : ¬ (Sum.inr a : Key) = Sum.inr b := fun q => e (Sum.inr.inj q)
    rw [decide_eq_false h, decide_eq_false e]
theorem key_lr (a : Int) (b : Str) : decide ((Sum.inl a : Key) = Sum.inr b) = false := decide_eq_false (fun q => nomatch q)
theorem key_rl (a : Str) (b : Int) : decide ((Sum.inr a : Key) = Sum.inl b) = false := decide_eq_false (fun q => nomatch q)

def mixKind (prog : Program) (w : World) : PySem.KeyKind prog w Key where
  is := keyIs
  hash := keyH w
  inj := fun v a b ha hb => by
    rcases keyIs_shape ha with ⟨i, t, rfl, rfl⟩ | ⟨x, t, rfl, rfl⟩
    · rcases keyIs_shape hb with ⟨j, u, rfl, e⟩ | ⟨y, u, rfl, e⟩
      · injection e with e1 _; rw [e1]
      · exact nomatch e
    · rcases keyIs_shape hb with ⟨j, u, rfl, e⟩ | ⟨y, u, rfl, e⟩
      · exact nomatch e
      · injection e with e1 _; rw [e1]
  byValue := fun k v h => by
    rcases keyIs_shape h with ⟨i, t, rfl, rfl⟩ | ⟨x, t, rfl, rfl⟩ <;> rfl
  pyHash := fun hv h => by
    rcases keyIs_shape hv with ⟨i, t, rfl, rfl⟩ | ⟨x, t, rfl, rfl⟩
    · exact wpAny_pyHash_int h
    · exact wpAny_pyHash_str h
  eqBool := fun hu hv h => by
    rcases keyIs_shape hu with ⟨i, t, rfl, rfl⟩ | ⟨x, t, rfl, rfl⟩
    · rcases keyIs_shape hv with ⟨j, u, rfl, rfl⟩ | ⟨y, u, rfl, rfl⟩
      · rw [key_ll] at h; exact wpAny_eqBool_int h
      · rw [key_lr] at h; exact SeqAt.EqAt.int_str i t y u _ _ _ _ h
    · rcases keyIs_shape hv with ⟨j, u, rfl, rfl⟩ | ⟨y, u, rfl, rfl⟩
      · rw [key_rl] at h; exact SeqAt.EqAt.str_int x t j u _ _ _ _ h
      · rw [key_rr] at h; exact wpAny_eqBool_str h
  «strs» := fun k x t v h => by
    rcases keyIs_shape h with ⟨i, u, rfl, e⟩ | ⟨y, u, rfl, e⟩
    · exact nomatch e
    · injection e with e1 _
      subst e1
      cases v <;> rfl

theorem mixKind_int (prog : Program) (w : World) (i : Int) (t : Tok) : (mixKind prog w).is (.inl i) (.int i t) = true := keyIs_int i t
theorem mixKind_str (prog : Program) (w : World) (x : Str) (t : Tok) : (mixKind prog w).is (.inr x) (.str x t) = true := keyIs_str x t
end L2

namespace L2
open PySem PySem.Spec PyProof.Rows

/-- a value, without the heap -/
inductive V where
  | non | bl (b : Bool) | int (i : Int) | str (x : Str) | byt (b : Array UInt8) | flt (b : UInt64) | ref (a : Addr) | ty (n : String)
  deriving DecidableEq

def RelV : V → Value → Prop
  | .non, u => u = Value.none
  | .bl b, u => u = Value.bool b
  | .int i, u => ∃ t, u = Value.int i t
  | .str x, u => ∃ t, u = Value.str x t
  | .byt b, u => ∃ t, u = Value.bytes b t
  | .flt b, u => ∃ t, u = Value.float b t
  | .ref a, u => u = Value.ref a
  | .ty n, u => u = Value.type n

abbrev Vals : List V → List Value → Prop := Paired RelV
theorem Vals.length {xs : List V} {us : List Value} (r : Vals xs us) : xs.length = us.length := Paired.length r
theorem Vals.get : ∀ {xs : List V} {us : List Value} {i : Nat} {x : V}, Vals xs us → xs[i]? = some x → ∃ u, us[i]? = some u ∧ RelV x u
  | _, _, _, _, .nil, e => by simp at e
  | _, _, 0, _, .cons r _, e => by simp at e; subst e; exact ⟨_, rfl, r⟩
  | _, _, i + 1, x, .cons _ t, e => by
    obtain ⟨u, h1, h2⟩ := Vals.get (i := i) (x := x) t (by simpa using e)
    exact ⟨u, by simpa using h1, h2⟩
theorem Vals.set {x : V} {u : Value} (r : RelV x u) : ∀ {xs : List V} {us : List Value} (i : Nat), Vals xs us → Vals (xs.set i x) (us.set i u)
  | _, _, _, .nil => .nil
  | _, _, 0, .cons _ t => .cons r t
  | _, _, i + 1, .cons q t => .cons q (Vals.set r i t)
theorem Vals.append : ∀ {xs ys : List V} {us ws : List Value}, Vals xs us → Vals ys ws → Vals (xs ++ ys) (us ++ ws)
  | _, _, _, _, .nil, s => s
  | _, _, _, _, .cons r t, s => .cons r (Vals.append t s)
theorem Vals.take : ∀ {xs : List V} {us : List Value} (n : Nat), Vals xs us → Vals (xs.take n) (us.take n)
  | _, _, 0, _ => .nil
  | _, _, _ + 1, .nil => .nil
  | _, _, n + 1, .cons r t => .cons r (Vals.take n t)
theorem Vals.drop : ∀ {xs : List V} {us : List Value} (n : Nat), Vals xs us → Vals (xs.drop n) (us.drop n)
  | _, _, 0, r => r
  | _, _, _ + 1, .nil => .nil
  | _, _, n + 1, .cons _ t => Vals.drop n t
theorem Vals.none_of : ∀ {xs : List V} {us : List Value} {i : Nat}, Vals xs us → xs[i]? = none → us[i]? = none := fun {xs us i} r e => by
  have h1 := r.length
  have h2 : xs.length ≤ i := List.getElem?_eq_none_iff.mp e
  exact List.getElem?_eq_none_iff.mpr (by omega)

def RelO : Option V → Option Value → Prop
  | some v, some u => RelV v u
  | none, none => True
  | _, _ => False
def KV {κ : Type} : List (κ × V) → List (κ × Value) → Prop := Paired fun (p : κ × V) (q : κ × Value) => p.1 = q.1 ∧ RelV p.2 q.2

/-- a key of a dict (00_mix): an int or a text -/
def kV : Key → V
  | .inl i => .int i
  | .inr x => .str x

/-- what stands at a tracked address -/
inductive HO where
  /-- a list -/
  | lst (xs : List V)
  /-- a tuple (never changes) -/
  | tup (xs : List V)
  /-- a dict whose keys are ints and texts; one whose keys are tuples of ints and texts (the empty one is both) -/
  | dK (kvs : List (Key × V)) | dT (kvs : List (List Key × V))
  /-- a set of ints: its members, its size -/
  | set (S : Int → Bool) (n : Nat)
  /-- an instance of the class at C, its dict at dx, its attributes -/
  | ins (C dx : Addr) (fs : List (Str × V))
  /-- the dict of the instance at x -/
  | own (x : Addr)
  /-- the dict of an exception -/
  | xd (fs : List (Str × V))
  /-- a bound method, f of x -/
  | met (f x : Addr)
  /-- a range object lo, lo + 1, .. below hi -/
  | rng (lo hi : Int)
  /-- a thing that is known to the object (the script; a dict while a loop walks it): read, never written while it is so -/
  | frz (o : Obj) (u : HO)
  /-- a code object's table -/
  | tbl (ps : Array Value)
  /-- any other thing, by what is true of its one object (a def of one's own: SetO a S n := HO.ext fun h => ..) -/
  | ext (φ : Heap → Prop)

abbrev Hp := Addr → Option HO
def upd (H : Hp) (a : Addr) (o : HO) : Hp := fun b => if b = a then some o else H b
theorem upd_same {H : Hp} {a : Addr} {o : HO} : upd H a o a = some o := by unfold upd; rw [if_pos rfl]
theorem upd_ne {H : Hp} {a b : Addr} {o : HO} (h : b ≠ a) : upd H a o b = H b := by unfold upd; rw [if_neg h]
/-- two objects of different content stand apart -/
theorem ne_of {H : Hp} {a b : Addr} {o u : HO} (h : H a = some o) (h' : H b = some u) (d : o ≠ u) : a ≠ b := by
  intro e; subst e; rw [h] at h'; exact d (Option.some.inj h')
theorem ne_of_none {H : Hp} {a b : Addr} {o : HO} (h : H a = some o) (h' : H b = none) : a ≠ b := by
  intro e; subst e; rw [h] at h'; cases h'

section
variable (P : Program) (w : World)
def ObjOk (H : Hp) (h : Heap) (a : Addr) : HO → Prop
  | .lst xs => xs.length ≤ sizeLine ∧ ∃ (its : List Value) (n : Nat), Vals xs its ∧ h.get? a = some { cls := .type "list", data := .seq its.toArray n }
  | .tup xs => xs.length ≤ sizeLine ∧ ∃ its : List Value, Vals xs its ∧ IsTup h a its.toArray
  | .dK kvs => kvs.length ≤ sizeLine ∧ (a == sysModules) = false ∧ ∃ vs, KV kvs vs ∧ h.DictOf (mixKind P w) a vs
  | .dT kvs => kvs.length ≤ sizeLine ∧ (a == sysModules) = false ∧ ∃ xs : List (List Key × Addr × Value),
      Paired (fun (p : List Key × V) (q : List Key × Addr × Value) => p.1 = q.1 ∧ H q.2.1 = some (.tup (p.1.map kV)) ∧ RelV p.2 q.2.2) kvs xs ∧
      ∃ o es ep, h.get? a = some o ∧ o.ExactDict ∧ o.data = .dict es ep ∧ es.toList = xs.map (entryOfKey (tupleKind (mixKind P w))) ∧ (xs.map (·.1)).Nodup
  | .set S n => h.SetOf (intKind P w) a S n
  | .ins C dx fs => H dx = some (.own a) ∧ fs.length ≤ 1000 ∧ dx ≠ a ∧ h.get? a = some (PySem.W.instObj C dx) ∧
      ∃ mA, h.Ns1 dx mA ∧ (∀ f, RelO (fs.lookup f) (mA f)) ∧ PySem.Within mA (fs.map (·.1))
  | .own _ => ∃ o, h.get? a = some o
  | .xd fs => ∃ mA, h.Ns1 a mA ∧ ∀ f, RelO (fs.lookup f) (mA f)
  | .rng lo hi => ∃ t u v, h.get? a = some { cls := .type "range", data := .fields #[.int lo t, .int hi u, .int 1 v] }
  | .frz o u => h.get? a = some o ∧ ObjOk H h a u
  | .tbl ps => h.get? a = some { cls := .none, data := .fields ps }
  | .met f x => h.get? a = some (PySem.W.methodObj (.ref f) (.ref x))
  | .ext φ => φ h ∧ (∃ o, h.get? a = some o) ∧ ∀ h1 h2 : Heap, φ h1 → (∀ o, h1.get? a = some o → h2.get? a = some o) → φ h2
/-- the abstract heap is held -/
def HOk (H : Hp) (h : Heap) : Prop := ∀ a o, H a = some o → ObjOk P w H h a o
end

section
variable {P : Program} {w : World} {H H' : Hp} {h h' : Heap} {a : Addr} {o : HO}
theorem ObjOk.lt (x : ObjOk P w H h a o) : a < h.objs.size := by
  cases o with
  | lst xs => obtain ⟨_, _, _, _, e⟩ := x; exact Heap.lt_size e
  | tup xs => obtain ⟨_, _, _, p⟩ := x; exact p.lt
  | dK kvs => obtain ⟨_, _, _, _, o, _, _, e, _⟩ := x; exact Heap.lt_size e
  | dT kvs => obtain ⟨_, _, _, _, o, _, _, e, _⟩ := x; exact Heap.lt_size e
  | set S n => obtain ⟨o, _, _, _, e, _⟩ := x; exact Heap.lt_size e
  | ins C dx fs => obtain ⟨_, _, _, e, _⟩ := x; exact Heap.lt_size e
  | own y => obtain ⟨_, e⟩ := x; exact Heap.lt_size e
  | xd fs => obtain ⟨_, ⟨_, _, _, e, _⟩, _⟩ := x; exact Heap.lt_size e
  | rng lo hi => obtain ⟨_, _, _, e⟩ := x; exact Heap.lt_size e
  | frz ob u => obtain ⟨e, _⟩ := x; exact Heap.lt_size e
  | tbl ps => exact Heap.lt_size (show h.get? a = some _ from x)
  | met f y => exact Heap.lt_size (show h.get? a = some _ from x)
  | ext φ => obtain ⟨_, ⟨_, e⟩, _⟩ := x; exact Heap.lt_size e
theorem Paired.mapP {α β : Type} {F G : α → β → Prop} : ∀ {l₁ : List α} {l₂ : List β}, Paired F l₁ l₂ → (∀ a b, F a b → G a b) → Paired G l₁ l₂
  | _, _, .nil, _ => .nil
  | _, _, .cons r t, f => .cons (f _ _ r) (Paired.mapP t f)
/-- what an object's description leans on: its own object, its own dict, the tuples -/
theorem ObjOk.stay (x : ObjOk P w H h a o) (k : ∀ b u, (b = a ∨ H b = some (.own a)) → h.get? b = some u → h'.get? b = some u)
    (ho : ∀ b, H b = some (.own a) → H' b = some (.own a)) (ht : ∀ b xs, H b = some (.tup xs) → H' b = some (.tup xs)) : ObjOk P w H' h' a o := by
  induction o with
  | lst xs => obtain ⟨z, its, n, r, e⟩ := x; exact ⟨z, its, n, r, k _ _ (.inl rfl) e⟩
  | tup xs => obtain ⟨z, its, r, ob, e, c⟩ := x; exact ⟨z, its, r, ob, k _ _ (.inl rfl) e, c⟩
  | dK kvs => obtain ⟨z, y, vs, r, ob, es, ep, e, c⟩ := x; exact ⟨z, y, vs, r, ob, es, ep, k _ _ (.inl rfl) e, c⟩
  | dT kvs =>
    obtain ⟨z, y, xs, r, ob, es, ep, e, c⟩ := x
    exact ⟨z, y, xs, Paired.mapP r fun p q z => ⟨z.1, ht _ _ z.2.1, z.2.2⟩, ob, es, ep, k _ _ (.inl rfl) e, c⟩
  | set S n => obtain ⟨ob, es, ep, t, e, c⟩ := x; exact ⟨ob, es, ep, t, k _ _ (.inl rfl) e, c⟩
  | ins C dx fs =>
    obtain ⟨d, z, ne, e, mA, ⟨od, es, ep, e2, c⟩, r⟩ := x
    exact ⟨ho _ d, z, ne, k _ _ (.inl rfl) e, mA, ⟨od, es, ep, k _ _ (.inr d) e2, c⟩, r⟩
  | own y => obtain ⟨ob, e⟩ := x; exact ⟨ob, k _ _ (.inl rfl) e⟩
  | xd fs => obtain ⟨mA, ⟨od, es, ep, e, c⟩, r⟩ := x; exact ⟨mA, ⟨od, es, ep, k _ _ (.inl rfl) e, c⟩, r⟩
  | rng lo hi => obtain ⟨t, u, v, e⟩ := x; exact ⟨t, u, v, k _ _ (.inl rfl) e⟩
  | frz ob u ih => obtain ⟨e, q⟩ := x; exact ⟨k _ _ (.inl rfl) e, ih q⟩
  | tbl ps =>
    have e : h.get? a = some { cls := .none, data := .fields ps } := x
    show h'.get? a = some { cls := .none, data := .fields ps }
    exact k a _ (.inl rfl) e
  | met f y =>
    have e : h.get? a = some (PySem.W.methodObj (.ref f) (.ref y)) := x
    show h'.get? a = some (PySem.W.methodObj (.ref f) (.ref y))
    exact k a _ (.inl rfl) e
  | ext φ => obtain ⟨p, ⟨o, e⟩, st⟩ := x; exact ⟨st _ _ p fun o q => k _ _ (.inl rfl) q, ⟨o, k _ _ (.inl rfl) e⟩, st⟩
theorem HOk.lt (x : HOk P w H h) (e : H a = some o) : a < h.objs.size := (x a o e).lt
theorem HOk.fresh (x : HOk P w H h) (e : h.objs.size ≤ a) : H a = none := by
  cases q : H a with
  | none => rfl
  | some u => exact absurd (Nat.lt_of_lt_of_le (x.lt q) e) (Nat.lt_irrefl _)
/-- every object of the heap is kept -/
theorem HOk.kept (x : HOk P w H h) (k : ∀ b u, h.get? b = some u → h'.get? b = some u) : HOk P w H h' := fun a o e =>
  (x a o e).stay (fun b u _ q => k b u q) (fun _ q => q) fun _ _ q => q
/-- a new object is laid and tracked -/
theorem HOk.laid (x : HOk P w H h) (k : ∀ b u, h.get? b = some u → h'.get? b = some u) (hp : h.objs.size ≤ a) (new : ObjOk P w (upd H a o) h' a o) : HOk P w (upd H a o) h' := fun b u e => by
  have hn := x.fresh hp
  by_cases hb : b = a
  · subst hb; rw [upd_same] at e; cases e; exact new
  · rw [upd_ne hb] at e
    exact (x b u e).stay (fun c v _ q => k c v q) (fun c q => by rw [upd_ne (ne_of_none q hn)]; exact q) fun c xs q => by rw [upd_ne (ne_of_none q hn)]; exact q
end

/-- what may be read as u: it is u, or a known u -/
def Rd (H : Hp) (a : Addr) (u : HO) : Prop := H a = some u ∨ ∃ o, H a = some (.frz o u)
theorem Rd.of {H : Hp} {a : Addr} {u : HO} (h : H a = some u) : Rd H a u := .inl h
theorem Rd.ok {P : Program} {w : World} {H : Hp} {h : Heap} {a : Addr} {u : HO} (r : Rd H a u) (x : HOk P w H h) : ObjOk P w H h a u := by
  rcases r with r | ⟨o, r⟩
  · exact x a u r
  · obtain ⟨_, q⟩ := x a _ r
    exact q
/-- what may be written -/
def Mut : Option HO → Prop
  | some (.lst _) => True
  | some (.dK _) => True
  | some (.dT _) => True
  | some (.set _ _) => True
  | some (.ins _ _ _) => True
  | some (.ext _) => True
  | _ => False
section
variable {P : Program} {w : World} {H : Hp} {h h' : Heap} {x e : Addr} {o' : HO}
/-- the object at e is changed: x itself, or the dict of the instance x -/
theorem HOk.write (ok : HOk P w H h) (mu : Mut (H x)) (he : e = x ∨ H e = some (.own x)) (k : ∀ b u, b ≠ e → h.get? b = some u → h'.get? b = some u) (heo : ∃ u, h'.get? e = some u)
    (new : ObjOk P w (upd H x o') h' x o') : HOk P w (upd H x o') h' := fun b u q => by
  have nown : ∀ c y, H c = some (.own y) → c ≠ x := fun c y r z => by subst z; rw [r] at mu; exact mu
  have ntup : ∀ c xs, H c = some (.tup xs) → c ≠ x := fun c xs r z => by subst z; rw [r] at mu; exact mu
  by_cases hb : b = x
  · subst hb; rw [upd_same] at q; cases q; exact new
  · rw [upd_ne hb] at q
    by_cases hbe : b = e
    · have q' : H b = some (.own x) := by
        rcases he with z | z
        · exact absurd (hbe.trans z) hb
        · rw [hbe]; exact z
      rw [q] at q'; cases q'
      obtain ⟨v, hv⟩ := heo
      exact ⟨v, by rw [hbe]; exact hv⟩
    · refine (ok b u q).stay (fun c v hc r => k c v ?_ r) (fun c r => by rw [upd_ne (nown c b r)]; exact r) fun c xs r => by rw [upd_ne (ntup c xs r)]; exact r
      rcases hc with rfl | hc
      · exact hbe
      · rintro rfl
        rcases he with z | z
        · exact nown c b hc z
        · rw [hc] at z; cases z; exact hb rfl
end

/-! ### kept unless tracked; of the frames at fs (the callers') the slots may change (an exception that passes writes there); of the records at ex (iterators) nothing is said -/
structure Un (fs ex : List Addr) (H H' : Hp) (h h' : Heap) : Prop where
  keep : ∀ b o, h.get? b = some o → H b = none → b ∉ fs → b ∉ ex → h'.get? b = some o
  slot : ∀ b o, h.get? b = some o → H b = none → b ∈ fs → b ∉ ex → ∃ sl, h'.get? b = some { o with slots := sl }
  free : ∀ b o, h.get? b = some o → H b = none → b ∉ ex → H' b = none
  there : ∀ b o, h.get? b = some o → b ∉ ex → ∃ o', h'.get? b = some o'
  tups : ∀ b xs, H b = some (.tup xs) → H' b = some (.tup xs)
  frzs : ∀ b o u, H b = some (.frz o u) → H' b = some (.frz o u)
  tbls : ∀ b ps, H b = some (.tbl ps) → ∃ more, H' b = some (.tbl (ps ++ more))
section
variable {fs fs' ex ex' : List Addr} {H H1 H2 : Hp} {h h1 h2 h' : Heap} {a x e : Addr} {o : HO}
theorem Un.any (u : Un fs ex H H1 h h1) {b : Addr} {ob : Obj} (q : h.get? b = some ob) (n : H b = none) (hx : b ∉ ex) : ∃ sl, h1.get? b = some { ob with slots := sl } := by
  by_cases hb : b ∈ fs
  · exact u.slot b ob q n hb hx
  · exact ⟨ob.slots, u.keep b ob q n hb hx⟩
theorem Un.trans (a : Un fs ex H H1 h h1) (b : Un fs ex H1 H2 h1 h2) : Un fs ex H H2 h h2 where
  keep := fun c ob q n hc hx => b.keep c ob (a.keep c ob q n hc hx) (a.free c ob q n hx) hc hx
  slot := fun c ob q n hc hx => by
    obtain ⟨sl, e1⟩ := a.slot c ob q n hc hx
    obtain ⟨sl', e2⟩ := b.slot c _ e1 (a.free c ob q n hx) hc hx
    exact ⟨sl', e2⟩
  free := fun c ob q n hx => by
    obtain ⟨o', e1⟩ := a.there c ob q hx
    exact b.free c o' e1 (a.free c ob q n hx) hx
  there := fun c ob q hx => by
    obtain ⟨o', e1⟩ := a.there c ob q hx
    exact b.there c o' e1 hx
  tups := fun c xs q => b.tups c xs (a.tups c xs q)
  frzs := fun c ob xs q => b.frzs c ob xs (a.frzs c ob xs q)
  tbls := fun c ps q => by
    obtain ⟨m1, e1⟩ := a.tbls c ps q
    obtain ⟨m2, e2⟩ := b.tbls c _ e1
    exact ⟨m1 ++ m2, by rw [e2, Array.append_assoc]⟩
theorem Un.kept (k : ∀ b u, h.get? b = some u → h'.get? b = some u) : Un fs ex H H h h' :=
  ⟨fun b ob q _ _ _ => k b ob q, fun b ob q _ _ _ => ⟨ob.slots, k b ob q⟩, fun _ _ _ n _ => n, fun b ob q _ => ⟨ob, k b ob q⟩, fun _ _ q => q, fun _ _ _ q => q, fun _ ps q => ⟨#[], by rw [q]; simp⟩⟩
theorem Un.refl : Un fs ex H H h h := Un.kept fun _ _ q => q
theorem Un.laid (k : ∀ b u, h.get? b = some u → h'.get? b = some u) (hp : h.objs.size ≤ a) (hn : H a = none) : Un fs ex H (upd H a o) h h' where
  keep := fun b u q _ _ _ => k b u q
  slot := fun b u q _ _ _ => ⟨u.slots, k b u q⟩
  free := fun b u q n _ => by rw [upd_ne (Nat.ne_of_lt (Nat.lt_of_lt_of_le (Heap.lt_size q) hp))]; exact n
  there := fun b u q _ => ⟨u, k b u q⟩
  tups := fun b xs q => by rw [upd_ne (ne_of_none q hn)]; exact q
  frzs := fun b u xs q => by rw [upd_ne (ne_of_none q hn)]; exact q
  tbls := fun b ps q => ⟨#[], by rw [upd_ne (ne_of_none q hn), q]; simp⟩
theorem Un.write (mu : Mut (H x)) (he : e = x ∨ H e = some (.own x)) (k : ∀ b u, b ≠ e → h.get? b = some u → h'.get? b = some u) (heo : ∃ u, h'.get? e = some u) : Un fs ex H (upd H x o) h h' := by
  have hx : ∀ b, H b = none → b ≠ x := fun b n z => by subst z; rw [n] at mu; exact mu
  have hb : ∀ b, H b = none → b ≠ e := fun b n z => by
    subst z
    rcases he with r | r
    · exact hx b n r
    · rw [n] at r; cases r
  have hm : ∀ b u, H b = some u → ¬ Mut (some u) → b ≠ x := fun b u q nm z => by subst z; rw [q] at mu; exact nm mu
  refine ⟨fun b u q n _ _ => k b u (hb b n) q, fun b u q n _ _ => ⟨u.slots, k b u (hb b n) q⟩, fun b u q n _ => by rw [upd_ne (hx b n)]; exact n, fun b u q _ => ?_,
    fun b xs q => by rw [upd_ne (hm b _ q fun z => z)]; exact q, fun b u xs q => by rw [upd_ne (hm b _ q fun z => z)]; exact q, fun b ps q => ⟨#[], by rw [upd_ne (hm b _ q fun z => z), q]; simp⟩⟩
  by_cases hbe : b = e
  · subst hbe; exact heo
  · exact ⟨u, k b u hbe q⟩
theorem Un.mono (u : Un fs ex H H1 h h1) (hs : ∀ b ∈ fs, b ∈ fs') (hx : ∀ b ∈ ex, b ∈ ex') : Un fs' ex' H H1 h h1 :=
  ⟨fun b ob q n hb he => u.keep b ob q n (fun z => hb (hs b z)) fun z => he (hx b z), fun _ _ q n _ he => u.any q n fun z => he (hx _ z), fun b ob q n he => u.free b ob q n fun z => he (hx b z), fun b ob q he => u.there b ob q fun z => he (hx b z), u.tups, u.frzs, u.tbls⟩
end

/-! ### the heap without what is tracked -/
def trk (h : Heap) (H : Hp) : List Addr := (List.range h.objs.size).filter fun a => (H a).isSome
def hidT (h : Heap) (H : Hp) : Heap := PySem.W.hideAll h (trk h H)
theorem hidT_size (h : Heap) (H : Hp) : (hidT h H).objs.size = h.objs.size := PySem.W.hideAll_size _ _
theorem hidT_get {h : Heap} {H : Hp} {b : Addr} {o : Obj} (e : h.get? b = some o) (n : H b = none) : (hidT h H).get? b = some o :=
  PySem.W.hideAll_get _ e fun hm => by
    have q : (H b).isSome = true := (List.mem_filter.mp hm).2
    rw [n] at q; simp at q
theorem of_hidT {h : Heap} {H : Hp} {b : Addr} {o : Obj} (e : (hidT h H).get? b = some o) : h.get? b = some o ∧ H b = none := by
  have e' : h.get? b = some o := PySem.W.of_hideAll (trk h H) e
  refine ⟨e', ?_⟩
  cases q : H b with
  | none => rfl
  | some x =>
    have hm : b ∈ trk h H := List.mem_filter.mpr ⟨List.mem_range.mpr (Heap.lt_size e'), by simp [q]⟩
    have z : (hidT h H).get? b = none := PySem.W.hideAll_none (trk h H) hm
    rw [z] at e; cases e

/-! ### OpenK's ledger, filled with every new object but one -/
def allNews (g h : Heap) (L : Addr) : List (Addr × Obj) := (List.range h.objs.size).filterMap fun a => if a = L ∨ (g.get? a).isSome = true then none else (h.get? a).map fun o => (a, o)
def rest (g h : Heap) (L d : Addr) : List (Addr × Obj) := (allNews g h L).filter fun p => decide (p.1 ≠ d)
end L2

namespace L2
open PySem PySem.Spec PyProof.Rows

/-- the module's facts, over the base: the heap at the law's entry without what is tracked there -/
structure Mod (K : PySem.W.Frag) (mg : Str → Option Value) (base : Heap) : Prop where
  kin : K.In base
  glob : base.Ns mainGlobals mg
  blt : ∃ mb, base.Ns builtinsNs mb ∧ ∀ x : Str, x ≠ "__name__" → mb x = bootBuiltins x
  nolimit : base.NoLimit

/-- the context: a def's body (or a comprehension's block) running. base: fixed through the whole law; s₀, H₀: the entry; outer: the frames whose slots others may change (a def's callers); stack: all frames that run;
   ex: iterators that were made ahead of the entry and are walked here (a comprehension's); fn: the names whose cells were made at the entry (a def: all; a comprehension's block: its own); calm: not within an except suite; pn: pins that every state bears; xe: what is wanted of an exception that leaves the code -/
structure Cx where
  prog : Program
  w : World
  K : PySem.W.Frag
  mg : Str → Option Value
  base : Heap
  A : Around
  N : List Str
  s₀ : Shared
  H₀ : Hp
  env : Env
  outer : List Env
  stack : List Env
  ex : List Addr
  fn : Str → Bool
  calm : Bool
  pn : List (Addr × Obj)
  xe : Value → Shared → Prop
/-- the callers' frames -/
def frs (l : List Env) : List Addr := l.filterMap (·.frame)
abbrev Cx.fs (X : Cx) : List Addr := frs X.outer

def Vis (sc : Scope) (x : Str) : Prop := sc.names.lookup x = some .local ∨ sc.names.lookup x = some .cell ∨ sc.names.lookup x = some .free
def Loc (sc : Scope) (x : Str) : Prop := sc.names.lookup x = some .local ∨ sc.names.lookup x = some .cell
def Look (env : Env) (h : Heap) (m : Str → Option Value) (x : Str) (u : Value) : Prop :=
  (env.kindOf x = some .local ∧ m x = some u) ∨ ((env.kindOf x = some .cell ∨ env.kindOf x = some .free) ∧ ∃ c, env.cells.lookup x = some c ∧ h.IsCell c (some u))

structure Cx.Ok (X : Cx) : Prop where
  mod : Mod X.K X.mg X.base
  kind : X.env.scope.kind = .function
  glob : X.env.globals = mainGlobals
  blt : X.env.builtins = builtinsNs
  above : X.s₀.heap.objs.size ≤ X.env.locals
  inj : ∀ x y c, X.env.cells.lookup x = some c → X.env.cells.lookup y = some c → x = y
  has : ∀ x, (X.env.kindOf x = some .cell ∨ X.env.kindOf x = some .free) → ∃ c, X.env.cells.lookup x = some c
  cab : ∀ x c, X.fn x = true → X.env.cells.lookup x = some c → X.s₀.heap.objs.size ≤ c
  hd : X.calm = true → X.A.handled = none
  frames : X.A.frames = some X.stack
  stk : X.stack = X.outer ∨ (X.stack = X.env :: X.outer ∧ X.env.frame = some X.env.locals)
  exf : ∀ b ∈ X.ex, b ≠ X.env.locals ∧ ∀ x c, X.env.cells.lookup x = some c → c ≠ b
  bs : ∀ b o, X.base.get? b = some o → X.s₀.heap.get? b = some o ∧ X.H₀ b = none
  bsz : X.base.objs.size ≤ X.s₀.heap.objs.size
  noex : ∀ b o, X.base.get? b = some o → b ∉ X.ex
  exfs : ∀ b ∈ X.ex, b ∉ X.fs
  funs : X.s₀.heap.FunFrames X.base X.outer
  frf : ∀ b ∈ X.fs, X.H₀ b = none

structure Inv (X : Cx) (pins : List (Addr × Obj)) (σ : List (Option V)) (H : Hp) (s : Shared) : Prop where
  ok : X.Ok
  os : s.os = X.s₀.os
  bare : AllBare s.gens
  base : Un X.fs X.ex X.H₀ H X.s₀.heap s.heap
  loc : ∃ m, s.heap.Ns X.env.locals m ∧ ∀ (i : Nat) (x : Str) (v : V), X.N[i]? = some x → σ[i]? = some (some v) → Vis X.env.scope x → ∃ u, RelV v u ∧ Look X.env s.heap m x u
  cell : ∀ x c, X.env.cells.lookup x = some c → ∃ v, s.heap.IsCell c v
  free : H X.env.locals = none
  freeC : ∀ x c, X.env.cells.lookup x = some c → H c = none
  pin : ∀ p ∈ X.pn ++ pins, s.heap.get? p.1 = some p.2 ∧ H p.1 = none ∧ p.1 ≠ X.env.locals ∧ p.1 ∉ X.fs ∧ ∀ v, p.2.data ≠ .cell v
  hok : HOk X.prog X.w H s.heap
  len : σ.length = X.N.length

section
variable {X : Cx} {pins : List (Addr × Obj)} {σ : List (Option V)} {H H' : Hp} {s : Shared} {h' : Heap}

theorem Cx.Ok.nofr (ok : X.Ok) {b : Addr} {o : Obj} (e : X.base.get? b = some o) : b ∉ X.fs := fun hb => by
  have := (ok.funs.mem hb).1
  rw [e] at this; cases this
theorem Inv.bs (I : Inv X pins σ H s) : ∀ b o, X.base.get? b = some o → s.heap.get? b = some o ∧ H b = none := fun b o e =>
  ⟨I.base.keep b o (I.ok.bs b o e).1 (I.ok.bs b o e).2 (I.ok.nofr e) (I.ok.noex b o e), I.base.free b o (I.ok.bs b o e).1 (I.ok.bs b o e).2 (I.ok.noex b o e)⟩
theorem Inv.bk (I : Inv X pins σ H s) : ∀ b o, X.base.get? b = some o → s.heap.get? b = some o := fun b o e => (I.bs b o e).1
theorem Inv.mod (I : Inv X pins σ H s) : Mod X.K X.mg X.base := I.ok.mod
theorem Inv.kIn (I : Inv X pins σ H s) : X.K.In s.heap := I.ok.mod.kin.keeps I.bk
theorem Inv.nolimit (I : Inv X pins σ H s) : s.heap.NoLimit := I.ok.mod.nolimit.keeps I.bk
/-- the frame over the base: for OpenK's rules (K.In X.base is I.mod.kin) -/
theorem Inv.fr (I : Inv X pins σ H s) : ∃ m, Fr X.base X.env.locals s.heap m :=
  let ⟨m, hn, _⟩ := I.loc
  ⟨m, hn, I.bk, Nat.le_trans I.ok.bsz I.ok.above⟩
theorem Inv.lt (I : Inv X pins σ H s) : X.env.locals < s.heap.objs.size := let ⟨_, hn, _⟩ := I.loc; hn.lt
theorem Inv.sz (I : Inv X pins σ H s) : X.s₀.heap.objs.size ≤ s.heap.objs.size := Nat.le_trans I.ok.above (Nat.le_of_lt I.lt)
theorem Inv.nofs (I : Inv X pins σ H s) {a : Addr} (h : s.heap.objs.size ≤ a) : a ∉ X.fs := fun hb => by
  obtain ⟨_, o, ho, _⟩ := I.ok.funs.mem hb
  exact absurd (Nat.lt_of_lt_of_le (Heap.lt_size ho) (Nat.le_trans I.sz h)) (Nat.lt_irrefl _)
theorem Inv.cne (I : Inv X pins σ H s) : ∀ x c, X.env.cells.lookup x = some c → c ≠ X.env.locals := fun x c e z => by
  obtain ⟨v, o, ho, hd⟩ := I.cell x c e
  obtain ⟨m, ⟨o', es, ep, ho', hd', _⟩, _⟩ := I.loc
  rw [z, ho'] at ho; cases ho; rw [hd'] at hd; cases hd
theorem Inv.funs (I : Inv X pins σ H s) : s.heap.FunFrames X.base X.outer := by
  have all : ∀ (l : List Env), (∀ b ∈ frs l, b ∈ X.fs) → X.s₀.heap.FunFrames X.base l → s.heap.FunFrames X.base l := by
    intro l
    induction l with
    | nil => intro _ _; trivial
    | cons env r ih =>
      intro hs hl
      obtain ⟨hk, ⟨L, o, hf, hn, ho, hd⟩, hr⟩ := hl
      have hL : L ∈ X.fs := hs L (by unfold frs; rw [List.filterMap_cons, hf]; exact List.mem_cons_self)
      obtain ⟨sl, e⟩ := I.base.slot L o ho (I.ok.frf L hL) hL fun z => I.ok.exfs L z hL
      exact ⟨hk, ⟨L, _, hf, hn, e, hd⟩, ih (fun b hb => hs b (by unfold frs; rw [List.filterMap_cons, hf]; exact List.mem_cons_of_mem _ hb)) hr⟩
  exact all X.outer (fun _ hb => hb) I.ok.funs

/-- the frames that run, for a call -/
theorem Inv.stack (I : Inv X pins σ H s) : s.heap.FunFrames X.base X.stack := by
  rcases I.ok.stk with e | ⟨e, hf⟩
  · rw [e]; exact I.funs
  · rw [e]
    obtain ⟨m, hn, _⟩ := I.loc
    refine .cons (by rw [I.ok.kind]; decide) hf hn ?_ I.funs
    exact Heap.get?_none_of_le (Nat.le_trans I.ok.bsz I.ok.above)
theorem Inv.stkSub (I : Inv X pins σ H s) : ∀ b ∈ frs X.stack, b ∈ X.env.locals :: X.fs := fun b hb => by
  rcases I.ok.stk with e | ⟨e, hf⟩
  · rw [e] at hb; exact List.mem_cons_of_mem _ hb
  · rw [e] at hb
    unfold frs at hb
    rw [List.filterMap_cons, hf] at hb
    exact hb
theorem Inv.stkFree (I : Inv X pins σ H s) : ∀ b ∈ frs X.stack, H b = none := fun b hb => by
  rcases List.mem_cons.mp (I.stkSub b hb) with e | hb
  · rw [e]; exact I.free
  · obtain ⟨_, o, ho, _⟩ := I.ok.funs.mem hb
    exact I.base.free b o ho (I.ok.frf b hb) fun z => I.ok.exfs b z hb

/-- THE STEP: the untracked objects but the frame and the records at ch are kept (the callers' frames up to slots), the frame's map is kept, the new abstract heap is held -/
theorem Inv.step {g' : Array GenState} {t' : Nat} {d' : Drawn} {ch : List Addr} (I : Inv X pins σ H s)
    (hch : ∀ b ∈ ch, (b ∈ X.ex ∨ X.s₀.heap.objs.size ≤ b) ∧ b ≠ X.env.locals ∧ (∀ x c, X.env.cells.lookup x = some c → c ≠ b) ∧ ∀ p ∈ X.pn ++ pins, p.1 ≠ b)
    (keep : ∀ b o, b ≠ X.env.locals → b ∉ X.fs → b ∉ ch → s.heap.get? b = some o → H b = none → h'.get? b = some o)
    (slot : ∀ b o, b ≠ X.env.locals → b ∈ X.fs → b ∉ ch → s.heap.get? b = some o → H b = none → ∃ sl, h'.get? b = some { o with slots := sl }) (free : ∀ b o, b ∉ ch → s.heap.get? b = some o → H b = none → H' b = none)
    (there : ∀ b o, b ∉ ch → s.heap.get? b = some o → ∃ o', h'.get? b = some o')
    (tups : ∀ b xs, H b = some (.tup xs) → H' b = some (.tup xs)) (frzs : ∀ b o u, H b = some (.frz o u) → H' b = some (.frz o u)) (tbls : ∀ b ps, H b = some (.tbl ps) → ∃ more, H' b = some (.tbl (ps ++ more)))
    (ns : ∀ m, s.heap.Ns X.env.locals m → h'.Ns X.env.locals m) (hok : HOk X.prog X.w H' h') (hg : AllBare g') :
    Inv X pins σ H' { s with heap := h', gens := g', drawn := d', toks := t' } := by
  have neL : ∀ b o, X.s₀.heap.get? b = some o → b ≠ X.env.locals := fun b o e => Nat.ne_of_lt (Nat.lt_of_lt_of_le (Heap.lt_size e) I.ok.above)
  have neC : ∀ b o, X.s₀.heap.get? b = some o → b ∉ X.ex → b ∉ ch := fun b o e hx hb => by
    rcases (hch b hb).1 with z | z
    · exact hx z
    · exact absurd (Nat.lt_of_lt_of_le (Heap.lt_size e) z) (Nat.lt_irrefl _)
  have cellK : ∀ x c, X.env.cells.lookup x = some c → ∀ v, s.heap.IsCell c v → h'.IsCell c v := fun x c e v ⟨o, ho, hd⟩ => by
    have nch : c ∉ ch := fun z => (hch c z).2.2.1 x c e rfl
    by_cases hc : c ∈ X.fs
    · obtain ⟨sl, q⟩ := slot c o (I.cne x c e) hc nch ho (I.freeC x c e)
      exact ⟨_, q, hd⟩
    · exact ⟨o, keep c o (I.cne x c e) hc nch ho (I.freeC x c e), hd⟩
  refine ⟨I.ok, I.os, hg, ⟨fun b o e n hb hx => ?_, fun b o e n hb hx => ?_, fun b o e n hx => ?_, fun b o e hx => ?_, fun b xs e => tups b xs (I.base.tups b xs e), fun b o xs e => frzs b o xs (I.base.frzs b o xs e), fun b ps e => ?_⟩, ?_, fun x c e => ?_, ?_, fun x c e => ?_, fun p hp => ?_, hok, I.len⟩
  · exact keep b o (neL b o e) hb (neC b o e hx) (I.base.keep b o e n hb hx) (I.base.free b o e n hx)
  · obtain ⟨sl, e1⟩ := I.base.slot b o e n hb hx
    obtain ⟨sl', e2⟩ := slot b _ (neL b o e) hb (neC b o e hx) e1 (I.base.free b o e n hx)
    exact ⟨sl', e2⟩
  · obtain ⟨o', e1⟩ := I.base.there b o e hx
    exact free b o' (neC b o e hx) e1 (I.base.free b o e n hx)
  · obtain ⟨o', e1⟩ := I.base.there b o e hx
    exact there b o' (neC b o e hx) e1
  · obtain ⟨m1, e1⟩ := I.base.tbls b ps e
    obtain ⟨m2, e2⟩ := tbls b _ e1
    exact ⟨m1 ++ m2, by rw [e2, Array.append_assoc]⟩
  · obtain ⟨m, hn, hl⟩ := I.loc
    refine ⟨m, ns m hn, fun i x v e1 e2 e3 => ?_⟩
    obtain ⟨u, r, l⟩ := hl i x v e1 e2 e3
    refine ⟨u, r, ?_⟩
    rcases l with l | ⟨k, c, e, z⟩
    · exact .inl l
    · exact .inr ⟨k, c, e, cellK x c e _ z⟩
  · obtain ⟨v, z⟩ := I.cell x c e
    exact ⟨v, cellK x c e v z⟩
  · obtain ⟨m, ⟨o, _, _, ho, _⟩, _⟩ := I.loc
    exact free _ o (fun z => (hch _ z).2.1 rfl) ho I.free
  · obtain ⟨v, o, ho, hd⟩ := I.cell x c e
    exact free c o (fun z => (hch c z).2.2.1 x c e rfl) ho (I.freeC x c e)
  · obtain ⟨e, n, ne, nf, d⟩ := I.pin p hp
    have nch : p.1 ∉ ch := fun z => (hch p.1 z).2.2.2 p hp rfl
    exact ⟨keep p.1 p.2 ne nf nch e n, free p.1 p.2 nch e n, ne, nf, d⟩
/-- .. where the frame's own object is kept too -/
theorem Inv.un {t' : Nat} (I : Inv X pins σ H s) (u : Un X.fs [] H H' s.heap h') (hok : HOk X.prog X.w H' h') : Inv X pins σ H' { s with heap := h', toks := t' } := by
  obtain ⟨m, ⟨o, es, ep, ho, r⟩, _⟩ := id I.loc
  obtain ⟨sl, hL⟩ := u.any ho I.free (by simp)
  exact I.step (g' := s.gens) (d' := s.drawn) (ch := []) (fun _ z => nomatch z) (fun b o _ hb _ e n => u.keep b o e n hb (by simp)) (fun b o _ hb _ e n => u.slot b o e n hb (by simp)) (fun b o _ e n => u.free b o e n (by simp)) (fun b o _ e => u.there b o e (by simp)) u.tups u.frzs u.tbls (fun m' hm => by
    obtain ⟨o', es', ep', ho', r'⟩ := hm
    rw [ho] at ho'; cases ho'
    exact ⟨_, es', ep', hL, r'⟩) hok I.bare
/-- behind a call (or a comprehension's block): the slots of this frame may have changed too, the records at ch may have turned -/
theorem Inv.call {g' : Array GenState} {t' : Nat} {d' : Drawn} {ch : List Addr} (I : Inv X pins σ H s) (u : Un (frs X.stack) ch H H' s.heap h') (hok : HOk X.prog X.w H' h') (hg : AllBare g')
    (hch : ∀ b ∈ ch, (b ∈ X.ex ∨ X.s₀.heap.objs.size ≤ b) ∧ b ≠ X.env.locals ∧ (∀ x c, X.env.cells.lookup x = some c → c ≠ b) ∧ ∀ p ∈ X.pn ++ pins, p.1 ≠ b) :
    Inv X pins σ H' { s with heap := h', gens := g', drawn := d', toks := t' } := by
  obtain ⟨m, ⟨o, es, ep, ho, r⟩, _⟩ := id I.loc
  obtain ⟨sl, hL⟩ := u.any ho I.free fun z => (hch _ z).2.1 rfl
  exact I.step (ch := ch) hch (fun b o hL hb hc e n => u.keep b o e n (fun z => (List.mem_cons.mp (I.stkSub b z)).elim hL hb) hc) (fun b o _ _ hc e n => u.any e n hc) (fun b o hc e n => u.free b o e n hc) (fun b o hc e => u.there b o e hc) u.tups u.frzs u.tbls (fun m' hm => by
    obtain ⟨o', es', ep', ho', r'⟩ := hm
    rw [ho] at ho'; cases ho'
    exact ⟨_, es', ep', hL, r'⟩) hok hg
/-- an untracked record of ours (an iterator) has turned -/
theorem Inv.turned {t' : Nat} {it : Addr} (I : Inv X pins σ H s) (k : ∀ b o, b ≠ it → s.heap.get? b = some o → h'.get? b = some o) (hn : H it = none) (hL : it ≠ X.env.locals)
    (h1 : it ∈ X.ex ∨ X.s₀.heap.objs.size ≤ it) (h2 : ∀ x c, X.env.cells.lookup x = some c → c ≠ it) (h3 : ∀ p ∈ X.pn ++ pins, p.1 ≠ it) : Inv X pins σ H { s with heap := h', toks := t' } := by
  have nit : ∀ b u, H b = some u → b ≠ it := fun b u e z => by rw [z, hn] at e; cases e
  refine I.step (g' := s.gens) (d' := s.drawn) (ch := [it]) (fun b hb => ?_) (fun b o _ _ hc e _ => k b o (fun z => hc (by simp [z])) e) (fun b o _ _ hc e _ => ⟨o.slots, k b o (fun z => hc (by simp [z])) e⟩) (fun _ _ _ _ n => n)
    (fun b o hc e => ⟨o, k b o (fun z => hc (by simp [z])) e⟩) (fun _ _ e => e) (fun _ _ _ e => e) (fun b ps e => ⟨#[], by rw [e]; simp⟩) (fun m hm => ?_) (fun b u e => ?_) I.bare
  · have e : b = it := by simpa using hb
    subst e
    exact ⟨h1, hL, h2, h3⟩
  · obtain ⟨o, es, ep, ho, r⟩ := hm
    exact ⟨o, es, ep, k _ o (Ne.symm hL) ho, r⟩
  · refine (I.hok b u e).stay (fun c v hc q => k c v ?_ q) (fun _ q => q) fun _ _ q => q
    rcases hc with z | z
    · rw [z]; exact nit b u e
    · exact nit c _ z
theorem Inv.tok (I : Inv X pins σ H s) (t : Nat) : Inv X pins σ H { s with toks := t } := I.un (h' := s.heap) (t' := t) Un.refl I.hok
/-- all objects kept -/
theorem Inv.kept {t' : Nat} (I : Inv X pins σ H s) (k : ∀ b u, s.heap.get? b = some u → h'.get? b = some u) : Inv X pins σ H { s with heap := h', toks := t' } := I.un (Un.kept k) (I.hok.kept k)
/-- a new object laid and tracked -/
theorem Inv.laid {a : Addr} {o : HO} {t' : Nat} (I : Inv X pins σ H s) (k : ∀ b u, s.heap.get? b = some u → h'.get? b = some u) (hp : s.heap.objs.size ≤ a) (new : ObjOk X.prog X.w (upd H a o) h' a o) :
    Inv X pins σ (upd H a o) { s with heap := h', toks := t' } := I.un (Un.laid k hp (I.hok.fresh hp)) (I.hok.laid k hp new)
/-- an object written -/
theorem Inv.write {x e : Addr} {o : HO} {t' : Nat} (I : Inv X pins σ H s) (mu : Mut (H x)) (he : e = x ∨ H e = some (.own x)) (k : ∀ b u, b ≠ e → s.heap.get? b = some u → h'.get? b = some u) (heo : ∃ u, h'.get? e = some u)
    (new : ObjOk X.prog X.w (upd H x o) h' x o) : Inv X pins σ (upd H x o) { s with heap := h', toks := t' } := I.un (Un.write mu he k heo) (I.hok.write mu he k heo new)
theorem Inv.pins_of {pins' : List (Addr × Obj)} (I : Inv X pins σ H s) (h : ∀ p ∈ pins', s.heap.get? p.1 = some p.2 ∧ H p.1 = none ∧ p.1 ≠ X.env.locals ∧ p.1 ∉ X.fs ∧ ∀ v, p.2.data ≠ .cell v) : Inv X pins' σ H s :=
  ⟨I.ok, I.os, I.bare, I.base, I.loc, I.cell, I.free, I.freeC, fun p hp => (List.mem_append.mp hp).elim (fun z => I.pin p (List.mem_append_left _ z)) (h p), I.hok, I.len⟩

theorem nodup_ix {N : List Str} (hN : N.Nodup) {i j : Nat} {x : Str} (a : N[i]? = some x) (b : N[j]? = some x) : i = j := by
  obtain ⟨h1, e1⟩ := List.getElem?_eq_some_iff.mp a
  obtain ⟨h2, e2⟩ := List.getElem?_eq_some_iff.mp b
  exact (List.getElem_inj hN).mp (e1.trans e2.symm)

/-- a name is stored; what changed -/
theorem store_ok2 {M : Model} {A : Around} {E : Value → Shared → Prop} {i : Nat} {x : Str} {v : V} {u : Value} {Q : Unit → Shared → Prop} (I : Inv X pins σ H s) (hN : X.N.Nodup) (hi : X.N[i]? = some x) (hx : Loc X.env.scope x) (r : RelV v u)
    (h : ∀ s', Inv X pins (σ.set i (some v)) H s' → (∃ a, Heap.SameBut a s.heap s'.heap ∧ (a = X.env.locals ∨ X.env.cells.lookup x = some a)) → Q () s') (hf : X.fn x = true ∨ X.env.scope.names.lookup x = some .local := by first | exact .inl rfl | exact .inr rfl | assumption) : wpAny M A (storeName X.env x u) Q E s := by
  obtain ⟨m, hn, hl⟩ := id I.loc
  have hcls : (X.env.scope.kind == .class || (X.env.scope.kind == .module && X.env.locals != X.env.globals)) = false := by rw [I.ok.kind]; rfl
  have hiσ : i < σ.length := by rw [I.len]; exact (List.getElem?_eq_some_iff.mp hi).1
  have cne := I.cne
  have tracked : ∀ {a : Addr} {h' : Heap}, (∃ o, s.heap.get? a = some o ∧ H a = none) → Heap.SameBut a s.heap h' → HOk X.prog X.w H h' := fun {a h'} ha hs b ob e => by
    obtain ⟨_, _, hfree⟩ := ha
    refine (I.hok b ob e).stay (fun c w' hc q => (hs.2 c ?_).trans q) (fun _ q => q) fun _ _ q => q
    rintro rfl
    rcases hc with rfl | hc
    · rw [hfree] at e; cases e
    · rw [hfree] at hc; cases hc
  rcases hx with hk | hk
  · refine wpAny_storeName_local hk hn (fun h' hn' hs => ?_) hcls
    obtain ⟨oL, _, _, hoL, _⟩ := id hn
    refine h _ ⟨I.ok, I.os, I.bare, ⟨fun b o e n hb hx => ?_, fun b o e n hb hx => ?_, I.base.free, fun b o e hx => ?_, I.base.tups, I.base.frzs, I.base.tbls⟩, ⟨_, hn', fun j y v' e1 e2 e3 => ?_⟩, fun y c e => ?_, I.free, I.freeC, fun p hp => ?_, tracked ⟨oL, hoL, I.free⟩ hs, by simpa using I.len⟩ ⟨_, hs, .inl rfl⟩
    · exact (hs.2 b (Nat.ne_of_lt (Nat.lt_of_lt_of_le (Heap.lt_size e) I.ok.above))).trans (I.base.keep b o e n hb hx)
    · obtain ⟨sl, e1⟩ := I.base.slot b o e n hb hx
      exact ⟨sl, (hs.2 b (Nat.ne_of_lt (Nat.lt_of_lt_of_le (Heap.lt_size e) I.ok.above))).trans e1⟩
    · obtain ⟨o', e1⟩ := I.base.there b o e hx
      exact ⟨o', (hs.2 b (Nat.ne_of_lt (Nat.lt_of_lt_of_le (Heap.lt_size e) I.ok.above))).trans e1⟩
    · by_cases hj : j = i
      · subst hj
        rw [hi] at e1; cases e1
        rw [List.getElem?_set_self hiσ] at e2
        cases e2
        exact ⟨u, r, .inl ⟨hk, by simp⟩⟩
      · rw [List.getElem?_set_ne (Ne.symm hj)] at e2
        obtain ⟨u', r', q⟩ := hl j y v' e1 e2 e3
        refine ⟨u', r', ?_⟩
        rcases q with ⟨k, e⟩ | ⟨k, c, e, z⟩
        · refine .inl ⟨k, ?_⟩
          have : y ≠ x := fun e => hj (nodup_ix hN e1 (e ▸ hi))
          simp [this, e]
        · exact .inr ⟨k, c, e, z.sameBut hs (cne y c e)⟩
    · obtain ⟨w', z⟩ := I.cell y c e
      exact ⟨w', z.sameBut hs (cne y c e)⟩
    · obtain ⟨e, n, ne, nf, d⟩ := I.pin p hp
      exact ⟨(hs.2 p.1 ne).trans e, n, ne, nf, d⟩
  · have hfn : X.fn x = true := by
      rcases hf with z | z
      · exact z
      · rw [z] at hk; cases hk
    obtain ⟨c, hc⟩ := I.ok.has x (.inl hk)
    obtain ⟨w', z⟩ := I.cell x c hc
    refine wpAny_storeName_cell I.ok.kind hk hc z (fun h' hc' hs => ?_)
    obtain ⟨oc, hoc, hocd⟩ := id z
    refine h { s with heap := h' } ⟨I.ok, I.os, I.bare, ⟨fun b o e n hb hx => ?_, fun b o e n hb hx => ?_, I.base.free, fun b o e hx => ?_, I.base.tups, I.base.frzs, I.base.tbls⟩, ⟨m, hn.sameBut hs (Ne.symm (cne x c hc)), fun j y v' e1 e2 e3 => ?_⟩, fun y c' e => ?_, I.free, I.freeC, fun p hp => ?_, tracked ⟨oc, hoc, I.freeC x c hc⟩ hs, by simpa using I.len⟩ ⟨c, hs, .inr hc⟩
    · exact (hs.2 b (Nat.ne_of_lt (Nat.lt_of_lt_of_le (Heap.lt_size e) (I.ok.cab x c hfn hc)))).trans (I.base.keep b o e n hb hx)
    · obtain ⟨sl, e1⟩ := I.base.slot b o e n hb hx
      exact ⟨sl, (hs.2 b (Nat.ne_of_lt (Nat.lt_of_lt_of_le (Heap.lt_size e) (I.ok.cab x c hfn hc)))).trans e1⟩
    · obtain ⟨o', e1⟩ := I.base.there b o e hx
      exact ⟨o', (hs.2 b (Nat.ne_of_lt (Nat.lt_of_lt_of_le (Heap.lt_size e) (I.ok.cab x c hfn hc)))).trans e1⟩
    · by_cases hj : j = i
      · subst hj
        rw [hi] at e1; cases e1
        rw [List.getElem?_set_self hiσ] at e2
        cases e2
        exact ⟨u, r, .inr ⟨.inl hk, c, hc, hc'⟩⟩
      · rw [List.getElem?_set_ne (Ne.symm hj)] at e2
        obtain ⟨u', r', q⟩ := hl j y v' e1 e2 e3
        refine ⟨u', r', ?_⟩
        rcases q with q | ⟨k, c', e, z'⟩
        · exact .inl q
        · refine .inr ⟨k, c', e, z'.sameBut hs ?_⟩
          rintro rfl
          exact hj (nodup_ix hN e1 (I.ok.inj _ _ _ e hc ▸ hi))
    · by_cases hcc : c' = c
      · subst hcc; exact ⟨_, hc'⟩
      · obtain ⟨w2, z2⟩ := I.cell y c' e
        exact ⟨w2, z2.sameBut hs hcc⟩
    · obtain ⟨e, n, ne, nf, d⟩ := I.pin p hp
      refine ⟨(hs.2 p.1 ?_).trans e, n, ne, nf, d⟩
      intro q
      rw [q, hoc] at e
      have q' : oc = p.2 := Option.some.inj e
      exact d w' (by rw [← q']; exact hocd)
theorem store_ok {M : Model} {A : Around} {E : Value → Shared → Prop} {i : Nat} {x : Str} {v : V} {u : Value} {Q : Unit → Shared → Prop} (I : Inv X pins σ H s) (hN : X.N.Nodup) (hi : X.N[i]? = some x) (hx : Loc X.env.scope x) (r : RelV v u)
    (h : ∀ s', Inv X pins (σ.set i (some v)) H s' → Q () s') (hf : X.fn x = true ∨ X.env.scope.names.lookup x = some .local := by first | exact .inl rfl | exact .inr rfl | assumption) : wpAny M A (storeName X.env x u) Q E s :=
  store_ok2 I hN hi hx r (fun s' I' _ => h s' I') hf
/-- behind a call or a block, the state as it is -/
theorem Inv.call' {s' : Shared} {ch : List Addr} (I : Inv X pins σ H s) (ho : s'.os = s.os) (u : Un (frs X.stack) ch H H' s.heap s'.heap) (hok : HOk X.prog X.w H' s'.heap) (hg : AllBare s'.gens)
    (hch : ∀ b ∈ ch, (b ∈ X.ex ∨ X.s₀.heap.objs.size ≤ b) ∧ b ≠ X.env.locals ∧ (∀ x c, X.env.cells.lookup x = some c → c ≠ b) ∧ ∀ p ∈ X.pn ++ pins, p.1 ≠ b) : Inv X pins σ H' s' := by
  obtain ⟨h', g', d', t', o'⟩ := s'
  have e : o' = s.os := ho
  subst e
  exact I.call (g' := g') (t' := t') (d' := d') u hok hg hch
end

/-! ### the judgements -/
/-- an exception: its class, its own dict's address (where it has one), the abstract heap behind it -/
abbrev XK := Value → Option Addr → Hp → Prop
abbrev St := List (Option V)
abbrev VK := V → Hp → Prop
/-- an expression's reading; a test's; an argument list's -/
abbrev TE := St → Hp → VK → Prop
abbrev TT := St → Hp → (Bool → Hp → Prop) → Prop
abbrev TA := St → Hp → (List V → Hp → Prop) → Prop
/-- what is wanted behind a statement -/
structure Ends where
  nx : St → Hp → Prop
  rt : St → VK
  bk : St → Hp → Prop := fun _ _ => False
  ct : St → Hp → Prop := fun _ _ => False
abbrev TS := Ends → St → Hp → Prop

def EP (X : Cx) (pins : List (Addr × Obj)) (σ : St) (Q : VK) (u : Value) (s' : Shared) : Prop := ∃ v H', Inv X pins σ H' s' ∧ RelV v u ∧ Q v H'
def TP (X : Cx) (pins : List (Addr × Obj)) (σ : St) (Q : Bool → Hp → Prop) (b : Bool) (s' : Shared) : Prop := ∃ H', Inv X pins σ H' s' ∧ Q b H'
def AP (X : Cx) (pins : List (Addr × Obj)) (σ : St) (Q : List V → Hp → Prop) (us : List Value) (s' : Shared) : Prop := ∃ vs H', Inv X pins σ H' s' ∧ Vals vs us ∧ Q vs H'
def SP (X : Cx) (pins : List (Addr × Obj)) (D : Ends) (f : Flow) (s' : Shared) : Prop :=
  match f with
  | .next => ∃ σ' H', Inv X pins σ' H' s' ∧ D.nx σ' H'
  | .brk => ∃ σ' H', Inv X pins σ' H' s' ∧ D.bk σ' H'
  | .cont => ∃ σ' H', Inv X pins σ' H' s' ∧ D.ct σ' H'
  | .ret u => ∃ v σ' H', Inv X pins σ' H' s' ∧ RelV v u ∧ D.rt σ' v H'

def PE (X : Cx) (e : Expr) (t : TE) : Prop :=
  ∀ (pins : List (Addr × Obj)) (s : Shared) (σ : St) (H : Hp) (Q : VK), Inv X pins σ H s → t σ H Q → wpAny (model X.prog X.w) X.A (eval e X.env) (EP X pins σ Q) X.xe s
def PT (X : Cx) (e : Expr) (t : TT) : Prop :=
  ∀ (pins : List (Addr × Obj)) (s : Shared) (σ : St) (H : Hp) (Q : Bool → Hp → Prop), Inv X pins σ H s → t σ H Q → wpAny (model X.prog X.w) X.A (isTrue e X.env (eval e X.env)) (TP X pins σ Q) X.xe s
/-- a test whatever its 'whole' is (and, or) -/
def PW (X : Cx) (e : Expr) (t : TT) : Prop :=
  ∀ (whole : Sem Value) (pins : List (Addr × Obj)) (s : Shared) (σ : St) (H : Hp) (Q : Bool → Hp → Prop), Inv X pins σ H s → t σ H Q → wpAny (model X.prog X.w) X.A (isTrue e X.env whole) (TP X pins σ Q) X.xe s
theorem PW.pt {X : Cx} {e : Expr} {t : TT} (h : PW X e t) : PT X e t := h _
/-- an argument list (no star), from the left -/
def PA (X : Cx) (es : List Expr) (t : TA) : Prop :=
  ∀ (pos : Pos) (pins : List (Addr × Obj)) (s : Shared) (σ : St) (H : Hp) (Q : List V → Hp → Prop), Inv X pins σ H s → t σ H Q → wpAny (model X.prog X.w) X.A (spliced (backTo pos (starEach es X.env))) (AP X pins σ Q) X.xe s
def PS (X : Cx) (st : Stmt) (t : TS) : Prop :=
  ∀ (pins : List (Addr × Obj)) (s : Shared) (σ : St) (H : Hp) (D : Ends), Inv X pins σ H s → t D σ H → wpAny (model X.prog X.w) X.A (exec st X.env) (SP X pins D) X.xe s
def PSs (X : Cx) (st : List Stmt) (t : TS) : Prop :=
  ∀ (pins : List (Addr × Obj)) (s : Shared) (σ : St) (H : Hp) (D : Ends), Inv X pins σ H s → t D σ H → wpAny (model X.prog X.w) X.A (execs st X.env) (SP X pins D) X.xe s
/-- weaken the end -/
theorem thn {α : Type} {t : Sem α} {Q Q' : α → Shared → Prop} {M : Model} {A : Around} {E : Value → Shared → Prop} {s : Shared} (h : wpAny M A t Q E s) (hQ : ∀ a s, Q a s → Q' a s) : wpAny M A t Q' E s := wpAny_mono h hQ fun _ _ x => x
end L2

namespace L2
open PySem PySem.Spec PyProof.Rows
section
variable {X : Cx}

/-! ### names and constants -/
def tVar (i : Nat) : TE := fun σ H Q => ∃ v, σ[i]? = some (some v) ∧ Q v H
def tC (v : V) : TE := fun _ H Q => Q v H
theorem pe_var {i : Nat} {x : Str} {pos : Pos} (hN : X.N[i]? = some x) (hv : Vis X.env.scope x) (hd : (x == ("__debug__" : Str)) = false := by decide) (hcd : (x == ("__classdict__" : Str)) = false := by decide) : PE X (.Name x pos) (tVar i) := by
  intro pins s σ H Q I h
  obtain ⟨v, e, h⟩ := h
  obtain ⟨m, hn, hl⟩ := I.loc
  obtain ⟨u, r, l⟩ := hl i x v hN e hv
  have fin : EP X pins σ Q u s := ⟨v, H, I, r, h⟩
  rcases l with ⟨hk, hm⟩ | ⟨hk, c, hc, hcell⟩
  · exact wpAny_Name (wpAny_loadName_local I.ok.kind hk hn hm fin) hd
  · rcases hk with hk | hk
    · exact wpAny_Name (wpAny_loadName_cell I.ok.kind hk hc hcell fin) hd
    · exact wpAny_Name (wpAny_loadName_free I.ok.kind hk hc hcell fin hcd) hd
theorem pe_int {i j pos} : PE X (.Constant (.int i) j pos) (tC (.int i)) := fun _ _ _ H _ I h => wpAny_Constant_int ⟨.int i, H, I.tok _, ⟨_, rfl⟩, h⟩
theorem pe_bl {b j pos} : PE X (.Constant (.bool b) j pos) (tC (.bl b)) := fun _ _ _ H _ I h => Constant_bool ⟨.bl b, H, I, rfl, h⟩
theorem pe_non {j pos} : PE X (.Constant .none j pos) (tC .non) := fun _ _ _ H _ I h => Constant_none ⟨.non, H, I, rfl, h⟩
theorem pe_str {x j pos} : PE X (.Constant (.str x) j pos) (tC (.str x)) := fun _ _ _ H _ I h => Calls.Constant_str ⟨.str x, H, I.tok _, ⟨_, rfl⟩, h⟩

/-- a global name of the def -/
def Gl (X : Cx) (x : Str) : Prop := X.env.kindOf x = some .globalImplicit
theorem ld_glob {E : Value → Shared → Prop} {pins : List (Addr × Obj)} {s : Shared} {σ : St} {H : Hp} {x : Str} {u : Value} {pos : Pos} {Q : Value → Shared → Prop} (I : Inv X pins σ H s) (hg : Gl X x) (hm : X.mg x = some u) (h : Q u s)
    (hd : (x == ("__debug__" : Str)) = false := by decide) : wpAny (model X.prog X.w) X.A (eval (.Name x pos) X.env) Q E s :=
  Calls.Name_function_global I.ok.kind hg (Calls.loadGlobal_global (by rw [I.ok.glob]; exact I.mod.glob.keeps I.bk) hm h) hd
theorem ld_blt {E : Value → Shared → Prop} {pins : List (Addr × Obj)} {s : Shared} {σ : St} {H : Hp} {x : Str} {u : Value} {pos : Pos} {Q : Value → Shared → Prop} (I : Inv X pins σ H s) (hg : Gl X x) (hm : X.mg x = none) (hv : bootBuiltins x = some u) (h : Q u s)
    (hn : x ≠ "__name__" := by decide) (hd : (x == ("__debug__" : Str)) = false := by decide) : wpAny (model X.prog X.w) X.A (eval (.Name x pos) X.env) Q E s := by
  obtain ⟨mb, h1, h2⟩ := I.mod.blt
  exact Calls.Name_function_global I.ok.kind hg (Calls.loadGlobal_builtin (by rw [I.ok.glob]; exact I.mod.glob.keeps I.bk) hm (by rw [I.ok.blt]; exact h1.keeps I.bk) ((h2 x hn).trans hv) h) hd
/-- a module's constant, a class, a function, as a value -/
theorem pe_glob {x : Str} {v : V} {u : Value} {pos : Pos} (hg : Gl X x) (hm : X.mg x = some u) (r : RelV v u) (hd : (x == ("__debug__" : Str)) = false := by decide) : PE X (.Name x pos) (tC v) :=
  fun _ _ _ H _ I h => ld_glob I hg hm ⟨v, H, I, r, h⟩ hd
theorem pe_bltn {x : Str} {v : V} {u : Value} {pos : Pos} (hg : Gl X x) (hm : X.mg x = none) (hv : bootBuiltins x = some u) (r : RelV v u) (hn : x ≠ "__name__" := by decide) (hd : (x == ("__debug__" : Str)) = false := by decide) : PE X (.Name x pos) (tC v) :=
  fun _ _ _ H _ I h => ld_blt I hg hm hv ⟨v, H, I, r, h⟩ hn hd

/-! ### arithmetic -/
variable {a b : Expr} {ta tb : TE} {pos : Pos}
/-! ### comparisons -/
/-- a comparison as a value, as a test -/
def tB (t : TE) : TT := fun σ H Q => t σ H fun x H1 => ∃ c, x = .bl c ∧ Q c H1
/-- an expression whose value is a bool, as a test -/
theorem pt_val {e : Expr} {t : TE} (h : PE X e t) (he : ∀ whole, isTrue e X.env whole = (do let v ← whole; standAt e.pos; holding [v] (truthy v)) := by intro _; rfl) : PT X e (tB t) := by
  intro pins s σ H Q I hw
  refine isTrue_plain (thn (h pins s σ H _ I hw) fun v s1 ⟨x, H1, I1, r1, q1⟩ => ?_) (he _)
  obtain ⟨d, rfl, q⟩ := q1
  cases r1
  exact wpAny_truthy_bool ⟨H1, I1, q⟩

/-! ### and, or, not -/
variable {tA tB' : TT} {rest : List Expr}
def tAnd (t u : TT) : TT := fun σ H Q => t σ H fun c H1 => if c = true then u σ H1 Q else Q false H1
def tOr (t u : TT) : TT := fun σ H Q => t σ H fun c H1 => if c = true then Q true H1 else u σ H1 Q
def tNot (t : TT) : TT := fun σ H Q => t σ H fun c H1 => Q (!c) H1
theorem pw_and1 (ha : PT X a tA) : PW X (.BoolOp .And [a] pos) tA := by
  intro wh pins s σ H Q I h
  refine isTrue_and (thn (ha pins s σ H Q I h) fun c s1 e => ?_)
  cases c with
  | true => exact isTrue_and_nil e
  | false => exact e
theorem pw_or1 (ha : PT X a tA) : PW X (.BoolOp .Or [a] pos) tA := by
  intro wh pins s σ H Q I h
  refine isTrue_or (thn (ha pins s σ H Q I h) fun c s1 e => ?_)
  cases c with
  | false => exact isTrue_or_nil e
  | true => exact e
theorem pw_and (ha : PT X a tA) (hb : PW X (.BoolOp .And (b :: rest) pos) tB') : PW X (.BoolOp .And (a :: b :: rest) pos) (tAnd tA tB') := by
  intro wh pins s σ H Q I h
  refine isTrue_and (thn (ha pins s σ H _ I h) fun c s1 ⟨H1, I1, q1⟩ => ?_)
  cases c with
  | true => exact hb wh pins s1 σ H1 Q I1 q1
  | false => exact ⟨H1, I1, q1⟩
theorem pw_or (ha : PT X a tA) (hb : PW X (.BoolOp .Or (b :: rest) pos) tB') : PW X (.BoolOp .Or (a :: b :: rest) pos) (tOr tA tB') := by
  intro wh pins s σ H Q I h
  refine isTrue_or (thn (ha pins s σ H _ I h) fun c s1 ⟨H1, I1, q1⟩ => ?_)
  cases c with
  | true => exact ⟨H1, I1, q1⟩
  | false => exact hb wh pins s1 σ H1 Q I1 q1
theorem pt_not (ha : PT X a tA) : PT X (.UnaryOp .Not a pos) (tNot tA) := by
  intro pins s σ H Q I h
  exact isTrue_not (ha pins s σ H (fun c H1 => Q (!c) H1) I h)
/-- .. as values (bools) -/
def tAndV (ta tb : TE) : TE := fun σ H Q => ta σ H fun x H1 => ∃ c, x = .bl c ∧ if c = true then tb σ H1 Q else Q (.bl false) H1
def tNotV (ta : TE) : TE := fun σ H Q => ta σ H fun x H1 => ∃ c, x = .bl c ∧ Q (.bl (!c)) H1
theorem pe_one {op} {t : TE} (h : PE X a t) : PE X (.BoolOp op [a] pos) t := fun pins s σ H Q I hw => BoolOp_one (h pins s σ H Q I hw)
theorem pe_and (ha : PE X a ta) (hb : PE X (.BoolOp .And (b :: rest) pos) tb) : PE X (.BoolOp .And (a :: b :: rest) pos) (tAndV ta tb) := by
  intro pins s σ H Q I h
  refine BoolOp_and (thn (ha pins s σ H _ I h) fun v s1 ⟨x, H1, I1, r1, q1⟩ => ?_)
  obtain ⟨c, rfl, q1⟩ := q1
  cases r1
  refine wpAny_truthy_bool ?_
  cases c with
  | true => exact hb pins s1 σ H1 Q I1 q1
  | false => exact ⟨.bl false, H1, I1, rfl, q1⟩
theorem pe_not (ha : PE X a ta) : PE X (.UnaryOp .Not a pos) (tNotV ta) := by
  intro pins s σ H Q I h
  refine UnaryOp_ (thn (ha pins s σ H _ I h) fun v s1 ⟨x, H1, I1, r1, q1⟩ => ?_)
  obtain ⟨c, rfl, q1⟩ := q1
  cases r1
  exact not_of (wpAny_truthy_bool ⟨.bl (!c), H1, I1, rfl, q1⟩)
/-- a if t else b -/
def tIf (t : TT) (ta tb : TE) : TE := fun σ H Q => t σ H fun c H1 => if c = true then ta σ H1 Q else tb σ H1 Q
theorem pe_ifExp {c : Expr} (hc : PT X c tA) (ha : PE X a ta) (hb : PE X b tb) : PE X (.IfExp c a b pos) (tIf tA ta tb) := by
  intro pins s σ H Q I h
  refine wpAny_IfExp (thn (hc pins s σ H _ I h) fun d s1 ⟨H1, I1, q1⟩ => ?_)
  cases d with
  | true => exact ha pins s1 σ H1 Q I1 q1
  | false => exact hb pins s1 σ H1 Q I1 q1
end
end L2

namespace L2
open PySem PySem.Spec PyProof.Rows

/-! ### a list, a tuple that is read: tracked, frozen, or an object of the module -/
def SqL (K : PySem.W.Frag) (H : Hp) (a : Addr) (xs : List V) : Prop :=
  Rd H a (.lst xs) ∨
    ∃ (o : Obj) (its : Array Value) (n : Nat), K.lookup a = some o ∧ o.cls = .type "list" ∧ o.dict = none ∧ o.data = .seq its n ∧ its.size ≤ sizeLine ∧ Vals xs its.toList
def SqT (K : PySem.W.Frag) (H : Hp) (a : Addr) (xs : List V) : Prop :=
  Rd H a (.tup xs) ∨
    ∃ (o : Obj) (its : Array Value) (n : Nat), K.lookup a = some o ∧ o.cls = .type "tuple" ∧ o.data = .seq its n ∧ its.size ≤ sizeLine ∧ Vals xs its.toList
def absV : Value → Option V
  | .none => some .non
  | .bool b => some (.bl b)
  | .int i _ => some (.int i)
  | .str x _ => some (.str x)
  | .bytes b _ => some (.byt b)
  | .float b _ => some (.flt b)
  | .ref a => some (.ref a)
  | .type n => some (.ty n)
  | _ => none
theorem RelV.abs {x : V} {u : Value} (r : RelV x u) : absV u = some x := by
  cases x with
  | non => cases r; rfl
  | bl _ => cases r; rfl
  | int _ => obtain ⟨t, rfl⟩ := r; rfl
  | str _ => obtain ⟨t, rfl⟩ := r; rfl
  | byt _ => obtain ⟨t, rfl⟩ := r; rfl
  | flt _ => obtain ⟨t, rfl⟩ := r; rfl
  | ref _ => cases r; rfl
  | ty _ => cases r; rfl
theorem RelV.inj {x y : V} {u : Value} (r : RelV x u) (q : RelV y u) : x = y := Option.some.inj (r.abs.symm.trans q.abs)
theorem Vals.inj : ∀ {xs ys : List V} {us : List Value}, Vals xs us → Vals ys us → xs = ys
  | _, _, _, .nil, .nil => rfl
  | _, _, _, .cons r t, .cons r' t' => by rw [r.inj r', Vals.inj t t']
section
variable {X : Cx} {pins : List (Addr × Obj)} {σ : St} {H : Hp} {s : Shared} {a : Addr} {xs ys : List V}
theorem SqL.of {K : PySem.W.Frag} (h : H a = some (.lst xs)) : SqL K H a xs := .inl (.inl h)
theorem SqT.of {K : PySem.W.Frag} (h : H a = some (.tup xs)) : SqT K H a xs := .inl (.inl h)
theorem Inv.list (I : Inv X pins σ H s) (h : SqL X.K H a xs) : ∃ its : List Value, Vals xs its ∧ PlainL s.heap a its.toArray ∧ xs.length ≤ sizeLine := by
  rcases h with h | ⟨o, its, n, hk, hc, hd, hs, hz, r⟩
  · obtain ⟨z, its, n, r, e⟩ := h.ok I.hok
    exact ⟨its, r, ⟨_, n, e, rfl, rfl, rfl⟩, z⟩
  · refine ⟨its.toList, r, ⟨o, n, I.kIn a o hk, hc, hd, by simpa using hs⟩, ?_⟩
    have e := r.length
    simp only [Array.length_toList] at e
    omega
theorem Inv.tuple (I : Inv X pins σ H s) (h : SqT X.K H a xs) : ∃ its : List Value, Vals xs its ∧ IsTup s.heap a its.toArray ∧ xs.length ≤ sizeLine := by
  rcases h with h | ⟨o, its, n, hk, hc, hs, hz, r⟩
  · obtain ⟨z, its, r, p⟩ := h.ok I.hok
    exact ⟨its, r, p, z⟩
  · refine ⟨its.toList, r, ⟨o, I.kIn a o hk, hc, n, by simpa using hs⟩, ?_⟩
    have e := r.length
    simp only [Array.length_toList] at e
    omega
theorem Inv.list_inj (I : Inv X pins σ H s) (h : SqL X.K H a xs) (h' : SqL X.K H a ys) : xs = ys := by
  obtain ⟨its, r, ⟨o, n, e, _, _, d⟩, _⟩ := I.list h
  obtain ⟨its', r', ⟨o', n', e', _, _, d'⟩, _⟩ := I.list h'
  rw [e] at e'; cases e'
  rw [d] at d'
  injection d' with d1 _
  have : its = its' := by simpa using congrArg Array.toList d1
  subst this
  exact r.inj r'
theorem Inv.tuple_inj (I : Inv X pins σ H s) (h : SqT X.K H a xs) (h' : SqT X.K H a ys) : xs = ys := by
  obtain ⟨its, r, ⟨o, e, _, n, d⟩, _⟩ := I.tuple h
  obtain ⟨its', r', ⟨o', e', _, n', d'⟩, _⟩ := I.tuple h'
  rw [e] at e'; cases e'
  rw [d] at d'
  injection d' with d1 _
  have : its = its' := by simpa using congrArg Array.toList d1
  subst this
  exact r.inj r'
end

/-! ### another wish about exceptions -/
abbrev Cx.wish (X : Cx) (E : Value → Shared → Prop) : Cx := { X with xe := E }
/-- no exception leaves -/
abbrev Cx.nox (X : Cx) : Cx := X.wish fun _ _ => False
theorem Cx.Ok.wish {X : Cx} (ok : X.Ok) (E : Value → Shared → Prop) : (X.wish E).Ok :=
  ⟨ok.mod, ok.kind, ok.glob, ok.blt, ok.above, ok.inj, ok.has, ok.cab, ok.hd, ok.frames, ok.stk, ok.exf, ok.bs, ok.bsz, ok.noex, ok.exfs, ok.funs, ok.frf⟩
theorem Cx.Ok.unwish {X : Cx} {E : Value → Shared → Prop} (ok : (X.wish E).Ok) : X.Ok :=
  ⟨ok.mod, ok.kind, ok.glob, ok.blt, ok.above, ok.inj, ok.has, ok.cab, ok.hd, ok.frames, ok.stk, ok.exf, ok.bs, ok.bsz, ok.noex, ok.exfs, ok.funs, ok.frf⟩
section
variable {X : Cx} {pins : List (Addr × Obj)} {σ : St} {H : Hp} {s : Shared} {E : Value → Shared → Prop}
theorem Inv.wish (I : Inv X pins σ H s) (E : Value → Shared → Prop) : Inv (X.wish E) pins σ H s := ⟨I.ok.wish E, I.os, I.bare, I.base, I.loc, I.cell, I.free, I.freeC, I.pin, I.hok, I.len⟩
theorem Inv.unwish (I : Inv (X.wish E) pins σ H s) : Inv X pins σ H s := ⟨I.ok.unwish, I.os, I.bare, I.base, I.loc, I.cell, I.free, I.freeC, I.pin, I.hok, I.len⟩
theorem SP.unwish {D : Ends} {f : Flow} {s' : Shared} (h : SP (X.wish E) pins D f s') : SP X pins D f s' := by
  cases f with
  | next => obtain ⟨σ', H', I, q⟩ := h; exact ⟨σ', H', I.unwish, q⟩
  | brk => obtain ⟨σ', H', I, q⟩ := h; exact ⟨σ', H', I.unwish, q⟩
  | cont => obtain ⟨σ', H', I, q⟩ := h; exact ⟨σ', H', I.unwish, q⟩
  | ret u => obtain ⟨v, σ', H', I, r, q⟩ := h; exact ⟨v, σ', H', I.unwish, r, q⟩
theorem PE.nox {e : Expr} {t : TE} (h : PE X.nox e t) : PE X e t := fun pins s σ H Q I hw =>
  wpAny_mono (h pins s σ H Q (I.wish _) hw) (fun _ _ ⟨v, H', I', r, q⟩ => ⟨v, H', I'.unwish, r, q⟩) fun _ _ z => False.elim z
theorem PT.nox {e : Expr} {t : TT} (h : PT X.nox e t) : PT X e t := fun pins s σ H Q I hw =>
  wpAny_mono (h pins s σ H Q (I.wish _) hw) (fun _ _ ⟨H', I', q⟩ => ⟨H', I'.unwish, q⟩) fun _ _ z => False.elim z
theorem PSs.nox {st : List Stmt} {t : TS} (h : PSs X.nox st t) : PSs X st t := fun pins s σ H D I hw =>
  wpAny_mono (h pins s σ H D (I.wish _) hw) (fun _ _ q => q.unwish) fun _ _ z => False.elim z
end

/-! ### blocks and small statements -/
section
variable {X : Cx} {st : Stmt} {rest : List Stmt} {t u : TS} {e : Expr} {te : TE} {pos : Pos}
def tNext : TS := fun D σ H => D.nx σ H
def tSeq (t u : TS) : TS := fun D σ H => t { D with nx := u D } σ H
theorem pss_nil : PSs X [] tNext := fun _ _ σ H _ I h => wpAny_execs_nil ⟨σ, H, I, h⟩
theorem pss_cons (h1 : PS X st t) (h2 : PSs X rest u) : PSs X (st :: rest) (tSeq t u) := by
  intro pins s σ H D I h
  refine wpAny_execs_cons (thn (h1 pins s σ H { D with nx := u D } I h) fun f s1 q => ?_)
  cases f with
  | next =>
    obtain ⟨σ', H', I', q⟩ := q
    exact h2 pins s1 σ' H' D I' q
  | ret v => exact q
  | brk => exact q
  | cont => exact q
theorem pss_one (h1 : PS X st t) : PSs X [st] t := by
  intro pins s σ H D I h
  refine wpAny_execs_cons (thn (h1 pins s σ H D I h) fun f s1 q => ?_)
  cases f with
  | next => exact wpAny_execs_nil q
  | ret v => exact q
  | brk => exact q
  | cont => exact q
/-- in a def's body nothing is shown -/
theorem Inv.quiet {pins : List (Addr × Obj)} {σ : St} {H : Hp} {s : Shared} (I : Inv X pins σ H s) : interactive X.env = false := by simp [interactive, I.ok.kind]
/-- an expression whose value is dropped -/
def tDrop (te : TE) : TS := fun D σ H => te σ H fun _ H1 => D.nx σ H1
theorem ps_expr (he : PE X e te) (hs : swapsWith e none pos.line X.env = pure false := by rfl) : PS X (.Expr e pos) (tDrop te) := by
  intro pins s σ H D I h
  exact wpAny_Expr_any (thn (he pins s σ H _ I h) fun v s1 ⟨x, H1, I1, r1, q1⟩ => ⟨σ, H1, I1, q1⟩) I.quiet hs
def tRet (te : TE) : TS := fun D σ H => te σ H (D.rt σ)
theorem ps_ret (he : PE X e te) : PS X (.Return (some e) pos) (tRet te) := by
  intro pins s σ H D I h
  exact wpAny_Return_some (thn (he pins s σ H _ I h) fun v s1 ⟨x, H1, I1, r1, q1⟩ => ⟨x, σ, H1, I1, r1, q1⟩)
def tIfS (c : TT) (t u : TS) : TS := fun D σ H => c σ H fun b H1 => if b = true then t D σ H1 else u D σ H1
theorem ps_if {c : Expr} {a b : List Stmt} {tc : TT} (hc : PT X c tc) (ha : PSs X a t) (hb : PSs X b u) : PS X (.If c a b pos) (tIfS tc t u) := by
  intro pins s σ H D I h
  refine wpAny_If (thn (hc pins s σ H _ I h) fun d s1 ⟨H1, I1, q1⟩ => ?_)
  cases d with
  | true => exact ha pins s1 σ H1 D I1 q1
  | false => exact hb pins s1 σ H1 D I1 q1
/-- code that the proof never comes to -/
def tNever : TS := fun _ _ _ => False
theorem ps_never : PS X st tNever := fun _ _ _ _ _ _ h => h.elim
end

/-! ### targets -/
abbrev TG := V → St → Hp → (St → Hp → Prop) → Prop
abbrev TGs := List V → St → Hp → (St → Hp → Prop) → Prop
def PG (X : Cx) (target : Expr) (t : TG) : Prop :=
  ∀ (pins : List (Addr × Obj)) (s : Shared) (σ : St) (H : Hp) (v : V) (u : Value) (Q : St → Hp → Prop), Inv X pins σ H s → RelV v u → t v σ H Q →
    wpAny (model X.prog X.w) X.A (assign target X.env u) (fun _ s' => ∃ σ' H', Inv X pins σ' H' s' ∧ Q σ' H') X.xe s
/-- several targets, one after another -/
def PGs (X : Cx) (ts : List Expr) (t : TGs) : Prop :=
  ∀ (pins : List (Addr × Obj)) (s : Shared) (σ : St) (H : Hp) (vs : List V) (us : List Value) (Q : St → Hp → Prop), Inv X pins σ H s → Vals vs us → t vs σ H Q →
    wpAny (model X.prog X.w) X.A (assignInOrder ((assignEach ts X.env).map (·.2)) us) (fun _ s' => ∃ σ' H', Inv X pins σ' H' s' ∧ Q σ' H') X.xe s
section
variable {X : Cx} {pos : Pos}
def gName (i : Nat) : TG := fun v σ H Q => Q (σ.set i (some v)) H
theorem pg_name {i : Nat} {x : Str} (hN : X.N.Nodup) (hi : X.N[i]? = some x) (hx : Loc X.env.scope x) (hf : X.fn x = true ∨ X.env.scope.names.lookup x = some .local := by first | exact .inl rfl | exact .inr rfl | assumption) : PG X (.Name x pos) (gName i) := by
  intro pins s σ H v u Q I r h
  exact wpAny_assign_Name (store_ok I hN hi hx r (fun s' I' => ⟨_, H, I', h⟩) hf)
def gNil : TGs := fun vs σ H Q => vs = [] ∧ Q σ H
def gCons (t : TG) (u : TGs) : TGs := fun vs σ H Q => ∃ v r, vs = v :: r ∧ t v σ H fun σ' H' => u r σ' H' Q
theorem pgs_nil : PGs X [] gNil := by
  intro pins s σ H vs us Q I r h
  obtain ⟨e, h⟩ := h
  subst e
  cases r
  exact assignInOrder_nil ⟨σ, H, I, h⟩
theorem pgs_cons {e : Expr} {es : List Expr} {t : TG} {u : TGs} (h1 : PG X e t) (h2 : PGs X es u)
    (hs : (assignEach (e :: es) X.env).map (·.2) = assign e X.env :: (assignEach es X.env).map (·.2) := by rfl) : PGs X (e :: es) (gCons t u) := by
  intro pins s σ H vs us Q I r h
  obtain ⟨v, vr, e1, h⟩ := h
  subst e1
  cases r with
  | cons r rr =>
    rw [hs]
    refine assignInOrder_cons (thn (h1 pins s σ H _ _ _ I r h) fun _ s1 ⟨σ1, H1, I1, q1⟩ => ?_)
    exact h2 pins s1 σ1 H1 _ _ Q I1 rr q1
/-- (a, b, ..) = a tuple of that length -/
def gTup (K : PySem.W.Frag) (n : Nat) (t : TGs) : TG := fun v σ H Q => ∃ a xs, v = .ref a ∧ SqT K H a xs ∧ xs.length = n ∧ t xs σ H Q
theorem pg_tup {es : List Expr} {k : Nat} {t : TGs} {n : Nat} (hc : X.calm = true) (h : PGs X es t)
    (hn : (assignEach es X.env).length = n := by rfl) (hst : (assignEach es X.env).findIdx? (·.1) = none := by rfl) : PG X (.Tuple es k pos) (gTup X.K n t) := by
  intro pins s σ H v u Q I r hw
  obtain ⟨a, xs, e1, hq, hl, hw⟩ := hw
  subst e1
  cases r
  obtain ⟨its, rv, ht, hz⟩ := I.tuple hq
  refine assign_Tuple_tuple (I.ok.hd hc) ht (by simp [hn, ← hl, rv.length]) hst fun h' hx => ?_
  have I1 : Inv X pins σ H { s with heap := h' } := I.kept (t' := s.toks) fun b o e => hx b o (Nat.ne_of_lt (Heap.lt_size e)) e
  exact h pins _ σ H xs _ Q I1 (by simpa using rv) hw
/-- target = value -/
def tAsg (te : TE) (g : TG) : TS := fun D σ H => te σ H fun x H1 => g x σ H1 D.nx
theorem ps_asg {tg e : Expr} {te : TE} {g : TG} (he : PE X e te) (hg : PG X tg g) (hs : swapsWithSole [tg] e pos.line X.env = pure false := by rfl) (hw : swappedStores [tg] e X.env = pure none := by rfl)
    (h1 : (assignEach [tg] X.env).map (·.2) = [assign tg X.env] := by rfl) : PS X (.Assign [tg] e pos) (tAsg te g) := by
  intro pins s σ H D I h
  refine wpAny_Assign_stores (thn (he pins s σ H _ I h) fun v s1 ⟨x, H1, I1, r1, q1⟩ => ?_) hs hw
  rw [h1]
  exact thn (hg pins s1 σ H1 x v _ I1 r1 q1) fun _ s2 q => q
/-- name = value -/
theorem ps_set {i : Nat} {x : Str} {e : Expr} {te : TE} {pos' : Pos} (hN : X.N.Nodup) (hi : X.N[i]? = some x) (hx : Loc X.env.scope x) (he : PE X e te) (hs : swapsWith e (some (.Name x pos')) pos.line X.env = pure false := by rfl) (hf : X.fn x = true ∨ X.env.scope.names.lookup x = some .local := by first | exact .inl rfl | exact .inr rfl | assumption) :
    PS X (.Assign [.Name x pos'] e pos) (tAsg te (gName i)) := by
  intro pins s σ H D I h
  refine wpAny_Assign_Name (thn (he pins s σ H _ I h) fun v s1 ⟨y, H1, I1, r1, q1⟩ => ?_) hs
  exact store_ok I1 hN hi hx r1 (fun s2 I2 => ⟨_, H1, I2, q1⟩) hf
end

/-! ### while -/
section
variable {X : Cx} {pos : Pos}
/-- the invariant W with its measure -/
def tWhile (c : TT) (tb : TS) : TS := fun D σ H => ∃ W : Nat → St → Hp → Prop, (∃ m, W m σ H) ∧ ∀ m σ H, W m σ H →
  c σ H fun b H1 => if b = true then ∃ N : St → Hp → Prop, (∀ σ' H', N σ' H' → ∃ m', m' < m ∧ W m' σ' H') ∧ tb { D with nx := N, ct := N, bk := D.nx } σ H1 else D.nx σ H1
theorem ps_while {c : Expr} {body : List Stmt} {tc : TT} {tb : TS} (hp : PassesOwn (model X.prog X.w) X.A X.env X.xe) (hc : PT X c tc) (hb : PSs X body tb) : PS X (.While c body [] pos) (tWhile tc tb) := by
  intro pins s σ H D I h
  obtain ⟨W, ⟨m0, w0⟩, turn⟩ := h
  refine wpAny_While (codeAny_whileLoop (fun n s' => ∃ σ' H', Inv X pins σ' H' s' ∧ W n σ' H') ?_ m0 ⟨σ, H, I, w0⟩)
  rintro n s1 ⟨σ1, H1, I1, w1⟩
  refine wpAny_passesOwn hp (thn (hc pins s1 σ1 H1 _ I1 (turn n σ1 H1 w1)) fun b s2 ⟨H2, I2, q2⟩ => ?_)
  cases b with
  | true =>
    obtain ⟨N, hN, q2⟩ := q2
    rw [if_pos rfl]
    refine wpAny_passesOwn hp (thn (hb pins s2 σ1 H2 _ I2 q2) fun f s3 q3 => ?_)
    cases f with
    | next =>
      obtain ⟨σ3, H3, I3, n3⟩ := q3
      obtain ⟨m', hm, w3⟩ := hN σ3 H3 n3
      exact ⟨m', hm, σ3, H3, I3, w3⟩
    | cont =>
      obtain ⟨σ3, H3, I3, n3⟩ := q3
      obtain ⟨m', hm, w3⟩ := hN σ3 H3 n3
      exact ⟨m', hm, σ3, H3, I3, w3⟩
    | brk => exact q3
    | ret v => exact q3
  | false =>
    rw [if_neg Bool.false_ne_true]
    exact wpAny_execs_nil ⟨σ1, H2, I2, q2⟩
end

/-! ### what a loop or a comprehension walks -/
/-- at turn i: it yields x (the heap may grow), or it stops -/
structure It where
  go : Nat → Hp → Prop
  yld : Nat → Hp → V → Hp → Prop
  stop : Nat → Hp → Prop
/-- the iterator's own objects may turn: they are not the frame's, not pinned, younger than the entry (or a comprehension's own) -/
def FpOk (X : Cx) (pins : List (Addr × Obj)) (H : Hp) (b : Addr) : Prop :=
  H b = none ∧ b ≠ X.env.locals ∧ b ∉ X.fs ∧ (b ∈ X.ex ∨ X.s₀.heap.objs.size ≤ b) ∧ (∀ x c, X.env.cells.lookup x = some c → c ≠ b) ∧ ∀ p ∈ X.pn ++ pins, p.1 ≠ b
theorem Inv.fpOk {X : Cx} {pins : List (Addr × Obj)} {σ : St} {H H' : Hp} {s : Shared} {b : Addr} (I : Inv X pins σ H s) (hb : s.heap.objs.size ≤ b) (hn : H' b = none) : FpOk X pins H' b := by
  refine ⟨hn, Nat.ne_of_gt (Nat.lt_of_lt_of_le I.lt hb), I.nofs hb, .inr (Nat.le_trans I.sz hb), fun x c e z => ?_, fun p hp z => ?_⟩
  · obtain ⟨v, q⟩ := I.cell x c e
    exact absurd (Nat.lt_of_lt_of_le q.lt (by rw [z]; exact hb)) (Nat.lt_irrefl _)
  · exact absurd (Nat.lt_of_lt_of_le (Heap.lt_size (I.pin p hp).1) (by rw [z]; exact hb)) (Nat.lt_irrefl _)
structure Turn (P : Program) (w : World) (K : PySem.W.Frag) (tg : Expr) (J : It) (fp : List Addr) (it : Addr) (tn : Nat → Heap → Prop) : Prop where
  mem : it ∈ fp
  obj : ∀ i h, tn i h → ∀ b ∈ fp, ∃ o, h.get? b = some o ∧ ∀ v, o.data ≠ .cell v
  keep : ∀ i h h', tn i h → (∀ b ∈ fp, ∀ o, h.get? b = some o → h'.get? b = some o) → tn i h'
  item : ∀ (X : Cx), X.prog = P → X.w = w → X.K = K → X.calm = true → ∀ (i : Nat) (pins : List (Addr × Obj)) (s : Shared) (σ : St) (H : Hp) (E : Value → Shared → Prop), Inv X pins σ H s → (∀ b ∈ fp, FpOk X pins H b) → tn i s.heap → J.go i H →
    wpAny (model P w) X.A (pyNext (.ref it)) (fun r s1 => ∃ u, r = some u ∧
      wpAny (model P w) X.A (letOwnedTupleGo tg (.ref it) u) (fun _ s2 => ∃ x H', Inv X pins σ H' s2 ∧ RelV x u ∧ J.yld i H x H' ∧ tn (i + 1) s2.heap ∧ ∀ b ∈ fp, H' b = none) E s1) E s
  done : ∀ (X : Cx), X.prog = P → X.w = w → X.K = K → X.calm = true → ∀ (i : Nat) (pins : List (Addr × Obj)) (s : Shared) (σ : St) (H : Hp) (E : Value → Shared → Prop), Inv X pins σ H s → (∀ b ∈ fp, FpOk X pins H b) → tn i s.heap → J.stop i H →
    wpAny (model P w) X.A (pyNext (.ref it)) (fun r s1 => r = none ∧ Inv X pins σ H s1) E s
  self : ∀ (A : Around) (i : Nat) (s : Shared) (Q : Value → Shared → Prop) (E : Value → Shared → Prop), tn i s.heap → Q (.ref it) s → wpAny (model P w) A (pyIter (.ref it)) Q E s
abbrev TI := St → Hp → (It → Hp → Prop) → Prop
/-- an iterator has come -/
def PIE (X : Cx) (pins : List (Addr × Obj)) (σ : St) (tg : Expr) (R : It → Hp → Prop) (itv : Value) (s2 : Shared) : Prop :=
  ∃ (it : Addr) (fp : List Addr) (tn : Nat → Heap → Prop) (J : It) (H' : Hp), itv = .ref it ∧ Inv X pins σ H' s2 ∧ Turn X.prog X.w X.K tg J fp it tn ∧ tn 0 s2.heap ∧ (∀ b ∈ fp, FpOk X pins H' b) ∧ R J H'
def PI (X : Cx) (tg iter : Expr) (wi : TI) : Prop :=
  ∀ (pins : List (Addr × Obj)) (s : Shared) (σ : St) (H : Hp) (R : It → Hp → Prop), Inv X pins σ H s → wi σ H R →
    wpAny (model X.prog X.w) X.A (eval iter X.env) (fun v s1 => wpAny (model X.prog X.w) X.A (pyIter v) (PIE X pins σ tg R) X.xe s1) X.xe s

/-- the step ahead of the store is nothing for an iterator that keeps no tuple -/
theorem go_of {M : Model} {A : Around} {E : Value → Shared → Prop} {s : Shared} {tg : Expr} {it : Addr} {u : Value} {o : Obj} {n : String} {vs : Array Value} {Q : Unit → Shared → Prop} (ho : s.heap.get? it = some o) (hc : o.cls = .type n) (hd : o.data = .fields vs)
    (hn : ["enumerate", "zip", "dict_itemiterator", "dict_reverseitemiterator", "odict_iterator", "itertools.zip_longest", "itertools.pairwise"].contains n = false) (hQ : Q () s) : wpAny M A (letOwnedTupleGo tg (.ref it) u) Q E s := by
  unfold letOwnedTupleGo
  cases tg <;> first
    | exact wpAny_pure hQ
    | (cases u <;> first
        | exact wpAny_pure hQ
        | (refine wpAny_bind (wpAny_load ho ?_)
           rw [hc, hd]
           show wpAny M A (if (["enumerate", "zip", "dict_itemiterator", "dict_reverseitemiterator", "odict_iterator", "itertools.zip_longest", "itertools.pairwise"].contains n && vs[0]? == some (rawInt _)) = true then _ else _) Q E s
           rw [if_neg (by intro h; rw [hn, Bool.false_and] at h; cases h)]
           exact wpAny_pure hQ))

/-- the list at a, as it stands at each turn (a loop may append to it) -/
def Itl (K : PySem.W.Frag) (a : Addr) : It :=
  ⟨fun i H => ∃ xs x, SqL K H a xs ∧ xs[i]? = some x, fun i H x H' => H' = H ∧ ∀ xs, SqL K H a xs → xs[i]? = some x, fun i H => ∃ xs, SqL K H a xs ∧ xs.length ≤ i⟩
def Itt (K : PySem.W.Frag) (a : Addr) : It :=
  ⟨fun i H => ∃ xs x, SqT K H a xs ∧ xs[i]? = some x, fun i H x H' => H' = H ∧ ∀ xs, SqT K H a xs → xs[i]? = some x, fun i H => ∃ xs, SqT K H a xs ∧ xs.length ≤ i⟩
/-- lo, lo + 1, .. (n of them) -/
def Itr (lo : Int) (n : Nat) : It := ⟨fun i _ => i < n, fun i H x H' => H' = H ∧ x = .int (lo + i), fun i _ => n ≤ i⟩
theorem turn_list {P : Program} {w : World} {K : PySem.W.Frag} {tg : Expr} (a it : Addr) : Turn P w K tg (Itl K a) [it] it (fun i h => h.IsListIter it a i) where
  mem := by simp
  obj := fun i h st b hb => by
    have e : b = it := by simpa using hb
    subst e
    obtain ⟨o, e, c, d⟩ := st
    exact ⟨o, e, fun v z => by rw [d] at z; cases z⟩
  keep := fun i h h' st k => st.at fun o e => k it (by simp) o e
  item := by
    intro X hP hw hK hc i pins s σ H E I hf st hg
    subst hP hw hK
    obtain ⟨xs, x, hq, hx⟩ := hg
    obtain ⟨its, rv, p, hz⟩ := I.list hq
    obtain ⟨u, hu, ru⟩ := rv.get hx
    obtain ⟨f0, f1, f2, f3, f4, f5⟩ := hf it (by simp)
    refine wpAny_pyNext_list_item st p.isList (x := u) (by simpa using hu) fun h' st' sb => ?_
    have I1 : Inv X pins σ H { s with heap := h' } := I.turned (t' := s.toks) (fun b o hb e => (sb.2 b hb).trans e) f0 f1 f3 f4 f5
    obtain ⟨o, e, c, d⟩ := id st'
    exact ⟨u, rfl, go_of (s := { s with heap := h' }) e c d (by decide) ⟨x, H, I1, ru, ⟨rfl, fun ys hy => by rw [I.list_inj hy hq]; exact hx⟩, st', fun b hb => (hf b hb).1⟩⟩
  done := by
    intro X hP hw hK hc i pins s σ H E I hf st hg
    subst hP hw hK
    obtain ⟨xs, hq, hx⟩ := hg
    obtain ⟨its, rv, p, hz⟩ := I.list hq
    obtain ⟨f0, f1, f2, f3, f4, f5⟩ := hf it (by simp)
    have hl := rv.length
    exact wpAny_pyNext_list_end (I.ok.hd hc) st p.isList (by simp; omega) fun h' eb => ⟨rfl, I.turned (t' := s.toks) (fun b o hb e => eb b o hb e) f0 f1 f3 f4 f5⟩
  self := fun _ _ _ _ _ st h => wpAny_pyIter_listiter st h
theorem turn_tuple {P : Program} {w : World} {K : PySem.W.Frag} {tg : Expr} (a it : Addr) : Turn P w K tg (Itt K a) [it] it (fun i h => h.IsTupleIter it a i) where
  mem := by simp
  obj := fun i h st b hb => by
    have e : b = it := by simpa using hb
    subst e
    obtain ⟨o, e, c, d⟩ := st
    exact ⟨o, e, fun v z => by rw [d] at z; cases z⟩
  keep := fun i h h' st k => st.at fun o e => k it (by simp) o e
  item := by
    intro X hP hw hK hc i pins s σ H E I hf st hg
    subst hP hw hK
    obtain ⟨xs, x, hq, hx⟩ := hg
    obtain ⟨its, rv, p, hz⟩ := I.tuple hq
    obtain ⟨u, hu, ru⟩ := rv.get hx
    obtain ⟨f0, f1, f2, f3, f4, f5⟩ := hf it (by simp)
    refine wpAny_pyNext_tuple_item st (show s.heap.IsTuple a its.toArray from p) (x := u) (by simpa using hu) fun h' st' sb => ?_
    have I1 : Inv X pins σ H { s with heap := h' } := I.turned (t' := s.toks) (fun b o hb e => (sb.2 b hb).trans e) f0 f1 f3 f4 f5
    obtain ⟨o, e, c, d⟩ := id st'
    exact ⟨u, rfl, go_of (s := { s with heap := h' }) e c d (by decide) ⟨x, H, I1, ru, ⟨rfl, fun ys hy => by rw [I.tuple_inj hy hq]; exact hx⟩, st', fun b hb => (hf b hb).1⟩⟩
  done := by
    intro X hP hw hK hc i pins s σ H E I hf st hg
    subst hP hw hK
    obtain ⟨xs, hq, hx⟩ := hg
    obtain ⟨its, rv, p, hz⟩ := I.tuple hq
    obtain ⟨f0, f1, f2, f3, f4, f5⟩ := hf it (by simp)
    have hl := rv.length
    exact wpAny_pyNext_tuple_end (I.ok.hd hc) st (show s.heap.IsTuple a its.toArray from p) (by simp; omega) fun h' eb => ⟨rfl, I.turned (t' := s.toks) (fun b o hb e => eb b o hb e) f0 f1 f3 f4 f5⟩
  self := fun _ _ _ _ _ st h => wpAny_pyIter_tupleiter st h
theorem turn_range {P : Program} {w : World} {K : PySem.W.Frag} {tg : Expr} (it : Addr) (lo : Int) (n : Nat) : Turn P w K tg (Itr lo n) [it] it (fun i h => IsRangeIter h it (lo + (i : Nat) * 1) ((n : Int) - (i : Nat)) 1) where
  mem := by simp
  obj := fun i h st b hb => by
    have e : b = it := by simpa using hb
    subst e
    exact ⟨_, st, fun v z => by
      have z' : Data.fields _ = Data.cell v := z
      cases z'⟩
  keep := fun i h h' st k => k it (by simp) _ st
  item := by
    intro X hP hw hK hc i pins s σ H E I hf st hg
    subst hP hw hK
    obtain ⟨f0, f1, f2, f3, f4, f5⟩ := hf it (by simp)
    have W := Walks.range (prog := X.prog) (w := X.w) (I.ok.hd hc) it lo 1 n
    refine W.item i s _ _ hg st fun v h' tk hv st' kk => ?_
    obtain ⟨t, rfl⟩ := hv
    have I1 : Inv X pins σ H { s with heap := h', toks := tk } := I.turned (fun b o hb e => kk b o (by simpa using hb) e) f0 f1 f3 f4 f5
    refine ⟨_, rfl, go_of (s := { s with heap := h', toks := tk }) (n := "range_iterator") st' rfl rfl (by decide) ⟨.int (lo + i), H, I1, ⟨t, ?_⟩, ⟨rfl, rfl⟩, st', fun b hb => (hf b hb).1⟩⟩
    rw [Int.mul_one]
  done := by
    intro X hP hw hK hc i pins s σ H E I hf st hg
    subst hP hw hK
    obtain ⟨f0, f1, f2, f3, f4, f5⟩ := hf it (by simp)
    exact wpAny_pyNext_range_end (I.ok.hd hc) st (by have : n ≤ i := hg; omega) fun h' eb => ⟨rfl, I.turned (t' := s.toks) (fun b o hb e => eb b o hb e) f0 f1 f3 f4 f5⟩
  self := fun _ _ _ _ _ st h => wpAny_pyIter_rangeiter st h
end L2

namespace L2
open PySem PySem.Spec PyProof.Rows
section
variable {X : Cx} {tg : Expr}
def iList (K : PySem.W.Frag) (tl : TE) : TI := fun σ H R => tl σ H fun x H1 => ∃ a, x = .ref a ∧ (∃ xs, SqL K H1 a xs) ∧ R (Itl K a) H1
def iTup (K : PySem.W.Frag) (tl : TE) : TI := fun σ H R => tl σ H fun x H1 => ∃ a, x = .ref a ∧ (∃ xs, SqT K H1 a xs) ∧ R (Itt K a) H1
theorem pi_list {l : Expr} {tl : TE} (hl : PE X l tl) : PI X tg l (iList X.K tl) := by
  intro pins s σ H R I h
  refine thn (hl pins s σ H _ I h) fun v s1 ⟨x, H1, I1, r1, q1⟩ => ?_
  obtain ⟨a, e, ⟨xs, hq⟩, q⟩ := q1
  subst e
  cases r1
  obtain ⟨its, rv, p, hz⟩ := I1.list hq
  refine wpAny_pyIter_list p.isList ?_
  refine ⟨s1.heap.objs.size, [s1.heap.objs.size], _, _, H1, rfl, I1.kept (t' := s1.toks) fun b o e => Heap.get?_push_of_some _ e, turn_list a _, ⟨_, Heap.get?_push_size _ rfl, rfl, rfl⟩, fun b hb => ?_, q⟩
  have e : b = s1.heap.objs.size := by simpa using hb
  subst e
  exact I1.fpOk (Nat.le_refl _) (I1.hok.fresh (Nat.le_refl _))
theorem pi_tup {l : Expr} {tl : TE} (hl : PE X l tl) : PI X tg l (iTup X.K tl) := by
  intro pins s σ H R I h
  refine thn (hl pins s σ H _ I h) fun v s1 ⟨x, H1, I1, r1, q1⟩ => ?_
  obtain ⟨a, e, ⟨xs, hq⟩, q⟩ := q1
  subst e
  cases r1
  obtain ⟨its, rv, p, hz⟩ := I1.tuple hq
  refine wpAny_pyIter_tuple (show s1.heap.IsTuple a its.toArray from p) ?_
  refine ⟨s1.heap.objs.size, [s1.heap.objs.size], _, _, H1, rfl, I1.kept (t' := s1.toks) fun b o e => Heap.get?_push_of_some _ e, turn_tuple a _, ⟨_, Heap.get?_push_size _ rfl, rfl, rfl⟩, fun b hb => ?_, q⟩
  have e : b = s1.heap.objs.size := by simpa using hb
  subst e
  exact I1.fpOk (Nat.le_refl _) (I1.hok.fresh (Nat.le_refl _))
/-- a range object just made, walked -/
theorem range_it {pins : List (Addr × Obj)} {σ : St} {H : Hp} {s : Shared} {R : It → Hp → Prop} {E : Value → Shared → Prop} {lo hi : Int} {t u v : Tok} {tk : Nat} (I : Inv X pins σ H s) (h1 : -(2 ^ 62) ≤ lo) (h2 : lo < 2 ^ 62) (h3 : -(2 ^ 62) ≤ hi) (h4 : hi < 2 ^ 62)
    (q : R (Itr lo (hi - lo).toNat) H) : wpAny (model X.prog X.w) X.A (pyIter (.ref s.heap.objs.size)) (PIE X pins σ tg R) E { s with heap := s.heap.push { cls := .type "range", data := .fields #[.int lo t, .int hi u, .int 1 v] }, toks := tk } := by
  refine wpAny_pyIter_range (IsRange.new ..) (small_one h1 h2 h3 h4) ?_
  have I1 : Inv X pins σ H { s with heap := s.heap.push { cls := .type "range", data := .fields #[.int lo t, .int hi u, .int 1 v] }, toks := tk } := I.kept fun b o e => Heap.get?_push_of_some _ e
  refine ⟨(s.heap.push { cls := .type "range", data := .fields #[.int lo t, .int hi u, .int 1 v] }).objs.size, [(s.heap.push { cls := .type "range", data := .fields #[.int lo t, .int hi u, .int 1 v] }).objs.size], _, _, H, rfl,
    I1.kept (t' := tk) fun b o e => Heap.get?_push_of_some _ e, turn_range _ lo (hi - lo).toNat, ?_, fun b hb => ?_, q⟩
  · have e1 : lo + ((0 : Nat) : Int) * 1 = lo := by simp
    have e2 : (((hi - lo).toNat : Nat) : Int) - ((0 : Nat) : Int) = Builtin.Range.rangeSize lo hi 1 := by rw [rangeSize_one]; split <;> omega
    show IsRangeIter _ _ (lo + ((0 : Nat) : Int) * 1) ((((hi - lo).toNat : Nat) : Int) - ((0 : Nat) : Int)) 1
    rw [e1, e2]
    exact Heap.get?_push_size _ rfl
  · have e : b = (s.heap.push { cls := .type "range", data := .fields #[.int lo t, .int hi u, .int 1 v] }).objs.size := by simpa using hb
    subst e
    exact I1.fpOk (Nat.le_refl _) (I1.hok.fresh (Nat.le_refl _))
def iRng1 (ta : TA) : TI := fun σ H R => ta σ H fun vs H1 => ∃ j : Int, vs = [.int j] ∧ -(2 ^ 62) ≤ j ∧ j < 2 ^ 62 ∧ R (Itr 0 j.toNat) H1
def iRng2 (ta : TA) : TI := fun σ H R => ta σ H fun vs H1 => ∃ i j : Int, vs = [.int i, .int j] ∧ (-(2 ^ 62) ≤ i ∧ i < 2 ^ 62 ∧ -(2 ^ 62) ≤ j ∧ j < 2 ^ 62) ∧ R (Itr i (j - i).toNat) H1
theorem pi_range1 {a : Expr} {ta : TA} {p pos : Pos} (hg : Gl X "range") (hm : X.mg "range" = none) (ha : PA X [a] ta) (hs : starEach [a] X.env = [(false, eval a X.env)] := by rfl) : PI X tg (.Call (.Name "range" p) [a] [] pos) (iRng1 ta) := by
  intro pins s σ H R I h
  refine Call_ (ld_blt I hg hm boot_range (PyProof.Rows.callWith_type1 (thn (ha pos pins s σ H _ I h) fun us s1 ⟨vs, H1, I1, r1, q1⟩ => ?_) hs rfl))
  obtain ⟨j, e, q1, q2, q⟩ := q1
  subst e
  cases r1 with
  | cons r rr =>
    cases rr
    obtain ⟨t, rfl⟩ := r
    exact call_range_1 (range_it I1 (by omega) (by omega) q1 q2 (by simpa using q))
theorem pi_range2 {a b : Expr} {ta : TA} {p pos : Pos} (hg : Gl X "range") (hm : X.mg "range" = none) (ha : PA X [a, b] ta) (hs : starEach [a, b] X.env = [(false, eval a X.env), (false, eval b X.env)] := by rfl) (hs2 : starEach [b] X.env = [(false, eval b X.env)] := by rfl) :
    PI X tg (.Call (.Name "range" p) [a, b] [] pos) (iRng2 ta) := by
  intro pins s σ H R I h
  refine Call_ (ld_blt I hg hm boot_range (PyProof.Rows.callWith_type1 (thn (ha pos pins s σ H _ I h) fun us s1 ⟨vs, H1, I1, r1, q1⟩ => ?_) (by rw [hs, hs2]) (by rw [hs2]; rfl)))
  obtain ⟨i, j, e, ⟨q1, q2, q3, q4⟩, q⟩ := q1
  subst e
  cases r1 with
  | cons r rr =>
    cases rr with
    | cons r' rr =>
      cases rr
      obtain ⟨t, rfl⟩ := r
      obtain ⟨t', rfl⟩ := r'
      exact call_range_2 (range_it I1 q1 q2 q3 q4 q)

/-! ### for -/
/-- W: the invariant by the turn and a measure; N: what the body is to reach -/
def tFor (wi : TI) (g : TG) (tb : TS) : TS := fun D σ H => wi σ H fun J H1 => ∃ W : Nat → Nat → St → Hp → Prop, (∃ m, W 0 m σ H1) ∧ ∀ i m σ H, W i m σ H →
  (J.stop i H ∧ D.nx σ H) ∨ (J.go i H ∧ ∃ N : St → Hp → Prop, (∀ σ' H', N σ' H' → ∃ m', m' < m ∧ W (i + 1) m' σ' H') ∧ ∀ x H', J.yld i H x H' → g x σ H' fun σ2 H2 => tb { D with nx := N, ct := N, bk := D.nx } σ2 H2)
/-- the records at fp as they stand -/
def pinsAt (fp : List Addr) (h : Heap) : List (Addr × Obj) := fp.filterMap fun b => (h.get? b).map fun o => (b, o)
theorem mem_pinsAt {fp : List Addr} {h : Heap} {b : Addr} {o : Obj} (hb : b ∈ fp) (e : h.get? b = some o) : (b, o) ∈ pinsAt fp h := List.mem_filterMap.mpr ⟨b, hb, by rw [e]; rfl⟩
theorem of_pinsAt {fp : List Addr} {h : Heap} {p : Addr × Obj} (hp : p ∈ pinsAt fp h) : p.1 ∈ fp ∧ h.get? p.1 = some p.2 := by
  obtain ⟨b, hb, e⟩ := List.mem_filterMap.mp hp
  cases q : h.get? b with
  | none => rw [q] at e; cases e
  | some o =>
    rw [q] at e
    have e' : (b, o) = p := Option.some.inj e
    subst e'
    exact ⟨hb, q⟩
theorem Inv.pinned {pins : List (Addr × Obj)} {σ : St} {H : Hp} {s : Shared} {fp : List Addr} (I : Inv X pins σ H s) (hf : ∀ b ∈ fp, FpOk X pins H b) (ho : ∀ b ∈ fp, ∃ o, s.heap.get? b = some o ∧ ∀ v, o.data ≠ .cell v) : Inv X (pins ++ pinsAt fp s.heap) σ H s :=
  I.pins_of fun p hp => (List.mem_append.mp hp).elim (fun z => I.pin p (List.mem_append_right _ z)) fun z => by
    obtain ⟨hb, e⟩ := of_pinsAt z
    obtain ⟨f0, f1, f2, _⟩ := hf p.1 hb
    obtain ⟨o, e', d⟩ := ho p.1 hb
    rw [e] at e'; cases e'
    exact ⟨e, f0, f1, f2, d⟩
theorem Inv.unpinned {pins pl : List (Addr × Obj)} {σ : St} {H : Hp} {s : Shared} (I : Inv X (pins ++ pl) σ H s) : Inv X pins σ H s := I.pins_of fun p hp => I.pin p (List.mem_append_right _ (List.mem_append_left _ hp))
theorem ps_for {iter : Expr} {body : List Stmt} {wi : TI} {g : TG} {tb : TS} {pos : Pos} (hp : PassesOwn (model X.prog X.w) X.A X.env X.xe) (hc : X.calm = true) (hi : PI X tg iter wi) (hg : PG X tg g) (hb : PSs X body tb)
    (hs : ∀ x, foldedSetIterable iter X.env x = pure x := by intro _; rfl) : PS X (.For tg iter body [] pos) (tFor wi g tb) := by
  intro pins s σ H D I h
  refine wpAny_For (thn (hi pins s σ H _ I h) fun v s1 h1 => thn h1 fun itv s2 h2 => ?_) hs
  obtain ⟨it, fp, tn, J, H2, e, I2, T, st2, f2, W, ⟨m0, w0⟩, turn⟩ := h2
  subst e
  -- what stays true of the iterator's objects through the loop
  have stat : ∀ {H' : Hp}, (∀ b ∈ fp, H' b = none) → ∀ b ∈ fp, FpOk X pins H' b := fun hn b hb => ⟨hn b hb, (f2 b hb).2⟩
  refine codeAny_forLoop_any (fun n s' => ∃ i σ' H', Inv X pins σ' H' s' ∧ tn i s'.heap ∧ (∀ b ∈ fp, H' b = none) ∧ W i n σ' H') ?_ m0 ⟨0, σ, H2, I2, st2, fun b hb => (f2 b hb).1, w0⟩
  rintro n s3 ⟨i, σ3, H3, I3, st3, fr3, w3⟩
  rcases turn i n σ3 H3 w3 with ⟨stop, qn⟩ | ⟨go, N, hN, step⟩
  · refine wpAny_passesOwn hp (thn (T.done X rfl rfl rfl hc i pins s3 σ3 H3 X.xe I3 (stat fr3) st3 stop) fun r s4 ⟨hr, I4⟩ => ?_)
    subst hr
    exact wpAny_execs_nil ⟨σ3, H3, I4, qn⟩
  · refine wpAny_passesOwn hp (thn (T.item X rfl rfl rfl hc i pins s3 σ3 H3 X.xe I3 (stat fr3) st3 go) fun r s4 ⟨u, hr, h4⟩ => ?_)
    subst hr
    refine wpAny_passesOwn hp (thn h4 fun _ s5 ⟨x, H5, I5, r5, y5, st5, fr5⟩ => ?_)
    have I5' := I5.pinned (stat fr5) (T.obj _ _ st5)
    refine wpAny_passesOwn hp (thn (hg _ s5 σ3 H5 x u _ I5' r5 (step x H5 y5)) fun _ s6 ⟨σ6, H6, I6, q6⟩ => ?_)
    refine wpAny_passesOwn hp (thn (hb _ s6 σ6 H6 _ I6 q6) fun f s7 q7 => ?_)
    have again : ∀ {σ7 : St} {H7 : Hp}, Inv X (pins ++ pinsAt fp s5.heap) σ7 H7 s7 → N σ7 H7 → ∃ m, m < n ∧ ∃ i σ' H', Inv X pins σ' H' s7 ∧ tn i s7.heap ∧ (∀ b ∈ fp, H' b = none) ∧ W i m σ' H' := fun {σ7 H7} I7 n7 => by
      obtain ⟨m', hm, w7⟩ := hN σ7 H7 n7
      refine ⟨m', hm, i + 1, σ7, H7, I7.unpinned, T.keep _ _ _ st5 fun b hb o e => (I7.pin (b, o) (List.mem_append_right _ (List.mem_append_right _ (mem_pinsAt hb e)))).1, fun b hb => ?_, w7⟩
      obtain ⟨o, e, d⟩ := T.obj _ _ st5 b hb
      exact (I7.pin (b, o) (List.mem_append_right _ (List.mem_append_right _ (mem_pinsAt hb e)))).2.1
    cases f with
    | next => obtain ⟨σ7, H7, I7, n7⟩ := q7; exact again I7 n7
    | cont => obtain ⟨σ7, H7, I7, n7⟩ := q7; exact again I7 n7
    | brk => obtain ⟨σ7, H7, I7, q7⟩ := q7; exact ⟨σ7, H7, I7.unpinned, q7⟩
    | ret v => obtain ⟨x7, σ7, H7, I7, r7, q7⟩ := q7; exact ⟨x7, σ7, H7, I7.unpinned, r7, q7⟩
end

/-! ### the forms one uses -/
/-- over a list that the body leaves as it is -/
theorem for_list {K : PySem.W.Frag} {a : Addr} {xs : List V} {g : TG} {tb : TS} {D : Ends} {σ : St} {H : Hp} (Pv : Nat → St → Hp → Prop) (h0 : Pv 0 σ H) (hl : ∀ i σ H, i ≤ xs.length → Pv i σ H → SqL K H a xs)
    (hs : ∀ i x σ H, xs[i]? = some x → Pv i σ H → g x σ H fun σ2 H2 => tb { D with nx := Pv (i + 1), ct := Pv (i + 1), bk := D.nx } σ2 H2) (hd : ∀ σ H, Pv xs.length σ H → D.nx σ H) :
    ∃ W : Nat → Nat → St → Hp → Prop, (∃ m, W 0 m σ H) ∧ ∀ i m σ H, W i m σ H →
      ((Itl K a).stop i H ∧ D.nx σ H) ∨ ((Itl K a).go i H ∧ ∃ N : St → Hp → Prop, (∀ σ' H', N σ' H' → ∃ m', m' < m ∧ W (i + 1) m' σ' H') ∧ ∀ x H', (Itl K a).yld i H x H' → g x σ H' fun σ2 H2 => tb { D with nx := N, ct := N, bk := D.nx } σ2 H2) := by
  refine ⟨fun i m σ H => m = xs.length - i ∧ i ≤ xs.length ∧ Pv i σ H, ⟨xs.length, by simp, Nat.zero_le _, h0⟩, ?_⟩
  rintro i m σ H ⟨rfl, hi, p⟩
  have q := hl i σ H hi p
  by_cases hlt : i < xs.length
  · refine .inr ⟨⟨xs, xs[i], q, by simp [hlt]⟩, Pv (i + 1), fun σ' H' p' => ⟨xs.length - (i + 1), by omega, rfl, hlt, p'⟩, fun x H' y => ?_⟩
    obtain ⟨e, y⟩ := y
    subst e
    exact hs i x σ _ (y xs q) p
  · have e : i = xs.length := by omega
    subst e
    exact .inl ⟨⟨xs, q, Nat.le_refl _⟩, hd σ H p⟩
theorem for_range {lo : Int} {n : Nat} {g : TG} {tb : TS} {D : Ends} {σ : St} {H : Hp} (Pv : Nat → St → Hp → Prop) (h0 : Pv 0 σ H)
    (hs : ∀ i σ H, i < n → Pv i σ H → g (.int (lo + i)) σ H fun σ2 H2 => tb { D with nx := Pv (i + 1), ct := Pv (i + 1), bk := D.nx } σ2 H2) (hd : ∀ σ H, Pv n σ H → D.nx σ H) :
    ∃ W : Nat → Nat → St → Hp → Prop, (∃ m, W 0 m σ H) ∧ ∀ i m σ H, W i m σ H →
      ((Itr lo n).stop i H ∧ D.nx σ H) ∨ ((Itr lo n).go i H ∧ ∃ N : St → Hp → Prop, (∀ σ' H', N σ' H' → ∃ m', m' < m ∧ W (i + 1) m' σ' H') ∧ ∀ x H', (Itr lo n).yld i H x H' → g x σ H' fun σ2 H2 => tb { D with nx := N, ct := N, bk := D.nx } σ2 H2) := by
  refine ⟨fun i m σ H => m = n - i ∧ i ≤ n ∧ Pv i σ H, ⟨n, by simp, Nat.zero_le _, h0⟩, ?_⟩
  rintro i m σ H ⟨rfl, hi, p⟩
  by_cases hlt : i < n
  · refine .inr ⟨hlt, Pv (i + 1), fun σ' H' p' => ⟨n - (i + 1), by omega, rfl, hlt, p'⟩, fun x H' y => ?_⟩
    obtain ⟨e, y⟩ := y
    subst e y
    exact hs i σ _ hlt p
  · have e : i = n := by omega
    subst e
    exact .inl ⟨Nat.le_refl _, hd σ H p⟩
end L2

namespace L2
open PySem PySem.Spec PyProof.Rows

abbrev R2 := V → V → Hp → VK → Prop
/-- a two-place operation on values: f is binaryOp op, inplaceOp op or compareOp op -/
def OpR (X : Cx) (f : Value → Value → Sem Value) (r : R2) : Prop :=
  ∀ (pins : List (Addr × Obj)) (s : Shared) (σ : St) (H : Hp) (x y : V) (v u : Value) (Q : VK), Inv X pins σ H s → RelV x v → RelV y u → r x y H Q →
    wpAny (model X.prog X.w) X.A (f v u) (EP X pins σ Q) X.xe s
/-- a one-place operation -/
def UnR (X : Cx) (f : Value → Sem Value) (r : V → Hp → VK → Prop) : Prop :=
  ∀ (pins : List (Addr × Obj)) (s : Shared) (σ : St) (H : Hp) (x : V) (v : Value) (Q : VK), Inv X pins σ H s → RelV x v → r x H Q →
    wpAny (model X.prog X.w) X.A (f v) (EP X pins σ Q) X.xe s
/-- a call of a value that is known (a builtin, a type) with values -/
def CallR (X : Cx) (f : Value) (r : List V → Hp → VK → Prop) : Prop :=
  ∀ (pins : List (Addr × Obj)) (s : Shared) (σ : St) (H : Hp) (xs : List V) (us : List Value) (Q : VK), Inv X pins σ H s → Vals xs us → r xs H Q →
    wpAny (model X.prog X.w) X.A (call f us) (EP X pins σ Q) X.xe s
/-- a value's truth -/
def TruR (X : Cx) (r : V → Hp → (Bool → Hp → Prop) → Prop) : Prop :=
  ∀ (pins : List (Addr × Obj)) (s : Shared) (σ : St) (H : Hp) (x : V) (v : Value) (Q : Bool → Hp → Prop), Inv X pins σ H s → RelV x v → r x H Q →
    wpAny (model X.prog X.w) X.A (truthy v) (TP X pins σ Q) X.xe s

def tOp (r : R2) (ta tb : TE) : TE := fun σ H Q => ta σ H fun x H1 => tb σ H1 fun y H2 => r x y H2 Q
def tUn (r : V → Hp → VK → Prop) (ta : TE) : TE := fun σ H Q => ta σ H fun x H1 => r x H1 Q
/-- ints in, under C, and a value out -/
def rI (C : Int → Int → Prop) (g : Int → Int → V) : R2 := fun x y H Q => ∃ i j, x = .int i ∧ y = .int j ∧ C i j ∧ Q (g i j) H
def rI0 (g : Int → Int → V) : R2 := fun x y H Q => ∃ i j, x = .int i ∧ y = .int j ∧ Q (g i j) H
def rU (g : Int → V) : V → Hp → VK → Prop := fun x H Q => ∃ i, x = .int i ∧ Q (g i) H

section
variable {X : Cx} {a b c : Expr} {ta tb tc : TE} {pos : Pos}

theorem binT (ha : PE X a ta) (hb : PE X b tb) {pins : List (Addr × Obj)} {s : Shared} {σ : St} {H : Hp} {R : V → V → Hp → Prop} (I : Inv X pins σ H s)
    (h : ta σ H fun x H1 => tb σ H1 fun y H2 => R x y H2) {Q : Value → Shared → Prop} {f : Value → Value → Sem Value}
    (hf : ∀ v u s2 x y H2, Inv X pins σ H2 s2 → RelV x v → RelV y u → R x y H2 → wpAny (model X.prog X.w) X.A (f v u) Q X.xe s2) :
    wpAny (model X.prog X.w) X.A (eval a X.env) (fun v s₁ => wpAny (model X.prog X.w) X.A (eval b X.env) (fun u s₂ => wpAny (model X.prog X.w) X.A (f v u) Q X.xe s₂) X.xe s₁) X.xe s := by
  refine thn (ha pins s σ H _ I h) fun v s1 ⟨x, H1, I1, r1, q1⟩ => ?_
  refine thn (hb pins s1 σ H1 _ I1 q1) fun u s2 ⟨y, H2, I2, r2, q2⟩ => ?_
  exact hf v u s2 x y H2 I2 r1 r2 q2

theorem pe_op {op : Operator} {r : R2} (ho : OpR X (binaryOp op) r) (ha : PE X a ta) (hb : PE X b tb) : PE X (.BinOp a op b pos) (tOp r ta tb) := by
  intro pins s σ H Q I h
  exact wpAny_BinOp (binT ha hb I h fun v u s2 x y H2 I2 rx ry q => ho pins s2 σ H2 x y v u Q I2 rx ry q)
theorem pe_un {op : UnaryOp} {r : V → Hp → VK → Prop} (ho : UnR X (unaryOp op) r) (ha : PE X a ta) : PE X (.UnaryOp op a pos) (tUn r ta) := by
  intro pins s σ H Q I h
  exact UnaryOp_ (thn (ha pins s σ H _ I h) fun v s1 ⟨x, H1, I1, r1, q1⟩ => ho pins s1 σ H1 x v Q I1 r1 q1)
/-! ### ints -/
theorem opI {f : Value → Value → Sem Value} {C : Int → Int → Prop} {g : Int → Int → Int}
    (rule : ∀ (i j : Int) (t u : Tok) (s : Shared) (Q : Value → Shared → Prop) (E : Value → Shared → Prop), C i j → Q (.int (g i j) s.toks) { s with toks := s.toks + 1 } → wpAny (model X.prog X.w) X.A (f (.int i t) (.int j u)) Q E s) :
    OpR X f (rI C fun i j => .int (g i j)) := by
  intro pins s σ H x y v u Q I rx ry h
  obtain ⟨i, j, rfl, rfl, hc, q⟩ := h
  obtain ⟨t, rfl⟩ := rx
  obtain ⟨t', rfl⟩ := ry
  exact rule i j t t' s _ _ hc ⟨.int (g i j), H, I.tok _, ⟨_, rfl⟩, q⟩
theorem opI0 {f : Value → Value → Sem Value} {g : Int → Int → Int}
    (rule : ∀ (i j : Int) (t u : Tok) (s : Shared) (Q : Value → Shared → Prop) (E : Value → Shared → Prop), Q (.int (g i j) s.toks) { s with toks := s.toks + 1 } → wpAny (model X.prog X.w) X.A (f (.int i t) (.int j u)) Q E s) :
    OpR X f (rI0 fun i j => .int (g i j)) := by
  intro pins s σ H x y v u Q I rx ry h
  obtain ⟨i, j, rfl, rfl, q⟩ := h
  obtain ⟨t, rfl⟩ := rx
  obtain ⟨t', rfl⟩ := ry
  exact rule i j t t' s _ _ ⟨.int (g i j), H, I.tok _, ⟨_, rfl⟩, q⟩
theorem opB0 {f : Value → Value → Sem Value} {g : Int → Int → Bool}
    (rule : ∀ (i j : Int) (t u : Tok) (s : Shared) (Q : Value → Shared → Prop) (E : Value → Shared → Prop), Q (.bool (g i j)) s → wpAny (model X.prog X.w) X.A (f (.int i t) (.int j u)) Q E s) :
    OpR X f (rI0 fun i j => .bl (g i j)) := by
  intro pins s σ H x y v u Q I rx ry h
  obtain ⟨i, j, rfl, rfl, q⟩ := h
  obtain ⟨t, rfl⟩ := rx
  obtain ⟨t', rfl⟩ := ry
  exact rule i j t t' s _ _ ⟨.bl (g i j), H, I, rfl, q⟩

def CDiv (i j : Int) : Prop := 0 < j ∧ j < 1073741824
def CMul (i j : Int) : Prop := (-(2 ^ 64) < i ∧ i < 2 ^ 64) ∨ (-(2 ^ 64) < j ∧ j < 2 ^ 64)
theorem CMul.ok {i j : Int} (h : CMul i j) : IntMulOk i j := by
  rcases h with ⟨h1, h2⟩ | ⟨h1, h2⟩
  · exact .of_left (intBits_le_64 h1 h2)
  · exact .of_right (intBits_le_64 h1 h2)
theorem op_add : OpR X (binaryOp .Add) (rI0 fun i j => .int (i + j)) := opI0 fun _ _ _ _ _ _ _ q => add_int q
theorem op_sub : OpR X (binaryOp .Sub) (rI0 fun i j => .int (i - j)) := opI0 fun _ _ _ _ _ _ _ q => sub_int q
theorem op_mul : OpR X (binaryOp .Mult) (rI CMul fun i j => .int (i * j)) := opI fun _ _ _ _ _ _ _ hc q => mul_int q hc.ok
/-- // by a positive divisor -/
theorem op_fdiv : OpR X (binaryOp .FloorDiv) (rI CDiv fun i j => .int (i / j)) := opI fun i j _ _ _ _ _ hc q => by
  have h1 : (0 : Int) < j := hc.1
  have h2 : j < 1073741824 := hc.2
  exact floordiv_int (by omega) (by rw [Int.fdiv_eq_ediv_of_nonneg i (by omega)]; exact q) (.inl (PyProof.noPylong_small (by omega)))
/-- % by a positive divisor of any size -/
theorem op_mod : OpR X (binaryOp .Mod) (rI (fun _ j => 0 < j) fun i j => .int (i % j)) := opI fun i j _ _ _ _ _ hc q => by
  have h1 : (0 : Int) < j := hc
  exact mod_int' (by omega) (by rw [Int.fmod_eq_emod_of_nonneg i (by omega)]; exact q)
theorem unI {f : Value → Sem Value} {g : Int → Int}
    (rule : ∀ (i : Int) (t : Tok) (s : Shared) (Q : Value → Shared → Prop) (E : Value → Shared → Prop), Q (.int (g i) s.toks) { s with toks := s.toks + 1 } → wpAny (model X.prog X.w) X.A (f (.int i t)) Q E s) :
    UnR X f (rU fun i => .int (g i)) := by
  intro pins s σ H x v Q I rx h
  obtain ⟨i, rfl, q⟩ := h
  obtain ⟨t, rfl⟩ := rx
  exact rule i t s _ _ ⟨.int (g i), H, I.tok _, ⟨_, rfl⟩, q⟩
theorem un_neg : UnR X (unaryOp .USub) (rU fun i => .int (-i)) := unI fun _ _ _ _ _ q => neg_int q
/-! ### bools among ints: n += (a < b) -/
end

/-! ### comparisons -/
/-- the scalars that == tells apart as data does -/
def scal : V → V → Bool
  | .non, .non => true | .non, .int _ => true | .int _, .non => true | .non, .bl _ => true | .bl _, .non => true | .non, .str _ => true | .str _, .non => true
  | .int _, .int _ => true | .bl _, .bl _ => true | .str _, .str _ => true | .byt _, .byt _ => true
  | .int _, .str _ => true | .str _, .int _ => true | .bl _, .str _ => true | .str _, .bl _ => true
  | _, _ => false
def rEq : R2 := fun x y H Q => scal x y = true ∧ Q (.bl (decide (x = y))) H
def rNe : R2 := fun x y H Q => scal x y = true ∧ Q (.bl (!decide (x = y))) H

theorem dec_int {i j : Int} : decide (V.int i = V.int j) = (i == j) := by
  rw [Bool.eq_iff_iff]
  simp
theorem dec_bl {i j : Bool} : decide (V.bl i = V.bl j) = (i == j) := by
  rw [Bool.eq_iff_iff]
  simp
theorem dec_str {i j : Str} : decide (V.str i = V.str j) = (i == j) := by
  rw [Bool.eq_iff_iff]
  simp
theorem dec_byt {i j : Array UInt8} : decide (V.byt i = V.byt j) = (i.toList == j.toList) := by
  rw [Bool.eq_iff_iff]
  cases i
  cases j
  simp

section
variable {X : Cx} {a b c : Expr} {ta tb tc : TE} {pos : Pos}
theorem fin_bl {pins : List (Addr × Obj)} {σ : St} {H : Hp} {s : Shared} {Q : VK} {k k' : Bool} (I : Inv X pins σ H s) (q : Q (.bl k) H) (e : k = k') : EP X pins σ Q (.bool k') s := by
  subst e
  exact ⟨.bl k, H, I, rfl, q⟩
theorem op_eq : OpR X (compareOp .Eq) rEq := by
  intro pins s σ H x y v u Q I rx ry h
  obtain ⟨hs, q⟩ := h
  cases x with
  | non =>
    cases rx
    cases y with
    | non => cases ry; exact PySem.EqNone.eq_none_none (fin_bl I q (by simp))
    | bl j => cases ry; exact PySem.EqNone.eq_none_bool (fin_bl I q (by simp))
    | int j => obtain ⟨t', rfl⟩ := ry; exact PySem.EqNone.eq_none_int (fin_bl I q (by simp))
    | str j => obtain ⟨t', rfl⟩ := ry; exact PySem.EqNone.eq_none_str (fin_bl I q (by simp))
    | _ => exact absurd (show false = true from hs) Bool.false_ne_true
  | bl i =>
    cases rx
    cases y with
    | non => cases ry; exact PySem.EqNone.eq_bool_none (fin_bl I q (by simp))
    | bl j => cases ry; exact eq_bool (fin_bl I q dec_bl)
    | str j => obtain ⟨t', rfl⟩ := ry; exact PySem.EqMixed.eq_bool_str (fin_bl I q (by simp))
    | _ => exact absurd (show false = true from hs) Bool.false_ne_true
  | int i =>
    obtain ⟨t, rfl⟩ := rx
    cases y with
    | non => cases ry; exact PySem.EqNone.eq_int_none (fin_bl I q (by simp))
    | int j => obtain ⟨t', rfl⟩ := ry; exact eq_int (fin_bl I q dec_int)
    | str j => obtain ⟨t', rfl⟩ := ry; exact PySem.EqMixed.eq_int_str (fin_bl I q (by simp))
    | _ => exact absurd (show false = true from hs) Bool.false_ne_true
  | str i =>
    obtain ⟨t, rfl⟩ := rx
    cases y with
    | non => cases ry; exact PySem.EqNone.eq_str_none (fin_bl I q (by simp))
    | bl j => cases ry; exact PySem.EqMixed.eq_str_bool (fin_bl I q (by simp))
    | int j => obtain ⟨t', rfl⟩ := ry; exact PySem.EqMixed.eq_str_int (fin_bl I q (by simp))
    | str j => obtain ⟨t', rfl⟩ := ry; exact eq_str (fin_bl I q dec_str)
    | _ => exact absurd (show false = true from hs) Bool.false_ne_true
  | byt i =>
    obtain ⟨t, rfl⟩ := rx
    cases y with
    | byt j => obtain ⟨t', rfl⟩ := ry; exact PySem.W.eq_bytes (fin_bl I q dec_byt)
    | _ => exact absurd (show false = true from hs) Bool.false_ne_true
  | _ => cases y <;> exact absurd (show false = true from hs) Bool.false_ne_true
theorem op_ne : OpR X (compareOp .NotEq) rNe := by
  intro pins s σ H x y v u Q I rx ry h
  obtain ⟨hs, q⟩ := h
  cases x with
  | non =>
    cases rx
    cases y with
    | non => cases ry; exact PySem.EqNone.ne_none_none (fin_bl I q (by simp))
    | bl j => cases ry; exact PySem.EqNone.ne_none_bool (fin_bl I q (by simp))
    | int j => obtain ⟨t', rfl⟩ := ry; exact PySem.EqNone.ne_none_int (fin_bl I q (by simp))
    | str j => obtain ⟨t', rfl⟩ := ry; exact PySem.EqNone.ne_none_str (fin_bl I q (by simp))
    | _ => exact absurd (show false = true from hs) Bool.false_ne_true
  | bl i =>
    cases rx
    cases y with
    | non => cases ry; exact PySem.EqNone.ne_bool_none (fin_bl I q (by simp))
    | bl j => cases ry; exact ne_bool (fin_bl I q (congrArg not dec_bl))
    | str j => obtain ⟨t', rfl⟩ := ry; exact PySem.EqMixed.ne_bool_str (fin_bl I q (by simp))
    | _ => exact absurd (show false = true from hs) Bool.false_ne_true
  | int i =>
    obtain ⟨t, rfl⟩ := rx
    cases y with
    | non => cases ry; exact PySem.EqNone.ne_int_none (fin_bl I q (by simp))
    | int j => obtain ⟨t', rfl⟩ := ry; exact ne_int (fin_bl I q (congrArg not dec_int))
    | str j => obtain ⟨t', rfl⟩ := ry; exact PySem.EqMixed.ne_int_str (fin_bl I q (by simp))
    | _ => exact absurd (show false = true from hs) Bool.false_ne_true
  | str i =>
    obtain ⟨t, rfl⟩ := rx
    cases y with
    | non => cases ry; exact PySem.EqNone.ne_str_none (fin_bl I q (by simp))
    | bl j => cases ry; exact PySem.EqMixed.ne_str_bool (fin_bl I q (by simp))
    | int j => obtain ⟨t', rfl⟩ := ry; exact PySem.EqMixed.ne_str_int (fin_bl I q (by simp))
    | str j => obtain ⟨t', rfl⟩ := ry; exact ne_str (fin_bl I q (congrArg not dec_str))
    | _ => exact absurd (show false = true from hs) Bool.false_ne_true
  | byt i =>
    obtain ⟨t, rfl⟩ := rx
    cases y with
    | byt j => obtain ⟨t', rfl⟩ := ry; exact PySem.W.ne_bytes (fin_bl I q (congrArg not dec_byt))
    | _ => exact absurd (show false = true from hs) Bool.false_ne_true
  | _ => cases y <;> exact absurd (show false = true from hs) Bool.false_ne_true

theorem op_lt : OpR X (compareOp .Lt) (rI0 fun i j => .bl (decide (i < j))) := opB0 fun _ _ _ _ _ _ _ q => lt_int q
theorem op_le : OpR X (compareOp .LtE) (rI0 fun i j => .bl (decide (i ≤ j))) := opB0 fun _ _ _ _ _ _ _ q => le_int q
theorem op_gt : OpR X (compareOp .Gt) (rI0 fun i j => .bl (decide (j < i))) := opB0 fun _ _ _ _ _ _ _ q => gt_int q
theorem op_ge : OpR X (compareOp .GtE) (rI0 fun i j => .bl (decide (j ≤ i))) := opB0 fun _ _ _ _ _ _ _ q => ge_int q
/-- the one string within the other -/
theorem op_in_str : OpR X (compareOp .In) (fun x y H Q => ∃ i j, x = .str i ∧ y = .str j ∧ Q (.bl (!(Builtin.Str.occurrences j i 0 j.length 1).isEmpty)) H) := by
  intro pins s σ H x y v u Q I rx ry h
  obtain ⟨i, j, rfl, rfl, q⟩ := h
  obtain ⟨t, rfl⟩ := rx
  obtain ⟨t', rfl⟩ := ry
  exact in_str (fin_bl I q rfl)

/-- is None, is not None: the right side a value none -/
theorem op_isN : OpR X (compareOp .Is) (fun x y H Q => y = .non ∧ Q (.bl (decide (x = .non))) H) := by
  intro pins s σ H x y v u Q I rx ry h
  obtain ⟨rfl, q⟩ := h
  cases ry
  refine is_none_gen (fin_bl I q ?_)
  cases x <;> first
    | (cases rx; rfl)
    | (obtain ⟨t, rfl⟩ := rx; rfl)
theorem op_notN : OpR X (compareOp .IsNot) (fun x y H Q => y = .non ∧ Q (.bl (!decide (x = .non))) H) := by
  intro pins s σ H x y v u Q I rx ry h
  obtain ⟨rfl, q⟩ := h
  cases ry
  refine isnot_none_gen (fin_bl I q ?_)
  cases x <;> first
    | (cases rx; rfl)
    | (obtain ⟨t, rfl⟩ := rx; rfl)

/-- two rules for one operation: by cases -/
theorem OpR.or {f : Value → Value → Sem Value} {r r' : R2} (h : OpR X f r) (h' : OpR X f r') : OpR X f (fun x y H Q => r x y H Q ∨ r' x y H Q) := by
  intro pins s σ H x y v u Q I rx ry q
  rcases q with q | q
  · exact h pins s σ H x y v u Q I rx ry q
  · exact h' pins s σ H x y v u Q I rx ry q

theorem nomark (b : Expr) {op : CmpOp} (h : op ≠ .In := by decide) (h2 : op ≠ .NotIn := by decide) : behindInMarks op b = false := by
  have e1 : (op == CmpOp.In) = false := by cases op <;> first | rfl | exact absurd rfl h
  have e2 : (op == CmpOp.NotIn) = false := by cases op <;> first | rfl | exact absurd rfl h2
  cases b <;> simp [behindInMarks, e1, e2]
/-- a comparison as a value; hm: nomark b, or (for in, not in) by with_unfolding_all rfl -/
theorem pe_cmpR {op : CmpOp} {r : R2} (ho : OpR X (compareOp op) r) (ha : PE X a ta) (hb : PE X b tb) (hm : behindInMarks op b = false) : PE X (.Compare a [op] [b] pos) (tOp r ta tb) := by
  intro pins s σ H Q I h
  exact wpAny_Compare1 (binT ha hb I h fun v u s2 x y H2 I2 rx ry q => ho pins s2 σ H2 x y v u Q I2 rx ry q) hm
/-- a reading of a value as a test -/
def tTest (t : TE) : TT := fun σ H Q => t σ H fun x H' => ∃ k, x = .bl k ∧ Q k H'
theorem pt_cmpR {op : CmpOp} {r : R2} (ho : OpR X (compareOp op) r) (ha : PE X a ta) (hb : PE X b tb) (hm : behindInMarks op b = false) : PT X (.Compare a [op] [b] pos) (tTest (tOp r ta tb)) := by
  intro pins s σ H Q I h
  refine wpAny_isTrue_Compare1 (thn (ha pins s σ H _ I h) fun v s1 ⟨x, H1, I1, r1, q1⟩ => thn (hb pins s1 σ H1 _ I1 q1) fun u s2 ⟨y, H2, I2, r2, q2⟩ =>
    thn (ho pins s2 σ H2 x y v u _ I2 r1 r2 q2) fun c s3 ⟨z, H3, I3, r3, k, e, q3⟩ => ?_) hm
  subst e
  cases r3
  exact wpAny_truthy_bool ⟨H3, I3, q3⟩
/-- a op1 b op2 c -/
def tChain (r r' : R2) (ta tb tc : TE) : TE := fun σ H Q => ta σ H fun x H1 => tb σ H1 fun y H2 => r x y H2 fun z H3 => ∃ k, z = .bl k ∧
  (if k = true then tc σ H3 fun w' H4 => r' y w' H4 Q else Q (.bl false) H3)
theorem pe_chain {op op' : CmpOp} {r r' : R2} (ho : OpR X (compareOp op) r) (ho' : OpR X (compareOp op') r') (ha : PE X a ta) (hb : PE X b tb) (hc : PE X c tc)
    (hm : lastMarks [op, op'] [b, c] = false := by with_unfolding_all rfl) : PE X (.Compare a [op, op'] [b, c] pos) (tChain r r' ta tb tc) := by
  intro pins s σ H Q I h
  refine Compare_chain (thn (ha pins s σ H _ I h) fun v s1 ⟨x, H1, I1, r1, q1⟩ => chain_link (thn (hb pins s1 σ H1 _ I1 q1) fun u s2 ⟨y, H2, I2, r2, q2⟩ =>
    thn (ho pins s2 σ H2 x y v u _ I2 r1 r2 q2) fun d s3 ⟨z, H3, I3, r3, k, e, q3⟩ => ?_)) hm
  subst e
  cases r3
  refine wpAny_truthy_bool ?_
  cases k with
  | false => exact ite_ff ⟨.bl false, H3, I3, rfl, q3⟩
  | true => exact ite_tt (chain_last (thn (hc pins s3 σ H3 _ I3 q3) fun w' s4 ⟨z', H4, I4, r4, q4⟩ => ho' pins s4 σ H4 y z' u w' Q I4 r2 r4 q4))
/-! ### truth -/
/-- a value's truth by the abstract heap -/
def TruV (K : PySem.W.Frag) (x : V) (H : Hp) (k : Bool) : Prop :=
  match x with
  | .non => k = false
  | .bl b => k = b
  | .int i => k = (i != 0)
  | .str y => y.length ≤ sizeLine ∧ k = ((y.length : Int) != 0)
  | .byt y => y.size ≤ sizeLine ∧ k = ((y.size : Int) != 0)
  | .ref p => (∃ xs, SqL K H p xs ∧ k = !xs.isEmpty) ∨ (∃ xs, SqT K H p xs ∧ k = !xs.isEmpty) ∨ ∃ kvs, H p = some (.dK kvs) ∧ k = !kvs.isEmpty
  | _ => False
theorem isEmpty_kv {κ : Type} {kvs : List (κ × V)} {vs : List (κ × Value)} (r : KV kvs vs) : (!vs.isEmpty) = !kvs.isEmpty := by
  cases r <;> rfl
theorem isEmpty_of {xs : List V} {its : List Value} (r : Vals xs its) : (!its.toArray.isEmpty) = !xs.isEmpty := by
  cases r <;> simp
theorem line63 : (sizeLine : Nat) < 2 ^ 63 := by rw [sizeLine_eq]; decide
theorem tru_ok : TruR X (fun x H Q => ∃ k, TruV X.K x H k ∧ Q k H) := by
  intro pins s σ H x v Q I rx h
  obtain ⟨k, e, q⟩ := h
  have hl := line63
  have hs : sizeLine = 16777216 := sizeLine_eq
  cases x with
  | non =>
    cases rx
    have e' : k = false := e
    subst e'
    exact truthy_none ⟨H, I, q⟩
  | bl b =>
    cases rx
    have e' : k = b := e
    subst e'
    exact wpAny_truthy_bool ⟨H, I, q⟩
  | int i =>
    obtain ⟨t, rfl⟩ := rx
    have e' : k = (i != 0) := e
    subst e'
    exact PySem.P.truthy_int ⟨H, I, q⟩
  | str y =>
    obtain ⟨t, rfl⟩ := rx
    obtain ⟨hy, e'⟩ : y.length ≤ sizeLine ∧ k = ((y.length : Int) != 0) := e
    subst e'
    exact PySem.P.truthy_str (by omega) ⟨H, I.tok _, q⟩
  | byt y =>
    obtain ⟨t, rfl⟩ := rx
    obtain ⟨hy, e'⟩ : y.size ≤ sizeLine ∧ k = ((y.size : Int) != 0) := e
    subst e'
    exact PySem.W.truthy_bytes (by omega) ⟨H, I.tok _, q⟩
  | ref p =>
    cases rx
    have e' : (∃ xs, SqL X.K H p xs ∧ k = !xs.isEmpty) ∨ (∃ xs, SqT X.K H p xs ∧ k = !xs.isEmpty) ∨ ∃ kvs, H p = some (.dK kvs) ∧ k = !kvs.isEmpty := e
    rcases e' with ⟨xs, hx, e'⟩ | ⟨xs, hx, e'⟩ | ⟨kvs, hx, e'⟩
    · subst e'
      obtain ⟨its, r, pl, hz⟩ := I.list hx
      have hlen := r.length
      exact wpAny_truthy_list pl.isList (by simp only [List.size_toArray]; omega) ⟨H, I.tok _, by rw [isEmpty_of r]; exact q⟩
    · subst e'
      obtain ⟨its, r, pl, hz⟩ := I.tuple hx
      have hlen := r.length
      exact truthy_tuple pl (by simp only [List.size_toArray]; omega) ⟨H, I.tok _, by rw [isEmpty_of r]; exact q⟩
    · subst e'
      obtain ⟨hz, hS, vs, r, m⟩ : kvs.length ≤ sizeLine ∧ (p == sysModules) = false ∧ ∃ vs, KV kvs vs ∧ s.heap.DictOf (mixKind X.prog X.w) p vs := I.hok p _ hx
      have hlen : kvs.length = vs.length := Paired.length r
      exact wpAny_truthy_dict hS m (by omega) ⟨H, I.tok _, by rw [isEmpty_kv r]; exact q⟩
  | _ => exact (show False from e).elim
/-- any expression whose test is its value's truth (a name, a call, a subscript, a field ..: he by fun _ => rfl) -/
theorem pt_truth (ha : PE X a ta) (he : ∀ whole, isTrue a X.env whole = (do let v ← whole; standAt a.pos; holding [v] (truthy v))) :
    PT X a (fun σ H Q => ta σ H fun x H' => ∃ k, TruV X.K x H' k ∧ Q k H') := by
  intro pins s σ H Q I h
  exact isTrue_plain (thn (ha pins s σ H _ I h) fun v s1 ⟨x, H1, I1, r1, q1⟩ => tru_ok pins s1 σ H1 x v Q I1 r1 q1) (he _)

/-! ### strs and bytes -/
theorem op_add_str : OpR X (binaryOp .Add) (fun x y H Q => ∃ i j, x = .str i ∧ y = .str j ∧ i.length + j.length ≤ sizeLine ∧ Q (.str (i ++ j)) H) := by
  intro pins s σ H x y v u Q I rx ry h
  obtain ⟨i, j, rfl, rfl, hz, q⟩ := h
  obtain ⟨t, rfl⟩ := rx
  obtain ⟨t', rfl⟩ := ry
  exact add_str (fun t' tk => ⟨.str (i ++ j), H, I.tok _, ⟨_, rfl⟩, q⟩) hz
/-! ### scalar builtins, by CallR -/
theorem vals1 {x : V} {us : List Value} (r : Vals [x] us) : ∃ u, us = [u] ∧ RelV x u := by
  cases r with
  | cons r1 r2 => cases r2; exact ⟨_, rfl, r1⟩
theorem vals2 {x y : V} {us : List Value} (r : Vals [x, y] us) : ∃ u w', us = [u, w'] ∧ RelV x u ∧ RelV y w' := by
  cases r with
  | cons r1 r2 =>
    cases r2 with
    | cons r3 r4 => cases r4; exact ⟨_, _, rfl, r1, r3⟩
theorem call_max2 (hc : X.calm = true) : CallR X (.builtin "max") (fun xs H Q => ∃ i j, xs = [.int i, .int j] ∧ Q (.int (if j > i then j else i)) H) := by
  intro pins s σ H xs us Q I r h
  obtain ⟨i, j, rfl, q⟩ := h
  obtain ⟨u, w', rfl, ⟨t, rfl⟩, ⟨t', rfl⟩⟩ := vals2 r
  refine max_two_ints (I.ok.hd hc) fun h' tk k => ⟨_, H, I.kept k, ?_, q⟩
  by_cases hj : j > i
  · rw [if_pos hj, if_pos hj]; exact ⟨_, rfl⟩
  · rw [if_neg hj, if_neg hj]; exact ⟨_, rfl⟩
theorem call_min2 (hc : X.calm = true) : CallR X (.builtin "min") (fun xs H Q => ∃ i j, xs = [.int i, .int j] ∧ Q (.int (if j < i then j else i)) H) := by
  intro pins s σ H xs us Q I r h
  obtain ⟨i, j, rfl, q⟩ := h
  obtain ⟨u, w', rfl, ⟨t, rfl⟩, ⟨t', rfl⟩⟩ := vals2 r
  refine min_two_ints (I.ok.hd hc) fun h' tk k => ⟨_, H, I.kept k, ?_, q⟩
  by_cases hj : j < i
  · rw [if_pos hj, if_pos hj]; exact ⟨_, rfl⟩
  · rw [if_neg hj, if_neg hj]; exact ⟨_, rfl⟩
theorem call_int1 : CallR X (.type "int") (fun xs H Q => (∃ i, xs = [.int i] ∧ Q (.int i) H) ∨ ∃ k, xs = [.bl k] ∧ Q (.int (if k then 1 else 0)) H) := by
  intro pins s σ H xs us Q I r h
  rcases h with ⟨i, rfl, q⟩ | ⟨k, rfl, q⟩
  · obtain ⟨u, rfl, t, rfl⟩ := vals1 r
    exact call_int_int ⟨.int i, H, I, ⟨_, rfl⟩, q⟩
  · obtain ⟨u, rfl, r1⟩ := vals1 r
    cases r1
    exact call_int_bool ⟨.int (if k then 1 else 0), H, I.tok _, ⟨_, rfl⟩, q⟩
theorem call_bool1 : CallR X (.type "bool") (fun xs H Q => (∃ i, xs = [.int i] ∧ Q (.bl (i != 0)) H) ∨ ∃ k, xs = [.bl k] ∧ Q (.bl k) H) := by
  intro pins s σ H xs us Q I r h
  rcases h with ⟨i, rfl, q⟩ | ⟨k, rfl, q⟩
  · obtain ⟨u, rfl, t, rfl⟩ := vals1 r
    exact call_bool_int ⟨.bl (i != 0), H, I, rfl, q⟩
  · obtain ⟨u, rfl, r1⟩ := vals1 r
    cases r1
    exact call_bool_bool ⟨.bl k, H, I, rfl, q⟩
/-- divmod: a new tuple -/
theorem call_divmod : CallR X (.builtin "divmod") (fun xs H Q => ∃ i j, xs = [.int i, .int j] ∧ CDiv i j ∧ ∀ p, H p = none → Q (.ref p) (upd H p (.tup [.int (i / j), .int (i % j)]))) := by
  intro pins s σ H xs us Q I r h
  obtain ⟨i, j, rfl, ⟨h1, h2⟩, q⟩ := h
  obtain ⟨u, w', rfl, ⟨t, rfl⟩, ⟨t', rfl⟩⟩ := vals2 r
  refine divmod_int (by omega) ?_ (.inl (PyProof.noPylong_small (by omega)))
  rw [Int.fdiv_eq_ediv_of_nonneg i (by omega), Int.fmod_eq_emod_of_nonneg i (by omega)]
  have hn : H s.heap.objs.size = none := I.hok.fresh (Nat.le_refl _)
  refine ⟨.ref s.heap.objs.size, _, ?_, rfl, q _ hn⟩
  refine I.laid (fun b o e => Heap.get?_push_of_some _ e) (Nat.le_refl _) ⟨by simp only [List.length_cons, List.length_nil]; rw [sizeLine_eq]; decide, [.int (i / j) s.toks, .int (i % j) (s.toks + 1)], .cons ⟨_, rfl⟩ (.cons ⟨_, rfl⟩ .nil), ?_⟩
  exact ⟨_, Heap.get?_push_size s.heap rfl, rfl, 0, rfl⟩
end
end L2

namespace L2
open PySem PySem.Spec PyProof.Rows

/-! ### an instance, its attributes a map -/
structure ObjM (h : Heap) (x dx C : Addr) (mA : Str → Option Value) : Prop where
  obj : h.get? x = some (PySem.W.instObj C dx)
  ns : h.Ns1 dx mA
  ne : dx ≠ x

theorem lookIn_ns {h : Heap} {dx : Addr} {mA : Str → Option Value} (n : h.Ns1 dx mA) : ∃ od, h.get? dx = some od ∧ ∀ name, PySem.W.lookIn name od = some (mA name) := by
  obtain ⟨o, es, ep, ho, hd, hk, _, hm⟩ := n
  refine ⟨o, ho, fun name => ?_⟩
  have e := hm name
  unfold nsFind findBy at e
  rw [← Array.find?_toList] at e
  unfold PySem.W.lookIn
  rw [hd]
  dsimp only
  split
  · rename_i y q
    rw [q] at e
    exact congrArg some e
  · rename_i q
    rw [q] at e
    have a : es.toList.any (·.refKey) = false := by
      rw [List.any_eq_false]
      intro y hy
      obtain ⟨z, t, hkey⟩ := hk y (Array.mem_toList_iff.mp hy)
      simp [DictEntry.refKey, hkey]
    have a' : ¬ es.toList.any (·.refKey) = true := by rw [a]; exact Bool.false_ne_true
    rw [if_neg a']
    exact congrArg some e

theorem ObjM.look {h : Heap} {x dx C : Addr} {mA : Str → Option Value} (I : ObjM h x dx C mA) : ∃ od, PySem.W.InstAt h x (PySem.W.instObj C dx) C (some od) ∧ ∀ name, PySem.W.lookIn name od = some (mA name) :=
  let ⟨od, ho, hl⟩ := lookIn_ns I.ns
  ⟨od, ⟨I.obj, rfl, rfl, ho⟩, hl⟩

section
variable {prog : Program} {w : World} {A : Around} {E : Value → Shared → Prop} {s : Shared} {K : PySem.W.Frag} {x dx C f : Addr} {mA : Str → Option Value} {name : Str} {v : Value}

theorem get_map {expr : Bool} {Q : Value → Shared → Prop} (X : K.In s.heap) (I : ObjM s.heap x dx C mA) (hg : PySem.W.plainGet K C name = true) (hh : PySem.W.hasDictIn K C = true)
    (ha : PySem.W.findIn K (.ref C) name = some none) (hv : mA name = some v) (hv' : PySem.W.handedIn v = true) (h : Q v { s with toks := s.toks + 1 }) :
    wpAny (model prog w) A (getAttr (.ref x) name expr) Q E s := by
  obtain ⟨od, J, hl⟩ := I.look
  exact PySem.W.get_value X J (PySem.W.plainGet_of hg).1 (PySem.W.findObj_own hh ha rfl (by rw [hl, hv])) hv' h

theorem get_meth {pl : Sem Bool} {Q : Value × List Value → Shared → Prop} (X : K.In s.heap) (I : ObjM s.heap x dx C mA) (hg : PySem.W.plainGet K C name = true)
    (hf : PySem.W.findIn K (.ref C) name = some (some (.ref f))) (ht : PySem.W.isFn K (.ref f) = true) (hv : mA name = none) (h : Q (.ref f, [.ref x]) s) :
    wpAny (model prog w) A (getMethod (.ref x) name pl) Q E s := by
  obtain ⟨od, J, hl⟩ := I.look
  exact PySem.W.method_fn X J (PySem.W.plainGet_of hg).1 (PySem.W.plainGet_of hg).2 hf (beq_iff_eq.mp ht) (by show (PySem.W.lookIn name od).map (·.isSome) = some false; rw [hl, hv]; rfl) h

theorem set_map {ns : List Str} {Q : Unit → Shared → Prop} (X : K.In s.heap) (I : ObjM s.heap x dx C mA)
    (hs : PySem.W.findIn K (.ref C) "__setattr__" = some (some (.builtin "object.__setattr__"))) (hp : PySem.W.plainOver K C = true) (ht : PySem.W.takerIn K C name = some none) (hh : PySem.W.hasDictIn K C = true)
    (hw : PySem.Within mA ns) (hsz : ns.length ≤ sizeLine)
    (h : ∀ h', ObjM h' x dx C (fun y => if y = name then some v else mA y) → Heap.SameBut dx s.heap h' → Q () { s with heap := h', toks := s.toks + 2 }) :
    wpAny (model prog w) A (setAttr (.ref x) name v) Q E s := by
  obtain ⟨od, J, hl⟩ := I.look
  refine PySem.W.set_plain X J hs (PySem.W.osa_open (s := { s with toks := s.toks + 1 }) (r := none) X J hp ht fun b => ?_)
  obtain ⟨cd, hc, hd'⟩ := PySem.W.any_some hh
  have hx : s.heap.get? x = some ⟨.ref C, some dx, .plain, #[]⟩ := I.obj
  refine wpAny_bind (wpAny_pure (wpAny_bind (wpAny_bind (wpAny_loadPart hx (wpAny_bind (PySem.W.Looks.here (s := { s with toks := s.toks + 1 }) (PySem.W.looks_clsIn X hc) ?_))))))
  rw [hd']
  refine wpAny_pure (a := some dx) (wpAny_bind (wpAny_pure (wpAny_bind ?_)))
  refine wpAny_nsSet1 (s := { s with toks := s.toks + 1 }) I.ns fun h' hn2 hs2 => ?_
  obtain ⟨oD, esD, epD, hoD, hdD, hcD⟩ := hn2.count (PySem.Within.cons name v hw)
  refine wpAny_bind (wpAny_lookBehind hoD (by rw [hdD]; exact pastItsLine_dict (Nat.le_trans hcD (by rw [List.length_cons]; omega))) ?_)
  exact wpAny_pure (h _ ⟨(hs2.2 _ (Ne.symm I.ne)).trans I.obj, hn2, I.ne⟩ hs2)

/-- C(..): the dict at the heap's end, the instance behind it; then its __init__ -/
theorem make_map {R : Result → Shared → Prop} {vs : List Value} {kw : List (Str × Value)} (X : K.In s.heap) (hm : PySem.W.makesIn K C = true)
    (hi : PySem.W.findIn K (.ref C) "__init__" = some (some (.ref f))) (hf : PySem.W.typeIn K (.ref f) = some (.type "function"))
    (h : codeAny (model prog w) (A.under (.builtin "type.__call__" ⟨.ref C :: vs, kw⟩)) (.call (.ref f) ⟨.ref (s.heap.objs.size + 1) :: vs, kw⟩) (PySem.W.InitBack (s.heap.objs.size + 1) R)
      { s with heap := (s.heap.push PySem.W.emptyDict).push (PySem.W.instObj C s.heap.objs.size) }) :
    codeAny (model prog w) A (.call (.ref C) ⟨vs, kw⟩) R s := by
  obtain ⟨hh, g, d, t, os⟩ := s
  exact PySem.W.make_core (PySem.W.makes_of X hm) (PySem.W.looks_findIn X hi) (fun self => PySem.W.bind_fn X self hf) (.inl rfl) h
end

/-! ### the attributes as a list of pairs -/
def putF (f : Str) (v : V) : List (Str × V) → List (Str × V)
  | [] => [(f, v)]
  | (g, x) :: r => if g = f then (g, v) :: r else (g, x) :: putF f v r
theorem lookup_putF (f g : Str) (v : V) : ∀ fs : List (Str × V), (putF f v fs).lookup g = if g = f then some v else fs.lookup g
  | [] => by
    show List.lookup g [(f, v)] = _
    by_cases h : g = f
    · have hb : (g == f) = true := beq_iff_eq.mpr h
      simp only [List.lookup, hb, if_pos h]
    · have hb : (g == f) = false := beq_eq_false_iff_ne.mpr h
      simp only [List.lookup, hb, if_neg h]
  | (k, x) :: r => by
    have ih := lookup_putF f g v r
    rw [show putF f v ((k, x) :: r) = (if k = f then (k, v) :: r else (k, x) :: putF f v r) from rfl]
    by_cases hk : k = f
    · rw [if_pos hk]
      by_cases h : g = k
      · have hb : (g == k) = true := beq_iff_eq.mpr h
        simp only [List.lookup, hb, if_pos (h.trans hk)]
      · have hb : (g == k) = false := beq_eq_false_iff_ne.mpr h
        simp only [List.lookup, hb, if_neg (fun e : g = f => h (e.trans hk.symm))]
    · rw [if_neg hk]
      by_cases h : g = k
      · have hb : (g == k) = true := beq_iff_eq.mpr h
        simp only [List.lookup, hb, if_neg (fun e : g = f => hk (h.symm.trans e))]
      · have hb : (g == k) = false := beq_eq_false_iff_ne.mpr h
        simp only [List.lookup, hb]
        exact ih
theorem keys_putF (f : Str) (v : V) : ∀ fs : List (Str × V), f ∈ (putF f v fs).map (·.1) ∧ ∀ g, g ∈ fs.map (·.1) → g ∈ (putF f v fs).map (·.1)
  | [] => ⟨by simp [putF], fun g h => by simp at h⟩
  | (k, x) :: r => by
    obtain ⟨i1, i2⟩ := keys_putF f v r
    rw [show putF f v ((k, x) :: r) = (if k = f then (k, v) :: r else (k, x) :: putF f v r) from rfl]
    by_cases hk : k = f
    · rw [if_pos hk]
      subst hk
      exact ⟨by simp, fun g h => by simpa using h⟩
    · rw [if_neg hk]
      refine ⟨?_, fun g h => ?_⟩
      · rw [List.map_cons]
        exact List.mem_cons_of_mem _ i1
      · rw [List.map_cons] at h ⊢
        rcases List.mem_cons.mp h with e | e
        · exact List.mem_cons.mpr (.inl e)
        · exact List.mem_cons_of_mem _ (i2 g e)
theorem length_putF (f : Str) (v : V) : ∀ fs : List (Str × V), (putF f v fs).length ≤ fs.length + 1
  | [] => by simp [putF]
  | (k, x) :: r => by
    have ih := length_putF f v r
    rw [show putF f v ((k, x) :: r) = (if k = f then (k, v) :: r else (k, x) :: putF f v r) from rfl]
    by_cases hk : k = f
    · rw [if_pos hk, List.length_cons, List.length_cons]; omega
    · rw [if_neg hk, List.length_cons, List.length_cons]; omega

theorem RelO.some_of {v : V} {o : Option Value} (r : RelO (some v) o) : ∃ u, o = some u ∧ RelV v u := by
  cases o with
  | none => exact (show False from r).elim
  | some u => exact ⟨u, rfl, r⟩
theorem RelO.none_of {o : Option Value} (r : RelO none o) : o = none := by
  cases o with
  | none => rfl
  | some u => exact (show False from r).elim
theorem handed_of {v : V} {u : Value} (r : RelV v u) : PySem.W.handedIn u = true := by
  cases v with
  | non => cases (show u = Value.none from r); rfl
  | bl b => cases (show u = Value.bool b from r); rfl
  | int i => obtain ⟨t, e⟩ := (show ∃ t, u = Value.int i t from r); cases e; rfl
  | str x => obtain ⟨t, e⟩ := (show ∃ t, u = Value.str x t from r); cases e; rfl
  | byt b => obtain ⟨t, e⟩ := (show ∃ t, u = Value.bytes b t from r); cases e; rfl
  | flt b => obtain ⟨t, e⟩ := (show ∃ t, u = Value.float b t from r); cases e; rfl
  | ref a => cases (show u = Value.ref a from r); rfl
  | ty n => cases (show u = Value.type n from r); rfl

section
variable {P : Program} {w : World} {H H' : Hp} {h h' : Heap} {a C dx : Addr} {fs fs' : List (Str × V)}
theorem ins_get (hok : HOk P w H h) (e : H a = some (.ins C dx fs)) : ∃ mA, ObjM h a dx C mA ∧ (∀ f, RelO (fs.lookup f) (mA f)) ∧ PySem.Within mA (fs.map (·.1)) ∧ fs.length ≤ 1000 ∧ H dx = some (.own a) := by
  obtain ⟨d, z, ne, ob, mA, n, r, q⟩ := (show ObjOk P w H h a (.ins C dx fs) from hok a _ e)
  exact ⟨mA, ⟨ob, n, ne⟩, r, q, z, d⟩
end

/-! ### what of the text a class must have -/
structure Cls (K : PySem.W.Frag) (C : Addr) : Prop where
  pg : PySem.W.plainGet K C Str.empty = true
  hd : PySem.W.hasDictIn K C = true
  po : PySem.W.plainOver K C = true
  sa : PySem.W.findIn K (.ref C) "__setattr__" = some (some (.builtin "object.__setattr__"))
theorem Cls.get {K : PySem.W.Frag} {C : Addr} (c : Cls K C) (f : Str) : PySem.W.plainGet K C f = true := c.pg
/-- no class of it has the name -/
def NoAttr (K : PySem.W.Frag) (C : Addr) (f : Str) : Prop := PySem.W.findIn K (.ref C) f = some none
theorem NoAttr.taker {K : PySem.W.Frag} {C : Addr} {f : Str} (n : NoAttr K C f) : PySem.W.takerIn K C f = some none := by
  unfold PySem.W.takerIn
  rw [show PySem.W.findIn K (.ref C) f = some none from n]
  rfl
/-- a constant of the class -/
structure Con (K : PySem.W.Frag) (C : Addr) (f : Str) (v : V) (u : Value) : Prop where
  at_ : PySem.W.findIn K (.ref C) f = some (some u)
  rel : RelV v u
  get : PySem.W.specialIn K u "__get__" = some none
  cp : PySem.W.copiedNames.contains f = false
/-- a method: a plain def of the class or of one above it -/
structure Meth (K : PySem.W.Frag) (C : Addr) (m : Str) (f : Addr) : Prop where
  at_ : PySem.W.findIn K (.ref C) m = some (some (.ref f))
  fn : PySem.W.isFn K (.ref f) = true
  kp : PySem.W.keepIn K (.ref f) = true

section
variable {X : Cx} {pins : List (Addr × Obj)} {σ : St} {H : Hp} {s : Shared} {a C dx : Addr} {fs : List (Str × V)} {f : Str} {v : V} {A : Around} {E : Value → Shared → Prop}

theorem getattr_ok {b : Bool} {Q : Value → Shared → Prop} (I : Inv X pins σ H s) (e : H a = some (.ins C dx fs)) (c : Cls X.K C) (n : NoAttr X.K C f) (l : fs.lookup f = some v)
    (h : ∀ u s', Inv X pins σ H s' → RelV v u → Q u s') : wpAny (model X.prog X.w) A (getAttr (.ref a) f b) Q E s := by
  obtain ⟨mA, O, r, _, _, _⟩ := ins_get I.hok e
  obtain ⟨u, hu, ru⟩ := RelO.some_of (v := v) (o := mA f) (by rw [← l]; exact r f)
  exact get_map I.kIn O (c.get f) c.hd n hu (handed_of ru) (h u _ (I.tok _) ru)

theorem getmeth_ok {m : Str} {g : Addr} {pl : Sem Bool} {Q : Value × List Value → Shared → Prop} (I : Inv X pins σ H s) (e : H a = some (.ins C dx fs)) (c : Cls X.K C) (k : Meth X.K C m g) (l : fs.lookup m = none)
    (h : Q (.ref g, [.ref a]) s) : wpAny (model X.prog X.w) A (getMethod (.ref a) m pl) Q E s := by
  obtain ⟨mA, O, r, _, _, _⟩ := ins_get I.hok e
  have hn : mA m = none := RelO.none_of (by rw [← l]; exact r m)
  exact get_meth I.kIn O (c.get m) k.at_ k.fn hn h

theorem setattr_ok {y : V} {u : Value} {Q : Unit → Shared → Prop} (I : Inv X pins σ H s) (e : H a = some (.ins C dx fs)) (c : Cls X.K C) (n : NoAttr X.K C f) (hl : fs.length < 1000) (ry : RelV y u)
    (h : ∀ s', Inv X pins σ (upd H a (.ins C dx (putF f y fs))) s' → Q () s') : wpAny (model X.prog X.w) A (setAttr (.ref a) f u) Q E s := by
  obtain ⟨mA, O, r, wi, _, ho⟩ := ins_get I.hok e
  have hz : (fs.map (·.1)).length ≤ sizeLine := by rw [List.length_map, sizeLine_eq]; omega
  refine set_map I.kIn O c.sa c.po n.taker c.hd wi hz fun h' O' sb => h _ ?_
  have hd : ∃ o, h'.get? dx = some o := let ⟨o, _, _, e', _⟩ := O'.ns; ⟨o, e'⟩
  refine I.write (x := a) (e := dx) (by rw [e]; exact True.intro) (.inr ho) (fun b q hb z => (sb.2 b hb).trans z) hd ?_
  refine ⟨by rw [upd_ne O.ne]; exact ho, ?_, O.ne, O'.obj, _, O'.ns, fun g => ?_, fun g hg => ?_⟩
  · have := length_putF f y fs; omega
  · show RelO ((putF f y fs).lookup g) (if g = f then some u else mA g)
    rw [lookup_putF]
    by_cases q : g = f
    · rw [if_pos q, if_pos q]; exact ry
    · rw [if_neg q, if_neg q]; exact r g
  · by_cases q : g = f
    · rw [q]; exact (keys_putF f y fs).1
    · refine (keys_putF f y fs).2 g (wi g fun z => hg ?_)
      show (if g = f then some u else mA g) = none
      rw [if_neg q]; exact z

/-- a new instance, tracked, without attributes -/
theorem Inv.made (I : Inv X pins σ H s) : Inv X pins σ (upd (upd H s.heap.objs.size (.own (s.heap.objs.size + 1))) (s.heap.objs.size + 1) (.ins C s.heap.objs.size []))
    { s with heap := (s.heap.push PySem.W.emptyDict).push (PySem.W.instObj C s.heap.objs.size) } := by
  have e1 : (s.heap.push PySem.W.emptyDict).get? s.heap.objs.size = some PySem.W.emptyDict := Heap.get?_push_size s.heap rfl
  have e2 : ((s.heap.push PySem.W.emptyDict).push (PySem.W.instObj C s.heap.objs.size)).get? (s.heap.objs.size + 1) = some (PySem.W.instObj C s.heap.objs.size) := by
    have := Heap.get?_push_size (s.heap.push PySem.W.emptyDict) (o := PySem.W.instObj C s.heap.objs.size) rfl
    rwa [Heap.size_push] at this
  have e3 : (s.heap.push PySem.W.emptyDict).Ns s.heap.objs.size (fun _ => none) := ⟨PySem.W.emptyDict, #[], _, e1, rfl, (fun e he => absurd he (by simp)), fun _ => rfl⟩
  have I1 := I.laid (a := s.heap.objs.size) (o := .own (s.heap.objs.size + 1)) (h' := s.heap.push PySem.W.emptyDict) (t' := s.toks) (fun b u q => Heap.get?_push_of_some _ q) (Nat.le_refl _) ⟨_, e1⟩
  refine I1.laid (a := s.heap.objs.size + 1) (o := .ins C s.heap.objs.size []) (t' := s.toks) (fun b u q => Heap.get?_push_of_some _ q) (Nat.le_of_eq (Heap.size_push _ _)) ?_
  have ne : s.heap.objs.size ≠ s.heap.objs.size + 1 := Nat.ne_of_lt (Nat.lt_succ_self _)
  refine ⟨by rw [upd_ne ne, upd_same], Nat.zero_le _, ne, e2, fun _ => none, (Heap.Ns1.of_empty e3).at fun o q => Heap.get?_push_of_some _ q, fun _ => True.intro, fun y hy => absurd rfl hy⟩

/-- e.f where nothing but the object is asked: through attributeBase (super) and the last hold -/
theorem attr_of {prog : Program} {w : World} {env : Env} {e : Expr} {f : Str} {pos : Pos} {s : Shared} {Q : Value → Shared → Prop} (hb : attributeBase e f env (eval e env) = eval e env)
    (h : wpAny (model prog w) A (eval e env) (fun o s₁ => wpAny (model prog w) A (getAttr o f true) Q E s₁) E s) : wpAny (model prog w) A (eval (.Attribute e f pos) env) Q E s :=
  Attribute_any_ h (by rw [arm_eval_Attribute, hb])
end

/-! ### readings and rules -/
/-- e.f, an attribute of the instance -/
def tFld (K : PySem.W.Frag) (ta : TE) (f : Str) : TE := fun σ H Q => ta σ H fun x H1 => ∃ a C dx fs v, x = .ref a ∧ H1 a = some (.ins C dx fs) ∧ Cls K C ∧ NoAttr K C f ∧ fs.lookup f = some v ∧ Q v H1
/-- e.f = value -/
def sFld (K : PySem.W.Frag) (ta tv : TE) (f : Str) : TS := fun D σ H => tv σ H fun y H1 => ta σ H1 fun x H2 => ∃ a C dx fs, x = .ref a ∧ H2 a = some (.ins C dx fs) ∧ Cls K C ∧ NoAttr K C f ∧ fs.length < 1000 ∧
  D.nx σ (upd H2 a (.ins C dx (putF f y fs)))
section
variable {X : Cx} {o e value : Expr} {f : Str} {pos pos' tpos : Pos} {ta tv : TE}
theorem pe_fld (he : PE X e ta) (hb : attributeBase e f X.env (eval e X.env) = eval e X.env) : PE X (.Attribute e f pos) (tFld X.K ta f) := by
  intro pins s σ H Q I h
  refine attr_of hb (thn (he pins s σ H _ I h) fun u s1 ⟨x, H1, I1, rx, a, C, dx, fs, v, ex, ea, c, n, l, q⟩ => ?_)
  subst ex
  obtain rfl : u = Value.ref a := rx
  exact getattr_ok I1 ea c n l fun u' s2 I2 ru => ⟨v, H1, I2, ru, q⟩
theorem ps_fld (ha : PE X o ta) (hv : PE X value tv) (hs : swapsWith value (some (.Attribute o f pos')) pos.line X.env = pure false) : PS X (.Assign [.Attribute o f pos'] value pos) (sFld X.K ta tv f) := by
  intro pins s σ H D I h
  refine plainObj_wpAny_Assign_Attribute (thn (hv pins s σ H _ I h) fun u s1 ⟨y, H1, I1, ry, q⟩ => thn (ha pins s1 σ H1 _ I1 q) fun ov s2 ⟨x, H2, I2, rx, a, C, dx, fs, ex, ea, c, n, l, q2⟩ => ?_) hs
  subst ex
  obtain rfl : ov = Value.ref a := rx
  exact setattr_ok I2 ea c n l ry fun s3 I3 => ⟨σ, _, I3, q2⟩
end

/-! ### isinstance -/
section
variable {X : Cx} {pins : List (Addr × Obj)} {σ : St} {H : Hp} {s : Shared} {A : Around} {E : Value → Shared → Prop} {Q : Value → Shared → Prop} {c : Value} {b : Bool}
/-- the type of a value, as the fragment's deciders take it; for an instance its class -/
inductive TyOf (K : PySem.W.Frag) (H : Hp) : V → Value → Prop where
  | non : TyOf K H .non (.type "NoneType")
  | bl (x : Bool) : TyOf K H (.bl x) (.type "bool")
  | int (i : Int) : TyOf K H (.int i) (.type "int")
  | str (x : Str) : TyOf K H (.str x) (.type "str")
  | flt (x : UInt64) : TyOf K H (.flt x) (.type "float")
  | lst {a : Addr} {xs : List V} (e : H a = some (.lst xs)) : TyOf K H (.ref a) (.type "list")
  | frz {a : Addr} {o : Obj} {xs : List V} (e : H a = some (.frz o (.lst xs))) : TyOf K H (.ref a) (.type "list")
  | tup {a : Addr} {xs : List V} (e : H a = some (.tup xs)) : TyOf K H (.ref a) (.type "tuple")
  | dK {a : Addr} {kvs : List (Key × V)} (e : H a = some (.dK kvs)) : TyOf K H (.ref a) (.type "dict")
  | dT {a : Addr} {kvs : List (List Key × V)} (e : H a = some (.dT kvs)) : TyOf K H (.ref a) (.type "dict")
  | ins {a C dx : Addr} {fs : List (Str × V)} (e : H a = some (.ins C dx fs)) (cl : Cls K C) (ha : PySem.W.findIn K (.ref C) "__class__" = some (some (.builtin "object.__class__")))
      (hn : PySem.W.specialIn K (.builtin "object.__class__") "__get__" = some (some (.builtin "getset_descriptor.__get__"))) (htk : PySem.W.takesIn K (.builtin "object.__class__") = some true)
      (hm : PySem.W.mroIn K C (.type "object") = some true) : TyOf K H (.ref a) (.ref C)
/-- isinstance(x, c) for one class c, a built-in or an own one: kitOne's answer -/
theorem isinst_ok {x : V} {u t : Value} (I : Inv X pins σ H s) (rx : RelV x u) (ty : TyOf X.K H x t) (e : PySem.W.kitOne X.K t c = some b) (h : ∀ tk, Q (.bool b) { s with toks := tk }) :
    wpAny (model X.prog X.w) A (call (.builtin "isinstance") [u, c]) Q E s := by
  cases ty with
  | non => cases (show u = Value.none from rx); exact PySem.W.kia_one PySem.W.kitx_none I.kIn True.intro e (fun z => nomatch z) h
  | bl y => cases (show u = Value.bool y from rx); exact PySem.W.kia_one PySem.W.kitx_bool I.kIn True.intro e (fun z => nomatch z) h
  | int i => obtain ⟨t, q⟩ := (show ∃ t, u = Value.int i t from rx); cases q; exact PySem.W.kia_one PySem.W.kitx_int I.kIn True.intro e (fun z => nomatch z) h
  | str y => obtain ⟨t, q⟩ := (show ∃ t, u = Value.str y t from rx); cases q; exact PySem.W.kia_one PySem.W.kitx_str I.kIn True.intro e (fun z => nomatch z) h
  | flt y => obtain ⟨t, q⟩ := (show ∃ t, u = Value.float y t from rx); cases q; exact PySem.W.kia_one PySem.W.kitx_float I.kIn True.intro e (fun z => nomatch z) h
  | @lst a xs ea =>
    cases (show u = Value.ref a from rx)
    obtain ⟨_, _, n, _, h1⟩ := (show ObjOk X.prog X.w H s.heap a (.lst xs) from I.hok a _ ea)
    exact PySem.W.kia_one PySem.W.kitx_list I.kIn ⟨_, h1, rfl⟩ e (fun z => nomatch z) h
  | @frz a ob xs ea =>
    cases (show u = Value.ref a from rx)
    obtain ⟨_, _, _, n, _, h1⟩ := (show ObjOk X.prog X.w H s.heap a (.frz ob (.lst xs)) from I.hok a _ ea)
    exact PySem.W.kia_one PySem.W.kitx_list I.kIn ⟨_, h1, rfl⟩ e (fun z => nomatch z) h
  | @tup a xs ea =>
    cases (show u = Value.ref a from rx)
    obtain ⟨_, _, _, p⟩ := (show ObjOk X.prog X.w H s.heap a (.tup xs) from I.hok a _ ea)
    obtain ⟨o, h1, h2, _⟩ := p
    exact PySem.W.kia_one PySem.W.kitx_tuple I.kIn ⟨o, h1, h2⟩ e (fun z => nomatch z) h
  | @dK a kvs ea =>
    cases (show u = Value.ref a from rx)
    obtain ⟨_, _, vs, _, p⟩ := (show ObjOk X.prog X.w H s.heap a (.dK kvs) from I.hok a _ ea)
    obtain ⟨o, es, ep, h1, h2, _⟩ := p
    exact PySem.W.kia_one PySem.W.kitx_dict I.kIn ⟨o, h1, h2.1⟩ e (fun z => nomatch z) h
  | @dT a kvs ea =>
    cases (show u = Value.ref a from rx)
    obtain ⟨_, _, xs, _, o, es, ep, h1, h2, _⟩ := (show ObjOk X.prog X.w H s.heap a (.dT kvs) from I.hok a _ ea)
    exact PySem.W.kia_one PySem.W.kitx_dict I.kIn ⟨o, h1, h2.1⟩ e (fun z => nomatch z) h
  | @ins a C dx fs ea cl ha hn htk hm =>
    cases (show u = Value.ref a from rx)
    obtain ⟨mA, O, _⟩ := ins_get I.hok ea
    obtain ⟨od, J, _⟩ := O.look
    exact PySem.W.kia_one (PySem.W.kitx_own (cl.get _) cl.hd ha hn htk hm) I.kIn J e (fun z => nomatch z) h
end
end L2

namespace L2
open PySem PySem.Spec PyProof.Rows

/-! ### room -/
structure Room (cm : Bool) (k : Nat) (A : Around) : Prop where
  hd : cm = true → A.handled = none
  dp : A.depth + 3 * k + 5 < recursionLimit
  un : A.units + 16 * k + 200 < cLine
theorem Room.mono {cm : Bool} {j k : Nat} {A : Around} (r : Room cm k A) (h : j ≤ k) : Room cm j A := ⟨r.hd, by have := r.dp; omega, by have := r.un; omega⟩
theorem Room.deeper {cm : Bool} {k : Nat} {A : Around} (r : Room cm (k + 1) A) (env : Env) : Room cm k (A.deeper env) :=
  ⟨r.hd, by have := r.dp; show A.depth + 1 + 3 * k + 5 < _; omega, by have := r.un; show A.units + 3 + 16 * k + 200 < _; omega⟩
theorem Room.in1 {cm : Bool} {k : Nat} {A : Around} (r : Room cm (k + 1) A) : Room cm k A.in1 :=
  ⟨r.hd, by have := r.dp; show A.depth + 3 * k + 5 < _; omega, by have := r.un; show A.units + 1 + 16 * k + 200 < _; omega⟩
theorem make_depth {A : Around} {C : Addr} {us : List Value} {kw : List (Str × Value)} : (A.under (.builtin "type.__call__" ⟨.ref C :: us, kw⟩)).depth = A.depth + 1 := by
  first | rfl | simp [Around.under, Code.weight, Code.isCreation, Code.isGuard, Code.isCaller, Code.frames, Code.isFrame, guardIds]
theorem make_units {A : Around} {C : Addr} {us : List Value} {kw : List (Str × Value)} : (A.under (.builtin "type.__call__" ⟨.ref C :: us, kw⟩)).units = A.units + 1 := by
  first | rfl | simp [Around.under, Code.cUnits, Code.frames, Code.isFrame]
theorem Room.make {cm : Bool} {k : Nat} {A : Around} (r : Room cm (k + 1) A) (C : Addr) (us : List Value) (kw : List (Str × Value)) : Room cm k (A.under (.builtin "type.__call__" ⟨.ref C :: us, kw⟩)) :=
  ⟨r.hd, by have := r.dp; rw [make_depth]; omega, by have := r.un; rw [make_units]; omega⟩
theorem Room.depth {cm : Bool} {k : Nat} {A : Around} (r : Room cm k A) : A.depth < recursionLimit := by have := r.dp; omega
theorem Room.units {cm : Bool} {k : Nat} {A : Around} (r : Room cm k A) : A.units + 64 < cLine := by have := r.un; omega
/-! ### argument lists and displays -/
def tNil : TA := fun _ H Q => Q [] H
def tCons (ta : TE) (tr : TA) : TA := fun σ H Q => ta σ H fun x H1 => tr σ H1 fun xs H2 => Q (x :: xs) H2
section
variable {X : Cx} {e : Expr} {es : List Expr} {te : TE} {t : TA} {pos : Pos}
theorem pa_nil : PA X [] tNil := fun _ _ _ _ H Q I h => Calls.spliced_nil ⟨[], H, I, .nil, h⟩
theorem pa_cons (ha : PE X e te) (hr : PA X es t) (hs : starEach (e :: es) X.env = (false, eval e X.env) :: starEach es X.env := by rfl) : PA X (e :: es) (tCons te t) := by
  intro pos pins s σ H Q I h
  rw [hs]
  show wpAny _ _ (spliced ((false, eval e X.env) :: backTo pos (starEach es X.env))) _ _ s
  refine Calls.spliced_cons (thn (ha pins s σ H _ I h) fun u s1 ⟨x, H1, I1, r1, q1⟩ => ?_)
  exact thn (hr pos pins s1 σ H1 _ I1 q1) fun us s2 ⟨xs, H2, I2, r2, q2⟩ => ⟨x :: xs, H2, I2, .cons r1 r2, q2⟩

/-- a tuple, a list of written items -/
def tTup (t : TA) : TE := fun σ H Q => t σ H fun xs H1 => xs.length ≤ sizeLine ∧ ∀ p, H1 p = none → Q (.ref p) (upd H1 p (.tup xs))
def tLst (t : TA) : TE := fun σ H Q => t σ H fun xs H1 => xs.length ≤ sizeLine ∧ ∀ p, H1 p = none → Q (.ref p) (upd H1 p (.lst xs))
theorem pe_tup {x1} (h : PA X es t) : PE X (.Tuple es x1 pos) (tTup t) := by
  intro pins s σ H Q I hq
  refine wpAny_Tuple_spliced (thn (h pos pins s σ H _ I hq) fun us s1 ⟨xs, H1, I1, r, z, q⟩ => ⟨by rw [← r.length]; exact z, ?_⟩)
  have hf : H1 s1.heap.objs.size = none := I1.hok.fresh (Nat.le_refl _)
  refine ⟨.ref s1.heap.objs.size, upd H1 s1.heap.objs.size (.tup xs), I1.laid (t' := s1.toks) (fun b u e => Heap.get?_push_of_some _ e) (Nat.le_refl _) ?_, rfl, q _ hf⟩
  exact ⟨z, us, r, ⟨_, Heap.get?_push_size _ rfl, rfl, _, rfl⟩⟩
theorem pe_lst (h : PA X es t) : PE X (.List es pos) (tLst t) := by
  intro pins s σ H Q I hq
  refine wpAny_List_spliced (thn (h pos pins s σ H _ I hq) fun us s1 ⟨xs, H1, I1, r, z, q⟩ => ⟨by rw [← r.length]; exact z, ?_⟩)
  have hf : H1 s1.heap.objs.size = none := I1.hok.fresh (Nat.le_refl _)
  refine ⟨.ref s1.heap.objs.size, upd H1 s1.heap.objs.size (.lst xs), I1.laid (t' := s1.toks) (fun b u e => Heap.get?_push_of_some _ e) (Nat.le_refl _) ?_, rfl, q _ hf⟩
  exact ⟨z, us, 0, r, Heap.get?_push_size _ rfl⟩
end

/-! ### what a def promises -/
/-- a def's promise: the bound arguments in the parameters' order, the heap, the wanted end, the wanted exception -/
abbrev Sp := List V → Hp → VK → XK → Prop
/-- how an exception lies behind a call (file 08 gives it): the callers' frames, abstract heap and state ahead of the call, the wish, the exception, the state -/
abbrev CXT := List Env → Hp → Shared → XK → Value → Shared → Prop

/-- the state at a call -/
structure Env0 (P : Program) (w : World) (K : PySem.W.Frag) (mg : Str → Option Value) (base : Heap) (A : Around) (outer : List Env) (s : Shared) (H : Hp) : Prop where
  frames : A.frames = some outer
  mod : Mod K mg base
  bs : ∀ b o, base.get? b = some o → s.heap.get? b = some o ∧ H b = none
  bsz : base.objs.size ≤ s.heap.objs.size
  funs : s.heap.FunFrames base outer
  frf : ∀ b ∈ frs outer, H b = none
  hok : HOk P w H s.heap
  bare : AllBare s.gens
/-- a call's end -/
def CE (outer : List Env) (P : Program) (w : World) (H : Hp) (s : Shared) (Q : VK) (u : Value) (s' : Shared) : Prop :=
  ∃ v H', s'.os = s.os ∧ AllBare s'.gens ∧ Un (frs outer) [] H H' s.heap s'.heap ∧ HOk P w H' s'.heap ∧ RelV v u ∧ Q v H'
def CR (CX : CXT) (outer : List Env) (P : Program) (w : World) (H : Hp) (s : Shared) (Q : VK) (E : XK) (r : Result) (s' : Shared) : Prop :=
  match r with
  | .ok (.ret u) => CE outer P w H s Q u s'
  | .ok _ => False
  | .error e => CX outer H s E e s'
structure FnOk (P : Program) (w : World) (K : PySem.W.Frag) (mg : Str → Option Value) (base : Heap) (CX : CXT) (cm : Bool) (k : Nat) (f : Addr) (fd : FuncData) (ps : List Str) (sp : Sp) : Prop where
  len : ∀ vs H Q E, sp vs H Q E → vs.length = ps.length
  run : ∀ (A : Around) (outer : List Env) (s : Shared) (H : Hp) (args : Args) (us : List Value) (vs : List V) (Q : VK) (E : XK), Room cm k A → Env0 P w K mg base A outer s H → BindsTo s fd args (ps.zip us) → Vals vs us → sp vs H Q E →
    codeAny (model P w) A (.call (.ref f) args) (CR CX outer P w H s Q E) s
theorem FnOk.mono {cm : Bool} {P : Program} {w : World} {K : PySem.W.Frag} {mg : Str → Option Value} {base : Heap} {CX : CXT} {j k : Nat} {f : Addr} {fd : FuncData} {ps : List Str} {sp : Sp} (F : FnOk P w K mg base CX cm j f fd ps sp) (h : j ≤ k) :
    FnOk P w K mg base CX cm k f fd ps sp := ⟨F.len, fun A outer s H args us vs Q E hr => F.run A outer s H args us vs Q E (hr.mono h)⟩
/-- a weaker promise -/
theorem FnOk.imp {cm : Bool} {P : Program} {w : World} {K : PySem.W.Frag} {mg : Str → Option Value} {base : Heap} {CX : CXT} {k : Nat} {f : Addr} {fd : FuncData} {ps : List Str} {sp sp' : Sp} (F : FnOk P w K mg base CX cm k f fd ps sp)
    (h : ∀ vs H Q E, sp' vs H Q E → sp vs H Q E) : FnOk P w K mg base CX cm k f fd ps sp' :=
  ⟨fun vs H Q E q => F.len vs H Q E (h _ _ _ _ q), fun A outer s H args us vs Q E hr he hb hv hs => F.run A outer s H args us vs Q E hr he hb hv (h _ _ _ _ hs)⟩

theorem Env0.make {P : Program} {w : World} {K : PySem.W.Frag} {mg : Str → Option Value} {base : Heap} {A : Around} {outer : List Env} {s : Shared} {H : Hp} (e : Env0 P w K mg base A outer s H) (C : Addr) (us : List Value) (kw : List (Str × Value)) :
    Env0 P w K mg base (A.under (.builtin "type.__call__" ⟨.ref C :: us, kw⟩)) outer s H := ⟨by first | exact e.frames | (simpa [Around.under, Code.envs, Code.isFrame, pushEnvs] using e.frames), e.mod, e.bs, e.bsz, e.funs, e.frf, e.hok, e.bare⟩
theorem Env0.in1 {P : Program} {w : World} {K : PySem.W.Frag} {mg : Str → Option Value} {base : Heap} {A : Around} {outer : List Env} {s : Shared} {H : Hp} (e : Env0 P w K mg base A outer s H) :
    Env0 P w K mg base A.in1 outer s H := ⟨e.frames, e.mod, e.bs, e.bsz, e.funs, e.frf, e.hok, e.bare⟩

section
variable {X : Cx} {pins : List (Addr × Obj)} {σ : St} {H : Hp} {s s' : Shared}
/-- from a body: what a callee wants -/
theorem Inv.env0 (I : Inv X pins σ H s) : Env0 X.prog X.w X.K X.mg X.base X.A X.stack s H :=
  ⟨I.ok.frames, I.ok.mod, I.bs, Nat.le_trans I.ok.bsz I.sz, I.stack, I.stkFree, I.hok, I.bare⟩
/-- behind a call -/
theorem Inv.after {Q : VK} {u : Value} (I : Inv X pins σ H s) (h : CE X.stack X.prog X.w H s Q u s') : EP X pins σ Q u s' := by
  obtain ⟨v, H', os, bare, un, hok, r, q⟩ := h
  obtain ⟨hh, g, d, t, os'⟩ := s'
  obtain rfl : os' = s.os := os
  exact ⟨v, H', I.call (h' := hh) (g' := g) (d' := d) (t' := t) (ch := []) un hok bare (fun b z => absurd z (by simp)), r, q⟩
end

/-! ### calls -/
/-- f(..): the written arguments, then the defaults dvs; E: what is wanted of an exception -/
def tCall (sp : Sp) (dvs : List V) (E : XK) (t : TA) : TE := fun σ H Q => t σ H fun vs H1 => sp (vs ++ dvs) H1 Q E
/-- C(..): a new instance and its dict, then __init__ -/
def tMake (C : Addr) (sp : Sp) (dvs : List V) (E : XK) (t : TA) : TE := fun σ H Q => t σ H fun vs H1 => ∀ x dx, H1 x = none → H1 dx = none → dx ≠ x →
  sp (.ref x :: (vs ++ dvs)) (upd (upd H1 dx (.own x)) x (.ins C dx [])) (fun v H2 => v = .non ∧ Q (.ref x) H2) E

/-- how the parameters are bound: us the positional arguments, kw the keywords' values by name, ds the defaults that fill up -/
def Binds (K : PySem.W.Frag) (fd : FuncData) (ps : List Str) (ds : List Value) : Prop :=
  ∀ (s : Shared) (us : List Value), K.In s.heap → (us ++ ds).length = ps.length → BindsTo s fd ⟨us, []⟩ (ps.zip (us ++ ds))
/-- every parameter is given -/
theorem Binds.all {K : PySem.W.Frag} {fd : FuncData} {ps : List Str} (h : ∀ us : List Value, us.length = ps.length → bindArgs fd ⟨us, []⟩ = pure (ps.zip us)) : Binds K fd ps [] := fun s us _ hl => by
  rw [List.append_nil] at hl ⊢
  exact .of_eq (h us hl)

/-- an exception of a callee reaches what this body wants of exceptions -/
def Passes (CX : CXT) (X : Cx) (E : XK) : Prop := ∀ (pins : List (Addr × Obj)) (σ : St) (H : Hp) (s : Shared) (e : Value) (s' : Shared), Inv X pins σ H s → CX X.stack H s E e s' → X.xe e s'

section
variable {X : Cx} {CX : CXT} {cm : Bool} {k : Nat} {f C : Addr} {fd : FuncData} {ps : List Str} {sp : Sp} {dvs : List V} {ds : List Value} {E : XK} {x m : Str} {p pos apos : Pos} {e o : Expr} {es : List Expr} {ta : TE} {t : TA}

/-- the callee runs -/
theorem run_fn {pins : List (Addr × Obj)} {σ : St} {H : Hp} {s : Shared} {Q : VK} {us : List Value} {vs : List V} (F : FnOk X.prog X.w X.K X.mg X.base CX cm k f fd ps sp) (hr : Room cm k X.A) (hb : Binds X.K fd ps ds) (hd : Vals dvs ds) (hx : Passes CX X E)
    (I : Inv X pins σ H s) (r : Vals vs us) (h : sp (vs ++ dvs) H Q E) : wpAny (model X.prog X.w) X.A (call (.ref f) us) (EP X pins σ Q) X.xe s := by
  have r2 : Vals (vs ++ dvs) (us ++ ds) := r.append hd
  have hl : (us ++ ds).length = ps.length := by rw [← r2.length]; exact F.len _ _ _ _ h
  refine wpAny_call (codeAny_mono (F.run X.A X.stack s H ⟨us, []⟩ (us ++ ds) (vs ++ dvs) Q E hr I.env0 (hb s us I.kIn hl) r2 h) fun r s' hq => ?_)
  cases r with
  | error e => exact hx pins σ H s e s' I hq
  | ok fl =>
    cases fl with
    | ret u => exact I.after hq
    | next => exact False.elim hq
    | brk => exact False.elim hq
    | cont => exact False.elim hq

theorem pe_call (F : FnOk X.prog X.w X.K X.mg X.base CX cm k f fd ps sp) (hr : Room cm k X.A) (hg : Gl X x) (hm : X.mg x = some (.ref f)) (hk : PySem.W.keepIn X.K (.ref f) = true) (hb : Binds X.K fd ps ds) (hd : Vals dvs ds) (hx : Passes CX X E)
    (ha : PA X (e :: es) t) (hdb : (x == ("__debug__" : Str)) = false := by decide) (he : starEach (e :: es) X.env = (false, eval e X.env) :: starEach es X.env := by rfl) (hpl : (backTo pos (starEach es X.env)).any (·.1) = false := by rfl) :
    PE X (.Call (.Name x p) (e :: es) [] pos) (tCall sp dvs E t) := by
  intro pins s σ H Q I h
  refine wpAny_Call_Name_kw (ld_glob I hg hm ?_ hdb)
  refine PySem.W.callWith_K (h₀ := X.base) I.ok.mod.kin hk (thn (ha pos pins s σ H _ I h) fun us s1 ⟨vs, H1, I1, r, q⟩ => ⟨I1.kIn, ?_⟩) he hpl
  exact run_fn F hr hb hd hx I1 r q
/-- what a class must have to be made -/
structure Mk (K : PySem.W.Frag) (C f : Addr) : Prop where
  makes : PySem.W.makesIn K C = true
  init : PySem.W.findIn K (.ref C) "__init__" = some (some (.ref f))
  fn : PySem.W.isFn K (.ref f) = true
  kp : PySem.W.keepIn K (.ref C) = true

theorem run_make {pins : List (Addr × Obj)} {σ : St} {H : Hp} {s : Shared} {Q : VK} {us : List Value} {vs : List V} (M : Mk X.K C f) (F : FnOk X.prog X.w X.K X.mg X.base CX cm k f fd ps sp) (hr : Room cm (k + 1) X.A) (hb : Binds X.K fd ps ds) (hd : Vals dvs ds)
    (hx : Passes CX X E) (I : Inv X pins σ H s) (r : Vals vs us)
    (h : ∀ x dx, H x = none → H dx = none → dx ≠ x → sp (.ref x :: (vs ++ dvs)) (upd (upd H dx (.own x)) x (.ins C dx [])) (fun v H2 => v = .non ∧ Q (.ref x) H2) E) :
    wpAny (model X.prog X.w) X.A (call (.ref C) us) (EP X pins σ Q) X.xe s := by
  have hq := h (s.heap.objs.size + 1) s.heap.objs.size (I.hok.fresh (Nat.le_succ _)) (I.hok.fresh (Nat.le_refl _)) (Nat.ne_of_lt (Nat.lt_succ_self _))
  have I2 := Inv.made (C := C) I
  have r2 : Vals (V.ref (s.heap.objs.size + 1) :: (vs ++ dvs)) (Value.ref (s.heap.objs.size + 1) :: (us ++ ds)) := .cons rfl (r.append hd)
  have hl : (Value.ref (s.heap.objs.size + 1) :: us ++ ds).length = ps.length := by
    have e := r2.length
    rw [F.len _ _ _ _ hq] at e
    exact e.symm
  refine wpAny_call (make_map (f := f) I.kIn M.makes M.init (beq_iff_eq.mp M.fn) (codeAny_mono (F.run _ X.stack _ _ ⟨Value.ref (s.heap.objs.size + 1) :: us, []⟩ (Value.ref (s.heap.objs.size + 1) :: (us ++ ds)) _ _ E (hr.make C us [])
    (I2.env0.make C us []) (hb _ (Value.ref (s.heap.objs.size + 1) :: us) I2.kIn hl) r2 hq) fun r s' hq' => ?_))
  cases r with
  | error e => exact hx pins σ _ _ e s' I2 hq'
  | ok fl =>
    cases fl with
    | ret u =>
      obtain ⟨v, H', I3, rv, ev, q3⟩ := I2.after hq'
      subst ev
      exact ⟨rv, ⟨V.ref (s.heap.objs.size + 1), H', I3, rfl, q3⟩⟩
    | next => exact False.elim hq'
    | brk => exact False.elim hq'
    | cont => exact False.elim hq'
theorem pe_make (M : Mk X.K C f) (F : FnOk X.prog X.w X.K X.mg X.base CX cm k f fd ps sp) (hr : Room cm (k + 1) X.A) (hg : Gl X x) (hm : X.mg x = some (.ref C)) (hb : Binds X.K fd ps ds) (hd : Vals dvs ds) (hx : Passes CX X E)
    (ha : PA X (e :: es) t) (hdb : (x == ("__debug__" : Str)) = false := by decide) (he : starEach (e :: es) X.env = (false, eval e X.env) :: starEach es X.env := by rfl) (hpl : (backTo pos (starEach es X.env)).any (·.1) = false := by rfl) :
    PE X (.Call (.Name x p) (e :: es) [] pos) (tMake C sp dvs E t) := by
  intro pins s σ H Q I h
  refine wpAny_Call_Name_kw (ld_glob I hg hm ?_ hdb)
  refine PySem.W.callWith_K (h₀ := X.base) I.ok.mod.kin M.kp (thn (ha pos pins s σ H _ I h) fun us s1 ⟨vs, H1, I1, r, q⟩ => ⟨I1.kIn, ?_⟩) he hpl
  exact run_make M F hr hb hd hx I1 r q
end

/-! ### keywords -/
section
variable {X : Cx} {CX : CXT} {cm : Bool} {k : Nat} {f C : Addr} {fd : FuncData} {ps ks : List Str} {sp : Sp} {E : XK} {x m : Str} {p pos apos kpos : Pos} {e o : Expr} {es : List Expr} {kws : List Keyword} {te ta : TE} {t tk : TA} {nm : Option Str}
/-- how a call with keywords binds: g puts the positional values us and the keywords' values ws (names ks) in the parameters' order, defaults among them -/
structure KBinds (K : PySem.W.Frag) (fd : FuncData) (ps ks : List Str) (g : List Value → List Value → List Value) (gV : List V → List V → List V) : Prop where
  to : ∀ (s : Shared) (us ws : List Value), K.In s.heap → (g us ws).length = ps.length → BindsTo s fd ⟨us, ks.zip ws⟩ (ps.zip (g us ws))
  rel : ∀ {vs : List V} {us : List Value} {zs : List V} {ws : List Value}, Vals vs us → Vals zs ws → Vals (gV vs zs) (g us ws)
variable {g : List Value → List Value → List Value} {gV : List V → List V → List V}
end

/-! ### a def's body keeps its promise -/
/-- names: the parameters first -/
structure FnScope (N P : List Str) (sc : Scope) : Prop where
  kind : sc.kind = .function
  co : sc.isCoroutine = false
  gen : sc.isGenerator = false
  nd : N.Nodup
  pre : N.take P.length = P
  par : ∀ x ∈ P, sc.names.lookup x = some .local ∨ sc.names.lookup x = some .cell
  nofree : ∀ y ∈ sc.names, y.2 ≠ .free

theorem bindL_out {kindOf : Str → Option NameKind} {x : Str} : ∀ {binds : List (Str × Value)} {m : Str → Option Value}, (∀ v, (x, v) ∉ binds) → bindL kindOf binds m x = m x
  | [], _, _ => rfl
  | (n, v) :: r, m, h => by
    unfold bindL
    rw [bindL_out fun w hw => h w (List.mem_cons_of_mem _ hw)]
    split
    · have : x ≠ n := by rintro rfl; exact h v List.mem_cons_self
      simp [this]
    · rfl
theorem bindC_out {kindOf : Str → Option NameKind} {x : Str} : ∀ {binds : List (Str × Value)} {m : Str → Option Value}, (∀ v, (x, v) ∉ binds) → bindC kindOf binds m x = m x
  | [], _, _ => rfl
  | (n, v) :: r, m, h => by
    unfold bindC
    rw [bindC_out fun w hw => h w (List.mem_cons_of_mem _ hw)]
    split
    · rfl
    · have : x ≠ n := by rintro rfl; exact h v List.mem_cons_self
      simp [this]
theorem bindL_get {kindOf : Str → Option NameKind} {x : Str} {v : Value} : ∀ {P : List Str} {vs : List Value} {i : Nat} {m : Str → Option Value}, P.Nodup → P[i]? = some x → vs[i]? = some v → kindOf x = some .local →
    bindL kindOf (P.zip vs) m x = some v
  | [], _, _, _, _, h, _, _ => by simp at h
  | _ :: _, [], _, _, _, _, h, _ => by simp at h
  | p :: P, w :: vs, 0, m, nd, h1, h2, hk => by
    simp at h1 h2; subst h1; subst h2
    show bindL kindOf ((p, w) :: P.zip vs) m p = _
    unfold bindL
    rw [bindL_out fun v hv => (List.nodup_cons.mp nd).1 (List.of_mem_zip hv).1, if_pos hk]
    simp
  | p :: P, w :: vs, i + 1, m, nd, h1, h2, hk => by
    show bindL kindOf ((p, w) :: P.zip vs) m x = _
    unfold bindL
    exact bindL_get (i := i) (List.nodup_cons.mp nd).2 (by simpa using h1) (by simpa using h2) hk
theorem bindC_get {kindOf : Str → Option NameKind} {x : Str} {v : Value} : ∀ {P : List Str} {vs : List Value} {i : Nat} {m : Str → Option Value}, P.Nodup → P[i]? = some x → vs[i]? = some v → kindOf x ≠ some .local →
    bindC kindOf (P.zip vs) m x = some v
  | [], _, _, _, _, h, _, _ => by simp at h
  | _ :: _, [], _, _, _, _, h, _ => by simp at h
  | p :: P, w :: vs, 0, m, nd, h1, h2, hk => by
    simp at h1 h2; subst h1; subst h2
    show bindC kindOf ((p, w) :: P.zip vs) m p = _
    unfold bindC
    rw [bindC_out fun v hv => (List.nodup_cons.mp nd).1 (List.of_mem_zip hv).1, if_neg hk]
    simp
  | p :: P, w :: vs, i + 1, m, nd, h1, h2, hk => by
    show bindC kindOf ((p, w) :: P.zip vs) m x = _
    unfold bindC
    exact bindC_get (i := i) (List.nodup_cons.mp nd).2 (by simpa using h1) (by simpa using h2) hk

/-- the names' values at the entry -/
def start (N : List Str) (vs : List V) : St := vs.map some ++ List.replicate (N.length - vs.length) none

/-- the context of a def's body, at its entry; an exception leaves the frame, then lies as CX says -/
def cxOf (CX : CXT) (cm : Bool) (P : Program) (w : World) (K : PySem.W.Frag) (mg : Str → Option Value) (base : Heap) (N : List Str) (qual : Str) (scope : Scope) (f : Addr) (cd : Value) (A : Around) (outer : List Env) (s : Shared) (H : Hp) (E : XK) : Cx where
  prog := P
  w := w
  K := K
  mg := mg
  base := base
  A := A.deeper (envOfC qual scope s.heap.objs.size f cd)
  N := N
  s₀ := s
  H₀ := H
  env := envOfC qual scope s.heap.objs.size f cd
  outer := outer
  stack := envOfC qual scope s.heap.objs.size f cd :: outer
  ex := []
  calm := cm
  fn := fun _ => true
  pn := []
  xe := fun e s' => wpAny (model P w) (A.deeper (envOfC qual scope s.heap.objs.size f cd)) (leaving (envOfC qual scope s.heap.objs.size f cd) e) (fun _ s'' => CX outer H s E e s'') (fun e' s'' => CX outer H s E e' s'') s'

theorem cell_has {sc : Scope} {n : Nat} {x : Str} (h : sc.names.lookup x = some .cell) : ∃ c, (cellsFrom n sc.names []).lookup x = some c := by
  have q := PySem.W.cellsFrom_some sc.names n [] (.inl h)
  exact Option.isSome_iff_exists.mp q

theorem inv_start {cm : Bool} {CX : CXT} {P : Program} {w : World} {K : PySem.W.Frag} {mg : Str → Option Value} {base : Heap} {N ps : List Str} {qual : Str} {scope : Scope} {f : Addr} {cd : Value} {A : Around} {outer : List Env} {s s1 : Shared} {H : Hp} {E : XK} {us : List Value} {vs : List V}
    (S : FnScope N ps scope) (hd : cm = true → A.handled = none) (e0 : Env0 P w K mg base A outer s H) (hl : vs.length = ps.length) (r : Vals vs us)
    (x : InCallC s s.heap.objs.size (bindL (envOfC qual scope s.heap.objs.size f cd).kindOf (ps.zip us) fun _ => none) (cellsFrom (s.heap.objs.size + 1) scope.names []) (bindC (envOfC qual scope s.heap.objs.size f cd).kindOf (ps.zip us) fun _ => none) s1) :
    Inv (cxOf CX cm P w K mg base N qual scope f cd A outer s H E) [] (start N vs) H s1 := by
  have hpl : ps.length ≤ N.length := by have := congrArg List.length S.pre; rw [List.length_take] at this; omega
  obtain ⟨h1, tk, rfl, hk⟩ := x.done
  have noA : ∀ b : Addr, b ∉ (cxOf CX cm P w K mg base N qual scope f cd A outer s H E).ex := fun b z => absurd (show b ∈ ([] : List Addr) from z) (by simp)
  refine ⟨⟨e0.mod, S.kind, rfl, rfl, Nat.le_refl _, fun y z c h1 h2 => ?_, fun y hy => ?_, fun y c _ h => ?_, hd, Around.frames_deeper e0.frames, .inr ⟨rfl, rfl⟩, fun b z => absurd z (noA b), e0.bs, e0.bsz, fun b _ _ => noA b, fun b z => absurd z (noA b), e0.funs, e0.frf⟩,
    rfl, e0.bare, Un.kept hk, ⟨_, x.toInCall.ns, fun i y v h1 h2 h3 => ?_⟩, fun y c h => ⟨_, x.cell y c h⟩, e0.hok.fresh (Nat.le_refl _), fun y c h => ?_, fun p hp => absurd (show p ∈ ([] : List (Addr × Obj)) from hp) (by simp), e0.hok.kept hk, ?_⟩
  · exact name_of_addr x.apart (PySem.mem_of_lookup h1) (PySem.mem_of_lookup h2)
  · have hy : scope.names.lookup y = some .cell ∨ scope.names.lookup y = some .free := hy
    rcases hy with hy | hy
    · exact cell_has hy
    · exact absurd rfl (S.nofree _ (PySem.mem_of_lookup hy))
  · exact Nat.le_of_lt (x.above y c (PySem.mem_of_lookup h))
  · have hi : i < vs.length := by
      unfold start at h2
      by_cases hi : i < vs.length
      · exact hi
      · rw [List.getElem?_append_right (by simpa using hi)] at h2
        rw [List.getElem?_replicate] at h2
        split at h2 <;> cases h2
    have ha : vs[i]? = some v := by
      unfold start at h2
      rw [List.getElem?_append_left (by simpa using hi), List.getElem?_map] at h2
      cases e : vs[i]? with
      | none => rw [e] at h2; cases h2
      | some a => rw [e] at h2; cases h2; rfl
    obtain ⟨u, hu, rv⟩ := r.get ha
    have hp : ps[i]? = some y := by
      rw [← S.pre, List.getElem?_take_of_lt (by omega)]; exact h1
    have ndP : ps.Nodup := by rw [← S.pre]; exact S.nd.sublist (List.take_sublist _ _)
    refine ⟨u, rv, ?_⟩
    rcases S.par y (List.mem_of_getElem? hp) with k | k
    · exact .inl ⟨k, bindL_get ndP hp hu k⟩
    · obtain ⟨c, e⟩ := cell_has (n := s.heap.objs.size + 1) k
      refine .inr ⟨.inl k, c, e, ?_⟩
      have q := x.cell y c e
      rw [bindC_get ndP hp hu (by show scope.names.lookup y ≠ _; rw [k]; decide)] at q
      exact q
  · exact e0.hok.fresh (Nat.le_of_lt (x.above y c (PySem.mem_of_lookup h)))
  · unfold start
    show _ = N.length
    rw [List.length_append, List.length_map, List.length_replicate]
    omega

/-- THE RULE: a def (or a method) of the text, by its body. The body's reading t is chosen for each entry; it is run at the parameters' values -/
theorem fn_of {cm : Bool} {CX : CXT} {P : Program} {w : World} {K : PySem.W.Frag} {mg : Str → Option Value} {base : Heap} {k : Nat} {f : Addr} {name qual : Str} {params : Arguments} {body : List Stmt} {scope : Scope} {dV kV doc pm cdv ct oc : Value} {an od : Option Addr}
    {osl : Array (Option Value)} {N ps : List Str} {sp : Sp} (lk : K.lookup f = some ⟨oc, od, .func (PySem.W.fnOf name qual params body scope dV kV doc pm an cdv ct), osl⟩) (hcd : PySem.W.codeIn K cdv qual = true) (S : FnScope N ps scope)
    (len : ∀ vs H Q E, sp vs H Q E → vs.length = ps.length)
    (hbody : ∀ (A : Around) (outer : List Env) (s : Shared) (H : Hp) (vs : List V) (Q : VK) (E : XK), Room cm k (A.deeper (envOfC qual scope s.heap.objs.size f cdv)) → sp vs H Q E →
      ∃ t, PSs (cxOf CX cm P w K mg base N qual scope f cdv A outer s H E) body t ∧ t { nx := fun _ H' => Q .non H', rt := fun _ => Q } (start N vs) H) :
    FnOk P w K mg base CX cm (k + 1) f (PySem.W.fnOf name qual params body scope dV kV doc pm an cdv ct) ps sp := by
  refine ⟨len, fun A outer s H args us vs Q E hr e0 hb r hsp => ?_⟩
  have hl := len _ _ _ _ hsp
  have KX : K.In s.heap := e0.mod.kin.keeps fun b o e => (e0.bs b o e).1
  have lim : s.heap.NoLimit := e0.mod.nolimit.keeps fun b o e => (e0.bs b o e).1
  have hkind : ∀ y ∈ ps.zip us, scope.names.lookup y.1 = some .local ∨ (scope.names.lookup y.1 = some .cell ∧ ((cellsFrom (s.heap.objs.size + 1) scope.names []).lookup y.1).isSome = true) := fun ⟨n, v⟩ hy => by
    rcases S.par n (List.of_mem_zip hy).1 with q | q
    · exact .inl q
    · exact .inr ⟨q, PySem.W.cellsFrom_some _ _ _ (.inl q)⟩
  refine codeAny_call_function hr.depth (KX _ _ lk) rfl S.co S.gen rfl (PySem.W.codeRec_of KX hcd) (hb _ _ _ _ ?_)
  refine wpAny_newFunctionEnv_cells S.kind hkind fun env he s1 x => ?_
  subst he
  refine ⟨lim.keeps x.toInCall.keep, codeAny_func ?_⟩
  obtain ⟨t, ht, hq⟩ := hbody A outer s H vs Q E (hr.deeper _) hsp
  have I : Inv (cxOf CX cm P w K mg base N qual scope f cdv A outer s H E) [] (start N vs) H s1 := inv_start S hr.hd e0 hl r x
  refine wpAny_mono (ht [] s1 (start N vs) H _ I hq) (fun fl s' hs => ?_) fun e s' hs => hs
  have fin : ∀ {σ' : St} {H' : Hp} {v : V} {u : Value}, Inv (cxOf CX cm P w K mg base N qual scope f cdv A outer s H E) [] σ' H' s' → RelV v u → Q v H' → CE outer P w H s Q u s' :=
    fun {σ' H' v u} J rv q => ⟨v, H', J.os, J.bare, J.base, J.hok, rv, q⟩
  cases fl with
  | ret u =>
    obtain ⟨v, σ', H', J, rv, q⟩ := hs
    exact fin J rv q
  | next =>
    obtain ⟨σ', H', J, q⟩ := hs
    exact fin (v := V.non) (u := Value.none) J rfl q
  | brk =>
    obtain ⟨_, _, _, q⟩ := hs
    exact False.elim q
  | cont =>
    obtain ⟨_, _, _, q⟩ := hs
    exact False.elim q
end L2

namespace L2
open PySem PySem.Spec PyProof.Rows
section
variable {X : Cx} {x : Str} {p pos : Pos} {e : Expr} {es : List Expr} {t : TA} {id T : String} {r : List V → Hp → VK → Prop}

def tCB (r : List V → Hp → VK → Prop) (t : TA) : TE := fun σ H Q => t σ H fun vs H1 => r vs H1 Q
/-- f(e, ..), f a built-in function -/
theorem pe_callB (hc : CallR X (.builtin id) r) (hg : Gl X x) (hm : X.mg x = none) (hv : bootBuiltins x = some (.builtin id)) (ha : PA X (e :: es) t) (hn : x ≠ "__name__" := by decide) (hdb : (x == ("__debug__" : Str)) = false := by decide)
    (he : starEach (e :: es) X.env = (false, eval e X.env) :: starEach es X.env := by rfl) (hpl : (backTo pos (starEach es X.env)).any (·.1) = false := by rfl) : PE X (.Call (.Name x p) (e :: es) [] pos) (tCB r t) := by
  intro pins s σ H Q I h
  refine wpAny_Call_Name_kw (ld_blt I hg hm hv ?_ hn hdb)
  exact PyProof.Rows.callWith_builtin1 (thn (ha pos pins s σ H _ I h) fun us s1 ⟨vs, H1, I1, r1, q1⟩ => hc pins s1 σ H1 vs us Q I1 r1 q1) he hpl
/-- T(e, ..), T a built-in type -/
theorem pe_callTy (hc : CallR X (.type T) r) (hg : Gl X x) (hm : X.mg x = none) (hv : bootBuiltins x = some (.type T)) (ha : PA X (e :: es) t) (hn : x ≠ "__name__" := by decide) (hdb : (x == ("__debug__" : Str)) = false := by decide)
    (he : starEach (e :: es) X.env = (false, eval e X.env) :: starEach es X.env := by rfl) (hpl : (backTo pos (starEach es X.env)).any (·.1) = false := by rfl) : PE X (.Call (.Name x p) (e :: es) [] pos) (tCB r t) := by
  intro pins s σ H Q I h
  refine wpAny_Call_Name_kw (ld_blt I hg hm hv ?_ hn hdb)
  exact PyProof.Rows.callWith_type1 (thn (ha pos pins s σ H _ I h) fun us s1 ⟨vs, H1, I1, r1, q1⟩ => hc pins s1 σ H1 vs us Q I1 r1 q1) he hpl
end
end L2

namespace HT
open PySem PyProof.Rows

section
open PySem.SeqAt
open PySem.AutoSeq1 (wpAny_loadPart')
open PySem.MeetsSeq PySem.MeetsSeq2 PySem.MeetsSeq3

end

section
variable {prog : Program} {w : World} {A : Around} {E : Value → Shared → Prop} {s : Shared}

/-! ### t[a:b], not the whole -/
end
end HT

namespace L2
open PySem PySem.Spec PyProof.Rows

/-! ### the parts of a slice -/
abbrev TO := St → Hp → (Option Int → Hp → Prop) → Prop
theorem intsAre_of {ns : List Int} : ∀ {us : List Value}, Vals (ns.map V.int) us → IntsAre us ns := by
  induction ns with
  | nil => intro us r; rw [List.map_nil] at r; cases r; exact .nil
  | cons n ns ih =>
    intro us r
    rw [List.map_cons] at r
    cases r with
    | cons r1 r2 =>
      obtain ⟨t, e⟩ := r1
      subst e
      exact .cons n t (ih r2)

section
variable {X : Cx} {e : Expr} {te : TE} {lo hi : Option Expr} {tl th : TO} {pos p2 : Pos}

/-- what a slice of a value is, by values: the slice object stands at sl -/
def SlR (X : Cx) (r : V → Option Int → Option Int → Hp → VK → Prop) : Prop :=
  ∀ (pins : List (Addr × Obj)) (s : Shared) (σ : St) (H : Hp) (x : V) (v vl vu : Value) (lo hi : Option Int) (sl : Addr) (Q : VK), Inv X pins σ H s → RelV x v → s.heap.IsSliceOf sl vl vu .none → IsPart vl lo → IsPart vu hi → r x lo hi H Q →
    ∃ T id, typeLookup (.type T) "__getitem__" = pure (some (.builtin id)) ∧ s.TypeIs v T ∧ wpAny (model X.prog X.w) X.A (getItem v (.ref sl)) (EP X pins σ Q) X.xe s
theorem SlR.or {r r' : V → Option Int → Option Int → Hp → VK → Prop} (h : SlR X r) (h' : SlR X r') : SlR X (fun x lo hi H Q => r x lo hi H Q ∨ r' x lo hi H Q) := by
  intro pins s σ H x v vl vu lo hi sl Q I rx hs pl pu q
  rcases q with q | q
  · exact h pins s σ H x v vl vu lo hi sl Q I rx hs pl pu q
  · exact h' pins s σ H x v vl vu lo hi sl Q I rx hs pl pu q
/-! ### t < u, t + u -/
end
end L2

namespace L2
open PySem PySem.Spec PyProof.Rows

/-! ### places -/
/-- the place that an index of any sign means -/
def ixN (n : Nat) (i : Int) : Option Nat := if 0 ≤ i then (if i < n then some i.toNat else none) else if -(n : Int) ≤ i then some (i + n).toNat else none
def atI {α : Type} (xs : List α) (i : Int) : Option α := (ixN xs.length i).bind fun j => xs[j]?
theorem ixN_seq {n : Nat} {i : Int} {j : Nat} (h : ixN n i = some j) : seqIndex? i n = some j ∧ j < n ∧ -(n : Int) ≤ i ∧ i < n := by
  unfold ixN at h
  by_cases h0 : 0 ≤ i
  · rw [if_pos h0] at h
    by_cases h1 : i < n
    · rw [if_pos h1] at h
      have e : i.toNat = j := Option.some.inj h
      exact ⟨by rw [seqIndex_of h0 h1, e], by omega, by omega, h1⟩
    · rw [if_neg h1] at h; cases h
  · rw [if_neg h0] at h
    by_cases h1 : -(n : Int) ≤ i
    · rw [if_pos h1] at h
      have e : (i + n).toNat = j := Option.some.inj h
      exact ⟨by rw [seqIndex_neg (by omega) h1, e], by omega, h1, by omega⟩
    · rw [if_neg h1] at h; cases h
theorem atI_get {α : Type} {xs : List α} {i : Int} {v : α} (h : atI xs i = some v) : ∃ j, seqIndex? i xs.length = some j ∧ xs[j]? = some v ∧ j < xs.length ∧ -(xs.length : Int) ≤ i ∧ i < xs.length := by
  unfold atI at h
  cases e : ixN xs.length i with
  | none => rw [e] at h; cases h
  | some j =>
    rw [e] at h
    obtain ⟨h1, h2, h3, h4⟩ := ixN_seq e
    exact ⟨j, h1, h, h2, h3, h4⟩
theorem atI_nat {α : Type} {xs : List α} {j : Nat} {v : α} (h : xs[j]? = some v) : atI xs (j : Int) = some v := by
  have hj : j < xs.length := (List.getElem?_eq_some_iff.mp h).1
  have e : ixN xs.length (j : Int) = some j := by
    unfold ixN
    rw [if_pos (by omega), if_pos (by omega)]; simp
  unfold atI; rw [e]; exact h
/-! ### what may be subscripted -/
/-- what stands as an index of a plain subscript -/
def PlainIx (b : Expr) : Prop := ∀ o i, subscripted b false o i = operate [o, i] (getItem o i)
/-- a subscript by values -/
def IxR (X : Cx) (r : R2) : Prop :=
  ∀ (value slice : Expr) (pins : List (Addr × Obj)) (s : Shared) (σ : St) (H : Hp) (x y : V) (v u : Value) (Q : VK), Inv X pins σ H s → RelV x v → RelV y u → r x y H Q →
    subscripted slice false v u = operate [v, u] (getItem v u) → wpAny (model X.prog X.w) X.A (subscriptTail value slice v u) (EP X pins σ Q) X.xe s
/-- a call of a builtin's method by values: the receiver, the arguments -/
def MtR (X : Cx) (id : String) (r : V → List V → Hp → VK → Prop) : Prop :=
  ∀ (pins : List (Addr × Obj)) (s : Shared) (σ : St) (H : Hp) (x : V) (xs : List V) (v : Value) (us : List Value) (Q : VK), Inv X pins σ H s → RelV x v → Vals xs us → r x xs H Q →
    wpAny (model X.prog X.w) X.A (call (.builtin id) (v :: us)) (EP X pins σ Q) X.xe s
section
variable {X : Cx} {a b : Expr} {ta tb : TE} {pos : Pos}
theorem IxR.or {r r' : R2} (h : IxR X r) (h' : IxR X r') : IxR X (fun x y H Q => r x y H Q ∨ r' x y H Q) := by
  intro value slice pins s σ H x y v u Q I rx ry q hs
  rcases q with q | q
  · exact h value slice pins s σ H x y v u Q I rx ry q hs
  · exact h' value slice pins s σ H x y v u Q I rx ry q hs
theorem MtR.or {id : String} {r r' : V → List V → Hp → VK → Prop} (h : MtR X id r) (h' : MtR X id r') : MtR X id (fun x xs H Q => r x xs H Q ∨ r' x xs H Q) := by
  intro pins s σ H x xs v us Q I rx rs q
  rcases q with q | q
  · exact h pins s σ H x xs v us Q I rx rs q
  · exact h' pins s σ H x xs v us Q I rx rs q
/-- a[b] -/
theorem pe_ix {r : R2} (hr : IxR X r) (ha : PE X a ta) (hb : PE X b tb) (hs : PlainIx b) : PE X (.Subscript a b pos) (tOp r ta tb) := by
  intro pins s σ H Q I h
  exact Subscript_ (binT ha hb I h fun v u s2 x y H2 I2 rx ry q => hr a b pins s2 σ H2 x y v u Q I2 rx ry q (hs _ _))

def rIxL (K : PySem.W.Frag) : R2 := fun x y H Q => ∃ p xs i v, x = .ref p ∧ y = .int i ∧ SqL K H p xs ∧ atI xs i = some v ∧ Q v H
def rIxT (K : PySem.W.Frag) : R2 := fun x y H Q => ∃ p xs i v, x = .ref p ∧ y = .int i ∧ SqT K H p xs ∧ atI xs i = some v ∧ Q v H
def rIxS : R2 := fun x y H Q => ∃ z i c, x = .str z ∧ y = .int i ∧ z.length ≤ sizeLine ∧ atI z.cps.toList i = some c ∧ Q (.str ⟨#[c]⟩) H
theorem ix_list : IxR X (rIxL X.K) := by
  intro value slice pins s σ H x y v u Q I rx ry h hs
  obtain ⟨p, xs, i, z, rfl, rfl, hq, he, q⟩ := h
  cases rx
  obtain ⟨t, rfl⟩ := ry
  obtain ⟨its, r, pl, hz⟩ := I.list hq
  obtain ⟨j, h1, h2, h3, h4, h5⟩ := atI_get he
  obtain ⟨w, ew, rw'⟩ := r.get h2
  have hl := r.length
  have hn := line63
  have fin : EP X pins σ Q w s := ⟨z, H, I, rw', q⟩
  by_cases h0 : 0 ≤ i
  · have hj : i.toNat = j := by
      rw [seqIndex_of h0 h5] at h1
      exact Option.some.inj h1
    exact item_listR pl.isList h0 (by omega) (by rw [hj]; simpa using ew) fin hs
  · have hj : (i + (its.toArray.size : Int)).toNat = j := by
      rw [seqIndex_neg (by omega) h4] at h1
      rw [List.size_toArray, ← hl]
      exact Option.some.inj h1
    exact subscriptTail_builtinR (x := w) pl.isList.typeIs slot_list_getitem.lookup
      (wpAny_getItem_list_neg (Q := fun r s' => r = w ∧ EP X pins σ Q r s') pl.isList (by omega) (by rw [List.size_toArray] <;> omega) (by omega) (by rw [hj]; simpa using ew) ⟨rfl, fin⟩) hs
theorem ix_tup : IxR X (rIxT X.K) := by
  intro value slice pins s σ H x y v u Q I rx ry h hs
  obtain ⟨p, xs, i, z, rfl, rfl, hq, he, q⟩ := h
  cases rx
  obtain ⟨t, rfl⟩ := ry
  obtain ⟨its, r, pl, hz⟩ := I.tuple hq
  obtain ⟨j, h1, h2, h3, h4, h5⟩ := atI_get he
  obtain ⟨w, ew, rw'⟩ := r.get h2
  have hl := r.length
  have hn := line63
  have fin : EP X pins σ Q w s := ⟨z, H, I, rw', q⟩
  exact subscriptTail_builtinR (x := w) pl.typeIs slot_tuple_getitem.lookup
    (getItem_tuple (j := j) (Q := fun r s' => r = w ∧ EP X pins σ Q r s') pl (by omega) (by omega) (by rw [List.size_toArray, ← hl]; exact h1) (by simpa using ew) ⟨rfl, fin⟩) hs
theorem ix_str : IxR X rIxS := by
  intro value slice pins s σ H x y v u Q I rx ry h hs
  obtain ⟨z, i, c, rfl, rfl, hz, he, q⟩ := h
  obtain ⟨t, rfl⟩ := rx
  obtain ⟨t', rfl⟩ := ry
  obtain ⟨j, h1, h2, h3, h4, h5⟩ := atI_get he
  have hl : z.cps.toList.length = z.length := by simp [Str.length]
  rw [hl] at h1 h4 h5
  have hn := line63
  exact tail_any (typeIs_str s z t) slot_str_getitem.lookup (getItem_str (c := c) (by
    have e1 : decide (i < -(2 ^ 63 : Int)) = false := decide_eq_false (by omega)
    have e2 : decide (i ≥ 2 ^ 63) = false := decide_eq_false (by omega)
    rw [e1, e2, Bool.or_false]) (by rw [h1]; simpa using h2) ⟨.str ⟨#[c]⟩, H, I.tok _, ⟨_, rfl⟩, q⟩) hs
/-! ### xs[i] = v, any sign -/
theorem Inv.lst {pins : List (Addr × Obj)} {σ : St} {H : Hp} {s : Shared} {p : Addr} {xs : List V} (I : Inv X pins σ H s) (h : H p = some (.lst xs)) :
    ∃ (its : List Value) (n : Nat), Vals xs its ∧ s.heap.get? p = some { cls := .type "list", data := .seq its.toArray n } ∧ xs.length ≤ sizeLine := by
  obtain ⟨z, its, n, r, e⟩ := I.hok p _ h
  exact ⟨its, n, r, e, z⟩
/-! ### slices -/
/-! ### in, not in: flat items -/
def flatV : V → Bool
  | .non => true
  | .bl _ => true
  | .int _ => true
  | .str _ => true
  | _ => false
/-- == of flat values -/
def eqV : V → V → Bool
  | .non, .non => true
  | .bl a, .bl b => a == b
  | .bl a, .int b => (if a then 1 else 0) == b
  | .int a, .bl b => a == (if b then 1 else 0)
  | .int a, .int b => a == b
  | .str a, .str b => a == b
  | _, _ => false
theorem eqAt_V {A : Around} {s : Shared} {y x : V} {u v : Value} (ry : RelV y u) (rx : RelV x v) (fy : flatV y = true) (fx : flatV x = true) : SeqAt.EqAt A s u v (eqV y x) := by
  cases y with
  | non =>
    cases ry
    cases x with
    | non => cases rx; exact SeqAt.EqAt.same _
    | bl b => cases rx; exact SeqAt.EqAt.none_bool b
    | int b => obtain ⟨t, rfl⟩ := rx; exact SeqAt.EqAt.none_int b t
    | str b => obtain ⟨t, rfl⟩ := rx; exact SeqAt.EqAt.none_str b t
    | _ => exact absurd (show false = true from fx) Bool.false_ne_true
  | bl a =>
    cases ry
    cases x with
    | non => cases rx; exact SeqAt.EqAt.bool_none a
    | bl b => cases rx; exact SeqAt.EqAt.bool_bool a b
    | int b => obtain ⟨t, rfl⟩ := rx; exact SeqAt.EqAt.bool_int a b t
    | str b => obtain ⟨t, rfl⟩ := rx; exact SeqAt.EqAt.bool_str a b t
    | _ => exact absurd (show false = true from fx) Bool.false_ne_true
  | int a =>
    obtain ⟨t', rfl⟩ := ry
    cases x with
    | non => cases rx; exact SeqAt.EqAt.int_none a t'
    | bl b => cases rx; exact SeqAt.EqAt.int_bool a t' b
    | int b => obtain ⟨t, rfl⟩ := rx; exact SeqAt.EqAt.int_int a t' b t
    | str b => obtain ⟨t, rfl⟩ := rx; exact SeqAt.EqAt.int_str a t' b t
    | _ => exact absurd (show false = true from fx) Bool.false_ne_true
  | str a =>
    obtain ⟨t', rfl⟩ := ry
    cases x with
    | non => cases rx; exact SeqAt.EqAt.str_none a t'
    | bl b => cases rx; exact SeqAt.EqAt.str_bool a t' b
    | int b => obtain ⟨t, rfl⟩ := rx; exact SeqAt.EqAt.str_int a t' b t
    | str b => obtain ⟨t, rfl⟩ := rx; exact SeqAt.EqAt.str_str a t' b t
    | _ => exact absurd (show false = true from fx) Bool.false_ne_true
  | _ => exact absurd (show false = true from fy) Bool.false_ne_true
/-- the items' answers, read off the values (a value's own answer does not lean on its token) -/
def eqU (x : V) (u : Value) : Bool := match u with
  | .none => eqV .non x
  | .bool b => eqV (.bl b) x
  | .int i _ => eqV (.int i) x
  | .str z _ => eqV (.str z) x
  | _ => false
theorem eqU_of {x y : V} {u : Value} (r : RelV y u) (f : flatV y = true) : eqU x u = eqV y x := by
  cases y with
  | non => cases r; rfl
  | bl b => cases r; rfl
  | int i => obtain ⟨t, rfl⟩ := r; rfl
  | str z => obtain ⟨t, rfl⟩ := r; rfl
  | _ => exact absurd (show false = true from f) Bool.false_ne_true
theorem any_eqU {x : V} : ∀ {xs : List V} {us : List Value}, Vals xs us → xs.all flatV = true → us.any (eqU x) = xs.any fun y => eqV y x
  | _, _, .nil, _ => rfl
  | y :: xs, u :: us, .cons r t, f => by
    rw [List.all_cons, Bool.and_eq_true] at f
    rw [List.any_cons, List.any_cons, eqU_of r f.1, any_eqU t f.2]
theorem mem_eqAt {A : Around} {s : Shared} {x : V} {v : Value} (rx : RelV x v) (fx : flatV x = true) : ∀ {xs : List V} {us : List Value}, Vals xs us → xs.all flatV = true → ∀ u ∈ us, SeqAt.EqAt A s u v (eqU x u)
  | _, _, .nil, _ => fun u hu => by cases hu
  | y :: xs, u :: us, .cons r t, f => fun u' hu => by
    rw [List.all_cons, Bool.and_eq_true] at f
    rcases List.mem_cons.mp hu with rfl | hu
    · rw [eqU_of r f.1]; exact eqAt_V r rx f.1 fx
    · exact mem_eqAt rx fx t f.2 u' hu
def inV (x : V) (xs : List V) : Bool := xs.any fun y => eqV y x
/-- x in a list or tuple of flat items -/
def rIn (K : PySem.W.Frag) (neg : Bool) : R2 := fun x y H Q => ∃ p xs, y = .ref p ∧ (SqL K H p xs ∨ SqT K H p xs) ∧ flatV x = true ∧ xs.all flatV = true ∧ Q (.bl (if neg then !inV x xs else inV x xs)) H
theorem op_in_seq : OpR X (compareOp .In) (rIn X.K false) := by
  intro pins s σ H x y v u Q I rx ry h
  obtain ⟨p, xs, rfl, hq, fx, fs, q⟩ := h
  cases ry
  rcases hq with hq | hq
  · obtain ⟨its, r, pl, hz⟩ := I.list hq
    refine SeqAt.in_listAt (eqU x) pl.isList (fun w hw => mem_eqAt rx fx r fs w (by simpa using hw)) ⟨.bl _, H, I, rfl, ?_⟩
    rw [show its.toArray.any (eqU x) = its.any (eqU x) by simp, any_eqU r fs]
    exact q
  · obtain ⟨its, r, pl, hz⟩ := I.tuple hq
    refine SeqAt.in_tupleAt (eqU x) pl (fun w hw => mem_eqAt rx fx r fs w (by simpa using hw)) ⟨.bl _, H, I, rfl, ?_⟩
    rw [show its.toArray.any (eqU x) = its.any (eqU x) by simp, any_eqU r fs]
    exact q
theorem op_notIn_seq : OpR X (compareOp .NotIn) (rIn X.K true) := by
  intro pins s σ H x y v u Q I rx ry h
  obtain ⟨p, xs, rfl, hq, fx, fs, q⟩ := h
  cases ry
  rcases hq with hq | hq
  · obtain ⟨its, r, pl, hz⟩ := I.list hq
    refine SeqAt.notIn_listAt (eqU x) pl.isList (fun w hw => mem_eqAt rx fx r fs w (by simpa using hw)) ⟨.bl _, H, I, rfl, ?_⟩
    rw [show its.toArray.any (eqU x) = its.any (eqU x) by simp, any_eqU r fs]
    exact q
  · obtain ⟨its, r, pl, hz⟩ := I.tuple hq
    refine SeqAt.notIn_tupleAt (eqU x) pl (fun w hw => mem_eqAt rx fx r fs w (by simpa using hw)) ⟨.bl _, H, I, rfl, ?_⟩
    rw [show its.toArray.any (eqU x) = its.any (eqU x) by simp, any_eqU r fs]
    exact q
/-! ### len, list(x), tuple(x) of any list or tuple that is read -/
theorem call_len_seq : CallR X (.builtin "len") (fun xs H Q => ∃ p ys, xs = [.ref p] ∧ (SqL X.K H p ys ∨ SqT X.K H p ys) ∧ Q (.int ys.length) H) := by
  intro pins s σ H xs us Q I r h
  obtain ⟨p, ys, rfl, hq, q⟩ := h
  obtain ⟨u, rfl, rx⟩ := vals1 r
  cases rx
  have hn := line63
  rcases hq with hq | hq
  · obtain ⟨its, r', pl, hz⟩ := I.list hq
    have hlen := r'.length
    exact Calls.call_len_list pl.isList (by simp only [List.size_toArray] <;> omega) ⟨.int ys.length, H, I.tok _, ⟨s.toks + 1, by rw [List.size_toArray, hlen]⟩, q⟩
  · obtain ⟨its, r', pl, hz⟩ := I.tuple hq
    have hlen := r'.length
    exact len_tuple pl (by simp only [List.size_toArray] <;> omega) ⟨.int ys.length, H, I.tok _, ⟨s.toks + 1, by rw [List.size_toArray, hlen]⟩, q⟩
theorem call_len_str : CallR X (.builtin "len") (fun xs H Q => ∃ z, xs = [.str z] ∧ z.length ≤ sizeLine ∧ Q (.int z.length) H) := by
  intro pins s σ H xs us Q I r h
  obtain ⟨z, rfl, hz, q⟩ := h
  obtain ⟨u, rfl, t, rfl⟩ := vals1 r
  have hn := line63
  exact len_str (by omega) ⟨.int z.length, H, I.tok _, ⟨_, rfl⟩, q⟩
theorem CallR.or {f : Value} {r r' : List V → Hp → VK → Prop} (h : CallR X f r) (h' : CallR X f r') : CallR X f (fun xs H Q => r xs H Q ∨ r' xs H Q) := by
  intro pins s σ H xs us Q I rs q
  rcases q with q | q
  · exact h pins s σ H xs us Q I rs q
  · exact h' pins s σ H xs us Q I rs q
theorem call_tuple_of : CallR X (.type "tuple") (fun xs H Q => ∃ p ys, xs = [.ref p] ∧ ((SqL X.K H p ys ∧ ∀ l, H l = none → Q (.ref l) (upd H l (.tup ys))) ∨ (SqT X.K H p ys ∧ Q (.ref p) H))) := by
  intro pins s σ H xs us Q I r h
  obtain ⟨p, ys, rfl, h⟩ := h
  obtain ⟨u, rfl, rx⟩ := vals1 r
  cases rx
  rcases h with ⟨hq, q⟩ | ⟨hq, q⟩
  · obtain ⟨its, r', pl, hz⟩ := I.list hq
    have hlen := r'.length
    refine call_tuple_list pl.isList (fun h' kp => ?_) (by simp only [List.size_toArray] <;> omega)
    have I1 : Inv X pins σ H { s with heap := h' } := I.kept (t' := s.toks) kp
    have I2 : Inv X pins σ (upd H h'.objs.size (.tup ys)) { s with heap := h'.push { cls := .type "tuple", data := .seq its.toArray } } :=
      I1.laid (t' := s.toks) (fun b o e => Heap.get?_push_of_some _ e) (Nat.le_refl _) (show ObjOk X.prog X.w _ _ _ (.tup ys) from ⟨hz, its, r', IsTup.new _ _⟩)
    exact ⟨.ref h'.objs.size, _, I2, rfl, q _ (I1.hok.fresh (Nat.le_refl _))⟩
  · obtain ⟨its, r', pl, hz⟩ := I.tuple hq
    exact call_tuple_same pl ⟨.ref p, H, I, rfl, q⟩

/-! ### the call of a builtin's method: o.m(..) -/
/-- the value is of that builtin type -/
def tyV (K : PySem.W.Frag) (T : String) (x : V) (H : Hp) : Prop := match x with
  | .str _ => T = "str"
  | .int _ => T = "int"
  | .ref p => (T = "list" ∧ ∃ xs, SqL K H p xs) ∨ (T = "tuple" ∧ ∃ o, K.lookup p = some o ∧ o.cls = .type "tuple" ∧ o.dict = none) ∨
      (T = "dict" ∧ ((∃ kvs, H p = some (.dK kvs)) ∨ ∃ kvs, H p = some (.dT kvs))) ∨ (T = "set" ∧ ∃ S n, H p = some (.set S n))
  | _ => False
theorem tyV_is {pins : List (Addr × Obj)} {σ : St} {H : Hp} {s : Shared} {T : String} {x : V} {v : Value} (I : Inv X pins σ H s) (r : RelV x v) (ty : tyV X.K T x H) :
    s.TypeIs v T ∧ ∀ a, v = .ref a → ∃ ob, s.heap.get? a = some ob ∧ ob.dict = none := by
  cases x with
  | str z =>
    obtain ⟨t, rfl⟩ := r
    cases (show T = "str" from ty)
    exact ⟨typeIs_str s z t, fun _ e => nomatch e⟩
  | int i =>
    obtain ⟨t, rfl⟩ := r
    cases (show T = "int" from ty)
    exact ⟨typeIs_int s i t, fun _ e => nomatch e⟩
  | ref p =>
    cases r
    rcases ty with ⟨rfl, xs, hq⟩ | ⟨rfl, o, hk, hc, hd⟩ | ⟨rfl, hk⟩ | ⟨rfl, S, n, hk⟩
    · obtain ⟨its, _, pl, _⟩ := I.list hq
      refine ⟨pl.isList.typeIs, fun a e => ?_⟩
      cases e
      obtain ⟨o, n, e, c, hd, _⟩ := pl
      exact ⟨o, e, hd⟩
    · refine ⟨⟨o, I.kIn p o hk, hc⟩, fun a e => ?_⟩
      cases e
      exact ⟨o, I.kIn _ o hk, hd⟩
    · have z : ∃ o, s.heap.get? p = some o ∧ o.ExactDict := by
        rcases hk with ⟨kvs, hk⟩ | ⟨kvs, hk⟩
        · obtain ⟨_, _, _, _, o, _, _, e, ex, _⟩ := I.hok p _ hk
          exact ⟨o, e, ex⟩
        · obtain ⟨_, _, _, _, o, _, _, e, ex, _⟩ := I.hok p _ hk
          exact ⟨o, e, ex⟩
      obtain ⟨o, e, ex⟩ := z
      refine ⟨⟨o, e, ex.1⟩, fun a e2 => ?_⟩
      cases e2
      exact ⟨o, e, ex.2.1⟩
    · obtain ⟨o, _, _, _, e, ex, _⟩ := I.hok p _ hk
      refine ⟨⟨o, e, ex.1⟩, fun a e2 => ?_⟩
      cases e2
      exact ⟨o, e, ex.2.1⟩
  | _ => exact False.elim ty
def tBM (K : PySem.W.Frag) (T : String) (r : V → List V → Hp → VK → Prop) (to : TE) (t : TA) : TE := fun σ H Q => to σ H fun x H1 => tyV K T x H1 ∧ t σ H1 fun xs H2 => r x xs H2 Q
variable {o e : Expr} {es : List Expr} {to : TE} {t : TA} {name : Str} {apos cpos : Pos} {T id : String} {r : V → List V → Hp → VK → Prop}
theorem pe_bm (pa : PlainAttrs T) (slot : Slot T name id) (hty : typeOf (.builtin id) = pure (.type "method_descriptor")) (hm : MtR X id r) (ho : PE X o to) (ha : PA X (e :: es) t)
    (hbase : attributeBase o name X.env (eval o X.env) = eval o X.env := by rfl)
    (hfew : ((backTo cpos (starEach (e :: es) X.env)).all (fun x => !x.1) && (backToKw cpos (keywordEach [] X.env)).all (fun x => x.1.isSome)
      && decide ((e :: es).length + ([] : List Keyword).length + (if ([] : List Keyword).isEmpty then 0 else 1) < 30)) = true := by rfl)
    (hline : (apos.endLine == cpos.line) = true := by rfl) (hs : starEach (e :: es) X.env = (false, eval e X.env) :: starEach es X.env := by rfl) (hplain : (backTo cpos (starEach es X.env)).any (·.1) = false := by rfl) :
    PE X (.Call (.Attribute o name apos) (e :: es) [] cpos) (tBM X.K T r to t) := by
  intro pins s σ H Q I h
  refine wpAny_Call_method_late hbase hfew hline rfl (thn (ho pins s σ H _ I h) fun v s1 ⟨x, H1, I1, r1, ty, q1⟩ => ?_)
  obtain ⟨h1, h2⟩ := tyV_is I1 r1 ty
  refine ⟨T, id, pa, slot, hty, h1, h2, ?_⟩
  have hA := ha cpos pins s1 σ H1 _ I1 q1
  rw [hs] at hA ⊢
  refine Calls.callWith_builtin (by show (false || (backTo cpos (starEach es X.env)).any (·.1)) = false; rw [hplain] <;> rfl) (Calls.evalArgs_plain ?_)
  exact thn hA fun us s2 ⟨vs, H2, I2, r2, q2⟩ => hm pins s2 σ H2 x vs v us Q I2 r1 r2 q2
/- xs.append(e), list.index on a module's tuple .. are MtR facts of 06m -/
end
end L2

namespace L2
open PySem PySem.Spec PyProof.Rows

def MtM (X : Cx) (id : String) (r : V → List V → Hp → VK → Prop) : Prop :=
  ∀ (pins : List (Addr × Obj)) (s : Shared) (σ : St) (H : Hp) (x : V) (xs : List V) (v : Value) (us : List Value) (Q : VK), Inv X pins σ H s → RelV x v → Vals xs us → r x xs H Q →
    wpAny (model X.prog X.w) X.A (call (.builtin id) (v :: us)) (EP X pins σ Q) X.xe s

/-! ### lists of values -/
theorem Vals.one : ∀ {x : V} {us : List Value}, Vals [x] us → ∃ u, us = [u] ∧ RelV x u
  | _, _, .cons r .nil => ⟨_, rfl, r⟩
theorem Vals.two : ∀ {x y : V} {us : List Value}, Vals [x, y] us → ∃ u v, us = [u, v] ∧ RelV x u ∧ RelV y v
  | _, _, _, .cons r (.cons q .nil) => ⟨_, _, rfl, r, q⟩
theorem Vals.zero : ∀ {us : List Value}, Vals [] us → us = []
  | _, .nil => rfl
theorem Vals.eraseIdx : ∀ {xs : List V} {us : List Value} (i : Nat), Vals xs us → Vals (xs.eraseIdx i) (us.eraseIdx i)
  | _, _, _, .nil => .nil
  | _, _, 0, .cons _ t => t
  | _, _, i + 1, .cons r t => .cons r (Vals.eraseIdx i t)
theorem Vals.reverse {xs : List V} {us : List Value} (h : Vals xs us) : Vals xs.reverse us.reverse := by
  induction h with
  | nil => exact .nil
  | cons r t ih => rw [List.reverse_cons, List.reverse_cons]; exact Vals.append ih (.cons r .nil)
section
variable {X : Cx} {pins : List (Addr × Obj)} {σ : St} {H : Hp} {s : Shared} {l b : Addr} {xs ys zs : List V}

/-! ### the two steps: a tracked list is rewritten, a new list is laid -/
theorem Inv.lset {its its' : List Value} {n : Nat} {f : Array Value → Array Value} {t' : Nat} (I : Inv X pins σ H s) (hH : H l = some (.lst xs))
    (e : s.heap.get? l = some { cls := .type "list", data := .seq its.toArray n }) (hf : f its.toArray = its'.toArray) (hv : Vals ys its') (hz : ys.length ≤ sizeLine) :
    Inv X pins σ (upd H l (.lst ys)) { s with heap := s.heap.update l (Obj.mapSeq f), toks := t' } := by
  have q := PySem.IsL.update e f
  rw [hf] at q
  refine I.write (x := l) (e := l) (by rw [hH]; exact trivial) (.inl rfl) (fun b' u hb hu => (Heap.get?_update_other s.heap (Obj.mapSeq f) (Ne.symm hb)).trans hu) ⟨_, q⟩ ?_
  exact ⟨hz, its', _, hv, q⟩
theorem Inv.lnew {its : List Value} {t' : Nat} (I : Inv X pins σ H s) (hv : Vals ys its) (hz : ys.length ≤ sizeLine) :
    Inv X pins σ (upd H s.heap.objs.size (.lst ys)) { s with heap := s.heap.push { cls := .type "list", data := .seq its.toArray }, toks := t' } :=
  I.laid (fun _ _ q => Heap.get?_push_of_some _ q) (Nat.le_refl _) ⟨hz, its, 0, hv, Heap.get?_push_size _ rfl⟩
theorem Inv.fresh (I : Inv X pins σ H s) : H s.heap.objs.size = none := I.hok.fresh (Nat.le_refl _)
theorem Inv.lstM (I : Inv X pins σ H s) (hH : H l = some (.lst xs)) : xs.length ≤ sizeLine ∧ ∃ (its : List Value) (n : Nat), Vals xs its ∧ xs.length = its.length ∧ s.heap.get? l = some { cls := .type "list", data := .seq its.toArray n } := by
  obtain ⟨z, its, n, r, e⟩ := I.hok l _ hH
  exact ⟨z, its, n, r, r.length, e⟩

end

section
variable {X : Cx}

/-! ### methods -/
def rAppend : V → List V → Hp → VK → Prop := fun x vs H Q => ∃ l xs y, x = .ref l ∧ vs = [y] ∧ H l = some (.lst xs) ∧ xs.length < sizeLine ∧ Q .non (upd H l (.lst (xs ++ [y])))
theorem mt_append : MtM X "list.append" rAppend := by
  intro pins s σ H x vs v us Q I rx rv h
  obtain ⟨l, xs, y, rfl, rfl, hH, hz, q⟩ := h
  cases rx
  obtain ⟨u, rfl, ru⟩ := rv.one
  obtain ⟨z, its, n, r, hl, e⟩ := I.lstM hH
  refine call_meets F.slot_list_append ⟨_, e, rfl⟩ F.entry_list_append (F.args_list_append_2 _ _) (PySem.list_append l its.toArray n u (by rw [List.size_toArray]; omega)) ⟨e, ?_⟩
  refine ⟨.non, _, I.lset (its' := its ++ [u]) hH e (by simp) (r.append (.cons ru .nil)) ?_, rfl, q⟩
  rw [List.length_append, List.length_singleton]
  omega

/-! ### list + list, list += list, list * int -/
def rCat : R2 := fun x y H Q => ∃ l b xs zs, x = .ref l ∧ y = .ref b ∧ H l = some (.lst xs) ∧ H b = some (.lst zs) ∧ xs.length + zs.length ≤ sizeLine ∧ ∀ p, H p = none → Q (.ref p) (upd H p (.lst (xs ++ zs)))
theorem op_cat : OpR X (binaryOp .Add) rCat := by
  intro pins s σ H x y v u Q I rx ry h
  obtain ⟨l, b, xs, zs, rfl, rfl, hH, hB, hz, q⟩ := h
  cases rx
  cases ry
  obtain ⟨z, its, n, r, hl, e⟩ := I.lstM hH
  obtain ⟨z2, its2, n2, r2, hl2, e2⟩ := I.lstM hB
  refine PySem.P.add_list e e2 ?_ (by rw [List.size_toArray, List.size_toArray]; omega)
  have ea : its.toArray ++ its2.toArray = (its ++ its2).toArray := by simp
  rw [ea]
  exact ⟨.ref _, _, I.lnew (t' := s.toks) (r.append r2) (by rw [List.length_append]; omega), rfl, q _ I.fresh⟩
/-! ### del xs[i] -/
end

/-! ### xs[a:b] = ys -/
section
variable {prog : Program} {w : World} {A : Around} {E : Value → Shared → Prop} {s : Shared}
end

section
variable {X : Cx}
end
end L2

namespace Att
open PySem PySem.W PySem.Calls PyProof.Rows

/-! ### the script -/
theorem ints_of_wellAll {P : Params} {h : Heap} : ∀ (ns : List Int) (vs : List Value), WellAll P h vs (ns.map WData.int) → IntsAre vs ns := by
  intro ns
  induction ns with
  | nil =>
    intro vs w
    rw [List.map_nil] at w
    cases w
    exact .nil
  | cons n ns ih =>
    intro vs w
    rw [List.map_cons] at w
    cases w with
    | cons a b =>
      cases a
      exact .cons _ _ (ih _ b)

theorem script_of {l : OpenLaw} {n : Nat} (hn : l.most = some n) {P : Params} {h : Heap} {args : List WData} {vals : List Value}
    (hpre : l.row.toRowW.claim.pre args = true) (hwl : WellAll P h vals args) :
    ∃ a vs ns, vals = [Value.ref a] ∧ args = [WData.list (ns.map WData.int)] ∧ h.get? a = some { cls := .type "list", data := .seq vs.toArray } ∧ IntsAre vs ns ∧ ns.length ≤ n := by
  have hsh : WShape.hasAll [] args [.list .int] = true := (pre_splitW hpre).1
  have hc : l.pre.holds [] { args := args } = true := (pre_splitW hpre).2
  obtain ⟨d, r, rfl, h1, h2⟩ := hasAllW_cons hsh
  obtain rfl := hasAllW_nil h2
  obtain ⟨xs, rfl, h3⟩ := hasW_list h1
  obtain ⟨ns, rfl⟩ := items_int h3
  have hlen : ns.length ≤ n := by
    unfold OpenLaw.pre at hc
    have h4 : (WTm.not (.lt (.lit (.int (n : Int))) (.len (.arg 0)))).holds [] { args := [.list (ns.map .int)] } = true := by
      have h4 := (holds_andW hc).1
      rw [hn] at h4
      exact h4
    have h5 := condW_of h4 (w_not (w_lt w_lit (w_len_list (w_arg rfl))))
    rw [List.length_map] at h5
    refine Nat.le_of_not_lt fun q => ?_
    have q' : (n : Int) < ((ns.length : Nat) : Int) := by omega
    first
      | (rw [decide_eq_true q'] at h5; exact absurd h5 (by decide))
      | (simp at h5; omega)
  cases hwl with
  | cons w1 w2 =>
    cases w2
    cases w1 with
    | list ho hall => exact ⟨_, _, ns, rfl, rfl, ho, ints_of_wellAll ns _ hall, hlen⟩

theorem post_true (l : OpenLaw) (args : List WData) : l.row.toRowW.claim.post args (.bool true) args = true :=
  postW_of (r := l.row.toRowW) (X := (true == true))
    (show WShape.has [] (.bool true) .bool = true by first | rfl | decide | simp [WShape.has, WShape.arms, WShape.armsAll])
    (show (WTm.eq .res (.lit (.bool true))).value [] { args := args, res := some (.bool true), after := args } = some (.bool (true == true)) from w_eq_bool (w_res rfl) w_lit) rfl

/-! ### the attachment: holds_open's last premise (the goal 'hc' behind k_head) from a wpAny of the law's body -/
/-- the same from a codeAny of the CALL (for a layer whose function contracts speak of calls) -/
theorem attach_call {l : OpenLaw} {n : Nat} {q : Program} {loose : List Str} {XP : (Str → Option Value) → Heap → Prop} {YP : World → Heap → Prop} {d : DefRec}
    (hn : l.most = some n) (hdf : d.params.defaults = [])
    (call : ∀ (w : World) (s₀ s₁ : Shared) (mg mb : Str → Option Value) (fa : Addr) (o : Obj) (pm cd doc : Value) (a : Addr) (vs : List Value) (ns : List Int),
      Ground q loose [] XP w s₀ mg mb s₁.heap → YP w s₁.heap →
      s₁.heap.get? fa = some o → o.data = .func (docDef d.name d.params d.body d.scope pm cd doc) → s₁.heap.CodeRec cd d.name → mg d.name = some (.ref fa) →
      s₁.heap.get? a = some { cls := .type "list", data := .seq vs.toArray } → IntsAre vs ns → ns.length ≤ n → s₁.gens = #[] →
      codeAny (model l.prog w) callerA (.call (.ref fa) ⟨[.ref a], []⟩) (fun r s' => r = .ok (.ret (.bool true)) ∧ OldK s₁.heap s'.heap ∧ s'.os = s₁.os ∧ AllBare s'.gens) s₁) :
    WalkO q loose XP YP l.row.toRowW d [] (fun f vs => PySem.call f vs) := by
  intro w s₀ s₁ mg mb G Y fa o pm cd doc dV kV ho hd hcd hD hmg hg args vals as hpre hlay hrd hwl hlo
  obtain rfl : dV = .none := Dflts.none hD hdf
  obtain rfl : kV = .none := Dflts.noKw hD
  obtain ⟨a, vs, ns, rfl, rfl, hobj, hints, hlen⟩ := script_of hn hpre hwl
  refine enter_call (codeAny_mono (call w s₀ s₁ mg mb fa o pm cd doc a vs ns G Y ho (fd_plain hd) hcd hmg hobj hints hlen hg) fun r s' hq => ?_)
  obtain ⟨rfl, h2, h3, h4⟩ := hq
  exact ⟨.inl ⟨.bool true, .bool true, [], rfl, fun _ => rfl, .bool true, post_true l _, fun _ => ⟨List.Pairwise.nil, fun _ hm => (nomatch hm)⟩⟩, h2, h3, h4⟩

/-! ### rules over ANY heap (no ledger) from facts about the written part K: the library's own take a ledger (News) for what they write -/
section
variable {prog : Program} {w : World} {A : Around} {E : Value → Shared → Prop} {s : Shared} {K : Frag}

/-! the whole heap as the ledger: makes every rule that writes through a ledger a rule over any heap -/
def ledger (h : Heap) (L d : Addr) : List (Addr × Obj) := (List.range h.objs.size).filterMap fun a => if a = L ∨ a = d then none else (h.get? a).map fun o => (a, o)
end
end Att

namespace L2
open PySem PySem.Spec PyProof.Rows

theorem vals_ints : ∀ {vs : List Value} {ns : List Int}, IntsAre vs ns → Vals (ns.map V.int) vs
  | _, _, .nil => .nil
  | _, _, .cons n t h => .cons ⟨t, rfl⟩ (vals_ints h)

/-- nothing is tracked but the script, known to the object (or it is an object of the module) -/
def Only (H : Hp) : Prop := ∀ b, H b = none ∨ ∃ o xs, H b = some (.frz o (.lst xs))

/-- THE HEAD: the law's promise, at the heap behind the top. F, the promise of the law's def, may use that base is part of the heap (so K.In base, base.Ns mainGlobals mg stand in Mod) -/
theorem law_call {cm : Bool} {P : Program} {w : World} {K : PySem.W.Frag} {mg mb : Str → Option Value} {CX : CXT} {k : Nat} {fa a : Addr} {fd : FuncData} {x : Str} {sp : Sp} {s₁ : Shared} {vs : List Value} {ns : List Int}
    (KX : K.In s₁.heap) (hns : s₁.heap.Ns mainGlobals mg) (hb : s₁.heap.Ns builtinsNs mb) (hbb : ∀ x : Str, x ≠ "__name__" → mb x = bootBuiltins x) (hlim : s₁.heap.NoLimit) (hg : s₁.gens = #[])
    (ha : s₁.heap.get? a = some { cls := .type "list", data := .seq vs.toArray }) (hi : IntsAre vs ns) (hl : ns.length ≤ sizeLine) (hr : Room cm k callerA)
    (F : ∀ base : Heap, K.In base → base.Ns mainGlobals mg → FnOk P w K mg base CX cm k fa fd [x] sp) (hbind : ∀ (s : Shared) (u : Value), BindsTo s fd ⟨[u], []⟩ [(x, u)])
    (hsp : ∀ H : Hp, Only H → SqL K H a (ns.map V.int) → sp [.ref a] H (fun v _ => v = .bl true) fun _ _ _ => False)
    (hCX : ∀ H e s', CX [] H s₁ (fun _ _ _ => False) e s' → False) :
    codeAny (model P w) callerA (.call (.ref fa) ⟨[.ref a], []⟩) (fun r s' => r = .ok (.ret (.bool true)) ∧ OldK s₁.heap s'.heap ∧ s'.os = s₁.os ∧ AllBare s'.gens) s₁ := by
  have rv := vals_ints hi
  have lenV := hi.length
  -- from an abstract heap in which nothing but the script may be tracked
  have core : ∀ H : Hp, Only H → SqL K H a (ns.map V.int) → HOk P w H s₁.heap → (∀ b, H b ≠ none → b = a) → (H a ≠ none → K.lookup a = none) →
      codeAny (model P w) callerA (.call (.ref fa) ⟨[.ref a], []⟩) (fun r s' => r = .ok (.ret (.bool true)) ∧ OldK s₁.heap s'.heap ∧ s'.os = s₁.os ∧ AllBare s'.gens) s₁ := by
    intro H hO hS hok hA hK
    have base_of : ∀ {b : Addr} {o : Obj}, s₁.heap.get? b = some o → H b = none → (hidT s₁.heap H).get? b = some o := fun e n => hidT_get e n
    have noA : ∀ {b : Addr} {o : Obj} {es : Array DictEntry} {ep : Nat}, s₁.heap.get? b = some o → o.data = .dict es ep → H b = none := fun {b o es ep} e d => by
      cases q : H b with
      | none => rfl
      | some u =>
        have e' : b = a := hA b (by rw [q]; simp)
        subst e'
        rw [ha] at e; cases e
        have d' : Data.seq vs.toArray _ = Data.dict es ep := d
        cases d'
    have nsK : ∀ {b : Addr} {m : Str → Option Value}, s₁.heap.Ns b m → (hidT s₁.heap H).Ns b m := fun {b m} ⟨o, es, ep, e, d, r⟩ => ⟨o, es, ep, base_of e (noA e d), d, r⟩
    have hKb : K.In (hidT s₁.heap H) := fun b o e => base_of (KX b o e) (by
      cases q : H b with
      | none => rfl
      | some u =>
        have e' : b = a := hA b (by rw [q]; simp)
        subst e'
        rw [hK (by rw [q]; simp)] at e; cases e)
    have hM : Mod K mg (hidT s₁.heap H) := ⟨hKb, nsK hns, ⟨mb, nsK hb, hbb⟩, let ⟨mc, h1, h2⟩ := hlim; ⟨mc, nsK h1, h2⟩⟩
    have e0 : Env0 P w K mg (hidT s₁.heap H) callerA [] s₁ H := ⟨rfl, hM, fun b o e => of_hidT e, Nat.le_of_eq (hidT_size _ _), trivial, fun b hb => absurd (show b ∈ ([] : List Addr) from hb) (by simp), hok, .of_eq hg⟩
    refine codeAny_mono ((F _ hKb (nsK hns)).run callerA [] s₁ H ⟨[.ref a], []⟩ [.ref a] [.ref a] _ _ hr e0 (hbind s₁ (.ref a)) (.cons rfl .nil) (hsp H hO hS)) fun r s' h => ?_
    cases r with
    | error e => exact (hCX H e s' h).elim
    | ok fl =>
      cases fl with
      | next => exact False.elim h
      | brk => exact False.elim h
      | cont => exact False.elim h
      | ret u =>
        obtain ⟨v, H', os, bare, un, hok', r', q⟩ := h
        have q' : v = .bl true := q
        subst q'
        obtain rfl : u = Value.bool true := r'
        refine ⟨rfl, OldK.of_keep fun b o e => ?_, os, bare⟩
        cases q : H b with
        | none => exact un.keep b o e q (by intro z; exact absurd (show b ∈ ([] : List Addr) from z) (by simp)) (by simp)
        | some u =>
          rcases hO b with z | ⟨ob, xs, z⟩
          · rw [q] at z; cases z
          · have z2 := un.frzs b ob _ z
            obtain ⟨e1, _⟩ := hok b _ z
            obtain ⟨e2, _⟩ := hok' b _ z2
            rw [e] at e1; cases e1
            exact e2
  cases hk : K.lookup a with
  | some o =>
    -- the script is one of the module's own objects
    have e := KX a o hk
    rw [ha] at e
    cases e
    refine core (fun _ => none) (fun _ => .inl rfl) (.inr ⟨_, vs.toArray, _, hk, rfl, rfl, rfl, by rw [List.size_toArray, lenV]; exact hl, by simpa using rv⟩) (fun b u z => by have z' : (none : Option HO) = some u := z; cases z') (fun b z => absurd rfl z) fun z => absurd rfl z
  | none =>
    refine core (fun b => if b = a then some (.frz { cls := .type "list", data := .seq vs.toArray } (.lst (ns.map V.int))) else none) (fun b => ?_) (.inl (.inr ⟨{ cls := .type "list", data := .seq vs.toArray }, if_pos rfl⟩)) (fun b u z => ?_) (fun b z => ?_) fun _ => hk
    · by_cases hb : b = a
      · exact .inr ⟨_, _, if_pos hb⟩
      · exact .inl (if_neg hb)
    · by_cases hb : b = a
      · have z' := (if_pos hb).symm.trans z
        cases z'
        subst hb
        exact ⟨ha, by rw [List.length_map]; exact hl, vs, _, rv, ha⟩
      · have z' := (if_neg hb).symm.trans z
        cases z'
    · by_cases hb : b = a
      · exact hb
      · exact absurd (if_neg hb) z
end L2

namespace L2
open PySem PySem.Spec PyProof.Rows

abbrev KOf {K : PySem.W.Frag} {h : Heap} (_ : K.In h) : PySem.W.Frag := K

/-- the goal that k_head leaves (case hc), from the law's promise. F gives the function object fd (K's own) once, then the promise over every base -/
theorem walk_of {cm : Bool} {l : PySem.W.OpenLaw} {n k : Nat} {q : Program} {loose : List Str} {XP : (Str → Option Value) → Heap → Prop} {YP : World → Heap → Prop} {d : DefRec} {K : Params → PySem.W.Frag} {CX : World → CXT} {sp : World → Sp} {x : Str}
    (hn : l.most = some n) (hn2 : n ≤ sizeLine) (hdf : d.params.defaults = []) (hr : Room cm k callerA)
    (hY : ∀ (w : World) (h : Heap), YP w h → (K w.params).In h)
    (F : ∀ (w : World) (mg : Str → Option Value) (fa : Addr) (h : Heap), (K w.params).In h → h.Ns mainGlobals mg → mg d.name = some (.ref fa) →
      ∃ fd : FuncData, (∀ (s : Shared) (u : Value), BindsTo s fd ⟨[u], []⟩ [(x, u)]) ∧
        ∀ base : Heap, (K w.params).In base → base.Ns mainGlobals mg → FnOk l.prog w (K w.params) mg base (CX w) cm k fa fd [x] (sp w))
    (hsp : ∀ (w : World) (H : Hp) (a : Addr) (ns : List Int), ns.length ≤ n → Only H → SqL (K w.params) H a (ns.map V.int) → sp w [.ref a] H (fun v _ => v = .bl true) fun _ _ _ => False)
    (hCX : ∀ (w : World) (H : Hp) (s : Shared) (e : Value) (s' : Shared), CX w [] H s (fun _ _ _ => False) e s' → False) :
    PySem.W.WalkO q loose XP YP l.row.toRowW d [] (fun f vs => PySem.call f vs) := by
  refine Att.attach_call hn hdf fun w s₀ s₁ mg mb fa o pm cd doc a vs ns G Y ho hd hcd hmg hobj hints hlen hg => ?_
  have KX := hY w _ Y
  obtain ⟨fd, hb, hF⟩ := F w mg fa _ KX G.T.g hmg
  exact law_call KX G.T.g G.T.b G.T.builtins G.T.nolimit hg hobj hints (Nat.le_trans hlen hn2) hr hF hb (fun H hO hS => hsp w H a ns hlen hO hS) fun H e s' => hCX w H s₁ e s'
end L2

/- THE LAST THEOREM (shape; LID, My.* are yours):
   My.Adr: a structure of the addresses that your layer names (classes, functions); My.Txt K t: a structure (Prop) of the equations over K;
   My.txt_mk : {K} {implicit addresses ..} (e1 : nsIn K mainGlobals "law" = some (some (.ref f))) (e2 : K.lookup f = some ⟨oc, od, .func (fnOf "law" "law" params body scope dV kV doc pm an cdv ct), sl⟩) (e3 : codeIn K cdv "law" = true) .. : ∃ t, My.Txt K t

set_option maxRecDepth 100000 in
set_option maxHeartbeats 0 in
theorem PySem.Challenge.cw_LID_holds : PySem.Challenge.rw_LID.Holds := by
  w_on; o_law; k_head; (case hw => w_witness2)
  k_fill
  refine L2.walk_of (l := PySem.Challenge.rw_LID) (n := 63) (k := 40) (x := "script") (CX := fun w => ..) (sp := fun _ => My.sp_law) rfl (by decide) rfl ⟨rfl, by decide, by decide⟩ (fun w h Y => PySem.W.kIn_of Y) ?F ?S ?C
  case F =>
    intro w mg fa h KX G hmg
    have T : ∃ t, My.Txt (L2.KOf KX) t := by
      dsimp only [L2.KOf]                          -- K must stand as «<heap const> w.params» for k_is
      refine' My.txt_mk ?e1 ?e2 ?e3 ..
      (case e1 => PySem.W.k_is)                    -- in the order: a name -> its address -> its object -> its parts
      (case e2 => PySem.W.k_is)
      ..
    obtain ⟨t, T⟩ := T
    have e0 := hmg.symm.trans (PySem.W.mg_of KX G T.law)
    cases e0                                       -- fa is the law's own address
    exact ⟨_, fun s u => .of_eq rfl, fun base kb nb => My.law_fn T kb nb⟩     -- if «.of_eq rfl» comes too early: refine' ⟨_, ?b, fun base kb nb => My.law_fn T kb nb⟩; exact fun s u => .of_eq rfl
  case S => exact fun w H a ns hl hO hS => ..
  case C => exact ..
(the tactic k_is has no namespace: write k_is) -/

/-! SHORT WORDS over the layer: a def of the text, its body, what a loop and a test want. -/
namespace L2
open PySem PySem.Spec PyProof.Rows

/-! ### the text by places -/
/-- the j-th statement of a class's body -/
def inClass (s : Stmt) (j : Nat) : Stmt := match s with
  | .ClassDef _ _ _ body _ _ _ _ _ _ _ => body.getD j (.Pass ⟨0, 0, 0, 0⟩)
  | _ => .Pass ⟨0, 0, 0, 0⟩
def defArgs (s : Stmt) : Arguments := match s with
  | .FunctionDef _ a _ _ _ _ _ _ _ _ => a
  | _ => { posonlyargs := [], args := [], vararg := none, kwonlyargs := [], kw_defaults := [], kwarg := none, defaults := [] }
def defBody (s : Stmt) : List Stmt := match s with
  | .FunctionDef _ _ b _ _ _ _ _ _ _ => b
  | _ => []
def defScope (s : Stmt) : Scope := match s with
  | .FunctionDef _ _ _ _ _ _ sc _ _ _ => sc
  | _ => { kind := .function, names := [], isGenerator := false, isCoroutine := false }

/-! ### no exception leaves a def -/
abbrev CX0 : CXT := fun _ _ _ _ _ _ => False
abbrev E0 : XK := fun _ _ _ => False
theorem pass0 {X : Cx} : Passes CX0 X E0 := fun _ _ _ _ _ _ _ h => h.elim

/-! ### a def (or method) of the text as it stands behind the top -/
structure Fun (K : PySem.W.Frag) (x qual : Str) (st : Stmt) (f : Addr) (fd : FuncData) : Prop where
  ex : ∃ (oc : Value) (od : Option Addr) (kV doc pm : Value) (an : Option Addr) (cdv ct : Value) (osl : Array (Option Value)),
    fd = PySem.W.fnOf x qual (defArgs st) (defBody st) (defScope st) .none kV doc pm an cdv ct ∧ K.lookup f = some ⟨oc, od, .func fd, osl⟩ ∧ PySem.W.codeIn K cdv qual = true
  kp : PySem.W.keepIn K (.ref f) = true
section
variable {P : Program} {w : World} {K : PySem.W.Frag} {mg : Str → Option Value} {base : Heap}
/-- THE RULE for a def: its body as a term of rules, and the reading of that term -/
theorem Fun.ok {cm : Bool} {x qual : Str} {st : Stmt} {f : Addr} {fd : FuncData} {N ps : List Str} {k : Nat} {sp : Sp} (F : Fun K x qual st f fd) (S : FnScope N ps (defScope st)) (len : ∀ vs H Q E, sp vs H Q E → vs.length = ps.length)
    (hbody : ∀ (cdv : Value) (A : Around) (outer : List Env) (s : Shared) (H : Hp) (vs : List V) (Q : VK) (E : XK), Room cm k (A.deeper (envOfC qual (defScope st) s.heap.objs.size f cdv)) → sp vs H Q E →
      ∃ t, PSs (cxOf CX0 cm P w K mg base N qual (defScope st) f cdv A outer s H E).nox (defBody st) t ∧ t { nx := fun _ H' => Q .non H', rt := fun _ => Q } (start N vs) H) : FnOk P w K mg base CX0 cm (k + 1) f fd ps sp := by
  obtain ⟨oc, od, kV, doc, pm, an, cdv, ct, osl, rfl, lk, hcd⟩ := F.ex
  refine fn_of lk hcd S len fun A outer s H vs Q E hr hsp => ?_
  obtain ⟨t, h, q⟩ := hbody cdv A outer s H vs Q E hr hsp
  exact ⟨t, h.nox, q⟩
/-- how its arguments bind (no defaults): h is «fun _ _ _ _ _ _ us hl => match us, hl with | [_, _], _ => rfl», one _ a parameter -/
theorem Fun.binds {x qual : Str} {st : Stmt} {f : Addr} {fd : FuncData} {ps : List Str} (F : Fun K x qual st f fd)
    (h : ∀ (kV doc pm : Value) (an : Option Addr) (cdv ct : Value) (us : List Value), us.length = ps.length → bindArgs (PySem.W.fnOf x qual (defArgs st) (defBody st) (defScope st) .none kV doc pm an cdv ct) ⟨us, []⟩ = pure (ps.zip us)) : Binds K fd ps [] := by
  obtain ⟨oc, od, kV, doc, pm, an, cdv, ct, osl, rfl, lk, hcd⟩ := F.ex
  exact .all (h kV doc pm an cdv ct)
theorem fun_mk {x qual : Str} {st : Stmt} {f : Addr} {oc : Value} {od an : Option Addr} {osl : Array (Option Value)} {kV doc pm cdv ct : Value} (l : K.lookup f = some ⟨oc, od, .func (PySem.W.fnOf x qual (defArgs st) (defBody st) (defScope st) .none kV doc pm an cdv ct), osl⟩)
    (c : PySem.W.codeIn K cdv qual = true) (k : PySem.W.keepIn K (.ref f) = true) : Fun K x qual st f (PySem.W.fnOf x qual (defArgs st) (defBody st) (defScope st) .none kV doc pm an cdv ct) := ⟨⟨oc, od, kV, doc, pm, an, cdv, ct, osl, rfl, l, c⟩, k⟩
end
theorem hu_of {cm : Bool} {A : Around} {k : Nat} (hr : Room cm k A) : A.units + 1 < cLine := Nat.lt_of_le_of_lt (Nat.add_le_add_left (by decide : 1 ≤ 64) _) hr.units
/-! ### expressions in short: the name that stands in the i-th slot -/
section
variable {X : Cx}
theorem pv (i : Nat) {x : Str} {pos : Pos} (hN : X.N[i]? = some x := by rfl) (hv : Vis X.env.scope x := by first | exact Or.inl rfl | exact Or.inr (Or.inl rfl) | exact Or.inr (Or.inr rfl)) (hd : (x == ("__debug__" : Str)) = false := by decide)
    (hcd : (x == ("__classdict__" : Str)) = false := by decide) : PE X (.Name x pos) (tVar i) := pe_var hN hv hd hcd
end

/-! ### tests -/
theorem iteF {A B : Prop} (h : B) : if false = true then A else B := by
  rw [if_neg Bool.false_ne_true]
  exact h
theorem iteT {A B : Prop} (h : A) : if true = true then A else B := by
  rw [if_pos rfl]
  exact h
theorem ite2 {c A B : Prop} [Decidable c] (h1 : c → A) (h2 : ¬ c → B) : if c then A else B := by
  by_cases h : c
  · rw [if_pos h]
    exact h1 h
  · rw [if_neg h]
    exact h2 h
/-! ### heaps -/
/-- all that was tracked is as it was -/
def Same (H H' : Hp) : Prop := ∀ b o, H b = some o → H' b = some o
theorem Same.refl (H : Hp) : Same H H := fun _ _ h => h
theorem Same.trans {H H1 H2 : Hp} (a : Same H H1) (b : Same H1 H2) : Same H H2 := fun c o h => b c o (a c o h)
theorem Same.free {H H' : Hp} (e : Same H H') {l : Addr} (h : H' l = Option.none) : H l = Option.none := by
  cases q : H l with
  | none => rfl
  | some o =>
    rw [e l o q] at h
    cases h
theorem Same.seq {K : PySem.W.Frag} {H H' : Hp} {a : Addr} {xs : List V} (e : Same H H') (h : SqL K H a xs) : SqL K H' a xs := by
  rcases h with (h | ⟨o, h⟩) | h
  · exact .inl (.inl (e _ _ h))
  · exact .inl (.inr ⟨o, e _ _ h⟩)
  · exact .inr h

end L2

namespace L2
open PySem PySem.Spec PyProof.Rows

/-- what a comprehension's scope draws from around: the free names' cells -/
def clOf (env : Env) : List (Str × NameKind) → List (Str × Addr) → List (Str × Addr)
  | [], acc => acc
  | (n, k) :: r, acc => if k == .free then clOf env r ((n, (env.cells.lookup n).getD 0) :: acc) else clOf env r acc
theorem clOf_old {env : Env} {x : Str} {c : Addr} : ∀ {ns : List (Str × NameKind)} {acc : List (Str × Addr)}, (∃ c, acc.lookup x = some c) → ∃ c, (clOf env ns acc).lookup x = some c
  | [], _, h => h
  | (n, k) :: r, acc, h => by
    unfold clOf
    split
    · refine clOf_old (c := c) ?_
      obtain ⟨c', e⟩ := h
      rw [List.lookup_cons]
      cases q : x == n
      · exact ⟨c', e⟩
      · exact ⟨_, rfl⟩
    · exact clOf_old (c := c) h
theorem clOf_has {env : Env} {x : Str} : ∀ {ns : List (Str × NameKind)} {acc : List (Str × Addr)}, (x, NameKind.free) ∈ ns → ∃ c, (clOf env ns acc).lookup x = some c
  | (n, k) :: r, acc, h => by
    unfold clOf
    rcases List.mem_cons.mp h with e | h
    · cases e
      rw [if_pos (by rfl)]
      exact clOf_old (c := 0) ⟨_, by rw [List.lookup_cons, beq_self_eq_true]⟩
    · split
      · exact clOf_has h
      · exact clOf_has h
theorem clOf_of {env : Env} {x : Str} {c : Addr} : ∀ {ns : List (Str × NameKind)} {acc : List (Str × Addr)}, (∀ y ∈ ns, y.2 = .free → ∃ d, env.cells.lookup y.1 = some d) → (∀ y d, acc.lookup y = some d → env.cells.lookup y = some d) →
    (clOf env ns acc).lookup x = some c → env.cells.lookup x = some c
  | [], _, _, ha, h => ha _ _ h
  | (n, k) :: r, acc, hn, ha, h => by
    unfold clOf at h
    have hr : ∀ y ∈ r, y.2 = .free → ∃ d, env.cells.lookup y.1 = some d := fun y hy => hn y (List.mem_cons_of_mem _ hy)
    split at h
    · rename_i hk
      have hk' : k = .free := by simpa using hk
      obtain ⟨d, hd⟩ := hn (n, k) List.mem_cons_self hk'
      refine clOf_of hr (fun y d' hy => ?_) h
      rw [List.lookup_cons] at hy
      cases q : y == n
      · rw [q] at hy
        exact ha y d' hy
      · rw [q] at hy
        have e : y = n := by simpa using q
        subst e
        have hd' : env.cells.lookup y = some d := hd
        rw [hd'] at hy
        rw [hd']
        exact hy
    · exact clOf_of hr ha h
theorem mem_of_lookup_str {x : Str} {k : NameKind} : ∀ {ns : List (Str × NameKind)}, ns.lookup x = some k → (x, k) ∈ ns
  | (n, j) :: r, h => by
    rw [List.lookup_cons] at h
    cases q : x == n
    · rw [q] at h
      exact List.mem_cons_of_mem _ (mem_of_lookup_str h)
    · rw [q] at h
      have e : x = n := by simpa using q
      subst e
      cases h
      exact List.mem_cons_self

/-- the context of a comprehension's block; no exception leaves it -/
def cxComp (X : Cx) (N : List Str) (scope : Scope) (C : Addr) (s : Shared) (H : Hp) (fp : List Addr) : Cx where
  prog := X.prog
  w := X.w
  K := X.K
  mg := X.mg
  base := X.base
  A := X.A
  N := N
  s₀ := s
  H₀ := H
  env := compEnvC scope (clOf X.env scope.names []) C X.env
  outer := X.stack
  stack := X.stack
  ex := fp
  fn := fun _ => false
  calm := X.calm
  pn := []
  xe := fun _ _ => False

/-- the names that are drawn from around, by their places -/
def capOk (sc scope : Scope) (N0 : List Str) : List (Option Nat) → List Str → Bool
  | [], _ => true
  | none :: r, _ :: n => capOk sc scope N0 r n
  | some j :: r, x :: n => decide (N0[j]? = some x) && decide (scope.names.lookup x = some .free) && decide (sc.names.lookup x = some .cell) && capOk sc scope N0 r n
  | _ :: _, [] => false
theorem capOk_get {sc scope : Scope} {N0 : List Str} : ∀ {cap : List (Option Nat)} {N : List Str} {i j : Nat}, capOk sc scope N0 cap N = true → cap[i]? = some (some j) →
    ∃ x, N[i]? = some x ∧ N0[j]? = some x ∧ scope.names.lookup x = some .free ∧ sc.names.lookup x = some .cell
  | [], _, _, _, _, e => by simp at e
  | o :: _, [], _, _, h, _ => by cases o <;> simp [capOk] at h
  | o :: r, y :: n, 0, j, h, e => by
    simp at e
    subst e
    unfold capOk at h
    simp only [Bool.and_eq_true, decide_eq_true_eq] at h
    exact ⟨y, rfl, h.1.1.1, h.1.1.2, h.1.2⟩
  | o :: r, y :: n, i + 1, j, h, e => by
    have h' : capOk sc scope N0 r n = true := by
      cases o with
      | none => exact h
      | some k =>
        unfold capOk at h
        simp only [Bool.and_eq_true] at h
        exact h.2
    obtain ⟨x, a, b⟩ := capOk_get (i := i) (j := j) h' (by simpa using e)
    exact ⟨x, by simpa using a, b⟩
/-- what must be true of the written scope; sc: the scope around -/
structure CompScope (sc scope : Scope) (N0 N : List Str) (cap : List (Option Nat)) : Prop where
  kind : scope.kind = .function
  cell : ∀ y ∈ scope.names, y.2 ≠ .cell
  names : ∀ y ∈ scope.names, y.2 = .local → scope.names.lookup y.1 = some .local
  free : ∀ y ∈ scope.names, y.2 = .free → sc.names.lookup y.1 = some .cell
  nd : N.Nodup
  len : cap.length = N.length
  cap : capOk sc scope N0 cap N = true

/-- the block's names ahead of the first turn -/
def capt (cap : List (Option Nat)) (σ : St) : St := cap.map fun o => match o with
  | none => none
  | some j => (σ[j]?).join

theorem relabel_free {scope : Scope} {env : Env} (hk : env.scope.kind = .function) (hf : ∀ y ∈ scope.names, y.2 = .free → env.kindOf y.1 = some .cell) {x : Str} (h : scope.names.lookup x = some .free) :
    (relabel scope env).names.lookup x = some .cell := by
  have all : ∀ (ns : List (Str × NameKind)), (∀ y ∈ ns, y.2 = .free → env.kindOf y.1 = some .cell) → ns.lookup x = some .free →
      (ns.map fun (n, k) => if (k == .free && env.scope.kind == .function && env.kindOf n == some .cell) then (n, NameKind.cell) else (n, k)).lookup x = some .cell := by
    intro ns
    induction ns with
    | nil => intro _ h; simp at h
    | cons y r ih =>
      obtain ⟨n, k⟩ := y
      intro hf h
      rw [List.map_cons]
      rw [List.lookup_cons] at h
      cases q : x == n
      · rw [q] at h
        have := ih (fun y hy => hf y (List.mem_cons_of_mem _ hy)) h
        show List.lookup x ((if (k == .free && env.scope.kind == .function && env.kindOf n == some .cell) = true then (n, NameKind.cell) else (n, k)) :: _) = _
        split <;> (rw [List.lookup_cons, q]; exact this)
      · rw [q] at h
        cases h
        have e := hf (n, .free) List.mem_cons_self rfl
        show List.lookup x ((if (NameKind.free == .free && env.scope.kind == .function && env.kindOf n == some .cell) = true then (n, NameKind.cell) else (n, NameKind.free)) :: _) = _
        rw [if_pos (by rw [hk, e]; rfl), List.lookup_cons, q]
  exact all scope.names hf h
theorem relabel_back {scope : Scope} {env : Env} {x : Str} (hc : ∀ y ∈ scope.names, y.2 ≠ .cell) (h : (relabel scope env).names.lookup x = some .cell ∨ (relabel scope env).names.lookup x = some .free) : (x, NameKind.free) ∈ scope.names := by
  have all : ∀ (ns : List (Str × NameKind)), (∀ y ∈ ns, y.2 ≠ .cell) →
      (∀ k, (k = NameKind.cell ∨ k = NameKind.free) → (ns.map fun (n, k) => if (k == .free && env.scope.kind == .function && env.kindOf n == some .cell) then (n, NameKind.cell) else (n, k)).lookup x = some k → (x, NameKind.free) ∈ ns) := by
    intro ns
    induction ns with
    | nil => intro _ k _ h; simp at h
    | cons y r ih =>
      obtain ⟨n, j⟩ := y
      intro hc k hk h
      rw [List.map_cons] at h
      have hr : ∀ y ∈ r, y.2 ≠ NameKind.cell := fun y hy => hc y (List.mem_cons_of_mem _ hy)
      change List.lookup x ((if (j == .free && env.scope.kind == .function && env.kindOf n == some .cell) = true then (n, NameKind.cell) else (n, j)) :: _) = some k at h
      split at h
      · rename_i hj
        rw [Bool.and_eq_true, Bool.and_eq_true] at hj
        have hj' : j = .free := by simpa using hj.1.1
        subst hj'
        rw [List.lookup_cons] at h
        cases q : x == n
        · rw [q] at h
          exact List.mem_cons_of_mem _ (ih hr k hk h)
        · have e : x = n := by simpa using q
          subst e
          exact List.mem_cons_self
      · rw [List.lookup_cons] at h
        cases q : x == n
        · rw [q] at h
          exact List.mem_cons_of_mem _ (ih hr k hk h)
        · rw [q] at h
          cases h
          have e : x = n := by simpa using q
          subst e
          rcases hk with z | z
          · exact absurd z (hc (x, j) List.mem_cons_self)
          · rw [z]; exact List.mem_cons_self
  rcases h with h | h
  · exact all scope.names hc _ (.inl rfl) h
  · exact all scope.names hc _ (.inr rfl) h

section
variable {X : Cx} {pins : List (Addr × Obj)} {σ : St} {H : Hp} {s : Shared} {h₁ : Heap} {scope : Scope} {N : List Str} {cap : List (Option Nat)} {fp : List Addr} {t' : Nat}

theorem comp_start (S : CompScope X.env.scope scope X.N N cap) (I : Inv X pins σ H s) (hf : ∀ b ∈ fp, FpOk X pins H b) (hlt : ∀ b ∈ fp, b < s.heap.objs.size)
    (hns : h₁.Ns s.heap.objs.size (fun x => ([] : List (Str × Value)).reverse.lookup x)) (keep : ∀ b o, s.heap.get? b = some o → h₁.get? b = some o) :
    Inv (cxComp X N scope s.heap.objs.size s H fp) [] (capt cap σ) H { s with heap := h₁, toks := t' } := by
  have hkf : ∀ y ∈ scope.names, y.2 = .free → X.env.kindOf y.1 = some .cell := S.free
  have hcell : ∀ y ∈ scope.names, y.2 = .free → ∃ d, X.env.cells.lookup y.1 = some d := fun y hy e => I.ok.has _ (.inl (hkf y hy e))
  have hcl : ∀ x c, (clOf X.env scope.names []).lookup x = some c → X.env.cells.lookup x = some c := fun x c h => clOf_of hcell (fun y d h => by simp at h) h
  refine ⟨⟨I.ok.mod, S.kind, I.ok.glob, I.ok.blt, Nat.le_refl _, fun x y c h1 h2 => I.ok.inj x y c (hcl x c h1) (hcl y c h2), fun x h => clOf_has (relabel_back S.cell h), (fun x c h => nomatch h), I.ok.hd, I.ok.frames, .inl rfl,
    fun b hb => ⟨Nat.ne_of_lt (hlt b hb), fun x c h => (hf b hb).2.2.2.2.1 x c (hcl x c h)⟩, I.bs, Nat.le_trans I.ok.bsz I.sz, fun b o e hb => ?_, fun b hb h => ?_, I.stack, I.stkFree⟩,
    rfl, I.bare, Un.kept keep, ⟨_, hns, fun i x v e1 e2 e3 => ?_⟩, fun x c h => ?_, I.hok.fresh (Nat.le_refl _), fun x c h => I.freeC x c (hcl x c h), fun p hp => (by simp [cxComp] at hp), I.hok.kept keep, ?_⟩
  · rcases (hf b hb).2.2.2.1 with z | z
    · exact I.ok.noex b o e z
    · exact absurd (Nat.lt_of_lt_of_le (Heap.lt_size (I.ok.bs b o e).1) z) (Nat.lt_irrefl _)
  · rcases List.mem_cons.mp (I.stkSub b h) with z | z
    · exact (hf b hb).2.1 z
    · exact (hf b hb).2.2.1 z
  · have e2' : (capt cap σ)[i]? = some (some v) := e2
    unfold capt at e2'
    rw [List.getElem?_map] at e2'
    cases q : cap[i]? with
    | none => rw [q] at e2'; cases e2'
    | some o =>
      cases o with
      | none => rw [q] at e2'; cases e2'
      | some j =>
        rw [q] at e2'
        obtain ⟨y, n1, n2, n3, n4⟩ := capOk_get S.cap q
        have e1' : N[i]? = some x := e1
        rw [n1] at e1'
        cases e1'
        have ej : σ[j]? = some (some v) := by
          have e3 : (σ[j]?).join = some v := Option.some.inj e2'
          cases r : σ[j]? with
          | none => rw [r] at e3; cases e3
          | some o => rw [r] at e3; rw [show o = some v from e3]
        obtain ⟨m, hn, hl⟩ := I.loc
        obtain ⟨u, ru, l⟩ := hl j x v n2 ej (.inr (.inl n4))
        refine ⟨u, ru, .inr ⟨.inl (relabel_free I.ok.kind hkf n3), ?_⟩⟩
        rcases l with ⟨hk, _⟩ | ⟨_, c, hc, z⟩
        · have n4' : X.env.kindOf x = some .cell := n4
          rw [n4'] at hk; cases hk
        · obtain ⟨c', hc'⟩ := clOf_has (env := X.env) (acc := []) (mem_of_lookup_str n3)
          have := hcl x c' hc'
          rw [hc] at this
          cases this
          exact ⟨c, hc', z.keeps keep⟩
  · obtain ⟨v, z⟩ := I.cell x c (hcl x c h)
    exact ⟨v, z.keeps keep⟩
  · show (capt cap σ).length = N.length
    unfold capt
    rw [List.length_map]
    exact S.len

/-- behind the block: the frame is as it was -/
theorem comp_end {pins' : List (Addr × Obj)} {σ' : St} {H' : Hp} {s' : Shared} {h' : Heap} (I : Inv X pins σ H s) (hf : ∀ b ∈ fp, FpOk X pins H b) (J : Inv (cxComp X N scope s.heap.objs.size s H fp) pins' σ' H' s')
    (sb : Heap.SameBut s.heap.objs.size s'.heap h') : Inv X pins σ H' { s' with heap := h' } := by
  have I1 : Inv X pins σ H' s' := I.call' J.os J.base J.hok J.bare fun b hb => ⟨(hf b hb).2.2.2.1, (hf b hb).2.1, (hf b hb).2.2.2.2.1, (hf b hb).2.2.2.2.2⟩
  have hfree : H' s.heap.objs.size = none := J.free
  refine I1.turned (t' := s'.toks) (it := s.heap.objs.size) (fun b o hb e => (sb.2 b hb).trans e) hfree (Nat.ne_of_gt I.lt) (.inr I.sz) (fun x c h z => ?_) fun p hp z => ?_
  · obtain ⟨v, q⟩ := I.cell x c h
    have := q.lt
    rw [z] at this
    exact Nat.lt_irrefl _ this
  · have := Heap.lt_size (I.pin p hp).1
    rw [z] at this
    exact Nat.lt_irrefl _ this
end

/-- the tests of a clause: none, or one -/
def PIfs (X : Cx) (ifs : List Expr) (t : TT) : Prop :=
  ∀ (pins : List (Addr × Obj)) (s : Shared) (σ : St) (H : Hp) (Q : Bool → Hp → Prop), Inv X pins σ H s → t σ H Q →
    wpAny (model X.prog X.w) X.A (forIn ifs true fun c r => if r = true then do let ok ← isTrue c X.env (eval c X.env); pure (ForInStep.yield ok) else pure (ForInStep.yield r)) (TP X pins σ Q) X.xe s
def tYes : TT := fun _ H Q => Q true H
theorem pf_none {X : Cx} : PIfs X [] tYes := fun pins s σ H Q I h => wpAny_tests_nil ⟨H, I, h⟩
theorem pf_one {X : Cx} {c : Expr} {t : TT} (h : PT X c t) : PIfs X [c] t := fun pins s σ H Q I hq => wpAny_tests_one (h pins s σ H Q I hq)

section
variable {prog : Program} {w : World} {A : Around} {R : Result → Shared → Prop} {s : Shared}
theorem compLoop_gen {elt target iter : Expr} {ifs : List Expr} {scope : Scope} {pos : Pos} {it acc : Value} {env : Env} (I : Nat → Shared → Prop)
    (turn : ∀ n s, I n s → wpAny (model prog w) A (pyNext it) (fun r s₁ => match r with
      | none => R (.ok .next) s₁
      | some v => wpAny (model prog w) A (letOwnedTupleGo target it v) (fun _ s₀ => wpAny (model prog w) A (assign target env v) (fun _ s₂ =>
          wpAny (model prog w) A (forIn ifs true fun c r => if r = true then do let ok ← isTrue c env (eval c env); pure (ForInStep.yield ok) else pure (ForInStep.yield r)) (fun ok s₃ =>
            if ok = true then wpAny (model prog w) A (eval elt env) (fun x s₄ =>
              wpAny (model prog w) A (call (.builtin "list.append") [acc, x]) (fun _ s₅ => ∃ m, m < n ∧ I m s₅) (fun _ _ => False) s₄) (fun _ _ => False) s₃
            else ∃ m, m < n ∧ I m s₃) (fun _ _ => False) s₂) (fun _ _ => False) s₀) (fun _ _ => False) s₁) (fun _ _ => False) s)
    (n : Nat) (h : I n s) : codeAny (model prog w) A (.compLoop (.ListComp elt [⟨target, iter, ifs, 0⟩] scope pos) 0 it acc env) R s := by
  refine codeAny_loop rfl I (fun n s hI => ?_) n h
  show wpAny _ A ((compTurn (.ListComp elt [⟨target, iter, ifs, 0⟩] scope pos) 0 it acc env).onRaise (fun x => do noteFrame x env; theTreesLotGoes x)) _ _ s
  refine wpAny_noted ?_
  rw [compTurn_list]
  refine wpAny_bind (wpAny_standAt (wpAny_bind (wpAny_mono (turn n s hI) (fun r s₁ h₁ => ?_) fun _ _ h' => h'.elim)))
  cases r with
  | none => exact wpAny_pure h₁
  | some v =>
    refine wpAny_bind (wpAny_mono h₁ (fun _ s₀ h₀ => ?_) fun _ _ h' => h'.elim)
    refine wpAny_bind (wpAny_mono h₀ (fun _ s₂ h₂ => wpAny_bind (wpAny_mono h₂ (fun ok s₃ h₃ => ?_) fun _ _ h' => h'.elim)) fun _ _ h' => h'.elim)
    cases ok with
    | false => exact wpAny_pure ⟨rfl, h₃⟩
    | true =>
      exact wpAny_bind (wpAny_bind (wpAny_mono h₃ (fun x s₄ h₄ => wpAny_bind (wpAny_mono h₄ (fun _ s₅ h₅ => wpAny_pure (wpAny_pure ⟨rfl, h₅⟩)) fun _ _ h' => h'.elim)) fun _ _ h' => h'.elim))
end

/-- the turns of a comprehension: D the new list, W the invariant by the turn, a measure, the items so far, the block's names, the heap -/
def compBody (J : It) (H1 : Hp) (cap : List (Option Nat)) (g : TG) (tt : TT) (te : TE) (σ : St) (Q : VK) : Prop := ∀ D, H1 D = none →
  ∃ W : Nat → Nat → List V → St → Hp → Prop, (∃ m, W 0 m [] (capt cap σ) (upd H1 D (.lst []))) ∧ ∀ i m ys σ' H', W i m ys σ' H' → H' D = some (.lst ys) ∧
    ((J.stop i H' ∧ Q (.ref D) H') ∨ (J.go i H' ∧ ∀ x H2, J.yld i H' x H2 → g x σ' H2 fun σ2 H3 => tt σ2 H3 fun b H4 =>
      if b = true then te σ2 H4 fun y H5 => H5 D = some (.lst ys) ∧ ys.length < sizeLine ∧ ∃ m', m' < m ∧ W (i + 1) m' (ys ++ [y]) σ2 (upd H5 D (.lst (ys ++ [y])))
      else ∃ m', m' < m ∧ W (i + 1) m' ys σ2 H4))
/-- [elt for target in iter if test] -/
def tComp (wi : TI) (cap : List (Option Nat)) (g : TG) (tt : TT) (te : TE) : TE := fun σ H Q => wi σ H fun J H1 => compBody J H1 cap g tt te σ Q

theorem pe_comp {X : Cx} {elt tgt iter : Expr} {ifs : List Expr} {scope : Scope} {pos : Pos} {N : List Str} {cap : List (Option Nat)} {wi : TI} {g : TG} {tt : TT} {te : TE}
    (S : CompScope X.env.scope scope X.N N cap) (hc : X.calm = true) (hi : PI X tgt iter wi)
    (hb : ∀ (C : Addr) (s : Shared) (H : Hp) (fp : List Addr), PG (cxComp X N scope C s H fp) tgt g ∧ PIfs (cxComp X N scope C s H fp) ifs tt ∧ PE (cxComp X N scope C s H fp) elt te)
    (hclos : closureFor scope X.env = pure (clOf X.env scope.names []) := by with_unfolding_all rfl) (hs : ∀ x, foldedSetIterable iter X.env x = pure x := by intro _; rfl) :
    PE X (.ListComp elt [⟨tgt, iter, ifs, 0⟩] scope pos) (tComp wi cap g tt te) := by
  intro pins s σ H Q I h
  rw [eval_ListComp]
  refine wpAny_comprehension_free (use := none) (cl := clOf X.env scope.names []) rfl hs hclos S.kind S.names ?_
  refine thn (hi pins s σ H _ I h) fun v s1 h1 => thn h1 fun itv s2 h2 => ?_
  obtain ⟨it, fp, tn, J, H2, e, I2, T, st2, f2, k⟩ := h2
  subst e
  refine wpAny_newObj_type (wpAny_newFunctionEnv S.cell (by intro y hy; simp at hy) (fun h₁ hns₁ hsb₁ => ?_) S.kind)
  dsimp only at hns₁ hsb₁ ⊢
  have I3 : Inv X pins σ (upd H2 s2.heap.objs.size (.lst [])) { s2 with heap := s2.heap.push { cls := .type "list", dict := none, data := .seq ([] : List Value).toArray } } := I2.lnew (t' := s2.toks) .nil (Nat.zero_le _)
  obtain ⟨W, ⟨m0, w0⟩, turn⟩ := k s2.heap.objs.size I2.fresh
  generalize hD : s2.heap.objs.size = D at *
  generalize hsD : ({ s2 with heap := s2.heap.push { cls := .type "list", dict := none, data := .seq ([] : List Value).toArray } } : Shared) = sD at *
  have hsz : sD.heap.objs.size = D + 1 := by rw [← hsD, ← hD]; exact Heap.size_push ..
  have hheap : s2.heap.push { cls := .type "list", dict := none, data := .seq ([] : List Value).toArray } = sD.heap := by rw [← hsD]
  rw [hheap] at hns₁ hsb₁ ⊢
  have up : ∀ b o, s2.heap.get? b = some o → sD.heap.get? b = some o := fun b o e => by rw [← hheap]; exact Heap.get?_push_of_some _ e
  have keep : ∀ b o, sD.heap.get? b = some o → h₁.get? b = some o := fun b o e => hsb₁.extBut b o (Nat.ne_of_lt (Heap.lt_size e)) (Heap.get?_push_of_some _ e)
  have hfD : D ∉ fp := fun hm => by
    obtain ⟨o, e, _⟩ := T.obj _ _ st2 D hm
    have := Heap.lt_size e
    rw [hD] at this
    exact Nat.lt_irrefl _ this
  have f3 : ∀ b ∈ fp, FpOk X pins (upd H2 D (.lst [])) b := fun b hb => ⟨by rw [upd_ne (fun z => hfD (by rw [← z]; exact hb))]; exact (f2 b hb).1, (f2 b hb).2⟩
  have hlt : ∀ b ∈ fp, b < sD.heap.objs.size := fun b hb => by
    obtain ⟨o, e, _⟩ := T.obj _ _ st2 b hb
    exact Heap.lt_size (up b o e)
  have I4 := comp_start (t' := s2.toks + ([] : List (Str × Value)).length) S I3 f3 hlt hns₁ keep
  obtain ⟨hg, hif, hel⟩ := hb sD.heap.objs.size sD (upd H2 D (.lst [])) fp
  have st4 : tn 0 h₁ := T.keep _ _ _ st2 fun b hb o e => keep b o (up b o e)
  have stat : ∀ {H' : Hp}, (∀ b ∈ fp, H' b = none) → ∀ b ∈ fp, FpOk (cxComp X N scope sD.heap.objs.size sD (upd H2 D (.lst [])) fp) [] H' b := fun hn b hb =>
    ⟨hn b hb, (I4.ok.exf b hb).1, I4.ok.exfs b hb, .inl hb, fun x c h z => (I4.ok.exf b hb).2 x c h z, fun p hp => (by simp [cxComp] at hp)⟩
  have loop : codeAny (model X.prog X.w) X.A (.compLoop (.ListComp elt [⟨tgt, iter, ifs, 0⟩] scope pos) 0 (.ref it) (.ref D) (compEnvC scope (clOf X.env scope.names []) sD.heap.objs.size X.env))
      (compPost (model X.prog X.w) X.A X.xe none (EP X pins σ Q) (.ref D) sD.heap.objs.size) { sD with heap := h₁, toks := s2.toks + ([] : List (Str × Value)).length } := by
    refine compLoop_gen (fun n s' => ∃ i ys σ' H', Inv (cxComp X N scope sD.heap.objs.size sD (upd H2 D (.lst [])) fp) [] σ' H' s' ∧ tn i s'.heap ∧ (∀ b ∈ fp, H' b = none) ∧ W i n ys σ' H') ?_ m0
      ⟨0, [], capt cap σ, _, I4, st4, fun b hb => (f3 b hb).1, w0⟩
    rintro n s5 ⟨i, ys, σ5, H5, I5, st5, fr5, w5⟩
    obtain ⟨hD5, way⟩ := turn i n ys σ5 H5 w5
    rcases way with ⟨stop, q⟩ | ⟨go, step⟩
    · refine thn (T.done (cxComp X N scope sD.heap.objs.size sD (upd H2 D (.lst [])) fp) rfl rfl rfl hc i [] s5 σ5 H5 (fun _ _ => False) I5 (stat fr5) st5 stop) fun r s6 ⟨hr, I6⟩ => ?_
      subst hr
      obtain ⟨m, hn, _⟩ := I6.loc
      exact ⟨m, hn, fun h' sb => ⟨.ref D, H5, comp_end I3 f3 I6 sb, rfl, q⟩⟩
    · refine thn (T.item (cxComp X N scope sD.heap.objs.size sD (upd H2 D (.lst [])) fp) rfl rfl rfl hc i [] s5 σ5 H5 (fun _ _ => False) I5 (stat fr5) st5 go) fun r s6 ⟨u, hr, h6⟩ => ?_
      subst hr
      refine thn h6 fun _ s7 ⟨x, H7, I7, r7, y7, st7, fr7⟩ => ?_
      have I7' := I7.pinned (stat fr7) (T.obj _ _ st7)
      refine thn (hg _ s7 σ5 H7 x u _ I7' r7 (step x H7 y7)) fun _ s8 ⟨σ8, H8, I8, q8⟩ => ?_
      refine thn (hif _ s8 σ8 H8 _ I8 q8) fun b s9 ⟨H9, I9, q9⟩ => ?_
      have back : ∀ {σ' : St} {H' : Hp} {s' : Shared}, Inv (cxComp X N scope sD.heap.objs.size sD (upd H2 D (.lst [])) fp) ([] ++ pinsAt fp s7.heap) σ' H' s' → tn (i + 1) s'.heap ∧ ∀ b ∈ fp, H' b = none := fun {σ' H' s'} J' =>
        ⟨T.keep _ _ _ st7 fun b hb o e => (J'.pin (b, o) (List.mem_append_right _ (List.mem_append_right _ (mem_pinsAt hb e)))).1, fun b hb => by
          obtain ⟨o, e, d⟩ := T.obj _ _ st7 b hb
          exact (J'.pin (b, o) (List.mem_append_right _ (List.mem_append_right _ (mem_pinsAt hb e)))).2.1⟩
      cases b with
      | false =>
        obtain ⟨m', hm, w9⟩ := (show ∃ m', m' < n ∧ W (i + 1) m' ys σ8 H9 from q9)
        exact ⟨m', hm, i + 1, ys, σ8, H9, I9.unpinned, (back I9).1, (back I9).2, w9⟩
      | true =>
        refine thn (hel _ s9 σ8 H9 _ I9 (show te σ8 H9 _ from q9)) fun y s10 ⟨v10, H10, I10, r10, q10⟩ => ?_
        obtain ⟨hD10, hz, m', hm, w10⟩ := q10
        refine thn (mt_append (X := cxComp X N scope sD.heap.objs.size sD (upd H2 D (.lst [])) fp) _ s10 σ8 H10 (.ref D) [v10] (.ref D) [y] (fun _ H' => H' = upd H10 D (.lst (ys ++ [v10]))) I10 rfl (.cons r10 .nil) ⟨D, ys, v10, rfl, rfl, hD10, hz, rfl⟩) fun _ s11 ⟨v11, H11, I11, _, e11⟩ => ?_
        subst e11
        exact ⟨m', hm, i + 1, ys ++ [v10], σ8, _, I11.unpinned, (back I11).1, (back I11).2, w10⟩
  subst hsD
  subst hD
  exact codeAny_compStart_list loop (T.self _ 0 _ _ _ st4 loop)
end L2

namespace L2
open PySem PySem.Spec PyProof.Rows
section
variable {X : Cx} {x : Str} {pos : Pos} {tg : Expr}
/-- a module's int, text, object -/
theorem pe_globI {i : Int} (hg : Gl X x) (hm : ∃ t, X.mg x = some (.int i t)) (hd : (x == ("__debug__" : Str)) = false := by decide) : PE X (.Name x pos) (tC (.int i)) := by
  obtain ⟨t, e⟩ := hm
  exact pe_glob hg e ⟨t, rfl⟩ hd
theorem pe_globS {y : Str} (hg : Gl X x) (hm : ∃ t, X.mg x = some (.str y t)) (hd : (x == ("__debug__" : Str)) = false := by decide) : PE X (.Name x pos) (tC (.str y)) := by
  obtain ⟨t, e⟩ := hm
  exact pe_glob hg e ⟨t, rfl⟩ hd
theorem pe_globR {a : Addr} (hg : Gl X x) (hm : X.mg x = some (.ref a)) (hd : (x == ("__debug__" : Str)) = false := by decide) : PE X (.Name x pos) (tC (.ref a)) := pe_glob hg hm rfl hd

/-- isinstance(x, T), T a built-in class -/
theorem call_isinst : CallR X (.builtin "isinstance") (fun xs H Q => ∃ x T t b, xs = [x, .ty T] ∧ TyOf X.K H x t ∧ PySem.W.kitOne X.K t (.type T) = some b ∧ Q (.bl b) H) := by
  intro pins s σ H xs us Q I r h
  obtain ⟨x, T, t, b, rfl, ty, e, q⟩ := h
  obtain ⟨u, v, rfl, ru, rv⟩ := r.two
  cases rv
  exact isinst_ok I ru ty e fun tk => ⟨.bl b, H, I.tok tk, rfl, q⟩

theorem bools_of : ∀ {bs : List Bool} {us : List Value}, Vals (bs.map V.bl) us → LSm.BoolsAre us bs
  | [], _, .nil => .nil
  | b :: bs, _, .cons r t => by cases r; exact .cons b (bools_of t)
theorem all_boolsL {prog : Program} {w : World} {A : Around} {E : Value → Shared → Prop} {s : Shared} {l : Addr} {vs : List Value} {bs : List Bool} {Q : Value → Shared → Prop} (hh : A.handled = none) (hl : s.heap.IsList l vs.toArray) (hb : LSm.BoolsAre vs bs)
    (h : ∀ h' tk, (∀ b o, s.heap.get? b = some o → h'.get? b = some o) → Q (.bool (bs.all id)) { s with heap := h', toks := tk }) : wpAny (model prog w) A (call (.builtin "all") [.ref l]) Q E s := by
  have hlt : l < s.heap.objs.size := by obtain ⟨_, e, _⟩ := hl; exact Heap.lt_size e
  refine call_all_walk (wpAny_pyIter_list hl ?_)
  refine ⟨s.heap.objs.size, [s.heap.objs.size, l], [s.heap.objs.size], vs.toArray.size, _, _, fun i => (bs[i]?).getD true, rfl, Walks.list (A := A.in1) hh _ l (Nat.ne_of_lt hlt) vs.toArray,
    ⟨⟨_, Heap.get?_push_size _ rfl, rfl, rfl⟩, hl.push _⟩, fun i v s' Q' E' hP hQ => ?_, fun h' tk hk => ?_⟩
  · obtain ⟨b, e, rfl⟩ := hb.get i v (by simpa using hP)
    simp only [e, Option.getD_some] at hQ
    exact wpAny_truthy_bool hQ
  · have e : ((List.range vs.toArray.size).all fun i => (bs[i]?).getD true) = bs.all id := by
      rw [List.size_toArray, hb.length]; exact LSm.range_all bs
    rw [e]
    exact h h' tk (LSm.kept_iter hk)
/-- all(list of bools) -/
theorem call_all (hc : X.calm = true) : CallR X (.builtin "all") (fun xs H Q => ∃ (p : Addr) (bs : List Bool), xs = [.ref p] ∧ SqL X.K H p (bs.map V.bl) ∧ Q (.bl (bs.all id)) H) := by
  intro pins s σ H xs us Q I r h
  obtain ⟨p, bs, rfl, hq, q⟩ := h
  obtain ⟨u, rfl, ru⟩ := r.one
  cases ru
  obtain ⟨its, rv, pl, hz⟩ := I.list hq
  exact all_boolsL (I.ok.hd hc) pl.isList (bools_of rv) fun h' tk hk => ⟨.bl _, H, I.kept hk, rfl, q⟩
/-- the signs of a text -/
def Its (y : Str) : It := ⟨fun i _ => i < y.cps.size, fun i H x H' => H' = H ∧ ∃ c, y.cps[i]? = some c ∧ x = .str ⟨#[c]⟩, fun i _ => i = y.cps.size⟩
theorem walks_str {prog : Program} {w : World} {A : Around} (hh : A.handled = none) (I : Addr) (y : Str) (t : Tok) : Walks prog w A I [I] [I] y.cps.size (SignAt y) (fun i h => h.IsStrIter I (strIterType y) y t i) := by
  unfold strIterType
  split
  · exact Walks.strAscii hh I y t
  · exact Walks.strWide hh I y t
theorem turn_str {P : Program} {w : World} {K : PySem.W.Frag} (y : Str) (t : Tok) (it : Addr) : Turn P w K tg (Its y) [it] it (fun i h => h.IsStrIter it (strIterType y) y t i) where
  mem := by simp
  obj := fun i h st b hb => by
    have e : b = it := by simpa using hb
    subst e
    obtain ⟨o, e, c, d⟩ := st
    exact ⟨o, e, fun v z => by rw [d] at z; cases z⟩
  keep := fun i h h' st k => by
    obtain ⟨o, e, r⟩ := st
    exact ⟨o, k it (by simp) o e, r⟩
  item := by
    intro X hP hw hK hc i pins s σ H E I hf st hg
    subst hP hw hK
    obtain ⟨f0, f1, f2, f3, f4, f5⟩ := hf it (by simp)
    have W := walks_str (prog := X.prog) (w := X.w) (I.ok.hd hc) it y t
    refine W.item i s _ _ hg st fun v h' tk hv st' kk => ?_
    obtain ⟨c, t', hc', rfl⟩ := hv
    have I1 : Inv X pins σ H { s with heap := h', toks := tk } := I.turned (fun b o hb e => kk b o (by simpa using hb) e) f0 f1 f3 f4 f5
    obtain ⟨o, e, c1, d⟩ := id st'
    refine ⟨_, rfl, go_of (s := { s with heap := h', toks := tk }) (n := strIterType y) e c1 d ?_ ⟨.str ⟨#[c]⟩, H, I1, ⟨t', rfl⟩, ⟨rfl, c, hc', rfl⟩, st', fun b hb => (hf b hb).1⟩⟩
    unfold strIterType
    split <;> decide
  done := by
    intro X hP hw hK hc i pins s σ H E I hf st hg
    subst hP hw hK
    have hg' : i = y.cps.size := hg
    subst hg'
    obtain ⟨f0, f1, f2, f3, f4, f5⟩ := hf it (by simp)
    have W := walks_str (prog := X.prog) (w := X.w) (I.ok.hd hc) it y t
    exact W.done s _ _ st fun h' tk kk => ⟨rfl, I.turned (fun b o hb e => kk b o (by simpa using hb) e) f0 f1 f3 f4 f5⟩
  self := fun A i s Q E st h => by
    obtain ⟨o, e, c, d⟩ := id st
    revert st c
    unfold strIterType
    split
    · intro st c; exact wpAny_pyIter_striter_ascii st h
    · intro st c; exact wpAny_pyIter_striter_wide st h
def iStr (tl : TE) : TI := fun σ H R => tl σ H fun x H1 => ∃ y, x = .str y ∧ R (Its y) H1
theorem pi_str {l : Expr} {tl : TE} (hl : PE X l tl) : PI X tg l (iStr tl) := by
  intro pins s σ H R I h
  refine thn (hl pins s σ H _ I h) fun v s1 ⟨x, H1, I1, r1, q1⟩ => ?_
  obtain ⟨y, e, q⟩ := q1
  subst e
  obtain ⟨t, rfl⟩ := r1
  refine wpAny_pyIter_strU ?_
  refine ⟨s1.heap.objs.size, [s1.heap.objs.size], _, _, H1, rfl, I1.kept (t' := s1.toks) fun b o e => Heap.get?_push_of_some _ e, turn_str y t _, ⟨_, Heap.get?_push_size _ rfl, rfl, rfl⟩, fun b hb => ?_, q⟩
  have e : b = s1.heap.objs.size := by simpa using hb
  subst e
  exact I1.fpOk (Nat.le_refl _) (I1.hok.fresh (Nat.le_refl _))
end
end L2
namespace L2
open PySem PySem.Spec PyProof.Rows
/-- a def with defaults -/
structure FunD (K : PySem.W.Frag) (x qual : Str) (st : Stmt) (f : Addr) (fd : FuncData) : Prop where
  ex : ∃ (oc : Value) (od : Option Addr) (dV kV doc pm : Value) (an : Option Addr) (cdv ct : Value) (osl : Array (Option Value)),
    fd = PySem.W.fnOf x qual (defArgs st) (defBody st) (defScope st) dV kV doc pm an cdv ct ∧ K.lookup f = some ⟨oc, od, .func fd, osl⟩ ∧ PySem.W.codeIn K cdv qual = true
  kp : PySem.W.keepIn K (.ref f) = true
section
variable {P : Program} {w : World} {K : PySem.W.Frag} {mg : Str → Option Value} {base : Heap}
theorem FunD.ok {cm : Bool} {x qual : Str} {st : Stmt} {f : Addr} {fd : FuncData} {N ps : List Str} {k : Nat} {sp : Sp} (F : FunD K x qual st f fd) (S : FnScope N ps (defScope st)) (len : ∀ vs H Q E, sp vs H Q E → vs.length = ps.length)
    (hbody : ∀ (cdv : Value) (A : Around) (outer : List Env) (s : Shared) (H : Hp) (vs : List V) (Q : VK) (E : XK), Room cm k (A.deeper (envOfC qual (defScope st) s.heap.objs.size f cdv)) → sp vs H Q E →
      ∃ t, PSs (cxOf CX0 cm P w K mg base N qual (defScope st) f cdv A outer s H E).nox (defBody st) t ∧ t { nx := fun _ H' => Q .non H', rt := fun _ => Q } (start N vs) H) : FnOk P w K mg base CX0 cm (k + 1) f fd ps sp := by
  obtain ⟨oc, od, dV, kV, doc, pm, an, cdv, ct, osl, rfl, lk, hcd⟩ := F.ex
  exact fn_of lk hcd S len fun A outer s H vs Q E hr h => by
    obtain ⟨t, ht, q⟩ := hbody cdv A outer s H vs Q E hr h
    exact ⟨t, ht.nox, q⟩
theorem funD_mk {x qual : Str} {st : Stmt} {f : Addr} {oc : Value} {od an : Option Addr} {osl : Array (Option Value)} {dV kV doc pm cdv ct : Value} (l : K.lookup f = some ⟨oc, od, .func (PySem.W.fnOf x qual (defArgs st) (defBody st) (defScope st) dV kV doc pm an cdv ct), osl⟩)
    (c : PySem.W.codeIn K cdv qual = true) (k : PySem.W.keepIn K (.ref f) = true) : FunD K x qual st f (PySem.W.fnOf x qual (defArgs st) (defBody st) (defScope st) dV kV doc pm an cdv ct) :=
  ⟨⟨oc, od, dV, kV, doc, pm, an, cdv, ct, osl, rfl, l, c⟩, k⟩
end
end L2
namespace L2
open PySem PySem.Spec PyProof.Rows
/-- what an iterator yields, whatever else is laid meanwhile -/
def Seq (J : It) (H : Hp) (xs : List V) : Prop := ∀ H', Same H H' → (∀ (i : Nat) x, xs[i]? = some x → J.go i H' ∧ ∀ x' H2, J.yld i H' x' H2 → x' = x ∧ H2 = H') ∧ J.stop xs.length H'
theorem Seq.up {J : It} {H H' : Hp} {xs : List V} (h : Seq J H xs) (s : Same H H') : Seq J H' xs := fun H2 s2 => h H2 (s.trans s2)
theorem seq_str (y : Str) (H : Hp) : Seq (Its y) H (y.cps.toList.map fun c => .str ⟨#[c]⟩) := fun H' _ => by
  refine ⟨fun i x e => ?_, ?_⟩
  · rw [List.getElem?_map] at e
    cases q : y.cps.toList[i]? with
    | none => rw [q] at e; cases e
    | some c =>
      rw [q] at e
      have q' : y.cps[i]? = some c := by simpa using q
      refine ⟨(Array.getElem?_eq_some_iff.mp q').1, fun x' H2 hy => ?_⟩
      obtain ⟨e1, c', e2, e3⟩ := hy
      rw [q'] at e2
      cases e2
      exact ⟨e3.trans (Option.some.inj e), e1⟩
  · show _ = _
    simp
theorem seq_range (lo : Int) (n : Nat) (H : Hp) : Seq (Itr lo n) H ((List.range n).map fun (i : Nat) => V.int (lo + (i : Int))) := fun H' _ => by
  refine ⟨fun i x e => ?_, ?_⟩
  · have hi : i < n := by
      have := (List.getElem?_eq_some_iff.mp e).1
      simpa using this
    refine ⟨hi, fun x' H2 hy => ?_⟩
    obtain ⟨e1, e2⟩ := hy
    rw [List.getElem?_map, List.getElem?_range hi] at e
    exact ⟨e2.trans (Option.some.inj e), e1⟩
  · show n ≤ _
    simp
theorem seq_list {K : PySem.W.Frag} {H : Hp} {a : Addr} {xs : List V} (h : SqL K H a xs) : Seq (Itl K a) H xs := fun H' s => by
  have h' := s.seq h
  refine ⟨fun i x e => ⟨⟨xs, x, h', e⟩, fun x' H2 hy => ?_⟩, ⟨xs, h', Nat.le_refl _⟩⟩
  obtain ⟨e1, e2⟩ := hy
  have := e2 xs h'
  rw [e] at this
  exact ⟨(Option.some.inj this).symm, e1⟩
theorem Same.seqT {K : PySem.W.Frag} {H H' : Hp} {a : Addr} {xs : List V} (e : Same H H') (h : SqT K H a xs) : SqT K H' a xs := by
  rcases h with (h | ⟨o, h⟩) | h
  · exact .inl (.inl (e _ _ h))
  · exact .inl (.inr ⟨o, e _ _ h⟩)
  · exact .inr h
theorem seq_tup {K : PySem.W.Frag} {H : Hp} {a : Addr} {xs : List V} (h : SqT K H a xs) : Seq (Itt K a) H xs := fun H' s => by
  have h' := s.seqT h
  refine ⟨fun i x e => ⟨⟨xs, x, h', e⟩, fun x' H2 hy => ?_⟩, ⟨xs, h', Nat.le_refl _⟩⟩
  obtain ⟨e1, e2⟩ := hy
  have := e2 xs h'
  rw [e] at this
  exact ⟨(Option.some.inj this).symm, e1⟩
theorem same_upd {H : Hp} {p : Addr} {o : HO} (h : H p = none) : Same H (upd H p o) := fun b u e => by rw [upd_ne (ne_of_none e h)]; exact e
/-- for, over what an iterator yields -/
theorem for_seq {J : It} {xs : List V} {g : TG} {tb : TS} {D : Ends} {σ : St} {H0 H : Hp} (hJ : Seq J H0 xs) (Pv : Nat → St → Hp → Prop) (h0 : Pv 0 σ H) (hsm : ∀ i σ H, i ≤ xs.length → Pv i σ H → Same H0 H)
    (hs : ∀ (i : Nat) x σ H, xs[i]? = some x → Pv i σ H → g x σ H fun σ2 H2 => tb { D with nx := Pv (i + 1), ct := Pv (i + 1), bk := D.nx } σ2 H2) (hd : ∀ σ H, Pv xs.length σ H → D.nx σ H) :
    ∃ W : Nat → Nat → St → Hp → Prop, (∃ m, W 0 m σ H) ∧ ∀ i m σ H, W i m σ H →
      (J.stop i H ∧ D.nx σ H) ∨ (J.go i H ∧ ∃ N : St → Hp → Prop, (∀ σ' H', N σ' H' → ∃ m', m' < m ∧ W (i + 1) m' σ' H') ∧ ∀ x H', J.yld i H x H' → g x σ H' fun σ2 H2 => tb { D with nx := N, ct := N, bk := D.nx } σ2 H2) := by
  refine ⟨fun i m σ H => m = xs.length - i ∧ i ≤ xs.length ∧ Pv i σ H, ⟨xs.length, by simp, Nat.zero_le _, h0⟩, ?_⟩
  rintro i m σ H ⟨rfl, hi, p⟩
  obtain ⟨q1, q2⟩ := hJ H (hsm i σ H hi p)
  by_cases hlt : i < xs.length
  · have e : xs[i]? = some xs[i] := by simp [hlt]
    obtain ⟨go, y⟩ := q1 i _ e
    refine .inr ⟨go, Pv (i + 1), fun σ' H' p' => ⟨xs.length - (i + 1), by omega, rfl, hlt, p'⟩, fun x H' hy => ?_⟩
    obtain ⟨rfl, rfl⟩ := y x H' hy
    exact hs i _ σ _ e p
  · have e : i = xs.length := by omega
    subst e
    exact .inl ⟨q2, hd σ H p⟩
/-- a comprehension of one name whose parts lay things at most -/
theorem comp_pure {J : It} {cap : List (Option Nat)} {tt : TT} {te : TE} {σ : St} {H1 : Hp} {Q : VK} {xs : List V} (hJ : Seq J H1 xs) (p : V → Bool) (f : V → V) (hsz : xs.length ≤ 100000)
    (hp : ∀ x ∈ xs, ∀ H', Same H1 H' → ∀ R : Bool → Hp → Prop, (∀ H'', Same H' H'' → R (p x) H'') → tt ((capt cap σ).set 0 (some x)) H' R)
    (he : ∀ x ∈ xs, p x = true → ∀ H', Same H1 H' → ∀ R : VK, (∀ H'', Same H' H'' → R (f x) H'') → te ((capt cap σ).set 0 (some x)) H' R)
    (k : ∀ D H', Same H1 H' → H1 D = none → H' D = some (.lst ((xs.filter p).map f)) → Q (.ref D) H') :
    compBody J H1 cap (gName 0) tt te σ Q := by
  intro D hD
  refine ⟨fun i m ys σ' H' => m = xs.length - i ∧ i ≤ xs.length ∧ (∀ v, σ'.set 0 v = (capt cap σ).set 0 v) ∧ H' D = some (.lst ys) ∧ Same H1 H' ∧ ys = ((xs.take i).filter p).map f,
    ⟨xs.length, by simp, Nat.zero_le _, fun _ => rfl, upd_same, same_upd hD, by simp⟩, ?_⟩
  rintro i m ys σ' H' ⟨rfl, hi, hσ, hl, sm, hys⟩
  refine ⟨hl, ?_⟩
  obtain ⟨q1, q2⟩ := hJ H' sm
  by_cases hlt : i < xs.length
  · have e : xs[i]? = some xs[i] := by simp [hlt]
    obtain ⟨go, y⟩ := q1 i _ e
    refine .inr ⟨go, fun x H2 hy => ?_⟩
    obtain ⟨rfl, rfl⟩ := y x H2 hy
    have hm : xs[i] ∈ xs := List.getElem_mem hlt
    have etake : xs.take (i + 1) = xs.take i ++ [xs[i]] := by rw [List.take_add_one, e]; rfl
    show tt (σ'.set 0 (some xs[i])) _ _
    rw [hσ]
    refine hp _ hm _ sm _ fun H4 s4 => ?_
    have hss : ∀ v, ((capt cap σ).set 0 (some xs[i])).set 0 v = (capt cap σ).set 0 v := fun v => by rw [List.set_set]
    cases hb : p xs[i] with
    | false =>
      refine iteF ⟨xs.length - (i + 1), by omega, rfl, hlt, hss, s4 _ _ hl, sm.trans s4, ?_⟩
      rw [etake, List.filter_append, hys]
      simp [hb]
    | true =>
      refine iteT ?_
      refine he _ hm hb _ (sm.trans s4) _ fun H5 s5 => ?_
      have hl5 := s5 _ _ (s4 _ _ hl)
      refine ⟨hl5, ?_, xs.length - (i + 1), by omega, rfl, hlt, hss, upd_same, fun b o eb => ?_, ?_⟩
      · have h1 : ys.length ≤ xs.length := by
          rw [hys, List.length_map]
          exact Nat.le_trans (List.length_filter_le _ _) (List.length_take_le' _ _)
        have h2 : (100000 : Nat) < sizeLine := by decide
        omega
      · rw [upd_ne (ne_of_none eb hD)]
        exact s5 _ _ (s4 _ _ (sm _ _ eb))
      · rw [etake, List.filter_append, hys]
        simp [hb]
  · have e : i = xs.length := by omega
    subst e
    refine .inl ⟨q2, k D _ sm hD ?_⟩
    rw [hl, hys, List.take_length]
end L2
namespace L2
open PySem PySem.Spec PyProof.Rows
section
variable {X : Cx}
/-- one sign in a text -/
theorem op_in_chr : OpR X (compareOp .In) (fun x y H Q => ∃ c j, x = .str ⟨#[c]⟩ ∧ y = .str j ∧ Q (.bl (decide (c ∈ j.cps.toList))) H) := by
  intro pins s σ H x y v u Q I rx ry h
  obtain ⟨c, j, rfl, rfl, q⟩ := h
  refine op_in_str pins s σ H _ _ v u Q I rx ry ⟨_, j, rfl, rfl, ?_⟩
  rw [StrLaws.found_one]
  exact q
end
theorem atI_int {α : Type} {xs : List α} {i : Int} (h0 : 0 ≤ i) (h1 : i < xs.length) : atI xs i = some (xs[i.toNat]'(by omega)) := by
  have := atI_nat (xs := xs) (j := i.toNat) (v := xs[i.toNat]'(by omega)) (by simp)
  rw [show ((i.toNat : Nat) : Int) = i by omega] at this
  exact this
theorem atI_ints {ts : List Int} {i : Int} (h0 : 0 ≤ i) (h1 : i < ts.length) : ∃ t, t ∈ ts ∧ atI (ts.map V.int) i = some (.int t) := by
  refine ⟨ts[i.toNat]'(by omega), List.getElem_mem _, ?_⟩
  rw [atI_int h0 (by simpa using h1)]
  simp
end L2
namespace L2
open PySem PySem.Spec PyProof.Rows
/-- written items -/
def litOf : Expr → Option V
  | .Constant (.int i) _ _ => some (.int i)
  | .Constant (.str x) _ _ => some (.str x)
  | .Constant (.bool b) _ _ => some (.bl b)
  | .Constant .none _ _ => some .non
  | .UnaryOp .USub (.Constant (.int i) _ _) _ => some (.int (-i))
  | _ => none
def litsOf : List Expr → Option (List V)
  | [] => some []
  | e :: r => match litOf e, litsOf r with
    | some v, some vs => some (v :: vs)
    | _, _ => none
theorem pe_lit {X : Cx} {e : Expr} {v : V} (h : litOf e = some v) : PE X e (tC v) ∧ ∀ es : List Expr, starEach (e :: es) X.env = (false, eval e X.env) :: starEach es X.env := by
  unfold litOf at h
  split at h
  · cases h; exact ⟨pe_int, fun _ => rfl⟩
  · cases h; exact ⟨pe_str, fun _ => rfl⟩
  · cases h; exact ⟨pe_bl, fun _ => rfl⟩
  · cases h; exact ⟨pe_non, fun _ => rfl⟩
  · rename_i i j p q
    cases h
    refine ⟨fun pins s σ H Q I hq => pe_un un_neg pe_int pins s σ H Q I ⟨_, rfl, hq⟩, fun _ => rfl⟩
  · cases h
theorem pa_lits0 {X : Cx} : ∀ {es : List Expr} {vs : List V}, litsOf es = some vs → PA X es (fun _ H Q => Q vs H)
  | [], vs, h => by cases h; exact pa_nil
  | e :: r, vs, h => by
    unfold litsOf at h
    split at h
    · rename_i v ws h1 h2
      cases h
      have p := pe_lit (X := X) h1
      exact pa_cons p.1 (pa_lits0 h2) (p.2 r)
    · cases h
/-- the items, one by one -/
def litsAre (es : List Expr) (vs : List V) : Bool := decide (litsOf es = some vs)
theorem pa_lits {X : Cx} {es : List Expr} (vs : List V) (h : litsAre es vs = true) : PA X es (fun _ H Q => Q vs H) := pa_lits0 (of_decide_eq_true h)
end L2
namespace L2
theorem inV_ints (m : Int) : ∀ ns : List Int, inV (.int m) (ns.map V.int) = decide (m ∈ ns)
  | [] => rfl
  | n :: ns => by
    have ih := inV_ints m ns
    unfold inV at *
    rw [List.map_cons, List.any_cons, ih]
    have e : eqV (.int n) (.int m) = decide (m = n) := by
      show (n == m) = _
      by_cases h : m = n
      · subst h; simp
      · rw [decide_eq_false h]; exact beq_eq_false_iff_ne.mpr (Ne.symm h)
    rw [e, ← Bool.decide_or]
    exact decide_eq_decide.mpr (by rw [List.mem_cons])
end L2

namespace L2
open PySem PySem.Spec PyProof.Rows

/-! ### own error classes, as the written part tells them -/
/-! ### what is tracked stays -/
theorem HOk.tracked {P : Program} {w : World} {H : Hp} {h h' : Heap} (x : HOk P w H h) (k : ∀ b u o, H b = some u → h.get? b = some o → h'.get? b = some o) : HOk P w H h' := fun a o e =>
  (x a o e).stay (fun b u hb q => by
    rcases hb with hb | hb
    · subst hb; exact k _ _ _ e q
    · exact k _ _ _ hb q) (fun _ q => q) fun _ _ q => q

theorem HOk.there {P : Program} {w : World} {H : Hp} {h : Heap} {b : Addr} {v : HO} (ok : HOk P w H h) (e : H b = some v) : ∃ o', h.get? b = some o' := by
  have := ok b v e
  cases v with
  | lst xs => obtain ⟨_, _, _, _, z⟩ := this; exact ⟨_, z⟩
  | tup xs => obtain ⟨_, _, _, o, z, _⟩ := this; exact ⟨_, z⟩
  | dK kvs => obtain ⟨_, _, _, _, o, _, _, z, _⟩ := this; exact ⟨_, z⟩
  | dT kvs => obtain ⟨_, _, _, _, o, _, _, z, _⟩ := this; exact ⟨_, z⟩
  | set S n => obtain ⟨o, _, _, _, z, _⟩ := this; exact ⟨_, z⟩
  | ins C dx fs => obtain ⟨_, _, _, z, _⟩ := this; exact ⟨_, z⟩
  | own y => exact this
  | xd fs => obtain ⟨_, ⟨_, _, _, z, _⟩, _⟩ := this; exact ⟨_, z⟩
  | rng lo hi => obtain ⟨_, _, _, z⟩ := this; exact ⟨_, z⟩
  | frz ob u => obtain ⟨z, _⟩ := this; exact ⟨_, z⟩
  | tbl ps => exact ⟨_, this⟩
  | met f y => exact ⟨_, this⟩
  | ext φ => exact this.2.1

section
variable {X : Cx} {pins : List (Addr × Obj)} {σ : St} {H H' : Hp} {s : Shared} {h h2 B : Heap}
end

section
variable {cm : Bool} {P : Program} {w : World} {K : PySem.W.Frag} {mg : Str → Option Value} {base : Heap} {N : List Str} {qual : Str} {scope : Scope} {f : Addr} {cd : Value} {A : Around} {outer : List Env} {s : Shared} {H : Hp} {E : XK}
end

section
variable {X : Cx} {E : XK} {x : Str} {C : Addr} {np cpos pos : Pos} {e0 : Expr} {es : List Expr} {t : TA}
end

/-! ### try, except C: .. -/
/-- a handler's suite: an exception is being handled -/
def Cx.hnd (X : Cx) (e : Value) : Cx := { X with A := X.A.mark (some e), calm := false, xe := fun _ _ => False }
theorem Inv.hnd {X : Cx} {pins : List (Addr × Obj)} {σ : St} {H : Hp} {s : Shared} (I : Inv X pins σ H s) (e : Value) : Inv (X.hnd e) pins σ H s :=
  ⟨⟨I.ok.mod, I.ok.kind, I.ok.glob, I.ok.blt, I.ok.above, I.ok.inj, I.ok.has, I.ok.cab, (fun z => nomatch z), I.ok.frames, I.ok.stk, I.ok.exf, I.ok.bs, I.ok.bsz, I.ok.noex, I.ok.exfs, I.ok.funs, I.ok.frf⟩,
    I.os, I.bare, I.base, I.loc, I.cell, I.free, I.freeC, I.pin, I.hok, I.len⟩
end L2

namespace L2
open PySem PySem.Spec PyProof.Rows

section
variable {X : Cx} {CX : CXT} {cm : Bool} {k : Nat} {f : Addr} {fd : FuncData} {ps : List Str} {sp : Sp} {dvs : List V} {ds : List Value} {E : St → XK} {x : Str} {p pos : Pos} {e : Expr} {es : List Expr} {t : TA}
end

/-- the handler's class, of the text -/
structure Catch (K : PySem.W.Frag) (Cc : Addr) : Prop where
  ty : PySem.W.typeIn K (.ref Cc) = some (.type "type")
  mb : PySem.W.mroIn K Cc (.type "BaseException") = some true
theorem Catch.cls {K : PySem.W.Frag} {Cc : Addr} (c : Catch K Cc) : ∃ cd, PySem.W.clsIn K Cc = some cd := by
  obtain ⟨cd, a, _⟩ := Option.bind_eq_some_iff.mp c.mb
  exact ⟨cd, a⟩
section
variable {X : Cx} {pins pins' : List (Addr × Obj)} {σ : St} {H H' : Hp} {s : Shared} {Eb : Value → Shared → Prop} {h h2 B : Heap}
end

end L2

namespace L2
open PySem PySem.Spec PyProof.Rows
section
variable {X : Cx}
/-! ### f-strings of texts -/
end
end L2

namespace L2
open PySem PySem.Spec PyProof.Rows
section
variable {X : Cx}
theorem Vals.of_get : ∀ {xs : List V} {us : List Value}, xs.length = us.length → (∀ (j : Nat) (x : V) (u : Value), xs[j]? = some x → us[j]? = some u → RelV x u) → Vals xs us
  | [], [], _, _ => .nil
  | x :: xs, u :: us, h, k => .cons (k 0 x u rfl rfl) (Vals.of_get (by simpa using h) fun j y w a b => k (j + 1) y w (by simpa using a) (by simpa using b))
end
end L2

namespace L2
open PySem PySem.Spec PySem.Calls PyProof.Rows Builtin Builtin.ObjectAttr Builtin.Getset_descriptor

/-! ### isinstance of an exception of an own class -/
/-- what the text tells of an own error class -/
structure ExC (K : PySem.W.Frag) (C : Addr) : Prop where
  cs : (PySem.W.clsIn K C).isSome = true
  ga : PySem.W.findIn K (.ref C) "__getattribute__" = some (some (.builtin "BaseException.__getattribute__"))
  gn : PySem.W.findIn K (.ref C) "__getattr__" = some none
  ca : PySem.W.findIn K (.ref C) "__class__" = some (some (.builtin "object.__class__"))
  sg : PySem.W.specialIn K (.builtin "object.__class__") "__get__" = some (some (.builtin "getset_descriptor.__get__"))
  tk : PySem.W.takesIn K (.builtin "object.__class__") = some true
  mo : PySem.W.mroIn K C (.type "object") = some true
  mb : PySem.W.mroIn K C (.type "BaseException") = some true

def ExcAt (e C : Addr) (h : Heap) : Prop := ∃ oe, h.get? e = some oe ∧ oe.cls = .ref C
theorem ExcAt.type {M : Model} {e C : Addr} {h : Heap} (p : ExcAt e C h) : PySem.W.Looks M h (typeOf (.ref e)) (.ref C) := by
  obtain ⟨oe, a, b⟩ := p
  exact b ▸ (PySem.W.Looks.ld a).andThen .now

section
variable {prog : Program} {w : World} {K : PySem.W.Frag} {e C : Addr}
end

section
variable {X : Cx}
end

/-! ### except C as e -/
theorem Room.mark {cm : Bool} {k : Nat} {A : Around} (r : Room cm k A) (v : Option Value) : Room false k (A.mark v) := ⟨(fun z => nomatch z), r.dp, r.un⟩
section
variable {X : Cx} {pins pins' : List (Addr × Obj)} {σ : St} {H H' : Hp} {s : Shared} {h h2 B : Heap} {ea C : Addr}
end

end L2

/-! the rules that lean on the text, by its own name (within a comprehension, a try, a handler) -/
namespace L2
open PySem PySem.Spec PyProof.Rows
section
variable {X : Cx} {K : PySem.W.Frag} (hK : X.K = K)
include hK
theorem ix_tupK : IxR X (rIxT K) := by subst hK; exact ix_tup
theorem ix_listK : IxR X (rIxL K) := by subst hK; exact ix_list
theorem op_in_seqK : OpR X (compareOp .In) (rIn K false) := by subst hK; exact op_in_seq
theorem op_notIn_seqK : OpR X (compareOp .NotIn) (rIn K true) := by subst hK; exact op_notIn_seq
theorem call_len_seqK : CallR X (.builtin "len") (fun xs H Q => ∃ p ys, xs = [.ref p] ∧ (SqL K H p ys ∨ SqT K H p ys) ∧ Q (.int ys.length) H) := by subst hK; exact call_len_seq
theorem call_tuple_ofK : CallR X (.type "tuple") (fun xs H Q => ∃ p ys, xs = [.ref p] ∧ ((SqL K H p ys ∧ ∀ l, H l = none → Q (.ref l) (upd H l (.tup ys))) ∨ (SqT K H p ys ∧ Q (.ref p) H))) := by subst hK; exact call_tuple_of
theorem call_isinstK : CallR X (.builtin "isinstance") (fun xs H Q => ∃ x T t b, xs = [x, .ty T] ∧ TyOf K H x t ∧ PySem.W.kitOne K t (.type T) = some b ∧ Q (.bl b) H) := by subst hK; exact call_isinst
theorem call_allK (hc : X.calm = true) : CallR X (.builtin "all") (fun xs H Q => ∃ (p : Addr) (bs : List Bool), xs = [.ref p] ∧ SqL K H p (bs.map V.bl) ∧ Q (.bl (bs.all id)) H) := by subst hK; exact call_all hc
theorem pi_listK {tg l : Expr} {tl : TE} (hl : PE X l tl) : PI X tg l (iList K tl) := by subst hK; exact pi_list hl
theorem pi_tupK {tg l : Expr} {tl : TE} (hl : PE X l tl) : PI X tg l (iTup K tl) := by subst hK; exact pi_tup hl
end
end L2

set_option maxHeartbeats 1000000
namespace L2
open PySem PySem.W PyProof.Rows
/-! the sort of the model, its questions answered by keys of an order: what comes out is a rearrangement that rises -/
section
variable {O : KeyOrd} {key : Nat → O.α} {n : Nat} {cmp : Nat → Nat → (Bool → Shared → Prop) → Shared → Prop} {s : Shared}
def ka {O : KeyOrd} (key : Nat → O.α) (p : Array Nat) (i : Nat) : O.α := key (p.getD i 0)
def Up {O : KeyOrd} (key : Nat → O.α) (p : Array Nat) (k : Nat) : Prop := ∀ i j, i ≤ j → j < k → O.kle (ka key p i) (ka key p j)
def Down {O : KeyOrd} (key : Nat → O.α) (p : Array Nat) (k : Nat) : Prop := ∀ i j, i ≤ j → j < k → O.kle (ka key p j) (ka key p i)
def Rg (n : Nat) (p : Array Nat) : Prop := p.Perm (List.toArray (List.range n))
theorem Rg.size {p : Array Nat} (h : Rg n p) : p.size = n := by rw [Array.Perm.size_eq h]; simp
theorem Rg.at {p : Array Nat} (h : Rg n p) {i : Nat} (hi : i < n) : p.getD i 0 < n := by
  have hz := h.size
  have e : p.getD i 0 = p[i]'(by omega) := by simp [Array.getD, show i < p.size by omega]
  have hm : p[i]'(by omega) ∈ p.toList := by simp
  have := (Array.perm_iff_toList_perm.mp h).mem_iff.mp hm
  simp at this
  omega
theorem Rg.rev {p : Array Nat} (h : Rg n p) (i j : Nat) : Rg n (kas_rev p i j) := (mirror_perm p i j _).trans h
theorem Rg.bub {p : Array Nat} (h : Rg n p) (k d : Nat) : Rg n (bubble p k d) := (bubble_perm p k d).trans h
theorem Up.more {p : Array Nat} {k : Nat} (h : Up key p k) (hk : O.blt (ka key p k) (ka key p (k - 1)) = false) : Up key p (k + 1) := by
  intro i j hij hj
  by_cases hjk : j < k
  · exact h i j hij hjk
  · obtain rfl : j = k := by omega
    by_cases hi : i = j
    · rw [hi]; exact KeyOrd.kle_refl _
    · exact KeyOrd.kle_trans (h i (j - 1) (by omega) (by omega)) hk
theorem Down.more {p q : Array Nat} {k : Nat} (h : Down key p k) (e : ∀ i, ka key q i = ka key p i) (hk : O.kle (ka key p k) (ka key p (k - 1))) : Down key q (k + 1) := by
  intro i j hij hj
  rw [e, e]
  by_cases hjk : j < k
  · exact h i j hij hjk
  · obtain rfl : j = k := by omega
    by_cases hi : i = j
    · rw [hi]; exact KeyOrd.kle_refl _
    · exact KeyOrd.kle_trans hk (h i (j - 1) (by omega) (by omega))
def Eqs {O : KeyOrd} (key : Nat → O.α) (p : Array Nat) (m q : Nat) : Prop := q + 1 ≤ m ∧ ∀ i, m - (q + 1) ≤ i → i < m → ka key p i = ka key p (m - 1)
theorem Eqs.zero {p : Array Nat} {m : Nat} (h : 1 ≤ m) : Eqs key p m 0 := ⟨by omega, fun i h1 h2 => by rw [show i = m - 1 by omega]⟩
end
/-! rows: lists of tuples of two ints -/
abbrev RA := Addr × (Int × Int)
def refs (rs : List RA) : List V := rs.map fun x => V.ref x.1
def RowOk (H : Hp) (rs : List RA) : Prop := ∀ x ∈ rs, H x.1 = some (.tup [.int x.2.1, .int x.2.2])
def refVs (rs : List RA) : List Value := rs.map fun x => Value.ref x.1
theorem vals_refs : ∀ {rs : List RA} {us : List Value}, Vals (refs rs) us → us = refVs rs
  | [], _, .nil => rfl
  | x :: rs, _, .cons r1 r2 => by rw [show _ = Value.ref x.1 from r1, vals_refs (rs := rs) r2]; rfl
def TupsH (h : Heap) (rs : List RA) : Prop := ∀ x ∈ rs, ∃ (o : Obj) (t u : Tok) (k : Nat), h.get? x.1 = some o ∧ o.cls = .type "tuple" ∧ o.data = .seq #[.int x.2.1 t, .int x.2.2 u] k
theorem Inv.pair {X : Cx} {pins : List (Addr × Obj)} {σ : St} {H : Hp} {s : Shared} (I : Inv X pins σ H s) {a : Addr} {i j : Int} (h : H a = some (.tup [.int i, .int j])) :
    ∃ (o : Obj) (t u : Tok) (k : Nat), s.heap.get? a = some o ∧ o.cls = .type "tuple" ∧ o.data = .seq #[.int i t, .int j u] k := by
  obtain ⟨its, r, ⟨o, ho, hc, k, hd⟩, _⟩ := I.tuple (SqT.of h)
  cases r with
  | cons r1 r =>
    cases r with
    | cons r2 r =>
      cases r
      obtain ⟨t, rfl⟩ := r1
      obtain ⟨u, rfl⟩ := r2
      exact ⟨o, t, u, k, ho, hc, hd⟩
theorem Inv.tups {X : Cx} {pins : List (Addr × Obj)} {σ : St} {H : Hp} {s : Shared} (I : Inv X pins σ H s) {rs : List RA} (h : RowOk H rs) : TupsH s.heap rs := fun x hx => I.pair (h x hx)
section
variable {prog : Program} {w : World} {A : Around} {E : Value → Shared → Prop} {s : Shared} {rs : List RA}
end
end L2

namespace L2
open PySem PySem.Spec PyProof.Rows PySem.SeqAt
/-! rows compared, turned about; lists that are empty or not -/
def sps (rs : List RA) : List (Int × Int) := rs.map (·.2)
theorem isTuple_of {h : Heap} {a : Addr} {o : Obj} {its : Array Value} {k : Nat} (ho : h.get? a = some o) (hc : o.cls = .type "tuple") (hd : o.data = .seq its k) : h.IsTuple a its := ⟨o, ho, hc, k, hd⟩
theorem refVs_arr {rs : List RA} {j : Nat} (h1 : j < (refVs rs).toArray.size) (l1 : j < rs.length) : (refVs rs).toArray[j] = Value.ref (rs[j]).1 := by
  have e : (refVs rs).toArray[j]? = some (Value.ref (rs[j]).1) := by
    rw [List.getElem?_toArray]
    unfold refVs
    rw [List.getElem?_map, List.getElem?_eq_getElem l1]
    rfl
  rw [Array.getElem?_eq_getElem h1] at e
  exact Option.some.inj e
theorem rows_eqAt {A : Around} {s : Shared} {rs qs : List RA} (t : TupsH s.heap rs) (t' : TupsH s.heap qs) (same : ∀ x ∈ rs, ∀ y ∈ qs, x.1 = y.1 → x.2 = y.2) (hu : A.units + 2 < cLine) {j : Nat} (h1 : j < (refVs rs).toArray.size) (h2 : j < (refVs qs).toArray.size) :
    EqAt A.in1 s (refVs rs).toArray[j] (refVs qs).toArray[j] (decide ((rs.getD j (0, 0, 0)).2 = (qs.getD j (0, 0, 0)).2)) := by
  have l1 : j < rs.length := by unfold refVs at h1; simpa using h1
  have l2 : j < qs.length := by unfold refVs at h2; simpa using h2
  have e1 := refVs_arr h1 l1
  have e2 := refVs_arr h2 l2
  have g1 : rs.getD j (0, 0, 0) = rs[j] := by simp [l1]
  have g2 : qs.getD j (0, 0, 0) = qs[j] := by simp [l2]
  rw [e1, e2, g1, g2]
  by_cases ha : (rs[j]).1 = (qs[j]).1
  · rw [decide_eq_true (same _ (List.getElem_mem l1) _ (List.getElem_mem l2) ha), ha]
    exact EqAt.same _
  · obtain ⟨o, a1, u1, n, ho, hc, hd⟩ := t _ (List.getElem_mem l1)
    obtain ⟨o2, a2, u2, n2, ho2, hc2, hd2⟩ := t' _ (List.getElem_mem l2)
    have z := RcAt.tuples (A := A.in1) (s := s) (isTuple_of ho hc hd) (isTuple_of ho2 hc2 hd2) (by show A.units + 1 < cLine; omega) (e := fun k => if k = 0 then (rs[j]).2.1 == (qs[j]).2.1 else (rs[j]).2.2 == (qs[j]).2.2) (fun k k1 k2 => by
      match k, k1, k2 with
      | 0, _, _ => exact EqAt.int_int _ _ _ _
      | 1, _, _ => exact EqAt.int_int _ _ _ _
      | k + 2, k1, _ => exact absurd k1 (by simp))
    have e : ((List.range (min (#[Value.int (rs[j]).2.1 a1, Value.int (rs[j]).2.2 u1] : Array Value).size (#[Value.int (qs[j]).2.1 a2, Value.int (qs[j]).2.2 u2] : Array Value).size)).all (fun k => if k = 0 then (rs[j]).2.1 == (qs[j]).2.1 else (rs[j]).2.2 == (qs[j]).2.2) && (#[Value.int (rs[j]).2.1 a1, Value.int (rs[j]).2.2 u1] : Array Value).size == (#[Value.int (qs[j]).2.1 a2, Value.int (qs[j]).2.2 u2] : Array Value).size) = decide ((rs[j]).2 = (qs[j]).2) := by
      show (((if (0 : Nat) = 0 then (rs[j]).2.1 == (qs[j]).2.1 else (rs[j]).2.2 == (qs[j]).2.2) && ((if (1 : Nat) = 0 then (rs[j]).2.1 == (qs[j]).2.1 else (rs[j]).2.2 == (qs[j]).2.2) && true)) && true) = _
      rw [Bool.eq_iff_iff]
      simp [Prod.ext_iff]
    rw [e] at z
    exact EqAt.of_refs ha z
theorem sps_eq {rs qs : List RA} (h : rs.length = qs.length) : ((List.range (refVs rs).toArray.size).all fun j => decide ((rs.getD j (0, 0, 0)).2 = (qs.getD j (0, 0, 0)).2)) = decide (sps rs = sps qs) := by
  have hl : (refVs rs).toArray.size = rs.length := by unfold refVs; simp
  rw [hl, Bool.eq_iff_iff, List.all_eq_true, decide_eq_true_iff]
  constructor
  · intro z
    apply List.ext_getElem?
    intro i
    unfold sps
    rw [List.getElem?_map, List.getElem?_map]
    by_cases l1 : i < rs.length
    · have l2 : i < qs.length := by omega
      have e := of_decide_eq_true (z i (List.mem_range.mpr l1))
      rw [List.getD_eq_getElem?_getD, List.getD_eq_getElem?_getD, List.getElem?_eq_getElem l1, List.getElem?_eq_getElem l2] at e
      rw [List.getElem?_eq_getElem l1, List.getElem?_eq_getElem l2]
      exact congrArg some e
    · rw [List.getElem?_eq_none (by omega), List.getElem?_eq_none (by omega)]
  · intro z i hi
    have l1 : i < rs.length := List.mem_range.mp hi
    have l2 : i < qs.length := by omega
    apply decide_eq_true
    have e : (sps rs)[i]? = (sps qs)[i]? := by rw [z]
    unfold sps at e
    rw [List.getElem?_map, List.getElem?_map, List.getElem?_eq_getElem l1, List.getElem?_eq_getElem l2] at e
    rw [List.getD_eq_getElem?_getD, List.getD_eq_getElem?_getD, List.getElem?_eq_getElem l1, List.getElem?_eq_getElem l2]
    exact Option.some.inj e
theorem hu2 {cm : Bool} {k : Nat} {A : Around} (hr : Room cm k A) : A.units + 2 < cLine := Nat.lt_of_le_of_lt (Nat.add_le_add_left (by decide : 2 ≤ 64) _) hr.units
theorem refs_get {rs : List RA} {i : Nat} {x : V} (h : (refs rs)[i]? = some x) : ∃ y, rs[i]? = some y ∧ y ∈ rs ∧ x = .ref y.1 := by
  unfold refs at h
  rw [List.getElem?_map] at h
  obtain ⟨y, e, rfl⟩ := Option.map_eq_some_iff.mp h
  exact ⟨y, e, List.mem_of_getElem? e, rfl⟩
theorem RowOk.up {H H' : Hp} {rs : List RA} (h : RowOk H rs) (s : Same H H') : RowOk H' rs := fun x hx => s _ _ (h x hx)
theorem RowOk.upd {H : Hp} {rs : List RA} {l : Addr} {xs : List V} {o : HO} (h : RowOk H rs) (hl : H l = some (.lst xs)) : RowOk (upd H l o) rs := fun x hx => by
  rw [upd_ne (fun e => by have := h x hx; rw [e, hl] at this; cases this)]
  exact h x hx
theorem RowOk.nil {H : Hp} : RowOk H [] := fun _ h => nomatch h
theorem RowOk.app {H : Hp} {rs : List RA} {a : Addr} {b e : Int} (h : RowOk H rs) (ha : H a = some (.tup [.int b, .int e])) : RowOk H (rs ++ [(a, b, e)]) := fun x hx => by
  rcases List.mem_append.mp hx with hx | hx
  · exact h x hx
  · rw [List.mem_singleton] at hx
    subst hx
    exact ha
theorem RowOk.init {H : Hp} {rs : List RA} {y : RA} (h : RowOk H (rs ++ [y])) : RowOk H rs := fun x hx => h x (List.mem_append_left _ hx)
theorem refs_app (rs : List RA) (a : Addr) (b e : Int) : refs rs ++ [.ref a] = refs (rs ++ [(a, b, e)]) := by unfold refs; rw [List.map_append]; rfl
theorem sps_app (rs : List RA) (a : Addr) (b e : Int) : sps (rs ++ [(a, b, e)]) = sps rs ++ [(b, e)] := by unfold sps; rw [List.map_append]; rfl
theorem refs_len (rs : List RA) : (refs rs).length = rs.length := List.length_map ..
theorem sps_len (rs : List RA) : (sps rs).length = rs.length := List.length_map ..
section
variable {X : Cx}
theorem RowOk.same {H : Hp} {rs qs : List RA} (h : RowOk H rs) (h' : RowOk H qs) : ∀ x ∈ rs, ∀ y ∈ qs, x.1 = y.1 → x.2 = y.2 := by
  intro x hx y hy e
  have a := h x hx
  have b := h' y hy
  rw [e, b] at a
  injection a with a
  injection a with a
  injection a with a1 a
  injection a with a2 _
  injection a1 with a1
  injection a2 with a2
  exact Prod.ext a1.symm a2.symm
theorem Vals.rev : ∀ {xs : List V} {us : List Value}, Vals xs us → Vals xs.reverse us.reverse
  | [], [], .nil => .nil
  | x :: xs, u :: us, .cons r1 r2 => by
    rw [List.reverse_cons, List.reverse_cons]
    exact (Vals.rev r2).append (.cons r1 .nil)
end
end L2

namespace L2
open PySem PySem.Spec PyProof.Rows PySem.SeqAt
def RowAt (H : Hp) (l : Addr) (rs : List RA) : Prop := H l = some (.lst (refs rs)) ∧ RowOk H rs
theorem RowAt.up {H H' : Hp} {l : Addr} {rs : List RA} (h : RowAt H l rs) (s : Same H H') : RowAt H' l rs := ⟨s _ _ h.1, h.2.up s⟩
/-- all but what stands at F is as it was -/
def SameX (F : Addr) (H H' : Hp) : Prop := ∀ b o, b ≠ F → H b = some o → H' b = some o
theorem SameX.refl (F : Addr) (H : Hp) : SameX F H H := fun _ _ _ e => e
theorem SameX.same {F : Addr} {H H2 H' : Hp} (s : Same H H2) (x : SameX F H2 H') (hF : H F = none) : Same H H' := fun b o e => x b o (ne_of_none e hF) (s b o e)
theorem SameX.put {F t : Addr} {H H' : Hp} {o : HO} {xs : List V} (x : SameX F H H') (ht : H' t = none) : SameX F H (upd (upd H' t o) F (.lst xs)) := fun b u hb e => by
  rw [upd_ne hb]
  exact same_upd ht _ _ (x b u hb e)
theorem RowAt.upX {F l : Addr} {H H' : Hp} {rs : List RA} {xs : List V} (h : RowAt H l rs) (hl : l ≠ F) (hF : H F = some (.lst xs)) (x : SameX F H H') : RowAt H' l rs :=
  ⟨x _ _ hl h.1, fun y hy => x _ _ (fun e => by have := h.2 y hy; rw [e, hF] at this; cases this) (h.2 y hy)⟩
theorem RowAt.put {H : Hp} {F t : Addr} {fs : List RA} {b e : Int} (h : RowAt H F fs) (ht : H t = none) : RowAt (upd (upd H t (.tup [.int b, .int e])) F (.lst (refs fs ++ [.ref t]))) F (fs ++ [(t, b, e)]) := by
  have htF : t ≠ F := fun z => by rw [z, h.1] at ht; cases ht
  have hF2 : upd H t (.tup [.int b, .int e]) F = some (.lst (refs fs)) := by rw [upd_ne (fun z => htF z.symm)]; exact h.1
  exact ⟨by rw [upd_same, refs_app _ _ b e], RowOk.app ((h.2.up (same_upd ht)).upd hF2) (by rw [upd_ne htF]; exact upd_same)⟩
theorem RowAt.at2 {H : Hp} {F t : Addr} {fs : List RA} {o : HO} (h : RowAt H F fs) (ht : H t = none) : upd H t o F = some (.lst (refs fs)) := by
  rw [upd_ne (fun z => by rw [← z, h.1] at ht; cases ht)]
  exact h.1
section
variable {X : Cx}
end
end L2

/-! ### split, join -/
namespace L2
open PySem PySem.Spec PySem.Calls PyProof.Rows Builtin Builtin.Str
section
variable {X : Cx}
end
end L2

namespace L2
open PySem PySem.Spec PySem.Calls PyProof.Rows
section
variable {X : Cx} {m : Str} {apos pos : Pos} {o e : Expr} {es : List Expr} {ta : TE} {t : TA}
/-- one class's answer to a call of m -/
structure Ans (X : Cx) (m : Str) (n : Nat) (C : Addr) (R : V → List V → Hp → VK → Prop) : Prop where
  cls : Cls X.K C
  run : ∃ (f : Addr) (fd : FuncData) (ps : List Str) (ds : List Value) (dvs : List V) (CX : CXT) (cm : Bool) (k : Nat) (sp : Sp) (E : XK), Meth X.K C m f ∧ FnOk X.prog X.w X.K X.mg X.base CX cm k f fd ps sp ∧ Room cm k X.A ∧ Binds X.K fd ps ds ∧ Vals dvs ds ∧ Passes CX X E ∧
    ∀ x vs H Q, vs.length = n → R x vs H Q → sp (x :: (vs ++ dvs)) H Q E
/-- o.m(..), the class known by what stands there -/
def tMethV (m : Str) (n : Nat) (D : Addr → (V → List V → Hp → VK → Prop) → Prop) (ta : TE) (t : TA) : TE := fun σ H Q => ta σ H fun x H1 => ∃ a C dx fs R, x = .ref a ∧ H1 a = some (.ins C dx fs) ∧ fs.lookup m = none ∧ D C R ∧
  t σ H1 fun vs H2 => vs.length = n ∧ R x vs H2 Q
theorem pe_methV {pl : Sem Bool} {n : Nat} {D : Addr → (V → List V → Hp → VK → Prop) → Prop} (he : PE X o ta) (hD : ∀ C R, D C R → Ans X m n C R) (ha : PA X (e :: es) t)
    (hst : starEach (e :: es) X.env = (false, eval e X.env) :: starEach es X.env := by rfl) (hpl : (backTo pos (starEach es X.env)).any (·.1) = false := by rfl)
    (ht : eval (.Call (.Attribute o m apos) (e :: es) [] pos) X.env = (do
      let ov ← eval o X.env
      standAt apos.atName
      let (f, first) ← holding [ov] (getMethod ov m pl)
      callWith pos f first (backTo pos (starEach (e :: es) X.env)) (backToKw pos (keywordEach [] X.env))) := by rfl) :
    PE X (.Call (.Attribute o m apos) (e :: es) [] pos) (tMethV m n D ta t) := by
  intro pins s σ H Q I h
  refine PySem.W.methodCall_KW (pl := pl) (thn (he pins s σ H _ I h) fun u s1 ⟨x, H1, I1, rx, a, C, dx, fs, R, ex, ea, l, d, q⟩ => ?_) ht
  subst ex
  obtain rfl : u = Value.ref a := rx
  obtain ⟨c, f, fd, ps, ds, dvs, CX, cm, k, sp, E, hm, F, hr, hb, hd, hx, hR⟩ := hD C R d
  refine getmeth_ok I1 ea c hm l ?_
  refine PySem.W.callWith_K (first := [.ref a]) (h₀ := X.base) I.ok.mod.kin hm.kp (thn (ha pos pins s1 σ H1 _ I1 q) fun us s2 ⟨vs, H2, I2, r, hn, q2⟩ => ⟨I2.kIn, ?_⟩) hst hpl
  exact run_fn (us := .ref a :: us) (vs := .ref a :: vs) F hr hb hd hx I2 (.cons rfl r) (hR _ _ _ _ hn q2)
end
section
variable {X : Cx} {K : PySem.W.Frag} {o e value : Expr} {f : Str} {pos pos' : Pos} {ta tv : TE} (hK : X.K = K)
include hK
theorem pe_fldK (he : PE X e ta) (hb : attributeBase e f X.env (eval e X.env) = eval e X.env := by rfl) : PE X (.Attribute e f pos) (tFld K ta f) := by subst hK; exact pe_fld he hb
theorem ps_fldK (ha : PE X o ta) (hv : PE X value tv) (hs : swapsWith value (some (.Attribute o f pos')) pos.line X.env = pure false := by rfl) : PS X (.Assign [.Attribute o f pos'] value pos) (sFld K ta tv f) := by subst hK; exact ps_fld ha hv hs
end
end L2
namespace L2
open PySem PySem.Spec PySem.Calls PyProof.Rows
section
variable {X : Cx} {CX : CXT} {cm : Bool} {k : Nat} {f C : Addr} {fd : FuncData} {ps : List Str} {sp : Sp} {dvs : List V} {ds : List Value} {E : XK} {x m : Str} {p pos apos : Pos} {e : Expr} {es : List Expr} {t : TA}
/-- a def of a class, read of the class itself -/
structure ClsFn (K : PySem.W.Frag) (C : Addr) (m : Str) (f : Addr) : Prop where
  ga : PySem.W.specialIn K (.ref C) "__getattribute__" = some (some (.builtin "type.__getattribute__"))
  rd : PySem.W.readsIn K C (.type "type") = true
  at_ : PySem.W.findCls K (.ref C) (.type "type") m = some (.val (.ref f))
  hi : PySem.W.handedIn (.ref f) = true
  kp : PySem.W.keepIn K (.ref f) = true
end
end L2

namespace L2
open PySem PySem.Spec PyProof.Rows
theorem pg_tupK {X : Cx} {K : PySem.W.Frag} {es : List Expr} {k : Nat} {t : TGs} {n : Nat} {pos : Pos} (hK : X.K = K) (hc : X.calm = true) (h : PGs X es t)
    (hn : (assignEach es X.env).length = n := by rfl) (hst : (assignEach es X.env).findIdx? (·.1) = none := by rfl) : PG X (.Tuple es k pos) (gTup K n t) := by subst hK; exact pg_tup hc h hn hst
/-- a comprehension over pairs of ints, two names its target -/
theorem comp_pair {K : PySem.W.Frag} {J : It} {cap : List (Option Nat)} {tt : TT} {te : TE} {σ : St} {H1 : Hp} {Q : VK} {rs : List RA} (hJ : Seq J H1 (refs rs)) (ok : RowOk H1 rs) (p : Int × Int → Bool) (f : Int × Int → V) (hsz : rs.length ≤ 100000)
    (hp : ∀ y ∈ rs, ∀ H', Same H1 H' → ∀ R : Bool → Hp → Prop, (∀ H'', Same H' H'' → R (p y.2) H'') → tt (((capt cap σ).set 0 (some (.int y.2.1))).set 1 (some (.int y.2.2))) H' R)
    (he : ∀ y ∈ rs, p y.2 = true → ∀ H', Same H1 H' → ∀ R : VK, (∀ H'', Same H' H'' → R (f y.2) H'') → te (((capt cap σ).set 0 (some (.int y.2.1))).set 1 (some (.int y.2.2))) H' R)
    (k : ∀ D H', Same H1 H' → H1 D = none → H' D = some (.lst (((sps rs).filter p).map f)) → Q (.ref D) H') :
    compBody J H1 cap (gTup K 2 (gCons (gName 0) (gCons (gName 1) gNil))) tt te σ Q := by
  intro D hD
  refine ⟨fun i m ys σ' H' => m = rs.length - i ∧ i ≤ rs.length ∧ (∀ v w, (σ'.set 0 v).set 1 w = ((capt cap σ).set 0 v).set 1 w) ∧ H' D = some (.lst ys) ∧ Same H1 H' ∧ ys = (((sps rs).take i).filter p).map f,
    ⟨rs.length, by simp, Nat.zero_le _, fun _ _ => rfl, upd_same, same_upd hD, by simp⟩, ?_⟩
  rintro i m ys σ' H' ⟨rfl, hi, hσ, hl, sm, hys⟩
  refine ⟨hl, ?_⟩
  obtain ⟨q1, q2⟩ := hJ H' sm
  by_cases hlt : i < rs.length
  · have e : (refs rs)[i]? = some (.ref (rs[i]).1) := by unfold refs; simp [hlt]
    have es : (sps rs)[i]? = some (rs[i]).2 := by unfold sps; simp [hlt]
    obtain ⟨go, y⟩ := q1 i _ e
    refine .inr ⟨go, fun x H2 hy => ?_⟩
    obtain ⟨rfl, rfl⟩ := y x H2 hy
    have hm : rs[i] ∈ rs := List.getElem_mem hlt
    have etake : (sps rs).take (i + 1) = (sps rs).take i ++ [(rs[i]).2] := by rw [List.take_add_one, es]; rfl
    refine ⟨(rs[i]).1, _, rfl, SqT.of (sm _ _ (ok _ hm)), rfl, _, _, rfl, _, _, rfl, rfl, ?_⟩
    show tt ((σ'.set 0 (some (.int (rs[i]).2.1))).set 1 (some (.int (rs[i]).2.2))) _ _
    rw [hσ]
    refine hp _ hm _ sm _ fun H4 s4 => ?_
    have hss : ∀ v w, ((((capt cap σ).set 0 (some (.int (rs[i]).2.1))).set 1 (some (.int (rs[i]).2.2))).set 0 v).set 1 w = ((capt cap σ).set 0 v).set 1 w := fun v w => by
      rw [List.set_comm _ _ (by decide : (1 : Nat) ≠ 0), List.set_set, List.set_set]
    cases hb : p (rs[i]).2 with
    | false =>
      refine iteF ⟨rs.length - (i + 1), by omega, rfl, hlt, hss, s4 _ _ hl, sm.trans s4, ?_⟩
      rw [etake, List.filter_append, hys]
      simp [hb]
    | true =>
      refine iteT ?_
      refine he _ hm hb _ (sm.trans s4) _ fun H5 s5 => ?_
      have hl5 := s5 _ _ (s4 _ _ hl)
      refine ⟨hl5, ?_, rs.length - (i + 1), by omega, rfl, hlt, hss, upd_same, fun b o eb => ?_, ?_⟩
      · have h1 : ys.length ≤ rs.length := by
          rw [hys, List.length_map]
          refine Nat.le_trans (List.length_filter_le _ _) ?_
          rw [List.length_take, sps_len]
          exact Nat.min_le_right _ _
        have h2 : (100000 : Nat) < sizeLine := by decide
        omega
      · rw [upd_ne (ne_of_none eb hD)]
        exact s5 _ _ (s4 _ _ (sm _ _ eb))
      · rw [etake, List.filter_append, hys]
        simp [hb]
  · have e : i = rs.length := by omega
    subst e
    have e2 : (refs rs).length = rs.length := refs_len rs
    refine .inl ⟨e2 ▸ q2, k D _ sm hD ?_⟩
    rw [hl, hys, ← sps_len rs, List.take_length]
end L2
namespace L2
open PySem PySem.Spec PyProof.Rows PySem.SeqAt
section
variable {X : Cx}
end
end L2
namespace L2
open PySem PySem.Spec PyProof.Rows PySem.SeqAt
section
variable {X : Cx}
end
end L2

namespace L2
open PySem PySem.Spec PyProof.Rows
/-! C(..) within a try: its __init__ may refuse -/
section
variable {X : Cx} {CX : CXT} {cm : Bool} {k : Nat} {f C : Addr} {fd : FuncData} {ps : List Str} {sp : Sp} {dvs : List V} {ds : List Value} {E : St → XK} {x : Str} {p pos : Pos} {e : Expr} {es : List Expr} {t : TA}
end
end L2

namespace L2
open PySem PySem.Spec PyProof.Rows
section
variable {X : Cx}
end
end L2

namespace L2
open PySem PySem.Spec PyProof.Rows
/-! a place where ways meet: what is known behind a statement, said once -/
def tCut (t u : TS) : TS := fun D σ H => ∃ P : St → Hp → Prop, t { D with nx := P } σ H ∧ ∀ σ' H', P σ' H' → u D σ' H'
section
variable {X : Cx} {st : Stmt} {rest : List Stmt} {t u : TS}
theorem pss_cut (h1 : PS X st t) (h2 : PSs X rest u) : PSs X (st :: rest) (tCut t u) := by
  intro pins s σ H D I h
  obtain ⟨P, ha, hb⟩ := h
  refine wpAny_execs_cons (thn (h1 pins s σ H { D with nx := P } I ha) fun f s1 q => ?_)
  cases f with
  | next =>
    obtain ⟨σ', H', I', q⟩ := q
    exact h2 pins s1 σ' H' D I' (hb σ' H' q)
  | ret v => exact q
  | brk => exact q
  | cont => exact q
end
end L2

namespace L2
open PySem PySem.Spec PySem.Calls PyProof.Rows
/-! C(): a class that has no __init__ but object's -/
structure MkN (K : PySem.W.Frag) (C : Addr) : Prop where
  makes : PySem.W.makesIn K C = true
  init : PySem.W.findIn K (.ref C) "__init__" = some (some (.builtin "object.__init__"))
  kp : PySem.W.keepIn K (.ref C) = true
def tMakeN (C : Addr) : TE := fun _ H Q => ∀ x dx, H x = none → H dx = none → dx ≠ x → Q (.ref x) (upd (upd H dx (.own x)) x (.ins C dx []))
section
variable {X : Cx} {C : Addr} {x : Str} {p pos : Pos}
theorem pe_makeN (M : MkN X.K C) (hg : Gl X x) (hm : X.mg x = some (.ref C)) (hdb : (x == ("__debug__" : Str)) = false := by decide) : PE X (.Call (.Name x p) [] [] pos) (tMakeN C) := by
  intro pins s0 σ H Q I0 h
  refine wpAny_Call_Name_kw (ld_glob I0 hg hm ?_ hdb)
  refine PySem.W.callWith_K0 I0.kIn M.kp (wpAny_call ?_)
  have hq := h (s0.heap.objs.size + 1) s0.heap.objs.size (I0.hok.fresh (Nat.le_succ _)) (I0.hok.fresh (Nat.le_refl _)) (Nat.ne_of_lt (Nat.lt_succ_self _))
  have I2 := Inv.made (C := C) I0
  have KX := I0.kIn
  obtain ⟨hh, g, d, t, os⟩ := s0
  have Y := PySem.W.makes_of (M := model X.prog X.w) KX M.makes
  refine PySem.W.make_core Y (PySem.W.looks_findIn KX M.init) (fun self => PySem.W.Looks.of_pure (PySem.W.oi_bind self)) (.inr ⟨rfl, rfl⟩) ?_
  have e2 : ((hh.push PySem.W.emptyDict).push (PySem.W.instObj C hh.objs.size)).get? (hh.objs.size + 1) = some (PySem.W.instObj C hh.objs.size) := by
    have := Heap.get?_push_size (hh.push PySem.W.emptyDict) (o := PySem.W.instObj C hh.objs.size) rfl
    rwa [Heap.size_push] at this
  have t1 : PySem.W.Looks (model X.prog X.w) ((hh.push PySem.W.emptyDict).push (PySem.W.instObj C hh.objs.size)) (typeOf (.ref (hh.objs.size + 1))) (.ref C) := (PySem.W.Looks.ld e2).andThen .now
  have t2 : PySem.W.Looks (model X.prog X.w) ((hh.push PySem.W.emptyDict).push (PySem.W.instObj C hh.objs.size)) (isInstance (.ref (hh.objs.size + 1)) (.type "object")) true := t1.andThen (Y.top.keeps fun b o e => Heap.get?_push_of_some _ (Heap.get?_push_of_some _ e))
  refine codeAny_call_builtin PySem.W.oi_plain PySem.W.entry_oi (@PySem.W.check_slot (model X.prog X.w) _ _ _ "object.__init__" "object" "__init__" (.ref (hh.objs.size + 1)) [] [] _ PySem.W.oi_kind PySem.W.oi_split t2 (PySem.W.oi_args (.ref (hh.objs.size + 1))) ?_)
  rw [show ([] ++ [] : List Value) = [] from rfl, PySem.W.oi_run]
  exact wpAny_pure (And.intro rfl ⟨V.ref (hh.objs.size + 1), _, I2, rfl, hq⟩)
end
theorem ex8 {us : List Value} (h : us.length = 8) : ∃ a b c d e f g k, us = [a, b, c, d, e, f, g, k] := by
  match us, h with
  | [a, b, c, d, e, f, g, k], _ => exact ⟨a, b, c, d, e, f, g, k, rfl⟩
end L2

namespace L2
open PySem PySem.Spec PyProof.Rows

end L2

namespace L2
open PySem PySem.Spec PyProof.Rows

section
variable (P : Program) (w : World)
end

section
variable {P : Program} {w : World} {H H' : Hp} {h h' : Heap} {a : Addr} {o : HO}
end

section
variable {P : Program} {w : World} {H : Hp} {h h' : Heap} {x e : Addr} {o' : HO}
end

section
variable {fs fs' ex ex' : List Addr} {H H1 H2 : Hp} {h h1 h2 h' : Heap} {a x e : Addr} {o : HO}
end

end L2

namespace L2
open PySem PySem.Spec PyProof.Rows

section
variable {X : Cx} {pins : List (Addr × Obj)} {σ : List (Option V)} {H H' : Hp} {s : Shared} {h' : Heap}

end

end L2

namespace L2
open PySem PySem.Spec PyProof.Rows
section
variable {X : Cx}

variable {a b : Expr} {ta tb : TE} {pos : Pos}
variable {tA tB' : TT} {rest : List Expr}
end
end L2

namespace L2
open PySem PySem.Spec PyProof.Rows

section
variable {X : Cx} {pins : List (Addr × Obj)} {σ : St} {H : Hp} {s : Shared} {a : Addr} {xs ys : List V}
end

section
variable {X : Cx} {pins : List (Addr × Obj)} {σ : St} {H : Hp} {s : Shared} {E : Value → Shared → Prop}
end

section
variable {X : Cx} {st : Stmt} {rest : List Stmt} {t u : TS} {e : Expr} {te : TE} {pos : Pos}
end

section
variable {X : Cx} {pos : Pos}
end

section
variable {X : Cx} {pos : Pos}
end

end L2

namespace L2
open PySem PySem.Spec PyProof.Rows
section
variable {X : Cx} {tg : Expr}
end

end L2

namespace L2
open PySem PySem.Spec PyProof.Rows

section
variable {X : Cx} {a b c : Expr} {ta tb tc : TE} {pos : Pos}

end

section
variable {X : Cx} {a b c : Expr} {ta tb tc : TE} {pos : Pos}
end
end L2

namespace L2
open PySem PySem.Spec PyProof.Rows

section
variable {prog : Program} {w : World} {A : Around} {E : Value → Shared → Prop} {s : Shared} {K : PySem.W.Frag} {x dx C f : Addr} {mA : Str → Option Value} {name : Str} {v : Value}

end

section
variable {P : Program} {w : World} {H H' : Hp} {h h' : Heap} {a C dx : Addr} {fs fs' : List (Str × V)}
end

section
variable {X : Cx} {pins : List (Addr × Obj)} {σ : St} {H : Hp} {s : Shared} {a C dx : Addr} {fs : List (Str × V)} {f : Str} {v : V} {A : Around} {E : Value → Shared → Prop}

end

section
variable {X : Cx} {o e value : Expr} {f : Str} {pos pos' tpos : Pos} {ta tv : TE}
end

section
variable {X : Cx} {pins : List (Addr × Obj)} {σ : St} {H : Hp} {s : Shared} {A : Around} {E : Value → Shared → Prop} {Q : Value → Shared → Prop} {c : Value} {b : Bool}
end
end L2

namespace L2
open PySem PySem.Spec PyProof.Rows

section
variable {X : Cx} {e : Expr} {es : List Expr} {te : TE} {t : TA} {pos : Pos}
end

section
variable {X : Cx} {pins : List (Addr × Obj)} {σ : St} {H : Hp} {s s' : Shared}
end

section
variable {X : Cx} {CX : CXT} {cm : Bool} {k : Nat} {f C : Addr} {fd : FuncData} {ps : List Str} {sp : Sp} {dvs : List V} {ds : List Value} {E : XK} {x m : Str} {p pos apos : Pos} {e o : Expr} {es : List Expr} {ta : TE} {t : TA}

end

section
variable {X : Cx} {CX : CXT} {cm : Bool} {k : Nat} {f C : Addr} {fd : FuncData} {ps ks : List Str} {sp : Sp} {E : XK} {x m : Str} {p pos apos kpos : Pos} {e o : Expr} {es : List Expr} {kws : List Keyword} {te ta : TE} {t tk : TA} {nm : Option Str}
variable {g : List Value → List Value → List Value} {gV : List V → List V → List V}
end

end L2

namespace L2
open PySem PySem.Spec PyProof.Rows
section
variable {X : Cx} {x : Str} {p pos : Pos} {e : Expr} {es : List Expr} {t : TA} {id T : String} {r : List V → Hp → VK → Prop}

end
end L2

namespace L2
open PySem PySem.Spec PyProof.Rows

section
variable {κ : Type} [DecidableEq κ]
def valV (kvs : List (κ × V)) (k : κ) : Option V := (kvs.find? fun kv => decide (kv.1 = k)).map (·.2)
def putK (kvs : List (κ × V)) (k : κ) (v : V) : List (κ × V) :=
  if (kvs.any fun kv => decide (kv.1 = k)) = true then kvs.map (fun kv => if kv.1 = k then (kv.1, v) else kv) else kvs ++ [(k, v)]
def dropK (kvs : List (κ × V)) (k : κ) : List (κ × V) := kvs.filter fun kv => decide (kv.1 ≠ k)

theorem valV_pos {p : κ × V} {r : List (κ × V)} {k : κ} (e : p.1 = k) : valV (p :: r) k = some p.2 := by simp [valV, List.find?_cons, e]
theorem valV_neg {p : κ × V} {r : List (κ × V)} {k : κ} (e : ¬ p.1 = k) : valV (p :: r) k = valV r k := by simp [valV, List.find?_cons, e]
theorem valV_any (k : κ) : ∀ kvs : List (κ × V), (kvs.any fun kv => decide (kv.1 = k)) = (valV kvs k).isSome
  | [] => rfl
  | p :: r => by
    rw [List.any_cons]
    by_cases e : p.1 = k
    · simp only [valV_pos e, decide_eq_true e, Bool.true_or, Option.isSome_some]
    · rw [valV_neg e, decide_eq_false e, Bool.false_or]; exact valV_any k r
theorem valV_map (k j : κ) (y : V) : ∀ kvs : List (κ × V), valV (kvs.map fun kv => if kv.1 = k then (kv.1, y) else kv) j = (valV kvs j).map fun x => if j = k then y else x
  | [] => rfl
  | p :: r => by
    have ih := valV_map k j y r
    rw [List.map_cons]
    by_cases h : p.1 = k
    · rw [if_pos h]
      by_cases e : p.1 = j
      · rw [valV_pos (p := (p.1, y)) e, valV_pos e, Option.map_some, if_pos (e.symm.trans h)]
      · rw [valV_neg (p := (p.1, y)) e, valV_neg e, ih]
    · rw [if_neg h]
      by_cases e : p.1 = j
      · rw [valV_pos (p := p) e, valV_pos e, Option.map_some, if_neg (fun z => h (e.trans z))]
      · rw [valV_neg (p := p) e, valV_neg e, ih]
theorem valV_snoc (k j : κ) (y : V) : ∀ kvs : List (κ × V), valV kvs k = none → valV (kvs ++ [(k, y)]) j = if j = k then some y else valV kvs j
  | [], _ => by
    by_cases e : k = j
    · rw [if_pos e.symm]; exact valV_pos (p := (k, y)) e
    · rw [if_neg (fun z => e z.symm)]; exact valV_neg (p := (k, y)) e
  | p :: r, hn => by
    rw [List.cons_append]
    have hk : ¬ p.1 = k := fun z => by rw [valV_pos z] at hn; cases hn
    rw [valV_neg hk] at hn
    have ih := valV_snoc k j y r hn
    by_cases e : p.1 = j
    · rw [valV_pos e, valV_pos e, if_neg (fun z => hk (e.trans z))]
    · rw [valV_neg e, valV_neg e, ih]
theorem valV_put (kvs : List (κ × V)) (k j : κ) (y : V) : valV (putK kvs k y) j = if j = k then some y else valV kvs j := by
  unfold putK
  by_cases a : (kvs.any fun kv => decide (kv.1 = k)) = true
  · rw [if_pos a, valV_map]
    rw [valV_any] at a
    by_cases e : j = k
    · obtain ⟨x, hx⟩ := Option.isSome_iff_exists.mp a
      rw [if_pos e, e, hx, Option.map_some, if_pos rfl]
    · rw [if_neg e]
      cases valV kvs j with
      | none => rfl
      | some x => rw [Option.map_some, if_neg e]
  · rw [if_neg a]
    refine valV_snoc k j y kvs ?_
    rw [valV_any] at a
    cases q : valV kvs k with
    | none => rfl
    | some x => rw [q] at a; exact (a rfl).elim
theorem length_putK (kvs : List (κ × V)) (k : κ) (v : V) : (putK kvs k v).length ≤ kvs.length + 1 := by
  unfold putK
  split
  · rw [List.length_map]; omega
  · rw [List.length_append, List.length_cons, List.length_nil]; omega
theorem putK_new {kvs : List (κ × V)} {k : κ} (v : V) (h : valV kvs k = none) : putK kvs k v = kvs ++ [(k, v)] := by
  unfold putK
  rw [valV_any, h]
  exact if_neg (by decide)

theorem RelO.isSome_eq {o : Option V} {u : Option Value} (r : RelO o u) : o.isSome = u.isSome := by
  cases o with
  | none => cases u with
    | none => rfl
    | some _ => exact (show False from r).elim
  | some _ => cases u with
    | none => exact (show False from r).elim
    | some _ => rfl
theorem RelO.getD {o : Option V} {u : Option Value} {d : V} {d' : Value} (r : RelO o u) (rd : RelV d d') : RelV (o.getD d) (u.getD d') := by
  cases o with
  | none => cases u with
    | none => exact rd
    | some _ => exact (show False from r).elim
  | some _ => cases u with
    | none => exact (show False from r).elim
    | some _ => exact r

theorem KV.val {kvs : List (κ × V)} {vs : List (κ × Value)} (r : KV kvs vs) (k : κ) : RelO (valV kvs k) (valueAt vs k) := by
  unfold KV at r
  induction r with
  | nil => exact True.intro
  | @cons p q ps qs h t ih =>
    obtain ⟨h1, h2⟩ := h
    by_cases e : p.1 = k
    · have e' : q.1 = k := h1.symm.trans e
      have b : valueAt (q :: qs) k = some q.2 := by simp [valueAt, List.find?_cons, e']
      rw [valV_pos e, b]; exact h2
    · have e' : ¬ q.1 = k := fun z => e (h1.trans z)
      have b : valueAt (q :: qs) k = valueAt qs k := by simp [valueAt, List.find?_cons, e']
      rw [valV_neg e, b]; exact ih
theorem KV.any {kvs : List (κ × V)} {vs : List (κ × Value)} (r : KV kvs vs) (k : κ) : (kvs.any fun kv => decide (kv.1 = k)) = vs.any fun kv => decide (kv.1 = k) := by
  unfold KV at r
  induction r with
  | nil => rfl
  | cons h t ih => rw [List.any_cons, List.any_cons, ih, h.1]
theorem KV.repl {kvs : List (κ × V)} {vs : List (κ × Value)} (r : KV kvs vs) (k : κ) {y : V} {u : Value} (ry : RelV y u) :
    KV (kvs.map fun kv => if kv.1 = k then (kv.1, y) else kv) (vs.map fun kv => if kv.1 = k then (kv.1, u) else kv) := by
  unfold KV at r ⊢
  induction r with
  | nil => exact .nil
  | @cons p q ps qs h t ih =>
    rw [List.map_cons, List.map_cons]
    refine .cons ?_ ih
    obtain ⟨h1, h2⟩ := h
    by_cases e : p.1 = k
    · rw [if_pos e, if_pos (h1.symm.trans e)]; exact ⟨h1, ry⟩
    · rw [if_neg e, if_neg (fun z => e (h1.trans z))]; exact ⟨h1, h2⟩
theorem KV.put {kvs : List (κ × V)} {vs : List (κ × Value)} (r : KV kvs vs) (k : κ) {y : V} {u : Value} (ry : RelV y u) : KV (putK kvs k y) (stored vs k u) := by
  unfold putK stored
  rw [r.any k]
  by_cases e : (vs.any fun kv => decide (kv.1 = k)) = true
  · rw [if_pos e, if_pos e]; exact r.repl k ry
  · rw [if_neg e, if_neg e]; exact Paired.snoc r ⟨rfl, ry⟩
theorem KV.drop {kvs : List (κ × V)} {vs : List (κ × Value)} (r : KV kvs vs) (k : κ) : KV (dropK kvs k) (without vs k) := by
  unfold KV at r ⊢
  unfold dropK without
  induction r with
  | nil => exact .nil
  | @cons p q ps qs h t ih =>
    obtain ⟨h1, h2⟩ := h
    rw [List.filter_cons, List.filter_cons]
    by_cases e : p.1 = k
    · have a : ¬ decide (p.1 ≠ k) = true := by simp [e]
      have b : ¬ decide (q.1 ≠ k) = true := by simp [h1.symm.trans e]
      rw [if_neg a, if_neg b]; exact ih
    · have e' : ¬ q.1 = k := fun z => e (h1.trans z)
      have a : decide (p.1 ≠ k) = true := by simp [e]
      have b : decide (q.1 ≠ k) = true := by simp [e']
      rw [if_pos a, if_pos b]; exact .cons ⟨h1, h2⟩ ih
theorem KV.keys {kvs : List (κ × V)} {vs : List (κ × Value)} (r : KV kvs vs) : kvs.map (·.1) = vs.map (·.1) := by
  unfold KV at r
  induction r with
  | nil => rfl
  | cons h t ih => rw [List.map_cons, List.map_cons, ih, h.1]
theorem KV.length {kvs : List (κ × V)} {vs : List (κ × Value)} (r : KV kvs vs) : kvs.length = vs.length := Paired.length r
end


theorem kV_is {P : Program} {w : World} {k : Key} {u : Value} (r : RelV (kV k) u) : (mixKind P w).is k u = true := by
  cases k with
  | inl i => obtain ⟨t, e⟩ := (show ∃ t, u = Value.int i t from r); subst e; exact mixKind_int P w i t
  | inr x => obtain ⟨t, e⟩ := (show ∃ t, u = Value.str x t from r); subst e; exact mixKind_str P w x t
theorem items_are {P : Program} {w : World} : ∀ {ks : List Key} {us : List Value}, Vals (ks.map kV) us → ItemsAre (mixKind P w) ks us
  | [], _, r => by rw [List.map_nil] at r; cases r; exact .nil
  | k :: ks, _, r => by
    rw [List.map_cons] at r
    cases r with
    | cons h t => exact .cons (kV_is h) (items_are t)

abbrev KT (H : Hp) : List (List Key × V) → List (List Key × Addr × Value) → Prop := Paired fun p q => p.1 = q.1 ∧ H q.2.1 = some (.tup (p.1.map kV)) ∧ RelV p.2 q.2.2
theorem KT.val {H : Hp} {kvs : List (List Key × V)} {xs : List (List Key × Addr × Value)} (r : KT H kvs xs) (k : List Key) : RelO (valV kvs k) ((atKey xs k).map (·.2)) := by
  induction r with
  | nil => exact True.intro
  | @cons p q ps qs h t ih =>
    obtain ⟨h1, _, h2⟩ := h
    by_cases e : p.1 = k
    · have e' : q.1 = k := h1.symm.trans e
      have b : atKey (q :: qs) k = some q.2 := by simp [atKey, List.find?_cons, e']
      rw [valV_pos e, b]; exact h2
    · have e' : ¬ q.1 = k := fun z => e (h1.trans z)
      have b : atKey (q :: qs) k = atKey qs k := by simp [atKey, List.find?_cons, e']
      rw [valV_neg e, b]; exact ih
theorem KT.repl {H : Hp} {kvs : List (List Key × V)} {xs : List (List Key × Addr × Value)} (r : KT H kvs xs) (k : List Key) {y : V} {u : Value} (ry : RelV y u) :
    KT H (kvs.map fun kv => if kv.1 = k then (kv.1, y) else kv) (xs.map (putAt k u)) := by
  induction r with
  | nil => exact .nil
  | @cons p q ps qs h t ih =>
    rw [List.map_cons, List.map_cons]
    refine .cons ?_ ih
    obtain ⟨h1, h2, h3⟩ := h
    unfold putAt
    by_cases e : p.1 = k
    · rw [if_pos e, if_pos (h1.symm.trans e)]; exact ⟨h1, h2, ry⟩
    · rw [if_neg e, if_neg (fun z => e (h1.trans z))]; exact ⟨h1, h2, h3⟩
theorem KT.put {H : Hp} {kvs : List (List Key × V)} {xs : List (List Key × Addr × Value)} (r : KT H kvs xs) (k : List Key) {b : Addr} {y : V} {u : Value} (hb : H b = some (.tup (k.map kV))) (ry : RelV y u) :
    KT H (putK kvs k y) (storedH xs k b u) := by
  have e : (kvs.any fun kv => decide (kv.1 = k)) = (atKey xs k).isSome := by
    rw [valV_any, (r.val k).isSome_eq, Option.isSome_map]
  unfold putK storedH
  rw [e]
  by_cases q : (atKey xs k).isSome = true
  · rw [if_pos q, if_pos q]; exact r.repl k ry
  · rw [if_neg q, if_neg q]; exact Paired.snoc r ⟨rfl, hb, ry⟩
theorem KT.keeps {H H' : Hp} {kvs : List (List Key × V)} {xs : List (List Key × Addr × Value)} (r : KT H kvs xs) (ht : ∀ b ys, H b = some (.tup ys) → H' b = some (.tup ys)) : KT H' kvs xs :=
  Paired.mapP r fun _ _ z => ⟨z.1, ht _ _ z.2.1, z.2.2⟩

section
variable {P : Program} {w : World} {H : Hp} {h : Heap} {a : Addr}
theorem rd_of {u : HO} (ok : HOk P w H h) (e : Rd H a u) : ObjOk P w H h a u := e.ok ok
theorem dk_rd {kvs : List (Key × V)} (ok : HOk P w H h) (e : Rd H a (.dK kvs)) : kvs.length ≤ sizeLine ∧ (a == sysModules) = false ∧ ∃ vs, KV kvs vs ∧ h.DictOf (mixKind P w) a vs :=
  show ObjOk P w H h a (.dK kvs) from rd_of ok e
theorem dk_of {kvs : List (Key × V)} (ok : HOk P w H h) (e : H a = some (.dK kvs)) : kvs.length ≤ sizeLine ∧ (a == sysModules) = false ∧ ∃ vs, KV kvs vs ∧ h.DictOf (mixKind P w) a vs := dk_rd ok (.inl e)
theorem key_of {ks : List Key} (ok : HOk P w H h) (e : H a = some (.tup (ks.map kV))) : (tupleKind (mixKind P w)).is h ks a := by
  obtain ⟨_, its, r, o, h1, h2, n, h3⟩ := (show ObjOk P w H h a (.tup (ks.map kV)) from ok a _ e)
  exact ⟨o, its.toArray, n, h1, h2, h3, by simpa using items_are r⟩
theorem dt_rd {kvs : List (List Key × V)} (ok : HOk P w H h) (e : Rd H a (.dT kvs)) : kvs.length ≤ sizeLine ∧ (a == sysModules) = false ∧
    ∃ xs, KT H kvs xs ∧ h.DictOfH (tupleKind (mixKind P w)) a xs := by
  obtain ⟨z, y, xs, r, o, es, ep, h1, h2, h3, h4, h5⟩ := (show ObjOk P w H h a (.dT kvs) from rd_of ok e)
  refine ⟨z, y, xs, r, o, es, ep, h1, h2, h3, h4, fun x hx => ?_, h5⟩
  have all : ∀ {l : List (List Key × V)} {m : List (List Key × Addr × Value)}, KT H l m → ∀ x ∈ m, (tupleKind (mixKind P w)).is h x.1 x.2.1 := by
    intro l m q
    induction q with
    | nil => intro x hx; exact nomatch hx
    | @cons p q ps qs hq t ih =>
      intro x hx
      rcases List.mem_cons.mp hx with e | hx
      · subst e
        exact key_of ok (by rw [← hq.1]; exact hq.2.1)
      · exact ih x hx
  exact all r x hx
theorem dt_of {kvs : List (List Key × V)} (ok : HOk P w H h) (e : H a = some (.dT kvs)) : kvs.length ≤ sizeLine ∧ (a == sysModules) = false ∧
    ∃ xs, KT H kvs xs ∧ h.DictOfH (tupleKind (mixKind P w)) a xs := dt_rd ok (.inl e)
end

def DGet (H : Hp) (a : Addr) (y : V) (r : Option V) : Prop :=
  (∃ kvs k, Rd H a (.dK kvs) ∧ y = kV k ∧ r = valV kvs k) ∨ ∃ kvs k b, Rd H a (.dT kvs) ∧ y = .ref b ∧ H b = some (.tup (k.map kV)) ∧ r = valV kvs k
def DPut (H : Hp) (a : Addr) (y v : V) (H' : Hp) : Prop :=
  (∃ kvs k, H a = some (.dK kvs) ∧ y = kV k ∧ kvs.length < sizeLine ∧ H' = upd H a (.dK (putK kvs k v))) ∨
  ∃ kvs k b, H a = some (.dT kvs) ∧ y = .ref b ∧ H b = some (.tup (k.map kV)) ∧ kvs.length < sizeLine ∧ H' = upd H a (.dT (putK kvs k v))
theorem DGet.k {H : Hp} {a : Addr} {kvs : List (Key × V)} {k : Key} (e : H a = some (.dK kvs)) : DGet H a (kV k) (valV kvs k) := .inl ⟨kvs, k, .inl e, rfl, rfl⟩
theorem DGet.t {H : Hp} {a b : Addr} {kvs : List (List Key × V)} {k : List Key} (e : H a = some (.dT kvs)) (eb : H b = some (.tup (k.map kV))) : DGet H a (.ref b) (valV kvs k) := .inr ⟨kvs, k, b, .inl e, rfl, eb, rfl⟩
theorem DPut.k {H : Hp} {a : Addr} {kvs : List (Key × V)} {k : Key} {v : V} (e : H a = some (.dK kvs)) (hl : kvs.length < sizeLine) : DPut H a (kV k) v (upd H a (.dK (putK kvs k v))) := .inl ⟨kvs, k, e, rfl, hl, rfl⟩
theorem DPut.t {H : Hp} {a b : Addr} {kvs : List (List Key × V)} {k : List Key} {v : V} (e : H a = some (.dT kvs)) (eb : H b = some (.tup (k.map kV))) (hl : kvs.length < sizeLine) :
    DPut H a (.ref b) v (upd H a (.dT (putK kvs k v))) := .inr ⟨kvs, k, b, e, rfl, eb, hl, rfl⟩


section
variable {X : Cx} {pins : List (Addr × Obj)} {σ : St} {H : Hp} {s : Shared} {a : Addr} {y v : V} {u r : Value} {o : Option V} {A : Around} {E : Value → Shared → Prop}

theorem Inv.big (I : Inv X pins σ H s) : sysModules < s.heap.objs.size := by
  have h : mainGlobals < s.heap.objs.size := (I.mod.glob.keeps I.bk).lt
  exact Nat.lt_trans (by decide) h

theorem d_getItem {Q : Value → Shared → Prop} (hu : A.units + 1 < cLine) (I : Inv X pins σ H s) (g : DGet H a y (some v)) (ry : RelV y u) (h : ∀ w' s', Inv X pins σ H s' → RelV v w' → Q w' s') :
    wpAny (model X.prog X.w) A (getItem (.ref a) u) Q E s := by
  rcases g with ⟨kvs, k, e, ey, l⟩ | ⟨kvs, k, b, e, ey, eb, l⟩
  · subst ey
    obtain ⟨z, hd, vs, rel, dd⟩ := dk_rd I.hok e
    obtain ⟨w', hw, rw'⟩ := RelO.some_of (v := v) (o := valueAt vs k) (by rw [l]; exact rel.val k)
    exact wpAny_getItem_of (kV_is ry) dd.mapOf hw (h w' _ (I.tok _) rw')
  · subst ey
    cases (show u = Value.ref b from ry)
    obtain ⟨z, hd, xs, rel, dd⟩ := dt_rd I.hok e
    obtain ⟨w', hw, rw'⟩ := RelO.some_of (v := v) (o := (atKey xs k).map (·.2)) (by rw [l]; exact rel.val k)
    obtain ⟨p, hp, hp2⟩ := Option.map_eq_some_iff.mp hw
    refine wpAny_getItem_heap (tupleKind_room_in1 hu) (key_of I.hok eb) dd hp ?_
    rw [hp2]
    exact h w' _ (I.tok _) rw'
theorem d_write {h' : Heap} {t' : Nat} {ob : HO} (I : Inv X pins σ H s) (mu : Mut (H a)) (hs : Heap.SameBut a s.heap h') (he : ∃ q, h'.get? a = some q) (new : ObjOk X.prog X.w (upd H a ob) h' a ob) :
    Inv X pins σ (upd H a ob) { s with heap := h', toks := t' } :=
  I.write (x := a) (e := a) mu (.inl rfl) (fun b q hb z => (hs.2 b hb).trans z) he new
theorem dk_new {P : Program} {w : World} {H' : Hp} {h' : Heap} {kvs : List (Key × V)} {vs : List (Key × Value)} (z : kvs.length ≤ sizeLine) (hd : (a == sysModules) = false) (rel : KV kvs vs) (dd : h'.DictOf (mixKind P w) a vs) :
    ObjOk P w H' h' a (.dK kvs) := ⟨z, hd, vs, rel, dd⟩
theorem d_setItem {H' : Hp} {Q : Unit → Shared → Prop} (hu : A.units + 1 < cLine) (I : Inv X pins σ H s) (g : DPut H a y v H') (ry : RelV y u) (rv : RelV v r) (h : ∀ s', Inv X pins σ H' s' → Q () s') :
    wpAny (model X.prog X.w) A (setItem (.ref a) u r) Q E s := by
  rcases g with ⟨kvs, k, e, ey, l, eH⟩ | ⟨kvs, k, b, e, ey, eb, l, eH⟩
  · subst ey eH
    obtain ⟨z, hd, vs, rel, dd⟩ := dk_of I.hok e
    have hz : vs.length ≤ sizeLine := by rw [← rel.length]; exact z
    have hl : (putK kvs k v).length ≤ sizeLine := by have := length_putK kvs k v; omega
    refine wpAny_setItem_pairs (hsz := hz) (kV_is ry) dd fun h' dd' hs => h _ ?_
    have he : ∃ q, h'.get? a = some q := let ⟨q, _, _, hq, _⟩ := dd'; ⟨q, hq⟩
    exact d_write I (by rw [e]; exact True.intro) hs he (dk_new hl hd (rel.put k rv) dd')
  · subst ey eH
    cases (show u = Value.ref b from ry)
    obtain ⟨z, hd, xs, rel, dd⟩ := dt_of I.hok e
    have hz : xs.length ≤ sizeLine := by rw [← Paired.length rel]; exact z
    have hl : (putK kvs k v).length ≤ sizeLine := by have := length_putK kvs k v; omega
    refine wpAny_setItem_heap (hsz := hz) (tupleKind_room_in1 hu) (key_of I.hok eb) dd fun h' dd' hs => h _ ?_
    obtain ⟨q, es, ep, hq, h2, h3, h4, _, h5⟩ := dd'
    refine d_write I (by rw [e]; exact True.intro) hs ⟨q, hq⟩ ⟨hl, hd, _, (rel.put k eb rv).keeps fun c ys ec => ?_, q, es, ep, hq, h2, h3, h4, h5⟩
    rw [upd_ne (ne_of ec e (fun z => nomatch z))]
    exact ec
end

section
variable {X : Cx} {pins : List (Addr × Obj)} {σ : St} {H : Hp} {s : Shared} {a : Addr} {kvs : List (Key × V)} {k : Key} {u : Value} {A : Around} {E : Value → Shared → Prop}
end


def NoSl (i : Expr) : Prop := ∀ ov iv, subscripted i false ov iv = operate [ov, iv] (getItem ov iv)
theorem subD_of {prog : Program} {w : World} {A : Around} {E : Value → Shared → Prop} {s : Shared} {env : Env} {value slice : Expr} {pos : Pos} {T id : String} {Q : Value → Shared → Prop}
    (hl : typeLookup (.type T) "__getitem__" = pure (some (.builtin id))) (hs : NoSl slice)
    (h : wpAny (model prog w) A (eval value env) (fun o s₁ => wpAny (model prog w) A (eval slice env) (fun i s₂ => s₂.TypeIs o T ∧ wpAny (model prog w) A (getItem o i) Q E s₂) E s₁) E s) :
    wpAny (model prog w) A (eval (.Subscript value slice pos) env) Q E s := by
  refine Subscript_ (wpAny_mono h (fun o s₁ h₁ => wpAny_mono h₁ (fun i s₂ h₂ => ?_) fun _ _ x => x) fun _ _ x => x)
  obtain ⟨hT, h₂⟩ := h₂
  unfold subscriptTail
  refine wpAny_bind ?_
  rw [getitemInPython_of_ne hT.not_modules]
  refine wpAny_bind (wpAny_specialOf hT hl ?_)
  have fin : wpAny (model prog w) A (subscripted slice false o i) (fun r s₃ => wpAny (model prog w) A (letTemporaryGo value o r >>= fun _ => pure r) Q E s₃) E s₂ := by
    rw [hs o i]
    exact wpAny_operating (wpAny_mono h₂ (fun r s₃ h₃ => wpAny_bind (wpAny_letTemporaryGo (wpAny_pure h₃))) fun _ _ x => x)
  first
    | exact wpAny_pure (wpAny_bind fin)
    | exact wpAny_bind (wpAny_pure (wpAny_bind fin))
    | exact wpAny_bind fin

theorem dict_typeIs {X : Cx} {pins : List (Addr × Obj)} {σ : St} {H : Hp} {s : Shared} {a : Addr} {y : V} {o : Option V} (I : Inv X pins σ H s) (g : DGet H a y o) : s.TypeIs (.ref a) "dict" := by
  rcases g with ⟨kvs, k, e, _, _⟩ | ⟨kvs, k, b, e, _, _, _⟩
  · obtain ⟨_, _, vs, _, dd⟩ := dk_rd I.hok e
    exact dd.typeIs
  · obtain ⟨_, _, xs, _, dd⟩ := dt_rd I.hok e
    exact dd.typeIs
def tDGet (td ty : TE) : TE := fun σ H Q => td σ H fun x H1 => ty σ H1 fun y H2 => ∃ a v, x = .ref a ∧ DGet H2 a y (some v) ∧ Q v H2
def sDPut (td ty tv : TE) : TS := fun D σ H => tv σ H fun v H1 => td σ H1 fun x H2 => ty σ H2 fun y H3 => ∃ a H4, x = .ref a ∧ DPut H3 a y v H4 ∧ D.nx σ H4
section
variable {X : Cx} {o i e value : Expr} {pos pos' tpos : Pos} {td ty tv : TE}
theorem pe_dget (hu : X.A.units + 1 < cLine) (ho : PE X o td) (hi : PE X i ty) (hs : NoSl i) : PE X (.Subscript o i pos) (tDGet td ty) := by
  intro pins s σ H Q I h
  refine subD_of PySem.F.slot_dict_getitem.lookup hs (thn (ho pins s σ H _ I h) fun u s1 ⟨x, H1, I1, rx, q1⟩ => thn (hi pins s1 σ H1 _ I1 q1) fun iv s2 ⟨y, H2, I2, ry, a, v, ex, g, q2⟩ => ?_)
  subst ex
  obtain rfl : u = Value.ref a := rx
  exact ⟨dict_typeIs I2 g, d_getItem hu I2 g ry fun w' s3 I3 rw' => ⟨v, H2, I3, rw', q2⟩⟩
theorem ps_dput (hu : X.A.units + 1 < cLine) (ho : PE X o td) (hi : PE X i ty) (hv : PE X value tv) (hs : swapsWith value (some (.Subscript o i pos')) pos.line X.env = pure false) :
    PS X (.Assign [.Subscript o i pos'] value pos) (sDPut td ty tv) := by
  intro pins s σ H D I h
  refine wpAny_Assign_Subscript (thn (hv pins s σ H _ I h) fun r s1 ⟨v, H1, I1, rv, q1⟩ => thn (ho pins s1 σ H1 _ I1 q1) fun u s2 ⟨x, H2, I2, rx, q2⟩ => thn (hi pins s2 σ H2 _ I2 q2) fun iv s3 ⟨y, H3, I3, ry, a, H4, ex, g, q3⟩ => ?_) hs
  subst ex
  obtain rfl : u = Value.ref a := rx
  exact d_setItem hu I3 g ry rv fun s4 I4 => ⟨σ, H4, I4, q3⟩
end


theorem dk_empty {P : Program} {w : World} {H : Hp} (h : Heap) (hb : sysModules < h.objs.size) : ObjOk P w H (h.push { cls := .type "dict", data := .dict #[] }) h.objs.size (.dK []) :=
  ⟨Nat.zero_le _, beq_eq_false_iff_ne.mpr (Ne.symm (Nat.ne_of_lt hb)), [], .nil, Heap.DictOf.new h⟩
def tDNewK : TE := fun _ H Q => ∀ p, H p = none → Q (.ref p) (upd H p (.dK []))
section
variable {X : Cx} {pos : Pos}
theorem pe_dnewK : PE X (.Dict [] [] pos) tDNewK := fun pins s σ H Q I h =>
  wpAny_Dict_empty ⟨.ref s.heap.objs.size, _, I.laid (a := s.heap.objs.size) (o := .dK []) (t' := s.toks) (fun _ _ q => Heap.get?_push_of_some _ q) (Nat.le_refl _) (dk_empty s.heap I.big), rfl, h _ (I.hok.fresh (Nat.le_refl _))⟩
end

structure M1 (X : Cx) (o : Expr) (m : Str) (apos : Pos) (e : Expr) (cpos : Pos) : Prop where
  base : attributeBase o m X.env (eval o X.env) = eval o X.env
  few : ((backTo cpos (starEach [e] X.env)).all (fun x => !x.1) && (backToKw cpos (keywordEach [] X.env)).all (fun x => x.1.isSome)
    && decide (([e] : List Expr).length + ([] : List Keyword).length + (if ([] : List Keyword).isEmpty then 0 else 1) < 30)) = true
  line : (apos.endLine == cpos.line) = true
  trees : backTo cpos (starEach [e] X.env) = [(false, eval e X.env)]
structure M2 (X : Cx) (o : Expr) (m : Str) (apos : Pos) (e f : Expr) (cpos : Pos) : Prop where
  base : attributeBase o m X.env (eval o X.env) = eval o X.env
  few : ((backTo cpos (starEach [e, f] X.env)).all (fun x => !x.1) && (backToKw cpos (keywordEach [] X.env)).all (fun x => x.1.isSome)
    && decide (([e, f] : List Expr).length + ([] : List Keyword).length + (if ([] : List Keyword).isEmpty then 0 else 1) < 30)) = true
  line : (apos.endLine == cpos.line) = true
  trees : backTo cpos (starEach [e, f] X.env) = [(false, eval e X.env), (false, eval f X.env)]

section
variable {X : Cx} {pins : List (Addr × Obj)} {σ : St} {H : Hp} {s : Shared} {a : Addr} {y d : V} {u r : Value} {o : Option V} {A : Around} {E : Value → Shared → Prop}
end

section
variable {X : Cx} {o e f : Expr} {apos cpos : Pos} {td ty tx : TE}
end

section
variable {X : Cx} {pins : List (Addr × Obj)} {σ : St} {H : Hp} {s : Shared} {a : Addr} {kvs : List (Key × V)} {A : Around} {E : Value → Shared → Prop}
end


section
variable {X : Cx} {pins : List (Addr × Obj)} {σ : St} {H : Hp} {s : Shared} {a : Addr} {y : V} {u : Value} {A : Around} {E : Value → Shared → Prop}
end
end L2

namespace Att
open PySem PySem.W PySem.Calls PyProof.Rows

section
variable {prog : Program} {w : World} {A : Around} {E : Value → Shared → Prop} {s : Shared} {K : Frag}

end
end Att

namespace L2
open PySem PySem.Spec PyProof.Rows

end L2

namespace L2
open PySem PySem.Spec PyProof.Rows

end L2

namespace L2
open PySem PySem.Spec PyProof.Rows

section
variable {P : Program} {w : World} {K : PySem.W.Frag} {mg : Str → Option Value} {base : Heap}
end
section
variable {X : Cx}
end

section
variable {κ : Type} [DecidableEq κ]
end
end L2

namespace L2
open PySem PySem.Spec PyProof.Rows
/-! range(a, b, c), c above nought -/
theorem small_by {a b c : Int} (h1 : -(2 ^ 50) ≤ a) (h2 : a < 2 ^ 50) (h3 : -(2 ^ 50) ≤ b) (h4 : b < 2 ^ 50) (h5 : 0 < c) (h6 : c < 1000) : Builtin.Range.small a b c = true := by
  have hd : a < b → 0 ≤ (b - a - 1) / c ∧ (b - a - 1) / c ≤ b - a - 1 := fun h => ⟨Int.ediv_nonneg (by omega) (by omega), Int.ediv_le_self _ (by omega)⟩
  have hm : a < b → (b - a - 1) / c * c ≤ b - a - 1 := fun h => Int.ediv_mul_le _ (by omega)
  unfold Builtin.Range.small Builtin.Range.rangeSize
  simp only [Builtin.Range.rangeFitsLong, Bool.and_eq_true, Bool.or_eq_true, decide_eq_true_eq, beq_iff_eq, show c > 0 from h5, if_true]
  split
  · rename_i hab
    have := hd hab
    have := hm hab
    generalize (b - a - 1) / c = q at *
    first | omega | (refine ⟨⟨⟨by omega, by omega⟩, by omega⟩, ?_⟩; omega) | skip
  · first | omega | skip
section
variable {X : Cx} {tg : Expr}
end
/-- a comprehension that lays a pair of ints for each -/
theorem comp_mkrow {J : It} {cap : List (Option Nat)} {tt : TT} {te : TE} {σ : St} {H1 : Hp} {Q : VK} {xs : List V} (hJ : Seq J H1 xs) (f : V → Int × Int) (hsz : xs.length ≤ 100000)
    (hp : ∀ x ∈ xs, ∀ H', Same H1 H' → ∀ R : Bool → Hp → Prop, R true H' → tt ((capt cap σ).set 0 (some x)) H' R)
    (he : ∀ x ∈ xs, ∀ H', Same H1 H' → ∀ R : VK, (∀ b H'', Same H' H'' → H' b = none → H'' b = some (.tup [.int (f x).1, .int (f x).2]) → R (.ref b) H'') → te ((capt cap σ).set 0 (some x)) H' R)
    (k : ∀ D H' (rs : List RA), Same H1 H' → H1 D = none → H' D = some (.lst (refs rs)) → RowOk H' rs → sps rs = xs.map f → Q (.ref D) H') :
    compBody J H1 cap (gName 0) tt te σ Q := by
  intro D hD
  refine ⟨fun i m ys σ' H' => m = xs.length - i ∧ i ≤ xs.length ∧ (∀ v, σ'.set 0 v = (capt cap σ).set 0 v) ∧ H' D = some (.lst ys) ∧ Same H1 H' ∧ ∃ rs : List RA, ys = refs rs ∧ RowOk H' rs ∧ sps rs = (xs.take i).map f,
    ⟨xs.length, by simp, Nat.zero_le _, fun _ => rfl, upd_same, same_upd hD, [], rfl, RowOk.nil, by simp [sps]⟩, ?_⟩
  rintro i m ys σ' H' ⟨rfl, hi, hσ, hl, sm, rs, hys, hok, hsp⟩
  refine ⟨hl, ?_⟩
  obtain ⟨q1, q2⟩ := hJ H' sm
  by_cases hlt : i < xs.length
  · have e : xs[i]? = some xs[i] := by simp [hlt]
    obtain ⟨go, y⟩ := q1 i _ e
    refine .inr ⟨go, fun x H2 hy => ?_⟩
    obtain ⟨rfl, rfl⟩ := y x H2 hy
    have hm : xs[i] ∈ xs := List.getElem_mem hlt
    have etake : xs.take (i + 1) = xs.take i ++ [xs[i]] := by rw [List.take_add_one, e]; rfl
    show tt (σ'.set 0 (some xs[i])) _ _
    rw [hσ]
    refine hp _ hm _ sm _ ?_
    refine iteT ?_
    refine he _ hm _ sm _ fun b H5 s5 hb0 hb => ?_
    have hss : ∀ v, ((capt cap σ).set 0 (some xs[i])).set 0 v = (capt cap σ).set 0 v := fun v => by rw [List.set_set]
    have hl5 := s5 _ _ hl
    have hbD : b ≠ D := fun z => by rw [z, hl] at hb0; cases hb0
    refine ⟨hl5, ?_, xs.length - (i + 1), by omega, rfl, hlt, hss, upd_same, fun c o ec => ?_, rs ++ [(b, (f xs[i]).1, (f xs[i]).2)], ?_, ?_, ?_⟩
    · have h1 : rs.length = i := by
        have := congrArg List.length hsp
        rw [sps_len, List.length_map, List.length_take] at this
        omega
      rw [hys, refs_len, h1]
      exact Nat.lt_of_le_of_lt (by omega : i ≤ 100000) (by decide)
    · rw [upd_ne (ne_of_none ec hD)]
      exact s5 _ _ (sm _ _ ec)
    · rw [hys]
      exact refs_app _ _ _ _
    · exact RowOk.app ((hok.up s5).upd hl5) (by rw [upd_ne hbD]; exact hb)
    · rw [sps_app, etake, hsp, List.map_append]
      rfl
  · have e : i = xs.length := by omega
    subst e
    refine .inl ⟨q2, k D _ rs sm hD (by rw [hl, hys]) hok (by rw [hsp, List.take_length])⟩
section
variable {X : Cx}
end
end L2

namespace L2
open PySem PySem.Spec PyProof.Rows PySem.Calls
/-- x = [elt for target in iter if test], x a plain local name: stored ahead of the block's end -/
theorem ps_setComp {i0 : Nat} {x0 : Str} {X : Cx} {elt tgt iter : Expr} {ifs : List Expr} {scope : Scope} {pos pos' spos : Pos} {N : List Str} {cap : List (Option Nat)} {wi : TI} {g : TG} {tt : TT} {te : TE} (hN0 : X.N.Nodup) (hi0 : X.N[i0]? = some x0) (hx0 : X.env.scope.names.lookup x0 = some .local)
    (S : CompScope X.env.scope scope X.N N cap) (hc : X.calm = true) (hi : PI X tgt iter wi)
    (hb : ∀ (C : Addr) (s : Shared) (H : Hp) (fp : List Addr), PG (cxComp X N scope C s H fp) tgt g ∧ PIfs (cxComp X N scope C s H fp) ifs tt ∧ PE (cxComp X N scope C s H fp) elt te)
    (hclos : closureFor scope X.env = pure (clOf X.env scope.names []) := by with_unfolding_all rfl) (hs : ∀ x, foldedSetIterable iter X.env x = pure x := by intro _; rfl)
    (hsw : swapsWith (.ListComp elt [⟨tgt, iter, ifs, 0⟩] scope pos) (some (.Name x0 pos')) spos.line X.env = pure true := by with_unfolding_all rfl) :
    PS X (.Assign [.Name x0 pos'] (.ListComp elt [⟨tgt, iter, ifs, 0⟩] scope pos) spos) (tAsg (tComp wi cap g tt te) (gName i0)) := by
  intro pins s σ H D0 I h
  rw [exec_Assign_Name_used _ _ _ _ hsw]
  refine wpAny_bind (wpAny_standAt (wpAny_bind ?_))
  show wpAny (model X.prog X.w) X.A (comprehension (.ListComp elt [⟨tgt, iter, ifs, 0⟩] scope pos) scope X.env (firstIterPos [⟨tgt, iter, ifs, 0⟩] pos) (newList []) (firstAsync [⟨tgt, iter, ifs, 0⟩]) (firstIter [⟨tgt, iter, ifs, 0⟩] X.env) (some (assign (.Name x0 pos') X.env)) >>= fun _ => pure ()) _ _ _
  refine wpAny_bind (wpAny_mono (Q := fun _ s' => SP X pins D0 .next s') ?main (fun _ s' z => wpAny_pure (wpAny_pure z)) fun _ _ z => z)
  refine wpAny_comprehension_free (use := some (assign (.Name x0 pos') X.env)) (cl := clOf X.env scope.names []) rfl hs hclos S.kind S.names ?_
  refine thn (hi pins s σ H _ I h) fun v s1 h1 => thn h1 fun itv s2 h2 => ?_
  obtain ⟨it, fp, tn, J, H2, e, I2, T, st2, f2, k⟩ := h2
  subst e
  refine wpAny_newObj_type (wpAny_newFunctionEnv S.cell (by intro y hy; simp at hy) (fun h₁ hns₁ hsb₁ => ?_) S.kind)
  dsimp only at hns₁ hsb₁ ⊢
  have I3 : Inv X pins σ (upd H2 s2.heap.objs.size (.lst [])) { s2 with heap := s2.heap.push { cls := .type "list", dict := none, data := .seq ([] : List Value).toArray } } := I2.lnew (t' := s2.toks) .nil (Nat.zero_le _)
  obtain ⟨W, ⟨m0, w0⟩, turn⟩ := k s2.heap.objs.size I2.fresh
  generalize hD : s2.heap.objs.size = D at *
  generalize hsD : ({ s2 with heap := s2.heap.push { cls := .type "list", dict := none, data := .seq ([] : List Value).toArray } } : Shared) = sD at *
  have hsz : sD.heap.objs.size = D + 1 := by rw [← hsD, ← hD]; exact Heap.size_push ..
  have hheap : s2.heap.push { cls := .type "list", dict := none, data := .seq ([] : List Value).toArray } = sD.heap := by rw [← hsD]
  rw [hheap] at hns₁ hsb₁ ⊢
  have up : ∀ b o, s2.heap.get? b = some o → sD.heap.get? b = some o := fun b o e => by rw [← hheap]; exact Heap.get?_push_of_some _ e
  have keep : ∀ b o, sD.heap.get? b = some o → h₁.get? b = some o := fun b o e => hsb₁.extBut b o (Nat.ne_of_lt (Heap.lt_size e)) (Heap.get?_push_of_some _ e)
  have hfD : D ∉ fp := fun hm => by
    obtain ⟨o, e, _⟩ := T.obj _ _ st2 D hm
    have := Heap.lt_size e
    rw [hD] at this
    exact Nat.lt_irrefl _ this
  have f3 : ∀ b ∈ fp, FpOk X pins (upd H2 D (.lst [])) b := fun b hb => ⟨by rw [upd_ne (fun z => hfD (by rw [← z]; exact hb))]; exact (f2 b hb).1, (f2 b hb).2⟩
  have hlt : ∀ b ∈ fp, b < sD.heap.objs.size := fun b hb => by
    obtain ⟨o, e, _⟩ := T.obj _ _ st2 b hb
    exact Heap.lt_size (up b o e)
  have I4 := comp_start (t' := s2.toks + ([] : List (Str × Value)).length) S I3 f3 hlt hns₁ keep
  obtain ⟨hg, hif, hel⟩ := hb sD.heap.objs.size sD (upd H2 D (.lst [])) fp
  have st4 : tn 0 h₁ := T.keep _ _ _ st2 fun b hb o e => keep b o (up b o e)
  have stat : ∀ {H' : Hp}, (∀ b ∈ fp, H' b = none) → ∀ b ∈ fp, FpOk (cxComp X N scope sD.heap.objs.size sD (upd H2 D (.lst [])) fp) [] H' b := fun hn b hb =>
    ⟨hn b hb, (I4.ok.exf b hb).1, I4.ok.exfs b hb, .inl hb, fun x c h z => (I4.ok.exf b hb).2 x c h z, fun p hp => (by simp [cxComp] at hp)⟩
  have loop : codeAny (model X.prog X.w) X.A (.compLoop (.ListComp elt [⟨tgt, iter, ifs, 0⟩] scope pos) 0 (.ref it) (.ref D) (compEnvC scope (clOf X.env scope.names []) sD.heap.objs.size X.env))
      (compPost (model X.prog X.w) X.A X.xe (some (assign (.Name x0 pos') X.env)) (fun _ s' => SP X pins D0 .next s') (.ref D) sD.heap.objs.size) { sD with heap := h₁, toks := s2.toks + ([] : List (Str × Value)).length } := by
    refine compLoop_gen (fun n s' => ∃ i ys σ' H', Inv (cxComp X N scope sD.heap.objs.size sD (upd H2 D (.lst [])) fp) [] σ' H' s' ∧ tn i s'.heap ∧ (∀ b ∈ fp, H' b = none) ∧ W i n ys σ' H') ?_ m0
      ⟨0, [], capt cap σ, _, I4, st4, fun b hb => (f3 b hb).1, w0⟩
    rintro n s5 ⟨i, ys, σ5, H5, I5, st5, fr5, w5⟩
    obtain ⟨hD5, way⟩ := turn i n ys σ5 H5 w5
    rcases way with ⟨stop, q⟩ | ⟨go, step⟩
    · refine thn (T.done (cxComp X N scope sD.heap.objs.size sD (upd H2 D (.lst [])) fp) rfl rfl rfl hc i [] s5 σ5 H5 (fun _ _ => False) I5 (stat fr5) st5 stop) fun r s6 ⟨hr, I6⟩ => ?_
      subst hr
      obtain ⟨m, hn, _⟩ := I6.loc
      have hn' : s6.heap.Ns sD.heap.objs.size m := hn
      have J6 : Inv X pins σ H5 s6 := comp_end I3 f3 I6 (Heap.SameBut.refl _ _)
      have cellNe : ∀ x c, X.env.cells.lookup x = some c → c ≠ sD.heap.objs.size := fun x c h z => by
        obtain ⟨v, q⟩ := I3.cell x c h
        have := q.lt
        rw [z] at this
        exact Nat.lt_irrefl _ this
      refine wpAny_assign_Name (store_ok2 J6 hN0 hi0 (.inl hx0) (v := .ref D) rfl (fun s7 I7 ⟨a7, sb7, ha7⟩ => ⟨m, hn'.sameBut sb7 (fun z => ?_), fun h' sb => ?_⟩) (.inr hx0))
      · rcases ha7 with e | e
        · exact absurd (z.trans e) (Nat.ne_of_gt I3.lt)
        · exact cellNe _ _ e z.symm
      · refine ⟨_, H5, I7.turned (t' := s7.toks) (it := sD.heap.objs.size) (fun b o hb e => (sb.2 b hb).trans e) I6.free (Nat.ne_of_gt I3.lt) (.inr I3.sz) cellNe fun p hp z => ?_, q⟩
        have := Heap.lt_size (I3.pin p hp).1
        rw [z] at this
        exact Nat.lt_irrefl _ this
    · refine thn (T.item (cxComp X N scope sD.heap.objs.size sD (upd H2 D (.lst [])) fp) rfl rfl rfl hc i [] s5 σ5 H5 (fun _ _ => False) I5 (stat fr5) st5 go) fun r s6 ⟨u, hr, h6⟩ => ?_
      subst hr
      refine thn h6 fun _ s7 ⟨x, H7, I7, r7, y7, st7, fr7⟩ => ?_
      have I7' := I7.pinned (stat fr7) (T.obj _ _ st7)
      refine thn (hg _ s7 σ5 H7 x u _ I7' r7 (step x H7 y7)) fun _ s8 ⟨σ8, H8, I8, q8⟩ => ?_
      refine thn (hif _ s8 σ8 H8 _ I8 q8) fun b s9 ⟨H9, I9, q9⟩ => ?_
      have back : ∀ {σ' : St} {H' : Hp} {s' : Shared}, Inv (cxComp X N scope sD.heap.objs.size sD (upd H2 D (.lst [])) fp) ([] ++ pinsAt fp s7.heap) σ' H' s' → tn (i + 1) s'.heap ∧ ∀ b ∈ fp, H' b = none := fun {σ' H' s'} J' =>
        ⟨T.keep _ _ _ st7 fun b hb o e => (J'.pin (b, o) (List.mem_append_right _ (List.mem_append_right _ (mem_pinsAt hb e)))).1, fun b hb => by
          obtain ⟨o, e, d⟩ := T.obj _ _ st7 b hb
          exact (J'.pin (b, o) (List.mem_append_right _ (List.mem_append_right _ (mem_pinsAt hb e)))).2.1⟩
      cases b with
      | false =>
        obtain ⟨m', hm, w9⟩ := (show ∃ m', m' < n ∧ W (i + 1) m' ys σ8 H9 from q9)
        exact ⟨m', hm, i + 1, ys, σ8, H9, I9.unpinned, (back I9).1, (back I9).2, w9⟩
      | true =>
        refine thn (hel _ s9 σ8 H9 _ I9 (show te σ8 H9 _ from q9)) fun y s10 ⟨v10, H10, I10, r10, q10⟩ => ?_
        obtain ⟨hD10, hz, m', hm, w10⟩ := q10
        refine thn (mt_append (X := cxComp X N scope sD.heap.objs.size sD (upd H2 D (.lst [])) fp) _ s10 σ8 H10 (.ref D) [v10] (.ref D) [y] (fun _ H' => H' = upd H10 D (.lst (ys ++ [v10]))) I10 rfl (.cons r10 .nil) ⟨D, ys, v10, rfl, rfl, hD10, hz, rfl⟩) fun _ s11 ⟨v11, H11, I11, _, e11⟩ => ?_
        subst e11
        exact ⟨m', hm, i + 1, ys ++ [v10], σ8, _, I11.unpinned, (back I11).1, (back I11).2, w10⟩
  subst hsD
  subst hD
  exact codeAny_compStart_list loop (T.self _ 0 _ _ _ st4 loop)
end L2

namespace L2
/-! two rising lists taken together, front by front -/
section
variable {α : Type} {R : α → α → Prop}
structure MI (R : α → α → Prop) (all out A B : List α) : Prop where
  perm : (out ++ (A ++ B)).Perm all
  so : out.Pairwise R
  la : ∀ x ∈ out, ∀ y ∈ A, R x y
  lb : ∀ x ∈ out, ∀ y ∈ B, R x y
  sa : A.Pairwise R
  sb : B.Pairwise R
theorem MI.lefts {all out X A B : List α} (h : MI R all out (X ++ A) B) (hx : ∀ x ∈ X, ∀ y ∈ B, R x y) : MI R all (out ++ X) A B := by
  obtain ⟨p, so, la, lb, sa, sb⟩ := h
  rw [List.pairwise_append] at sa
  refine ⟨?_, ?_, ?_, ?_, sa.2.1, sb⟩
  · simpa [List.append_assoc] using p
  · rw [List.pairwise_append]
    exact ⟨so, sa.1, fun x hx y hy => la x hx y (List.mem_append_left _ hy)⟩
  · intro x hm y hy
    rcases List.mem_append.mp hm with hm | hm
    · exact la x hm y (List.mem_append_right _ hy)
    · exact sa.2.2 x hm y hy
  · intro x hm y hy
    rcases List.mem_append.mp hm with hm | hm
    · exact lb x hm y hy
    · exact hx x hm y hy
theorem MI.flip {all out A B : List α} (h : MI R all out A B) : MI R all out B A :=
  ⟨(List.Perm.append_left _ List.perm_append_comm).trans h.perm, h.so, h.lb, h.la, h.sb, h.sa⟩
theorem MI.rights {all out X A B : List α} (h : MI R all out A (X ++ B)) (hx : ∀ x ∈ X, ∀ y ∈ A, R x y) : MI R all (out ++ X) A B := (h.flip.lefts hx).flip
theorem MI.left {x : α} {all out A B : List α} (h : MI R all out (x :: A) B) (hx : ∀ y ∈ B, R x y) : MI R all (out ++ [x]) A B :=
  MI.lefts (X := [x]) h fun z hz y hy => by rw [List.mem_singleton.mp hz]; exact hx y hy
theorem MI.right {x : α} {all out A B : List α} (h : MI R all out A (x :: B)) (hx : ∀ y ∈ A, R x y) : MI R all (out ++ [x]) A B := (h.flip.left hx).flip
/-- what is told of a merge -/
def MD (R : α → α → Prop) (all l : List α) : Prop := l.Perm all ∧ l.Pairwise R
theorem MI.doneA {all out A : List α} (h : MI R all out A []) : MD R all (out ++ A) := by
  refine ⟨by simpa using h.perm, ?_⟩
  rw [List.pairwise_append]
  exact ⟨h.so, h.sa, h.la⟩
theorem MI.doneB {all out B : List α} (h : MI R all out [] B) : MD R all (out ++ B) := h.flip.doneA
theorem MI.last {all out A B : List α} (h : MI R all out A B) (hx : ∀ y ∈ B, ∀ x ∈ A, R y x) : MD R all (out ++ (B ++ A)) := by
  have h' : MI R all out A (B ++ []) := by rw [List.append_nil]; exact h
  have := (h'.rights hx).doneA
  rw [List.append_assoc] at this
  exact this
end
/-! runs that lie one behind the other -/
section
variable {α : Type} {R : α → α → Prop}
def RunsL (R : α → α → Prop) : List (Nat × Nat × Nat) → Nat → List α → Prop
  | [], _, l => l = []
  | (a, n, _) :: r, x, l => a = x ∧ 1 ≤ n ∧ ∃ S l', l = S ++ l' ∧ S.length = n ∧ S.Pairwise R ∧ RunsL R r (x + n) l'
theorem RunsL.append : ∀ {p q : List (Nat × Nat × Nat)} {x : Nat} {l m : List α}, RunsL R p x l → RunsL R q (x + l.length) m → RunsL R (p ++ q) x (l ++ m)
  | [], q, x, l, m, h1, h2 => by
    cases (h1 : l = [])
    exact h2
  | (a, n, w) :: p, q, x, l, m, h1, h2 => by
    obtain ⟨e, hn, S, l', rfl, hS, hp, h1⟩ := h1
    refine ⟨e, hn, S, l' ++ m, by rw [List.append_assoc], hS, hp, RunsL.append h1 ?_⟩
    rw [List.length_append, hS] at h2
    rw [Nat.add_assoc]; exact h2
theorem RunsL.split : ∀ {p q : List (Nat × Nat × Nat)} {x : Nat} {l : List α}, RunsL R (p ++ q) x l → ∃ l1 l2, l = l1 ++ l2 ∧ RunsL R p x l1 ∧ RunsL R q (x + l1.length) l2
  | [], q, x, l, h => ⟨[], l, rfl, rfl, h⟩
  | (a, n, w) :: p, q, x, l, h => by
    obtain ⟨e, hn, S, l', rfl, hS, hp, h⟩ := h
    obtain ⟨l1, l2, rfl, h1, h2⟩ := RunsL.split h
    refine ⟨S ++ l1, l2, by rw [List.append_assoc], ⟨e, hn, S, l1, rfl, hS, hp, h1⟩, ?_⟩
    rw [List.length_append, hS, ← Nat.add_assoc]; exact h2
theorem RunsL.len : ∀ {p : List (Nat × Nat × Nat)} {x : Nat} {l : List α}, RunsL R p x l → p.length ≤ l.length
  | [], _, _, _ => Nat.zero_le _
  | (a, n, w) :: p, x, l, h => by
    obtain ⟨e, hn, S, l', rfl, hS, hp, h⟩ := h
    have := RunsL.len h
    rw [List.length_append, List.length_cons]; omega
theorem RunsL.two {p q : List (Nat × Nat × Nat)} {u v : Nat × Nat × Nat} {l : List α} (h : RunsL R (p ++ u :: v :: q) 0 l) :
    ∃ l1 X Y l2, l = l1 ++ (X ++ (Y ++ l2)) ∧ u.1 = l1.length ∧ u.2.1 = X.length ∧ v.1 = l1.length + X.length ∧ v.2.1 = Y.length ∧ 1 ≤ X.length ∧ 1 ≤ Y.length ∧ X.Pairwise R ∧ Y.Pairwise R ∧
      ∀ M w, M.Pairwise R → M.length = X.length + Y.length → RunsL R (p ++ (u.1, u.2.1 + v.2.1, w) :: q) 0 (l1 ++ (M ++ l2)) := by
  obtain ⟨l1, l2, rfl, h1, h2⟩ := h.split
  obtain ⟨a, n, w⟩ := u
  obtain ⟨b, m, w2⟩ := v
  obtain ⟨e, hn, X, l', rfl, hX, hpX, e2, hm, Y, l2, rfl, hY, hpY, h3⟩ := h2
  refine ⟨l1, X, Y, l2, rfl, by rw [e]; exact Nat.zero_add _, hX.symm, by rw [e2, hX, Nat.zero_add], hY.symm, by omega, by omega, hpX, hpY, fun M w' hM hl => h1.append ⟨e, by show 1 ≤ n + m; omega, M, l2, rfl, by show M.length = n + m; omega, hM, ?_⟩⟩
  show RunsL R q (0 + l1.length + (n + m)) l2
  rw [← Nat.add_assoc]; exact h3
theorem RunsL.repower {p : List (Nat × Nat × Nat)} {a n w w' : Nat} {x : Nat} {l : List α} (h : RunsL R (p ++ [(a, n, w)]) x l) : RunsL R (p ++ [(a, n, w')]) x l := by
  obtain ⟨l1, l2, rfl, h1, h2⟩ := h.split
  exact h1.append h2
end
/-! a stretch written over -/
theorem foldl_put {α : Type} (sa : Nat) : ∀ (l : List α) (k : Nat) (p m q : List α) , p.length = sa + k → m.length = l.length →
    ((l.zipIdx k).foldl (fun a (x : α × Nat) => a.setIfInBounds (sa + x.2) x.1) (p ++ (m ++ q)).toArray).toList = p ++ (l ++ q)
  | [], k, p, m, q, hp, hm => by
    cases m with
    | nil => rfl
    | cons _ _ => simp at hm
  | x :: l, k, p, [], q, hp, hm => by simp at hm
  | x :: l, k, p, y :: m, q, hp, hm => by
    rw [List.zipIdx_cons, List.foldl_cons]
    have e : (p ++ (y :: m ++ q)).toArray.setIfInBounds (sa + k) x = ((p ++ [x]) ++ (m ++ q)).toArray := by
      apply Array.toList_inj.mp
      rw [Array.toList_setIfInBounds, List.toList_toArray, List.toList_toArray, ← hp, List.set_append_right _ _ (Nat.le_refl _), Nat.sub_self]
      simp
    show ((l.zipIdx (k + 1)).foldl _ ((p ++ (y :: m ++ q)).toArray.setIfInBounds (sa + k) x)).toList = _
    rw [e, foldl_put sa l (k + 1) (p ++ [x]) m q (by rw [List.length_append, hp]; rfl) (by simpa using hm)]
    simp
theorem take_drop3 {α : Type} (l : List α) {i j : Nat} (h : i ≤ j) : l.drop i = (l.drop i).take (j - i) ++ l.drop j := by
  have e := (List.take_append_drop (j - i) (l.drop i)).symm
  rw [List.drop_drop, show i + (j - i) = j by omega] at e
  exact e
end L2

namespace L2
open PySem PyProof.Rows
def gal : Bool → Keyed → Array Keyed → Nat → Nat → Nat → StateT SortSt Sem (Option Nat) := sortPriv% PySem.Builtin.gallop
def mLo : Array Keyed → Array Keyed → StateT SortSt Sem (Array Keyed) := sortPriv% PySem.Builtin.mergeLo
def mHi : Array Keyed → Array Keyed → StateT SortSt Sem (Array Keyed) := sortPriv% PySem.Builtin.mergeHi
def setMG : Nat → StateT SortSt Sem Unit := sortPriv% PySem.Builtin.setMinGallop
def galB (past : Nat → StateT SortSt Sem (Option Bool)) (n h : Nat) : StateT SortSt Sem (Option Nat) := do
  let mut u := 0
  let mut v := 1
  let mut lo := 0
  let mut hi := 0
  let some r ← past h | return none
  if r then
    let mx := n - h
    for _ in [0:n] do
      if v ≥ mx then break
      let some m ← past (h + v) | return none
      if !m then break
      u := v
      v := 2 * v + 1
    lo := h + u + 1
    hi := h + min v mx
  else
    let mx := h + 1
    for _ in [0:n] do
      if v ≥ mx then break
      let some f ← past (h - v) | return none
      if f then break
      u := v
      v := 2 * v + 1
    lo := h + 1 - min v mx
    hi := h - u
  for _ in [0:n] do
    if lo ≥ hi then break
    let m := lo + (hi - lo) / 2
    let some b ← past m | return none
    if b then lo := m + 1 else hi := m
  return some hi
theorem gal_eq (left : Bool) (k0 : Keyed) (ar : Array Keyed) (bs n h : Nat) : gal left k0 ar bs n h = galB (fun i => do
    let x ← elem' ar (bs + i)
    if left then lt' x k0 else return (← lt' k0 x).map (!·)) n h := rfl
section
variable {M : Model} {A : Around} {E : Value → Shared → Prop} {s : Shared}
def Tells (M : Model) (A : Around) (E : Value → Shared → Prop) (s : Shared) (st : SortSt) {α : Type} (m : StateT SortSt Sem α) (v : α) : Prop := ∀ Q : α → SortSt → Prop, Q v st → wpS M A E s m Q st
theorem wpS_loop {β : Type} {n : Nat} {c : β} {f : Nat → β → StateT SortSt Sem (ForInStep β)} {st : SortSt} (I : Nat → β → Prop) {Q : β → SortSt → Prop}
    (hs : ∀ i c, i < n → I i c → wpS M A E s (f i c) (fun r st' => st' = st ∧ match r with | .done c' => Q c' st | .yield c' => I (i + 1) c') st)
    (he : ∀ c, I n c → Q c st) (h : I 0 c) : wpS M A E s (forIn [:n] c f) Q st := by
  refine wpS_forRange (a := 0) (I := fun i c st' => st' = st ∧ I i c) ?_ ?_ ⟨rfl, h⟩
  · rintro i c st' _ hi ⟨rfl, hI⟩
    refine wpS_mono (hs i c hi hI) ?_
    rintro r st'' ⟨rfl, hr⟩
    cases r with
    | done c' => exact hr
    | yield c' => exact ⟨rfl, hr⟩
  · rintro c st' ⟨rfl, hI⟩
    rw [show max 0 n = n by omega] at hI
    exact he c hI
def galL (past : Nat → StateT SortSt Sem (Option Bool)) (n lo₀ hi₀ : Nat) : StateT SortSt Sem (Option Nat) := do
  let mut lo := lo₀
  let mut hi := hi₀
  for _ in [0:n] do
    if lo ≥ hi then break
    let m := lo + (hi - lo) / 2
    let some b ← past m | return none
    if b then lo := m + 1 else hi := m
  return some hi
theorem galL_wp {past : Nat → StateT SortSt Sem (Option Bool)} {P : Nat → Bool} {n lo hi : Nat} {st : SortSt} (hp : ∀ i, i < n → Tells M A E s st (past i) (some (P i))) (hm : ∀ i j, i ≤ j → j < n → P j = true → P i = true)
    (hl : lo ≤ hi) (hn : hi ≤ n) (h1 : ∀ i, i < lo → P i = true) (h2 : ∀ i, hi ≤ i → i < n → P i = false)
    {Q : Option Nat → SortSt → Prop} (hQ : ∀ k, k ≤ n → (∀ i, i < k → P i = true) → (∀ i, k ≤ i → i < n → P i = false) → Q (some k) st) : wpS M A E s (galL past n lo hi) Q st := by
  unfold galL
  dsimp only
  refine wpS_bind (wpS_loop (I := fun i c => ∃ lo hi, c = (none, lo, hi) ∧ lo ≤ hi ∧ hi ≤ n ∧ hi - lo ≤ n - i ∧ (∀ i, i < lo → P i = true) ∧ (∀ i, hi ≤ i → i < n → P i = false)) ?_ ?_ ⟨lo, hi, rfl, hl, hn, by omega, h1, h2⟩)
  · rintro i c hi' ⟨lo, hi, rfl, a1, a2, a3, a4, a5⟩
    dsimp only
    by_cases hg : lo ≥ hi
    · rw [if_pos hg]
      refine wpS_pure ⟨rfl, ?_⟩
      obtain rfl : lo = hi := by omega
      exact wpS_pure (hQ lo a2 a4 a5)
    · rw [if_neg hg]
      refine wpS_bind (hp _ (by omega) _ ?_)
      dsimp only
      cases e : P (lo + (hi - lo) / 2) with
      | true =>
        rw [if_pos rfl]
        exact wpS_pure ⟨rfl, _, _, rfl, by omega, a2, by omega, fun j hj => hm j _ (by omega) (by omega) e, a5⟩
      | false =>
        rw [if_neg (by decide)]
        refine wpS_pure ⟨rfl, _, _, rfl, by omega, by omega, by omega, a4, fun j h1 h2 => ?_⟩
        cases ej : P j with
        | false => rfl
        | true => rw [hm _ j h1 h2 ej] at e; exact e
  · rintro c ⟨lo, hi, rfl, a1, a2, a3, a4, a5⟩
    obtain rfl : lo = hi := by omega
    exact wpS_pure (hQ lo a2 a4 a5)
theorem galB_wp {past : Nat → StateT SortSt Sem (Option Bool)} {P : Nat → Bool} {n h : Nat} {st : SortSt} (hp : ∀ i, i < n → Tells M A E s st (past i) (some (P i))) (hh : h < n) (hm : ∀ i j, i ≤ j → j < n → P j = true → P i = true)
    {Q : Option Nat → SortSt → Prop} (hQ : ∀ k, k ≤ n → (∀ i, i < k → P i = true) → (∀ i, k ≤ i → i < n → P i = false) → Q (some k) st) : wpS M A E s (galB past n h) Q st := by
  have hf : ∀ i j, i ≤ j → j < n → P i = false → P j = false := fun i j h1 h2 h3 => by
    cases ej : P j with
    | false => rfl
    | true => rw [hm i j h1 h2 ej] at h3; exact h3
  unfold galB
  dsimp only
  refine wpS_bind (hp h hh _ ?_)
  dsimp only
  cases eh : P h with
  | true =>
    rw [if_pos rfl]
    have fin : ∀ u v, u < v → h + u < n → P (h + u) = true → (v ≥ n - h ∨ P (h + v) = false) → wpS M A E s (galL past n (h + u + 1) (h + min v (n - h))) Q st := fun u v a1 a2 a3 a4 =>
      galL_wp hp hm (by omega) (by omega) (fun i hi => hm i (h + u) (by omega) a2 a3) (fun i h1 h2 => by
        rcases a4 with a4 | a4
        · omega
        · exact hf (h + v) i (by omega) h2 a4) hQ
    refine wpS_bind (wpS_loop (I := fun i c => ∃ u v, c = (none, u, v) ∧ u < v ∧ i + 1 ≤ v ∧ h + u < n ∧ P (h + u) = true) ?_ ?_ ⟨0, 1, rfl, by omega, by omega, hh, eh⟩)
    · rintro i c hi' ⟨u, v, rfl, a1, a2, a3, a4⟩
      dsimp only
      by_cases hg : v ≥ n - h
      · rw [if_pos hg]
        exact wpS_pure ⟨rfl, fin u v a1 a3 a4 (.inl hg)⟩
      · rw [if_neg hg]
        refine wpS_bind (hp _ (by omega) _ ?_)
        dsimp only
        cases e : P (h + v) with
        | true =>
          rw [if_neg (by decide)]
          exact wpS_pure ⟨rfl, _, _, rfl, by omega, by omega, by omega, e⟩
        | false =>
          rw [if_pos (show (!false) = true by decide)]
          exact wpS_pure ⟨rfl, fin u v a1 a3 a4 (.inr e)⟩
    · rintro c ⟨u, v, rfl, a1, a2, a3, a4⟩
      exact fin u v a1 a3 a4 (.inl (by omega))
  | false =>
    rw [if_neg (by decide)]
    have fin : ∀ u v, u < v → u ≤ h → P (h - u) = false → (v ≥ h + 1 ∨ P (h - v) = true) → wpS M A E s (galL past n (h + 1 - min v (h + 1)) (h - u)) Q st := fun u v a1 a2 a3 a4 =>
      galL_wp hp hm (by omega) (by omega) (fun i hi => by
        rcases a4 with a4 | a4
        · omega
        · exact hm i (h - v) (by omega) (by omega) a4) (fun i h1 h2 => hf (h - u) i (by omega) h2 a3) hQ
    refine wpS_bind (wpS_loop (I := fun i c => ∃ u v, c = (none, u, v) ∧ u < v ∧ i + 1 ≤ v ∧ u ≤ h ∧ P (h - u) = false) ?_ ?_ ⟨0, 1, rfl, by omega, by omega, by omega, eh⟩)
    · rintro i c hi' ⟨u, v, rfl, a1, a2, a3, a4⟩
      dsimp only
      by_cases hg : v ≥ h + 1
      · rw [if_pos hg]
        exact wpS_pure ⟨rfl, fin u v a1 a3 a4 (.inl hg)⟩
      · rw [if_neg hg]
        refine wpS_bind (hp _ (by omega) _ ?_)
        dsimp only
        cases e : P (h - v) with
        | false =>
          rw [if_neg (by decide)]
          exact wpS_pure ⟨rfl, _, _, rfl, by omega, by omega, by omega, e⟩
        | true =>
          rw [if_pos rfl]
          exact wpS_pure ⟨rfl, fin u v a1 a3 a4 (.inr e)⟩
    · rintro c ⟨u, v, rfl, a1, a2, a3, a4⟩
      exact fin u v a1 a3 a4 (.inl (by omega))
end
section
variable {prog : Program} {w : World} {A : Around} {E : Value → Shared → Prop} {s : Shared} {O : KeyOrd} {key : Keyed → O.α} {D : Keyed → Prop} {κ : SortKind}
/-- comparisons answer by keys, and leave all as it was -/
def Cmps (prog : Program) (w : World) (A : Around) (s : Shared) (κ : SortKind) {O : KeyOrd} (key : Keyed → O.α) (D : Keyed → Prop) : Prop :=
  ∀ x y, D x → D y → ∀ C : Bool → Shared → Prop, C (O.blt (key x) (key y)) s → wpAny (model prog w) A (keyLt' κ x.1 y.1) C (fun _ _ => False) s
theorem lt_tells (hc : Cmps prog w A s κ key D) {st : SortSt} (hk : kindOf st = κ) {x y : Keyed} (hx : D x) (hy : D y) : Tells (model prog w) A E s st (lt' x y) (some (O.blt (key x) (key y))) := by
  intro Q h
  rw [lt'_eq]
  refine wpS_bind (wpS_get ?_)
  rw [hk]
  refine wpS_bind (wpS_lift (wpAny_attempt (wpAny_mono (hc x y hx hy (fun b s' => b = O.blt (key x) (key y) ∧ s' = s) ⟨rfl, rfl⟩) ?_ fun _ _ z => z.elim)))
  rintro b s' ⟨rfl, rfl⟩
  exact ⟨rfl, wpS_pure h⟩
theorem elem_tells {st : SortSt} {ar : Array Keyed} {i : Nat} (hi : i < ar.size) : Tells (model prog w) A E s st (elem' ar i) ar[i] := by
  intro Q h
  rw [elem'_eq, getElem?_pos ar i hi]
  exact wpS_pure h
theorem gal_wp {left : Bool} {k0 : Keyed} {ar : Array Keyed} {bs n h : Nat} {st : SortSt} (hc : Cmps prog w A s κ key D) (hk : kindOf st = κ) (h0 : D k0) (hD : ∀ x ∈ ar.toList, D x) (hb : bs + n ≤ ar.size) (hh : h < n)
    (hs : ∀ i j (hi : i < ar.size) (hj : j < ar.size), bs ≤ i → i ≤ j → j < bs + n → O.kle (key ar[i]) (key ar[j])) {Q : Option Nat → SortSt → Prop}
    (hQ : ∀ k, k ≤ n → (∀ i (hi : i < ar.size), bs ≤ i → i < bs + k → if left = true then O.klt (key ar[i]) (key k0) else O.kle (key ar[i]) (key k0)) →
      (∀ i (hi : i < ar.size), bs + k ≤ i → i < bs + n → if left = true then O.kle (key k0) (key ar[i]) else O.klt (key k0) (key ar[i])) → Q (some k) st) : wpS (model prog w) A E s (gal left k0 ar bs n h) Q st := by
  rw [gal_eq]
  have hD' : ∀ i (hi : i < ar.size), D ar[i] := fun i hi => hD _ (by simp)
  refine galB_wp (P := fun i => if h : bs + i < ar.size then (if left = true then O.blt (key ar[bs + i]) (key k0) else !O.blt (key k0) (key ar[bs + i])) else false) ?_ hh ?_ ?_
  · intro i hi Q h
    rw [dif_pos (by omega)] at h
    refine wpS_bind (elem_tells (by omega) _ ?_)
    cases left with
    | true =>
      rw [if_pos rfl] at h ⊢
      exact lt_tells hc hk (hD' _ (by omega)) h0 _ h
    | false =>
      rw [if_neg (by decide)] at h ⊢
      exact wpS_bind (lt_tells hc hk h0 (hD' _ (by omega)) _ (wpS_pure h))
  · intro i j hij hj h
    rw [dif_pos (by omega)] at h ⊢
    have hle := hs (bs + i) (bs + j) (by omega) (by omega) (by omega) (by omega) (by omega)
    cases left with
    | true =>
      rw [if_pos rfl] at h ⊢
      exact KeyOrd.klt_of_kle_of_klt hle h
    | false =>
      rw [if_neg (by decide)] at h ⊢
      have h' : O.kle (key ar[bs + j]) (key k0) := by simpa [KeyOrd.kle] using h
      have : O.kle (key ar[bs + i]) (key k0) := KeyOrd.kle_trans hle h'
      simpa [KeyOrd.kle] using this
  · intro k hk h1 h2
    refine hQ k hk (fun i hi a1 a2 => ?_) (fun i hi a1 a2 => ?_)
    · have := h1 (i - bs) (by omega)
      have ei : bs + (i - bs) = i := by omega
      simp only [ei] at this
      rw [dif_pos hi] at this
      cases left with
      | true => rw [if_pos rfl] at this ⊢; exact this
      | false => rw [if_neg (by decide)] at this ⊢; simpa [KeyOrd.kle] using this
    · have := h2 (i - bs) (by omega) (by omega)
      have ei : bs + (i - bs) = i := by omega
      simp only [ei] at this
      rw [dif_pos hi] at this
      cases left with
      | true => rw [if_pos rfl] at this ⊢; exact this
      | false => rw [if_neg (by decide)] at this ⊢; simpa [KeyOrd.klt] using this
end
end L2

namespace L2
open PySem PyProof.Rows
theorem mLo_eq (a b : Array Keyed) : mLo a b = (do
  rule "list.sort.merge-lo"
  let all := a.size + b.size
  let dn (o : Array Keyed) (i j : Nat) := o ++ a.extract i a.size ++ b.extract j b.size
  let la (o : Array Keyed) (i j : Nat) := o ++ b.extract j b.size ++ a.extract i a.size
  let mut o : Array Keyed := #[← elem' b 0]
  let mut i := 0
  let mut j := 1
  if j == b.size then return dn o i j
  if i + 1 == a.size then return la o i j
  let mut mg := gallopOf (← get)
  for _ in [0:all] do
    let mut ac := 0
    let mut bc := 0
    for _ in [0:all] do
      let some bw ← lt' (← elem' b j) (← elem' a i) | return dn o i j
      if bw then
        o := o.push (← elem' b j); j := j + 1; bc := bc + 1; ac := 0
        if j == b.size then return dn o i j
        if bc ≥ mg then break
      else
        o := o.push (← elem' a i); i := i + 1; ac := ac + 1; bc := 0
        if i + 1 == a.size then return la o i j
        if ac ≥ mg then break
    rule "list.sort.gallop"
    mg := mg + 1
    for _ in [0:all] do
      if mg > 1 then mg := mg - 1
      setMG mg
      let some k ← gal false (← elem' b j) a i (a.size - i) 0 | return dn o i j
      ac := k
      if k > 0 then
        o := o ++ a.extract i (i + k); i := i + k
        if i + 1 == a.size then return la o i j
        if i == a.size then return dn o i j
      o := o.push (← elem' b j); j := j + 1
      if j == b.size then return dn o i j
      let some k ← gal true (← elem' a i) b j (b.size - j) 0 | return dn o i j
      bc := k
      if k > 0 then
        o := o ++ b.extract j (j + k); j := j + k
        if j == b.size then return dn o i j
      o := o.push (← elem' a i); i := i + 1
      if i + 1 == a.size then return la o i j
      if ac < 7 && bc < 7 then break
    mg := mg + 1
    setMG mg
  unsupported "internal:list.sort.merge-bound") := rfl
theorem mem_drop' {l : Array Keyed} {i : Nat} {x : Keyed} (h : x ∈ l.toList.drop i) : ∃ k, ∃ hk : k < l.size, i ≤ k ∧ x = l[k] := by
  obtain ⟨k, hk, e⟩ := List.getElem_of_mem h
  rw [List.length_drop, Array.length_toList] at hk
  refine ⟨i + k, by omega, by omega, ?_⟩
  rw [← e, List.getElem_drop]; rfl
theorem mem_dt {l : Array Keyed} {i n : Nat} {x : Keyed} (h : x ∈ (l.toList.drop i).take n) : ∃ k, ∃ hk : k < l.size, i ≤ k ∧ k < i + n ∧ x = l[k] := by
  obtain ⟨k, hk, e⟩ := List.getElem_of_mem h
  rw [List.length_take, List.length_drop, Array.length_toList] at hk
  refine ⟨i + k, by omega, by omega, by omega, ?_⟩
  rw [← e, List.getElem_take, List.getElem_drop]; rfl
theorem mem_take' {l : Array Keyed} {n : Nat} {x : Keyed} (h : x ∈ l.toList.take n) : ∃ k, ∃ hk : k < l.size, k < n ∧ x = l[k] := by
  obtain ⟨k, hk, e⟩ := List.getElem_of_mem h
  rw [List.length_take, Array.length_toList] at hk
  refine ⟨k, by omega, by omega, ?_⟩
  rw [← e, List.getElem_take]; rfl
theorem drop_cons {l : Array Keyed} {i : Nat} (hi : i < l.size) : l.toList.drop i = l[i] :: l.toList.drop (i + 1) := by
  rw [List.drop_eq_getElem_cons (by simpa using hi)]; rfl
theorem take_cons {l : Array Keyed} {i : Nat} (hi : i < l.size) : (l.toList.take (i + 1)).reverse = l[i] :: (l.toList.take i).reverse := by
  rw [List.take_succ_eq_append_getElem (by simpa using hi), List.reverse_append]; rfl
theorem ext_list (l : Array Keyed) (i j : Nat) : (l.extract i j).toList = (l.toList.drop i).take (j - i) := by
  rw [Array.toList_extract]
theorem ext_all (l : Array Keyed) (i : Nat) : (l.extract i l.size).toList = l.toList.drop i := by
  rw [ext_list, List.take_of_length_le]
  rw [List.length_drop, Array.length_toList]; exact Nat.le_refl _
def Upw (O : KeyOrd) (key : Keyed → O.α) (x y : Keyed) : Prop := O.kle (key x) (key y)
theorem up_at {O : KeyOrd} {key : Keyed → O.α} {l : Array Keyed} (h : l.toList.Pairwise (Upw O key)) (i j : Nat) (hi : i < l.size) (hj : j < l.size) (hij : i ≤ j) : O.kle (key l[i]) (key l[j]) := by
  by_cases e : i = j
  · subst e; exact KeyOrd.kle_refl _
  · exact (List.pairwise_iff_getElem.mp h) i j (by simpa using hi) (by simpa using hj) (by omega)
/-- but for the gallop's least all stays -/
def SameS (st st' : SortSt) : Prop := kindOf st' = kindOf st ∧ arrOf st' = arrOf st ∧ pendingOf st' = pendingOf st ∧ failedOf st' = failedOf st
theorem SameS.refl (st : SortSt) : SameS st st := ⟨rfl, rfl, rfl, rfl⟩
theorem SameS.trans {s1 s2 s3 : SortSt} (h1 : SameS s1 s2) (h2 : SameS s2 s3) : SameS s1 s3 :=
  ⟨h2.1.trans h1.1, h2.2.1.trans h1.2.1, h2.2.2.1.trans h1.2.2.1, h2.2.2.2.trans h1.2.2.2⟩
theorem setMG_wp {M : Model} {A : Around} {E : Value → Shared → Prop} {s : Shared} {st : SortSt} {g : Nat} {Q : Unit → SortSt → Prop} (h : ∀ st', SameS st st' → Q () st') : wpS M A E s (setMG g) Q st := by
  show wpS M A E s (modify fun s => SortSt.mk' (kindOf s) (arrOf s) (pendingOf s) g (failedOf s)) Q st
  exact wpS_modify (h _ ⟨rfl, rfl, rfl, rfl⟩)
section lo
variable {prog : Program} {w : World} {A : Around} {E : Value → Shared → Prop} {s : Shared} {O : KeyOrd} {key : Keyed → O.α} {D : Keyed → Prop} {κ : SortKind} {a b : Array Keyed}
structure MPre (O : KeyOrd) (key : Keyed → O.α) (D : Keyed → Prop) (a b : Array Keyed) : Prop where
  ua : a.toList.Pairwise (Upw O key)
  ub : b.toList.Pairwise (Upw O key)
  da : ∀ x ∈ a.toList, D x
  db : ∀ x ∈ b.toList, D x
  na : 1 ≤ a.size
  nb : 1 ≤ b.size
  first : ∀ (h1 : 0 < a.size) (h2 : 0 < b.size), O.kle (key b[0]) (key a[0])
  last : ∀ (h1 : a.size - 1 < a.size) (h2 : b.size - 1 < b.size), O.kle (key b[b.size - 1]) (key a[a.size - 1])
theorem MPre.dA (h : MPre O key D a b) (i : Nat) (hi : i < a.size) : D a[i] := h.da _ (by simp)
theorem MPre.dB (h : MPre O key D a b) (i : Nat) (hi : i < b.size) : D b[i] := h.db _ (by simp)
abbrev GI (O : KeyOrd) (key : Keyed → O.α) (a b o : Array Keyed) (i j : Nat) : Prop := MI (Upw O key) (a.toList ++ b.toList) o.toList (a.toList.drop i) (b.toList.drop j)
theorem GI.size {o : Array Keyed} {i j : Nat} (h : GI O key a b o i j) (hi : i ≤ a.size) (hj : j ≤ b.size) : o.size = i + j := by
  have := h.perm.length_eq
  simp only [List.length_append, List.length_drop, Array.length_toList] at this
  omega
def GF (O : KeyOrd) (key : Keyed → O.α) (a b r : Array Keyed) : Prop := MD (Upw O key) (a.toList ++ b.toList) r.toList
/-- between two turns -/
structure Go (O : KeyOrd) (key : Keyed → O.α) (a b o : Array Keyed) (i j : Nat) : Prop where
  gi : GI O key a b o i j
  hi : i + 1 < a.size
  hj : j < b.size
theorem GI.pushA {o : Array Keyed} {i j : Nat} (g : GI O key a b o i j) (hi : i < a.size) (h : ∀ k (hk : k < b.size), j ≤ k → O.kle (key a[i]) (key b[k])) : GI O key a b (o.push a[i]) (i + 1) j := by
  unfold GI at g ⊢
  rw [drop_cons hi] at g
  rw [Array.toList_push]
  refine g.left fun y hy => ?_
  obtain ⟨k, hk, h1, rfl⟩ := mem_drop' hy
  exact h k hk h1
theorem GI.pushB {o : Array Keyed} {i j : Nat} (g : GI O key a b o i j) (hj : j < b.size) (h : ∀ k (hk : k < a.size), i ≤ k → O.kle (key b[j]) (key a[k])) : GI O key a b (o.push b[j]) i (j + 1) := by
  unfold GI at g ⊢
  rw [drop_cons hj] at g
  rw [Array.toList_push]
  refine g.right fun y hy => ?_
  obtain ⟨k, hk, h1, rfl⟩ := mem_drop' hy
  exact h k hk h1
theorem GI.blockA {o : Array Keyed} {i j n : Nat} (g : GI O key a b o i j) (h : ∀ u (hu : u < a.size) k (hk : k < b.size), i ≤ u → u < i + n → j ≤ k → O.kle (key a[u]) (key b[k])) : GI O key a b (o ++ a.extract i (i + n)) (i + n) j := by
  unfold GI at g ⊢
  rw [take_drop3 a.toList (Nat.le_add_right i n)] at g
  rw [Array.toList_append, ext_list]
  refine g.lefts fun x hx y hy => ?_
  obtain ⟨u, hu, u1, u2, rfl⟩ := mem_dt hx
  obtain ⟨k, hk, h1, rfl⟩ := mem_drop' hy
  exact h u hu k hk u1 (by omega) h1
theorem GI.blockB {o : Array Keyed} {i j n : Nat} (g : GI O key a b o i j) (h : ∀ u (hu : u < b.size) k (hk : k < a.size), j ≤ u → u < j + n → i ≤ k → O.kle (key b[u]) (key a[k])) : GI O key a b (o ++ b.extract j (j + n)) i (j + n) := by
  unfold GI at g ⊢
  rw [take_drop3 b.toList (Nat.le_add_right j n)] at g
  rw [Array.toList_append, ext_list]
  refine g.rights fun x hx y hy => ?_
  obtain ⟨u, hu, u1, u2, rfl⟩ := mem_dt hx
  obtain ⟨k, hk, h1, rfl⟩ := mem_drop' hy
  exact h u hu k hk u1 (by omega) h1
theorem GI.endB {o : Array Keyed} {i j : Nat} (g : GI O key a b o i j) (hj : j = b.size) : GF O key a b (o ++ a.extract i a.size ++ b.extract j b.size) := by
  unfold GI at g
  unfold GF
  rw [Array.toList_append, Array.toList_append, ext_all, ext_all]
  rw [show b.toList.drop j = [] by rw [List.drop_eq_nil_iff, Array.length_toList]; omega] at g ⊢
  rw [List.append_nil]
  exact g.doneA
theorem GI.endA {o : Array Keyed} {i j : Nat} (g : GI O key a b o i j) (hi : i = a.size) : GF O key a b (o ++ a.extract i a.size ++ b.extract j b.size) := by
  unfold GI at g
  unfold GF
  rw [Array.toList_append, Array.toList_append, ext_all, ext_all]
  rw [show a.toList.drop i = [] by rw [List.drop_eq_nil_iff, Array.length_toList]; omega] at g ⊢
  rw [List.append_nil]
  exact g.doneB
theorem GI.lastA {o : Array Keyed} {i j : Nat} (hp : MPre O key D a b) (g : GI O key a b o i j) (hi : i + 1 = a.size) : GF O key a b (o ++ b.extract j b.size ++ a.extract i a.size) := by
  unfold GI at g
  unfold GF
  rw [Array.toList_append, Array.toList_append, ext_all, ext_all, List.append_assoc]
  refine g.last fun y hy x hx => ?_
  obtain ⟨u, hu, u1, rfl⟩ := mem_drop' hx
  obtain ⟨k, hk, k1, rfl⟩ := mem_drop' hy
  have e := hp.last (by omega) (by omega)
  have eu : u = a.size - 1 := by omega
  subst eu
  exact KeyOrd.kle_trans (up_at hp.ub k (b.size - 1) hk (by omega) (by omega)) e
abbrev LC := Option (Array Keyed) × Array Keyed × Nat × Nat × Nat × Nat × Nat
/-- the tail of a gallop's turn -/
def loT1 (a b o : Array Keyed) (i j mg k k1 : Nat) : StateT SortSt Sem (ForInStep LC) :=
  elem' a i >>= fun x =>
  if (i + 1 + 1 == a.size) = true then pure (.done (some (o.push x ++ b.extract j ++ a.extract (i + 1)), o.push x, i + 1, j, mg, k, k1))
  else if (decide (k < 7) && decide (k1 < 7)) = true then pure (.done (none, o.push x, i + 1, j, mg, k, k1))
  else pure (.yield (none, o.push x, i + 1, j, mg, k, k1))
def loT2 (a b o : Array Keyed) (i j mg k c : Nat) : StateT SortSt Sem (ForInStep LC) :=
  elem' b j >>= fun x =>
  if (j + 1 == b.size) = true then pure (.done (some (o.push x ++ a.extract i ++ b.extract (j + 1)), o.push x, i, j + 1, mg, k, c))
  else elem' a i >>= fun y => gal true y b (j + 1) (b.size - (j + 1)) 0 >>= fun r =>
    match r with
    | some k1 => (if k1 > 0 then
        (if (j + 1 + k1 == b.size) = true then pure (.done (some (o.push x ++ b.extract (j + 1) (j + 1 + k1) ++ a.extract i ++ b.extract (j + 1 + k1)), o.push x ++ b.extract (j + 1) (j + 1 + k1), i, j + 1 + k1, mg, k, k1))
        else loT1 a b (o.push x ++ b.extract (j + 1) (j + 1 + k1)) i (j + 1 + k1) mg k k1)
      else loT1 a b (o.push x) i (j + 1) mg k k1)
    | _ => pure (.done (some (o.push x ++ a.extract i ++ b.extract (j + 1)), o.push x, i, j + 1, mg, k, c))
def loT3 (a b o : Array Keyed) (i j mg c d : Nat) : StateT SortSt Sem (ForInStep LC) :=
  setMG mg >>= fun _ => elem' b j >>= fun x => gal false x a i (a.size - i) 0 >>= fun r =>
  match r with
  | some k => (if k > 0 then
      (if (i + k + 1 == a.size) = true then pure (.done (some (o ++ a.extract i (i + k) ++ b.extract j ++ a.extract (i + k)), o ++ a.extract i (i + k), i + k, j, mg, k, d))
      else if (i + k == a.size) = true then pure (.done (some (o ++ a.extract i (i + k) ++ a.extract (i + k) ++ b.extract j), o ++ a.extract i (i + k), i + k, j, mg, k, d))
      else loT2 a b (o ++ a.extract i (i + k)) (i + k) j mg k d)
    else loT2 a b o i j mg k d)
  | _ => pure (.done (some (o ++ a.extract i ++ b.extract j), o, i, j, mg, c, d))
/-- what a gallop's turn leaves: an end, or more than there was -/
def LOut (O : KeyOrd) (key : Keyed → O.α) (a b : Array Keyed) (m : Nat) (r : ForInStep LC) : Prop := match r with
  | .done c => (∃ x, c.1 = some x ∧ GF O key a b x) ∨ (c.1 = none ∧ Go O key a b c.2.1 c.2.2.1 c.2.2.2.1 ∧ m < c.2.1.size)
  | .yield c => c.1 = none ∧ Go O key a b c.2.1 c.2.2.1 c.2.2.2.1 ∧ m < c.2.1.size
theorem loT1_wp {o : Array Keyed} {i j mg k k1 m : Nat} {st : SortSt} (hp : MPre O key D a b) (g : Go O key a b o i j) (hm : m ≤ o.size) (hx : ∀ (hi : i < a.size) k (hk : k < b.size), j ≤ k → O.kle (key a[i]) (key b[k]))
    {Q : ForInStep LC → SortSt → Prop} (hQ : ∀ r, LOut O key a b m r → Q r st) : wpS (model prog w) A E s (loT1 a b o i j mg k k1) Q st := by
  obtain ⟨gi, hi, hj⟩ := g
  unfold loT1
  refine wpS_bind (elem_tells (show i < a.size by omega) _ ?_)
  have g1 := gi.pushA (by omega) (hx (by omega))
  have hz : (o.push (a[i]'(by omega))).size = o.size + 1 := Array.size_push ..
  by_cases e1 : i + 1 + 1 = a.size
  · rw [if_pos (by simpa using e1)]
    exact wpS_pure (hQ _ (.inl ⟨_, rfl, g1.lastA hp e1⟩))
  · rw [if_neg (by simpa using e1)]
    have g2 : Go O key a b (o.push (a[i]'(by omega))) (i + 1) j := ⟨g1, by omega, hj⟩
    split
    · exact wpS_pure (hQ _ (.inr ⟨rfl, g2, by show m < (o.push _).size; omega⟩))
    · exact wpS_pure (hQ _ ⟨rfl, g2, by show m < (o.push _).size; omega⟩)
theorem loT2_wp {o : Array Keyed} {i j mg k c m : Nat} {st : SortSt} (hc : Cmps prog w A s κ key D) (hk : kindOf st = κ) (hp : MPre O key D a b) (g : Go O key a b o i j) (hm : m ≤ o.size) (hx : ∀ (hj : j < b.size) k (hk : k < a.size), i ≤ k → O.kle (key b[j]) (key a[k]))
    {Q : ForInStep LC → SortSt → Prop} (hQ : ∀ r, LOut O key a b m r → Q r st) : wpS (model prog w) A E s (loT2 a b o i j mg k c) Q st := by
  obtain ⟨gi, hi, hj⟩ := g
  unfold loT2
  refine wpS_bind (elem_tells (show j < b.size by omega) _ ?_)
  have g1 := gi.pushB hj (hx hj)
  have hz : (o.push (b[j]'(by omega))).size = o.size + 1 := Array.size_push ..
  by_cases e1 : j + 1 = b.size
  · rw [if_pos (by simpa using e1)]
    exact wpS_pure (hQ _ (.inl ⟨_, rfl, g1.endB e1⟩))
  · rw [if_neg (by simpa using e1)]
    refine wpS_bind (elem_tells (show i < a.size by omega) _ ?_)
    refine wpS_bind (gal_wp hc hk (hp.dA i (by omega)) hp.db (by omega) (by omega) (fun u v hu hv _ h2 _ => up_at hp.ub u v hu hv h2) fun k1 hk1 h1 h2 => ?_)
    simp only [if_true] at h1 h2
    dsimp only
    by_cases hk0 : k1 > 0
    · rw [if_pos hk0]
      have g3 := g1.blockB (n := k1) fun u hu v hv a1 a2 a3 => KeyOrd.kle_trans (KeyOrd.kle_of_klt (h1 u hu a1 a2)) (up_at hp.ua i v (by omega) hv a3)
      by_cases e2 : j + 1 + k1 = b.size
      · rw [if_pos (by simpa using e2)]
        exact wpS_pure (hQ _ (.inl ⟨_, rfl, g3.endB e2⟩))
      · rw [if_neg (by simpa using e2)]
        refine loT1_wp hp ⟨g3, hi, by omega⟩ ?_ (fun hi v hv a1 => h2 v hv a1 (by omega)) hQ
        rw [Array.size_append]; omega
    · rw [if_neg hk0]
      obtain rfl : k1 = 0 := by omega
      exact loT1_wp hp ⟨g1, hi, by omega⟩ (by omega) (fun hi v hv a1 => h2 v hv (by omega) (by omega)) hQ
theorem loT3_wp {o : Array Keyed} {i j mg c d m : Nat} {st : SortSt} (hc : Cmps prog w A s κ key D) (hk : kindOf st = κ) (hp : MPre O key D a b) (g : Go O key a b o i j) (hm : m ≤ o.size)
    {Q : ForInStep LC → SortSt → Prop} (hQ : ∀ r st', SameS st st' → LOut O key a b m r → Q r st') : wpS (model prog w) A E s (loT3 a b o i j mg c d) Q st := by
  obtain ⟨gi, hi, hj⟩ := g
  unfold loT3
  refine wpS_bind (setMG_wp fun st' hs => ?_)
  have hk' : kindOf st' = κ := hs.1.trans hk
  refine wpS_bind (elem_tells (show j < b.size by omega) _ ?_)
  refine wpS_bind (gal_wp hc hk' (hp.dB j hj) hp.da (by omega) (by omega) (fun u v hu hv _ h2 _ => up_at hp.ua u v hu hv h2) fun k hk1 h1 h2 => ?_)
  simp only [Bool.false_eq_true, if_false] at h1 h2
  dsimp only
  have hx : ∀ (hj : j < b.size) v (hv : v < a.size), i + k ≤ v → O.kle (key b[j]) (key a[v]) := fun hj v hv a1 => KeyOrd.kle_of_klt (h2 v hv a1 (by omega))
  by_cases hk0 : k > 0
  · rw [if_pos hk0]
    have g3 := gi.blockA (n := k) fun u hu v hv a1 a2 a3 => KeyOrd.kle_trans (h1 u hu a1 a2) (up_at hp.ub j v (by omega) hv a3)
    by_cases e1 : i + k + 1 = a.size
    · rw [if_pos (by simpa using e1)]
      exact wpS_pure (hQ _ _ hs (.inl ⟨_, rfl, g3.lastA hp e1⟩))
    · rw [if_neg (by simpa using e1)]
      by_cases e2 : i + k = a.size
      · rw [if_pos (by simpa using e2)]
        exact wpS_pure (hQ _ _ hs (.inl ⟨_, rfl, g3.endA e2⟩))
      · rw [if_neg (by simpa using e2)]
        refine loT2_wp hc hk' hp ⟨g3, by omega, hj⟩ ?_ hx fun r hr => hQ r _ hs hr
        rw [Array.size_append]; omega
  · rw [if_neg hk0]
    obtain rfl : k = 0 := by omega
    exact loT2_wp hc hk' hp ⟨gi, hi, hj⟩ hm hx fun r hr => hQ r _ hs hr
set_option smartUnfolding false in
theorem mLo_wp {st : SortSt} (hc : Cmps prog w A s κ key D) (hk : kindOf st = κ) (hp : MPre O key D a b) {Q : Array Keyed → SortSt → Prop} (hQ : ∀ r st', SameS st st' → GF O key a b r → Q r st') : wpS (model prog w) A E s (mLo a b) Q st := by
  rw [mLo_eq]
  refine wpS_bind (wpS_lift (wpAny_rule ⟨rfl, ?_⟩))
  have hna := hp.na
  have hnb := hp.nb
  refine wpS_bind (elem_tells (show 0 < b.size by omega) _ ?_)
  have g0 : GI O key a b #[] 0 0 := ⟨by simp, .nil, (fun _ z => nomatch z), (fun _ z => nomatch z), hp.ua, hp.ub⟩
  have g1 : GI O key a b #[b[0]'(by omega)] 0 1 := g0.pushB (by omega) fun k hk _ => KeyOrd.kle_trans (hp.first (by omega) (by omega)) (up_at hp.ua 0 k (by omega) hk (by omega))
  by_cases e1 : 1 = b.size
  · dsimp only
    rw [if_pos (by simpa using e1)]
    exact wpS_pure (hQ _ _ (.refl _) (g1.endB e1))
  · by_cases e2 : 0 + 1 = a.size
    · dsimp only
      rw [if_neg (by simpa using e1), if_pos (by simpa using e2)]
      exact wpS_pure (hQ _ _ (.refl _) (g1.lastA hp e2))
    · dsimp only
      rw [if_neg (by simpa using e1), if_neg (by simpa using e2)]
      refine wpS_bind (wpS_get ?_)
      refine wpS_bind (wpS_mono (wpS_forRange (a := 0)
        (I := fun x c st' => SameS st st' ∧ c.1 = none ∧ Go O key a b c.2.1 c.2.2.1 c.2.2.2.1 ∧ x < c.2.1.size)
        (Q := fun c st' => SameS st st' ∧ ∃ r, c.1 = some r ∧ GF O key a b r) ?step ?fin ?init) ?post)
      case init => exact ⟨.refl _, rfl, ⟨g1, by show 0 + 1 < a.size; omega, by show 1 < b.size; omega⟩, by show 0 < 1; omega⟩
      case fin =>
        rintro ⟨_, o, i, j, mg⟩ st' ⟨hs, rfl, g, hx⟩
        have := g.gi.size (by have := g.hi; omega) (by have := g.hj; omega)
        have := g.hi; have := g.hj
        dsimp only at *
        omega
      case post =>
        rintro ⟨_, o, i, j, mg⟩ st' ⟨hs, r, rfl, hr⟩
        exact wpS_pure (hQ _ _ hs hr)
      case step =>
        rintro x ⟨_, o, i, j, mg⟩ st' _ hx ⟨hs, rfl, g, hxo⟩
        have hk' : kindOf st' = κ := hs.1.trans hk
        dsimp only at g hxo ⊢
        refine wpS_bind (wpS_mono (wpS_loop (st := st')
          (I := fun t c => c.1 = none ∧ Go O key a b c.2.1 c.2.2.1 c.2.2.2.1 ∧ o.size + min t 1 ≤ c.2.1.size)
          (Q := fun c st'' => st'' = st' ∧ ((∃ r, c.1 = some r ∧ GF O key a b r) ∨ (c.1 = none ∧ Go O key a b c.2.1 c.2.2.1 c.2.2.2.1 ∧ o.size < c.2.1.size))) ?s1 ?e1 ?i1) ?p1)
        case i1 => exact ⟨rfl, g, by show o.size + min 0 1 ≤ o.size; omega⟩
        case e1 =>
          rintro ⟨_, o', i', j', c', d'⟩ ⟨rfl, g', h'⟩
          exact ⟨rfl, .inr ⟨rfl, g', by dsimp only at h' ⊢; omega⟩⟩
        case s1 =>
          rintro t ⟨_, o', i', j', c', d'⟩ ht ⟨rfl, g', h'⟩
          obtain ⟨gi, hi, hj⟩ := g'
          dsimp only at gi hi hj h' ⊢
          refine wpS_bind (elem_tells hj _ (wpS_bind (elem_tells (show i' < a.size by omega) _ (wpS_bind (lt_tells hc hk' (hp.dB _ hj) (hp.dA _ (by omega)) _ ?_)))))
          dsimp only
          cases e : O.blt (key (b[j']'hj)) (key (a[i']'(by omega))) with
          | true =>
            rw [if_pos rfl]
            refine wpS_bind (elem_tells hj _ ?_)
            have g2 := gi.pushB hj fun k hk h1 => KeyOrd.kle_trans (KeyOrd.kle_of_klt e) (up_at hp.ua i' k (by omega) hk h1)
            have hz : (o'.push (b[j']'hj)).size = o'.size + 1 := Array.size_push ..
            by_cases e3 : j' + 1 = b.size
            · rw [if_pos (by simpa using e3)]
              exact wpS_pure ⟨rfl, rfl, .inl ⟨_, rfl, g2.endB e3⟩⟩
            · rw [if_neg (by simpa using e3)]
              have g3 : Go O key a b (o'.push (b[j']'hj)) i' (j' + 1) := ⟨g2, hi, by omega⟩
              split
              · exact wpS_pure ⟨rfl, rfl, .inr ⟨rfl, g3, by show o.size < (o'.push _).size; omega⟩⟩
              · exact wpS_pure ⟨rfl, rfl, g3, by show o.size + min (t + 1) 1 ≤ (o'.push _).size; omega⟩
          | false =>
            rw [if_neg (by decide)]
            refine wpS_bind (elem_tells (show i' < a.size by omega) _ ?_)
            have g2 := gi.pushA (by omega) fun k hk h1 => KeyOrd.kle_trans (show O.kle (key (a[i']'(by omega))) (key (b[j']'hj)) from e) (up_at hp.ub j' k hj hk h1)
            have hz : (o'.push (a[i']'(by omega))).size = o'.size + 1 := Array.size_push ..
            by_cases e3 : i' + 1 + 1 = a.size
            · rw [if_pos (by simpa using e3)]
              exact wpS_pure ⟨rfl, rfl, .inl ⟨_, rfl, g2.lastA hp e3⟩⟩
            · rw [if_neg (by simpa using e3)]
              have g3 : Go O key a b (o'.push (a[i']'(by omega))) (i' + 1) j' := ⟨g2, by omega, hj⟩
              split
              · exact wpS_pure ⟨rfl, rfl, .inr ⟨rfl, g3, by show o.size < (o'.push _).size; omega⟩⟩
              · exact wpS_pure ⟨rfl, rfl, g3, by show o.size + min (t + 1) 1 ≤ (o'.push _).size; omega⟩
        case p1 =>
          rintro ⟨_, o1, i1, j1, c1, d1⟩ st'' ⟨rfl, ⟨r, rfl, hr⟩ | ⟨rfl, g1', h1'⟩⟩
          · exact wpS_pure ⟨hs, r, rfl, hr⟩
          · dsimp only at g1' h1' ⊢
            refine wpS_bind (wpS_lift (wpAny_rule ⟨rfl, ?_⟩))
            refine wpS_bind (wpS_mono (wpS_forRange (a := 0)
              (I := fun t c st' => SameS st st' ∧ c.1 = none ∧ Go O key a b c.2.1 c.2.2.1 c.2.2.2.1 ∧ o.size < c.2.1.size)
              (Q := fun c st' => SameS st st' ∧ ((∃ r, c.1 = some r ∧ GF O key a b r) ∨ (c.1 = none ∧ Go O key a b c.2.1 c.2.2.1 c.2.2.2.1 ∧ o.size < c.2.1.size))) ?s2 ?e2 ?i2) ?p2)
            case i2 => exact ⟨hs, rfl, g1', h1'⟩
            case e2 => exact fun c st' h => ⟨h.1, .inr h.2⟩
            case p2 =>
              rintro ⟨_, o2, i2, j2, mg2, c2, d2⟩ st3 ⟨hs3, ⟨r, rfl, hr⟩ | ⟨rfl, g2', h2'⟩⟩
              · exact wpS_pure ⟨hs3, r, rfl, hr⟩
              · dsimp only at g2' h2' ⊢
                refine wpS_bind (setMG_wp fun st4 hs4 => wpS_pure ⟨hs3.trans hs4, rfl, g2', by dsimp only; omega⟩)
            case s2 =>
              rintro t ⟨_, o2, i2, j2, mg2, c2, d2⟩ st3 _ ht ⟨hs3, rfl, g2', h2'⟩
              have hk3 : kindOf st3 = κ := hs3.1.trans hk
              dsimp only at g2' h2' ⊢
              have fin : ∀ mg, wpS (model prog w) A E s (loT3 a b o2 i2 j2 mg c2 d2) (fun r st' => match r with
                  | .done c' => SameS st st' ∧ ((∃ r, c'.1 = some r ∧ GF O key a b r) ∨ (c'.1 = none ∧ Go O key a b c'.2.1 c'.2.2.1 c'.2.2.2.1 ∧ o.size < c'.2.1.size))
                  | .yield c' => SameS st st' ∧ c'.1 = none ∧ Go O key a b c'.2.1 c'.2.2.1 c'.2.2.2.1 ∧ o.size < c'.2.1.size) st3 := fun mg =>
                loT3_wp (m := o.size) hc hk3 hp g2' (by omega) fun r st' hs' hr => by
                  cases r with
                  | done c' => exact ⟨hs3.trans hs', hr⟩
                  | yield c' => exact ⟨hs3.trans hs', hr⟩
              by_cases hmg : mg2 > 1
              · rw [if_pos hmg]
                exact fin _
              · rw [if_neg hmg]
                exact fin _
end lo
end L2

namespace L2
open PySem PyProof.Rows
theorem mHi_eq (a b : Array Keyed) : mHi a b = (do
  rule "list.sort.merge-hi"
  let all := a.size + b.size
  let dn (o : Array Keyed) (i j : Nat) := a.extract 0 i ++ b.extract 0 j ++ o.reverse
  let fb (o : Array Keyed) (i j : Nat) := b.extract 0 j ++ a.extract 0 i ++ o.reverse
  let mut i := a.size - 1
  let mut j := b.size
  let mut o : Array Keyed := #[← elem' a i]
  if i == 0 then return dn o i j
  if j == 1 then return fb o i j
  let mut mg := gallopOf (← get)
  for _ in [0:all] do
    let mut ac := 0
    let mut bc := 0
    for _ in [0:all] do
      let some aw ← lt' (← elem' b (j - 1)) (← elem' a (i - 1)) | return dn o i j
      if aw then
        i := i - 1; o := o.push (← elem' a i); ac := ac + 1; bc := 0
        if i == 0 then return dn o i j
        if ac ≥ mg then break
      else
        j := j - 1; o := o.push (← elem' b j); bc := bc + 1; ac := 0
        if j == 1 then return fb o i j
        if bc ≥ mg then break
    rule "list.sort.gallop"
    mg := mg + 1
    for _ in [0:all] do
      if mg > 1 then mg := mg - 1
      setMG mg
      let some p ← gal false (← elem' b (j - 1)) a 0 i (i - 1) | return dn o i j
      let k := i - p
      ac := k
      if k > 0 then
        o := o ++ (a.extract p i).reverse; i := p
        if i == 0 then return dn o i j
      j := j - 1; o := o.push (← elem' b j)
      if j == 1 then return fb o i j
      let some p ← gal true (← elem' a (i - 1)) b 0 j (j - 1) | return dn o i j
      let k := j - p
      bc := k
      if k > 0 then
        o := o ++ (b.extract p j).reverse; j := p
        if j == 1 then return fb o i j
        if j == 0 then return dn o i j
      i := i - 1; o := o.push (← elem' a i)
      if i == 0 then return dn o i j
      if ac < 7 && bc < 7 then break
    mg := mg + 1
    setMG mg
  unsupported "internal:list.sort.merge-bound") := rfl
theorem mem_rev_dt {l : Array Keyed} {i n : Nat} {x : Keyed} (h : x ∈ (l.extract i n).toList.reverse) : ∃ k, ∃ hk : k < l.size, i ≤ k ∧ k < n ∧ x = l[k] := by
  rw [List.mem_reverse, ext_list] at h
  obtain ⟨k, hk, h1, h2, h3⟩ := mem_dt h
  exact ⟨k, hk, h1, by omega, h3⟩
theorem mem_rev_take {l : Array Keyed} {n : Nat} {x : Keyed} (h : x ∈ (l.toList.take n).reverse) : ∃ k, ∃ hk : k < l.size, k < n ∧ x = l[k] := mem_take' (List.mem_reverse.mp h)
theorem take_split {l : Array Keyed} {p i : Nat} (h : p ≤ i) : (l.toList.take i).reverse = (l.extract p i).toList.reverse ++ (l.toList.take p).reverse := by
  rw [← List.reverse_append, ext_list]
  congr 1
  have e := (List.take_append_drop p (l.toList.take i)).symm
  rw [List.take_take, Nat.min_eq_left h, List.drop_take] at e
  exact e
theorem ext_zero (l : Array Keyed) (i : Nat) : (l.extract 0 i).toList = l.toList.take i := by
  rw [ext_list]; rfl
section hi
variable {prog : Program} {w : World} {A : Around} {E : Value → Shared → Prop} {s : Shared} {O : KeyOrd} {key : Keyed → O.α} {D : Keyed → Prop} {κ : SortKind} {a b : Array Keyed}
def Dnw (O : KeyOrd) (key : Keyed → O.α) (x y : Keyed) : Prop := O.kle (key y) (key x)
abbrev HI (O : KeyOrd) (key : Keyed → O.α) (a b o : Array Keyed) (i j : Nat) : Prop := MI (Dnw O key) (a.toList ++ b.toList) o.toList (a.toList.take i).reverse (b.toList.take j).reverse
theorem HI.size {o : Array Keyed} {i j : Nat} (h : HI O key a b o i j) (hi : i ≤ a.size) (hj : j ≤ b.size) : o.size + i + j = a.size + b.size := by
  have := h.perm.length_eq
  simp only [List.length_append, List.length_reverse, List.length_take, Array.length_toList] at this
  omega
theorem MD.rev {R : Keyed → Keyed → Prop} {all l : List Keyed} (h : MD (fun x y => R y x) all l) : MD R all l.reverse := ⟨(List.reverse_perm l).trans h.1, by rw [List.pairwise_reverse]; exact h.2⟩
/-- between two turns -/
structure Ho (O : KeyOrd) (key : Keyed → O.α) (a b o : Array Keyed) (i j : Nat) : Prop where
  gi : HI O key a b o i j
  i0 : 0 < i
  hi : i ≤ a.size
  j0 : 1 < j
  hj : j ≤ b.size
theorem HI.pushA {o : Array Keyed} {i j : Nat} (g : HI O key a b o (i + 1) j) (hi : i < a.size) (h : ∀ k (hk : k < b.size), k < j → O.kle (key b[k]) (key a[i])) : HI O key a b (o.push a[i]) i j := by
  unfold HI at g ⊢
  rw [take_cons hi] at g
  rw [Array.toList_push]
  refine g.left fun y hy => ?_
  obtain ⟨k, hk, h1, rfl⟩ := mem_rev_take hy
  exact h k hk h1
theorem HI.pushB {o : Array Keyed} {i j : Nat} (g : HI O key a b o i (j + 1)) (hj : j < b.size) (h : ∀ k (hk : k < a.size), k < i → O.kle (key a[k]) (key b[j])) : HI O key a b (o.push b[j]) i j := by
  unfold HI at g ⊢
  rw [take_cons hj] at g
  rw [Array.toList_push]
  refine g.right fun y hy => ?_
  obtain ⟨k, hk, h1, rfl⟩ := mem_rev_take hy
  exact h k hk h1
theorem HI.blockA {o : Array Keyed} {i j p : Nat} (g : HI O key a b o i j) (hp : p ≤ i) (h : ∀ u (hu : u < a.size) k (hk : k < b.size), p ≤ u → u < i → k < j → O.kle (key b[k]) (key a[u])) : HI O key a b (o ++ (a.extract p i).reverse) p j := by
  unfold HI at g ⊢
  rw [take_split hp] at g
  rw [Array.toList_append, Array.toList_reverse]
  refine g.lefts fun x hx y hy => ?_
  obtain ⟨u, hu, u1, u2, rfl⟩ := mem_rev_dt hx
  obtain ⟨k, hk, h1, rfl⟩ := mem_rev_take hy
  exact h u hu k hk u1 (by omega) h1
theorem HI.blockB {o : Array Keyed} {i j p : Nat} (g : HI O key a b o i j) (hp : p ≤ j) (h : ∀ u (hu : u < b.size) k (hk : k < a.size), p ≤ u → u < j → k < i → O.kle (key a[k]) (key b[u])) : HI O key a b (o ++ (b.extract p j).reverse) i p := by
  unfold HI at g ⊢
  rw [take_split hp] at g
  rw [Array.toList_append, Array.toList_reverse]
  refine g.rights fun x hx y hy => ?_
  obtain ⟨u, hu, u1, u2, rfl⟩ := mem_rev_dt hx
  obtain ⟨k, hk, h1, rfl⟩ := mem_rev_take hy
  exact h u hu k hk u1 (by omega) h1
theorem HI.endA {o : Array Keyed} {i j : Nat} (g : HI O key a b o i j) (hi : i = 0) : GF O key a b (a.extract 0 i ++ b.extract 0 j ++ o.reverse) := by
  subst hi
  unfold HI at g
  unfold GF
  rw [Array.toList_append, Array.toList_append, Array.toList_reverse, ext_zero, ext_zero]
  rw [List.take_zero, List.reverse_nil] at g
  have := (g.doneB).rev
  rw [List.reverse_append, List.reverse_reverse] at this
  rw [List.take_zero, List.nil_append]
  exact this
theorem HI.endB {o : Array Keyed} {i j : Nat} (g : HI O key a b o i j) (hj : j = 0) : GF O key a b (a.extract 0 i ++ b.extract 0 j ++ o.reverse) := by
  subst hj
  unfold HI at g
  unfold GF
  rw [Array.toList_append, Array.toList_append, Array.toList_reverse, ext_zero, ext_zero]
  rw [List.take_zero, List.reverse_nil] at g
  have := (g.doneA).rev
  rw [List.reverse_append, List.reverse_reverse] at this
  rw [List.take_zero, List.append_nil]
  exact this
theorem HI.lastB {o : Array Keyed} {i j : Nat} (hp : MPre O key D a b) (g : HI O key a b o i j) (hj : j = 1) : GF O key a b (b.extract 0 j ++ a.extract 0 i ++ o.reverse) := by
  subst hj
  unfold HI at g
  unfold GF
  have hnb := hp.nb
  rw [Array.toList_append, Array.toList_append, Array.toList_reverse, ext_zero, ext_zero]
  have := (g.flip.last fun y hy x hx => ?_).rev
  · rw [List.reverse_append, List.reverse_append, List.reverse_reverse, List.reverse_reverse] at this
    exact this
  · obtain ⟨u, hu, u1, rfl⟩ := mem_rev_take hx
    obtain ⟨k, hk, k1, rfl⟩ := mem_rev_take hy
    obtain rfl : u = 0 := by omega
    exact KeyOrd.kle_trans (hp.first (by omega) (by omega)) (up_at hp.ua 0 k (by omega) hk (by omega))
abbrev HC := Option (Array Keyed) × Nat × Nat × Array Keyed × Nat × Nat × Nat
def hiT1 (a b o : Array Keyed) (i j mg k k1 : Nat) : StateT SortSt Sem (ForInStep HC) :=
  elem' a (i - 1) >>= fun x =>
  if (i - 1 == 0) = true then pure (.done (some (a.extract 0 (i - 1) ++ b.extract 0 j ++ (o.push x).reverse), i - 1, j, o.push x, mg, k, k1))
  else if (decide (k < 7) && decide (k1 < 7)) = true then pure (.done (none, i - 1, j, o.push x, mg, k, k1))
  else pure (.yield (none, i - 1, j, o.push x, mg, k, k1))
def hiT2 (a b o : Array Keyed) (i j mg k c : Nat) : StateT SortSt Sem (ForInStep HC) :=
  elem' b (j - 1) >>= fun x =>
  if (j - 1 == 1) = true then pure (.done (some (b.extract 0 (j - 1) ++ a.extract 0 i ++ (o.push x).reverse), i, j - 1, o.push x, mg, k, c))
  else elem' a (i - 1) >>= fun y => gal true y b 0 (j - 1) (j - 1 - 1) >>= fun r =>
    match r with
    | some p => (if j - 1 - p > 0 then
        (if (p == 1) = true then pure (.done (some (b.extract 0 p ++ a.extract 0 i ++ (o.push x ++ (b.extract p (j - 1)).reverse).reverse), i, p, o.push x ++ (b.extract p (j - 1)).reverse, mg, k, j - 1 - p))
        else if (p == 0) = true then pure (.done (some (a.extract 0 i ++ b.extract 0 p ++ (o.push x ++ (b.extract p (j - 1)).reverse).reverse), i, p, o.push x ++ (b.extract p (j - 1)).reverse, mg, k, j - 1 - p))
        else hiT1 a b (o.push x ++ (b.extract p (j - 1)).reverse) i p mg k (j - 1 - p))
      else hiT1 a b (o.push x) i (j - 1) mg k (j - 1 - p))
    | _ => pure (.done (some (a.extract 0 i ++ b.extract 0 (j - 1) ++ (o.push x).reverse), i, j - 1, o.push x, mg, k, c))
def hiT3 (a b o : Array Keyed) (i j mg c d : Nat) : StateT SortSt Sem (ForInStep HC) :=
  setMG mg >>= fun _ => elem' b (j - 1) >>= fun x => gal false x a 0 i (i - 1) >>= fun r =>
  match r with
  | some p => (if i - p > 0 then
      (if (p == 0) = true then pure (.done (some (a.extract 0 p ++ b.extract 0 j ++ (o ++ (a.extract p i).reverse).reverse), p, j, o ++ (a.extract p i).reverse, mg, i - p, d))
      else hiT2 a b (o ++ (a.extract p i).reverse) p j mg (i - p) d)
    else hiT2 a b o i j mg (i - p) d)
  | _ => pure (.done (some (a.extract 0 i ++ b.extract 0 j ++ o.reverse), i, j, o, mg, c, d))
def HOut (O : KeyOrd) (key : Keyed → O.α) (a b : Array Keyed) (m : Nat) (r : ForInStep HC) : Prop := match r with
  | .done c => (∃ x, c.1 = some x ∧ GF O key a b x) ∨ (c.1 = none ∧ Ho O key a b c.2.2.2.1 c.2.1 c.2.2.1 ∧ m < c.2.2.2.1.size)
  | .yield c => c.1 = none ∧ Ho O key a b c.2.2.2.1 c.2.1 c.2.2.1 ∧ m < c.2.2.2.1.size
theorem hiT1_wp {o : Array Keyed} {i j mg k k1 m : Nat} {st : SortSt} (hp : MPre O key D a b) (g : Ho O key a b o i j) (hm : m ≤ o.size) (hx : ∀ (hi : i - 1 < a.size) k (hk : k < b.size), k < j → O.kle (key b[k]) (key a[i - 1]))
    {Q : ForInStep HC → SortSt → Prop} (hQ : ∀ r, HOut O key a b m r → Q r st) : wpS (model prog w) A E s (hiT1 a b o i j mg k k1) Q st := by
  obtain ⟨gi, i0, hi, j0, hj⟩ := g
  unfold hiT1
  refine wpS_bind (elem_tells (show i - 1 < a.size by omega) _ ?_)
  have g1 := HI.pushA (i := i - 1) (by rw [show i - 1 + 1 = i by omega]; exact gi) (by omega) (hx (by omega))
  have hz : (o.push (a[i - 1]'(by omega))).size = o.size + 1 := Array.size_push ..
  by_cases e1 : i - 1 = 0
  · rw [if_pos (by simpa using e1)]
    exact wpS_pure (hQ _ (.inl ⟨_, rfl, g1.endA e1⟩))
  · rw [if_neg (by simpa using e1)]
    have g2 : Ho O key a b (o.push (a[i - 1]'(by omega))) (i - 1) j := ⟨g1, by omega, by omega, j0, hj⟩
    split
    · exact wpS_pure (hQ _ (.inr ⟨rfl, g2, by show m < (o.push _).size; omega⟩))
    · exact wpS_pure (hQ _ ⟨rfl, g2, by show m < (o.push _).size; omega⟩)
theorem hiT2_wp {o : Array Keyed} {i j mg k c m : Nat} {st : SortSt} (hc : Cmps prog w A s κ key D) (hk : kindOf st = κ) (hp : MPre O key D a b) (g : Ho O key a b o i j) (hm : m ≤ o.size) (hx : ∀ (hj : j - 1 < b.size) k (hk : k < a.size), k < i → O.kle (key a[k]) (key b[j - 1]))
    {Q : ForInStep HC → SortSt → Prop} (hQ : ∀ r, HOut O key a b m r → Q r st) : wpS (model prog w) A E s (hiT2 a b o i j mg k c) Q st := by
  obtain ⟨gi, i0, hi, j0, hj⟩ := g
  unfold hiT2
  refine wpS_bind (elem_tells (show j - 1 < b.size by omega) _ ?_)
  have g1 := HI.pushB (j := j - 1) (by rw [show j - 1 + 1 = j by omega]; exact gi) (by omega) (hx (by omega))
  have hz : (o.push (b[j - 1]'(by omega))).size = o.size + 1 := Array.size_push ..
  by_cases e1 : j - 1 = 1
  · rw [if_pos (by simpa using e1)]
    exact wpS_pure (hQ _ (.inl ⟨_, rfl, g1.lastB hp e1⟩))
  · rw [if_neg (by simpa using e1)]
    refine wpS_bind (elem_tells (show i - 1 < a.size by omega) _ ?_)
    refine wpS_bind (gal_wp hc hk (hp.dA (i - 1) (by omega)) hp.db (by omega) (by omega) (fun u v hu hv _ h2 _ => up_at hp.ub u v hu hv h2) fun p hk1 h1 h2 => ?_)
    simp only [if_true, Nat.zero_add] at h1 h2
    dsimp only
    by_cases hk0 : j - 1 - p > 0
    · rw [if_pos hk0]
      have g3 := g1.blockB (p := p) (by omega) fun u hu v hv a1 a2 a3 => KeyOrd.kle_trans (up_at hp.ua v (i - 1) hv (by omega) (by omega)) (h2 u hu a1 a2)
      by_cases e2 : p = 1
      · rw [if_pos (by simpa using e2)]
        exact wpS_pure (hQ _ (.inl ⟨_, rfl, g3.lastB hp e2⟩))
      · rw [if_neg (by simpa using e2)]
        by_cases e3 : p = 0
        · rw [if_pos (by simpa using e3)]
          exact wpS_pure (hQ _ (.inl ⟨_, rfl, g3.endB e3⟩))
        · rw [if_neg (by simpa using e3)]
          refine hiT1_wp hp ⟨g3, i0, hi, by omega, by omega⟩ ?_ (fun hi v hv a1 => KeyOrd.kle_of_klt (h1 v hv (by omega) a1)) hQ
          rw [Array.size_append]; omega
    · rw [if_neg hk0]
      exact hiT1_wp hp ⟨g1, i0, hi, by omega, by omega⟩ (by omega) (fun hi v hv a1 => KeyOrd.kle_of_klt (h1 v hv (by omega) (by omega))) hQ
theorem hiT3_wp {o : Array Keyed} {i j mg c d m : Nat} {st : SortSt} (hc : Cmps prog w A s κ key D) (hk : kindOf st = κ) (hp : MPre O key D a b) (g : Ho O key a b o i j) (hm : m ≤ o.size)
    {Q : ForInStep HC → SortSt → Prop} (hQ : ∀ r st', SameS st st' → HOut O key a b m r → Q r st') : wpS (model prog w) A E s (hiT3 a b o i j mg c d) Q st := by
  obtain ⟨gi, i0, hi, j0, hj⟩ := g
  unfold hiT3
  refine wpS_bind (setMG_wp fun st' hs => ?_)
  have hk' : kindOf st' = κ := hs.1.trans hk
  refine wpS_bind (elem_tells (show j - 1 < b.size by omega) _ ?_)
  refine wpS_bind (gal_wp hc hk' (hp.dB (j - 1) (by omega)) hp.da (by omega) (by omega) (fun u v hu hv _ h2 _ => up_at hp.ua u v hu hv h2) fun p hk1 h1 h2 => ?_)
  simp only [Bool.false_eq_true, if_false, Nat.zero_add] at h1 h2
  dsimp only
  have hx : ∀ (hj : j - 1 < b.size) v (hv : v < a.size), v < p → O.kle (key a[v]) (key b[j - 1]) := fun hj v hv a1 => h1 v hv (by omega) a1
  by_cases hk0 : i - p > 0
  · rw [if_pos hk0]
    have g3 := gi.blockA (p := p) (by omega) fun u hu v hv a1 a2 a3 => KeyOrd.kle_trans (up_at hp.ub v (j - 1) hv (by omega) (by omega)) (KeyOrd.kle_of_klt (h2 u hu a1 a2))
    by_cases e1 : p = 0
    · rw [if_pos (by simpa using e1)]
      exact wpS_pure (hQ _ _ hs (.inl ⟨_, rfl, g3.endA e1⟩))
    · rw [if_neg (by simpa using e1)]
      refine hiT2_wp hc hk' hp ⟨g3, by omega, by omega, j0, hj⟩ ?_ hx fun r hr => hQ r _ hs hr
      rw [Array.size_append]; omega
  · rw [if_neg hk0]
    exact hiT2_wp hc hk' hp ⟨gi, i0, hi, j0, hj⟩ hm (fun hj v hv a1 => hx hj v hv (by omega)) fun r hr => hQ r _ hs hr
set_option smartUnfolding false in
theorem mHi_wp {st : SortSt} (hc : Cmps prog w A s κ key D) (hk : kindOf st = κ) (hp : MPre O key D a b) {Q : Array Keyed → SortSt → Prop} (hQ : ∀ r st', SameS st st' → GF O key a b r → Q r st') : wpS (model prog w) A E s (mHi a b) Q st := by
  rw [mHi_eq]
  refine wpS_bind (wpS_lift (wpAny_rule ⟨rfl, ?_⟩))
  have hna := hp.na
  have hnb := hp.nb
  refine wpS_bind (elem_tells (show a.size - 1 < a.size by omega) _ ?_)
  have g0 : HI O key a b #[] (a.size - 1 + 1) b.size := by
    unfold HI
    rw [List.take_of_length_le (by rw [Array.length_toList]; omega), List.take_of_length_le (by rw [Array.length_toList]; omega)]
    refine ⟨?_, .nil, (fun _ z => nomatch z), (fun _ z => nomatch z), ?_, ?_⟩
    · show ([] ++ (a.toList.reverse ++ b.toList.reverse)).Perm _
      rw [List.nil_append]
      exact List.Perm.append (List.reverse_perm _) (List.reverse_perm _)
    · rw [List.pairwise_reverse]; exact hp.ua
    · rw [List.pairwise_reverse]; exact hp.ub
  have g1 : HI O key a b #[a[a.size - 1]'(by omega)] (a.size - 1) b.size := g0.pushA (by omega) fun k hk _ => KeyOrd.kle_trans (up_at hp.ub k (b.size - 1) hk (by omega) (by omega)) (hp.last (by omega) (by omega))
  by_cases e1 : a.size - 1 = 0
  · dsimp only
    rw [if_pos (by simpa using e1)]
    exact wpS_pure (hQ _ _ (.refl _) (g1.endA e1))
  · by_cases e2 : b.size = 1
    · dsimp only
      rw [if_neg (by simpa using e1), if_pos (by simpa using e2)]
      exact wpS_pure (hQ _ _ (.refl _) (g1.lastB hp e2))
    · dsimp only
      rw [if_neg (by simpa using e1), if_neg (by simpa using e2)]
      refine wpS_bind (wpS_get ?_)
      refine wpS_bind (wpS_mono (wpS_forRange (a := 0)
        (I := fun x c st' => SameS st st' ∧ c.1 = none ∧ Ho O key a b c.2.2.2.1 c.2.1 c.2.2.1 ∧ x < c.2.2.2.1.size)
        (Q := fun c st' => SameS st st' ∧ ∃ r, c.1 = some r ∧ GF O key a b r) ?step ?fin ?init) ?post)
      case init => exact ⟨.refl _, rfl, ⟨g1, by show 0 < a.size - 1; omega, by show a.size - 1 ≤ a.size; omega, by show 1 < b.size; omega, Nat.le_refl _⟩, by show 0 < 1; omega⟩
      case fin =>
        rintro ⟨_, i, j, o, mg⟩ st' ⟨hs, rfl, g, hx⟩
        have := g.gi.size g.hi g.hj
        have := g.i0; have := g.j0
        dsimp only at *
        omega
      case post =>
        rintro ⟨_, i, j, o, mg⟩ st' ⟨hs, r, rfl, hr⟩
        exact wpS_pure (hQ _ _ hs hr)
      case step =>
        rintro x ⟨_, i, j, o, mg⟩ st' _ hx ⟨hs, rfl, g, hxo⟩
        have hk' : kindOf st' = κ := hs.1.trans hk
        dsimp only at g hxo ⊢
        refine wpS_bind (wpS_mono (wpS_loop (st := st')
          (I := fun t c => c.1 = none ∧ Ho O key a b c.2.2.2.1 c.2.1 c.2.2.1 ∧ o.size + min t 1 ≤ c.2.2.2.1.size)
          (Q := fun c st'' => st'' = st' ∧ ((∃ r, c.1 = some r ∧ GF O key a b r) ∨ (c.1 = none ∧ Ho O key a b c.2.2.2.1 c.2.1 c.2.2.1 ∧ o.size < c.2.2.2.1.size))) ?s1 ?e1 ?i1) ?p1)
        case i1 => exact ⟨rfl, g, by show o.size + min 0 1 ≤ o.size; omega⟩
        case e1 =>
          rintro ⟨_, i', j', o', c', d'⟩ ⟨rfl, g', h'⟩
          exact ⟨rfl, .inr ⟨rfl, g', by dsimp only at h' ⊢; omega⟩⟩
        case s1 =>
          rintro t ⟨_, i', j', o', c', d'⟩ ht ⟨rfl, g', h'⟩
          obtain ⟨gi, i0, hi, j0, hj⟩ := g'
          dsimp only at gi i0 hi j0 hj h' ⊢
          refine wpS_bind (elem_tells (show j' - 1 < b.size by omega) _ (wpS_bind (elem_tells (show i' - 1 < a.size by omega) _ (wpS_bind (lt_tells hc hk' (hp.dB _ (by omega)) (hp.dA _ (by omega)) _ ?_)))))
          dsimp only
          cases e : O.blt (key (b[j' - 1]'(by omega))) (key (a[i' - 1]'(by omega))) with
          | true =>
            rw [if_pos rfl]
            refine wpS_bind (elem_tells (show i' - 1 < a.size by omega) _ ?_)
            have g2 := HI.pushA (i := i' - 1) (by rw [show i' - 1 + 1 = i' by omega]; exact gi) (by omega) fun k hk h1 => KeyOrd.kle_trans (up_at hp.ub k (j' - 1) hk (by omega) (by omega)) (KeyOrd.kle_of_klt e)
            have hz : (o'.push (a[i' - 1]'(by omega))).size = o'.size + 1 := Array.size_push ..
            by_cases e3 : i' - 1 = 0
            · rw [if_pos (by simpa using e3)]
              exact wpS_pure ⟨rfl, rfl, .inl ⟨_, rfl, g2.endA e3⟩⟩
            · rw [if_neg (by simpa using e3)]
              have g3 : Ho O key a b (o'.push (a[i' - 1]'(by omega))) (i' - 1) j' := ⟨g2, by omega, by omega, j0, hj⟩
              split
              · exact wpS_pure ⟨rfl, rfl, .inr ⟨rfl, g3, by show o.size < (o'.push _).size; omega⟩⟩
              · exact wpS_pure ⟨rfl, rfl, g3, by show o.size + min (t + 1) 1 ≤ (o'.push _).size; omega⟩
          | false =>
            rw [if_neg (by decide)]
            refine wpS_bind (elem_tells (show j' - 1 < b.size by omega) _ ?_)
            have g2 := HI.pushB (j := j' - 1) (by rw [show j' - 1 + 1 = j' by omega]; exact gi) (by omega) fun k hk h1 => KeyOrd.kle_trans (up_at hp.ua k (i' - 1) hk (by omega) (by omega)) (show O.kle (key (a[i' - 1]'(by omega))) (key (b[j' - 1]'(by omega))) from e)
            have hz : (o'.push (b[j' - 1]'(by omega))).size = o'.size + 1 := Array.size_push ..
            by_cases e3 : j' - 1 = 1
            · rw [if_pos (by simpa using e3)]
              exact wpS_pure ⟨rfl, rfl, .inl ⟨_, rfl, g2.lastB hp e3⟩⟩
            · rw [if_neg (by simpa using e3)]
              have g3 : Ho O key a b (o'.push (b[j' - 1]'(by omega))) i' (j' - 1) := ⟨g2, i0, hi, by omega, by omega⟩
              split
              · exact wpS_pure ⟨rfl, rfl, .inr ⟨rfl, g3, by show o.size < (o'.push _).size; omega⟩⟩
              · exact wpS_pure ⟨rfl, rfl, g3, by show o.size + min (t + 1) 1 ≤ (o'.push _).size; omega⟩
        case p1 =>
          rintro ⟨_, i1, j1, o1, c1, d1⟩ st'' ⟨rfl, ⟨r, rfl, hr⟩ | ⟨rfl, g1', h1'⟩⟩
          · exact wpS_pure ⟨hs, r, rfl, hr⟩
          · dsimp only at g1' h1' ⊢
            refine wpS_bind (wpS_lift (wpAny_rule ⟨rfl, ?_⟩))
            refine wpS_bind (wpS_mono (wpS_forRange (a := 0)
              (I := fun t c st' => SameS st st' ∧ c.1 = none ∧ Ho O key a b c.2.2.2.1 c.2.1 c.2.2.1 ∧ o.size < c.2.2.2.1.size)
              (Q := fun c st' => SameS st st' ∧ ((∃ r, c.1 = some r ∧ GF O key a b r) ∨ (c.1 = none ∧ Ho O key a b c.2.2.2.1 c.2.1 c.2.2.1 ∧ o.size < c.2.2.2.1.size))) ?s2 ?e2 ?i2) ?p2)
            case i2 => exact ⟨hs, rfl, g1', h1'⟩
            case e2 => exact fun c st' h => ⟨h.1, .inr h.2⟩
            case p2 =>
              rintro ⟨_, i2, j2, o2, mg2, c2, d2⟩ st3 ⟨hs3, ⟨r, rfl, hr⟩ | ⟨rfl, g2', h2'⟩⟩
              · exact wpS_pure ⟨hs3, r, rfl, hr⟩
              · dsimp only at g2' h2' ⊢
                refine wpS_bind (setMG_wp fun st4 hs4 => wpS_pure ⟨hs3.trans hs4, rfl, g2', by dsimp only; omega⟩)
            case s2 =>
              rintro t ⟨_, i2, j2, o2, mg2, c2, d2⟩ st3 _ ht ⟨hs3, rfl, g2', h2'⟩
              have hk3 : kindOf st3 = κ := hs3.1.trans hk
              dsimp only at g2' h2' ⊢
              have fin : ∀ mg, wpS (model prog w) A E s (hiT3 a b o2 i2 j2 mg c2 d2) (fun r st' => match r with
                  | .done c' => SameS st st' ∧ ((∃ r, c'.1 = some r ∧ GF O key a b r) ∨ (c'.1 = none ∧ Ho O key a b c'.2.2.2.1 c'.2.1 c'.2.2.1 ∧ o.size < c'.2.2.2.1.size))
                  | .yield c' => SameS st st' ∧ c'.1 = none ∧ Ho O key a b c'.2.2.2.1 c'.2.1 c'.2.2.1 ∧ o.size < c'.2.2.2.1.size) st3 := fun mg =>
                hiT3_wp (m := o.size) hc hk3 hp g2' (by omega) fun r st' hs' hr => by
                  cases r with
                  | done c' => exact ⟨hs3.trans hs', hr⟩
                  | yield c' => exact ⟨hs3.trans hs', hr⟩
              by_cases hmg : mg2 > 1
              · rw [if_pos hmg]
                exact fin _
              · rw [if_neg hmg]
                exact fin _
end hi
end L2

namespace L2
open PySem PyProof.Rows
theorem mAt_eq (i : Nat) : mergeAt' i = (do
  let z ← get
  let (some (p, n, c), some (q, m, _)) := ((pendingOf z)[i]?, (pendingOf z)[i + 1]?) | unsupported "internal:list.sort.pending"
  set (SortSt.mk' (kindOf z) (arrOf z) (((pendingOf z).setIfInBounds i (p, n + m, c)).eraseIdxIfInBounds (i + 1)) (gallopOf z) (failedOf z))
  let some k ← gal false (← elem' (arrOf z) q) (arrOf z) p n 0 | return false
  let (p, n) := (p + k, n - k)
  if n == 0 then return true
  let some m ← gal true (← elem' (arrOf z) (p + n - 1)) (arrOf z) q m (m - 1) | return false
  if m == 0 then return true
  let x := (arrOf z).extract p q
  let y := (arrOf z).extract q (q + m)
  let r ← if n ≤ m then mLo x y else mHi x y
  modify fun z => setArr z (r.toList.zipIdx.foldl (fun a (u, j) => a.setIfInBounds (p + j) u) (arrOf z))
  return (failedOf (← get)).isNone) := rfl
section
variable {prog : Program} {w : World} {A : Around} {E : Value → Shared → Prop} {s : Shared} {O : KeyOrd} {key : Keyed → O.α} {D : Keyed → Prop} {κ : SortKind}
theorem wpS_set {M : Model} {A : Around} {E : Value → Shared → Prop} {s : Shared} {st z : SortSt} {Q : PUnit → SortSt → Prop} (h : Q ⟨⟩ z) : wpS M A E s (set z : StateT SortSt Sem PUnit) Q st := by
  unfold wpS; rw [StateT.run_set]; exact wpAny_pure ⟨rfl, h⟩
theorem at_mem {l : Array Keyed} {i : Nat} (h : i < l.size) : l[i] ∈ l.toList := by simp
theorem elem_at {st : SortSt} {ar : Array Keyed} {i : Nat} {P W : List Keyed} {x : Keyed} (h : ar.toList = P ++ x :: W) (hi : i = P.length) : Tells (model prog w) A E s st (elem' ar i) x := by
  subst hi
  obtain ⟨l⟩ := ar
  cases (h : l = P ++ x :: W)
  have hl : P.length < (P ++ x :: W).toArray.size := by simp
  have e := elem_tells (prog := prog) (w := w) (A := A) (E := E) (s := s) (st := st) hl
  have ex : (P ++ x :: W).toArray[P.length] = x := by simp
  rw [ex] at e
  exact e
theorem mem_seg {ar : Array Keyed} {P Z W : List Keyed} (h : ar.toList = P ++ (Z ++ W)) (k : Nat) (hk : k < Z.length) : ∃ hi : P.length + k < ar.size, Z[k] = ar[P.length + k] := by
  obtain ⟨l⟩ := ar
  cases (h : l = P ++ (Z ++ W))
  refine ⟨by simp; omega, ?_⟩
  simp [List.getElem_append_right, List.getElem_append_left, hk]
theorem gal_seg {left : Bool} {k0 : Keyed} {ar : Array Keyed} {bs n h : Nat} {P Z W : List Keyed} {st : SortSt} (hc : Cmps prog w A s κ key D) (hk : kindOf st = κ) (h0 : D k0) (hD : ∀ x ∈ ar.toList, D x)
    (ha : ar.toList = P ++ (Z ++ W)) (hb : bs = P.length) (hn : n = Z.length) (hh : h < n) (hs : Z.Pairwise (Upw O key)) {Q : Option Nat → SortSt → Prop}
    (hQ : ∀ k Z1 Z2, Z = Z1 ++ Z2 → Z1.length = k → (∀ x ∈ Z1, if left = true then O.klt (key x) (key k0) else O.kle (key x) (key k0)) →
      (∀ x ∈ Z2, if left = true then O.kle (key k0) (key x) else O.klt (key k0) (key x)) → Q (some k) st) : wpS (model prog w) A E s (gal left k0 ar bs n h) Q st := by
  subst hb hn
  have hz : ar.size = P.length + (Z.length + W.length) := by rw [← Array.length_toList, ha, List.length_append, List.length_append]
  refine gal_wp hc hk h0 hD (by omega) hh (fun i j hi hj h1 h2 h3 => ?_) fun k hk1 h1 h2 => ?_
  · obtain ⟨_, e1⟩ := mem_seg ha (i - P.length) (by omega)
    obtain ⟨_, e2⟩ := mem_seg ha (j - P.length) (by omega)
    have ei : P.length + (i - P.length) = i := by omega
    have ej : P.length + (j - P.length) = j := by omega
    simp only [ei] at e1
    simp only [ej] at e2
    rw [← e1, ← e2]
    by_cases e : i = j
    · subst e; exact KeyOrd.kle_refl _
    · exact (List.pairwise_iff_getElem.mp hs) _ _ (by omega) (by omega) (by omega)
  · refine hQ k (Z.take k) (Z.drop k) (List.take_append_drop k Z).symm (by rw [List.length_take]; omega) (fun x hx => ?_) (fun x hx => ?_)
    · obtain ⟨u, hu, rfl⟩ := List.getElem_of_mem hx
      rw [List.length_take] at hu
      obtain ⟨hi, e⟩ := mem_seg ha u (by omega)
      rw [List.getElem_take, e]
      exact h1 _ hi (by omega) (by omega)
    · obtain ⟨u, hu, rfl⟩ := List.getElem_of_mem hx
      rw [List.length_drop] at hu
      obtain ⟨hi, e⟩ := mem_seg ha (k + u) (by omega)
      rw [List.getElem_drop, e]
      exact h2 _ hi (by omega) (by omega)
theorem ext_seg {ar : Array Keyed} {P Z W : List Keyed} (h : ar.toList = P ++ (Z ++ W)) {i j : Nat} (hi : i = P.length) (hj : j = P.length + Z.length) : (ar.extract i j).toList = Z := by
  subst hi hj
  rw [ext_list, h, List.drop_left, Nat.add_sub_cancel_left, List.take_left]
theorem snd_of {α : Type} : ∀ {l : List α} {i : Nat} {x y : α}, l[i]? = some x → l[i + 1]? = some y → ∃ L T, l = L ++ x :: y :: T ∧ L.length = i
  | [], _, _, _, h, _ => by simp at h
  | [z], 0, _, _, h, h2 => by simp at h2
  | z :: z2 :: l, 0, x, y, h, h2 => by
    simp at h h2
    exact ⟨[], l, by rw [h, h2]; rfl, rfl⟩
  | z :: l, i + 1, x, y, h, h2 => by
    obtain ⟨L, T, rfl, e⟩ := snd_of (l := l) (i := i) (x := x) (y := y) (by simpa using h) (by simpa using h2)
    exact ⟨z :: L, T, rfl, by rw [List.length_cons, e]⟩
theorem set_erase {α : Type} {ar : Array α} {L T : List α} {x y z : α} {i : Nat} (h : ar.toList = L ++ x :: y :: T) (hi : i = L.length) : ((ar.setIfInBounds i z).eraseIdxIfInBounds (i + 1)).toList = L ++ z :: T := by
  subst hi
  obtain rfl : ar = (L ++ x :: y :: T).toArray := Array.toList_inj.mp (by rw [h])
  have e : ((L ++ x :: y :: T).toArray.setIfInBounds L.length z) = (L ++ z :: y :: T).toArray := by
    apply Array.toList_inj.mp
    rw [Array.toList_setIfInBounds, List.toList_toArray, List.toList_toArray, List.set_append_right _ _ (Nat.le_refl _), Nat.sub_self]
    rfl
  rw [e, Array.eraseIdxIfInBounds, dif_pos (by simp), Array.toList_eraseIdx, List.toList_toArray, List.eraseIdx_append_of_length_le (by omega), show L.length + 1 - L.length = 1 by omega]
  rfl
/-- what two neighbours become -/
theorem mAt_wp {i : Nat} {st : SortSt} {L T : List (Nat × Nat × Nat)} {p n c q m e : Nat} {l1 X Y l2 : List Keyed} (hc : Cmps prog w A s κ key D) (hk : kindOf st = κ) (hf : failedOf st = none)
    (hpd : (pendingOf st).toList = L ++ (p, n, c) :: (q, m, e) :: T) (hi : L.length = i) (ha : (arrOf st).toList = l1 ++ (X ++ (Y ++ l2))) (hp : p = l1.length) (hn : n = X.length) (hq : q = l1.length + X.length) (hm : m = Y.length)
    (h1 : 1 ≤ X.length) (h2 : 1 ≤ Y.length) (hX : X.Pairwise (Upw O key)) (hY : Y.Pairwise (Upw O key)) (hD : ∀ x ∈ (arrOf st).toList, D x) {Q : Bool → SortSt → Prop}
    (hQ : ∀ st' M, kindOf st' = κ → failedOf st' = none → (pendingOf st').toList = L ++ (p, n + m, c) :: T → (arrOf st').toList = l1 ++ (M ++ l2) → M.Perm (X ++ Y) → M.Pairwise (Upw O key) → Q true st') :
    wpS (model prog w) A E s (mergeAt' i) Q st := by
  have g1 : (pendingOf st)[i]? = some (p, n, c) := by rw [← Array.getElem?_toList, hpd, ← hi]; simp
  have g2 : (pendingOf st)[i + 1]? = some (q, m, e) := by rw [← Array.getElem?_toList, hpd, ← hi]; simp
  rw [mAt_eq]
  refine wpS_bind (wpS_get ?_)
  dsimp only
  rw [g1, g2]
  dsimp only
  refine wpS_bind (wpS_set ?_)
  have hpd' := set_erase (z := (p, n + m, c)) hpd hi.symm
  have hk2 : kindOf (SortSt.mk' (kindOf st) (arrOf st) (((pendingOf st).setIfInBounds i (p, n + m, c)).eraseIdxIfInBounds (i + 1)) (gallopOf st) (failedOf st)) = κ := hk
  obtain ⟨y0, Y', rfl⟩ : ∃ y Y', Y = y :: Y' := by
    cases Y with
    | nil => simp at h2
    | cons y Y' => exact ⟨y, Y', rfl⟩
  refine wpS_bind (elem_at (P := l1 ++ X) (x := y0) (W := Y' ++ l2) (by rw [ha]; simp) (by rw [List.length_append]; exact hq) _ ?_)
  refine wpS_bind (gal_seg (k0 := y0) (h := 0) hc hk2 (hD _ (by rw [ha]; simp)) hD ha hp hn (by omega) hX fun k X1 X2 e1 e2 b1 b2 => ?_)
  subst e1
  simp only [Bool.false_eq_true, if_false] at b1 b2
  dsimp only
  have dn : (∀ x ∈ X1 ++ X2, ∀ y ∈ y0 :: Y', O.kle (key x) (key y)) → Q true (SortSt.mk' (kindOf st) (arrOf st) (((pendingOf st).setIfInBounds i (p, n + m, c)).eraseIdxIfInBounds (i + 1)) (gallopOf st) (failedOf st)) := fun hxy =>
    hQ _ (X1 ++ X2 ++ y0 :: Y') hk hf hpd' (by show (arrOf st).toList = _; rw [ha]; simp) (.refl _) (by rw [List.pairwise_append]; exact ⟨hX, hY, hxy⟩)
  have uy : ∀ y ∈ y0 :: Y', O.kle (key y0) (key y) := fun y hy => by
    rcases List.mem_cons.mp hy with rfl | hy
    · exact KeyOrd.kle_refl _
    · exact (List.pairwise_cons.mp hY).1 y hy
  by_cases e3 : n - k = 0
  · rw [if_pos (by simpa using e3)]
    refine wpS_pure (dn fun x hx y hy => ?_)
    rw [List.length_append] at hn
    have : X2 = [] := List.eq_nil_of_length_eq_zero (by omega)
    subst this
    rw [List.append_nil] at hx
    exact KeyOrd.kle_trans (b1 x hx) (uy y hy)
  · rw [if_neg (by simpa using e3)]
    rw [List.length_append] at hn
    have hX2 : X2 ≠ [] := fun z => by rw [z] at hn; simp at hn; omega
    obtain ⟨X3, xl, rfl⟩ : ∃ X3 xl, X2 = X3 ++ [xl] := ⟨_, _, (List.dropLast_concat_getLast hX2).symm⟩
    have hn' : n = X1.length + (X3.length + 1) := by rw [hn]; simp
    refine wpS_bind (elem_at (P := l1 ++ (X1 ++ X3)) (x := xl) (W := (y0 :: Y') ++ l2) (by rw [ha]; simp) (by rw [List.length_append, List.length_append]; omega) _ ?_)
    refine wpS_bind (gal_seg (k0 := xl) (h := m - 1) (P := l1 ++ (X1 ++ (X3 ++ [xl]))) (W := l2) hc hk2 (hD _ (by rw [ha]; simp)) hD (by rw [ha]; simp) (by rw [List.length_append]; exact hq) hm (by omega) hY fun k2 Y1 Y2 e4 e5 c1 c2 => ?_)
    simp only [if_true] at c1 c2
    dsimp only
    have ux : ∀ x ∈ X1 ++ (X3 ++ [xl]), O.kle (key x) (key xl) := fun x hx => by
      rw [← List.append_assoc] at hx hX
      rcases List.mem_append.mp hx with hx | hx
      · exact (List.pairwise_append.mp hX).2.2 x hx xl (by simp)
      · rw [List.mem_singleton.mp hx]; exact KeyOrd.kle_refl _
    by_cases e6 : k2 = 0
    · rw [if_pos (by simpa using e6)]
      refine wpS_pure (dn fun x hx y hy => ?_)
      have : Y1 = [] := List.eq_nil_of_length_eq_zero (by omega)
      subst this
      rw [e4] at hy
      exact KeyOrd.kle_trans (ux x hx) (c2 y hy)
    · rw [if_neg (by simpa using e6)]
      have x1 : ((arrOf st).extract (p + k) q).toList = X3 ++ [xl] := ext_seg (P := l1 ++ X1) (W := y0 :: Y' ++ l2) (by rw [ha]; simp) (by rw [List.length_append]; omega) (by simp at hq ⊢; omega)
      have y1 : ((arrOf st).extract q (q + k2)).toList = Y1 := ext_seg (P := l1 ++ (X1 ++ (X3 ++ [xl]))) (W := Y2 ++ l2) (by rw [ha, e4]; simp) (by rw [List.length_append]; exact hq) (by rw [List.length_append]; omega)
      have pw := List.pairwise_append.mp hX
      rw [e4] at hY
      have pwy := List.pairwise_append.mp hY
      have hsx : ((arrOf st).extract (p + k) q).size = X3.length + 1 := by rw [← Array.length_toList, x1]; simp
      have hsy : ((arrOf st).extract q (q + k2)).size = Y1.length := by rw [← Array.length_toList, y1]
      have hpre : MPre O key D ((arrOf st).extract (p + k) q) ((arrOf st).extract q (q + k2)) := by
        refine ⟨by rw [x1]; exact pw.2.1, by rw [y1]; exact pwy.1, fun x hx => hD x ?_, fun x hx => hD x ?_, by omega, by omega, fun a1 a2 => ?_, fun a1 a2 => ?_⟩
        · rw [x1] at hx; rw [ha]; exact List.mem_append_right _ (List.mem_append_left _ (List.mem_append_right _ hx))
        · rw [y1] at hx; rw [ha, e4]; exact List.mem_append_right _ (List.mem_append_right _ (List.mem_append_left _ (List.mem_append_left _ hx)))
        · have m1 : ((arrOf st).extract (p + k) q)[0] ∈ X3 ++ [xl] := by rw [← x1]; exact at_mem _
          have m2 : ((arrOf st).extract q (q + k2))[0] = y0 := by
            have : ((arrOf st).extract q (q + k2)).toList[0]? = some y0 := by
              rw [y1]
              cases Y1 with
              | nil => exact absurd e5.symm e6
              | cons z Z => simp at e4; rw [e4.1]; rfl
            rw [Array.getElem?_toList, Array.getElem?_eq_getElem a2] at this
            exact Option.some.inj this
          rw [m2]
          exact KeyOrd.kle_of_klt (b2 _ m1)
        · have m1 : ((arrOf st).extract (p + k) q)[((arrOf st).extract (p + k) q).size - 1] = xl := by
            have : ((arrOf st).extract (p + k) q).toList[((arrOf st).extract (p + k) q).size - 1]? = some xl := by
              rw [x1, hsx]; simp
            rw [Array.getElem?_toList, Array.getElem?_eq_getElem a1] at this
            exact Option.some.inj this
          have m2 : ((arrOf st).extract q (q + k2))[((arrOf st).extract q (q + k2)).size - 1] ∈ Y1 := by rw [← y1]; exact at_mem _
          rw [m1]
          exact KeyOrd.kle_of_klt (c1 _ m2)
      have fin : ∀ r st', SameS (SortSt.mk' (kindOf st) (arrOf st) (((pendingOf st).setIfInBounds i (p, n + m, c)).eraseIdxIfInBounds (i + 1)) (gallopOf st) (failedOf st)) st' → GF O key ((arrOf st).extract (p + k) q) ((arrOf st).extract q (q + k2)) r →
          wpS (model prog w) A E s (do modify fun z => setArr z (r.toList.zipIdx.foldl (fun a (x : Keyed × Nat) => a.setIfInBounds (p + k + x.2) x.1) (arrOf z)); let z ← get; pure (failedOf z).isNone) Q st' := fun r st' hs hr => by
        refine wpS_bind (wpS_modify (wpS_bind (wpS_get ?_)))
        have hfs : failedOf st' = none := hs.2.2.2.trans hf
        show wpS (model prog w) A E s (pure (failedOf st').isNone) Q _
        rw [hfs]
        unfold GF at hr
        rw [x1, y1] at hr
        have har : arrOf st' = ((l1 ++ X1) ++ (((X3 ++ [xl]) ++ Y1) ++ (Y2 ++ l2))).toArray := by
          apply Array.toList_inj.mp
          have : arrOf st' = arrOf st := hs.2.1
          rw [this, ha, e4]; simp
        have hput := foldl_put (p + k) r.toList 0 (l1 ++ X1) ((X3 ++ [xl]) ++ Y1) (Y2 ++ l2) (by rw [List.length_append]; omega) hr.1.length_eq.symm
        refine wpS_pure (hQ _ (X1 ++ (r.toList ++ Y2)) (hs.1.trans hk) hfs (by show (pendingOf st').toList = _; rw [show pendingOf st' = _ from hs.2.2.1]; exact hpd') ?_ ?_ ?_)
        · show (r.toList.zipIdx.foldl _ (arrOf st')).toList = _
          rw [har, hput]
          simp
        · rw [e4]
          have := (hr.1.append_right Y2).append_left X1
          simpa using this
        · have mr : ∀ x ∈ r.toList, x ∈ X3 ++ [xl] ∨ x ∈ Y1 := fun x hx => List.mem_append.mp (hr.1.mem_iff.mp hx)
          rw [List.pairwise_append, List.pairwise_append]
          refine ⟨pw.1, ⟨hr.2, pwy.2.1, fun x hx y hy => ?_⟩, fun x hx y hy => ?_⟩
          · rcases mr x hx with hx | hx
            · exact KeyOrd.kle_trans (ux x (List.mem_append_right _ hx)) (c2 y hy)
            · exact pwy.2.2 x hx y hy
          · rcases List.mem_append.mp hy with hy | hy
            · rcases mr y hy with hy | hy
              · exact pw.2.2 x hx y hy
              · exact KeyOrd.kle_trans (b1 x hx) (uy y (by rw [e4]; exact List.mem_append_left _ hy))
            · exact KeyOrd.kle_trans (b1 x hx) (uy y (by rw [e4]; exact List.mem_append_right _ hy))
      by_cases e7 : n - k ≤ k2
      · rw [if_pos e7]
        exact wpS_bind (mLo_wp hc hk2 hpre fin)
      · rw [if_neg e7]
        exact wpS_bind (mHi_wp hc hk2 hpre fin)
end
end L2

namespace L2
open PySem PyProof.Rows
section
variable {prog : Program} {w : World} {A : Around} {E : Value → Shared → Prop} {s : Shared} {O : KeyOrd} {key : Keyed → O.α} {D : Keyed → Prop} {κ : SortKind} {a₀ : Array Keyed} {pd : Array (Nat × Nat × Nat)} {lo : Nat}
def kb {O : KeyOrd} (key : Keyed → O.α) (p : Array Keyed) (i : Nat) : O.α := key (p.getD i (Value.none, Value.none))
def UpS {O : KeyOrd} (key : Keyed → O.α) (p : Array Keyed) (lo hi : Nat) : Prop := ∀ i j, lo ≤ i → i ≤ j → j < hi → O.kle (kb key p i) (kb key p j)
def DnS {O : KeyOrd} (key : Keyed → O.α) (p : Array Keyed) (lo hi : Nat) : Prop := ∀ i j, lo ≤ i → i ≤ j → j < hi → O.kle (kb key p j) (kb key p i)
theorem kb_congr {p q : Array Keyed} {i j : Nat} (h : p[i]? = q[j]?) : kb key p i = kb key q j := by
  unfold kb
  rw [Array.getD_eq_getD_getElem?, Array.getD_eq_getD_getElem?, h]
theorem kb_rev {p : Array Keyed} {i j : Nat} (hj : j ≤ p.size) (k : Nat) : kb key (mirror p i j ((j - i) / 2)) k = if i ≤ k ∧ k < j then kb key p (i + j - 1 - k) else kb key p k := by
  have e := getElem?_mirror_all (xs := p) (i := i) hj k
  by_cases h : i ≤ k ∧ k < j
  · rw [if_pos h] at e ⊢; exact kb_congr e
  · rw [if_neg h] at e ⊢; exact kb_congr e
theorem kb_revE {p : Array Keyed} {i j : Nat} (hj : j ≤ p.size) (heq : ∀ k, i ≤ k → k < j → kb key p k = kb key p (j - 1)) (k : Nat) : kb key (mirror p i j ((j - i) / 2)) k = kb key p k := by
  rw [kb_rev hj]
  split
  · rw [heq _ (by omega) (by omega), heq k (by omega) (by omega)]
  · rfl
structure Bs (κ : SortKind) (a₀ : Array Keyed) (pd : Array (Nat × Nat × Nat)) (lo : Nat) (st : SortSt) : Prop where
  perm : (arrOf st).Perm a₀
  kind : kindOf st = κ
  failed : failedOf st = none
  pend : pendingOf st = pd
  pre : ∀ i, i < lo → (arrOf st)[i]? = a₀[i]?
theorem Bs.size {st : SortSt} (h : Bs κ a₀ pd lo st) : (arrOf st).size = a₀.size := h.perm.size_eq
theorem Bs.rev {st : SortSt} (h : Bs κ a₀ pd lo st) {i j : Nat} (hi : lo ≤ i) (hj : j ≤ a₀.size) : Bs κ a₀ pd lo (setArr st (mirror (arrOf st) i j ((j - i) / 2))) :=
  ⟨(mirror_perm _ _ _ _).trans h.perm, h.kind, h.failed, h.pend, fun k hk => by
    show (mirror (arrOf st) i j ((j - i) / 2))[k]? = _
    rw [getElem?_mirror_all (by rw [h.size]; exact hj), if_neg (by omega)]; exact h.pre k hk⟩
theorem Bs.bub {st : SortSt} (h : Bs κ a₀ pd lo st) {k d : Nat} (hk : k < a₀.size) (hd : lo + d ≤ k) : Bs κ a₀ pd lo (setArr st (bubble (arrOf st) k d)) :=
  ⟨(bubble_perm _ _ _).trans h.perm, h.kind, h.failed, h.pend, fun i hi => by
    show (bubble (arrOf st) k d)[i]? = _
    rw [getElem?_bubble (by rw [h.size]; exact hk) d (by omega), if_neg (by omega), if_neg (by omega)]; exact h.pre i hi⟩
theorem lt_wp {st : SortSt} {i j : Nat} {Q : Option Bool → SortSt → Prop} (hc : Cmps prog w A s κ key D) (hD : ∀ x ∈ a₀.toList, D x) (hB : Bs κ a₀ pd lo st) (hi : i < a₀.size) (hj : j < a₀.size)
    (h : Q (some (O.blt (kb key (arrOf st) i) (kb key (arrOf st) j))) st) : wpS (model prog w) A E s (ltAt' i j) Q st := by
  have hz := hB.size
  have hm : ∀ k (hk : k < (arrOf st).size), D (arrOf st)[k] ∧ kb key (arrOf st) k = key (arrOf st)[k] := fun k hk =>
    ⟨hD _ ((Array.perm_iff_toList_perm.mp hB.perm).mem_iff.mp (by simp)), by unfold kb; simp [Array.getD, hk]⟩
  rw [ltAt'_eq]
  refine wpS_bind (wpS_get ?_)
  refine wpS_bind (elem_tells (show i < (arrOf st).size by omega) _ (wpS_bind (elem_tells (show j < (arrOf st).size by omega) _ ?_)))
  rw [(hm i (by omega)).2, (hm j (by omega)).2] at h
  exact lt_tells hc hB.kind (hm i (by omega)).1 (hm j (by omega)).1 _ h
def ascO (lo a nrem : Nat) : StateT SortSt Sem AscSt :=
  forIn [a:nrem] ((none, a) : AscSt) fun _ c => ltAt' (lo + c.2) (lo + c.2 - 1) >>= fun x =>
    match x with
    | some sm => if sm = true then pure (ForInStep.done (none, c.2)) else pure (ForInStep.yield (none, c.2 + 1))
    | _ => pure (ForInStep.done (some none, c.2))
def tailO (lo n nrem : Nat) : StateT SortSt Sem (Option Nat) :=
  reverseSlice' lo (lo + n) >>= fun _ => ascO lo n nrem >>= fun c =>
    match c.1 with
    | some r => pure r
    | none => pure (some c.2)
def dscO (lo n nrem : Nat) : StateT SortSt Sem (Option Nat) :=
  (liftM (rule "list.sort.descending-run") : StateT SortSt Sem Unit) >>= fun _ =>
  (forIn [n + 1:nrem] ((none, n + 1, 0) : DescSt) fun _ c => ltAt' (lo + c.2.1) (lo + c.2.1 - 1) >>= fun x =>
    match x with
    | some sm => (if sm = true then
        (if c.2.2 > 0 then reverseSlice' (lo + c.2.1 - (c.2.2 + 1)) (lo + c.2.1) >>= fun _ => pure (ForInStep.yield (none, c.2.1 + 1, 0)) else pure (ForInStep.yield (none, c.2.1 + 1, 0)))
      else ltAt' (lo + c.2.1 - 1) (lo + c.2.1) >>= fun y =>
        match y with
        | some lg => if lg = true then pure (ForInStep.done (none, c.2.1, c.2.2)) else pure (ForInStep.yield (none, c.2.1 + 1, c.2.2 + 1))
        | _ => pure (ForInStep.done (some none, c.2.1, c.2.2)))
    | _ => pure (ForInStep.done (some none, c.2.1, c.2.2))) >>= fun c =>
  match c.1 with
  | some r => pure r
  | none => if c.2.2 > 0 then reverseSlice' (lo + c.2.1 - (c.2.2 + 1)) (lo + c.2.1) >>= fun _ => tailO lo c.2.1 nrem else tailO lo c.2.1 nrem
theorem UpS.more {p : Array Keyed} {k : Nat} (h : UpS key p lo k) (hk : O.blt (kb key p k) (kb key p (k - 1)) = false) : UpS key p lo (k + 1) := by
  intro i j hl hij hj
  by_cases hjk : j < k
  · exact h i j hl hij hjk
  · obtain rfl : j = k := by omega
    by_cases hi : i = j
    · rw [hi]; exact KeyOrd.kle_refl _
    · exact KeyOrd.kle_trans (h i (j - 1) hl (by omega) (by omega)) hk
theorem DnS.more {p q : Array Keyed} {k : Nat} (h : DnS key p lo k) (e : ∀ i, kb key q i = kb key p i) (hk : O.kle (kb key p k) (kb key p (k - 1))) : DnS key q lo (k + 1) := by
  intro i j hl hij hj
  rw [e, e]
  by_cases hjk : j < k
  · exact h i j hl hij hjk
  · obtain rfl : j = k := by omega
    by_cases hi : i = j
    · rw [hi]; exact KeyOrd.kle_refl _
    · exact KeyOrd.kle_trans hk (h i (j - 1) hl (by omega) (by omega))
theorem ascO_wp {st : SortSt} {a nrem : Nat} {Q : AscSt → SortSt → Prop} (hc : Cmps prog w A s κ key D) (hD : ∀ x ∈ a₀.toList, D x) (hn : lo + nrem ≤ a₀.size) (ha : 1 ≤ a) (han : a ≤ nrem) (hB : Bs κ a₀ pd lo st)
    (hs : UpS key (arrOf st) lo (lo + a)) (h : ∀ n, a ≤ n → n ≤ nrem → UpS key (arrOf st) lo (lo + n) → (n = nrem ∨ O.klt (kb key (arrOf st) (lo + n)) (kb key (arrOf st) (lo + n - 1))) → Q (none, n) st) :
    wpS (model prog w) A E s (ascO lo a nrem) Q st := by
  unfold ascO
  refine wpS_forRange (I := fun x c st' => st' = st ∧ c = (none, x) ∧ UpS key (arrOf st) lo (lo + x)) ?step ?fin ⟨rfl, rfl, hs⟩
  case fin =>
    rintro c st' ⟨rfl, rfl, hs'⟩
    rw [show max a nrem = nrem by omega] at hs' ⊢
    exact h nrem han (Nat.le_refl _) hs' (.inl rfl)
  case step =>
    rintro x c st' hax hxn ⟨rfl, rfl, hs'⟩
    dsimp only
    refine wpS_bind (lt_wp hc hD hB (by omega) (by omega) ?_)
    dsimp only
    cases e : O.blt (kb key (arrOf st') (lo + x)) (kb key (arrOf st') (lo + x - 1)) with
    | true =>
      rw [if_pos rfl]
      exact wpS_pure (h x hax (by omega) hs' (.inr e))
    | false =>
      rw [if_neg (by decide)]
      exact wpS_pure ⟨rfl, rfl, hs'.more e⟩
theorem rev_wp {st : SortSt} {i j : Nat} {Q : Unit → SortSt → Prop} (h : Q () (setArr st (mirror (arrOf st) i j ((j - i) / 2)))) : wpS (model prog w) A E s (reverseSlice' i j) Q st := by
  rw [reverseSlice'_eq]; exact wpS_modify h
theorem tailO_wp {st : SortSt} {n nrem : Nat} {Q : Option Nat → SortSt → Prop} (hc : Cmps prog w A s κ key D) (hD : ∀ x ∈ a₀.toList, D x) (hn : lo + nrem ≤ a₀.size) (h1 : 1 ≤ n) (hnn : n ≤ nrem) (hB : Bs κ a₀ pd lo st)
    (hs : DnS key (arrOf st) lo (lo + n)) (h : ∀ m st', Bs κ a₀ pd lo st' → 1 ≤ m → m ≤ nrem → UpS key (arrOf st') lo (lo + m) → Q (some m) st') : wpS (model prog w) A E s (tailO lo n nrem) Q st := by
  unfold tailO
  have hz := hB.size
  refine wpS_bind (rev_wp ?_)
  have hB' := hB.rev (i := lo) (j := lo + n) (Nat.le_refl _) (by omega)
  refine wpS_bind (ascO_wp hc hD hn h1 hnn hB' ?_ fun m hm1 hm2 hsm _ => wpS_pure (h m _ hB' (by omega) hm2 hsm))
  intro i j hl hij hj
  show O.kle (kb key (mirror (arrOf st) lo (lo + n) ((lo + n - lo) / 2)) i) (kb key (mirror (arrOf st) lo (lo + n) ((lo + n - lo) / 2)) j)
  rw [kb_rev (by omega), kb_rev (by omega), if_pos (by omega), if_pos (by omega)]
  exact hs _ _ (by omega) (by omega) (by omega)
theorem dscO_wp {st : SortSt} {n nrem : Nat} {Q : Option Nat → SortSt → Prop} (hc : Cmps prog w A s κ key D) (hD : ∀ x ∈ a₀.toList, D x) (hn : lo + nrem ≤ a₀.size) (hnn : n + 1 ≤ nrem) (hB : Bs κ a₀ pd lo st)
    (hs : DnS key (arrOf st) lo (lo + (n + 1))) (h : ∀ m st', Bs κ a₀ pd lo st' → 1 ≤ m → m ≤ nrem → UpS key (arrOf st') lo (lo + m) → Q (some m) st') : wpS (model prog w) A E s (dscO lo n nrem) Q st := by
  unfold dscO
  refine wpS_bind (wpS_lift (wpAny_rule ⟨rfl, ?_⟩))
  have fin : ∀ m q st', Bs κ a₀ pd lo st' → 1 ≤ m → m ≤ nrem → DnS key (arrOf st') lo (lo + m) → q + 1 ≤ m → (∀ i, lo + m - (q + 1) ≤ i → i < lo + m → kb key (arrOf st') i = kb key (arrOf st') (lo + m - 1)) →
      wpS (model prog w) A E s (if q > 0 then reverseSlice' (lo + m - (q + 1)) (lo + m) >>= fun _ => tailO lo m nrem else tailO lo m nrem) Q st' := fun m q st' hB' h1 h2 h3 h4 h5 => by
    have hz := hB'.size
    by_cases hq : q > 0
    · rw [if_pos hq]
      refine wpS_bind (rev_wp (tailO_wp hc hD hn h1 h2 (hB'.rev (by omega) (by omega)) ?_ h))
      intro i j hl hij hj
      show O.kle (kb key (mirror (arrOf st') _ _ _) j) (kb key (mirror (arrOf st') _ _ _) i)
      rw [kb_revE (by omega) h5, kb_revE (by omega) h5]
      exact h3 i j hl hij hj
    · rw [if_neg hq]
      exact tailO_wp hc hD hn h1 h2 hB' h3 h
  refine wpS_bind (wpS_forRange (I := fun x c st' => ∃ q, c = (none, x, q) ∧ Bs κ a₀ pd lo st' ∧ DnS key (arrOf st') lo (lo + x) ∧ q + 1 ≤ x ∧
      (∀ i, lo + x - (q + 1) ≤ i → i < lo + x → kb key (arrOf st') i = kb key (arrOf st') (lo + x - 1))) ?step ?fn ⟨0, rfl, hB, hs, by omega, fun i h1 h2 => by congr 1; omega⟩)
  case fn =>
    rintro c st' ⟨q, rfl, hB', hs', hq, he⟩
    rw [show max (n + 1) nrem = nrem by omega] at hs' hq he ⊢
    exact fin nrem q st' hB' (by omega) (Nat.le_refl _) hs' hq he
  case step =>
    rintro x c st' hax hxn ⟨q, rfl, hB', hs', hq, he⟩
    dsimp only
    have hz := hB'.size
    refine wpS_bind (lt_wp hc hD hB' (by omega) (by omega) ?_)
    dsimp only
    cases e : O.blt (kb key (arrOf st') (lo + x)) (kb key (arrOf st') (lo + x - 1)) with
    | true =>
      rw [if_pos rfl]
      by_cases hq0 : q > 0
      · rw [if_pos hq0]
        refine wpS_bind (rev_wp (wpS_pure ⟨0, rfl, hB'.rev (by omega) (by omega), hs'.more (kb_revE (by omega) he) (KeyOrd.kle_of_klt e), by omega, fun i h1 h2 => by congr 1; omega⟩))
      · rw [if_neg hq0]
        exact wpS_pure ⟨0, rfl, hB', hs'.more (fun _ => rfl) (KeyOrd.kle_of_klt e), by omega, fun i h1 h2 => by congr 1; omega⟩
    | false =>
      rw [if_neg (by decide)]
      refine wpS_bind (lt_wp hc hD hB' (by omega) (by omega) ?_)
      dsimp only
      cases e2 : O.blt (kb key (arrOf st') (lo + x - 1)) (kb key (arrOf st') (lo + x)) with
      | true =>
        rw [if_pos rfl]
        exact wpS_pure (fin x q st' hB' (by omega) (by omega) hs' hq he)
      | false =>
        rw [if_neg (by decide)]
        have eq : kb key (arrOf st') (lo + x) = kb key (arrOf st') (lo + x - 1) := KeyOrd.kle_antisymm e2 e
        refine wpS_pure ⟨q + 1, rfl, hB', hs'.more (fun _ => rfl) (by rw [eq]; exact KeyOrd.kle_refl _), by omega, fun i h1 h2 => ?_⟩
        rw [show lo + (x + 1) - 1 = lo + x by omega]
        by_cases hix : i = lo + x
        · rw [hix]
        · rw [eq]; exact he i (by omega) (by omega)
set_option smartUnfolding false in
theorem cntO_wp {st : SortSt} {nrem : Nat} {Q : Option Nat → SortSt → Prop} (hc : Cmps prog w A s κ key D) (hD : ∀ x ∈ a₀.toList, D x) (hn : lo + nrem ≤ a₀.size) (h1 : 1 ≤ nrem) (hB : Bs κ a₀ pd lo st)
    (h : ∀ m st', Bs κ a₀ pd lo st' → 1 ≤ m → m ≤ nrem → UpS key (arrOf st') lo (lo + m) → Q (some m) st') : wpS (model prog w) A E s (countRun' lo nrem) Q st := by
  rw [countRun'_eq]
  dsimp only
  have hz := hB.size
  refine wpS_bind (ascO_wp hc hD hn (Nat.le_refl 1) h1 hB (fun i j hl hij hj => by rw [show i = j by omega]; exact KeyOrd.kle_refl _) fun n hn1 hn2 hsn hor => ?_)
  dsimp only
  by_cases hnn : n = nrem
  · rw [if_pos (by simpa using hnn)]
    exact wpS_pure (h n st hB hn1 hn2 hsn)
  · rw [if_neg (by simpa using hnn)]
    have hlt := hor.resolve_left hnn
    by_cases hgt : n > 1
    · rw [if_pos hgt]
      refine wpS_bind (lt_wp hc hD hB (by omega) (by omega) ?_)
      dsimp only
      cases e : O.blt (kb key (arrOf st) lo) (kb key (arrOf st) (lo + n - 1)) with
      | true =>
        rw [if_pos rfl]
        exact wpS_pure (h n st hB hn1 hn2 hsn)
      | false =>
        rw [if_neg (by decide)]
        have hall : ∀ k, lo ≤ k → k < lo + n → kb key (arrOf st) k = kb key (arrOf st) (lo + n - 1) := fun k k1 k2 =>
          KeyOrd.kle_antisymm (hsn k (lo + n - 1) k1 (by omega) (by omega)) (KeyOrd.kle_trans e (hsn lo k (Nat.le_refl _) k1 k2))
        refine wpS_bind (rev_wp (dscO_wp hc hD hn (by omega) (hB.rev (Nat.le_refl _) (by omega)) ?_ h))
        intro i j hl hij hj
        show O.kle (kb key (mirror (arrOf st) _ _ _) j) (kb key (mirror (arrOf st) _ _ _) i)
        rw [kb_revE (by omega) hall, kb_revE (by omega) hall]
        by_cases hjn : j < lo + n
        · rw [hall i (by omega) (by omega), hall j (by omega) hjn]; exact KeyOrd.kle_refl _
        · obtain rfl : j = lo + n := by omega
          by_cases hi' : i = lo + n
          · rw [hi']; exact KeyOrd.kle_refl _
          · rw [hall i (by omega) (by omega)]; exact KeyOrd.kle_of_klt hlt
    · rw [if_neg hgt]
      obtain rfl : n = 1 := by omega
      refine dscO_wp hc hD hn (by omega) hB ?_ h
      intro i j hl hij hj
      by_cases hi' : i = j
      · rw [hi']; exact KeyOrd.kle_refl _
      · obtain rfl : i = lo := by omega
        obtain rfl : j = i + 1 := by omega
        exact KeyOrd.kle_of_klt hlt
end
end L2

namespace L2
open PySem PyProof.Rows
section
variable {prog : Program} {w : World} {A : Around} {E : Value → Shared → Prop} {s : Shared} {O : KeyOrd} {key : Keyed → O.α} {D : Keyed → Prop} {κ : SortKind} {a₀ : Array Keyed} {pd : Array (Nat × Nat × Nat)} {lo : Nat}
theorem kb_bub {p : Array Keyed} {k d : Nat} (hk : k < p.size) (hd : d ≤ k) (i : Nat) : kb key (bubble p k d) i = if i = k - d then kb key p k else if k - d < i ∧ i ≤ k then kb key p (i - 1) else kb key p i := by
  have e := getElem?_bubble (xs := p) hk d hd i
  by_cases h1 : i = k - d
  · rw [if_pos h1] at e ⊢; exact kb_congr e
  · rw [if_neg h1] at e ⊢
    by_cases h2 : k - d < i ∧ i ≤ k
    · rw [if_pos h2] at e ⊢; exact kb_congr e
    · rw [if_neg h2] at e ⊢; exact kb_congr e
theorem mov_wp {st : SortSt} {i j : Nat} {Q : Unit → SortSt → Prop} (h : Q () (setArr st (bubble (arrOf st) i (i - j)))) : wpS (model prog w) A E s (moveDown' i j) Q st := by
  rw [moveDown'_eq]; exact wpS_modify h
theorem binO_wp {st : SortSt} {n ok : Nat} {Q : Bool → SortSt → Prop} (hc : Cmps prog w A s κ key D) (hD : ∀ x ∈ a₀.toList, D x) (hn : lo + n ≤ a₀.size) (hok : ok ≤ n) (h1 : 1 ≤ ok) (hB : Bs κ a₀ pd lo st)
    (hs : UpS key (arrOf st) lo (lo + ok)) (h : ∀ st', Bs κ a₀ pd lo st' → UpS key (arrOf st') lo (lo + n) → Q true st') : wpS (model prog w) A E s (binarySort' lo n ok) Q st := by
  rw [binarySort'_eq]
  rw [show max ok 1 = ok by omega]
  refine wpS_bind (wpS_forRange (I := fun k c st' => c = (none, ()) ∧ Bs κ a₀ pd lo st' ∧ UpS key (arrOf st') lo (lo + k)) ?step ?fin ⟨rfl, hB, hs⟩)
  case fin =>
    rintro c st' ⟨rfl, hB', hs'⟩
    rw [show max ok n = n by omega] at hs'
    exact wpS_pure (h st' hB' hs')
  case step =>
    rintro k c st' hk1 hk2 ⟨rfl, hB', hs'⟩
    dsimp only
    have hz := hB'.size
    have fin : ∀ l, l ≤ k → (∀ i, lo ≤ i → i < lo + l → O.kle (kb key (arrOf st') i) (kb key (arrOf st') (lo + k))) → (∀ i, lo + l ≤ i → i < lo + k → O.klt (kb key (arrOf st') (lo + k)) (kb key (arrOf st') i)) →
        Bs κ a₀ pd lo (setArr st' (bubble (arrOf st') (lo + k) (lo + k - (lo + l)))) ∧ UpS key (arrOf (setArr st' (bubble (arrOf st') (lo + k) (lo + k - (lo + l))))) lo (lo + (k + 1)) := fun l hl b1 b2 => by
      refine ⟨hB'.bub (by omega) (by omega), fun i j hli hij hj => ?_⟩
      show O.kle (kb key (bubble (arrOf st') (lo + k) (lo + k - (lo + l))) i) (kb key (bubble (arrOf st') (lo + k) (lo + k - (lo + l))) j)
      rw [kb_bub (by omega) (by omega), kb_bub (by omega) (by omega), show lo + k - (lo + k - (lo + l)) = lo + l by omega]
      repeat' split
      all_goals first
        | (exfalso; omega)
        | exact KeyOrd.kle_refl _
        | exact b1 _ (by omega) (by omega)
        | exact KeyOrd.kle_of_klt (b2 _ (by omega) (by omega))
        | exact hs' _ _ (by omega) (by omega) (by omega)
    refine wpS_bind (wpS_loop (st := st') (I := fun t c => ∃ l r, c = (none, l, r) ∧ l ≤ r ∧ r ≤ k ∧ r - l ≤ k - t ∧ (∀ i, lo ≤ i → i < lo + l → O.kle (kb key (arrOf st') i) (kb key (arrOf st') (lo + k))) ∧ (∀ i, lo + r ≤ i → i < lo + k → O.klt (kb key (arrOf st') (lo + k)) (kb key (arrOf st') i))) ?_ ?_
      ⟨0, k, rfl, Nat.zero_le _, Nat.le_refl _, by omega, fun i i1 i2 => by omega, fun i i1 i2 => by omega⟩)
    · rintro t c ht ⟨l, r, rfl, a1, a2, a3, a4, a5⟩
      dsimp only
      by_cases hg : l ≥ r
      · rw [if_pos hg]
        obtain rfl : l = r := by omega
        exact wpS_pure ⟨rfl, wpS_bind (mov_wp (wpS_pure ⟨rfl, fin l a2 a4 a5⟩))⟩
      · rw [if_neg hg]
        refine wpS_bind (lt_wp hc hD hB' (by omega) (by omega) ?_)
        dsimp only
        cases e : O.blt (kb key (arrOf st') (lo + k)) (kb key (arrOf st') (lo + (l + r) / 2)) with
        | true =>
          rw [if_pos rfl]
          exact wpS_pure ⟨rfl, _, _, rfl, by omega, by omega, by omega, a4, fun i i1 i2 => KeyOrd.klt_of_klt_of_kle e (hs' _ _ (by omega) i1 i2)⟩
        | false =>
          rw [if_neg (by decide)]
          exact wpS_pure ⟨rfl, _, _, rfl, by omega, by omega, by omega, fun i i1 i2 => KeyOrd.kle_trans (hs' i (lo + (l + r) / 2) i1 (by omega) (by omega)) e, a5⟩
    · rintro c ⟨l, r, rfl, a1, a2, a3, a4, a5⟩
      obtain rfl : l = r := by omega
      exact wpS_bind (mov_wp (wpS_pure ⟨rfl, fin l a2 a4 a5⟩))
structure RJ (O : KeyOrd) (key : Keyed → O.α) (κ : SortKind) (a₀ : Array Keyed) (tl : List Keyed) (m : Nat) (st : SortSt) : Prop where
  perm : (arrOf st).toList.Perm a₀.toList
  kind : kindOf st = κ
  failed : failedOf st = none
  runs : ∃ C, (arrOf st).toList = C ++ tl ∧ C.length = m ∧ RunsL (Upw O key) (pendingOf st).toList 0 C
theorem RJ.mAt {st : SortSt} {tl : List Keyed} {m i : Nat} (hc : Cmps prog w A s κ key D) (hD : ∀ x ∈ a₀.toList, D x) (h : RJ O key κ a₀ tl m st) (hi : i + 1 < (pendingOf st).size) {Q : Bool → SortSt → Prop}
    (hQ : ∀ st', RJ O key κ a₀ tl m st' → (pendingOf st').size + 1 = (pendingOf st).size → Q true st') : wpS (model prog w) A E s (mergeAt' i) Q st := by
  obtain ⟨hp, hk, hf, C, hC, hm, hr⟩ := h
  have g1 : (pendingOf st).toList[i]? = some (pendingOf st)[i] := by simp [show i < (pendingOf st).size by omega]
  have g2 : (pendingOf st).toList[i + 1]? = some (pendingOf st)[i + 1] := by simp [hi]
  obtain ⟨L, T, e, hL⟩ := snd_of g1 g2
  rw [e] at hr
  obtain ⟨l1, X, Y, l2, rfl, b1, b2, b3, b4, b5, b6, b7, b8, b9⟩ := hr.two
  generalize (pendingOf st)[i] = u at *
  generalize (pendingOf st)[i + 1] = v at *
  obtain ⟨p, n, c⟩ := u
  obtain ⟨q, m', c'⟩ := v
  refine mAt_wp (X := X) (Y := Y) (l1 := l1) (l2 := l2 ++ tl) hc hk hf e hL (by rw [hC]; simp) b1 b2 b3 b4 b5 b6 b7 b8 (fun x hx => hD x (hp.mem_iff.mp hx)) fun st' M c1 c2 c3 c4 c5 c6 => hQ st' ⟨?_, c1, c2, l1 ++ (M ++ l2), by rw [c4]; simp, ?_, ?_⟩ ?_
  · refine List.Perm.trans ?_ hp
    rw [c4, hC]
    have := (c5.append_right (l2 ++ tl)).append_left l1
    simpa using this
  · have := c5.length_eq
    simp at this hm ⊢
    omega
  · rw [c3]
    exact b9 M c c6 (by rw [c5.length_eq, List.length_append])
  · rw [← Array.length_toList, ← Array.length_toList, c3, e]; simp; omega
theorem mod_last {α : Type} (f : α → α) (x : α) : ∀ (L : List α), (L ++ [x]).modify L.length f = L ++ [f x]
  | [] => rfl
  | y :: L => by
    show (y :: (L ++ [x])).modify (L.length + 1) f = _
    rw [List.modify_succ_cons, mod_last f x L]; rfl
theorem RJ.repower {st : SortSt} {tl : List Keyed} {m pw : Nat} (h : RJ O key κ a₀ tl m st) (f : Nat × Nat × Nat → Nat × Nat × Nat) (hf : ∀ a n c, f (a, n, c) = (a, n, pw)) :
    RJ O key κ a₀ tl m (setPending st ((pendingOf st).modify ((pendingOf st).size - 1) f)) := by
  obtain ⟨hp, hk, hf', C, hC, hm, hr⟩ := h
  refine ⟨hp, hk, hf', C, hC, hm, ?_⟩
  show RunsL (Upw O key) ((pendingOf st).modify ((pendingOf st).size - 1) f).toList 0 C
  rw [Array.toList_modify]
  rcases List.eq_nil_or_concat (pendingOf st).toList with e | ⟨L, ⟨a, n, c⟩, e⟩
  · rw [e] at hr ⊢
    rw [List.modify_nil]
    exact hr
  · rw [List.concat_eq_append] at e
    rw [e] at hr
    rw [← Array.length_toList, e, show (L ++ [(a, n, c)]).length - 1 = L.length by simp, mod_last, hf]
    exact hr.repower
theorem run_seg {st : SortSt} {C : List Keyed} {n : Nat} (hB : Bs κ a₀ pd lo st) (hl : lo + n ≤ a₀.size) (hC : a₀.toList.take lo = C) (hu : UpS key (arrOf st) lo (lo + n)) :
    ∃ S rest, (arrOf st).toList = C ++ (S ++ rest) ∧ S.length = n ∧ S.Pairwise (Upw O key) := by
  have hz := hB.size
  refine ⟨((arrOf st).toList.drop lo).take n, (arrOf st).toList.drop (lo + n), ?_, by rw [List.length_take, List.length_drop, Array.length_toList]; omega, ?_⟩
  · have e1 : (arrOf st).toList.take lo = C := by
      rw [← hC]
      apply List.ext_getElem?
      intro i
      rw [List.getElem?_take, List.getElem?_take]
      split
      · rename_i hi
        have := hB.pre i hi
        rw [Array.getElem?_toList, Array.getElem?_toList]; exact this
      · rfl
    have e2 := List.take_append_drop lo (arrOf st).toList
    have e3 := take_drop3 (arrOf st).toList (Nat.le_add_right lo n)
    rw [show lo + n - lo = n by omega] at e3
    rw [← e1, ← e3, e2]
  · rw [List.pairwise_iff_getElem]
    intro i j hi hj hij
    rw [List.length_take, List.length_drop, Array.length_toList] at hi hj
    have := hu (lo + i) (lo + j) (by omega) (by omega) (by omega)
    unfold kb at this
    simp only [Array.getD, show lo + i < (arrOf st).size by omega, show lo + j < (arrOf st).size by omega, dif_pos] at this
    rw [List.getElem_take, List.getElem_drop, List.getElem_take, List.getElem_drop]
    exact this
/-- what a turn does with a run that was found -/
def restT (z lo n : Nat) : StateT SortSt Sem (ForInStep (Option Unit × Nat)) :=
  get >>= fun y =>
  match (pendingOf y).back? with
  | some (s1, n1, _) =>
    (forIn [:z] ((none, ()) : Option Unit × Unit) fun _ _ => get >>= fun y =>
      match (if (pendingOf y).size > 1 then (pendingOf y)[(pendingOf y).size - 2]? else none) with
      | some (_, _, old) => (if old ≤ power' z (2 * s1 + n1) (2 * s1 + n1 + n1 + n) z then pure (ForInStep.done (none, ()))
        else mergeAt' ((pendingOf y).size - 2) >>= fun ok => if (!ok) = true then pure (ForInStep.done (some (), ())) else pure (ForInStep.yield (none, ())))
      | _ => pure (ForInStep.done (none, ()))) >>= fun c =>
    match c.1 with
    | some r => pure (ForInStep.done (some r, lo))
    | none => (modify fun s => setPending s ((pendingOf s).modify ((pendingOf s).size - 1) fun x => (x.1, x.2.1, power' z (2 * s1 + n1) (2 * s1 + n1 + n1 + n) z))) >>= fun _ =>
      (modify fun s => setPending s ((pendingOf s).push (lo, n, 0))) >>= fun _ => pure (ForInStep.yield (none, lo + n))
  | _ => (modify fun s => setPending s ((pendingOf s).push (lo, n, 0))) >>= fun _ => pure (ForInStep.yield (none, lo + n))
theorem RJ.push {st : SortSt} {S rest : List Keyed} {lo n : Nat} (h : RJ O key κ a₀ (S ++ rest) lo st) (hS : S.length = n) (hn : 1 ≤ n) (hu : S.Pairwise (Upw O key)) : RJ O key κ a₀ rest (lo + n) (setPending st ((pendingOf st).push (lo, n, 0))) := by
  obtain ⟨hp, hk, hf', C, hC, hm, hr⟩ := h
  refine ⟨hp, hk, hf', C ++ S, by show (arrOf st).toList = _; rw [hC]; simp, by rw [List.length_append]; omega, ?_⟩
  show RunsL (Upw O key) ((pendingOf st).push (lo, n, 0)).toList 0 (C ++ S)
  rw [Array.toList_push]
  refine hr.append ⟨by show lo = 0 + C.length; omega, hn, S, [], by simp, hS, hu, rfl⟩
set_option smartUnfolding false in
theorem restT_wp {st : SortSt} {S rest : List Keyed} {z lo n : Nat} (hc : Cmps prog w A s κ key D) (hD : ∀ x ∈ a₀.toList, D x) (h : RJ O key κ a₀ (S ++ rest) lo st) (hS : S.length = n) (hn : 1 ≤ n) (hu : S.Pairwise (Upw O key))
    {Q : ForInStep (Option Unit × Nat) → SortSt → Prop} (hQ : ∀ st', RJ O key κ a₀ rest (lo + n) st' → Q (ForInStep.yield (none, lo + n)) st') : wpS (model prog w) A E s (restT z lo n) Q st := by
  unfold restT
  refine wpS_bind (wpS_get ?_)
  cases e : (pendingOf st).back? with
  | none => exact wpS_bind (wpS_modify (wpS_pure (hQ _ (h.push hS hn hu))))
  | some u =>
    obtain ⟨s1, n1, c1⟩ := u
    dsimp only
    refine wpS_bind (wpS_mono (wpS_forRange (a := 0) (I := fun _ c st' => c.1 = none ∧ RJ O key κ a₀ (S ++ rest) lo st') (Q := fun c st' => c.1 = none ∧ RJ O key κ a₀ (S ++ rest) lo st') ?step (fun _ _ z => z) ⟨rfl, h⟩) ?post)
    case post =>
      rintro ⟨_, _⟩ st' ⟨rfl, hr⟩
      exact wpS_bind (wpS_modify (wpS_bind (wpS_modify (wpS_pure (hQ _ ((hr.repower _ fun _ _ _ => rfl).push hS hn hu))))))
    case step =>
      rintro x ⟨_, _⟩ st' _ hx ⟨rfl, hr⟩
      refine wpS_bind (wpS_get ?_)
      by_cases hg : (pendingOf st').size > 1
      · rw [if_pos hg]
        have e2 : (pendingOf st')[(pendingOf st').size - 2]? = some (pendingOf st')[(pendingOf st').size - 2] := Array.getElem?_eq_getElem (by omega)
        rw [e2]
        generalize (pendingOf st')[(pendingOf st').size - 2] = u
        obtain ⟨u1, u2, old⟩ := u
        dsimp only
        by_cases ho : old ≤ power' z (2 * s1 + n1) (2 * s1 + n1 + n1 + n) z
        · rw [if_pos ho]
          exact wpS_pure ⟨rfl, hr⟩
        · rw [if_neg ho]
          refine wpS_bind (hr.mAt hc hD (by omega) fun st2 h2 _ => ?_)
          rw [if_neg (by decide)]
          exact wpS_pure ⟨rfl, h2⟩
      · rw [if_neg hg]
        exact wpS_pure ⟨rfl, hr⟩
theorem minRun_pos (z : Nat) (h : 1 ≤ z) : 1 ≤ minRun' z z 0 := by
  have : ∀ (f n r : Nat), 1 ≤ n → 1 ≤ minRun' f n r := by
    intro f
    induction f with
    | zero => intro n r h; show 1 ≤ n + r; omega
    | succ f ih =>
      intro n r h
      rw [minRun'_succ]
      split
      · omega
      · exact ih _ _ (by omega)
  exact this z z 0 h
set_option smartUnfolding false in
theorem sortRuns_wp {st : SortSt} {Q : Unit → SortSt → Prop} (hc : Cmps prog w A s κ key D) (hD : ∀ x ∈ a₀.toList, D x) (ha : arrOf st = a₀) (hk : kindOf st = κ) (hf : failedOf st = none) (hp : pendingOf st = #[])
    (h : ∀ st', (arrOf st').toList.Perm a₀.toList → failedOf st' = none → (arrOf st').toList.Pairwise (Upw O key) → Q () st') : wpS (model prog w) A E s sortRuns' Q st := by
  rw [sortRuns'_eq]
  refine wpS_bind (wpS_get ?_)
  dsimp only
  rw [ha]
  refine wpS_bind (wpS_mono (wpS_forRange (a := 0) (I := fun x c st' => c.1 = none ∧ x ≤ c.2 ∧ c.2 ≤ a₀.size ∧ ∃ tl, RJ O key κ a₀ tl c.2 st')
    (Q := fun c st' => c = (none, a₀.size) ∧ ∃ tl, RJ O key κ a₀ tl a₀.size st') ?step ?fin ?init) ?post)
  case init => exact ⟨rfl, Nat.le_refl _, Nat.zero_le _, a₀.toList, by rw [ha], hk, hf, [], by rw [ha]; rfl, rfl, by rw [hp]; rfl⟩
  case fin =>
    rintro ⟨_, lo⟩ st' ⟨rfl, h1, h2, tl, hr⟩
    dsimp only at h1 h2 hr
    obtain rfl : lo = a₀.size := by omega
    exact ⟨rfl, tl, hr⟩
  case step =>
    rintro x ⟨_, lo⟩ st' _ hx ⟨rfl, h1, h2, tl, hr⟩
    dsimp only at h1 h2 hr ⊢
    by_cases hlo : lo ≥ a₀.size
    · rw [if_pos hlo]
      obtain rfl : lo = a₀.size := by omega
      exact wpS_pure ⟨rfl, tl, hr⟩
    · rw [if_neg hlo]
      obtain ⟨hp', hk', hf', C, hC, hCl, hrun⟩ := hr
      have hz : (arrOf st').size = a₀.size := by rw [← Array.length_toList, hp'.length_eq, Array.length_toList]
      have hD' : ∀ x ∈ (arrOf st').toList, D x := fun x hx => hD x (hp'.mem_iff.mp hx)
      have hB : Bs κ (arrOf st') (pendingOf st') lo st' := ⟨Array.Perm.refl _, hk', hf', rfl, fun _ _ => rfl⟩
      have hC0 : (arrOf st').toList.take lo = C := by rw [hC, ← hCl, List.take_left]
      refine wpS_bind (cntO_wp (pd := pendingOf st') hc hD' (by omega) (by omega) hB fun n st2 hB2 hn1 hn2 hs2 => ?_)
      dsimp only
      have go : ∀ n st3, Bs κ (arrOf st') (pendingOf st') lo st3 → 1 ≤ n → lo + n ≤ a₀.size → UpS key (arrOf st3) lo (lo + n) → wpS (model prog w) A E s (restT a₀.size lo n) (fun r st' =>
          match r with
          | ForInStep.done c' => c' = (none, a₀.size) ∧ ∃ tl, RJ O key κ a₀ tl a₀.size st'
          | ForInStep.yield c' => c'.1 = none ∧ x + 1 ≤ c'.2 ∧ c'.2 ≤ a₀.size ∧ ∃ tl, RJ O key κ a₀ tl c'.2 st') st3 := fun n st3 hB3 b1 b2 b3 => by
        obtain ⟨S, rest, d1, d2, d3⟩ := run_seg hB3 (by omega) hC0 b3
        refine restT_wp hc hD ⟨(Array.perm_iff_toList_perm.mp hB3.perm).trans hp', hB3.kind, hB3.failed, C, d1, hCl, by rw [hB3.pend]; exact hrun⟩ d2 b1 d3 fun st4 h4 => ⟨rfl, by show x + 1 ≤ lo + n; omega, b2, rest, h4⟩
      have hmp := minRun_pos a₀.size (by omega)
      by_cases hlt : n < minRun' a₀.size a₀.size 0
      · rw [if_pos hlt]
        refine wpS_bind (wpS_lift (wpAny_rule ⟨rfl, ?_⟩))
        refine wpS_bind (binO_wp hc hD' (by omega) (by omega) hn1 hB2 hs2 fun st3 hB3 hs3 => ?_)
        rw [if_neg (by decide)]
        exact go _ st3 hB3 (by omega) (by omega) hs3
      · rw [if_neg hlt]
        exact go n st2 hB2 hn1 (by omega) hs2
  case post =>
    rintro c st' ⟨rfl, tl, hr⟩
    dsimp only
    have hps : (pendingOf st').size ≤ a₀.size := by
      obtain ⟨_, _, _, C, _, hCl, hrun⟩ := hr
      have := hrun.len
      rw [Array.length_toList] at this
      omega
    refine wpS_bind (wpS_mono (wpS_forRange (a := 0) (I := fun x c st' => c.1 = none ∧ RJ O key κ a₀ tl a₀.size st' ∧ ((pendingOf st').size ≤ 1 ∨ (pendingOf st').size + x ≤ a₀.size))
      (Q := fun c st' => c.1 = none ∧ RJ O key κ a₀ tl a₀.size st' ∧ (pendingOf st').size ≤ 1) ?s2 ?f2 ⟨rfl, hr, .inr (by omega)⟩) ?p2)
    case f2 =>
      rintro ⟨_, _⟩ st2 ⟨rfl, h2, h3⟩
      exact ⟨rfl, h2, by omega⟩
    case s2 =>
      rintro x ⟨_, _⟩ st2 _ hx ⟨rfl, h2, h3⟩
      refine wpS_bind (wpS_get ?_)
      by_cases hg : (pendingOf st2).size ≤ 1
      · rw [if_pos hg]
        exact wpS_pure ⟨rfl, h2, hg⟩
      · rw [if_neg hg]
        have step : ∀ i, i + 1 < (pendingOf st2).size → wpS (model prog w) A E s (mergeAt' i >>= fun ok => if (!ok) = true then pure (ForInStep.done (some (), ())) else pure (ForInStep.yield ((none, ()) : Option Unit × Unit))) (fun r st' =>
            match r with
            | ForInStep.done c' => c'.1 = none ∧ RJ O key κ a₀ tl a₀.size st' ∧ (pendingOf st').size ≤ 1
            | ForInStep.yield c' => c'.1 = none ∧ RJ O key κ a₀ tl a₀.size st' ∧ ((pendingOf st').size ≤ 1 ∨ (pendingOf st').size + (x + 1) ≤ a₀.size)) st2 := fun i hi => by
          refine wpS_bind (h2.mAt hc hD hi fun st3 h3' h4 => ?_)
          rw [if_neg (by decide)]
          exact wpS_pure ⟨rfl, h3', by omega⟩
        by_cases hb : (if (pendingOf st2).size - 2 > 0 then Option.map (fun x => x.2.1) (pendingOf st2)[(pendingOf st2).size - 2 - 1]? else none).any (fun x => decide (x < (pendingOf st2)[(pendingOf st2).size - 2 + 1]?.elim 0 fun x => x.2.1)) = true
        · rw [if_pos hb]
          exact step _ (by
            by_cases hi : (pendingOf st2).size - 2 > 0
            · omega
            · rw [if_neg hi] at hb; cases hb)
        · rw [if_neg hb]
          exact step _ (by omega)
    case p2 =>
      rintro ⟨_, _⟩ st2 ⟨rfl, ⟨hp2, _, hf2, C, hC, hCl, hrun⟩, h3⟩
      refine wpS_pure (h st2 hp2 hf2 ?_)
      have ht : tl = [] := by
        have e1 := hp2.length_eq
        have e2 : (arrOf st2).toList.length = C.length + tl.length := by rw [hC, List.length_append]
        have e3 : a₀.toList.length = a₀.size := Array.length_toList
        exact List.eq_nil_of_length_eq_zero (by omega)
      subst ht
      rw [List.append_nil] at hC
      rw [hC]
      have hl : (pendingOf st2).toList.length ≤ 1 := by rw [Array.length_toList]; exact h3
      generalize (pendingOf st2).toList = P at hrun hl
      match P, hl with
      | [], _ => cases (hrun : C = []); exact .nil
      | [(a, n, c)], _ =>
        obtain ⟨_, _, S, l', rfl, _, hS, h5⟩ := hrun
        cases (h5 : l' = [])
        rw [List.append_nil]; exact hS
end
end L2

namespace L2
open PySem PySem.W PyProof.Rows
/-! sorted() of lists of any length -/
structure Sorts (prog : Program) (w : World) (A : Around) (s : Shared) (κ : SortKind) {O : KeyOrd} (key : Value → O.α) (vs : List Value) : Prop where
  kind : ∀ (E : Value → Shared → Prop) (Q : SortKind → Shared → Prop), Q κ s → wpAny (model prog w) A (keyKind' vs.toArray) Q E s
  cmp : ∀ x ∈ vs, ∀ y ∈ vs, ∀ C : Bool → Shared → Prop, C (O.blt (key x) (key y)) s → wpAny (model prog w) A (keyLt' κ x y) C (fun _ _ => False) s
section
variable {prog : Program} {w : World} {A : Around} {E : Value → Shared → Prop} {s : Shared} {vs : List Value} {O : KeyOrd} {key : Value → O.α} {κ : SortKind}
theorem zip_list : ((vs.toArray.zip vs.toArray) : Array Keyed).toList = vs.zip vs := by simp
theorem zip_snd : (vs.zip vs).map (·.2) = vs := List.map_snd_zip (Nat.le_refl _)
theorem vals_lsort {a : Addr} {k : Nat} {P : PySem.Fin → Shared → Prop} (ho : s.heap.get? a = some (seqObj "list" vs.toArray k)) (hz : vs.length ≤ sizeLine)
    (hS : 2 ≤ vs.length → ∀ h' : Heap, (∀ b o, b ≠ a → s.heap.get? b = some o → h'.get? b = some o) → Sorts prog w A { s with heap := h' } κ key vs)
    (h : ∀ us : List Value, us.Perm vs → us.Pairwise (fun x y => O.kle (key x) (key y)) → P (.done (.ret .none)) { s with heap := sortedHeap s.heap a vs us.toArray }) : wpAny (model prog w) A (Builtin.«list.sort» ⟨[.ref a], []⟩) P E s := by
  obtain ⟨c1, g1⟩ : ∃ c, (s.heap.update a (Obj.mapSeq fun _ => (#[] : Array Value))).get? a = some (seqObj "list" #[] c) := ⟨_, get?_update_seq ho fun _ => #[]⟩
  have g2 : (((s.heap.update a (Obj.mapSeq fun _ => (#[] : Array Value))).push (seqObj "tuple" vs.toArray 0)).push (seqObj "list" #[] 0)).get? a = some (seqObj "list" #[] c1) := Heap.get?_push_of_some _ (Heap.get?_push_of_some _ g1)
  have kp : ∀ b o, b ≠ a → s.heap.get? b = some o → (((s.heap.update a (Obj.mapSeq fun _ => (#[] : Array Value))).push (seqObj "tuple" vs.toArray 0)).push (seqObj "list" #[] 0)).get? b = some o := fun b o hb e =>
    Heap.get?_push_of_some _ (Heap.get?_push_of_some _ (by rw [Heap.get?_update_ne _ _ _ _ hb]; exact e))
  rw [list_sort_plain]
  refine wpAny_bind (listItems_at ho rfl (wpAny_bind (listUpdate_at ho rfl (wpAny_bind (seqEpoch_at g1 rfl (wpAny_bind (wpAny_newTuple (wpAny_bind (wpAny_newList (wpAny_holding ?_) (Nat.zero_le _))) hz)))) (by rw [List.size_toArray]; omega) (Nat.zero_le _))))
  show wpAny (model prog w) A _ P E { s with heap := ((s.heap.update a (Obj.mapSeq fun _ => (#[] : Array Value))).push (seqObj "tuple" vs.toArray 0)).push (seqObj "list" #[] 0) }
  dsimp only
  by_cases h2 : vs.toArray.size < 2
  · have hl2 : vs.length < 2 := by rw [List.size_toArray] at h2; exact h2
    rw [if_pos h2, if_pos h2]
    refine wpAny_bind (wpAny_pure ?_)
    rw [StateT.run_pure]
    refine wpAny_bind (wpAny_pure ?_)
    dsimp only
    have e : (arrOf (SortSt.mk' general' (vs.toArray.zip vs.toArray) #[] 7 none)).map (·.2) = vs.toArray := by
      show (vs.toArray.zip vs.toArray).map (·.2) = _
      apply Array.toList_inj.mp
      rw [Array.toList_map, zip_list, zip_snd]
    rw [e]
    refine wpAny_bind (seqEpoch_at g2 rfl (wpAny_bind (listUpdate_at g2 rfl ?_ (Nat.zero_le _) (by rw [List.size_toArray]; omega))))
    simp only [bne_self_eq_false, Bool.false_eq_true, if_false]
    refine wpAny_pure (h vs (.refl _) ?_)
    match vs, hl2 with
    | [], _ => exact .nil
    | [_], _ => exact List.pairwise_singleton _ _
  · have hl2 : 2 ≤ vs.length := by rw [List.size_toArray] at h2; omega
    rw [if_neg h2, if_neg h2]
    have S := hS hl2 _ kp
    refine wpAny_bind (S.kind _ _ ?_)
    have run := sortRuns_wp (prog := prog) (w := w) (A := A) (E := E) (κ := κ) (O := O) (key := fun p => key p.1) (D := fun p => p.1 = p.2 ∧ p.1 ∈ vs) (a₀ := vs.toArray.zip vs.toArray)
      (s := { s with heap := ((s.heap.update a (Obj.mapSeq fun _ => (#[] : Array Value))).push (seqObj "tuple" vs.toArray 0)).push (seqObj "list" #[] 0) })
      (st := SortSt.mk' κ (vs.toArray.zip vs.toArray) #[] 7 none)
      (Q := fun _ st' => failedOf st' = none ∧ (arrOf st').toList.Perm (vs.zip vs) ∧ (arrOf st').toList.Pairwise (Upw O fun p => key p.1))
      (fun x y hx hy C hC => S.cmp x.1 hx.2 y.1 hy.2 C hC) (fun x hx => by rw [zip_list] at hx; exact mem_zip_self hx) rfl rfl rfl rfl (fun st' a1 a2 a3 => ⟨a2, by rw [zip_list] at a1; exact a1, a3⟩)
    refine wpAny_bind (wpAny_mono run ?_ fun _ _ z => z)
    rintro ⟨⟨⟩, st'⟩ s' ⟨rfl, hf, hp, hu⟩
    dsimp only
    have hus : (arrOf st').map (·.2) = ((arrOf st').toList.map (·.2)).toArray := by
      apply Array.toList_inj.mp
      rw [Array.toList_map]
    have hperm : ((arrOf st').toList.map (·.2)).Perm vs := by
      have := hp.map (·.2)
      rw [zip_snd] at this
      exact this
    have hpw : ((arrOf st').toList.map (·.2)).Pairwise (fun x y => O.kle (key x) (key y)) := by
      rw [List.pairwise_map]
      refine hu.imp_of_mem fun {x y} hx hy q => ?_
      have e1 := (mem_zip_self (hp.mem_iff.mp hx)).1
      have e2 := (mem_zip_self (hp.mem_iff.mp hy)).1
      rw [← e1, ← e2]
      exact q
    rw [hus]
    refine wpAny_bind (seqEpoch_at g2 rfl (wpAny_bind (listUpdate_at g2 rfl ?_ (Nat.zero_le _) (by rw [List.size_toArray, hperm.length_eq]; omega))))
    rw [hf]
    simp only [bne_self_eq_false, Bool.false_eq_true, if_false]
    exact wpAny_pure (h _ hperm hpw)
theorem vals_sorted {l : Addr} {Q : Value → Shared → Prop} (hl : s.heap.IsList l vs.toArray) (hz : vs.length ≤ sizeLine)
    (hS : 2 ≤ vs.length → ∀ (A' : Around) (h' : Heap), (∀ b o, s.heap.get? b = some o → h'.get? b = some o) → Sorts prog w A' { s with heap := h' } κ key vs)
    (h : ∀ us : List Value, us.Perm vs → us.Pairwise (fun x y => O.kle (key x) (key y)) → Q (.ref (s.heap.objs.size + 1)) { s with heap := sortedAll s.heap vs us.toArray }) : wpAny (model prog w) A (call (.builtin "sorted") [.ref l]) Q E s := by
  refine Calls.call_function_entry kind_sorted plain_sorted entry_sorted (args_sorted1 _) ?_
  unfold Builtin.«sorted»
  refine wpAny_bind (m := checkCount "sorted" 1 1 _) (wpAny_pure (wpAny_bind (collect_list hl (wpAny_bind (wpAny_newList ?_ hz)) hz)))
  have hsz : ((s.heap.push (seqObj "list" #[] 0)).update s.heap.objs.size (Obj.mapSeq (· ++ vs.toArray))).objs.size = s.heap.objs.size + 1 := by rw [Heap.size_update, size_push']
  have keep : ∀ b o, s.heap.get? b = some o → (((s.heap.push (seqObj "list" #[] 0)).update s.heap.objs.size (Obj.mapSeq (· ++ vs.toArray))).push (seqObj "list" vs.toArray 0)).get? b = some o := fun b o q => by
    have n1 : b ≠ s.heap.objs.size := Nat.ne_of_lt (Heap.lt_size q)
    have n2 : b ≠ s.heap.objs.size + 1 := Nat.ne_of_lt (Nat.lt_succ_of_lt (Heap.lt_size q))
    rw [Heap.get?_push_ne _ _ _ (by rw [hsz]; exact n2), Heap.get?_update_ne _ _ _ _ n1, Heap.get?_push_ne _ _ _ n1]
    exact q
  have hoL : (((s.heap.push (seqObj "list" #[] 0)).update s.heap.objs.size (Obj.mapSeq (· ++ vs.toArray))).push (seqObj "list" vs.toArray 0)).get? (s.heap.objs.size + 1) = some (seqObj "list" vs.toArray 0) := by
    rw [← hsz]; exact Heap.get?_push_size _ rfl
  show wpAny _ _ _ _ _ { s with heap := ((s.heap.push (seqObj "list" #[] 0)).update s.heap.objs.size (Obj.mapSeq (· ++ vs.toArray))).push (seqObj "list" vs.toArray 0) }
  rw [hsz]
  refine wpAny_bind (wpAny_holding (wpAny_call_entry slot_list_sort ⟨_, hoL, rfl⟩ entry_list_sort (vals_lsort hoL hz (fun h2 h' kp => hS h2 _ h' fun b o q => kp b o (Nat.ne_of_lt (Nat.lt_succ_of_lt (Heap.lt_size q))) (keep b o q)) fun us a1 a2 => ⟨_, rfl, wpAny_pure ⟨_, rfl, h us a1 a2⟩⟩) (args_list_sort _)))
end
theorem TupsH.kept {h h' : Heap} {rs : List RA} (t : TupsH h rs) (kp : ∀ b o, h.get? b = some o → h'.get? b = some o) : TupsH h' rs := fun x hx => by
  obtain ⟨o, t1, u1, n, ho, z⟩ := t x hx
  exact ⟨o, t1, u1, n, kp _ _ ho, z⟩
section
variable {X : Cx}
end
end L2

namespace L2
open PySem PySem.W PyProof.Rows
section
variable {prog : Program} {w : World} {A : Around} {E : Value → Shared → Prop} {s : Shared}
theorem collect_src {T : String} {r d : Addr} {n : Nat} {P : Nat → Value → Prop} {OK : Heap → Prop} {Q : List Value → Shared → Prop} (S : KdlSrc prog w T r d n P OK) (hh : A.handled = none) (hok : OK s.heap) (hn : n ≤ sizeLine)
    (h : ∀ h' tk (acc : Array Value), (∀ b o, s.heap.get? b = some o → h'.get? b = some o) → s.heap.objs.size ≤ h'.objs.size → ItemsOf P acc n → Q acc.toList { s with heap := h', toks := tk }) : wpAny (model prog w) A (collect (.ref r)) Q E s := by
  unfold collect
  refine wpAny_bind (wpAny_runValue (codeAny_builtin entry_proto_collect' ?_))
  show wpAny _ _ (do again (.builtin "list.__iadd__" ⟨[← newList [], .ref r], []⟩)) _ _ s
  refine wpAny_bind (wpAny_newList (wpAny_pure ⟨Code.quiet_builtin _ (by decide +kernel), codeAny_builtin entry_list_iadd' ?_⟩))
  show wpAny _ _ (Builtin.List.listExtendWith (.ref s.heap.objs.size) (.ref r) (.ref s.heap.objs.size)) _ _ { s with heap := s.heap.push (seqObj "list" #[] 0) }
  have hS : (s.heap.push (seqObj "list" #[] 0)).get? s.heap.objs.size = some { cls := .type "list", data := .seq #[] 0 } := Heap.get?_push_size _ rfl
  rw [Around.under_plainId PySem.F.plain_list_iadd _]
  refine kdl_extend (A := A) (R := fun r s' => match r with
      | Except.ok (Flow.ret v) => wpAny (model prog w) A (match v with
        | .ref a => do match (← load a).data with
          | .seq xs _ => pure xs.toList
          | _ => unsupported "internal:collect"
        | _ => unsupported "internal:collect") Q E s'
      | Except.ok _ => False
      | Except.error e => E e s') (s := { s with heap := s.heap.push (seqObj "list" #[] 0) }) S hh (S.keep _ _ hok fun b _ o e => Heap.get?_push_of_some _ e) s.heap.objs.size (Nat.ne_of_gt (S.there _ hok).1) (Nat.ne_of_gt (S.there _ hok).2) (.ref s.heap.objs.size) 0 hS (fun h' tk acc c' hk hS' hacc => ?_) hn
  show wpAny (model prog w) A (do
      let o ← load s.heap.objs.size
      match o.data with
      | .seq xs _ => pure xs.toList
      | _ => unsupported "internal:collect") Q E { s with heap := h', toks := tk }
  refine wpAny_bind (wpAny_load hS' ?_)
  exact wpAny_pure (h h' tk acc (fun b o e => hk b o (Nat.ne_of_lt (Heap.lt_size e)) (Heap.get?_push_of_some _ e)) (Nat.le_of_lt (Heap.lt_size hS')) hacc)
/-- sorted() of what is collected -/
theorem vals_sortedC {c : Value} {O : KeyOrd} {key : Value → O.α} {κ : SortKind} {Q : Value → Shared → Prop} {G : List Value → Prop} (hh : A.handled = none)
    (hcol : ∀ (A' : Around), A'.handled = none → ∀ (E' : Value → Shared → Prop) (Q' : List Value → Shared → Prop), (∀ h' tk vs, (∀ b o, s.heap.get? b = some o → h'.get? b = some o) → s.heap.objs.size ≤ h'.objs.size → G vs → Q' vs { s with heap := h', toks := tk }) → wpAny (model prog w) A' (collect c) Q' E' s)
    (hz : ∀ vs, G vs → vs.length ≤ sizeLine) (hS : ∀ vs, G vs → 2 ≤ vs.length → ∀ (A' : Around) (s' : Shared), (∀ b o, s.heap.get? b = some o → s'.heap.get? b = some o) → Sorts prog w A' s' κ key vs)
    (h : ∀ (D : Addr) h' tk (vs us : List Value) (e : Nat), G vs → us.Perm vs → us.Pairwise (fun x y => O.kle (key x) (key y)) → (∀ b o, s.heap.get? b = some o → h'.get? b = some o) → s.heap.objs.size ≤ D → h'.get? D = some (seqObj "list" us.toArray e) → Q (.ref D) { s with heap := h', toks := tk }) :
    wpAny (model prog w) A (call (.builtin "sorted") [c]) Q E s := by
  refine Calls.call_function_entry kind_sorted plain_sorted entry_sorted (args_sorted1 _) ?_
  unfold Builtin.«sorted»
  refine wpAny_bind (m := checkCount "sorted" 1 1 _) (wpAny_pure (wpAny_bind (hcol A.in1 hh _ _ fun h1 tk vs kp hge hg => ?_)))
  refine wpAny_bind (wpAny_newList ?_ (hz vs hg))
  have hoL : (h1.push (seqObj "list" vs.toArray 0)).get? h1.objs.size = some (seqObj "list" vs.toArray 0) := Heap.get?_push_size _ rfl
  have keep : ∀ b o, s.heap.get? b = some o → (h1.push (seqObj "list" vs.toArray 0)).get? b = some o := fun b o q => Heap.get?_push_of_some _ (kp b o q)
  have ne : ∀ b o, s.heap.get? b = some o → b ≠ h1.objs.size := fun b o q => Nat.ne_of_lt (Heap.lt_size (kp b o q))
  show wpAny _ _ _ _ _ { s with heap := h1.push (seqObj "list" vs.toArray 0), toks := tk }
  refine wpAny_bind (wpAny_holding (wpAny_call_entry slot_list_sort ⟨_, hoL, rfl⟩ entry_list_sort (vals_lsort (κ := κ) (key := key) hoL (hz vs hg) (fun h2 h' kp' => hS vs hg h2 _ _ fun b o q => kp' b o (ne b o q) (keep b o q)) fun us a1 a2 => ⟨_, rfl, wpAny_pure ⟨_, rfl, ?_⟩⟩) (args_list_sort _)))
  obtain ⟨e, he⟩ := sortedHeap_at (out := us.toArray) hoL
  refine h h1.objs.size _ tk vs us e hg a1 a2 (fun b o q => ?_) hge he
  rw [sortedHeap_old (ne b o q) (Heap.lt_size (keep b o q))]
  exact keep b o q
end
def numH : Value → Int
  | .int i _ => i
  | _ => 0
def intO : KeyOrd where
  α := Int
  blt a b := decide (a < b)
  irrefl a := by simp
  trans a b c h1 h2 := by simp at h1 h2 ⊢; omega
  negTrans a b c h := by simp at h ⊢; omega
  total a b h1 h2 := by simp at h1 h2; omega
theorem ints_sorts {prog : Program} {w : World} {A : Around} {s : Shared} {vs : List Value} {ns : List Int} (h2 : 2 ≤ vs.length) (hi : IntsAre vs ns) : Sorts prog w A s oneType' (O := intO) numH vs where
  kind := fun E Q h => by
    match vs, h2, hi with
    | [], h2, _ => simp at h2
    | [_], h2, _ => simp at h2
    | v₁ :: v₂ :: rest, _, hi =>
      rw [keyKind_ints hi]
      exact wpAny_pure h
  cmp := by
    intro x hx y hy C hC
    obtain ⟨i, t, rfl⟩ := hi.all x hx
    obtain ⟨j, u, rfl⟩ := hi.all y hy
    rw [keyLt'_oneType]
    exact oneLt_int hC
theorem ints_perm {us vs : List Value} {ns : List Int} (hi : IntsAre vs ns) (h : us.Perm vs) : IntsAre us (us.map numH) ∧ (us.map numH).Perm ns := by
  have e : ∀ {vs : List Value} {ns : List Int}, IntsAre vs ns → vs.map numH = ns := fun {vs ns} h => by
    induction h with
    | nil => rfl
    | cons n t h ih => rw [List.map_cons, ih]; rfl
  refine ⟨?_, by have := h.map numH; rw [e hi] at this; exact this⟩
  have all : ∀ v ∈ us, ∃ n t, v = .int n t := fun v hv => hi.all v (h.mem_iff.mp hv)
  clear h
  induction us with
  | nil => exact .nil
  | cons v us ih =>
    obtain ⟨n, t, rfl⟩ := all v (List.mem_cons_self ..)
    exact .cons n t (ih fun u hu => all u (List.mem_cons_of_mem _ hu))
section
variable {X : Cx}
/-- sorted(ints), of any length -/
theorem call_sortedIB : CallR X (.builtin "sorted") (fun xs H Q => ∃ (p : Addr) (ns : List Int), xs = [.ref p] ∧ H p = some (.lst (ns.map V.int)) ∧
    ∀ (D : Addr) (ms : List Int), H D = none → ms.Perm ns → ms.Pairwise (· ≤ ·) → Q (.ref D) (upd H D (.lst (ms.map V.int)))) := by
  intro pins s σ H xs us Q I r h
  obtain ⟨p, ns, rfl, hp, q⟩ := h
  obtain ⟨u, rfl, ru⟩ := vals1 r
  cases ru
  obtain ⟨its, rv, pl, hz⟩ := I.list (SqL.of (K := X.K) hp)
  have hi := intsAre_of rv
  have hl := rv.length
  refine vals_sorted (O := intO) (key := numH) (κ := oneType') pl.isList (by omega) (fun h2 A' h' kp => ints_sorts h2 hi) fun us a1 a2 => ?_
  obtain ⟨c, hc⟩ := sortedAll_at s.heap its us.toArray
  have hn : H (s.heap.objs.size + 1) = none := I.hok.fresh (Nat.le_succ _)
  obtain ⟨j1, j2⟩ := ints_perm hi a1
  refine ⟨.ref (s.heap.objs.size + 1), _, I.laid (t' := s.toks) (o := .lst ((us.map numH).map V.int)) (fun b o => sortedAll_old) (Nat.le_succ _) ?_, rfl, q _ _ hn j2 ?_⟩
  · exact ⟨by rw [List.length_map, j2.length_eq]; rw [List.length_map] at hz; exact hz, us, c, vals_ints j1, hc⟩
  · rw [List.pairwise_map]
    refine a2.imp fun {x y} z => ?_
    have z' : decide (numH y < numH x) = false := z
    have := of_decide_eq_false z'
    omega
theorem keys_ints {prog : Program} {w : World} : ∀ {kvs : List (Key × Value)} {ns : List Int} {vs : List Value}, kvs.map (·.1) = ns.map Sum.inl → vs.length = kvs.length → (∀ (j : Nat) v, vs[j]? = some v → ∃ k x, kvs[j]? = some (k, x) ∧ (mixKind prog w).is k v = true) → IntsAre vs ns
  | [], ns, [], e, _, _ => by
    cases ns with
    | nil => exact .nil
    | cons _ _ => cases e
  | [], ns, _ :: _, _, hl, _ => by simp at hl
  | _ :: _, ns, [], _, hl, _ => by simp at hl
  | (k, x) :: kvs, ns, v :: vs, e, hl, h => by
    cases ns with
    | nil => cases e
    | cons n ns =>
      injection e with e1 e2
      obtain ⟨k', x', g, i⟩ := h 0 v rfl
      have g' : some (k, x) = some (k', x') := g
      cases g'
      have e1' : k = Sum.inl n := e1
      subst e1'
      obtain ⟨t, rfl⟩ : ∃ t, v = .int n t := by
        have i' : Value.isInt n v = true := i
        cases v with
        | int m t =>
          have : m = n := by simpa [Value.isInt] using i'
          exact ⟨t, by rw [this]⟩
        | _ => simp [Value.isInt] at i'
      exact .cons n t (keys_ints e2 (by simpa using hl) fun j v' hv => h (j + 1) v' hv)
/-- sorted(dict of ints): its keys -/
theorem call_sortedDI (hc : X.calm = true) : CallR X (.builtin "sorted") (fun xs H Q => ∃ (p : Addr) (kvs : List (Key × V)) (ns : List Int), xs = [.ref p] ∧ H p = some (.dK kvs) ∧ kvs.map (·.1) = ns.map Sum.inl ∧
    ∀ (D : Addr) (ms : List Int), H D = none → ms.Perm ns → ms.Pairwise (· < ·) → Q (.ref D) (upd H D (.lst (ms.map V.int)))) := by
  intro pins s σ H xs us Q I r h
  obtain ⟨p, kvs, ns, rfl, hp, hk, q⟩ := h
  obtain ⟨u, rfl, ru⟩ := vals1 r
  cases ru
  obtain ⟨hz, lo, vs, kv, hd⟩ := dk_of I.hok hp
  obtain ⟨ep, hd⟩ := hd.dictAt
  have hlen : kvs.length = vs.length := by have := congrArg List.length kv.keys; simpa using this
  have hkey : vs.map (·.1) = ns.map Sum.inl := by rw [← hk]; exact kv.keys.symm
  refine vals_sortedC (G := fun us => IntsAre us ns) (O := intO) (key := numH) (κ := oneType') (I.ok.hd hc) (fun A' hh E' Q' hq => collect_src (kdl_dict (ep := ep) lo) hh hd (by omega) fun h' tk acc kp hge ia => hq h' tk _ kp hge ?_) ?_ (fun us hi h2 A' s' _ => ints_sorts h2 hi) fun D h' tk vs' us e hg a1 a2 kp hge he => ?_
  · refine keys_ints hkey (by rw [Array.length_toList]; exact ia.1) fun j v hv => ia.2 j v (by rw [← Array.getElem?_toList]; exact hv)
  · intro us hi
    have := hi.length
    have l2 := congrArg List.length hk
    rw [List.length_map, List.length_map] at l2
    omega
  obtain ⟨j1, j2⟩ := ints_perm hg a1
  refine ⟨.ref D, _, I.laid (t' := tk) (o := .lst ((us.map numH).map V.int)) kp hge ?_, rfl, q _ _ (I.hok.fresh hge) j2 ?_⟩
  · have l2 := congrArg List.length hk
    rw [List.length_map, List.length_map] at l2
    exact ⟨by rw [List.length_map, j2.length_eq]; omega, us, e, vals_ints j1, he⟩
  · have nd : (us.map numH).Nodup := by
      refine j2.nodup_iff.mpr ?_
      have z := hd.nodup
      rw [hkey] at z
      exact (List.pairwise_map.mp z).imp fun {a b} h1 h2 => h1 (by rw [h2])
    have le : (us.map numH).Pairwise (· ≤ ·) := by
      rw [List.pairwise_map]
      refine a2.imp fun {x y} z => ?_
      have z' : decide (numH y < numH x) = false := z
      have := of_decide_eq_false z'
      omega
    exact (le.and nd).imp fun {a b} h => by have := h.1; have := h.2; omega
end
end L2

namespace L2
open PySem PySem.W PyProof.Rows
/-- places that rise -/
def Rises (xs : List Nat) : Prop := xs.Pairwise (· < ·)
theorem Rises.le {xs : Array Nat} (h : Rises xs.toList) {i k x y : Nat} (hi : xs[i]? = some x) (hk : xs[k]? = some y) (l : i ≤ k) : x ≤ y := by
  rcases Nat.lt_or_ge i k with l' | l'
  · rw [← Array.getElem?_toList] at hi hk
    obtain ⟨a, rfl⟩ := List.getElem?_eq_some_iff.mp hi
    obtain ⟨b, rfl⟩ := List.getElem?_eq_some_iff.mp hk
    exact Nat.le_of_lt (List.pairwise_iff_getElem.mp h i k a b l')
  · have e : i = k := by omega
    subst e
    rw [hi] at hk
    have := Option.some.inj hk
    omega
theorem below_go {xs : Array Nat} (hx : Rises xs.toList) {j : Nat} : ∀ (f lo hi : Nat), lo ≤ hi → hi ≤ xs.size → hi - lo ≤ f → (∀ i x, i < lo → xs[i]? = some x → x < j) → (∀ i x, hi ≤ i → xs[i]? = some x → j ≤ x) →
    (SetTable.below.go xs j f lo hi) ≤ xs.size ∧ (∀ i x, i < SetTable.below.go xs j f lo hi → xs[i]? = some x → x < j) ∧ (∀ i x, SetTable.below.go xs j f lo hi ≤ i → xs[i]? = some x → j ≤ x) := by
  intro f
  induction f with
  | zero =>
    intro lo hi h1 h2 h3 a b
    have e : lo = hi := by omega
    subst e
    exact ⟨h2, a, b⟩
  | succ f ih =>
    intro lo hi h1 h2 h3 a b
    unfold SetTable.below.go
    split
    · rename_i hl
      have hm : (lo + hi) / 2 < xs.size := by omega
      have em : xs[(lo + hi) / 2]? = some (xs[(lo + hi) / 2]) := Array.getElem?_eq_getElem hm
      have eg : xs.getD ((lo + hi) / 2) j = xs[(lo + hi) / 2] := by unfold Array.getD; rw [dif_pos hm]; rfl
      dsimp only
      rw [eg]
      split
      · rename_i hj
        refine ih _ _ (by omega) h2 (by omega) (fun i x hi' hxx => ?_) b
        exact Nat.lt_of_le_of_lt (hx.le hxx em (by omega)) hj
      · rename_i hj
        refine ih _ _ (by omega) (by omega) (by omega) a (fun i x hi' hxx => ?_)
        have := hx.le em hxx hi'
        omega
    · have e : lo = hi := by omega
      subst e
      exact ⟨h2, a, b⟩
theorem below_at {xs : Array Nat} (hx : Rises xs.toList) (j : Nat) : SetTable.below xs j ≤ xs.size ∧ (∀ i x, i < SetTable.below xs j → xs[i]? = some x → x < j) ∧ (∀ i x, SetTable.below xs j ≤ i → xs[i]? = some x → j ≤ x) := by
  unfold SetTable.below
  refine below_go hx _ _ _ (Nat.zero_le _) (Nat.le_refl _) (Nat.le_refl _) (fun i x h => absurd h (Nat.not_lt_zero _)) (fun i x h e => ?_)
  rw [Array.getElem?_eq_none h] at e
  cases e
/-- the place behind the i-th one is the next one's -/
theorem below_next {xs : Array Nat} (hx : Rises xs.toList) {i p : Nat} (h : xs[i]? = some p) : SetTable.below xs (p + 1) = i + 1 := by
  obtain ⟨b0, b1, b2⟩ := below_at hx (p + 1)
  rcases Nat.lt_trichotomy (SetTable.below xs (p + 1)) (i + 1) with l | l | l
  · have := b2 i p (by omega) h
    omega
  · exact l
  · have hs : i + 1 < xs.size := by omega
    have e1 := Array.getElem?_eq_getElem hs
    have := b1 (i + 1) _ l e1
    have hi : i < xs.size := by omega
    have e0 := Array.getElem?_eq_getElem hi
    rw [e0] at h
    have hp := Option.some.inj h
    have hlt : xs[i] < xs[i + 1] := by
      have := List.pairwise_iff_getElem.mp hx i (i + 1) (by simpa using hi) (by simpa using hs) (Nat.lt_succ_self _)
      simpa using this
    omega
theorem below_zero {xs : Array Nat} (hx : Rises xs.toList) : SetTable.below xs 0 = 0 := by
  obtain ⟨b0, b1, b2⟩ := below_at hx 0
  rcases Nat.eq_zero_or_pos (SetTable.below xs 0) with e | e
  · exact e
  · have hs : 0 < xs.size := by omega
    exact absurd (b1 0 _ e (Array.getElem?_eq_getElem hs)) (Nat.not_lt_zero _)
/-- what is no live slot has no place -/
theorem slot_free {t : SetTable} (ht : Rises t.place.toList) {j : Nat} (h : ∀ i, t.slot j ≠ .live i) : j ∉ t.place.toList := by
  intro hm
  obtain ⟨i, hi⟩ := List.getElem?_of_mem hm
  rw [Array.getElem?_toList] at hi
  obtain ⟨b0, b1, b2⟩ := below_at ht j
  have hbi : SetTable.below t.place j ≤ i := by
    rcases Nat.lt_or_ge i (SetTable.below t.place j) with l | l
    · exact absurd (b1 i j l hi) (Nat.lt_irrefl _)
    · exact l
  have his : i < t.place.size := by
    rcases Nat.lt_or_ge i t.place.size with l | l
    · exact l
    · rw [Array.getElem?_eq_none l] at hi; cases hi
  have eb := Array.getElem?_eq_getElem (show SetTable.below t.place j < t.place.size by omega)
  have e1 := b2 _ _ (Nat.le_refl _) eb
  have e2 := ht.le eb hi hbi
  refine h (SetTable.below t.place j) ?_
  unfold SetTable.slot
  dsimp only
  rw [eb, show t.place[SetTable.below t.place j] = j from by omega]
  simp
theorem put_up {t : SetTable} (ht : Rises t.place.toList) {j : Nat} (h : j ∉ t.place.toList) : Rises (t.put j).1.place.toList := by
  show Rises (SetTable.insertAt t.place (SetTable.below t.place j) j).toList
  rw [SetTable.toList_insertAt]
  obtain ⟨b0, b1, b2⟩ := below_at ht j
  have lo : ∀ x ∈ t.place.toList.take (SetTable.below t.place j), x < j := fun x hx => by
    obtain ⟨i, hi⟩ := List.getElem?_of_mem hx
    rw [List.getElem?_take] at hi
    split at hi
    · rename_i hl
      rw [Array.getElem?_toList] at hi
      exact b1 i x hl hi
    · cases hi
  have hi : ∀ x ∈ t.place.toList.drop (SetTable.below t.place j), j < x := fun x hx => by
    have hm := List.mem_of_mem_drop hx
    obtain ⟨i, hi⟩ := List.getElem?_of_mem hx
    rw [List.getElem?_drop, Array.getElem?_toList] at hi
    have := b2 _ x (Nat.le_add_right _ _) hi
    rcases Nat.lt_or_ge j x with l | l
    · exact l
    · exact absurd (show j = x by omega) (fun z => h (by rw [z]; exact hm))
  have e : Rises (t.place.toList.take (SetTable.below t.place j) ++ t.place.toList.drop (SetTable.below t.place j)) := by rw [List.take_append_drop]; exact ht
  obtain ⟨e1, e2, _⟩ := List.pairwise_append.mp e
  refine List.pairwise_append.mpr ⟨e1, List.pairwise_cons.mpr ⟨hi, e2⟩, fun a ha b hb => ?_⟩
  rcases List.mem_cons.mp hb with rfl | hb
  · exact lo a ha
  · exact Nat.lt_trans (lo a ha) (hi b hb)
theorem probe_free {t : SetTable} {h : Int} : ∀ (f : Nat) (p : SetTable.Probe), (∀ d, p.dummy = some d → t.slot d = .dummy) → ∀ j dm, SetTable.probe.go t (fun _ => h + 1) h f p = some (.empty j dm) → t.slot j = .empty ∧ ∀ d, dm = some d → t.slot d = .dummy := by
  intro f
  induction f with
  | zero => intro p _ j dm e; cases e
  | succ f ih =>
    intro p hp j dm e
    have adv : ∀ (q : SetTable.Probe), (t.advance q).dummy = q.dummy := fun q => by unfold SetTable.advance; split <;> rfl
    unfold SetTable.probe.go at e
    split at e
    · rename_i hs
      injection e with e
      injection e with e1 e2
      subst e1; subst e2
      exact ⟨hs, hp⟩
    · rename_i hs
      refine ih _ (fun d hd => ?_) j dm e
      rw [adv] at hd
      injection hd with hd
      rw [← hd]
      exact hs
    · rw [if_neg (by simp; omega)] at e
      refine ih _ (fun d hd => ?_) j dm e
      rw [adv] at hd
      exact hp d hd
theorem freeSlot_free {t : SetTable} (ht : Rises t.place.toList) {h : Int} {j : Nat} {b : Bool} (e : t.freeSlot h = some (j, b)) : j ∉ t.place.toList := by
  unfold SetTable.freeSlot at e
  split at e
  · rename_i j0 dm hp
    injection e with e
    obtain ⟨s1, s2⟩ := probe_free _ _ (fun d hd => by cases hd) _ _ hp
    injection e with e1 e2
    cases dm with
    | none =>
      have e1' : j0 = j := e1
      subst e1'
      exact slot_free ht fun i z => by rw [s1] at z; cases z
    | some d =>
      have e1' : d = j := e1
      subst e1'
      exact slot_free ht fun i z => by rw [s2 d rfl] at z; cases z
  · cases e
/-- a table whose places rise, of a maker led or not -/
def TbOk (b : Bool) (t : SetTable) : Prop := Rises t.place.toList ∧ t.led = b
theorem range_up : ∀ n, Rises (Array.range n).toList := fun n => by
  rw [Array.toList_range]
  exact List.pairwise_lt_range
theorem standIn_good {b : Bool} {t : SetTable} (n : Nat) (h : TbOk b t) : TbOk b (t.standIn n) := ⟨range_up n, h.2⟩
theorem orStandIn_good {b : Bool} {t : SetTable} (n : Nat) (h : TbOk b t) : TbOk b (t.orStandIn n) := by
  unfold SetTable.orStandIn
  split
  · exact h
  · exact standIn_good n h
theorem layNew_good {b : Bool} {t : SetTable} (h : TbOk b t) (es : Array (Int × Value)) (k : Int) (x : Value) : TbOk b (layNew t es k x).2.1 := by
  unfold layNew
  split
  · rename_i j wd hf
    exact orStandIn_good _ ⟨put_up h.1 (freeSlot_free h.1 hf), h.2⟩
  · exact standIn_good _ h
theorem live_up {f : Nat → Option Nat} : ∀ (n : Nat), Rises (((List.range n).filterMap fun j => (f j).map (j, ·)).map (·.1)) := by
  intro n
  have hr : (List.range n).Pairwise (· < ·) := List.pairwise_lt_range
  generalize List.range n = l at hr
  induction l with
  | nil => exact .nil
  | cons a l ih =>
    obtain ⟨h1, h2⟩ := List.pairwise_cons.mp hr
    cases hf : f a with
    | none => rw [List.filterMap_cons_none (by rw [hf]; rfl)]; exact ih h2
    | some v =>
      rw [List.filterMap_cons_some (b := (a, v)) (by rw [hf]; rfl), List.map_cons]
      refine List.pairwise_cons.mpr ⟨fun x hx => ?_, ih h2⟩
      obtain ⟨⟨y, z⟩, hy, rfl⟩ := List.mem_map.mp hx
      obtain ⟨c, hc, e⟩ := List.mem_filterMap.mp hy
      obtain ⟨_, _, e⟩ := Option.map_eq_some_iff.mp e
      injection e with e1 e2
      subst e1
      exact h1 _ hc
theorem relayAll_good {b : Bool} {t : SetTable} (h : TbOk b t) (es : Array (Int × Value)) (k : Nat) : TbOk b (relayAll t es k).2.1 := by
  unfold relayAll
  split
  · rename_i t' order hr
    dsimp only
    split
    · unfold SetTable.relaid SetTable.laid at hr
      obtain ⟨ow, _, e⟩ := Option.bind_eq_some_iff.mp hr
      have e' := Option.some.inj e
      have e1 := congrArg Prod.fst e'
      dsimp only at e1
      rw [← e1]
      exact ⟨live_up _, h.2⟩
    · exact standIn_good _ h
  · exact standIn_good _ h
end L2

namespace L2
open PySem PySem.W PyProof.Rows
/-- whether sets go by their places -/
def leds (w : World) : Bool := !w.params.followText "set-order"
section
variable (prog : Program) (w : World)
/-- entries and table of a set of the whole numbers ds -/
structure SetP (es : Array (Int × Value)) (t : SetTable) (ds : List Int) : Prop where
  el : ElemsOf (intKind prog w) es.toList
  ks : (es.toList.map fun e => numH e.2).Perm ds
  nd : ds.Nodup
  sz : es.size < scanBound
  ft : t.fits es.size = true
  tb : TbOk (leds w) t
def setObj (es : Array (Int × Value)) (ep : Nat) (t : SetTable) : Obj := { cls := .type "set", dict := none, data := .set es ep t }
/-- a set of the whole numbers ds -/
def SetI (a : Addr) (ds : List Int) (h : Heap) : Prop := ∃ es ep t, h.get? a = some (setObj es ep t) ∧ SetP prog w es t ds
end
section
variable {prog : Program} {w : World} {A : Around} {E : Value → Shared → Prop} {s : Shared} {es : Array (Int × Value)} {t : SetTable} {ds : List Int} {a : Addr}
theorem SetP.len (h : SetP prog w es t ds) : ds.length = es.size := by rw [← h.ks.length_eq, List.length_map, Array.length_toList]
theorem SetP.ints (h : SetP prog w es t ds) : ∀ e ∈ es.toList, ∃ k u, e.2 = .int k u := fun e he => by
  obtain ⟨⟨k, hk, _⟩, _⟩ := h.el e he
  obtain ⟨u, e⟩ := Value.isInt_shape (show Value.isInt k e.2 = true from hk)
  exact ⟨k, u, e⟩
theorem SetP.has (h : SetP prog w es t ds) (k : Int) : (∃ e ∈ es.toList, (intKind prog w).is k e.2 = true) ↔ k ∈ ds := by
  rw [← h.ks.mem_iff, List.mem_map]
  constructor
  · rintro ⟨e, he, hk⟩
    refine ⟨e, he, ?_⟩
    obtain ⟨u, e'⟩ := Value.isInt_shape (show Value.isInt k e.2 = true from hk)
    rw [e']; rfl
  · rintro ⟨e, he, hk⟩
    refine ⟨e, he, ?_⟩
    obtain ⟨m, u, e'⟩ := h.ints e he
    rw [e'] at hk ⊢
    have hk' : m = k := hk
    rw [hk']
    exact intKind_is prog w k u
theorem SetP.more (h : SetP prog w es t ds) {k : Int} (u : Tok) (hk : k ∉ ds) (hr : ds.length + 1 < scanBound) : SetP prog w (layNew t es (hashInt k) (.int k u)).1 (layNew t es (hashInt k) (.int k u)).2.1 (ds ++ [k]) := by
  have hp := layNew_perm t es (hashInt k) (.int k u)
  rw [Array.toList_push] at hp
  have hl := h.len
  refine ⟨(h.el.push (k := k) (intKind_is prog w k u) rfl).perm hp, ?_, ?_, ?_, layNew_fits .., layNew_good h.tb ..⟩
  · refine (hp.map _).trans ?_
    rw [List.map_append]
    exact h.ks.append_right _
  · refine List.nodup_append.mpr ⟨h.nd, List.nodup_cons.mpr ⟨List.not_mem_nil, .nil⟩, fun x hx y hy => ?_⟩
    rw [List.mem_singleton] at hy
    subst hy
    exact fun z => hk (by rw [← z]; exact hx)
  · rw [← Array.length_toList, hp.length_eq, List.length_append, Array.length_toList]
    show es.size + 1 < scanBound
    omega
theorem SetP.relay (h : SetP prog w es t ds) (n : Nat) : SetP prog w (relayAll t es n).1 (relayAll t es n).2.1 ds := by
  have hp := relayAll_perm t es n
  refine ⟨h.el.perm hp, (hp.map _).trans h.ks, h.nd, ?_, relayAll_fits .., relayAll_good h.tb ..⟩
  rw [← Array.length_toList, hp.length_eq, Array.length_toList]
  exact h.sz
theorem SetP.fresh : SetP prog w #[] (.fresh 0 0 (leds w)) [] := by
  refine ⟨fun e z => by simp at z, List.Perm.nil, List.Pairwise.nil, by decide, rfl, List.Pairwise.nil, rfl⟩
theorem stored {h : Heap} {ep : Nat} {es' : Array (Int × Value)} {t' : SetTable} (ho : h.get? a = some (setObj es ep t)) : (h.update a (Obj.putSet es' t')).get? a = some (setObj es' (ep + 1) t') :=
  Heap.get?_update_self (Obj.putSet es' t') ho rfl
/-- one more whole number -/
theorem wp_setAddI {k : Int} {u : Tok} {Q : Bool → Shared → Prop} (hS : SetI prog w a ds s.heap) (hr : ds.length + 1 < scanBound)
    (h : ∀ h', Heap.SameBut a s.heap h' → SetI prog w a (if k ∈ ds then ds else ds ++ [k]) h' → Q (decide (k ∉ ds)) { s with heap := h' }) :
    wpAny (model prog w) A (setAddHashed a (.int k u) (hashInt k)) Q E s := by
  obtain ⟨es, ep, t, ho, P⟩ := hS
  have hk : (intKind prog w).is k (.int k u) = true := intKind_is prog w k u
  unfold setAddHashed setAddHashedIn
  refine wpAny_holding (wpAny_bind (wpAny_setState_of ho rfl P.ft ?_))
  dsimp only
  rw [if_pos (byScan_of (knd := intKind prog w) rfl P.sz P.el)]
  unfold setAddByScan
  refine wpAny_bind (wpAny_bind (wpAny_rule (wpAny_bind (wpAny_setScan_of (knd := intKind prog w) hk ho rfl P.ft P.el ?_))))
  cases hf : es.toList.findIdx? (fun e => (intKind prog w).is k e.2) with
  | some j =>
    obtain ⟨hj, hpj, _⟩ := List.findIdx?_eq_some_iff_getElem.mp hf
    have hm : k ∈ ds := (P.has k).mp ⟨_, List.getElem_mem hj, hpj⟩
    refine wpAny_pure (wpAny_pure ?_)
    have z := h s.heap (Heap.SameBut.refl a s.heap) ⟨es, ep, t, ho, by rw [if_pos hm]; exact P⟩
    rw [decide_eq_false (fun c => c hm)] at z
    exact z
  | none =>
    have hm : k ∉ ds := fun z => by
      obtain ⟨e, he, w'⟩ := (P.has k).mpr z
      have := List.findIdx?_eq_none_iff.mp hf e he
      rw [w'] at this
      cases this
    have P1 := P.more u hm hr
    dsimp only
    generalize layNew t es (hashInt k) (.int k u) = L at P1 ⊢
    obtain ⟨es1, t1, wd, gv⟩ := L
    dsimp only at P1 ⊢
    have fin : ∀ h', Heap.SameBut a s.heap h' → SetI prog w a (ds ++ [k]) h' → Q true { s with heap := h' } := fun h' sb S' => by
      have z := h h' sb (by rw [if_neg hm]; exact S')
      rw [decide_eq_true hm] at z
      exact z
    refine wpAny_bind (wpAny_mono (Q := fun _ s' => s' = s) (E := E) (by cases gv <;> first | exact wpAny_pure rfl | exact wpAny_rule rfl) (fun _ s' e => ?_) fun _ _ z => z)
    subst e
    refine wpAny_ite_split (fun _ => wpAny_bind (wpAny_pure ?_)) (fun _ => wpAny_bind (wpAny_pure ?_))
    all_goals
      simp only [↓reduceIte]
      refine wpAny_bind (wpAny_storeSet_of ho rfl ?_ (fits_of_scanBound P1.sz))
      have o1 := stored (es' := es1) (t' := t1) ho
      have sb1 := Heap.SameBut.update s'.heap a (Obj.putSet es1 t1)
      split
      · have P2 := P1.relay (SetTable.grown es1.size)
        generalize relayAll t1 es1 (SetTable.grown es1.size) = L at P2 ⊢
        obtain ⟨es2, t2, gv2⟩ := L
        dsimp only at P2 ⊢
        refine wpAny_bind (wpAny_mono (Q := fun _ s2 => s2 = { s' with heap := s'.heap.update a (Obj.putSet es1 t1) }) (E := E) (by cases gv2 <;> first | exact wpAny_pure rfl | exact wpAny_rule rfl) (fun _ s2 e => ?_) fun _ _ z => z)
        subst e
        refine wpAny_bind (wpAny_storeSet_of o1 rfl ?_ (fits_of_scanBound P2.sz))
        refine wpAny_pure (wpAny_pure ?_)
        exact fin _ (sb1.trans (Heap.SameBut.update _ a _)) ⟨_, _, _, stored o1, P2⟩
      · refine wpAny_pure (wpAny_pure ?_)
        exact fin _ sb1 ⟨_, _, _, o1, P1⟩
end
end L2

namespace L2
open PySem PySem.W PyProof.Rows
def ins (ds : List Int) (k : Int) : List Int := if k ∈ ds then ds else ds ++ [k]
theorem ins_len (ds : List Int) (k : Int) : (ins ds k).length ≤ ds.length + 1 := by
  unfold ins
  split
  · exact Nat.le_succ _
  · rw [List.length_append]; exact Nat.le_refl _
theorem ins_mem {ds : List Int} {k x : Int} : x ∈ ins ds k ↔ x ∈ ds ∨ x = k := by
  unfold ins
  split
  · rename_i h
    exact ⟨.inl, fun z => z.elim id fun e => by rw [e]; exact h⟩
  · rw [List.mem_append, List.mem_singleton]
theorem folds_mem {x : Int} : ∀ (ns ds : List Int), x ∈ ns.foldl ins ds ↔ x ∈ ds ∨ x ∈ ns
  | [], ds => by simp
  | n :: ns, ds => by
    rw [List.foldl_cons, folds_mem ns, ins_mem, List.mem_cons]
    constructor
    · rintro ((h | h) | h)
      · exact .inl h
      · exact .inr (.inl h)
      · exact .inr (.inr h)
    · rintro (h | h | h)
      · exact .inl (.inl h)
      · exact .inl (.inr h)
      · exact .inr h
theorem SetI.at' {prog : Program} {w : World} {a : Addr} {ds : List Int} {h h' : Heap} (x : SetI prog w a ds h) (k : ∀ o, h.get? a = some o → h'.get? a = some o) : SetI prog w a ds h' :=
  let ⟨es, ep, t, ho, P⟩ := x
  ⟨es, ep, t, k _ ho, P⟩
section
variable {prog : Program} {w : World} {A : Around} {R : Result → Shared → Prop} {I : Addr} {fp wr : List Addr} {G : Array GenState → Array GenState → Prop} {n : Nat} {P : Nat → Value → Prop} {St : Nat → Shared → Prop}
theorem loop_setI (W : WalksS prog w A.in1 I fp wr G n P St) (S : Addr) (hSf : S ∉ fp) : ∀ (rest : List Int) (i : Nat) (ds : List Int) (s : Shared), i + rest.length = n → (∀ j k, rest[j]? = some k → ∀ v, P (i + j) v → ∃ t, v = .int k t) → ds.length + rest.length < scanBound → St i s → SetI prog w S ds s.heap →
    (∀ s', Moved (S :: wr) G s s' → SetI prog w S (rest.foldl ins ds) s'.heap → R (.ok (.ret .none)) s') → codeAny (model prog w) A (.builtin "set.update.loop" ⟨[.ref S, .ref I], []⟩) R s := by
  have off : S ∉ wr := fun z => hSf (W.sub _ z)
  have sub : ∀ b ∈ wr, b ∈ S :: wr := fun b hb => List.mem_cons_of_mem _ hb
  intro rest
  induction rest with
  | nil =>
    intro i ds s hi _ _ st hS hR
    have e : i = n := hi
    subst e
    refine codeAny_builtin F.entry_set_update_loop ?_
    rw [Around.under_plainId F.plain_set_update_loop _]
    show wpAny _ A.in1 (pyNext (.ref I) >>= _) _ _ s
    refine wpAny_bind (W.done s _ _ st fun s' m => ?_)
    exact wpAny_pure (hR s' (m.mono sub) (hS.at' fun o e => m.heap S o off e))
  | cons k rest ih =>
    intro i ds s hi hv hz st hS hR
    have hlt : i < n := by simp at hi; omega
    refine codeAny_builtin F.entry_set_update_loop ?_
    rw [Around.under_plainId F.plain_set_update_loop _]
    show wpAny _ A.in1 (pyNext (.ref I) >>= _) _ _ s
    refine wpAny_bind (W.item i s _ _ hlt st fun v s' hP st' m => ?_)
    obtain ⟨t, rfl⟩ := hv 0 k rfl v hP
    have S1 : SetI prog w S ds s'.heap := hS.at' fun o e => m.heap S o off e
    show wpAny _ A.in1 (holding [Value.int k t] (setAdd S (.int k t)) >>= _) _ _ s'
    refine wpAny_bind (wpAny_holding ?_)
    unfold setAdd
    refine wpAny_holding (wpAny_bind ((intKind prog w).pyHash (k := k) (intKind_is _ _ _ _) ?_))
    refine wp_setAddI (s := { s' with toks := s'.toks + 1 }) S1 (by rw [List.length_cons] at hz; omega) fun h' sb S2 => ?_
    refine wpAny_pure ⟨plainId_quiet F.plain_set_update_loop _, ih (i + 1) (ins ds k) _ (by rw [List.length_cons] at hi; omega) (fun j k' hj v' hp => hv (j + 1) k' hj v' (by rw [show i + (j + 1) = i + 1 + j by omega]; exact hp)) (by have := ins_len ds k; rw [List.length_cons] at hz; omega) (W.frame _ s' _ _ st' (Nat.le_succ _) fun b hb o e => ?_) S2 fun s'' m2 S3 => ?_⟩
    · rw [sb.2 b (fun z => hSf (by rw [← z]; exact hb))]; exact e
    · refine hR s'' (Moved.trans W.gtrans ((m.mono sub).then_heap (Nat.le_succ _) fun b o hb e => ?_) m2) S3
      rw [sb.2 b (fun z => hb (by rw [z]; exact List.mem_cons_self))]; exact e
end
section
variable {prog : Program} {w : World} {A : Around} {E : Value → Shared → Prop} {s : Shared}
theorem set_new (a : Value) {Q₁ : Value → Shared → Prop} (h : Q₁ (.ref s.heap.objs.size) { s with heap := s.heap.push (setObj #[] 0 (.fresh 0 0 (leds w))) }) :
    codeAny (model prog w) A (.call (.builtin "set.__new__") ⟨[.type "set", a], []⟩) (wants Q₁ E) s := by
  refine codeAny_of_tree ?_
  show wpAny _ A.in1 (do checkBuiltinCall "set.__new__" ⟨[.type "set", a], []⟩; again (.builtin "set.__new__" ⟨[.type "set", a], []⟩)) _ _ s
  refine wpAny_bind (wpAny_of_eq (F.newCall_set_1 a) (wpAny_pure ⟨plainId_quiet F.plain_set_new _, codeAny_builtin F.entry_set_new ?_⟩))
  rw [Around.under_plainId F.plain_set_new _]
  unfold Builtin.«set.__new__» Builtin.Frozenset.newClass
  have hsub := sub_set_self
  obtain ⟨hp, g, d, tk, os⟩ := s
  dsimp only
  wp_walk
  refine wpAny_askSetting (wpAny_pure ?_)
  dsimp only
  simp only [newObj]
  refine wpAny_bind (wpAny_alloc (wpAny_pure ?_))
  exact wpAny_pure h
end
end L2

namespace L2
open PySem PySem.W PyProof.Rows
section
variable {prog : Program} {w : World} {A : Around} {E : Value → Shared → Prop} {s : Shared}
end
end L2

namespace L2
open PySem PySem.W PyProof.Rows
theorem own_si : Manifest.owners.lookup (String.ofList ['r', 'o', 't', 'a', 'r', 'e', 't', 'i', '_', 't', 'e', 's'].reverse) = some Manifest.sig_set_iterator := by kernel_rfl
theorem slot_siN : Slot "set_iterator" "__next__" "set_iterator.__next__" :=
  .of (owner := "set_iterator") (n := "__next__") (by rw [typeLookup_type, builtinLookup_eq_fast]; kernel_rfl) (by decide +kernel) (by decide +kernel) (by decide +kernel) (.inl (by decide +kernel)) (by rw [isSubtype_type]; kernel_rfl)
theorem entry_siN : entryFor table "set_iterator.__next__" = some Builtin.«set_iterator.__next__» := entryFor_of_tree (by kernel_rfl)
theorem entry_setI : entryFor table "set.__iter__" = some Builtin.«frozenset.__iter__» := entryFor_alias (id' := "frozenset.__iter__") (by kernel_rfl) rfl (by decide +kernel) (by kernel_rfl)
theorem args_siN (a : Value) : argsOk "set_iterator.__next__" ⟨[a], []⟩ := by
  unfold argsOk
  rw [signature?_of (id := "set_iterator.__next__") (n := ['_', '_', 't', 'x', 'e', 'n', '_', '_']) (o := ['r', 'o', 't', 'a', 'r', 'e', 't', 'i', '_', 't', 'e', 's']) (by kernel_rfl) own_si]
  kernel_rfl
theorem out_perm {α : Type} {l : List α} {i : Nat} (h : i < l.length) : l.Perm (l[i] :: l.eraseIdx i) := by
  rw [List.eraseIdx_eq_take_drop_succ]
  refine List.Perm.trans ?_ List.perm_middle
  rw [← List.drop_eq_getElem_cons h, List.take_append_drop]
/-- a drawn order is an order of all -/
theorem pick_go {α : Type} (f : Nat → Nat) : ∀ (n k : Nat) (l : List α) (out : Array α), l.length = n → (pickOrder.go f n k l out).toList.Perm (out.toList ++ l)
  | 0, k, l, out, h => by
    cases l with
    | nil => unfold pickOrder.go; rw [List.append_nil]
    | cons _ _ => cases h
  | n + 1, k, l, out, h => by
    have hl : f k % l.length < l.length := Nat.mod_lt _ (by omega)
    unfold pickOrder.go
    rw [List.getElem?_eq_getElem hl]
    dsimp only
    refine (pick_go f n (k + 1) _ _ (by rw [List.length_eraseIdx_of_lt hl]; omega)).trans ?_
    rw [Array.toList_push, List.append_assoc]
    refine List.Perm.append_left _ ?_
    exact (out_perm hl).symm
theorem pick_perm {α : Type} (f : Nat → Nat) (xs : Array α) : (pickOrder f xs).toList.Perm xs.toList := by
  unfold pickOrder
  have := pick_go f xs.size 0 xs.toList #[] (by rw [Array.length_toList])
  simpa using this
section
variable {prog : Program} {w : World} {A : Around} {E : Value → Shared → Prop}
theorem wp_choose {src : Source} {n : Nat} {s : Shared} {Q : Nat → Shared → Prop} (hn : n ≠ 0) (h : ∀ i dr, i < n → Q i { s with drawn := dr }) : wpAny (model prog w) A (choose src n) Q E s :=
  fun _ _ _ => ⟨hn, h _ _ (Nat.mod_lt _ (Nat.pos_of_ne_zero hn))⟩
theorem wp_draw {α : Type} : ∀ (n : Nat) (xs : List α) (s : Shared) {Q : List α → Shared → Prop}, xs.length = n → (∀ ys dr, ys.Perm xs → Q ys { s with drawn := dr }) → wpAny (model prog w) A (drawOrder n xs) Q E s
  | 0, [], s, Q, _, h => wpAny_pure (h [] s.drawn (.refl _))
  | n + 1, x :: xs, s, Q, hl, h => by
    unfold drawOrder
    refine wpAny_bind (wp_choose (by simp) fun i dr hi => ?_)
    have hi' : i < (x :: xs).length := hi
    rw [List.getElem?_eq_getElem hi']
    dsimp only
    refine wpAny_bind (wp_draw n _ _ (by rw [List.length_eraseIdx_of_lt hi']; omega) fun ys dr2 hp => wpAny_pure ?_)
    exact h _ dr2 ((hp.cons _).trans (out_perm hi').symm)
  | 0, _ :: _, _, _, hl, _ => nomatch hl
  | _ + 1, [], _, _, hl, _ => nomatch hl
def siObj (f : Value) (i : Nat) (a : Addr) (n ep : Nat) : Obj := { cls := .type "set_iterator", data := .fields #[f, .int i 0, .ref a, .int n 0, .int ep 0] }
variable {s : Shared} {a it : Addr} {es : Array (Int × Value)} {ep : Nat} {t : SetTable} {ds : List Int}
/-- the way on by places -/
theorem wp_nextP {slot given ep' : Nat} {Q : Option (Value × Nat) → Shared → Prop} (ho : s.heap.get? a = some (setObj es ep t)) (P : SetP prog w es t ds) (hb : leds w = true) (hd : ¬ (t.plain = false ∧ 1 < es.size))
    (h : Q (match es[SetTable.below t.place slot]?, t.place[SetTable.below t.place slot]? with | some (_, x), some j => some (x, j + 1) | _, _ => none) s) : wpAny (model prog w) A (setNext a slot given ep') Q E s := by
  have hb' : w.params.followText "set-order" = false := by unfold leds at hb; simpa using hb
  unfold setNext
  refine wpAny_bind (wpAny_setState_of ho rfl P.ft ?_)
  dsimp only
  unfold setsByText
  refine wpAny_bind (wpAny_bind (wpAny_askSetting (wpAny_pure ?_)))
  show wpAny _ _ (if w.params.followText "set-order" = true then _ else _) _ _ _
  rw [if_neg (by rw [hb']; decide)]
  show wpAny _ _ (if (!t.plain && decide (es.size > 1)) = true then _ else _) _ _ _
  rw [if_neg (by intro z; simp at z; exact hd z)]
  refine wpAny_bind ?_
  show wpAny _ _ (if (!t.led && !es.isEmpty) = true then _ else pure ()) _ _ _
  rw [if_neg (by rw [P.tb.2, hb]; simp)]
  exact wpAny_pure (wpAny_pure h)
/-- the way on by the text -/
theorem wp_nextT {slot given : Nat} {Q : Option (Value × Nat) → Shared → Prop} (ho : s.heap.get? a = some (setObj es ep t)) (P : SetP prog w es t ds) (hb : leds w = false)
    (h : Q (((pickOrder (w.params.setOrder a ep) es)[given]?).map fun e => (e.2, slot)) s) : wpAny (model prog w) A (setNext a slot given ep) Q E s := by
  have hb' : w.params.followText "set-order" = true := by unfold leds at hb; simpa using hb
  unfold setNext
  refine wpAny_bind (wpAny_setState_of ho rfl P.ft ?_)
  dsimp only
  unfold setsByText
  refine wpAny_bind (wpAny_bind (wpAny_askSetting (wpAny_pure ?_)))
  show wpAny _ _ (if w.params.followText "set-order" = true then _ else _) _ _ _
  rw [if_pos hb', if_neg (by simp)]
  refine wpAny_bind ?_
  unfold setWalk
  refine wpAny_bind (wpAny_setState_of ho rfl P.ft ?_)
  dsimp only
  unfold setsByText
  refine wpAny_bind (wpAny_bind (wpAny_askSetting (wpAny_pure ?_)))
  show wpAny _ _ (if w.params.followText "set-order" = true then _ else _) _ _ _
  rw [if_pos hb']
  refine wpAny_bind (wpAny_askSetting (wpAny_pure (wpAny_pure h)))
theorem siT {f : Value} {i n : Nat} (hit : s.heap.get? it = some (siObj f i a n ep)) : s.TypeIs (.ref it) "set_iterator" := ⟨_, hit, rfl⟩
theorem next_int {slot i nx : Nat} {x : Value} {Q : Option Value → Shared → Prop} (hit : s.heap.get? it = some (siObj (.int slot 0) i a es.size ep)) (ho : s.heap.get? a = some (setObj es ep t)) (P : SetP prog w es t ds)
    (hx : ∀ (A' : Around) (Q' : Option (Value × Nat) → Shared → Prop) (E' : Value → Shared → Prop), Q' (some (x, nx)) s → wpAny (model prog w) A' (setNext a slot i ep) Q' E' s)
    (hQ : ∀ h', h'.get? it = some (siObj (.int nx 0) (i + 1) a es.size ep) → Heap.SameBut it s.heap h' → Q (some x) { s with heap := h' }) : wpAny (model prog w) A (pyNext (.ref it)) Q E s := by
  unfold pyNext
  refine wpAny_bind (wpAny_attempt (wpAny_callSpecial?_slot (name := Str.ofString "__next__") (siT hit) slot_siN (wpAny_call_entry slot_siN (siT hit) entry_siN ?_ (args_siN _))))
  unfold Builtin.«set_iterator.__next__»
  refine wpAny_bind (wpAny_pure ?_)
  refine wpAny_bind (wpAny_fieldsOf hit rfl ?_)
  dsimp only
  refine wpAny_bind (wpAny_setEntries_of ho rfl P.ft ?_)
  rw [if_neg (by simp)]
  rw [Int.toNat_natCast, Int.toNat_natCast, Int.toNat_natCast]
  refine wpAny_bind (hx _ _ _ ?_)
  dsimp only
  refine wpAny_bind (wpAny_setField hit rfl (by simp) ?_)
  have g1 : (s.heap.update it (Obj.mapFields (·.setIfInBounds 0 (rawInt (nx : Int))))).get? it = some (siObj (.int nx 0) i a es.size ep) := Heap.get?_update_self _ hit rfl
  refine wpAny_bind (wpAny_setField g1 rfl (by simp) ?_)
  have g2 : ((s.heap.update it (Obj.mapFields (·.setIfInBounds 0 (rawInt (nx : Int))))).update it (Obj.mapFields (·.setIfInBounds 1 (rawInt ((i : Int) + 1))))).get? it = some (siObj (.int nx 0) (i + 1) a es.size ep) := Heap.get?_update_self _ g1 rfl
  exact wpAny_pure ⟨_, rfl, wpAny_pure (hQ _ g2 ((Heap.SameBut.update ..).trans (Heap.SameBut.update ..)))⟩
/-- at the end -/
theorem stop_iter {f : Value} {i n k : Nat} {v : Value} {Q : Option Value → Shared → Prop} (hh : A.handled = none) (hit : s.heap.get? it = some (siObj f i a n ep)) (hk : k < 5)
    (hQ : ∀ h', Heap.ExtBut it s.heap h' → Q none { s with heap := h' }) :
    wpAny (model prog w) A.in1 (do setField (.ref it) k v; raiseNew (← newExc (.type "StopIteration") [])) (fun fin s' => ∃ u, fin = Fin.done (Flow.ret u) ∧ wpAny (model prog w) A (pure (some u)) Q E s')
      (fun e s' => wpAny (model prog w) A (do if ← isInstance e (.type "StopIteration") then pure none else throw e) Q E s') s := by
  refine wpAny_bind (wpAny_setField hit rfl (by simpa using hk) ?_)
  refine wpAny_bind ?_
  simp only [newExc, newTuple]
  refine wpAny_bind (wpAny_newObj_type ?_ (by size_fits))
  refine wpAny_bind (m := firstArgMember _ _) (wpAny_of_eq (a := Value.none) (by first | rfl | (simp only [firstArgMember]; rfl)) ?_)
  refine wpAny_newObj_type ?_ (by size_fits)
  simp only [raiseNew]
  refine wpAny_bind (wpAny_handled ?_)
  rw [show A.in1.handled = none from hh]
  refine wpAny_bind (wpAny_pure (wpAny_throw ?_))
  refine wpAny_bind (wpAny_isInstance (T := "StopIteration") (b := true) ⟨_, Heap.get?_push_size _ rfl, rfl⟩ isSubtype_stop ?_)
  exact wpAny_pure (hQ _ (((Heap.SameBut.update ..).extBut.push _).push _))
theorem next_intE {slot i : Nat} {Q : Option Value → Shared → Prop} (hh : A.handled = none) (hit : s.heap.get? it = some (siObj (.int slot 0) i a es.size ep)) (ho : s.heap.get? a = some (setObj es ep t)) (P : SetP prog w es t ds)
    (hx : ∀ (A' : Around) (Q' : Option (Value × Nat) → Shared → Prop) (E' : Value → Shared → Prop), Q' none s → wpAny (model prog w) A' (setNext a slot i ep) Q' E' s)
    (hQ : ∀ h', Heap.ExtBut it s.heap h' → Q none { s with heap := h' }) : wpAny (model prog w) A (pyNext (.ref it)) Q E s := by
  unfold pyNext
  refine wpAny_bind (wpAny_attempt (wpAny_callSpecial?_slot (name := Str.ofString "__next__") (siT hit) slot_siN (wpAny_call_entry slot_siN (siT hit) entry_siN ?_ (args_siN _))))
  unfold Builtin.«set_iterator.__next__»
  refine wpAny_bind (wpAny_pure (wpAny_bind (wpAny_fieldsOf hit rfl ?_)))
  dsimp only
  refine wpAny_bind (wpAny_setEntries_of ho rfl P.ft ?_)
  rw [if_neg (by simp), Int.toNat_natCast, Int.toNat_natCast, Int.toNat_natCast]
  refine wpAny_bind (hx _ _ _ ?_)
  exact stop_iter hh hit (by decide) hQ
/-- by a drawn order: the tuple of places -/
theorem next_drw {T : Addr} {js : Array Value} {i j : Nat} {x : Value} {hsh : Int} {Q : Option Value → Shared → Prop} (hit : s.heap.get? it = some (siObj (.ref T) i a es.size ep)) (ho : s.heap.get? a = some (setObj es ep t)) (P : SetP prog w es t ds)
    (hT : ∀ (A' : Around) (Q' : Option (Array Value) → Shared → Prop) (E' : Value → Shared → Prop), Q' (some js) s → wpAny (model prog w) A' (seqItems? (.ref T)) Q' E' s) (hj : js[i]? = some (.int j 0)) (hx : es[j]? = some (hsh, x))
    (hQ : ∀ h', h'.get? it = some (siObj (.ref T) (i + 1) a es.size ep) → Heap.SameBut it s.heap h' → Q (some x) { s with heap := h' }) : wpAny (model prog w) A (pyNext (.ref it)) Q E s := by
  unfold pyNext
  refine wpAny_bind (wpAny_attempt (wpAny_callSpecial?_slot (name := Str.ofString "__next__") (siT hit) slot_siN (wpAny_call_entry slot_siN (siT hit) entry_siN ?_ (args_siN _))))
  unfold Builtin.«set_iterator.__next__»
  refine wpAny_bind (wpAny_pure (wpAny_bind (wpAny_fieldsOf hit rfl ?_)))
  dsimp only
  refine wpAny_bind (wpAny_setEntries_of ho rfl P.ft ?_)
  rw [if_neg (by simp)]
  refine wpAny_bind (hT _ _ _ ?_)
  dsimp only
  rw [Int.toNat_natCast, hj]
  dsimp only
  unfold setNextDrawn
  rw [Int.toNat_natCast, Int.toNat_natCast]
  refine wpAny_bind (wpAny_bind (wpAny_setState_of ho rfl P.ft ?_))
  dsimp only
  rw [if_neg (by simp), hx]
  dsimp only
  refine wpAny_pure (wpAny_bind (wpAny_setField hit rfl (by simp) ?_))
  have g1 : (s.heap.update it (Obj.mapFields (·.setIfInBounds 1 (rawInt ((i : Int) + 1))))).get? it = some (siObj (.ref T) (i + 1) a es.size ep) := Heap.get?_update_self _ hit rfl
  exact wpAny_pure ⟨_, rfl, wpAny_pure (hQ _ g1 (Heap.SameBut.update ..))⟩
theorem next_drwE {T : Addr} {js : Array Value} {i : Nat} {Q : Option Value → Shared → Prop} (hh : A.handled = none) (hit : s.heap.get? it = some (siObj (.ref T) i a es.size ep)) (ho : s.heap.get? a = some (setObj es ep t)) (P : SetP prog w es t ds)
    (hT : ∀ (A' : Around) (Q' : Option (Array Value) → Shared → Prop) (E' : Value → Shared → Prop), Q' (some js) s → wpAny (model prog w) A' (seqItems? (.ref T)) Q' E' s) (hj : js[i]? = none)
    (hQ : ∀ h', Heap.ExtBut it s.heap h' → Q none { s with heap := h' }) : wpAny (model prog w) A (pyNext (.ref it)) Q E s := by
  unfold pyNext
  refine wpAny_bind (wpAny_attempt (wpAny_callSpecial?_slot (name := Str.ofString "__next__") (siT hit) slot_siN (wpAny_call_entry slot_siN (siT hit) entry_siN ?_ (args_siN _))))
  unfold Builtin.«set_iterator.__next__»
  refine wpAny_bind (wpAny_pure (wpAny_bind (wpAny_fieldsOf hit rfl ?_)))
  dsimp only
  refine wpAny_bind (wpAny_setEntries_of ho rfl P.ft ?_)
  rw [if_neg (by simp)]
  refine wpAny_bind (hT _ _ _ ?_)
  dsimp only
  rw [Int.toNat_natCast, hj]
  dsimp only
  refine wpAny_bind (wpAny_setField hit rfl (by simp) ?_)
  have g1 : (s.heap.update it (Obj.mapFields (·.setIfInBounds 0 (rawInt 0)))).get? it = some (siObj (rawInt 0) i a es.size ep) := Heap.get?_update_self _ hit rfl
  exact stop_iter (s := { s with heap := s.heap.update it (Obj.mapFields (·.setIfInBounds 0 (rawInt 0))) }) hh g1 (by decide) fun h' x => hQ h' fun b o hb e => x b o hb ((Heap.SameBut.update ..).extBut b o hb e)
end
end L2

namespace L2
open PySem PySem.W PyProof.Rows
theorem slot_siI : Slot "set_iterator" "__iter__" "set_iterator.__iter__" :=
  .of (owner := "set_iterator") (n := "__iter__") (by rw [typeLookup_type, builtinLookup_eq_fast]; kernel_rfl) (by decide +kernel) (by decide +kernel) (by decide +kernel) (.inl (by decide +kernel)) (by rw [isSubtype_type]; kernel_rfl)
theorem entry_siI : entryFor table "set_iterator.__iter__" = some Builtin.«dict_keyiterator.__iter__» := entryFor_alias (id' := "dict_keyiterator.__iter__") (by kernel_rfl) rfl (by decide +kernel) (by kernel_rfl)
theorem args_siI (a : Value) : argsOk "set_iterator.__iter__" ⟨[a], []⟩ := by
  unfold argsOk
  rw [signature?_of (id := "set_iterator.__iter__") (n := ['_', '_', 'r', 'e', 't', 'i', '_', '_']) (o := ['r', 'o', 't', 'a', 'r', 'e', 't', 'i', '_', 't', 'e', 's']) (by kernel_rfl) own_si]
  kernel_rfl
section
variable {prog : Program} {w : World} {A : Around} {E : Value → Shared → Prop} {s : Shared} {a it : Addr} {es : Array (Int × Value)} {ep : Nat} {t : SetTable} {ds : List Int}
theorem iter_si {f : Value} {i n : Nat} {Q : Value → Shared → Prop} (hit : s.heap.get? it = some (siObj f i a n ep)) (h : Q (.ref it) s) : wpAny (model prog w) A (pyIter (.ref it)) Q E s := by
  refine wpAny_pyIter_slot (siT hit) slot_siI (wpAny_call_entry slot_siI (siT hit) entry_siI ?_ (args_siI _))
  show wpAny _ _ (ret (.ref it)) _ _ s
  exact wpAny_pure ⟨_, rfl, "set_iterator", _, siT hit, slot_siN.lookup, h⟩
theorem setT (ho : s.heap.get? a = some (setObj es ep t)) : s.TypeIs (.ref a) "set" := ⟨_, ho, rfl⟩
theorem hint_set {Q : Bool → Shared → Prop} (hT : s.TypeIs (.ref a) "set") (h : Q false s) : wpAny (model prog w) A (Builtin.List.listLengthHint (.ref a)) Q E s := by
  unfold Builtin.List.listLengthHint
  refine wpAny_bind (wpAny_specialOf hT PySem.F.slot_set_len.lookup ?_)
  generalize hid : ("set.__len__" : String) = id0
  wp_delta
  rw [show splitId id0 = some ("set", "__len__") from by subst hid; decide +kernel]
  subst hid
  refine wpAny_bind (wpAny_isInstance (T := "set") (b := true) hT (by rw [isSubtype_type]; kernel_rfl) ?_)
  refine wpAny_ite_split (fun z => absurd z (by decide)) (fun _ => ?_)
  refine wpAny_ite_split (fun _ => ?_) (fun z => absurd (by decide +kernel) z)
  refine wpAny_bind (wpAny_typeOf hT ?_)
  exact wpAny_pure h
/-- whether the order is drawn -/
def Drawn (w : World) (es : Array (Int × Value)) (t : SetTable) : Prop := leds w = true ∧ t.plain = false ∧ 1 < es.size
theorem iter_set {Q : Value → Shared → Prop} (ho : s.heap.get? a = some (setObj es ep t)) (P : SetP prog w es t ds)
    (h1 : ¬ Drawn w es t → Q (.ref s.heap.objs.size) { s with heap := s.heap.push (siObj (.int 0 0) 0 a es.size ep) })
    (h2 : Drawn w es t → ∀ (js : List Nat) dr, js.Perm (List.range es.size) → Q (.ref (s.heap.objs.size + 1)) { s with heap := (s.heap.push { cls := .type "tuple", data := .seq (js.map fun (i : Nat) => rawInt i).toArray }).push (siObj (.ref s.heap.objs.size) 0 a es.size ep), drawn := dr }) :
    wpAny (model prog w) A (pyIter (.ref a)) Q E s := by
  refine wpAny_pyIter_slot (setT ho) PySem.F.slot_set_iter (wpAny_call_entry PySem.F.slot_set_iter (setT ho) entry_setI ?_ (PySem.F.args_set_iter_1 _))
  unfold Builtin.«frozenset.__iter__»
  refine wpAny_bind (wpAny_pure ?_)
  refine wpAny_bind (wpAny_bind (wpAny_setEntries_of ho rfl P.ft (wpAny_pure ?_)))
  refine wpAny_bind ?_
  unfold setDrawn
  refine wpAny_bind (wpAny_setState_of ho rfl P.ft ?_)
  dsimp only
  unfold setsByText
  refine wpAny_bind (wpAny_bind (wpAny_askSetting (wpAny_pure (wpAny_pure ?_))))
  show wpAny _ _ (if (!w.params.followText "set-order" && (!t.plain && decide (es.size > 1))) = true then _ else _) _ _ _
  refine wpAny_ite_split (fun z => ?_) (fun z => ?_)
  · rw [Bool.and_eq_true, Bool.and_eq_true] at z
    have hD : Drawn w es t := ⟨z.1, by simpa using z.2.1, of_decide_eq_true z.2.2⟩
    refine wpAny_bind (wp_draw es.size _ _ List.length_range fun js dr hp => wpAny_bind (wpAny_newTuple ?_ ?_))
    · refine wpAny_bind (wpAny_setEpoch_of (Heap.get?_push_of_some _ ho) rfl P.ft ?_)
      have hs : (s.heap.push { cls := .type "tuple", data := .seq (js.map fun (i : Nat) => rawInt i).toArray }).objs.size = s.heap.objs.size + 1 := Heap.size_push ..
      refine wpAny_bind (wpAny_newObj_type (wpAny_pure ⟨_, rfl, "set_iterator", _, ⟨_, Heap.get?_push_size _ rfl, rfl⟩, slot_siN.lookup, ?_⟩))
      have q := h2 hD js dr hp
      rw [← hs] at q
      exact q
    · rw [List.length_map, hp.length_eq, List.length_range]
      exact fits_of_scanBound P.sz
  · refine wpAny_bind (wpAny_pure ?_)
    refine wpAny_bind (wpAny_setEpoch_of ho rfl P.ft ?_)
    refine wpAny_bind (wpAny_newObj_type (wpAny_pure ⟨_, rfl, "set_iterator", _, ⟨_, Heap.get?_push_size _ rfl, rfl⟩, slot_siN.lookup, ?_⟩))
    refine h1 fun hD => z ?_
    rw [Bool.and_eq_true, Bool.and_eq_true]
    exact ⟨hD.1, by rw [hD.2.1]; rfl, decide_eq_true hD.2.2⟩
/-- the walk of an order xs, by slots -/
theorem walk_int (hh : A.handled = none) (I : Addr) (hne : a ≠ I) (P : SetP prog w es t ds) (xs : Array (Int × Value)) (sl : Nat → Nat) (hz : xs.size = es.size)
    (hnx : ∀ (s' : Shared) (i : Nat), s'.heap.get? a = some (setObj es ep t) → i ≤ es.size → ∀ (A' : Around) (Q' : Option (Value × Nat) → Shared → Prop) (E' : Value → Shared → Prop), Q' ((xs[i]?).map fun e => (e.2, sl (i + 1))) s' → wpAny (model prog w) A' (setNext a (sl i) i ep) Q' E' s') :
    Walks prog w A I [I, a] [I] es.size (fun i v => ∃ e, xs[i]? = some e ∧ v = e.2) (fun i h => h.get? I = some (siObj (.int (sl i) 0) i a es.size ep) ∧ h.get? a = some (setObj es ep t)) where
  sub := fun b hb => by simp at hb; simp [hb]
  frame := fun _ _ _ st hk => ⟨hk I (by simp) _ st.1, hk a (by simp) _ st.2⟩
  item := fun i s Q E hi st hQ => by
    have hx : xs[i]? = some (xs[i]'(by omega)) := Array.getElem?_eq_getElem (by omega)
    refine next_int (x := (xs[i]'(by omega)).2) (nx := sl (i + 1)) st.1 st.2 P (fun A' Q' E' q => hnx s i st.2 (by omega) A' Q' E' (by rw [hx]; exact q)) fun h' g sb => ?_
    exact hQ _ h' s.toks ⟨_, hx, rfl⟩ ⟨g, (sb.2 a hne).trans st.2⟩ fun b o hb e => (sb.2 b (fun z => hb (by simp [z]))).trans e
  done := fun s Q E st hQ => next_intE hh st.1 st.2 P (fun A' Q' E' q => hnx s es.size st.2 (Nat.le_refl _) A' Q' E' (by rw [Array.getElem?_eq_none (by omega)]; exact q)) fun h' x => hQ h' s.toks fun b o hb e => x b o (fun z => hb (by simp [z])) e
  self := fun _ _ _ _ st hQ => iter_si st.1 hQ
def slOf (t : SetTable) : Nat → Nat
  | 0 => 0
  | k + 1 => t.place.getD k 0 + 1
/-- a set whose order is not drawn, as a source -/
theorem src_set (P : SetP prog w es t ds) (hD : ¬ Drawn w es t) : ∃ xs : Array (Int × Value), xs.toList.Perm es.toList ∧ KdlSrc prog w "set" a a es.size (fun i v => ∃ e, xs[i]? = some e ∧ v = e.2) (fun h => h.get? a = some (setObj es ep t)) := by
  have mk : ∀ (xs : Array (Int × Value)) (sl : Nat → Nat), sl 0 = 0 → xs.toList.Perm es.toList →
      (∀ (s' : Shared) (i : Nat), s'.heap.get? a = some (setObj es ep t) → i ≤ es.size → ∀ (A' : Around) (Q' : Option (Value × Nat) → Shared → Prop) (E' : Value → Shared → Prop), Q' ((xs[i]?).map fun e => (e.2, sl (i + 1))) s' → wpAny (model prog w) A' (setNext a (sl i) i ep) Q' E' s') →
      KdlSrc prog w "set" a a es.size (fun i v => ∃ e, xs[i]? = some e ∧ v = e.2) (fun h => h.get? a = some (setObj es ep t)) := fun xs sl h0 hp hnx =>
    { type := fun s h => setT h
      there := fun h e => ⟨Heap.lt_size e, Heap.lt_size e⟩
      keep := fun h h' e k => k a (.inl rfl) _ e
      notList := by decide
      notTuple := by decide
      hint := fun A E s Q h q => hint_set (setT h) q
      iter := fun A s hh h => ⟨siObj (.int 0 0) 0 a es.size ep, _, fun E Q q => iter_set h P (fun _ => q) (fun z => absurd z hD), walk_int hh _ (Nat.ne_of_lt (Heap.lt_size h)) P xs sl (by rw [← Array.length_toList, hp.length_eq, Array.length_toList]) hnx, by rw [h0]; exact Heap.get?_push_size _ rfl, Heap.get?_push_of_some _ h⟩ }
  cases hb : leds w with
  | false =>
    refine ⟨_, pick_perm (w.params.setOrder a ep) es, mk _ (fun _ => 0) rfl (pick_perm _ es) fun s' i ho hi A' Q' E' q => wp_nextT ho P hb q⟩
  | true =>
    have hf := P.ft
    simp only [SetTable.fits, Bool.and_eq_true, beq_iff_eq, decide_eq_true_eq] at hf
    refine ⟨es, .refl _, mk es (slOf t) rfl (.refl _) fun s' i ho hi A' Q' E' q => wp_nextP ho P hb (fun z => hD ⟨hb, z⟩) ?_⟩
    have hbl : SetTable.below t.place (slOf t i) = i := by
      cases i with
      | zero => exact below_zero P.tb.1
      | succ k =>
        have hk : k < t.place.size := by omega
        have e : t.place[k]? = some (t.place[k]) := Array.getElem?_eq_getElem hk
        have eg : t.place.getD k 0 = t.place[k] := by unfold Array.getD; rw [dif_pos hk]; rfl
        show SetTable.below t.place (t.place.getD k 0 + 1) = k + 1
        rw [eg]
        exact below_next P.tb.1 e
    rw [hbl]
    rcases Nat.lt_or_ge i es.size with hl | hl
    · have hk : i < t.place.size := by omega
      have eg : t.place.getD i 0 = t.place[i] := by unfold Array.getD; rw [dif_pos hk]; rfl
      rw [Array.getElem?_eq_getElem hl] at q ⊢
      rw [Array.getElem?_eq_getElem hk]
      have q' : Q' (some ((es[i]).2, t.place.getD i 0 + 1)) s' := q
      rw [eg] at q'
      exact q'
    · rw [Array.getElem?_eq_none hl] at q ⊢
      exact q
end
end L2

namespace L2
open PySem PySem.W PyProof.Rows
def plcObj (js : List Nat) : Obj := { cls := .type "tuple", data := .seq (js.map fun (i : Nat) => rawInt i).toArray }
section
variable {prog : Program} {w : World} {A : Around} {E : Value → Shared → Prop} {s : Shared} {a it : Addr} {es : Array (Int × Value)} {ep : Nat} {t : SetTable} {ds : List Int}
theorem walk_drw (hh : A.handled = none) (I T : Addr) (hne : a ≠ I) (hnT : T ≠ I) (P : SetP prog w es t ds) {js : List Nat} (hp : js.Perm (List.range es.size)) :
    Walks prog w A I [I, a, T] [I] es.size (fun i v => ∃ j e, js[i]? = some j ∧ es[j]? = some e ∧ v = e.2) (fun i h => h.get? I = some (siObj (.ref T) i a es.size ep) ∧ h.get? a = some (setObj es ep t) ∧ h.get? T = some (plcObj js)) where
  sub := fun b hb => by simp at hb; simp [hb]
  frame := fun _ _ _ st hk => ⟨hk I (by simp) _ st.1, hk a (by simp) _ st.2.1, hk T (by simp) _ st.2.2⟩
  item := fun i s Q E hi st hQ => by
    have hl : js.length = es.size := by rw [hp.length_eq, List.length_range]
    have hj : js[i]? = some (js[i]'(by omega)) := List.getElem?_eq_getElem (by omega)
    have hm : js[i]'(by omega) < es.size := List.mem_range.mp (hp.mem_iff.mp (List.getElem_mem _))
    have hx : es[js[i]'(by omega)]? = some (es[js[i]'(by omega)]) := Array.getElem?_eq_getElem hm
    refine next_drw (js := (js.map fun (i : Nat) => rawInt i).toArray) (j := js[i]'(by omega)) (x := (es[js[i]'(by omega)]).2) (hsh := (es[js[i]'(by omega)]).1) st.1 st.2.1 P (fun A' Q' E' q => wpAny_seqItems st.2.2 rfl q) ?_ hx fun h' g sb => ?_
    · rw [List.getElem?_toArray, List.getElem?_map, hj]
      rfl
    · exact hQ _ h' s.toks ⟨_, _, hj, hx, rfl⟩ ⟨g, (sb.2 a hne).trans st.2.1, (sb.2 T hnT).trans st.2.2⟩ fun b o hb e => (sb.2 b (fun z => hb (by simp [z]))).trans e
  done := fun s Q E st hQ => by
    have hl : js.length = es.size := by rw [hp.length_eq, List.length_range]
    refine next_drwE (js := (js.map fun (i : Nat) => rawInt i).toArray) hh st.1 st.2.1 P (fun A' Q' E' q => wpAny_seqItems st.2.2 rfl q) ?_ fun h' x => hQ h' s.toks fun b o hb e => x b o (fun z => hb (by simp [z])) e
    rw [List.getElem?_toArray, List.getElem?_map, List.getElem?_eq_none (by omega)]
    rfl
  self := fun _ _ _ _ st hQ => iter_si st.1 hQ
/-- the values of entries that are ints -/
theorem ints_of {xs : List (Int × Value)} (h : ∀ e ∈ xs, ∃ k u, e.2 = .int k u) : IntsAre (xs.map (·.2)) (xs.map fun e => numH e.2) := by
  induction xs with
  | nil => exact .nil
  | cons e xs ih =>
    obtain ⟨k, u, hk⟩ := h e (List.mem_cons_self ..)
    rw [List.map_cons, List.map_cons, hk]
    exact .cons k u (ih fun e he => h e (List.mem_cons_of_mem _ he))
theorem acc_map {acc : Array Value} {n : Nat} {xs : List (Int × Value)} (hn : xs.length = n) (h : ItemsOf (fun i v => ∃ e, xs[i]? = some e ∧ v = e.2) acc n) : acc.toList = xs.map (·.2) := by
  apply List.ext_getElem?
  intro i
  rw [List.getElem?_map]
  have hz : acc.toList.length = n := by rw [Array.length_toList]; exact h.1
  rcases Nat.lt_or_ge i n with hi | hi
  · have e1 : acc.toList[i]? = some (acc.toList[i]'(by omega)) := List.getElem?_eq_getElem (by omega)
    obtain ⟨e, he, hv⟩ := h.2 i _ (by rw [← Array.getElem?_toList]; exact e1)
    rw [e1, he, hv]
    rfl
  · rw [List.getElem?_eq_none (by omega), List.getElem?_eq_none (by omega)]
    rfl
theorem pick_by {es : Array (Int × Value)} : ∀ {js : List Nat}, (∀ j ∈ js, j < es.size) → ∃ xs : List (Int × Value), xs = js.filterMap (fun j => es[j]?) ∧ xs.length = js.length ∧ ∀ (i j : Nat), js[i]? = some j → xs[i]? = es[j]?
  | [], _ => ⟨[], rfl, rfl, fun i j h => by cases h⟩
  | k :: js, h => by
    obtain ⟨xs, e, hl, hx⟩ := pick_by (js := js) fun j hj => h j (List.mem_cons_of_mem _ hj)
    have hk : es[k]? = some (es[k]'(h k (List.mem_cons_self ..))) := Array.getElem?_eq_getElem _
    refine ⟨es[k]'(h k (List.mem_cons_self ..)) :: xs, by rw [List.filterMap_cons_some hk, e], by rw [List.length_cons, List.length_cons, hl], fun i j hj => ?_⟩
    cases i with
    | zero =>
      have : k = j := Option.some.inj hj
      subst this
      exact hk.symm
    | succ i => exact hx i j hj
/-- all that a set holds, in whatever order -/
theorem collect_set {Q : List Value → Shared → Prop} (hS : SetI prog w a ds s.heap) (hh : A.handled = none)
    (h : ∀ h' tk dr (vs : List Value) (ns : List Int), (∀ b o, s.heap.get? b = some o → h'.get? b = some o) → s.heap.objs.size ≤ h'.objs.size → IntsAre vs ns → ns.Perm ds → Q vs { s with heap := h', toks := tk, drawn := dr }) : wpAny (model prog w) A (collect (.ref a)) Q E s := by
  obtain ⟨es, ep, t, ho, P⟩ := hS
  have hz : es.size ≤ sizeLine := fits_of_scanBound P.sz
  by_cases hD : Drawn w es t
  · unfold collect
    refine wpAny_bind (wpAny_runValue (codeAny_builtin entry_proto_collect' ?_))
    show wpAny _ _ (do again (.builtin "list.__iadd__" ⟨[← newList [], .ref a], []⟩)) _ _ s
    refine wpAny_bind (wpAny_newList (wpAny_pure ⟨Code.quiet_builtin _ (by decide +kernel), codeAny_builtin entry_list_iadd' ?_⟩))
    show wpAny _ _ (Builtin.List.listExtendWith (.ref s.heap.objs.size) (.ref a) (.ref s.heap.objs.size)) _ _ { s with heap := s.heap.push (seqObj "list" #[] 0) }
    have hS0 : (s.heap.push (seqObj "list" #[] 0)).get? s.heap.objs.size = some { cls := .type "list", data := .seq #[] 0 } := Heap.get?_push_size _ rfl
    have ho1 : (s.heap.push (seqObj "list" #[] 0)).get? a = some (setObj es ep t) := Heap.get?_push_of_some _ ho
    have haS : s.heap.objs.size ≠ a := Nat.ne_of_gt (Heap.lt_size ho)
    rw [Around.under_plainId PySem.F.plain_list_iadd _]
    unfold Builtin.List.listExtendWith
    refine wpAny_bind (wpAny_typeOf (T := "set") ⟨_, ho1, rfl⟩ ?_)
    have e1 : Builtin.List.listSameRef (.ref s.heap.objs.size) (.ref a) = false := by simp [Builtin.List.listSameRef, haS]
    have e2 : (Value.type "set" == Value.type "list") = false := by decide
    have e3 : (Value.type "set" == Value.type "tuple") = false := by decide
    simp only [e1, e2, e3, Bool.or_false, Bool.false_eq_true, if_false]
    refine wpAny_bind (iter_set ho1 P (fun z => absurd hD z) fun _ js dr hp => ?_)
    have hsz : (s.heap.push (seqObj "list" #[] 0)).objs.size = s.heap.objs.size + 1 := Heap.size_push ..
    rw [hsz]
    have hI : s.heap.objs.size + 1 + 1 = s.heap.objs.size + 2 := rfl
    have hT1 : ((s.heap.push (seqObj "list" #[] 0)).push (plcObj js)).get? (s.heap.objs.size + 1) = some (plcObj js) := by rw [← hsz]; exact Heap.get?_push_size _ rfl
    have hsz2 : ((s.heap.push (seqObj "list" #[] 0)).push (plcObj js)).objs.size = s.heap.objs.size + 1 + 1 := by rw [Heap.size_push, hsz]
    have hI1 : (((s.heap.push (seqObj "list" #[] 0)).push (plcObj js)).push (siObj (.ref (s.heap.objs.size + 1)) 0 a es.size ep)).get? (s.heap.objs.size + 1 + 1) = some (siObj (.ref (s.heap.objs.size + 1)) 0 a es.size ep) := by rw [← hsz2]; exact Heap.get?_push_size _ rfl
    have hla := Heap.lt_size ho
    have W := walk_drw (prog := prog) (w := w) (A := A.in1) (ep := ep) hh (s.heap.objs.size + 1 + 1) (s.heap.objs.size + 1) (a := a) (Nat.ne_of_lt (Nat.lt_succ_of_lt (Nat.lt_succ_of_lt hla))) (Nat.ne_of_lt (Nat.lt_succ_self _)) P hp
    have hSf : s.heap.objs.size ∉ [s.heap.objs.size + 1 + 1, a, s.heap.objs.size + 1] := by
      simp only [List.mem_cons, List.not_mem_nil, or_false, not_or]
      exact ⟨Nat.ne_of_lt (Nat.lt_succ_of_lt (Nat.lt_succ_self _)), haS, Nat.ne_of_lt (Nat.lt_succ_self _)⟩
    have key : ∀ (R : Result → Shared → Prop), (∀ h' tk (acc : Array Value) c', (∀ b o, s.heap.get? b = some o → h'.get? b = some o) → h'.get? s.heap.objs.size = some { cls := .type "list", dict := none, data := .seq acc c', slots := #[] } → ItemsOf (fun i v => ∃ j e, js[i]? = some j ∧ es[j]? = some e ∧ v = e.2) acc es.size → R (.ok (.ret (.ref s.heap.objs.size))) { s with heap := h', toks := tk, drawn := dr }) →
        ∀ (hp' : Heap) (c₁ tk : Nat), (hp'.get? (s.heap.objs.size + 1 + 1) = some (siObj (.ref (s.heap.objs.size + 1)) 0 a es.size ep) ∧ hp'.get? a = some (setObj es ep t) ∧ hp'.get? (s.heap.objs.size + 1) = some (plcObj js)) → (∀ b o, s.heap.get? b = some o → hp'.get? b = some o) →
        hp'.get? s.heap.objs.size = some { cls := .type "list", data := .seq #[] c₁ } → codeAny (model prog w) A (.builtin "list.extend.loop" ⟨[.ref s.heap.objs.size, .ref (s.heap.objs.size + 1 + 1), .ref s.heap.objs.size], []⟩) R { s with heap := hp', toks := tk, drawn := dr } := by
      intro R hR hp' c₁ tk st kp hS₁
      refine codeAny_extend_loopS W.toS hz s.heap.objs.size hSf _ es.size 0 _ #[] c₁ rfl (Nat.zero_le _) st hS₁ (ItemsOf.nil _) fun s' acc' c' hm hS' hacc => ?_
      rw [Moved.eq_with hm]
      refine hR s'.heap s'.toks acc' c' (fun b o e => hm.heap b o (fun hmem => ?_) (kp b o e)) hS' hacc
      have hb := Heap.lt_size e
      rcases List.mem_cons.mp hmem with e' | hmem
      · exact absurd hb (by rw [e']; exact Nat.lt_irrefl _)
      · exact absurd hb (by rw [List.mem_singleton.mp hmem]; exact Nat.not_lt.mpr (Nat.le_succ_of_le (Nat.le_succ _)))
    have fin : ∀ h' tk (acc : Array Value) c', (∀ b o, s.heap.get? b = some o → h'.get? b = some o) → h'.get? s.heap.objs.size = some { cls := .type "list", dict := none, data := .seq acc c', slots := #[] } → ItemsOf (fun i v => ∃ j e, js[i]? = some j ∧ es[j]? = some e ∧ v = e.2) acc es.size → Q acc.toList { s with heap := h', toks := tk, drawn := dr } := by
      intro h' tk acc c' kp hS' ia
      obtain ⟨xs, e, hl, hx⟩ := pick_by (es := es) (js := js) fun j hj => List.mem_range.mp (hp.mem_iff.mp hj)
      have hjl : js.length = es.size := by rw [hp.length_eq, List.length_range]
      have hpx : xs.Perm es.toList := by
        rw [e]
        refine (hp.filterMap _).trans ?_
        rw [filterMap_getElem?_range]
      have ea := acc_map (hl.trans hjl) ⟨ia.1, fun i v hv => by obtain ⟨j, e, hj, he, z⟩ := ia.2 i v hv; exact ⟨e, by rw [hx i j hj]; exact he, z⟩⟩
      exact h h' tk dr acc.toList (xs.map fun e => numH e.2) kp (Nat.le_of_lt (Heap.lt_size hS')) (by rw [ea]; exact ints_of fun x hx => P.ints x (hpx.mem_iff.mp hx)) ((hpx.map _).trans P.ks)
    have kp2 : ∀ b o, s.heap.get? b = some o → (((s.heap.push (seqObj "list" #[] 0)).push (plcObj js)).push (siObj (.ref (s.heap.objs.size + 1)) 0 a es.size ep)).get? b = some o := fun b o e => Heap.get?_push_of_some _ (Heap.get?_push_of_some _ (Heap.get?_push_of_some _ e))
    have hS2 : (((s.heap.push (seqObj "list" #[] 0)).push (plcObj js)).push (siObj (.ref (s.heap.objs.size + 1)) 0 a es.size ep)).get? s.heap.objs.size = some { cls := .type "list", data := .seq #[] 0 } := Heap.get?_push_of_some _ (Heap.get?_push_of_some _ hS0)
    show wpAny (model prog w) A.in1 _ _ _ { s with heap := ((s.heap.push (seqObj "list" #[] 0)).push (plcObj js)).push (siObj (.ref (s.heap.objs.size + 1)) 0 a es.size ep), drawn := dr }
    refine wpAny_bind (wpAny_holding (hint_set ⟨_, kp2 _ _ ho, rfl⟩ ?_))
    have all : ∀ (hp' : Heap) (c₁ tk : Nat), (hp'.get? (s.heap.objs.size + 1 + 1) = some (siObj (.ref (s.heap.objs.size + 1)) 0 a es.size ep) ∧ hp'.get? a = some (setObj es ep t) ∧ hp'.get? (s.heap.objs.size + 1) = some (plcObj js)) → (∀ b o, s.heap.get? b = some o → hp'.get? b = some o) →
        hp'.get? s.heap.objs.size = some { cls := .type "list", data := .seq #[] c₁ } → codeAny (model prog w) A (.builtin "list.extend.loop" ⟨[.ref s.heap.objs.size, .ref (s.heap.objs.size + 1 + 1), .ref s.heap.objs.size], []⟩) (fun r s' =>
              match r with
              | Except.ok (Flow.ret v) =>
                wpAny (model prog w) A (match v with
                  | .ref a => do match (← load a).data with
                    | .seq xs _ => pure xs.toList
                    | _ => unsupported "internal:collect"
                  | _ => unsupported "internal:collect") Q E s'
              | Except.ok _ => False
              | Except.error e => E e s') { s with heap := hp', toks := tk, drawn := dr } := key _ fun h' tk acc c' kp hS' ia => by
        show wpAny (model prog w) A (do
          let o ← load s.heap.objs.size
          match o.data with
          | .seq xs _ => pure xs.toList
          | _ => unsupported "internal:collect") Q E { s with heap := h', toks := tk, drawn := dr }
        exact wpAny_bind (wpAny_load hS' (wpAny_pure (fin h' tk acc c' kp hS' ia)))
    refine wpAny_ite_split (fun _ => ?_) (fun _ => wpAny_pure ⟨plainId_quiet PySem.F.plain_extend_loop _, all _ 0 s.toks ⟨hI1, kp2 _ _ ho, Heap.get?_push_of_some _ hT1⟩ kp2 hS2⟩)
    refine wpAny_bind (wpAny_rule (wpAny_bind ?_))
    show wpAny _ _ (updateSeq s.heap.objs.size (·.push .none) >>= fun _ => updateSeq s.heap.objs.size (·.pop)) _ _ _
    refine wpAny_bind (wpAny_updateSeq hS2 rfl ?_)
    have g2 := Heap.get?_update_self (Obj.mapSeq (·.push Value.none)) hS2 rfl
    refine wpAny_updateSeq (hz := by seq_fits) g2 rfl ?_
    have g3 := Heap.get?_update_self (Obj.mapSeq (·.pop)) g2 rfl
    have oth : ∀ b o, b ≠ s.heap.objs.size → (((s.heap.push (seqObj "list" #[] 0)).push (plcObj js)).push (siObj (.ref (s.heap.objs.size + 1)) 0 a es.size ep)).get? b = some o → (((((s.heap.push (seqObj "list" #[] 0)).push (plcObj js)).push (siObj (.ref (s.heap.objs.size + 1)) 0 a es.size ep)).update s.heap.objs.size (Obj.mapSeq (·.push Value.none))).update s.heap.objs.size (Obj.mapSeq (·.pop))).get? b = some o :=
      fun b o hb e => (Heap.get?_update_other _ _ (Ne.symm hb)).trans ((Heap.get?_update_other _ _ (Ne.symm hb)).trans e)
    refine wpAny_pure ⟨plainId_quiet PySem.F.plain_extend_loop _, all _ _ s.toks ⟨oth _ _ (Nat.ne_of_gt (Nat.lt_succ_of_lt (Nat.lt_succ_self _))) hI1, oth _ _ haS.symm (kp2 _ _ ho), oth _ _ (Nat.ne_of_gt (Nat.lt_succ_self _)) (Heap.get?_push_of_some _ hT1)⟩ (fun b o e => oth b o (Nat.ne_of_lt (Heap.lt_size e)) (kp2 b o e)) g3⟩
  · obtain ⟨xs, hp, K⟩ := src_set (a := a) (ep := ep) P hD
    refine collect_src K hh ho hz fun h' tk acc kp hge ia => ?_
    have hl : xs.toList.length = es.size := by rw [hp.length_eq, Array.length_toList]
    have e := acc_map hl ⟨ia.1, fun i v hv => by obtain ⟨e, he, z⟩ := ia.2 i v hv; exact ⟨e, by rw [Array.getElem?_toList]; exact he, z⟩⟩
    have q := h h' tk s.drawn acc.toList (xs.toList.map fun e => numH e.2) kp hge (by rw [e]; exact ints_of fun x hx => P.ints x (hp.mem_iff.mp hx)) ((hp.map _).trans P.ks)
    exact q
end
end L2

namespace L2
open PySem PySem.W PyProof.Rows
section
variable {prog : Program} {w : World} {A : Around} {E : Value → Shared → Prop} {s : Shared}
/-- sorted() of what is collected, the drawing told -/
theorem vals_sortedE {c : Value} {O : KeyOrd} {key : Value → O.α} {κ : SortKind} {Q : Value → Shared → Prop} {G : List Value → Prop} (hh : A.handled = none)
    (hcol : ∀ (A' : Around), A'.handled = none → ∀ (E' : Value → Shared → Prop) (Q' : List Value → Shared → Prop), (∀ h' tk dr vs, (∀ b o, s.heap.get? b = some o → h'.get? b = some o) → s.heap.objs.size ≤ h'.objs.size → G vs → Q' vs { s with heap := h', toks := tk, drawn := dr }) → wpAny (model prog w) A' (collect c) Q' E' s)
    (hz : ∀ vs, G vs → vs.length ≤ sizeLine) (hS : ∀ vs, G vs → 2 ≤ vs.length → ∀ (A' : Around) (s' : Shared), (∀ b o, s.heap.get? b = some o → s'.heap.get? b = some o) → Sorts prog w A' s' κ key vs)
    (h : ∀ (D : Addr) h' tk dr (vs us : List Value) (e : Nat), G vs → us.Perm vs → us.Pairwise (fun x y => O.kle (key x) (key y)) → (∀ b o, s.heap.get? b = some o → h'.get? b = some o) → s.heap.objs.size ≤ D → h'.get? D = some (seqObj "list" us.toArray e) → Q (.ref D) { s with heap := h', toks := tk, drawn := dr }) :
    wpAny (model prog w) A (call (.builtin "sorted") [c]) Q E s := by
  refine Calls.call_function_entry kind_sorted plain_sorted entry_sorted (args_sorted1 _) ?_
  unfold Builtin.«sorted»
  refine wpAny_bind (m := checkCount "sorted" 1 1 _) (wpAny_pure (wpAny_bind (hcol A.in1 hh _ _ fun h1 tk dr vs kp hge hg => ?_)))
  refine wpAny_bind (wpAny_newList ?_ (hz vs hg))
  have hoL : (h1.push (seqObj "list" vs.toArray 0)).get? h1.objs.size = some (seqObj "list" vs.toArray 0) := Heap.get?_push_size _ rfl
  have keep : ∀ b o, s.heap.get? b = some o → (h1.push (seqObj "list" vs.toArray 0)).get? b = some o := fun b o q => Heap.get?_push_of_some _ (kp b o q)
  have ne : ∀ b o, s.heap.get? b = some o → b ≠ h1.objs.size := fun b o q => Nat.ne_of_lt (Heap.lt_size (kp b o q))
  show wpAny _ _ _ _ _ { s with heap := h1.push (seqObj "list" vs.toArray 0), toks := tk, drawn := dr }
  refine wpAny_bind (wpAny_holding (wpAny_call_entry slot_list_sort ⟨_, hoL, rfl⟩ entry_list_sort (vals_lsort (κ := κ) (key := key) hoL (hz vs hg) (fun h2 h' kp' => hS vs hg h2 _ _ fun b o q => kp' b o (ne b o q) (keep b o q)) fun us a1 a2 => ⟨_, rfl, wpAny_pure ⟨_, rfl, ?_⟩⟩) (args_list_sort _)))
  obtain ⟨e, he⟩ := sortedHeap_at (out := us.toArray) hoL
  refine h h1.objs.size _ tk dr vs us e hg a1 a2 (fun b o q => ?_) hge he
  rw [sortedHeap_old (ne b o q) (Heap.lt_size (keep b o q))]
  exact keep b o q
end
section
variable {X : Cx}
theorem Inv.drew {pins : List (Addr × Obj)} {σ : St} {H : Hp} {s : Shared} (I : Inv X pins σ H s) (dr : PySem.Drawn) : Inv X pins σ H { s with drawn := dr } :=
  ⟨I.ok, I.os, I.bare, I.base, I.loc, I.cell, I.free, I.freeC, I.pin, I.hok, I.len⟩
/-- sorted(set of ints) -/
theorem call_sortedS (hc : X.calm = true) : CallR X (.builtin "sorted") (fun xs H Q => ∃ (p : Addr) (ds : List Int), xs = [.ref p] ∧ H p = some (.ext (SetI X.prog X.w p ds)) ∧
    ∀ (D : Addr) (ms : List Int), H D = none → ms.Perm ds → ms.Pairwise (· < ·) → Q (.ref D) (upd H D (.lst (ms.map V.int)))) := by
  intro pins s σ H xs us Q I r h
  obtain ⟨p, ds, rfl, hp, q⟩ := h
  obtain ⟨u, rfl, ru⟩ := vals1 r
  cases ru
  have S : SetI X.prog X.w p ds s.heap := (I.hok _ _ hp).1
  have hds : ds.Nodup ∧ ds.length ≤ sizeLine := by
    obtain ⟨es, _, _, _, P⟩ := S
    exact ⟨P.nd, by rw [P.len]; exact fits_of_scanBound P.sz⟩
  refine vals_sortedE (G := fun us => ∃ ns, IntsAre us ns ∧ ns.Perm ds) (O := intO) (key := numH) (κ := oneType') (I.ok.hd hc) (fun A' hh E' Q' hq => collect_set S hh fun h' tk dr vs ns kp hge hi hpm => hq h' tk dr vs kp hge ⟨ns, hi, hpm⟩) ?_ (fun us ⟨ns, hi, _⟩ h2 A' s' _ => ints_sorts h2 hi) fun D h' tk dr vs us e ⟨ns, hi, hpm⟩ a1 a2 kp hge he => ?_
  · rintro us ⟨ns, hi, hpm⟩
    rw [hi.length, hpm.length_eq]
    exact hds.2
  obtain ⟨j1, j2⟩ := ints_perm hi a1
  have j3 := j2.trans hpm
  refine ⟨.ref D, _, (I.drew dr).laid (t' := tk) (o := .lst ((us.map numH).map V.int)) kp hge ?_, rfl, q _ _ (I.hok.fresh hge) j3 ?_⟩
  · exact ⟨by rw [List.length_map, j3.length_eq]; exact hds.2, us, e, vals_ints j1, he⟩
  · have nd : (us.map numH).Nodup := j3.nodup_iff.mpr hds.1
    have le : (us.map numH).Pairwise (· ≤ ·) := by
      rw [List.pairwise_map]
      refine a2.imp fun {x y} z => ?_
      have z' : decide (numH y < numH x) = false := z
      have := of_decide_eq_false z'
      omega
    exact (le.and nd).imp fun {a b} h => by have := h.1; have := h.2; omega
end
end L2

namespace L2
open PySem PySem.W PyProof.Rows
section
variable {prog : Program} {w : World} {A : Around} {E : Value → Shared → Prop} {s : Shared}
/-- set(a tuple of whole numbers) -/
theorem vals_setT {l : Addr} {items : Array Value} {ns : List Int} {Q : Value → Shared → Prop} (hh : A.handled = none) (hl : IsTup s.heap l items) (hi : IntsAre items.toList ns) (hb : ns.length < scanBound)
    (h : ∀ h' tk, SetI prog w s.heap.objs.size (ns.foldl ins []) h' → (∀ b o, s.heap.get? b = some o → h'.get? b = some o) → Q (.ref s.heap.objs.size) { s with heap := h', toks := tk }) :
    wpAny (model prog w) A (call (.type "set") [.ref l]) Q E s := by
  obtain ⟨c, tl, hmro⟩ := F.called_set.mro
  have m1 := F.called_set.made
  have m2 := F.called_set.sub
  have m3 := F.called_set.notType
  have m4 := F.called_set.canCreate
  have m5 := F.typeCall_set_1 (.ref l)
  refine wpAny_call (codeAny_of_tree ?_)
  show wpAny _ _ (callAny (.type "set") _) _ _ _
  refine wpAny_pure ⟨Code.quiet_builtin _ (by decide +kernel), codeAny_builtin F.entry_type_call ?_⟩
  rw [Around.under_plain (weight_type_call_type "set" [.ref l] []) rfl]
  repeat (any_goals (first | assumption | wp_step))
  refine codeAny_mono (set_new (.ref l) (E := E) (Q₁ := fun v s1 => v = .ref s.heap.objs.size ∧ s1 = { s with heap := s.heap.push (setObj #[] 0 (.fresh 0 0 (leds w))) }) ⟨rfl, rfl⟩) fun r s1 hr => ?_
  rcases r with e | f
  · exact hr
  cases f with
  | ret v =>
    obtain ⟨rfl, rfl⟩ := hr
    have hS : (s.heap.push (setObj #[] 0 (.fresh 0 0 (leds w)))).get? s.heap.objs.size = some (setObj #[] 0 (.fresh 0 0 (leds w))) := Heap.get?_push_size _ rfl
    have hT : Shared.TypeIs { s with heap := s.heap.push (setObj #[] 0 (.fresh 0 0 (leds w))) } (.ref s.heap.objs.size) "set" := ⟨_, hS, rfl⟩
    have i1 := F.called_set.init.lookup
    have i2 := F.called_set.init.bind (.ref s.heap.objs.size)
    repeat (any_goals (first | assumption | wp_step))
    refine codeAny_mono (codeAny_call_builtin (R := wants (fun r s2 => r = .none ∧ ∃ h' tk, s2 = { s with heap := h', toks := tk } ∧ SetI prog w s.heap.objs.size (ns.foldl ins []) h' ∧ ∀ b o, s.heap.get? b = some o → h'.get? b = some o) E) F.called_set.init.plain F.entry_set_init (check_set_init_1 hT ?_)) fun r2 s2 h2 => ?_
    · obtain ⟨ol, e1, e2, k, e3⟩ := hl
      obtain ⟨oc, od, oda, osl⟩ := ol
      simp only at e2 e3
      subst e2; subst e3
      have e1' := Heap.get?_push_of_some (setObj #[] 0 (.fresh 0 0 (leds w))) e1
      have j1 := F.sub_tuple_set
      have j2 := F.sub_tuple_frozenset
      have j3 : (Value.type "tuple" == Value.type "dict") = false := by decide
      have hl1 : IsTup (s.heap.push (setObj #[] 0 (.fresh 0 0 (leds w)))) l items := ⟨_, e1', rfl, k, rfl⟩
      unfold setObj at *
      unfold Builtin.«set.__init__» noKeywords Builtin.Frozenset.updateFrom
      generalize hPI : pyIter = PI
      wp_walk
      subst hPI
      refine wpAny_pyIter_tuple hl1 (wpAny_bind (wpAny_runValue ?_))
      have hlS : l < s.heap.objs.size := Heap.lt_size e1
      have hn : items.size = ns.length := by rw [← IntsAre.length hi, Array.length_toList]
      refine loop_setI (G := _) ((Walks.tuple (by simp [hh]) _ l (by rw [Heap.size_push]; exact Nat.ne_of_lt (Nat.lt_succ_of_lt hlS)) items).toS) s.heap.objs.size (by rw [Heap.size_push]; simp only [List.mem_cons, List.not_mem_nil, or_false, not_or]; exact ⟨Nat.ne_of_lt (Nat.lt_succ_self _), Nat.ne_of_gt hlS⟩) ns 0 [] _ (by rw [hn]; omega) (fun j x hj v hv => ?_) (by simpa using hb) ⟨⟨_, Heap.get?_push_size _ rfl, rfl, rfl⟩, hl1.push _⟩ ⟨#[], 0, _, Heap.get?_push_of_some _ hS, SetP.fresh⟩ fun s' m S' => ?_
      · obtain ⟨t, e⟩ := IntsAre.int_at hi j v (by rw [Array.getElem?_toList]; have := hv; rw [Nat.zero_add] at this; exact this)
        refine ⟨t, ?_⟩
        rw [e, List.getD_eq_getElem?_getD, hj]
        rfl
      · obtain ⟨h', g', d', tk', os'⟩ := s'
        have q1 : g' = s.gens := m.gens
        have q2 : d' = s.drawn := m.drawn
        have q3 : os' = s.os := m.os
        subst q1; subst q2; subst q3
        show wpAny _ _ _ _ _ _
        refine wpAny_pure ?_
        show wpAny _ _ (ret Value.none) _ _ _
        refine wpAny_pure ⟨rfl, h', tk', rfl, S', fun b o e => ?_⟩
        have hb0 := Heap.lt_size e
        refine m.heap b o ?_ (Heap.get?_push_of_some _ (Heap.get?_push_of_some _ e))
        rw [Heap.size_push]
        simp only [List.mem_cons, List.not_mem_nil, or_false, not_or]
        exact ⟨Nat.ne_of_lt hb0, Nat.ne_of_lt (Nat.lt_succ_of_lt hb0)⟩
    · rcases r2 with e | f2
      · exact h2
      cases f2 with
      | ret r =>
        obtain ⟨rfl, h', tk, rfl, S', kp⟩ := h2
        repeat (any_goals (first | assumption | wp_step))
        exact h _ _ S' kp
      | _ => exact h2.elim
  | _ => exact hr.elim
end
section
variable {X : Cx}
/-- set(tuple of ints) -/
theorem call_setT (hc : X.calm = true) : CallR X (.type "set") (fun xs H Q => ∃ (p : Addr) (ns : List Int), xs = [.ref p] ∧ H p = some (.tup (ns.map V.int)) ∧ ns.length < 4096 ∧
    ∀ (D : Addr) (ds : List Int), H D = none → (∀ x, x ∈ ds ↔ x ∈ ns) → ds.Nodup → Q (.ref D) (upd H D (.ext (SetI X.prog X.w D ds)))) := by
  intro pins s σ H xs us Q I r h
  obtain ⟨p, ns, rfl, hp, hz, q⟩ := h
  obtain ⟨u, rfl, ru⟩ := vals1 r
  cases ru
  obtain ⟨its, rv, pl, hl⟩ := I.tuple (SqT.of (K := X.K) hp)
  have hi := intsAre_of rv
  refine vals_setT (I.ok.hd hc) pl hi hz fun h' tk S kp => ?_
  have hD : H s.heap.objs.size = none := I.hok.fresh (Nat.le_refl _)
  have nd : (ns.foldl ins []).Nodup := by obtain ⟨_, _, _, _, P⟩ := S; exact P.nd
  refine ⟨.ref s.heap.objs.size, _, I.laid (t' := tk) (o := .ext (SetI X.prog X.w s.heap.objs.size (ns.foldl ins []))) kp (Nat.le_refl _) ?_, rfl, q _ _ hD (fun x => by rw [folds_mem]; simp) nd⟩
  refine ⟨S, ?_, fun h1 h2 a b => a.at' b⟩
  obtain ⟨es, ep, t, ho, _⟩ := S
  exact ⟨_, ho⟩
end
end L2

namespace L2
open PySem PySem.Spec PyProof.Rows
section
variable {X : Cx}
end
end L2

namespace L2
open PySem PySem.Spec PyProof.Rows
section
variable {X : Cx}
/-- a range object i, i + c, .. below j -/
def rngO (r : Addr) (i j c : Int) : HO := .ext fun h => ∃ t u v, h.get? r = some { cls := .type "range", data := .fields #[.int i t, .int j u, .int c v] }
/-- range(i, j, c) as a value, c above nought -/
theorem call_rangeVS : CallR X (.type "range") (fun xs H Q => ∃ i j c : Int, xs = [.int i, .int j, .int c] ∧ 0 < c ∧ c < 1000 ∧ (-(2 ^ 50) ≤ i ∧ i < 2 ^ 50 ∧ -(2 ^ 50) ≤ j ∧ j < 2 ^ 50) ∧ ∀ r, H r = none → Q (.ref r) (upd H r (rngO r i j c))) := by
  intro pins s σ H xs us Q I r h
  obtain ⟨i, j, c, rfl, c0, c1, ⟨q1, q2, q3, q4⟩, q⟩ := h
  cases r with
  | cons r rr =>
    cases rr with
    | cons r' rr =>
      cases rr with
      | cons r'' rr =>
        cases rr
        obtain ⟨t, rfl⟩ := r
        obtain ⟨t', rfl⟩ := r'
        obtain ⟨t'', rfl⟩ := r''
        refine call_range_3 (by omega) ?_ (Or.inl (PyProof.noPylong_small (by omega)))
        refine ⟨.ref s.heap.objs.size, _, I.laid (fun b u e => Heap.get?_push_of_some _ e) (Nat.le_refl _) (show ObjOk X.prog X.w _ _ _ (rngO s.heap.objs.size i j c) from ⟨⟨t, t', t'', Heap.get?_push_size _ rfl⟩, ⟨_, Heap.get?_push_size _ rfl⟩, ?_⟩), rfl, q _ (I.hok.fresh (Nat.le_refl _))⟩
        rintro h1 h2 ⟨a, b, c', e⟩ k
        exact ⟨a, b, c', k _ e⟩
def stepV (lo c : Int) (n : Nat) : List V := (List.range n).map fun (i : Nat) => V.int (lo + (i : Int) * c)
/-- list(range(i, j, c)) -/
theorem call_list_rngS (hc : X.calm = true) : CallR X (.type "list") (fun xs H Q => ∃ (p : Addr) (i j c : Int) (n : Nat), xs = [.ref p] ∧ H p = some (rngO p i j c) ∧ 0 < c ∧ c < 1000 ∧ (-(2 ^ 50) ≤ i ∧ i < 2 ^ 50 ∧ -(2 ^ 50) ≤ j ∧ j < 2 ^ 50) ∧ Builtin.Range.rangeSize i j c = (n : Int) ∧ n ≤ 1000 ∧
    ∀ l, H l = none → Q (.ref l) (upd H l (.lst (stepV i c n)))) := by
  intro pins s σ H xs us Q I r h
  obtain ⟨p, lo, hi, c, n, rfl, hp, c0, c1, ⟨b1, b2, b3, b4⟩, hn, hz, q⟩ := h
  obtain ⟨u, rfl, ru⟩ := r.one
  cases ru
  obtain ⟨⟨t, u, v, hr⟩, _⟩ := (show ObjOk X.prog X.w H s.heap p (rngO p lo hi c) from I.hok p _ hp)
  refine call_list_range (n := n) (I.ok.hd hc) hr (small_by b1 b2 b3 b4 c0 c1) hn (Nat.le_trans hz (by decide)) fun h' tk acc cp hk hS hI => ?_
  refine ⟨.ref s.heap.objs.size, _, I.laid (t' := tk) hk (Nat.le_refl _) (show ObjOk X.prog X.w _ h' _ (.lst (stepV lo c n)) from ⟨?_, acc.toList, cp, ?_, ?_⟩), rfl, q _ (I.hok.fresh (Nat.le_refl _))⟩
  · unfold stepV
    rw [List.length_map, List.length_range]
    exact Nat.le_trans hz (by decide)
  · refine Vals.of_get ?_ fun j x u a b => ?_
    · unfold stepV
      rw [List.length_map, List.length_range, Array.length_toList, hI.1]
    · have b' : acc[j]? = some u := by rw [← b, Array.getElem?_toList]
      obtain ⟨t, rfl⟩ := hI.2 j u b'
      unfold stepV at a
      rw [List.getElem?_map] at a
      obtain ⟨i, a1, rfl⟩ := Option.map_eq_some_iff.mp a
      have : i = j := by
        have := List.getElem?_eq_some_iff.mp a1
        obtain ⟨z, w⟩ := this
        rw [List.getElem_range] at w
        exact w.symm
      subst this
      exact ⟨t, rfl⟩
  · rw [Array.toArray_toList]
    exact hS
end
end L2

namespace L2
open PySem PySem.W PyProof.Rows
section
variable {X : Cx}
end
theorem ex1 {us : List Value} (h : us.length = 1) : ∃ a, us = [a] := by
  match us, h with
  | [a], _ => exact ⟨a, rfl⟩
theorem ex2 {us : List Value} (h : us.length = 2) : ∃ a b, us = [a, b] := by
  match us, h with
  | [a, b], _ => exact ⟨a, b, rfl⟩
theorem ex3 {us : List Value} (h : us.length = 3) : ∃ a b c, us = [a, b, c] := by
  match us, h with
  | [a, b, c], _ => exact ⟨a, b, c, rfl⟩
theorem ex4 {us : List Value} (h : us.length = 4) : ∃ a b c d, us = [a, b, c, d] := by
  match us, h with
  | [a, b, c, d], _ => exact ⟨a, b, c, d, rfl⟩
theorem ex6 {us : List Value} (h : us.length = 6) : ∃ a b c d e f, us = [a, b, c, d, e, f] := by
  match us, h with
  | [a, b, c, d, e, f], _ => exact ⟨a, b, c, d, e, f, rfl⟩
end L2

namespace L2
open PySem PySem.Spec PyProof.Rows PySem.SeqAt
/-! lists of rows -/
abbrev LA := Addr × List RA
def arefs (ls : List LA) : List V := ls.map fun x => V.ref x.1
def RowsOk (H : Hp) (ls : List LA) : Prop := ∀ x ∈ ls, RowAt H x.1 x.2
def RowsAt (H : Hp) (l : Addr) (ls : List LA) : Prop := H l = some (.lst (arefs ls)) ∧ RowsOk H ls
theorem RowsOk.up {H H' : Hp} {ls : List LA} (h : RowsOk H ls) (s : Same H H') : RowsOk H' ls := fun x hx => (h x hx).up s
theorem RowsAt.up {H H' : Hp} {l : Addr} {ls : List LA} (h : RowsAt H l ls) (s : Same H H') : RowsAt H' l ls := ⟨s _ _ h.1, h.2.up s⟩
section
variable {X : Cx}
end
end L2

namespace L2
open PySem PySem.Spec PyProof.Rows PySem.SeqAt
/-! lists of triples of ints -/
abbrev RT := Addr × (Int × Int × Int)
def trefs (rs : List RT) : List V := rs.map fun x => V.ref x.1
def triV (t : Int × Int × Int) : List V := [.int t.1, .int t.2.1, .int t.2.2]
def TriOk (H : Hp) (rs : List RT) : Prop := ∀ x ∈ rs, H x.1 = some (.tup (triV x.2))
def TriAt (H : Hp) (l : Addr) (rs : List RT) : Prop := H l = some (.lst (trefs rs)) ∧ TriOk H rs
theorem TriOk.up {H H' : Hp} {rs : List RT} (h : TriOk H rs) (s : Same H H') : TriOk H' rs := fun x hx => s _ _ (h x hx)
theorem TriAt.up {H H' : Hp} {l : Addr} {rs : List RT} (h : TriAt H l rs) (s : Same H H') : TriAt H' l rs := ⟨s _ _ h.1, h.2.up s⟩
theorem trefs_app (rs : List RT) (a : Addr) (t : Int × Int × Int) : trefs rs ++ [.ref a] = trefs (rs ++ [(a, t)]) := by unfold trefs; rw [List.map_append]; rfl
theorem TriAt.put {H : Hp} {F t : Addr} {fs : List RT} {x y n : Int} (h : TriAt H F fs) (ht : H t = none) : TriAt (upd (upd H t (.tup [.int x, .int y, .int n])) F (.lst (trefs fs ++ [.ref t]))) F (fs ++ [(t, x, y, n)]) := by
  have htF : t ≠ F := fun z => by rw [z, h.1] at ht; cases ht
  refine ⟨by rw [upd_same, trefs_app _ _ (x, y, n)], fun q hq => ?_⟩
  rcases List.mem_append.mp hq with hq | hq
  · have e := h.2 q hq
    rw [upd_ne (fun z => by rw [z, h.1] at e; cases e), upd_ne (ne_of_none e ht)]
    exact e
  · rw [List.mem_singleton] at hq
    subst hq
    rw [upd_ne htF]
    exact upd_same
theorem TriAt.at2 {H : Hp} {F t : Addr} {fs : List RT} {o : HO} (h : TriAt H F fs) (ht : H t = none) : upd H t o F = some (.lst (trefs fs)) := by
  rw [upd_ne (fun z => by rw [← z, h.1] at ht; cases ht)]
  exact h.1
theorem TriAt.upX {F l : Addr} {H H' : Hp} {rs : List RT} {xs : List V} (h : TriAt H l rs) (hl : l ≠ F) (hF : H F = some (.lst xs)) (x : SameX F H H') : TriAt H' l rs :=
  ⟨x _ _ hl h.1, fun y hy => x _ _ (fun e => by have := h.2 y hy; rw [e, hF] at this; cases this) (h.2 y hy)⟩
section
variable {X : Cx}
end
end L2

namespace L2
open PySem PySem.Spec PyProof.Rows PySem.SeqAt
/-! a def that answers in two ways: with and without an exception -/
section
variable {cm : Bool} {P : Program} {w : World} {K : PySem.W.Frag} {mg : Str → Option Value} {base : Heap} {CX : CXT} {k : Nat} {f : Addr} {fd : FuncData} {ps : List Str} {sp sp' : Sp}
theorem FnOk.or (F : FnOk P w K mg base CX cm k f fd ps sp) (G : FnOk P w K mg base CX cm k f fd ps sp') : FnOk P w K mg base CX cm k f fd ps (fun vs H Q E => sp vs H Q E ∨ sp' vs H Q E) :=
  ⟨fun vs H Q E h => h.elim (F.len vs H Q E) (G.len vs H Q E), fun A outer s H args us vs Q E hr he hb hv hs => hs.elim (F.run A outer s H args us vs Q E hr he hb hv) (G.run A outer s H args us vs Q E hr he hb hv)⟩
end
section
variable {X : Cx}
end
section
variable {X : Cx} {K : PySem.W.Frag}
end
end L2

namespace L2
open PySem PySem.Spec PyProof.Rows PySem.SeqAt
/-- a comprehension over a list, no test, by an invariant -/
theorem comp_inv {K : PySem.W.Frag} {a : Addr} {cap : List (Option Nat)} {tt : TT} {te : TE} {σ : St} {H1 : Hp} {Q : VK} {xs : List V} (hsz : xs.length ≤ 100000) (htt : ∀ σ H R, R true H → tt σ H R)
    (G : Addr → Nat → List V → Hp → Prop) (hl : ∀ D i ys H', G D i ys H' → SqL K H' a xs ∧ H' D = some (.lst ys) ∧ ys.length = i) (h0 : ∀ D, H1 D = none → G D 0 [] (upd H1 D (.lst [])))
    (he : ∀ D i x ys H', xs[i]? = some x → G D i ys H' → ∀ R : VK, (∀ y H5, H5 D = some (.lst ys) → G D (i + 1) (ys ++ [y]) (upd H5 D (.lst (ys ++ [y]))) → R y H5) → te ((capt cap σ).set 0 (some x)) H' R)
    (k : ∀ D ys H', G D xs.length ys H' → Q (.ref D) H') : compBody (Itl K a) H1 cap (gName 0) tt te σ Q := by
  intro D hD
  refine ⟨fun i m ys σ' H' => m = xs.length - i ∧ i ≤ xs.length ∧ (∀ v, σ'.set 0 v = (capt cap σ).set 0 v) ∧ G D i ys H', ⟨xs.length, by simp, Nat.zero_le _, fun _ => rfl, h0 D hD⟩, ?_⟩
  rintro i m ys σ' H' ⟨rfl, hi, hσ, g⟩
  obtain ⟨q, hl1, hlen⟩ := hl D i ys H' g
  refine ⟨hl1, ?_⟩
  by_cases hlt : i < xs.length
  · refine .inr ⟨⟨xs, xs[i], q, by simp [hlt]⟩, fun x H2 y => ?_⟩
    obtain ⟨e, y⟩ := y
    subst e
    have hss : ∀ v, ((capt cap σ).set 0 (some x)).set 0 v = (capt cap σ).set 0 v := fun v => by rw [List.set_set]
    show tt (σ'.set 0 (some x)) _ _
    rw [hσ]
    refine htt _ _ _ (iteT ?_)
    exact he D i x ys _ (y xs q) g _ fun v H5 e5 g5 => ⟨e5, Nat.lt_of_le_of_lt (by omega : ys.length ≤ 100000) (by decide), xs.length - (i + 1), by omega, rfl, hlt, hss, g5⟩
  · have e : i = xs.length := by omega
    subst e
    exact .inl ⟨⟨xs, q, Nat.le_refl _⟩, k D ys H' g⟩
section
variable {X : Cx}
/-- != of two tuples of pairs -/
theorem op_neTup (hu : X.A.units + 2 < cLine) : OpR X (compareOp .NotEq) (fun x y H Q => ∃ (a b : Addr) (rs qs : List RA), x = .ref a ∧ y = .ref b ∧ H a = some (.tup (refs rs)) ∧ H b = some (.tup (refs qs)) ∧ RowOk H rs ∧ RowOk H qs ∧ Q (.bl (!decide (sps rs = sps qs))) H) := by
  intro pins s σ H x y v u Q I rx ry h
  obtain ⟨a, b, rs, qs, rfl, rfl, ha, hb, hr, hq, q⟩ := h
  cases rx
  cases ry
  obtain ⟨its, rv, pl, hz⟩ := I.tuple (SqT.of (K := X.K) ha)
  obtain ⟨its2, rv2, pl2, hz2⟩ := I.tuple (SqT.of (K := X.K) hb)
  have e := vals_refs rv
  have e2 := vals_refs rv2
  subst e e2
  have l1 : (refVs rs).toArray.size = rs.length := by unfold refVs; simp
  have l2 : (refVs qs).toArray.size = qs.length := by unfold refVs; simp
  refine RcNeAt.tuples (e := fun j => decide ((rs.getD j (0, 0, 0)).2 = (qs.getD j (0, 0, 0)).2)) pl pl2 (by omega) (fun j h1 h2 => rows_eqAt (I.tups hr) (I.tups hq) (hr.same hq) hu h1 h2) X.prog X.w X.xe _ ?_
  by_cases hl : rs.length = qs.length
  · rw [l1, l2, ← hl, Nat.min_self]
    have z := sps_eq hl
    rw [l1] at z
    rw [z, beq_self_eq_true, Bool.and_true]
    exact ⟨.bl _, H, I, rfl, q⟩
  · rw [l1, l2, beq_eq_false_iff_ne.mpr hl, Bool.and_false]
    rw [decide_eq_false (fun z => hl (by have := congrArg List.length z; unfold sps at this; simpa using this))] at q
    exact ⟨.bl _, H, I, rfl, q⟩
end
end L2

namespace L2
open PySem PySem.Spec PyProof.Rows
/-! isinstance(o, C), o a record of our own -/
structure IsO (K : PySem.W.Frag) (C : Addr) : Prop where
  ha : PySem.W.findIn K (.ref C) "__class__" = some (some (.builtin "object.__class__"))
  hn : PySem.W.specialIn K (.builtin "object.__class__") "__get__" = some (some (.builtin "getset_descriptor.__get__"))
  htk : PySem.W.takesIn K (.builtin "object.__class__") = some true
  hm : PySem.W.mroIn K C (.type "object") = some true
theorem call_isiOK {X : Cx} {K : PySem.W.Frag} (hK : X.K = K) : CallR X (.builtin "isinstance") (fun xs H Q => ∃ (e C D dx : Addr) (fs : List (Str × V)) (b : Bool), xs = [.ref e, .ref D] ∧ H e = some (.ins C dx fs) ∧ Cls K C ∧ IsO K C ∧ PySem.W.kitOne K (.ref C) (.ref D) = some b ∧ Q (.bl b) H) := by
  subst hK
  intro pins s σ H xs us Q I r h
  obtain ⟨e, C, D, dx, fs, b, rfl, he, cl, io, k, q⟩ := h
  obtain ⟨u, v, rfl, ru, rv⟩ := r.two
  cases rv
  exact isinst_ok I ru (TyOf.ins he cl io.ha io.hn io.htk io.hm) k fun tk => ⟨.bl b, H, I.tok tk, rfl, q⟩
end L2

/-! lambdas that keep names: a def that makes one, hands it on; its call -/
namespace L2
open PySem PySem.Spec PyProof.Rows
/-- a cell that holds v; a lambda's code object; a lambda of the text -/
def cellO (c : Addr) (v : V) : HO := .ext fun h => ∃ o u, h.get? c = some o ∧ o.data = .cell (some u) ∧ RelV v u
def codeO (c : Addr) (q : Str) : HO := .ext fun h => ∃ o vs t, h.get? c = some o ∧ o.data = .fields vs ∧ vs[1]? = some (.str q t)
def lamO (f : Addr) (ps : Arguments) (b : Expr) (sc : Scope) (cl : List (Str × Addr)) (q : Str) (cd : Addr) : HO :=
  .ext fun h => ∃ pm ctv, h.get? f = some (PySem.W.kla_obj "<lambda>" q ps b sc cl pm cd ctv)
theorem cellO_ok {P : Program} {w : World} {H : Hp} {h : Heap} {c : Addr} {v : V} {u : Value} (e : h.IsCell c (some u)) (r : RelV v u) : ObjOk P w H h c (cellO c v) := by
  obtain ⟨o, e1, e2⟩ := e
  refine ⟨⟨o, u, e1, e2, r⟩, ⟨o, e1⟩, ?_⟩
  rintro h1 h2 ⟨o', u', q1, q2, q3⟩ k
  exact ⟨o', u', k _ q1, q2, q3⟩
theorem codeO_ok {P : Program} {w : World} {H : Hp} {h : Heap} {c : Addr} {q : Str} (e : h.CodeRec (.ref c) q) : ObjOk P w H h c (codeO c q) := by
  obtain ⟨c', o, vs, t, e0, e1, e2, e3⟩ := e
  cases e0
  refine ⟨⟨o, vs, t, e1, e2, e3⟩, ⟨o, e1⟩, ?_⟩
  rintro h1 h2 ⟨o', vs', t', q1, q2, q3⟩ k
  exact ⟨o', vs', t', k _ q1, q2, q3⟩
theorem lamO_ok {P : Program} {w : World} {H : Hp} {h : Heap} {f cd : Addr} {ps : Arguments} {b : Expr} {sc : Scope} {cl : List (Str × Addr)} {q : Str} {pm ctv : Value}
    (e : h.get? f = some (PySem.W.kla_obj "<lambda>" q ps b sc cl pm cd ctv)) : ObjOk P w H h f (lamO f ps b sc cl q cd) := by
  refine ⟨⟨pm, ctv, e⟩, ⟨_, e⟩, ?_⟩
  rintro h1 h2 ⟨pm', ctv', q1⟩ k
  exact ⟨pm', ctv', k _ q1⟩
/-- the table of the code at c stands at P -/
structure MkL (mg : Str → Option Value) (base : Heap) (c P : Addr) : Prop where
  hd : PySem.W.CodeHd base c P
  bm : base.BuiltinsAt mg P
/-- the table at P: as yet empty, or it has the lambda's code -/
def LTab (H : Hp) (P : Addr) (pos : Pos) (q : Str) : Prop :=
  H P = some (.tbl #[]) ∨ ∃ cd, H P = some (.tbl #[rawInt pos.line, rawInt pos.col, .ref cd]) ∧ H cd = some (codeO cd q)
/-- tracked things stay but for what x tells -/
theorem objs_stay {P : Program} {w : World} {H H' : Hp} {h h' : Heap} {p : Addr} {ps : Array Value} (hp : H p = some (.tbl ps)) (ok : HOk P w H h) (k : ∀ b o, b ≠ p → h.get? b = some o → h'.get? b = some o) (s : ∀ b u, b ≠ p → H b = some u → H' b = some u)
    {b : Addr} {u : HO} (hb : b ≠ p) (e : H b = some u) : ObjOk P w H' h' b u := by
  have own : ∀ b' x, H b' = some (.own x) → b' ≠ p := fun b' x z q => by rw [q, hp] at z; cases z
  have tup : ∀ b' x, H b' = some (.tup x) → b' ≠ p := fun b' x z q => by rw [q, hp] at z; cases z
  exact (ok b u e).stay (fun b' u' z q => k b' u' (z.elim (fun z => z ▸ hb) (own _ _)) q) (fun b' z => s _ _ (own _ _ z) z) fun b' xs z => s _ _ (tup _ _ z) z
section
variable {X : Cx} {ps : Arguments} {b : Expr} {sc : Scope} {pos : Pos} {c P : Addr} {cl : List (Str × Addr)}
def tLam (X : Cx) (P : Addr) (ps : Arguments) (b : Expr) (sc : Scope) (pos : Pos) (cl : List (Str × Addr)) : TE := fun _ H Q => LTab H P pos (X.env.qual ++ "<lambda>") ∧
  (H P = some (.tbl #[]) → ∀ f cd, H f = none → H cd = none → f ≠ cd → Q (.ref f) (upd (upd (upd H P (.tbl #[rawInt pos.line, rawInt pos.col, .ref cd])) cd (codeO cd (X.env.qual ++ "<lambda>"))) f (lamO f ps b sc cl (X.env.qual ++ "<lambda>") cd))) ∧
  (∀ cd, H P = some (.tbl #[rawInt pos.line, rawInt pos.col, .ref cd]) → ∀ f, H f = none → Q (.ref f) (upd H f (lamO f ps b sc cl (X.env.qual ++ "<lambda>") cd)))
theorem pe_lam (M : MkL X.mg X.base c P) (hcode : X.env.code = .ref c) (hdef : defaultsOf ps X.env = ([], []) := by rfl) (hcl : closureFor sc X.env = pure cl := by rfl) : PE X (.Lambda ps b sc pos) (tLam X P ps b sc pos cl) := by
  intro pins s σ H Q I ⟨ht, hq1, hq2⟩
  have hg : s.heap.Ns mainGlobals X.mg := I.mod.glob.keeps I.bk
  have hC : PySem.W.CodeHd s.heap c P := M.hd.keeps I.bk
  have hB : s.heap.BuiltinsAt X.mg P := by
    obtain ⟨bm, o, h1, h2, h3, h4, h5, h6⟩ := M.bm
    exact ⟨bm, o, h1, h2, h3, h4, I.bk _ _ h5, h6⟩
  have tabs : ∀ {a : Array Value}, H P = some (.tbl a) → s.heap.get? P = some (PySem.W.tabObj a) := fun e => (show ObjOk X.prog X.w H s.heap P (.tbl _) from I.hok P _ e)
  refine PySem.W.kla_eval hdef ?_
  rcases ht with e | ⟨cd, e, ecd⟩
  · have hgP : mainGlobals ≠ P := fun z => by
      have := (I.bs mainGlobals)
      obtain ⟨o, es, ep, e1, _⟩ := I.mod.glob
      have := (I.bs _ _ e1).2
      rw [z, e] at this
      cases this
    refine PySem.W.kla_makeFunction (mg := X.mg) hcl I.ok.glob hg hcode hC (tabs e) trivial rfl hgP hB fun c' ctv h' tk hx hge hlt hrec htb => ?_
    have hsz : s.heap.objs.size ≤ h'.objs.size := Nat.le_trans hge (Nat.le_of_lt hlt)
    have nf : H h'.objs.size = none := I.hok.fresh hsz
    have nc : H c' = none := I.hok.fresh hge
    have ne : h'.objs.size ≠ c' := Nat.ne_of_gt hlt
    have hPf : P ≠ h'.objs.size := ne_of_none e nf
    have hPc : P ≠ c' := ne_of_none e nc
    have kp : ∀ b' o, b' ≠ P → s.heap.get? b' = some o → (h'.push (PySem.W.kla_obj "<lambda>" (X.env.qual ++ "<lambda>") ps b sc cl ((X.mg "__name__").getD .none) c' ctv)).get? b' = some o := fun b' o hb z => Heap.get?_push_of_some _ (hx b' o hb z)
    have st : ∀ b' u, b' ≠ P → H b' = some u → (upd (upd (upd H P (.tbl #[rawInt pos.line, rawInt pos.col, .ref c'])) c' (codeO c' (X.env.qual ++ "<lambda>"))) h'.objs.size (lamO h'.objs.size ps b sc cl (X.env.qual ++ "<lambda>") c')) b' = some u := fun b' u hb z => by
      rw [upd_ne (ne_of_none z nf), upd_ne (ne_of_none z nc), upd_ne hb]; exact z
    have stP : (upd (upd (upd H P (.tbl #[rawInt pos.line, rawInt pos.col, .ref c'])) c' (codeO c' (X.env.qual ++ "<lambda>"))) h'.objs.size (lamO h'.objs.size ps b sc cl (X.env.qual ++ "<lambda>") c')) P = some (.tbl #[rawInt pos.line, rawInt pos.col, .ref c']) := by
      rw [upd_ne hPf, upd_ne hPc, upd_same]
    have nP : ∀ b' o, s.heap.get? b' = some o → H b' = none → b' ≠ P := fun b' o _ n z => by rw [z, e] at n; cases n
    refine ⟨.ref h'.objs.size, _, I.un (t' := tk) (h' := h'.push (PySem.W.kla_obj "<lambda>" (X.env.qual ++ "<lambda>") ps b sc cl ((X.mg "__name__").getD .none) c' ctv)) ?_ ?_, rfl, hq1 e _ c' nf nc ne⟩
    · refine ⟨fun b' o z n _ _ => kp b' o (nP b' o z n) z, fun b' o z n _ _ => ⟨o.slots, kp b' o (nP b' o z n) z⟩, fun b' o z n _ => ?_, fun b' o z _ => ?_, fun b' xs z => st b' _ (fun q => by rw [q, e] at z; cases z) z, fun b' o u z => st b' _ (fun q => by rw [q, e] at z; cases z) z, fun b' a z => ?_⟩
      · have l := Heap.lt_size z
        rw [upd_ne (Nat.ne_of_lt (Nat.lt_of_lt_of_le l hsz)), upd_ne (Nat.ne_of_lt (Nat.lt_of_lt_of_le l hge)), upd_ne (nP b' o z n)]
        exact n
      · by_cases hb : b' = P
        · subst hb; exact ⟨_, Heap.get?_push_of_some _ htb⟩
        · exact ⟨o, kp b' o hb z⟩
      · by_cases hb : b' = P
        · subst hb
          rw [e] at z
          cases z
          exact ⟨#[rawInt pos.line, rawInt pos.col, .ref c'], by rw [stP, Array.empty_append]⟩
        · exact ⟨#[], by rw [st b' _ hb z]; simp⟩
    · intro b' u z
      by_cases h1 : b' = h'.objs.size
      · subst h1
        rw [upd_same] at z
        cases z
        exact lamO_ok (Heap.get?_push_size _ rfl)
      · rw [upd_ne h1] at z
        by_cases h2 : b' = c'
        · subst h2
          rw [upd_same] at z
          cases z
          obtain ⟨c2, o, vs, t, e0, e1, e2⟩ := hrec
          cases e0
          exact codeO_ok ⟨_, o, vs, t, rfl, Heap.get?_push_of_some _ e1, e2⟩
        · rw [upd_ne h2] at z
          by_cases h3 : b' = P
          · subst h3
            rw [upd_same] at z
            cases z
            have htb' := Heap.get?_push_of_some (PySem.W.kla_obj "<lambda>" (X.env.qual ++ "<lambda>") ps b sc cl ((X.mg "__name__").getD .none) c' ctv) htb
            rw [Array.empty_append] at htb'
            exact htb'
          · rw [upd_ne h3] at z
            exact objs_stay e I.hok kp st h3 z
  · refine PySem.W.kla_makeFunctionHit (mg := X.mg) (cv := .ref cd) hcl I.ok.glob hg hcode hC (tabs e) trivial ?_ hB fun ctv h' tk hk hsz => ?_
    · show codeAmong pos [rawInt pos.line, rawInt pos.col, .ref cd] = some (.ref cd)
      unfold codeAmong rawInt
      dsimp only
      simp
    have nf : H h'.objs.size = none := I.hok.fresh hsz
    refine ⟨.ref h'.objs.size, _, I.laid (t' := tk) (h' := h'.push (PySem.W.kla_obj "<lambda>" (X.env.qual ++ "<lambda>") ps b sc cl ((X.mg "__name__").getD .none) cd ctv)) (fun b' o z => Heap.get?_push_of_some _ (hk b' o z)) hsz (lamO_ok (Heap.get?_push_size _ rfl)), rfl, hq2 cd e _ nf⟩
end
end L2

/-! a def that hands on the cells of its names; the call of a lambda -/
namespace L2
open PySem PySem.Spec PyProof.Rows
theorem HOk.track {P : Program} {w : World} {H : Hp} {h : Heap} {c : Addr} {o : HO} (ok : HOk P w H h) (n : H c = none) (new : ObjOk P w (upd H c o) h c o) : HOk P w (upd H c o) h := fun b u e => by
  by_cases hb : b = c
  · subst hb; rw [upd_same] at e; cases e; exact new
  · rw [upd_ne hb] at e
    exact (ok b u e).stay (fun _ _ _ q => q) (fun b' z => by rw [upd_ne (ne_of_none z n)]; exact z) fun b' xs z => by rw [upd_ne (ne_of_none z n)]; exact z
theorem Un.track {fs ex : List Addr} {H H1 : Hp} {h h1 : Heap} {c : Addr} {o : HO} (u : Un fs ex H H1 h h1) (hc : h.objs.size ≤ c) (n : H1 c = none) : Un fs ex H (upd H1 c o) h h1 :=
  ⟨u.keep, u.slot, fun b ob q z hx => by rw [upd_ne (Nat.ne_of_lt (Nat.lt_of_lt_of_le (Heap.lt_size q) hc))]; exact u.free b ob q z hx, u.there,
    fun b xs z => by rw [upd_ne (ne_of_none (u.tups b xs z) n)]; exact u.tups b xs z, fun b ob x z => by rw [upd_ne (ne_of_none (u.frzs b ob x z) n)]; exact u.frzs b ob x z,
    fun b ps z => by obtain ⟨m, e⟩ := u.tbls b ps z; exact ⟨m, by rw [upd_ne (ne_of_none e n)]; exact e⟩⟩
def cellsIn : List (Nat × Str × Addr × V) → Hp → Hp
  | [], H => H
  | p :: L, H => upd (cellsIn L H) p.2.2.1 (cellO p.2.2.1 p.2.2.2)
theorem cellsIn_ne {H : Hp} {b : Addr} : ∀ {L : List (Nat × Str × Addr × V)}, b ∉ L.map (fun p => p.2.2.1) → cellsIn L H b = H b
  | [], _ => rfl
  | p :: L, h => by
    rw [List.map_cons, List.mem_cons, not_or] at h
    show upd (cellsIn L H) p.2.2.1 _ b = H b
    rw [upd_ne h.1]
    exact cellsIn_ne h.2
/-- what a return hands on: the cells of some of the body's names -/
def RC (N : List Str) (sc : Scope) (n : Nat) (Q : VK) : St → VK := fun σ v H => ∃ L : List (Nat × Str × Addr × V),
  (∀ p ∈ L, N[p.1]? = some p.2.1 ∧ σ[p.1]? = some (some p.2.2.2) ∧ (cellsFrom n sc.names []).lookup p.2.1 = some p.2.2.1 ∧ sc.names.lookup p.2.1 = some .cell) ∧ (L.map (fun p => p.2.2.1)).Nodup ∧ ((∀ p ∈ L, H p.2.2.1 = none) → Q v (cellsIn L H))
def codeRef (K : PySem.W.Frag) (f : Addr) : Option Addr := match K.lookup f with
  | some ⟨_, _, .func fd, _⟩ => (match fd.code with
    | .ref c => some c
    | _ => none)
  | _ => none
section
variable {P : Program} {w : World} {K : PySem.W.Frag} {mg : Str → Option Value} {base : Heap} {cm : Bool}
theorem cells_end {X : Cx} {pins : List (Addr × Obj)} {σ : St} {H : Hp} {s : Shared} {fs : List Addr} (J : Inv X pins σ H s) (hf : ∀ x, X.fn x = true) (un : Un fs [] X.H₀ H X.s₀.heap s.heap) : ∀ L : List (Nat × Str × Addr × V),
    (∀ p ∈ L, X.N[p.1]? = some p.2.1 ∧ σ[p.1]? = some (some p.2.2.2) ∧ X.env.cells.lookup p.2.1 = some p.2.2.1 ∧ X.env.scope.names.lookup p.2.1 = some .cell) → (L.map (fun p => p.2.2.1)).Nodup →
    Un fs [] X.H₀ (cellsIn L H) X.s₀.heap s.heap ∧ HOk X.prog X.w (cellsIn L H) s.heap
  | [], _, _ => ⟨un, J.hok⟩
  | p :: L, h, nd => by
    rw [List.map_cons, List.nodup_cons] at nd
    obtain ⟨u1, k1⟩ := cells_end J hf un L (fun q hq => h q (List.mem_cons_of_mem _ hq)) nd.2
    obtain ⟨a1, a2, a3, a4⟩ := h p (List.mem_cons_self ..)
    have n0 : cellsIn L H p.2.2.1 = none := by rw [cellsIn_ne nd.1]; exact J.freeC _ _ a3
    obtain ⟨m, _, hl⟩ := J.loc
    obtain ⟨u, rv, lk⟩ := hl _ _ _ a1 a2 (.inr (.inl a4))
    have hc : s.heap.IsCell p.2.2.1 (some u) := by
      rcases lk with ⟨z, _⟩ | ⟨_, c, e, z⟩
      · have z' : X.env.scope.names.lookup p.2.1 = some .local := z
        rw [a4] at z'; cases z'
      · rw [a3] at e; cases e; exact z
    exact ⟨u1.track (J.ok.cab _ _ (hf _) a3) n0, k1.track n0 (cellO_ok hc rv)⟩
theorem fn_ofC {k : Nat} {f cc : Addr} {name qual : Str} {params : Arguments} {body : List Stmt} {scope : Scope} {dV kV doc pm cdv ct oc : Value} {an od : Option Addr}
    {osl : Array (Option Value)} {N ps : List Str} {sp : Sp} (lk : K.lookup f = some ⟨oc, od, .func (PySem.W.fnOf name qual params body scope dV kV doc pm an cdv ct), osl⟩) (hcd : PySem.W.codeIn K cdv qual = true) (S : FnScope N ps scope) (hcc : codeRef K f = some cc)
    (len : ∀ vs H Q E, sp vs H Q E → vs.length = ps.length)
    (hbody : ∀ (A : Around) (outer : List Env) (s : Shared) (H : Hp) (vs : List V) (Q : VK) (E : XK), Room cm k (A.deeper (envOfC qual scope s.heap.objs.size f (.ref cc))) → sp vs H Q E →
      ∃ t, PSs (cxOf CX0 cm P w K mg base N qual scope f (.ref cc) A outer s H E) body t ∧ t { nx := fun _ H' => Q .non H', rt := RC N scope (s.heap.objs.size + 1) Q } (start N vs) H) :
    FnOk P w K mg base CX0 cm (k + 1) f (PySem.W.fnOf name qual params body scope dV kV doc pm an cdv ct) ps sp := by
  have ecd : cdv = .ref cc := by
    unfold codeRef at hcc
    rw [lk] at hcc
    dsimp only [PySem.W.fnOf] at hcc
    cases cdv <;> first | (cases hcc; rfl) | (cases hcc)
  subst ecd
  refine ⟨len, fun A outer s H args us vs Q E hr e0 hb r hsp => ?_⟩
  have hl := len _ _ _ _ hsp
  have KX : K.In s.heap := e0.mod.kin.keeps fun b o e => (e0.bs b o e).1
  have lim : s.heap.NoLimit := e0.mod.nolimit.keeps fun b o e => (e0.bs b o e).1
  have hkind : ∀ y ∈ ps.zip us, scope.names.lookup y.1 = some .local ∨ (scope.names.lookup y.1 = some .cell ∧ ((cellsFrom (s.heap.objs.size + 1) scope.names []).lookup y.1).isSome = true) := fun ⟨n, v⟩ hy => by
    rcases S.par n (List.of_mem_zip hy).1 with q | q
    · exact .inl q
    · exact .inr ⟨q, PySem.W.cellsFrom_some _ _ _ (.inl q)⟩
  refine codeAny_call_function hr.depth (KX _ _ lk) rfl S.co S.gen rfl (PySem.W.codeRec_of KX hcd) (hb _ _ _ _ ?_)
  refine wpAny_newFunctionEnv_cells S.kind hkind fun env he s1 x => ?_
  subst he
  refine ⟨lim.keeps x.toInCall.keep, codeAny_func ?_⟩
  obtain ⟨t, ht, hq⟩ := hbody A outer s H vs Q E (hr.deeper _) hsp
  have I : Inv (cxOf CX0 cm P w K mg base N qual scope f (.ref cc) A outer s H E) [] (start N vs) H s1 := inv_start S hr.hd e0 hl r x
  refine wpAny_mono (ht [] s1 (start N vs) H _ I hq) (fun fl s' hs => ?_) fun e s' hs => hs
  cases fl with
  | ret u =>
    obtain ⟨v, σ', H', J, rv, L, h1, h2, q⟩ := hs
    obtain ⟨u1, k1⟩ := cells_end J (fun _ => rfl) J.base L (fun p hp => h1 p hp) h2
    exact ⟨v, _, J.os, J.bare, u1, k1, rv, q fun p hp => J.freeC _ _ (h1 p hp).2.2.1⟩
  | next =>
    obtain ⟨σ', H', J, q⟩ := hs
    exact ⟨.non, H', J.os, J.bare, J.base, J.hok, rfl, q⟩
  | brk =>
    obtain ⟨_, _, _, q⟩ := hs
    exact False.elim q
  | cont =>
    obtain ⟨_, _, _, q⟩ := hs
    exact False.elim q
theorem Fun.okC {x qual : Str} {st : Stmt} {f cc : Addr} {fd : FuncData} {N ps : List Str} {k : Nat} {sp : Sp} (F : Fun K x qual st f fd) (S : FnScope N ps (defScope st)) (hcc : codeRef K f = some cc) (len : ∀ vs H Q E, sp vs H Q E → vs.length = ps.length)
    (hbody : ∀ (A : Around) (outer : List Env) (s : Shared) (H : Hp) (vs : List V) (Q : VK) (E : XK), Room cm k (A.deeper (envOfC qual (defScope st) s.heap.objs.size f (.ref cc))) → sp vs H Q E →
      ∃ t, PSs (cxOf CX0 cm P w K mg base N qual (defScope st) f (.ref cc) A outer s H E).nox (defBody st) t ∧ t { nx := fun _ H' => Q .non H', rt := RC N (defScope st) (s.heap.objs.size + 1) Q } (start N vs) H) : FnOk P w K mg base CX0 cm (k + 1) f fd ps sp := by
  obtain ⟨oc, od, kV, doc, pm, an, cdv, ct, osl, rfl, lk, hcd⟩ := F.ex
  refine fn_ofC lk hcd S hcc len fun A outer s H vs Q E hr hsp => ?_
  obtain ⟨t, h, q⟩ := hbody A outer s H vs Q E hr hsp
  exact ⟨t, h.nox, q⟩
/-- the context of a lambda's body -/
def cxLam (cm : Bool) (P : Program) (w : World) (K : PySem.W.Frag) (mg : Str → Option Value) (base : Heap) (N : List Str) (qual : Str) (scope : Scope) (f cd : Addr) (cl : List (Str × Addr)) (A : Around) (outer : List Env) (s : Shared) (H : Hp) : Cx where
  prog := P
  w := w
  K := K
  mg := mg
  base := base
  A := A.deeper (PySem.W.envX qual scope s.heap.objs.size f (.ref cd) cl)
  N := N
  s₀ := s
  H₀ := H
  env := PySem.W.envX qual scope s.heap.objs.size f (.ref cd) cl
  outer := outer
  stack := PySem.W.envX qual scope s.heap.objs.size f (.ref cd) cl :: outer
  ex := []
  calm := cm
  fn := fun _ => false
  pn := []
  xe := fun _ _ => False
def lessC (cl : List (Str × Addr)) (H : Hp) : Hp := fun b => if b ∈ cl.map (·.2) then none else H b
theorem lessC_none {cl : List (Str × Addr)} {H : Hp} {b : Addr} (h : H b = none) : lessC cl H b = none := by unfold lessC; split <;> first | rfl | exact h
theorem lessC_in {cl : List (Str × Addr)} {H : Hp} {b : Addr} (h : b ∈ cl.map (·.2)) : lessC cl H b = none := if_pos h
theorem lessC_out {cl : List (Str × Addr)} {H : Hp} {b : Addr} (h : b ∉ cl.map (·.2)) : lessC cl H b = H b := if_neg h
theorem lessC_some {cl : List (Str × Addr)} {H : Hp} {b : Addr} {u : HO} (h : lessC cl H b = some u) : b ∉ cl.map (·.2) ∧ H b = some u := by
  by_cases hb : b ∈ cl.map (·.2)
  · rw [lessC_in hb] at h; cases h
  · rw [lessC_out hb] at h; exact ⟨hb, h⟩
/-- a lambda's scope: x is its own name, all others are kept from without -/
structure LamScope (x : Str) (fr : List Str) (sc : Scope) : Prop where
  kind : sc.kind = .function
  co : sc.isCoroutine = false
  gen : sc.isGenerator = false
  loc : sc.names.lookup x = some .local
  nd : (x :: fr).Nodup
  free : ∀ y ∈ fr, sc.names.lookup y = some .free
  noc : ∀ y ∈ sc.names, y.2 ≠ .cell
  all : ∀ y ∈ sc.names, y.2 = .free → y.1 ∈ fr
/-- at f stands the lambda, with zs in its cells -/
structure LamIs (H : Hp) (f : Addr) (ps : Arguments) (b : Expr) (sc : Scope) (q : Str) (fr : List Str) (zs : List V) (cl : List (Str × Addr)) (cd : Addr) : Prop where
  at_ : H f = some (lamO f ps b sc cl q cd)
  code : H cd = some (codeO cd q)
  nd : (cl.map (·.2)).Nodup
  len : zs.length = fr.length
  has : ∀ (i : Nat) (x : Str) (z : V), fr[i]? = some x → zs[i]? = some z → ∃ c, cl.lookup x = some c ∧ H c = some (cellO c z)
  all : ∀ p ∈ cl, ∃ z, H p.2 = some (cellO p.2 z)
theorem lam_run {k : Nat} {A : Around} {outer : List Env} {s : Shared} {H : Hp} {f cd : Addr} {u : Value} {y : V} {zs : List V} {Q : VK} {E : XK} {ps : Arguments} {b : Expr} {sc : Scope} {q : Str} {x : Str} {fr : List Str} {cl : List (Str × Addr)} {t : TE}
    (S : LamScope x fr sc) (L : LamIs H f ps b sc q fr zs cl cd) (hbind : ∀ pm ctv, bindArgs (PySem.W.kla_fn "<lambda>" q ps b sc cl pm (.ref cd) ctv) ⟨[u], []⟩ = pure [(x, u)]) (hr : Room cm k A) (e0 : Env0 P w K mg base A outer s H) (ry : RelV y u)
    (hb : PE (cxLam cm P w K mg base (x :: fr) q sc f cd cl A outer s (lessC cl H)) b t) (hq : t (some y :: zs.map some) (lessC cl H) fun v H1 => H1 = lessC cl H ∧ Q v H) :
    codeAny (model P w) A (.call (.ref f) ⟨[u], []⟩) (CR CX0 outer P w H s Q E) s := by
  obtain ⟨⟨pm, ctv, ho⟩, _, _⟩ := (show ObjOk P w H s.heap f (lamO f ps b sc cl q cd) from e0.hok f _ L.at_)
  obtain ⟨⟨oc, vs, tk, c1, c2, c3⟩, _, _⟩ := (show ObjOk P w H s.heap cd (codeO cd q) from e0.hok cd _ L.code)
  have lim : s.heap.NoLimit := e0.mod.nolimit.keeps fun b o e => (e0.bs b o e).1
  have hcell : ∀ c, c ∈ cl.map (·.2) → ∃ z, H c = some (cellO c z) := fun c hc => by
    obtain ⟨p, hp, rfl⟩ := List.mem_map.mp hc
    exact L.all p hp
  have notC : ∀ {b' : Addr} {o : HO}, H b' = some o → (∀ z, o ≠ cellO b' z) → b' ∉ cl.map (·.2) := fun e n hc => by
    obtain ⟨z, e2⟩ := hcell _ hc
    rw [e] at e2
    exact n z (Option.some.inj e2)
  refine PySem.W.kla_callFunE hr.depth ho rfl S.co S.gen rfl ⟨cd, oc, vs, tk, rfl, c1, c2, c3⟩ ?_
  rw [hbind]
  refine wpAny_pure (wpAny_newFunctionEnv S.noc (fun z hz => by rw [List.mem_singleton] at hz; subst hz; exact S.loc) (fun h₁ hns hsb => ⟨lim.fresh _ hsb, ?_⟩) S.kind)
  have hk₁ : ∀ b o, s.heap.get? b = some o → h₁.get? b = some o := fun b o e => hsb.extBut b o (Nat.ne_of_lt (Heap.lt_size e)) (Heap.get?_push_of_some _ e)
  have I : Inv (cxLam cm P w K mg base (x :: fr) q sc f cd cl A outer s (lessC cl H)) [] (some y :: zs.map some) (lessC cl H) { s with heap := h₁, toks := s.toks + 1 } := by
    have noA : ∀ b : Addr, b ∉ (cxLam cm P w K mg base (x :: fr) q sc f cd cl A outer s (lessC cl H)).ex := fun b z => absurd (show b ∈ ([] : List Addr) from z) (by simp)
    refine ⟨⟨e0.mod, S.kind, rfl, rfl, Nat.le_refl _, fun y' z c h1 h2 => ?_, fun y' hy => ?_, fun y' c h => (by cases h), hr.hd, Around.frames_deeper e0.frames, .inr ⟨rfl, rfl⟩, fun b z => absurd z (noA b), fun b o e => ⟨(e0.bs b o e).1, lessC_none (e0.bs b o e).2⟩, e0.bsz, fun b _ _ => noA b, fun b z => absurd z (noA b), e0.funs, fun b hb => lessC_none (e0.frf b hb)⟩,
      rfl, e0.bare, Un.kept hk₁, ⟨_, hns, fun i x' v h1 h2 h3 => ?_⟩, fun y' c h => ?_, lessC_none (e0.hok.fresh (Nat.le_refl _)), fun y' c h => lessC_in (List.mem_map.mpr ⟨_, PySem.mem_of_lookup h, rfl⟩), fun p hp => absurd (show p ∈ ([] : List (Addr × Obj)) from hp) (by simp), fun b' o e => ?_, ?_⟩
    · exact name_of_addr (by have := L.nd; unfold List.Nodup at this; rw [List.pairwise_map] at this; exact this) (PySem.mem_of_lookup h1) (PySem.mem_of_lookup h2)
    · have hf : sc.names.lookup y' = some .free := by
        rcases (show sc.names.lookup y' = some .cell ∨ sc.names.lookup y' = some .free from hy) with h | h
        · exact absurd rfl (S.noc _ (PySem.mem_of_lookup h))
        · exact h
      have hm : y' ∈ fr := S.all _ (PySem.mem_of_lookup hf) rfl
      obtain ⟨i, hi⟩ := List.getElem?_of_mem hm
      have hi' : i < zs.length := by rw [L.len]; exact (List.getElem?_eq_some_iff.mp hi).1
      obtain ⟨c, hc, _⟩ := L.has i y' _ hi (List.getElem?_eq_getElem hi')
      exact ⟨c, hc⟩
    · cases i with
      | zero =>
        cases h1
        cases h2
        exact ⟨u, ry, .inl ⟨S.loc, by show List.lookup x [(x, u)] = some u; rw [List.lookup_cons_self]⟩⟩
      | succ i =>
        have h1' : fr[i]? = some x' := h1
        have h2' : zs[i]? = some v := by
          have h2 : (zs.map some)[i]? = some (some v) := h2
          rw [List.getElem?_map] at h2
          cases e : zs[i]? with
          | none => rw [e] at h2; cases h2
          | some a => rw [e] at h2; cases h2; rfl
        obtain ⟨c, hc, hH⟩ := L.has i x' v h1' h2'
        obtain ⟨⟨o, u', a1, a2, a3⟩, _, _⟩ := (show ObjOk P w H s.heap c (cellO c v) from e0.hok c _ hH)
        exact ⟨u', a3, .inr ⟨.inr (S.free _ (List.mem_of_getElem? h1')), c, hc, ⟨o, hk₁ _ _ a1, a2⟩⟩⟩
    · obtain ⟨z, hH⟩ := L.all _ (PySem.mem_of_lookup h)
      obtain ⟨⟨o, u', a1, a2, a3⟩, _, _⟩ := (show ObjOk P w H s.heap c (cellO c z) from e0.hok c _ hH)
      exact ⟨some u', ⟨o, hk₁ _ _ a1, a2⟩⟩
    · obtain ⟨n1, e1⟩ := lessC_some e
      refine (e0.hok b' o e1).stay (fun b2 u2 _ z => hk₁ b2 u2 z) (fun b2 z => ?_) fun b2 xs z => ?_
      · rw [lessC_out (notC z fun z' h => by unfold cellO at h; cases h)]; exact z
      · rw [lessC_out (notC z fun z' h => by unfold cellO at h; cases h)]; exact z
    · show (zs.map some).length + 1 = fr.length + 1
      rw [List.length_map, L.len]
  refine PySem.W.kla_codeExpr (wpAny_mono (hb [] _ _ _ _ I hq) (fun v s' ⟨v1, H1, J, rv, e1, q1⟩ => ?_) fun _ _ z => z.elim)
  subst e1
  have un := J.base
  have frn : ∀ {b : Addr} {o : HO}, H b = some o → b ∉ frs outer := fun e hb => by rw [e0.frf _ hb] at e; cases e
  refine ⟨v1, H, J.os, J.bare, ⟨fun b o h n hf hx => un.keep b o h (lessC_none n) hf hx, fun b o h n hf hx => un.slot b o h (lessC_none n) hf hx, fun _ _ _ n _ => n, fun b o h hx => un.there b o h hx, fun _ _ z => z, fun _ _ _ z => z, fun b ps z => ⟨#[], by rw [z]; simp⟩⟩, fun b o e => ?_, rv, q1⟩
  by_cases hb' : b ∈ cl.map (·.2)
  · obtain ⟨z, e2⟩ := hcell b hb'
    rw [e] at e2
    cases e2
    obtain ⟨o1, o2, o3⟩ := (show ObjOk P w H s.heap b (cellO b z) from e0.hok b _ e)
    obtain ⟨ob, hob⟩ := o2
    have kb := un.keep b ob hob (lessC_in hb') (frn e) (fun z => absurd (show b ∈ ([] : List Addr) from z) (by simp))
    exact ⟨o3 _ _ o1 fun o' e' => by rw [hob] at e'; cases e'; exact kb, ⟨ob, kb⟩, o3⟩
  · have e' : lessC cl H b = some o := by rw [lessC_out hb']; exact e
    exact (J.hok b o e').stay (fun _ _ _ z => z) (fun b2 z => (lessC_some z).2) fun b2 xs z => (lessC_some z).2
/-- f(e), f a name that holds a lambda -/
theorem pe_callL {X : Cx} {k : Nat} {x y : Str} {p pos : Pos} {e : Expr} {tf : TE} {ta : TA} {ps : Arguments} {b : Expr} {sc : Scope} {q : Str} {fr : List Str} {t : TE} (S : LamScope x fr sc)
    (hbind : ∀ (u : Value) cl pm cd ctv, bindArgs (PySem.W.kla_fn "<lambda>" q ps b sc cl pm cd ctv) ⟨[u], []⟩ = pure [(x, u)]) (hr : Room cm k X.A)
    (hb : ∀ f cd cl A outer s H, PE (cxLam cm X.prog X.w X.K X.mg X.base (x :: fr) q sc f cd cl A outer s H) b t)
    (hf : PE X (.Name y p) tf) (ha : PA X [e] ta) (hs : starEach [e] X.env = [(false, eval e X.env)] := by rfl) (hpl : (backTo pos (starEach [] X.env)).any (·.1) = false := by rfl) :
    PE X (.Call (.Name y p) [e] [] pos) (fun σ H Q => tf σ H fun v H1 => ∃ f zs cl cd, v = .ref f ∧ LamIs H1 f ps b sc q fr zs cl cd ∧ ta σ H1 fun vs H2 => ∃ a, vs = [a] ∧ LamIs H2 f ps b sc q fr zs cl cd ∧
      t (some a :: zs.map some) (lessC cl H2) fun v H3 => H3 = lessC cl H2 ∧ Q v H2) := by
  intro pins s σ H Q I h
  refine wpAny_Call_Name_kw (thn (hf pins s σ H _ I h) fun fv s0 ⟨v0, H0, I0, r0, f, zs, cl, cd, e0, L0, q0⟩ => ?_)
  subst e0
  cases r0
  have fa : ∀ {H' : Hp} {s' : Shared}, Inv X pins σ H' s' → LamIs H' f ps b sc q fr zs cl cd → PySem.W.FnAt f s'.heap := fun J L => by
    obtain ⟨⟨pm, ctv, ho⟩, _, _⟩ := (show ObjOk X.prog X.w _ _ f (lamO f ps b sc cl q cd) from J.hok f _ L.at_)
    exact ⟨_, _, _, _, ho⟩
  refine PySem.W.callWith_F (first := []) (fa I0 L0) (thn (ha pos pins s0 σ H0 _ I0 q0) fun us s1 ⟨vs, H1, I1, r, a, e1, L1, q1⟩ => ⟨fa I1 L1, ?_⟩) hs hpl
  subst e1
  cases r with
  | cons ra rr =>
    cases rr
    refine wpAny_call (codeAny_mono (lam_run (Q := Q) (E := fun _ _ _ => False) S L1 (fun pm ctv => hbind _ cl pm _ ctv) hr I1.env0 ra (hb f cd cl _ _ _ _) q1) fun fl s' hq => ?_)
    match fl, hq with
    | .error ev, hq => exact hq.elim
    | .ok (.ret u), hq => exact I1.after hq
    | .ok .next, hq => exact hq.elim
    | .ok .brk, hq => exact hq.elim
    | .ok .cont, hq => exact hq.elim
end
end L2

/-! the head, where a def makes a lambda: the table of its code is tracked -/
namespace L2
open PySem PySem.Spec PyProof.Rows
/-- nothing is tracked but the script and the table -/
def OnlyT (P : Addr) (H : Hp) : Prop := ∀ b, H b = none ∨ b = P ∨ ∃ o xs, H b = some (.frz o (.lst xs))
theorem law_callT {cm : Bool} {P : Program} {w : World} {K : PySem.W.Frag} {mg mb : Str → Option Value} {CX : CXT} {k : Nat} {fa a cc pt : Addr} {fd : FuncData} {x : Str} {sp : Sp} {s₁ : Shared} {vs : List Value} {ns : List Int}
    (KX : K.In s₁.heap) (hns : s₁.heap.Ns mainGlobals mg) (hb : s₁.heap.Ns builtinsNs mb) (hbb : ∀ x : Str, x ≠ "__name__" → mb x = bootBuiltins x) (hlim : s₁.heap.NoLimit) (hg : s₁.gens = #[])
    (hC : PySem.W.CodeHd s₁.heap cc pt) (hP : s₁.heap.get? pt = some (PySem.W.tabObj #[])) (hbm : ∃ bm o, mg "__builtins__" = some (.ref bm) ∧ bm ≠ builtinsNs ∧ bm ≠ mainGlobals ∧ s₁.heap.get? bm = some o ∧ o.cls = .type "module" ∧ o.dict = some builtinsNs ∧ o.data = .plain)
    (hKP : K.lookup pt = none)
    (ha : s₁.heap.get? a = some { cls := .type "list", data := .seq vs.toArray }) (hi : IntsAre vs ns) (hl : ns.length ≤ sizeLine) (hr : Room cm k callerA)
    (F : ∀ base : Heap, K.In base → base.Ns mainGlobals mg → MkL mg base cc pt → FnOk P w K mg base CX cm k fa fd [x] sp) (hbind : ∀ (s : Shared) (u : Value), BindsTo s fd ⟨[u], []⟩ [(x, u)])
    (hsp : ∀ H : Hp, OnlyT pt H → H pt = some (.tbl #[]) → SqL K H a (ns.map V.int) → sp [.ref a] H (fun v _ => v = .bl true) fun _ _ _ => False)
    (hCX : ∀ H e s', CX [] H s₁ (fun _ _ _ => False) e s' → False) :
    codeAny (model P w) callerA (.call (.ref fa) ⟨[.ref a], []⟩) (fun r s' => r = .ok (.ret (.bool true)) ∧ OldK s₁.heap s'.heap ∧ s'.os = s₁.os ∧ AllBare s'.gens) s₁ := by
  have rv := vals_ints hi
  have lenV := hi.length
  have aP : a ≠ pt := fun z => by rw [z, hP] at ha; cases ha
  have core : ∀ H : Hp, OnlyT pt H → H pt = some (.tbl #[]) → SqL K H a (ns.map V.int) → HOk P w H s₁.heap → (∀ b, H b ≠ none → b = a ∨ b = pt) → (H a ≠ none → K.lookup a = none) →
      codeAny (model P w) callerA (.call (.ref fa) ⟨[.ref a], []⟩) (fun r s' => r = .ok (.ret (.bool true)) ∧ OldK s₁.heap s'.heap ∧ s'.os = s₁.os ∧ AllBare s'.gens) s₁ := by
    intro H hO hT hS hok hA hK
    have base_of : ∀ {b : Addr} {o : Obj}, s₁.heap.get? b = some o → H b = none → (hidT s₁.heap H).get? b = some o := fun e n => hidT_get e n
    have un0 : ∀ {b : Addr} {o : Obj}, s₁.heap.get? b = some o → (∀ z1 z2, o.data ≠ .seq z1 z2) → (∀ z, o.data ≠ .fields z) → H b = none := fun {b o} e d1 d2 => by
      cases q : H b with
      | none => rfl
      | some u =>
        rcases hA b (by rw [q]; simp) with e' | e'
        · subst e'; rw [ha] at e; cases e; exact absurd rfl (d1 _ _)
        · subst e'; rw [hP] at e; cases e; exact absurd rfl (d2 _)
    have noA : ∀ {b : Addr} {o : Obj} {es : Array DictEntry} {ep : Nat}, s₁.heap.get? b = some o → o.data = .dict es ep → H b = none := fun e d => un0 e (fun _ _ z => by rw [d] at z; cases z) (fun _ z => by rw [d] at z; cases z)
    have nsK : ∀ {b : Addr} {m : Str → Option Value}, s₁.heap.Ns b m → (hidT s₁.heap H).Ns b m := fun {b m} ⟨o, es, ep, e, d, r⟩ => ⟨o, es, ep, base_of e (noA e d), d, r⟩
    have hKb : K.In (hidT s₁.heap H) := fun b o e => base_of (KX b o e) (by
      cases q : H b with
      | none => rfl
      | some u =>
        rcases hA b (by rw [q]; simp) with e' | e'
        · subst e'
          rw [hK (by rw [q]; simp)] at e; cases e
        · subst e'
          rw [hKP] at e; cases e)
    have hM : Mod K mg (hidT s₁.heap H) := ⟨hKb, nsK hns, ⟨mb, nsK hb, hbb⟩, let ⟨mc, h1, h2⟩ := hlim; ⟨mc, nsK h1, h2⟩⟩
    have e0 : Env0 P w K mg (hidT s₁.heap H) callerA [] s₁ H := ⟨rfl, hM, fun b o e => of_hidT e, Nat.le_of_eq (hidT_size _ _), trivial, fun b hb => absurd (show b ∈ ([] : List Addr) from hb) (by simp), hok, .of_eq hg⟩
    have hL : MkL mg (hidT s₁.heap H) cc pt := by
      constructor
      · obtain ⟨o, vs', file, tf, fl, tg, inF, tx, tt, g1, g2, g3, g4⟩ := hC
        refine ⟨o, vs', file, tf, fl, tg, inF, tx, tt, base_of g1 ?_, g2, g3, g4⟩
        cases q : H cc with
        | none => rfl
        | some u =>
          rcases hA cc (by rw [q]; simp) with e' | e'
          · rw [e', ha] at g1; cases g1; exact absurd g3 (by simp)
          · exact absurd e' g4.2.2.2.2.2.2
      · obtain ⟨bm, o, b1, b2, b3, b4, b5, b6, b7⟩ := hbm
        refine ⟨bm, o, b1, b2, b3, fun z => ?_, base_of b4 (un0 b4 (fun _ _ z => by rw [b7] at z; cases z) (fun _ z => by rw [b7] at z; cases z)), b5, b6, b7⟩
        rw [z, hP] at b4
        cases b4
        cases b7
    refine codeAny_mono ((F _ hKb (nsK hns) hL).run callerA [] s₁ H ⟨[.ref a], []⟩ [.ref a] [.ref a] _ _ hr e0 (hbind s₁ (.ref a)) (.cons rfl .nil) (hsp H hO hT hS)) fun r s' h => ?_
    cases r with
    | error e => exact (hCX H e s' h).elim
    | ok fl =>
      cases fl with
      | next => exact False.elim h
      | brk => exact False.elim h
      | cont => exact False.elim h
      | ret u =>
        obtain ⟨v, H', os, bare, un, hok', r', q⟩ := h
        have q' : v = .bl true := q
        subst q'
        obtain rfl : u = Value.bool true := r'
        have kp : ∀ b o, b ≠ pt → s₁.heap.get? b = some o → s'.heap.get? b = some o := fun b o hb e => by
          cases q : H b with
          | none => exact un.keep b o e q (by intro z; exact absurd (show b ∈ ([] : List Addr) from z) (by simp)) (by simp)
          | some u =>
            rcases hO b with z | z | ⟨ob, xs, z⟩
            · rw [q] at z; cases z
            · exact absurd z hb
            · have z2 := un.frzs b ob _ z
              obtain ⟨e1, _⟩ := hok b _ z
              obtain ⟨e2, _⟩ := hok' b _ z2
              rw [e] at e1; cases e1
              exact e2
        obtain ⟨more, em⟩ := un.tbls pt _ hT
        have ep : s'.heap.get? pt = some (PySem.W.tabObj (#[] ++ more)) := (show ObjOk P w H' s'.heap pt (.tbl _) from hok' pt _ em)
        refine ⟨rfl, ⟨fun b o e => ?_, fun b o e => ?_⟩, os, bare⟩
        · by_cases hb : b = pt
          · subst hb
            rw [hP] at e
            cases e
            exact .inr (.inl ⟨(hC.tab hP).isCodeTable, rfl, #[], more, rfl, ep⟩)
          · exact .inl (kp b o hb e)
        · by_cases hb : b = pt
          · subst hb; exact ⟨_, ep⟩
          · exact ⟨o, kp b o hb e⟩
  cases hk : K.lookup a with
  | some o =>
    have e := KX a o hk
    rw [ha] at e
    cases e
    refine core (fun b => if b = pt then some (.tbl #[]) else none) (fun b => ?_) (if_pos rfl) (.inr ⟨_, vs.toArray, _, hk, rfl, rfl, rfl, by rw [List.size_toArray, lenV]; exact hl, by simpa using rv⟩) (fun b u z => ?_) (fun b z => ?_) fun z => ?_
    · by_cases hb : b = pt
      · exact .inr (.inl hb)
      · exact .inl (if_neg hb)
    · by_cases hb : b = pt
      · have z' := (if_pos hb).symm.trans z
        cases z'
        subst hb
        exact hP
      · have z' := (if_neg hb).symm.trans z
        cases z'
    · by_cases hb : b = pt
      · exact .inr hb
      · exact absurd (if_neg hb) z
    · exact absurd (if_neg aP) z
  | none =>
    have pa : pt ≠ a := fun z => aP z.symm
    refine core (fun b => if b = a then some (.frz { cls := .type "list", data := .seq vs.toArray } (.lst (ns.map V.int))) else if b = pt then some (.tbl #[]) else none) (fun b => ?_) ((if_neg pa).trans (if_pos rfl)) (.inl (.inr ⟨{ cls := .type "list", data := .seq vs.toArray }, if_pos rfl⟩)) (fun b u z => ?_) (fun b z => ?_) fun _ => hk
    · by_cases hb : b = a
      · exact .inr (.inr ⟨_, _, if_pos hb⟩)
      · by_cases hb2 : b = pt
        · exact .inr (.inl hb2)
        · exact .inl ((if_neg hb).trans (if_neg hb2))
    · by_cases hb : b = a
      · have z' := (if_pos hb).symm.trans z
        cases z'
        subst hb
        exact ⟨ha, by rw [List.length_map]; exact hl, vs, _, rv, ha⟩
      · by_cases hb2 : b = pt
        · have z' := ((if_neg hb).trans (if_pos hb2)).symm.trans z
          cases z'
          subst hb2
          exact hP
        · have z' := ((if_neg hb).trans (if_neg hb2)).symm.trans z
          cases z'
    · by_cases hb : b = a
      · exact .inl hb
      · by_cases hb2 : b = pt
        · exact .inr hb2
        · exact absurd ((if_neg hb).trans (if_neg hb2)) z
theorem walk_ofT {cm : Bool} {l : PySem.W.OpenLaw} {n k : Nat} {q : Program} {loose : List Str} {XP : (Str → Option Value) → Heap → Prop} {YP : World → Heap → Prop} {d : DefRec} {K : Params → PySem.W.Frag} {CX : World → CXT} {sp : World → Addr → Sp} {x y : Str}
    (hn : l.most = some n) (hn2 : n ≤ sizeLine) (hdf : d.params.defaults = []) (hr : Room cm k callerA)
    (hY : ∀ (w : World) (h : Heap), YP w h → (K w.params).In h) (hrec : ((recsOf q).find? (fun e => e.name == y)).isSome = true)
    (F : ∀ (w : World) (mg : Str → Option Value) (fa : Addr) (h : Heap), (K w.params).In h → h.Ns mainGlobals mg → mg d.name = some (.ref fa) →
      ∃ (fd : FuncData) (cc pt : Addr), PySem.W.tabIn (K w.params) y = some (cc, pt) ∧ (K w.params).lookup pt = none ∧ (∀ (s : Shared) (u : Value), BindsTo s fd ⟨[u], []⟩ [(x, u)]) ∧
        ∀ base : Heap, (K w.params).In base → base.Ns mainGlobals mg → MkL mg base cc pt → FnOk l.prog w (K w.params) mg base (CX w) cm k fa fd [x] (sp w pt))
    (hsp : ∀ (w : World) (H : Hp) (a pt : Addr) (ns : List Int), ns.length ≤ n → OnlyT pt H → H pt = some (.tbl #[]) → SqL (K w.params) H a (ns.map V.int) → sp w pt [.ref a] H (fun v _ => v = .bl true) fun _ _ _ => False)
    (hCX : ∀ (w : World) (H : Hp) (s : Shared) (e : Value) (s' : Shared), CX w [] H s (fun _ _ _ => False) e s' → False) :
    PySem.W.WalkO q loose XP YP l.row.toRowW d [] (fun f vs => PySem.call f vs) := by
  refine Att.attach_call hn hdf fun w s₀ s₁ mg mb fa o pm cd doc a vs ns G Y ho hd hcd hmg hobj hints hlen hg => ?_
  have KX := hY w _ Y
  obtain ⟨fd, cc, pt, ht, hkp, hb, hF⟩ := F w mg fa _ KX G.T.g hmg
  obtain ⟨dr, hdr⟩ := Option.isSome_iff_exists.mp hrec
  obtain ⟨hC, hP⟩ := PySem.W.tab_of G.T KX hdr ht
  have hbm : ∃ bm o, mg "__builtins__" = some (.ref bm) ∧ bm ≠ builtinsNs ∧ bm ≠ mainGlobals ∧ s₁.heap.get? bm = some o ∧ o.cls = .type "module" ∧ o.dict = some builtinsNs ∧ o.data = .plain := by
    obtain ⟨bm, ob, b1, b2, b3, b4, b5, b6⟩ := G.T.bmain
    refine ⟨bm, ob, b1, b2, fun z => ?_, b3, b4, b5, b6⟩
    obtain ⟨o, es, ep, e, hd, _⟩ := G.T.g
    rw [z, e] at b3; cases b3; rw [hd] at b6; cases b6
  exact law_callT KX G.T.g G.T.b G.T.builtins G.T.nolimit hg hC hP hbm hkp hobj hints (Nat.le_trans hlen hn2) hr hF hb (fun H hO hT hS => hsp w H a pt ns hlen hO hT hS) fun H e s' => hCX w H s₁ e s'
end L2

namespace L2
open PySem PySem.Spec PyProof.Rows
def stAt (l : List Stmt) (i : Nat) : Stmt := l.getD i (.Pass ⟨0, 0, 0, 0⟩)
def retVal : Stmt → Expr
  | .Return (some e) _ => e
  | _ => .Constant .none 0 ⟨0, 0, 0, 0⟩
def lamArgs : Expr → Arguments
  | .Lambda a _ _ _ => a
  | _ => ⟨[], [], none, [], [], none, []⟩
def lamBody : Expr → Expr
  | .Lambda _ b _ _ => b
  | e => e
def lamScope : Expr → Scope
  | .Lambda _ _ s _ => s
  | _ => ⟨.function, [], false, false, []⟩
def lamPos : Expr → Pos
  | .Lambda _ _ _ p => p
  | _ => ⟨0, 0, 0, 0⟩
theorem tabIn_of {K : PySem.W.Frag} {x : Str} {f c P : Addr} {oc : Value} {od : Option Addr} {fd : FuncData} {sl : Array (Option Value)} {o1 : Value} {o2 : Option Addr} {vs : Array Value} {o3 : Array (Option Value)}
    (a : PySem.W.nsIn K mainGlobals x = some (some (.ref f))) (l : K.lookup f = some ⟨oc, od, .func fd, sl⟩) (hc : fd.code = .ref c) (lk : K.lookup c = some ⟨o1, o2, .fields vs, o3⟩) (hv : vs[11]? = some (.ref P)) : PySem.W.tabIn K x = some (c, P) := by
  unfold PySem.W.tabIn
  rw [a]
  simp only [l, hc, lk, hv]
theorem codeRef_of {K : PySem.W.Frag} {f c : Addr} {oc : Value} {od : Option Addr} {fd : FuncData} {sl : Array (Option Value)} (l : K.lookup f = some ⟨oc, od, .func fd, sl⟩) (hc : fd.code = .ref c) : codeRef K f = some c := by
  unfold codeRef
  simp only [l, hc]
theorem LamIs.up {H H' : Hp} {f cd pt : Addr} {ps : Arguments} {b : Expr} {sc : Scope} {q : Str} {fr : List Str} {zs : List V} {cl : List (Str × Addr)} {tb : Array Value} (h : LamIs H f ps b sc q fr zs cl cd) (hp : H pt = some (.tbl tb)) (s : ∀ b u, b ≠ pt → H b = some u → H' b = some u) :
    LamIs H' f ps b sc q fr zs cl cd := by
  have ne : ∀ {b : Addr} {φ : Heap → Prop}, H b = some (.ext φ) → b ≠ pt := fun e z => by rw [z, hp] at e; cases e
  refine ⟨s _ _ (ne (φ := _) h.at_) h.at_, s _ _ (ne (φ := _) h.code) h.code, h.nd, h.len, fun i x z h1 h2 => ?_, fun p hp => ?_⟩
  · obtain ⟨c, e1, e2⟩ := h.has i x z h1 h2
    exact ⟨c, e1, s _ _ (ne (φ := _) e2) e2⟩
  · obtain ⟨z, e⟩ := h.all p hp
    exact ⟨z, s _ _ (ne (φ := _) e) e⟩
theorem LamIs.same {H H' : Hp} {f cd : Addr} {ps : Arguments} {b : Expr} {sc : Scope} {q : Str} {fr : List Str} {zs : List V} {cl : List (Str × Addr)} (h : LamIs H f ps b sc q fr zs cl cd) (s : ∀ b u, H b = some u → H' b = some u) :
    LamIs H' f ps b sc q fr zs cl cd := by
  refine ⟨s _ _ h.at_, s _ _ h.code, h.nd, h.len, fun i x z h1 h2 => ?_, fun p hp => ?_⟩
  · obtain ⟨c, e1, e2⟩ := h.has i x z h1 h2
    exact ⟨c, e1, s _ _ e2⟩
  · obtain ⟨z, e⟩ := h.all p hp
    exact ⟨z, s _ _ e⟩
theorem LTab.same {H H' : Hp} {P : Addr} {pos : Pos} {q : Str} (h : LTab H P pos q) (s : ∀ b u, H b = some u → H' b = some u) : LTab H' P pos q := by
  rcases h with h | ⟨cd, h1, h2⟩
  · exact .inl (s _ _ h)
  · exact .inr ⟨cd, s _ _ h1, s _ _ h2⟩
theorem LTab.tbl {H : Hp} {P : Addr} {pos : Pos} {q : Str} (h : LTab H P pos q) : ∃ tb, H P = some (.tbl tb) := by
  rcases h with h | ⟨cd, h1, h2⟩
  · exact ⟨_, h⟩
  · exact ⟨_, h1⟩
/-- a lambda of two kept names, made and handed on -/
theorem lam_made2 {H : Hp} {P : Addr} {pos : Pos} {q : Str} {ps : Arguments} {b : Expr} {sc : Scope} {x1 x2 : Str} {c1 c2 : Addr} {z1 z2 : V} {Q : VK} {L : List (Nat × Str × Addr × V)} (hL : ∀ H', cellsIn L H' = upd (upd H' c2 (cellO c2 z2)) c1 (cellO c1 z1))
    (hm : c1 ∈ L.map (fun p => p.2.2.1) ∧ c2 ∈ L.map (fun p => p.2.2.1)) (hc : c1 ≠ c2) (hx : x2 ≠ x1)
    (ht : LTab H P pos q) (k : ∀ f cl cd H', (∀ b u, b ≠ P → H b = some u → H' b = some u) → LTab H' P pos q → LamIs H' f ps b sc q [x1, x2] [z1, z2] cl cd → Q (.ref f) H') :
    (H P = some (.tbl #[]) → ∀ f cd, H f = none → H cd = none → f ≠ cd → (∀ p ∈ L, (upd (upd (upd H P (.tbl #[rawInt pos.line, rawInt pos.col, .ref cd])) cd (codeO cd q)) f (lamO f ps b sc [(x2, c2), (x1, c1)] q cd)) p.2.2.1 = none) →
      Q (.ref f) (cellsIn L (upd (upd (upd H P (.tbl #[rawInt pos.line, rawInt pos.col, .ref cd])) cd (codeO cd q)) f (lamO f ps b sc [(x2, c2), (x1, c1)] q cd)))) ∧
    (∀ cd, H P = some (.tbl #[rawInt pos.line, rawInt pos.col, .ref cd]) → ∀ f, H f = none → (∀ p ∈ L, (upd H f (lamO f ps b sc [(x2, c2), (x1, c1)] q cd)) p.2.2.1 = none) → Q (.ref f) (cellsIn L (upd H f (lamO f ps b sc [(x2, c2), (x1, c1)] q cd)))) := by
  have inL : ∀ {H' : Hp}, (∀ p ∈ L, H' p.2.2.1 = none) → H' c1 = none ∧ H' c2 = none := fun h => by
    obtain ⟨p1, m1, e1⟩ := List.mem_map.mp hm.1
    obtain ⟨p2, m2, e2⟩ := List.mem_map.mp hm.2
    exact ⟨e1 ▸ h p1 m1, e2 ▸ h p2 m2⟩
  have fin : ∀ {H' : Hp} {f cd : Addr} {tb : Array Value}, (∀ b u, b ≠ P → H b = some u → H' b = some u) → H' P = some (.tbl tb) → (tb = #[rawInt pos.line, rawInt pos.col, .ref cd]) → H' f = some (lamO f ps b sc [(x2, c2), (x1, c1)] q cd) → H' cd = some (codeO cd q) → H' c1 = none → H' c2 = none → Q (.ref f) (cellsIn L H') := fun {H' f cd tb} s hP etb hf hcd n1 n2 => by
    subst etb
    rw [hL]
    have up : ∀ b u, H' b = some u → (upd (upd H' c2 (cellO c2 z2)) c1 (cellO c1 z1)) b = some u := fun b u e => by
      rw [upd_ne (ne_of_none e n1), upd_ne (ne_of_none e n2)]; exact e
    refine k f [(x2, c2), (x1, c1)] cd _ (fun b u hb e => up _ _ (s b u hb e)) (.inr ⟨cd, up _ _ hP, up _ _ hcd⟩) ⟨up _ _ hf, up _ _ hcd, ?_, rfl, fun i x z h1 h2 => ?_, fun p hp => ?_⟩
    · show [c2, c1].Nodup
      simp [Ne.symm hc]
    · match i, h1, h2 with
      | 0, h1, h2 =>
        cases h1
        cases h2
        refine ⟨c1, ?_, upd_same⟩
        show (match x1 == x2 with | true => some c2 | false => List.lookup x1 [(x1, c1)]) = some c1
        rw [show (x1 == x2) = false from beq_false_of_ne (Ne.symm hx)]
        show List.lookup x1 [(x1, c1)] = some c1
        rw [List.lookup_cons_self]
      | 1, h1, h2 =>
        cases h1
        cases h2
        refine ⟨c2, List.lookup_cons_self .., ?_⟩
        rw [upd_ne (Ne.symm hc)]
        exact upd_same
      | i + 2, h1, h2 => exact absurd h1 (by simp)
    · rcases List.mem_cons.mp hp with rfl | hp
      · exact ⟨z2, by show upd _ c1 _ c2 = _; rw [upd_ne (Ne.symm hc)]; exact upd_same⟩
      · rw [List.mem_singleton] at hp
        subst hp
        exact ⟨z1, upd_same⟩
  refine ⟨fun e f cd nf nc ne hn => ?_, fun cd e f nf hn => ?_⟩
  · obtain ⟨n1, n2⟩ := inL hn
    refine fin (tb := #[rawInt pos.line, rawInt pos.col, .ref cd]) (fun b u hb z => ?_) ?_ rfl upd_same ?_ n1 n2
    · rw [upd_ne (ne_of_none z nf), upd_ne (ne_of_none z nc), upd_ne hb]; exact z
    · rw [upd_ne (ne_of_none e nf), upd_ne (ne_of_none e nc), upd_same]
    · rw [upd_ne (Ne.symm ne), upd_same]
  · obtain ⟨n1, n2⟩ := inL hn
    rcases ht with e2 | ⟨cd', e2, e3⟩
    · rw [e] at e2; cases e2
    · have : cd' = cd := by
        rw [e] at e2
        have e4 := Option.some.inj e2
        injection e4 with e4
        have e5 := congrArg (fun (z : Array Value) => z[2]?) e4
        have e6 : some (Value.ref cd) = some (Value.ref cd') := e5
        cases e6
        rfl
      subst this
      exact fin (fun b u hb z => by rw [upd_ne (ne_of_none z nf)]; exact z) (by rw [upd_ne (ne_of_none e nf)]; exact e) rfl upd_same (by rw [upd_ne (ne_of_none e3 nf)]; exact e3) n1 n2
end L2

/-! clocks: changes by rising moments, and how many aren't behind one -/
namespace DC
def Rise (ns : List Int) : Prop := ns.Pairwise (· < ·)
def below (ns : List Int) (x : Int) : Nat := ns.countP (fun a => decide (a < x))
theorem below_le (ns : List Int) (x : Int) : below ns x ≤ ns.length := List.countP_le_length
/-- the place that parts those below from the others -/
theorem below_at {ns : List Int} {x : Int} {k : Nat} (hk : k ≤ ns.length) (h1 : ∀ (i : Nat) a, i < k → ns[i]? = some a → a < x) (h2 : ∀ (i : Nat) a, k ≤ i → ns[i]? = some a → ¬ a < x) : below ns x = k := by
  unfold below
  rw [← List.take_append_drop k ns, List.countP_append]
  have e1 : (ns.take k).countP (fun a => decide (a < x)) = (ns.take k).length := by
    rw [List.countP_eq_length]
    intro a ha
    obtain ⟨i, hi⟩ := List.getElem?_of_mem ha
    have hik : i < k := by
      obtain ⟨z, _⟩ := List.getElem?_eq_some_iff.mp hi
      rw [List.length_take] at z
      omega
    rw [List.getElem?_take_of_lt hik] at hi
    exact decide_eq_true (h1 i a hik hi)
  have e2 : (ns.drop k).countP (fun a => decide (a < x)) = 0 := by
    rw [List.countP_eq_zero]
    intro a ha
    obtain ⟨i, hi⟩ := List.getElem?_of_mem ha
    rw [List.getElem?_drop] at hi
    have := h2 (k + i) a (Nat.le_add_right _ _) hi
    simpa using this
  rw [e1, e2, List.length_take]
  omega
theorem rise_lt {ns : List Int} (h : Rise ns) {i j : Nat} {a b : Int} (hi : ns[i]? = some a) (hj : ns[j]? = some b) (hij : i < j) : a < b := by
  obtain ⟨h1, rfl⟩ := List.getElem?_eq_some_iff.mp hi
  obtain ⟨h2, rfl⟩ := List.getElem?_eq_some_iff.mp hj
  exact List.pairwise_iff_getElem.mp h i j h1 h2 hij
theorem rise_le {ns : List Int} (h : Rise ns) {i j : Nat} {a b : Int} (hi : ns[i]? = some a) (hj : ns[j]? = some b) (hij : i ≤ j) : a ≤ b := by
  rcases Nat.lt_or_eq_of_le hij with h' | rfl
  · exact Int.le_of_lt (rise_lt h hi hj h')
  · rw [hi] at hj; cases hj; exact Int.le_refl _
/-- what is below one stands at the front -/
theorem below_front {ns : List Int} (h : Rise ns) {x : Int} {i : Nat} {a : Int} (hi : ns[i]? = some a) : i < below ns x ↔ a < x := by
  have hl : i < ns.length := by obtain ⟨z, _⟩ := List.getElem?_eq_some_iff.mp hi; exact z
  have key : ∀ (ms : List Int), Rise ms → ∀ (j : Nat) (b : Int), ms[j]? = some b → (j < below ms x ↔ b < x) := by
    intro ms
    induction ms with
    | nil => intro _ j b hj; simp at hj
    | cons c r ih =>
      intro hr j b hj
      have hr' := (List.pairwise_cons.mp hr)
      unfold below
      rw [List.countP_cons]
      cases j with
      | zero =>
        simp at hj
        subst hj
        have z : ¬ c < x → r.countP (fun a => decide (a < x)) = 0 := fun hc => by
          rw [List.countP_eq_zero]
          intro a ha
          have := hr'.1 a ha
          simp
          omega
        by_cases hc : c < x
        · simp [hc]
        · rw [z hc]
          simp [hc]
      | succ j =>
        simp at hj
        have := ih hr'.2 j b hj
        unfold below at this
        by_cases hc : c < x
        · simp [hc]
          omega
        · have hb : ¬ b < x := by
            have := hr'.1 b (List.mem_of_getElem? hj)
            omega
          have : r.countP (fun a => decide (a < x)) = 0 := by
            rw [List.countP_eq_zero]
            intro a ha
            have := hr'.1 a ha
            simp
            omega
          simp [hc, hb]
          omega
  exact key ns h i a hi
def mom (cs : List (Int × Int)) : List Int := cs.map (·.1)
def cnt (cs : List (Int × Int)) (m : Int) : Nat := below (mom cs) (m + 1)
def off (own : Int) (cs : List (Int × Int)) (k : Nat) : Int := if k = 0 then own else (cs.getD (k - 1) (0, 0)).2
def offAt (own : Int) (cs : List (Int × Int)) (m : Int) : Int := off own cs (cnt cs m)
theorem mom_len (cs : List (Int × Int)) : (mom cs).length = cs.length := List.length_map ..
theorem mom_at {cs : List (Int × Int)} {i : Nat} {c : Int × Int} (h : cs[i]? = some c) : (mom cs)[i]? = some c.1 := by unfold mom; rw [List.getElem?_map, h]; rfl
theorem cnt_le (cs : List (Int × Int)) (m : Int) : cnt cs m ≤ cs.length := by have := below_le (mom cs) (m + 1); rw [mom_len] at this; exact this
theorem cnt_front {cs : List (Int × Int)} (h : Rise (mom cs)) {m : Int} {i : Nat} {c : Int × Int} (hi : cs[i]? = some c) : i < cnt cs m ↔ c.1 ≤ m := by
  unfold cnt
  rw [below_front h (mom_at hi)]
  omega
theorem off_succ {own : Int} {cs : List (Int × Int)} {k : Nat} {c : Int × Int} (h : cs[k]? = some c) : off own cs (k + 1) = c.2 := by
  unfold off
  rw [if_neg (Nat.succ_ne_zero _)]
  show (cs.getD k (0, 0)).2 = _
  rw [List.getD_eq_getElem?_getD, h]
  rfl
theorem off_zero {own : Int} {cs : List (Int × Int)} : off own cs 0 = own := if_pos rfl
/-- the last one that isn't behind -/
theorem cnt_last {cs : List (Int × Int)} (h : Rise (mom cs)) {m : Int} {k : Nat} {c : Int × Int} (hc : cs[k]? = some c) (hle : c.1 ≤ m) (hgt : ∀ (j : Nat) d, k < j → cs[j]? = some d → ¬ d.1 ≤ m) : cnt cs m = k + 1 := by
  have h1 := (cnt_front h (m := m) hc).mpr hle
  have h2 := cnt_le cs m
  by_cases e : cnt cs m = k + 1
  · exact e
  · have hl : k + 1 < cnt cs m := by omega
    have hx : k + 1 < cs.length := by omega
    have g : cs[k + 1]? = some cs[k + 1] := by simp [hx]
    exact absurd ((cnt_front h (m := m) g).mp hl) (hgt (k + 1) _ (by omega) g)
theorem cnt_none {cs : List (Int × Int)} (h : Rise (mom cs)) {m : Int} (hgt : ∀ (j : Nat) d, cs[j]? = some d → ¬ d.1 ≤ m) : cnt cs m = 0 := by
  rcases Nat.eq_zero_or_pos (cnt cs m) with e | e
  · exact e
  · have hx : 0 < cs.length := by have := cnt_le cs m; omega
    have g : cs[0]? = some cs[0] := by simp [hx]
    exact absurd ((cnt_front h (m := m) g).mp e) (hgt 0 _ g)
end DC

/-! days by rules -/
namespace DR
inductive Rl where
  | nv
  | ev (st fi : Int)
  | dy (ds : List Int)
  | wh (st re : Int)
def fl : Rl → Int → Bool
  | .nv, _ => false
  | .ev st fi, d => decide (fi ≤ d) && decide ((d - fi) % st = 0)
  | .dy ds, d => decide (d ∈ ds)
  | .wh st re, d => decide (d % st = re)
def rng (b e : Int) : List Int := (List.range (e - b).toNat).map fun (i : Nat) => b + (i : Int)
theorem rng_mem {b e k : Int} : k ∈ rng b e ↔ b ≤ k ∧ k < e := by
  unfold rng
  rw [List.mem_map]
  constructor
  · rintro ⟨i, hi, rfl⟩
    rw [List.mem_range] at hi
    omega
  · rintro ⟨h1, h2⟩
    exact ⟨(k - b).toNat, by rw [List.mem_range]; omega, by omega⟩
theorem rng_rise (b e : Int) : (rng b e).Pairwise (· < ·) := by
  unfold rng
  rw [List.pairwise_map]
  exact List.pairwise_lt_range.imp fun h => by omega
theorem rise_ext : ∀ {xs ys : List Int}, xs.Pairwise (· < ·) → ys.Pairwise (· < ·) → (∀ k, k ∈ xs ↔ k ∈ ys) → xs = ys
  | [], [], _, _, _ => rfl
  | [], y :: ys, _, _, h => absurd ((h y).mpr (List.mem_cons_self ..)) (by simp)
  | x :: xs, [], _, _, h => absurd ((h x).mp (List.mem_cons_self ..)) (by simp)
  | x :: xs, y :: ys, hx, hy, h => by
    obtain ⟨x1, x2⟩ := List.pairwise_cons.mp hx
    obtain ⟨y1, y2⟩ := List.pairwise_cons.mp hy
    have e : x = y := by
      rcases List.mem_cons.mp ((h x).mp (List.mem_cons_self ..)) with e | e
      · exact e
      · rcases List.mem_cons.mp ((h y).mpr (List.mem_cons_self ..)) with f | f
        · exact f.symm
        · have := y1 x e; have := x1 y f; omega
    subst e
    refine congrArg (x :: ·) (rise_ext x2 y2 fun k => ⟨fun hk => ?_, fun hk => ?_⟩)
    · rcases List.mem_cons.mp ((h k).mp (List.mem_cons_of_mem _ hk)) with e | e
      · have := x1 k hk; omega
      · exact e
    · rcases List.mem_cons.mp ((h k).mpr (List.mem_cons_of_mem _ hk)) with e | e
      · have := y1 k hk; omega
      · exact e
def days (f : Int → Bool) (b e : Int) : List Int := (rng b e).filter f
theorem days_mem {f : Int → Bool} {b e k : Int} : k ∈ days f b e ↔ b ≤ k ∧ k < e ∧ f k = true := by
  unfold days
  rw [List.mem_filter, rng_mem, and_assoc]
theorem days_rise (f : Int → Bool) (b e : Int) : (days f b e).Pairwise (· < ·) := (rng_rise b e).filter _
theorem days_len (f : Int → Bool) (b e : Int) : (days f b e).length ≤ (e - b).toNat := by
  unfold days
  refine Nat.le_trans (List.length_filter_le _ _) ?_
  unfold rng
  rw [List.length_map, List.length_range]
  exact Nat.le_refl _
theorem days_none {f : Int → Bool} {b e : Int} (h : ∀ k, b ≤ k → k < e → f k = false) : days f b e = [] := by
  refine rise_ext (days_rise _ _ _) List.Pairwise.nil fun k => ?_
  rw [days_mem]
  constructor
  · rintro ⟨h1, h2, h3⟩
    rw [h k h1 h2] at h3
    cases h3
  · intro w
    exact nomatch w
/-- one day more: d falls, none between -/
theorem days_snoc {f : Int → Bool} {b c d : Int} (hb : b ≤ c) (h1 : c ≤ d) (h2 : f d = true) (h3 : ∀ k, c ≤ k → k < d → f k = false) : days f b c ++ [d] = days f b (d + 1) := by
  refine rise_ext ?_ (days_rise _ _ _) fun k => ?_
  · rw [List.pairwise_append]
    refine ⟨days_rise _ _ _, List.pairwise_singleton _ _, fun x hx y hy => ?_⟩
    rw [List.mem_singleton] at hy
    have := (days_mem.mp hx).2.1
    omega
  · rw [List.mem_append, List.mem_singleton, days_mem, days_mem]
    constructor
    · rintro (⟨a1, a2, a3⟩ | rfl)
      · exact ⟨a1, by omega, a3⟩
      · exact ⟨by omega, by omega, h2⟩
    · rintro ⟨a1, a2, a3⟩
      by_cases hk : k < c
      · exact .inl ⟨a1, hk, a3⟩
      · by_cases hd : k = d
        · exact .inr hd
        · rw [h3 k (by omega) (by omega)] at a3; cases a3
theorem days_skip {f : Int → Bool} {b c e : Int} (hb : b ≤ c) (h1 : c ≤ e) (h3 : ∀ k, c ≤ k → k < e → f k = false) : days f b c = days f b e := by
  refine rise_ext (days_rise _ _ _) (days_rise _ _ _) fun k => ?_
  rw [days_mem, days_mem]
  constructor
  · rintro ⟨a1, a2, a3⟩
    exact ⟨a1, by omega, a3⟩
  · rintro ⟨a1, a2, a3⟩
    refine ⟨a1, ?_, a3⟩
    by_cases hk : k < c
    · exact hk
    · rw [h3 k (by omega) a2] at a3; cases a3
/-- every st days: the first from b on -/
theorem ev_next {st fi b : Int} (hs : 0 < st) : let g := if fi > b then fi else b; let d := g + (fi - g) % st; b ≤ d ∧ fl (.ev st fi) d = true ∧ ∀ k, b ≤ k → k < d → fl (.ev st fi) k = false := by
  intro g d
  have hg : b ≤ g ∧ fi ≤ g := by show b ≤ (if fi > b then fi else b) ∧ fi ≤ (if fi > b then fi else b); split <;> omega
  have hg2 : ∀ k, b ≤ k → k < g → k < fi := fun k h1 h2 => by
    have h2' : k < (if fi > b then fi else b) := h2
    split at h2' <;> omega
  have r0 := Int.emod_nonneg (fi - g) (by omega : st ≠ 0)
  have r1 := Int.emod_lt_of_pos (fi - g) hs
  have eq := Int.emod_add_mul_ediv (fi - g) st
  have hd : d = g + (fi - g) % st := rfl
  refine ⟨by omega, ?_, fun k h1 h2 => ?_⟩
  · show (decide (fi ≤ d) && decide ((d - fi) % st = 0)) = true
    rw [decide_eq_true (by omega), Bool.true_and]
    refine decide_eq_true ?_
    have : d - fi = st * (-((fi - g) / st)) := by rw [Int.mul_neg]; omega
    rw [this]
    exact Int.mul_emod_right _ _
  · show (decide (fi ≤ k) && decide ((k - fi) % st = 0)) = false
    by_cases hk : fi ≤ k
    · rw [decide_eq_true hk, Bool.true_and]
      refine decide_eq_false fun hz => ?_
      have hkg : g ≤ k := Int.not_lt.mp fun w => by have := hg2 k h1 w; omega
      have e2 := Int.emod_add_mul_ediv (k - fi) st
      rw [hz] at e2
      have e3 : st * ((k - fi) / st + (fi - g) / st) = k - g - (fi - g) % st := by rw [Int.mul_add]; omega
      have n1 : (k - fi) / st + (fi - g) / st < 0 := by
        refine Int.not_le.mp fun w => ?_
        have := Int.mul_nonneg (Int.le_of_lt hs) w
        omega
      have n2 : st * ((k - fi) / st + (fi - g) / st) ≤ st * (-1) := Int.mul_le_mul_of_nonneg_left (by omega) (Int.le_of_lt hs)
      omega
    · rw [decide_eq_false hk, Bool.false_and]
/-- all of them from d on, ahead of e -/
theorem ev_all {st fi b d e : Int} {n : Nat} (hs : 0 < st) (hbd : b ≤ d) (hd : fl (.ev st fi) d = true) (h0 : ∀ k, b ≤ k → k < d → fl (.ev st fi) k = false) (hde : d < e) (hn : (n : Int) = (e - d - 1) / st + 1) :
    days (fl (.ev st fi)) b e = (List.range n).map fun (i : Nat) => d + (i : Int) * st := by
  have hd' : fi ≤ d ∧ (d - fi) % st = 0 := by
    have : (decide (fi ≤ d) && decide ((d - fi) % st = 0)) = true := hd
    rw [Bool.and_eq_true] at this
    exact ⟨of_decide_eq_true this.1, of_decide_eq_true this.2⟩
  refine rise_ext (days_rise _ _ _) ?_ fun k => ?_
  · rw [List.pairwise_map]
    refine List.pairwise_lt_range.imp fun {i j} h => ?_
    have : ((j : Int) - i) * st > 0 := Int.mul_pos (by omega) hs
    rw [Int.sub_mul] at this
    omega
  · rw [days_mem, List.mem_map]
    constructor
    · rintro ⟨a1, a2, a3⟩
      have hkd : d ≤ k := Int.not_lt.mp fun w => by rw [h0 k a1 w] at a3; cases a3
      have a3' : (decide (fi ≤ k) && decide ((k - fi) % st = 0)) = true := a3
      rw [Bool.and_eq_true] at a3'
      have hz := of_decide_eq_true a3'.2
      have e1 := Int.emod_add_mul_ediv (k - fi) st
      have e2 := Int.emod_add_mul_ediv (d - fi) st
      rw [hz] at e1
      rw [hd'.2] at e2
      have hq : k - d = st * ((k - fi) / st - (d - fi) / st) := by rw [Int.mul_sub]; omega
      generalize (k - fi) / st - (d - fi) / st = q at hq
      have q0 : 0 ≤ q := Int.not_lt.mp fun w => by
        have : st * q ≤ st * (-1) := Int.mul_le_mul_of_nonneg_left (by omega) (Int.le_of_lt hs)
        omega
      have hq2 : q ≤ (e - d - 1) / st := by
        rw [Int.le_ediv_iff_mul_le hs, Int.mul_comm]
        omega
      exact ⟨q.toNat, by rw [List.mem_range]; omega, by rw [Int.toNat_of_nonneg q0, Int.mul_comm]; omega⟩
    · rintro ⟨i, hi, rfl⟩
      rw [List.mem_range] at hi
      have i0 : 0 ≤ (i : Int) * st := Int.mul_nonneg (by omega) (by omega)
      have i1 : (i : Int) * st ≤ e - d - 1 := by
        rw [← Int.le_ediv_iff_mul_le hs]
        omega
      refine ⟨by omega, by omega, ?_⟩
      show (decide (fi ≤ d + (i : Int) * st) && decide ((d + (i : Int) * st - fi) % st = 0)) = true
      rw [decide_eq_true (by omega), Bool.true_and]
      refine decide_eq_true ?_
      rw [show d + (i : Int) * st - fi = (d - fi) + (i : Int) * st by omega, Int.add_mul_emod_self_right]
      exact hd'.2
end DR

set_option smartUnfolding false
namespace K35
open PySem L2
def top (i : Nat) : Stmt := PySem.Challenge.pw_hourhouse_k35_places_by_rules.main.body.getD i (.Pass ⟨0, 0, 0, 0⟩)
abbrev s_is_made_of : Stmt := top 8
abbrev s_is_day : Stmt := top 12
abbrev s_check_bounds : Stmt := top 14
abbrev s_count_below : Stmt := top 16
abbrev s_Rule_next_in : Stmt := inClass (top 17) 1
abbrev s_Every_next_in : Stmt := inClass (top 18) 2
abbrev s_Where___init : Stmt := inClass (top 20) 0
abbrev s_check_offset : Stmt := top 25
abbrev s_offset_behind : Stmt := top 28
abbrev s_check_put : Stmt := top 36
abbrev s_law_cell_at : Stmt := top 39
abbrev s_law_whole : Stmt := top 40
abbrev s_law_mixed : Stmt := top 41
abbrev s_law_offset_of : Stmt := top 42
abbrev s_law_where : Stmt := top 45
abbrev s_law_due : Stmt := top 48
abbrev s_is_name : Stmt := top 9
abbrev s_check_day : Stmt := top 15
abbrev s_Every_days_in : Stmt := inClass (top 18) 3
abbrev s_Days_next_in : Stmt := inClass (top 19) 2
abbrev s_Where_falls_on : Stmt := inClass (top 20) 1
abbrev s_check_changes : Stmt := top 26
abbrev s_changes_until : Stmt := top 29
abbrev s_law_name_by : Stmt := top 43
abbrev s_law_pair_is : Stmt := top 44
abbrev s_law_falls_by : Stmt := top 47
abbrev s_law_changes_are : Stmt := top 49
abbrev s_Every___init : Stmt := inClass (top 18) 0
abbrev s_Days___init : Stmt := inClass (top 19) 0
abbrev s_Where_next_in : Stmt := inClass (top 20) 2
abbrev s_Place___init : Stmt := inClass (top 27) 0
abbrev s_offset_at : Stmt := top 30
abbrev s_Rule_days_in : Stmt := inClass (top 17) 2
abbrev s_shown : Stmt := top 31
abbrev s_days_of : Stmt := top 33
abbrev s_law_rule_by : Stmt := top 46
abbrev s_place_by : Stmt := top 37
abbrev s_law : Stmt := top 50
set_option genInjectivity false
set_option genSizeOf false
structure Adr where
  f_is_made_of : Addr
  d_is_made_of : FuncData
  f_is_day : Addr
  d_is_day : FuncData
  f_check_bounds : Addr
  d_check_bounds : FuncData
  f_count_below : Addr
  d_count_below : FuncData
  f_Rule_next_in : Addr
  d_Rule_next_in : FuncData
  f_Every_next_in : Addr
  d_Every_next_in : FuncData
  f_Where___init : Addr
  d_Where___init : FuncData
  f_check_offset : Addr
  d_check_offset : FuncData
  f_offset_behind : Addr
  d_offset_behind : FuncData
  f_check_put : Addr
  d_check_put : FuncData
  f_law_cell_at : Addr
  d_law_cell_at : FuncData
  f_law_whole : Addr
  d_law_whole : FuncData
  f_law_mixed : Addr
  d_law_mixed : FuncData
  f_law_offset_of : Addr
  d_law_offset_of : FuncData
  f_law_where : Addr
  d_law_where : FuncData
  f_law_due : Addr
  d_law_due : FuncData
  f_is_name : Addr
  d_is_name : FuncData
  f_check_day : Addr
  d_check_day : FuncData
  f_Every_days_in : Addr
  d_Every_days_in : FuncData
  f_Days_next_in : Addr
  d_Days_next_in : FuncData
  f_Where_falls_on : Addr
  d_Where_falls_on : FuncData
  f_check_changes : Addr
  d_check_changes : FuncData
  f_changes_until : Addr
  d_changes_until : FuncData
  f_law_name_by : Addr
  d_law_name_by : FuncData
  f_law_pair_is : Addr
  d_law_pair_is : FuncData
  f_law_falls_by : Addr
  d_law_falls_by : FuncData
  f_law_changes_are : Addr
  d_law_changes_are : FuncData
  f_Every___init : Addr
  d_Every___init : FuncData
  f_Days___init : Addr
  d_Days___init : FuncData
  f_Where_next_in : Addr
  d_Where_next_in : FuncData
  f_Place___init : Addr
  d_Place___init : FuncData
  f_offset_at : Addr
  d_offset_at : FuncData
  f_Rule_days_in : Addr
  d_Rule_days_in : FuncData
  f_shown : Addr
  d_shown : FuncData
  f_days_of : Addr
  d_days_of : FuncData
  f_law_rule_by : Addr
  d_law_rule_by : FuncData
  f_place_by : Addr
  d_place_by : FuncData
  f_law : Addr
  d_law : FuncData
  cc_law_where : Addr
  pt_law_where : Addr
  x_Days : Addr
  x_Every : Addr
  x_Place : Addr
  x_Rule : Addr
  x_Where : Addr
structure Txt (K : PySem.W.Frag) (mg : Str → Option Value) (a : Adr) : Prop where
  F_is_made_of : Fun K "is_made_of" "is_made_of" s_is_made_of a.f_is_made_of a.d_is_made_of
  m_is_made_of : mg "is_made_of" = some (.ref a.f_is_made_of)
  b_is_made_of : Binds K a.d_is_made_of ["text", "signs"] []
  F_is_day : Fun K "is_day" "is_day" s_is_day a.f_is_day a.d_is_day
  m_is_day : mg "is_day" = some (.ref a.f_is_day)
  b_is_day : Binds K a.d_is_day ["number"] []
  F_check_bounds : Fun K "check_bounds" "check_bounds" s_check_bounds a.f_check_bounds a.d_check_bounds
  m_check_bounds : mg "check_bounds" = some (.ref a.f_check_bounds)
  b_check_bounds : Binds K a.d_check_bounds ["number", "least", "most"] []
  F_count_below : Fun K "count_below" "count_below" s_count_below a.f_count_below a.d_count_below
  m_count_below : mg "count_below" = some (.ref a.f_count_below)
  b_count_below : Binds K a.d_count_below ["days", "number"] []
  F_Rule_next_in : FunD K "next_in" "Rule.next_in" s_Rule_next_in a.f_Rule_next_in a.d_Rule_next_in
  b_Rule_next_in : Binds K a.d_Rule_next_in ["self", "day", "end"] []
  F_Every_next_in : FunD K "next_in" "Every.next_in" s_Every_next_in a.f_Every_next_in a.d_Every_next_in
  b_Every_next_in : Binds K a.d_Every_next_in ["self", "day", "end"] []
  F_Where___init : Fun K "__init__" "Where.__init__" s_Where___init a.f_Where___init a.d_Where___init
  b_Where___init : Binds K a.d_Where___init ["self", "test"] []
  F_check_offset : Fun K "check_offset" "check_offset" s_check_offset a.f_check_offset a.d_check_offset
  m_check_offset : mg "check_offset" = some (.ref a.f_check_offset)
  b_check_offset : Binds K a.d_check_offset ["offset"] []
  F_offset_behind : Fun K "offset_behind" "offset_behind" s_offset_behind a.f_offset_behind a.d_offset_behind
  m_offset_behind : mg "offset_behind" = some (.ref a.f_offset_behind)
  b_offset_behind : Binds K a.d_offset_behind ["place", "many"] []
  F_check_put : Fun K "check_put" "check_put" s_check_put a.f_check_put a.d_check_put
  m_check_put : mg "check_put" = some (.ref a.f_check_put)
  b_check_put : Binds K a.d_check_put ["minute", "shift"] []
  F_law_cell_at : Fun K "_law_cell_at" "_law_cell_at" s_law_cell_at a.f_law_cell_at a.d_law_cell_at
  m_law_cell_at : mg "_law_cell_at" = some (.ref a.f_law_cell_at)
  b_law_cell_at : Binds K a.d_law_cell_at ["_law_script", "_law_k"] []
  F_law_whole : Fun K "_law_whole" "_law_whole" s_law_whole a.f_law_whole a.d_law_whole
  m_law_whole : mg "_law_whole" = some (.ref a.f_law_whole)
  b_law_whole : Binds K a.d_law_whole ["_law_found"] []
  F_law_mixed : Fun K "_law_mixed" "_law_mixed" s_law_mixed a.f_law_mixed a.d_law_mixed
  m_law_mixed : mg "_law_mixed" = some (.ref a.f_law_mixed)
  b_law_mixed : Binds K a.d_law_mixed ["_law_cell", "_law_k", "_law_many"] []
  F_law_offset_of : Fun K "_law_offset_of" "_law_offset_of" s_law_offset_of a.f_law_offset_of a.d_law_offset_of
  m_law_offset_of : mg "_law_offset_of" = some (.ref a.f_law_offset_of)
  b_law_offset_of : Binds K a.d_law_offset_of ["_law_own", "_law_changes", "_law_moment"] []
  F_law_where : Fun K "_law_where" "_law_where" s_law_where a.f_law_where a.d_law_where
  m_law_where : mg "_law_where" = some (.ref a.f_law_where)
  b_law_where : Binds K a.d_law_where ["_law_step", "_law_rest"] []
  F_law_due : Fun K "_law_due" "_law_due" s_law_due a.f_law_due a.d_law_due
  m_law_due : mg "_law_due" = some (.ref a.f_law_due)
  b_law_due : Binds K a.d_law_due ["_law_falls", "_law_offset", "_law_begin", "_law_end", "_law_minute", "_law_shift"] []
  F_is_name : Fun K "is_name" "is_name" s_is_name a.f_is_name a.d_is_name
  m_is_name : mg "is_name" = some (.ref a.f_is_name)
  b_is_name : Binds K a.d_is_name ["text"] []
  F_check_day : Fun K "check_day" "check_day" s_check_day a.f_check_day a.d_check_day
  m_check_day : mg "check_day" = some (.ref a.f_check_day)
  b_check_day : Binds K a.d_check_day ["number"] []
  F_Every_days_in : Fun K "days_in" "Every.days_in" s_Every_days_in a.f_Every_days_in a.d_Every_days_in
  b_Every_days_in : Binds K a.d_Every_days_in ["self", "begin", "end"] []
  F_Days_next_in : FunD K "next_in" "Days.next_in" s_Days_next_in a.f_Days_next_in a.d_Days_next_in
  b_Days_next_in : Binds K a.d_Days_next_in ["self", "day", "end"] []
  F_Where_falls_on : Fun K "falls_on" "Where.falls_on" s_Where_falls_on a.f_Where_falls_on a.d_Where_falls_on
  b_Where_falls_on : Binds K a.d_Where_falls_on ["self", "day"] []
  F_check_changes : Fun K "check_changes" "check_changes" s_check_changes a.f_check_changes a.d_check_changes
  m_check_changes : mg "check_changes" = some (.ref a.f_check_changes)
  b_check_changes : Binds K a.d_check_changes ["changes"] []
  F_changes_until : Fun K "changes_until" "changes_until" s_changes_until a.f_changes_until a.d_changes_until
  m_changes_until : mg "changes_until" = some (.ref a.f_changes_until)
  b_changes_until : Binds K a.d_changes_until ["place", "moment"] []
  F_law_name_by : Fun K "_law_name_by" "_law_name_by" s_law_name_by a.f_law_name_by a.d_law_name_by
  m_law_name_by : mg "_law_name_by" = some (.ref a.f_law_name_by)
  b_law_name_by : Binds K a.d_law_name_by ["_law_cell"] []
  F_law_pair_is : Fun K "_law_pair_is" "_law_pair_is" s_law_pair_is a.f_law_pair_is a.d_law_pair_is
  m_law_pair_is : mg "_law_pair_is" = some (.ref a.f_law_pair_is)
  b_law_pair_is : Binds K a.d_law_pair_is ["_law_found", "_law_local"] []
  F_law_falls_by : Fun K "_law_falls_by" "_law_falls_by" s_law_falls_by a.f_law_falls_by a.d_law_falls_by
  m_law_falls_by : mg "_law_falls_by" = some (.ref a.f_law_falls_by)
  b_law_falls_by : Binds K a.d_law_falls_by ["_law_cell", "_law_begin"] []
  F_law_changes_are : Fun K "_law_changes_are" "_law_changes_are" s_law_changes_are a.f_law_changes_are a.d_law_changes_are
  m_law_changes_are : mg "_law_changes_are" = some (.ref a.f_law_changes_are)
  b_law_changes_are : Binds K a.d_law_changes_are ["_law_found", "_law_due_here"] []
  F_Every___init : FunD K "__init__" "Every.__init__" s_Every___init a.f_Every___init a.d_Every___init
  b_Every___init : Binds K a.d_Every___init ["self", "step", "first"] []
  F_Days___init : Fun K "__init__" "Days.__init__" s_Days___init a.f_Days___init a.d_Days___init
  b_Days___init : Binds K a.d_Days___init ["self", "days"] []
  F_Where_next_in : FunD K "next_in" "Where.next_in" s_Where_next_in a.f_Where_next_in a.d_Where_next_in
  b_Where_next_in : Binds K a.d_Where_next_in ["self", "day", "end"] []
  F_Place___init : FunD K "__init__" "Place.__init__" s_Place___init a.f_Place___init a.d_Place___init
  b_Place___init : Binds K a.d_Place___init ["self", "name", "offset", "changes"] []
  F_offset_at : Fun K "offset_at" "offset_at" s_offset_at a.f_offset_at a.d_offset_at
  m_offset_at : mg "offset_at" = some (.ref a.f_offset_at)
  b_offset_at : Binds K a.d_offset_at ["place", "moment"] []
  F_Rule_days_in : Fun K "days_in" "Rule.days_in" s_Rule_days_in a.f_Rule_days_in a.d_Rule_days_in
  b_Rule_days_in : Binds K a.d_Rule_days_in ["self", "begin", "end"] []
  F_shown : Fun K "shown" "shown" s_shown a.f_shown a.d_shown
  m_shown : mg "shown" = some (.ref a.f_shown)
  b_shown : Binds K a.d_shown ["place", "moment"] []
  F_days_of : FunD K "days_of" "days_of" s_days_of a.f_days_of a.d_days_of
  m_days_of : mg "days_of" = some (.ref a.f_days_of)
  b_days_of : Binds K a.d_days_of ["rule", "begin", "end"] []
  F_law_rule_by : Fun K "_law_rule_by" "_law_rule_by" s_law_rule_by a.f_law_rule_by a.d_law_rule_by
  m_law_rule_by : mg "_law_rule_by" = some (.ref a.f_law_rule_by)
  b_law_rule_by : Binds K a.d_law_rule_by ["_law_cell", "_law_begin"] []
  F_place_by : FunD K "place_by" "place_by" s_place_by a.f_place_by a.d_place_by
  m_place_by : mg "place_by" = some (.ref a.f_place_by)
  b_place_by : Binds K a.d_place_by ["name", "offset", "forward", "back", "begin", "end", "minute", "shift"] []
  b_place_by_1 : ∃ ds, Binds K a.d_place_by ["name", "offset", "forward", "back", "begin", "end", "minute", "shift"] ds ∧ Vals [.int 60] ds
  b_place_by_2 : ∃ ds, Binds K a.d_place_by ["name", "offset", "forward", "back", "begin", "end", "minute", "shift"] ds ∧ Vals [.int 60, .int 60] ds
  F_law : Fun K "law" "law" s_law a.f_law a.d_law
  m_law : mg "law" = some (.ref a.f_law)
  b_law : Binds K a.d_law ["_law_script"] []
  g_DAYS : ∃ t, mg "DAYS" = some (.int 146097 t)
  g_DAY_MINUTES : ∃ t, mg "DAY_MINUTES" = some (.int 1440 t)
  g_FIGURES : ∃ t, mg "FIGURES" = some (.str "0123456789" t)
  g_LETTERS : ∃ t, mg "LETTERS" = some (.str "abcdefghijklmnopqrstuvwxyz" t)
  g_MOST_CHANGES : ∃ t, mg "MOST_CHANGES" = some (.int 400 t)
  g_MOST_OFFSET : ∃ t, mg "MOST_OFFSET" = some (.int 900 t)
  g_MOST_SHIFT : ∃ t, mg "MOST_SHIFT" = some (.int 120 t)
  g_NAME_SIGNS : ∃ t, mg "NAME_SIGNS" = some (.int 8 t)
  io_Place : IsO K a.x_Place
  ki_Place_Place : PySem.W.kitOne K (.ref a.x_Place) (.ref a.x_Place) = some true
  m_Days : mg "Days" = some (.ref a.x_Days)
  cl_Days : Cls K a.x_Days
  mk_Days : Mk K a.x_Days a.f_Days___init
  n_Days_days : NoAttr K a.x_Days "days"
  me_Days_days_in : Meth K a.x_Days "days_in" a.f_Rule_days_in
  me_Days_next_in : Meth K a.x_Days "next_in" a.f_Days_next_in
  m_Every : mg "Every" = some (.ref a.x_Every)
  cl_Every : Cls K a.x_Every
  mk_Every : Mk K a.x_Every a.f_Every___init
  n_Every_step : NoAttr K a.x_Every "step"
  n_Every_first : NoAttr K a.x_Every "first"
  me_Every_days_in : Meth K a.x_Every "days_in" a.f_Every_days_in
  me_Every_next_in : Meth K a.x_Every "next_in" a.f_Every_next_in
  m_Place : mg "Place" = some (.ref a.x_Place)
  cl_Place : Cls K a.x_Place
  mk_Place : Mk K a.x_Place a.f_Place___init
  n_Place_name : NoAttr K a.x_Place "name"
  n_Place_offset : NoAttr K a.x_Place "offset"
  n_Place_changes : NoAttr K a.x_Place "changes"
  n_Place_moments : NoAttr K a.x_Place "moments"
  m_Rule : mg "Rule" = some (.ref a.x_Rule)
  cl_Rule : Cls K a.x_Rule
  mn_Rule : MkN K a.x_Rule
  me_Rule_days_in : Meth K a.x_Rule "days_in" a.f_Rule_days_in
  me_Rule_next_in : Meth K a.x_Rule "next_in" a.f_Rule_next_in
  m_Where : mg "Where" = some (.ref a.x_Where)
  cl_Where : Cls K a.x_Where
  mk_Where : Mk K a.x_Where a.f_Where___init
  n_Where_test : NoAttr K a.x_Where "test"
  me_Where_days_in : Meth K a.x_Where "days_in" a.f_Rule_days_in
  me_Where_falls_on : Meth K a.x_Where "falls_on" a.f_Where_falls_on
  me_Where_next_in : Meth K a.x_Where "next_in" a.f_Where_next_in
  n_all : mg "all" = none
  n_bool : mg "bool" = none
  n_divmod : mg "divmod" = none
  n_int : mg "int" = none
  n_isinstance : mg "isinstance" = none
  n_len : mg "len" = none
  n_list : mg "list" = none
  n_max : mg "max" = none
  n_min : mg "min" = none
  n_range : mg "range" = none
  n_set : mg "set" = none
  n_sorted : mg "sorted" = none
  n_tuple : mg "tuple" = none
  lc_law_where : codeRef K a.f_law_where = some a.cc_law_where
structure TxtL (K : PySem.W.Frag) (mg : Str → Option Value) (base : Heap) (a : Adr) : Prop extends Txt K mg a where
  L_law_where : MkL mg base a.cc_law_where a.pt_law_where
abbrev lam_law_where : Expr := retVal (stAt (defBody s_law_where) 0)
abbrev q_law_where : Str := ("_law_where" ++ ".<locals>.") ++ "<lambda>"
theorem lsc_law_where : LamScope "_law_day" ["_law_rest", "_law_step"] (lamScope lam_law_where) := ⟨rfl, rfl, rfl, by decide +kernel, by decide +kernel, by decide +kernel, by decide +kernel, by decide +kernel⟩
theorem lbd_law_where : ∀ (u : Value) (cl : List (Str × Addr)) (pm cd ctv : Value), bindArgs (PySem.W.kla_fn "<lambda>" q_law_where (lamArgs lam_law_where) (lamBody lam_law_where) (lamScope lam_law_where) cl pm cd ctv) ⟨[u], []⟩ = pure [(("_law_day" : Str), u)] := fun _ _ _ _ _ => rfl

def LT : List Nat := (Str.ofString "abcdefghijklmnopqrstuvwxyz").cps.toList
def FG : List Nat := (Str.ofString "0123456789").cps.toList
def AL : List Nat := (Str.ofString "abcdefghijklmnopqrstuvwxyz0123456789").cps.toList
theorem AL_eq : AL = LT ++ FG := by decide +kernel
def nameB (l : List Nat) : Bool := if l.length < 1 ∨ 8 < l.length then false else decide (l.headD 0 ∈ LT) && l.all fun c => decide (c ∈ AL)
theorem nameB_short {l : List Nat} (h : l.length < 1) : nameB l = false := by unfold nameB; rw [if_pos (.inl h)]
theorem nameB_long {l : List Nat} (h : 8 < l.length) : nameB l = false := by unfold nameB; rw [if_pos (.inr h)]
theorem nameB_mid {l : List Nat} {c : Nat} (h1 : ¬ l.length < 1) (h2 : ¬ 8 < l.length) (e : l[0]? = some c) : nameB l = (decide (c ∈ LT) && l.all fun c => decide (c ∈ AL)) := by
  unfold nameB
  rw [if_neg (by intro h; rcases h with h | h <;> omega)]
  cases l with
  | nil => simp at e
  | cons x r => simp at e; subst e; rfl
theorem len_app (x y : Str) : (x ++ y).length = x.length + y.length := Array.size_append
theorem sz1000 : (1000 : Nat) < sizeLine := by decide
/-- the promises -/
def sp_is_made_of : Sp := fun vs H Q _ => ∃ t g : Str, vs = [.str t, .str g] ∧ t.length ≤ 1000 ∧ ∀ H', Same H H' → Q (.bl (t.cps.toList.all fun c => decide (c ∈ g.cps.toList))) H'
def sp_is_name : Sp := fun vs H Q _ => ∃ t : Str, vs = [.str t] ∧ t.length ≤ 1000 ∧ ∀ H', Same H H' → Q (.bl (nameB t.cps.toList)) H'
def AL36 : List Nat := (Str.ofString "abcdefghijklmnopqrstuvwxyz0123456789").cps.toList
theorem al36_l : ∀ n : Fin 26, ∃ c, AL36[n.val]? = some c ∧ c ∈ LT := fun n => ⟨AL36.getD n.val 0, (by decide +kernel : ∀ n : Fin 26, AL36[n.val]? = some (AL36.getD n.val 0)) n, (by decide +kernel : ∀ n : Fin 26, AL36.getD n.val 0 ∈ LT) n⟩
theorem al36_a : ∀ n : Fin 36, ∃ c, AL36[n.val]? = some c ∧ c ∈ AL := fun n => ⟨AL36.getD n.val 0, (by decide +kernel : ∀ n : Fin 36, AL36[n.val]? = some (AL36.getD n.val 0)) n, (by decide +kernel : ∀ n : Fin 36, AL36.getD n.val 0 ∈ AL) n⟩
theorem at26 {i : Int} (h0 : 0 ≤ i) (h1 : i < 26) : ∃ c, c ∈ LT ∧ atI AL36 i = some c := by
  obtain ⟨c, e, h⟩ := al36_l ⟨i.toNat, by omega⟩
  exact ⟨c, h, by rw [show i = ((i.toNat : Nat) : Int) by omega]; exact atI_nat e⟩
theorem at36 {i : Int} (h0 : 0 ≤ i) (h1 : i < 36) : ∃ c, c ∈ AL ∧ atI AL36 i = some c := by
  obtain ⟨c, e, h⟩ := al36_a ⟨i.toNat, by omega⟩
  exact ⟨c, h, by rw [show i = ((i.toNat : Nat) : Int) by omega]; exact atI_nat e⟩
theorem name_one {c : Nat} (h : c ∈ LT) : nameB [c] = true := by
  have ha : c ∈ AL := by rw [AL_eq]; exact List.mem_append_left _ h
  unfold nameB
  simp [h, ha]
theorem name_more {l : List Nat} {c : Nat} (h : nameB l = true) (hc : c ∈ AL) (hl : l.length < 8) : nameB (l ++ [c]) = true := by
  unfold nameB at h ⊢
  by_cases h1 : l.length < 1 ∨ 8 < l.length
  · rw [if_pos h1] at h; cases h
  · rw [if_neg h1] at h
    rw [if_neg (by rw [List.length_append, List.length_singleton]; omega)]
    cases l with
    | nil => simp at h1
    | cons x r =>
      simp only [List.cons_append, List.headD_cons, List.all_cons, List.all_append, List.all_nil, Bool.and_true] at h ⊢
      simp only [Bool.and_eq_true] at h ⊢
      exact ⟨h.1, h.2.1, h.2.2, decide_eq_true hc⟩
theorem cps_app (t : Str) (c : Nat) : (t ++ (⟨#[c]⟩ : Str)).cps.toList = t.cps.toList ++ [c] := Array.toList_append
structure PlaceAt (C : Addr) (H : Hp) (x : Addr) (nm : Str) (own : Int) (ch ms : Addr) (cs : List RA) : Prop where
  ob : ∃ dx, H x = some (.ins C dx [("name", .str nm), ("offset", .int own), ("changes", .ref ch), ("moments", .ref ms)])
  ch : H ch = some (.tup (refs cs))
  ok : RowOk H cs
  ms : H ms = some (.tup ((DC.mom (sps cs)).map V.int))
  rise : DC.Rise (DC.mom (sps cs))
  few : cs.length ≤ 400
theorem PlaceAt.up {C : Addr} {H H' : Hp} {x : Addr} {nm : Str} {own : Int} {ch ms : Addr} {cs : List RA} (h : PlaceAt C H x nm own ch ms cs) (s : Same H H') : PlaceAt C H' x nm own ch ms cs :=
  ⟨h.ob.imp fun _ e => s _ _ e, s _ _ h.ch, h.ok.up s, s _ _ h.ms, h.rise, h.few⟩
def Bds (cs : List RA) : Prop := DC.Rise (DC.mom (sps cs)) ∧ cs.length ≤ 400 ∧ ∀ c ∈ sps cs, -900 ≤ c.2 ∧ c.2 ≤ 900
def sp_count_below (K : PySem.W.Frag) : Sp := fun vs H Q _ => ∃ (p : Addr) (ns : List Int) (x : Int), vs = [.ref p, .int x] ∧ SqT K H p (ns.map V.int) ∧ DC.Rise ns ∧ ns.length ≤ 1000 ∧ Q (.int (DC.below ns x : Nat)) H
def sp_check_offset : Sp := fun vs H Q _ => ∃ o : Int, vs = [.int o] ∧ -900 ≤ o ∧ o ≤ 900 ∧ Q .non H
def sp_check_changes : Sp := fun vs H Q _ => ∃ (p : Addr) (cs : List RA), vs = [.ref p] ∧ H p = some (.tup (refs cs)) ∧ RowOk H cs ∧ Bds cs ∧ Q .non H
def sp_init (C : Addr) : Sp := fun vs H Q _ => ∃ (x dx : Addr) (nm : Str) (o : Int) (v : V) (cs : List RA), vs = [.ref x, .str nm, .int o, v] ∧ H x = some (.ins C dx []) ∧ nameB nm.cps.toList = true ∧ nm.length ≤ 1000 ∧ -900 ≤ o ∧ o ≤ 900 ∧ Bds cs ∧
  ((v = .non ∧ cs = []) ∨ ∃ ch, v = .ref ch ∧ H ch = some (.tup (refs cs)) ∧ RowOk H cs) ∧ ∀ (ch ms : Addr) H', SameX x H H' → PlaceAt C H' x nm o ch ms cs → Q .non H'
def sp_offset_behind (C : Addr) : Sp := fun vs H Q _ => ∃ (x : Addr) (nm : Str) (own : Int) (ch ms : Addr) (cs : List RA) (k : Nat), vs = [.ref x, .int k] ∧ PlaceAt C H x nm own ch ms cs ∧ k ≤ cs.length ∧ Q (.int (DC.off own (sps cs) k)) H
def sp_changes_until (C : Addr) : Sp := fun vs H Q _ => ∃ (x : Addr) (nm : Str) (own : Int) (ch ms : Addr) (cs : List RA) (m : Int), vs = [.ref x, .int m] ∧ PlaceAt C H x nm own ch ms cs ∧ Q (.int (DC.cnt (sps cs) m : Nat)) H
def sp_offset_at (C : Addr) : Sp := fun vs H Q _ => ∃ (x : Addr) (nm : Str) (own : Int) (ch ms : Addr) (cs : List RA) (m : Int), vs = [.ref x, .int m] ∧ PlaceAt C H x nm own ch ms cs ∧ Q (.int (DC.offAt own (sps cs) m)) H
def sp_shown (C : Addr) : Sp := fun vs H Q _ => ∃ (x : Addr) (nm : Str) (own : Int) (ch ms : Addr) (cs : List RA) (m : Int), vs = [.ref x, .int m] ∧ PlaceAt C H x nm own ch ms cs ∧ ∀ (p : Addr) H', Same H H' → H p = none → H' p = some (.tup [.int ((m + DC.offAt own (sps cs) m) / 1440), .int ((m + DC.offAt own (sps cs) m) % 1440)]) → Q (.ref p) H'
def sp_law_whole : Sp := fun vs H Q _ => ∃ i : Int, vs = [.int i] ∧ Q (.bl true) H
def sp_law_cell_at (K : PySem.W.Frag) : Sp := fun vs H Q _ => ∃ (p : Addr) (ns : List Int) (k : Int), vs = [.ref p, .int k] ∧ SqL K H p (ns.map V.int) ∧ 0 ≤ k ∧ ∀ v : Int, Q (.int v) H
def sp_law_offset_of : Sp := fun vs H Q _ => ∃ (own m : Int) (p : Addr) (cs : List RA), vs = [.int own, .ref p, .int m] ∧ H p = some (.tup (refs cs)) ∧ RowOk H cs ∧ DC.Rise (DC.mom (sps cs)) ∧ cs.length ≤ 1000 ∧ Q (.int (DC.offAt own (sps cs) m)) H
def sp_law_name_by : Sp := fun vs H Q _ => ∃ c : Int, vs = [.int c] ∧ ∀ t : Str, nameB t.cps.toList = true → t.length ≤ 8 → Q (.str t) H
theorem vint {i j : Int} : decide (V.int i = V.int j) = decide (i = j) := decide_eq_decide.mpr (by rw [V.int.injEq])
theorem sps_at {rs : List RA} {i : Nat} {y : RA} (h : rs[i]? = some y) : (sps rs)[i]? = some y.2 := by unfold sps; rw [List.getElem?_map, h]; rfl
theorem refs_at {rs : List RA} {i : Nat} {y : RA} (h : rs[i]? = some y) : (refs rs)[i]? = some (.ref y.1) := by unfold refs; rw [List.getElem?_map, h]; rfl
theorem sps_mem {rs : List RA} {y : RA} (h : y ∈ rs) : y.2 ∈ sps rs := List.mem_map_of_mem h
theorem rs_get {rs : List RA} {i : Nat} (h : i < rs.length) : ∃ y, rs[i]? = some y := ⟨rs[i], by simp [h]⟩
abbrev sN : Str := "name"
abbrev sO : Str := "offset"
abbrev sC : Str := "changes"
abbrev sM : Str := "moments"
theorem putf1 (v : V) : putF sN v [] = [(sN, v)] := rfl
theorem putf2 (u v : V) : putF sO v [(sN, u)] = [(sN, u), (sO, v)] := by
  unfold putF
  rw [if_neg (by decide)]
  rfl
theorem putf3 (u v w : V) : putF sC w [(sN, u), (sO, v)] = [(sN, u), (sO, v), (sC, w)] := by
  unfold putF
  rw [if_neg (by decide)]
  unfold putF
  rw [if_neg (by decide)]
  rfl
theorem putf4 (u v w z : V) : putF sM z [(sN, u), (sO, v), (sC, w)] = [(sN, u), (sO, v), (sC, w), (sM, z)] := by
  unfold putF
  rw [if_neg (by decide)]
  unfold putF
  rw [if_neg (by decide)]
  unfold putF
  rw [if_neg (by decide)]
  rfl
theorem look_ne {a b : Str} {v : V} {r : List (Str × V)} (h : (a == b) = false) : List.lookup a ((b, v) :: r) = List.lookup a r := by
  show (match a == b with | true => some v | false => List.lookup a r) = _
  rw [h]
theorem look_eq {a : Str} {v : V} {r : List (Str × V)} (h : (a == a) = true) : List.lookup a ((a, v) :: r) = some v := by
  show (match a == a with | true => some v | false => List.lookup a r) = _
  rw [h]
theorem look_c3 (u v w : V) : List.lookup sC [(sN, u), (sO, v), (sC, w)] = some w := by rw [look_ne (by decide +kernel), look_ne (by decide +kernel), look_eq (by decide +kernel)]
theorem fl_off (u v w z : V) : List.lookup sO [(sN, u), (sO, v), (sC, w), (sM, z)] = some v := by rw [look_ne (by decide +kernel), look_eq (by decide +kernel)]
theorem fl_ch (u v w z : V) : List.lookup sC [(sN, u), (sO, v), (sC, w), (sM, z)] = some w := by rw [look_ne (by decide +kernel), look_ne (by decide +kernel), look_eq (by decide +kernel)]
theorem fl_ms (u v w z : V) : List.lookup sM [(sN, u), (sO, v), (sC, w), (sM, z)] = some z := by rw [look_ne (by decide +kernel), look_ne (by decide +kernel), look_ne (by decide +kernel), look_eq (by decide +kernel)]
theorem mom_vals (cs : List RA) : ((sps cs).filter (fun _ => true)).map (fun c => V.int c.1) = (DC.mom (sps cs)).map V.int := by
  rw [List.filter_eq_self.mpr (fun _ _ => rfl)]
  unfold DC.mom
  rw [List.map_map]
  rfl
theorem half {lo hi : Nat} : ((lo : Int) + (hi : Int)) / 2 = (((lo + hi) / 2 : Nat) : Int) := by omega
theorem ints_at {ns : List Int} {i : Nat} {a : Int} (h : ns[i]? = some a) : (ns.map V.int)[i]? = some (.int a) := by rw [List.getElem?_map, h]; rfl
theorem int_get {ns : List Int} {i : Nat} (h : i < ns.length) : ∃ a, ns[i]? = some a := ⟨ns[i], by simp [h]⟩

open DR (Rl fl days)
def mx (c k m : Int) : Int := ((c * 48271 + 7919 * k * k + 31 * k + 5) % 2147483647) * ((c * 48271 + 7919 * k * k + 31 * k + 5) % 2147483647 + 2 * k + 1) % 1000000007 % m
theorem mx0 (c k : Int) {m : Int} (h : 0 < m) : 0 ≤ mx c k m := Int.emod_nonneg _ (by omega)
theorem mx1 (c k : Int) {m : Int} (h : 0 < m) : mx c k m < m := Int.emod_lt_of_pos _ h
def sp_law_mixed : Sp := fun vs H Q _ => ∃ c k m : Int, vs = [.int c, .int k, .int m] ∧ 0 ≤ k ∧ k ≤ 100000 ∧ 0 < m ∧ ∀ v : Int, 0 ≤ v → v < m → v = mx c k m → Q (.int v) H
structure RAd where
  r : Addr
  e : Addr
  d : Addr
  w : Addr
abbrev sS : Str := "step"
abbrev sF : Str := "first"
abbrev sD : Str := "days"
abbrev sT : Str := "test"
abbrev LamW (H : Hp) (f : Addr) (st re : Int) : Prop := ∃ cl cd, LamIs H f (lamArgs lam_law_where) (lamBody lam_law_where) (lamScope lam_law_where) q_law_where ["_law_rest", "_law_step"] [.int re, .int st] cl cd
abbrev TabW (H : Hp) (pt : Addr) : Prop := LTab H pt (lamPos lam_law_where) q_law_where
def RuleAt (A : RAd) (H : Hp) (x : Addr) : Rl → Prop
  | .nv => ∃ dx, H x = some (.ins A.r dx [])
  | .ev st fi => (1 ≤ st ∧ st < 1000 ∧ 0 ≤ fi ∧ fi < 146097) ∧ ∃ dx, H x = some (.ins A.e dx [(sS, .int st), (sF, .int fi)])
  | .dy ds => ∃ dx d ms, H x = some (.ins A.d dx [(sD, .ref d)]) ∧ H d = some (.tup (ms.map V.int)) ∧ DC.Rise ms ∧ ms.length ≤ 1000 ∧ ∀ k, k ∈ ms ↔ k ∈ ds
  | .wh st re => 1 ≤ st ∧ ∃ dx f, H x = some (.ins A.w dx [(sT, .ref f)]) ∧ LamW H f st re
theorem RuleAt.upX {A : RAd} {H H' : Hp} {x pt : Addr} {r : Rl} {tb : Array Value} (h : RuleAt A H x r) (hp : H pt = some (.tbl tb)) (s : SameX pt H H') : RuleAt A H' x r := by
  have ne : ∀ {b : Addr} {o : HO}, H b = some o → (∀ z, o ≠ .tbl z) → b ≠ pt := fun e n z => by rw [z, hp] at e; exact n _ (Option.some.inj e).symm
  cases r with
  | nv => obtain ⟨dx, e⟩ := h; exact ⟨dx, s _ _ (ne e fun _ z => nomatch z) e⟩
  | ev st fi => obtain ⟨b, dx, e⟩ := h; exact ⟨b, dx, s _ _ (ne e fun _ z => nomatch z) e⟩
  | dy ds => obtain ⟨dx, d, ms, e, f, g⟩ := h; exact ⟨dx, d, ms, s _ _ (ne e fun _ z => nomatch z) e, s _ _ (ne f fun _ z => nomatch z) f, g⟩
  | wh st re => obtain ⟨b, dx, f, e, cl, cd, L⟩ := h; exact ⟨b, dx, f, s _ _ (ne e fun _ z => nomatch z) e, cl, cd, L.up hp s⟩
theorem RuleAt.up {A : RAd} {H H' : Hp} {x : Addr} {r : Rl} (h : RuleAt A H x r) (s : Same H H') : RuleAt A H' x r := by
  cases r with
  | nv => obtain ⟨dx, e⟩ := h; exact ⟨dx, s _ _ e⟩
  | ev st fi => obtain ⟨b, dx, e⟩ := h; exact ⟨b, dx, s _ _ e⟩
  | dy ds => obtain ⟨dx, d, ms, e, f, g⟩ := h; exact ⟨dx, d, ms, s _ _ e, s _ _ f, g⟩
  | wh st re => obtain ⟨b, dx, f, e, cl, cd, L⟩ := h; exact ⟨b, dx, f, s _ _ e, cl, cd, L.same s⟩
def NX (r : Rl) (b e : Int) (Q : VK) (H : Hp) : Prop := (∀ d, b ≤ d → d < e → fl r d = true → (∀ k, b ≤ k → k < d → fl r k = false) → Q (.int d) H) ∧ ((∀ k, b ≤ k → k < e → fl r k = false) → Q .non H)
def sp_is_day : Sp := fun vs H Q _ => ∃ d : Int, vs = [.int d] ∧ 0 ≤ d ∧ d < 146097 ∧ Q (.bl true) H
def sp_check_bounds : Sp := fun vs H Q _ => ∃ n l m : Int, vs = [.int n, .int l, .int m] ∧ l ≤ n ∧ n ≤ m ∧ Q .non H
def sp_check_day : Sp := fun vs H Q _ => ∃ n : Int, vs = [.int n] ∧ 0 ≤ n ∧ n < 146097 ∧ Q .non H
def sp_check_put : Sp := fun vs H Q _ => ∃ mi sh : Int, vs = [.int mi, .int sh] ∧ 0 ≤ mi ∧ mi < 1440 ∧ 1 ≤ sh ∧ sh ≤ 120 ∧ Q .non H
def sp_Rule_next_in : Sp := fun vs H Q _ => ∃ (x : Addr) (b e : Int), vs = [.ref x, .int b, .int e] ∧ Q .non H
def sp_Every_next_in (A : RAd) : Sp := fun vs H Q _ => ∃ (x : Addr) (b e st fi : Int), vs = [.ref x, .int b, .int e] ∧ RuleAt A H x (.ev st fi) ∧ e ≤ 146097 ∧ NX (.ev st fi) b e Q H
def sp_Days_next_in (A : RAd) : Sp := fun vs H Q _ => ∃ (x : Addr) (b e : Int) (ds : List Int), vs = [.ref x, .int b, .int e] ∧ RuleAt A H x (.dy ds) ∧ NX (.dy ds) b e Q H
def sp_Where_next_in (A : RAd) : Sp := fun vs H Q _ => ∃ (x : Addr) (b e st re : Int), vs = [.ref x, .int b, .int e] ∧ RuleAt A H x (.wh st re) ∧ 0 ≤ b ∧ b ≤ 200000 ∧ -200000 ≤ e ∧ e ≤ 146097 ∧ NX (.wh st re) b e Q H
def sp_Where_falls_on (A : RAd) : Sp := fun vs H Q _ => ∃ (x : Addr) (d st re : Int), vs = [.ref x, .int d] ∧ RuleAt A H x (.wh st re) ∧ 0 ≤ d ∧ d < 146097 ∧ Q (.bl (fl (.wh st re) d)) H
def DLst (r : Rl) (b e : Int) (Q : VK) (H : Hp) : Prop := ∀ (D : Addr) H', Same H H' → H' D = some (.lst ((days (fl r) b e).map V.int)) → Q (.ref D) H'
def Wd (b e : Int) : Prop := 0 ≤ b ∧ b ≤ 200000 ∧ -200000 ≤ e ∧ e ≤ 146097 ∧ e - b ≤ 1000
def sp_Rule_days_in (A : RAd) : Sp := fun vs H Q _ => ∃ (x : Addr) (b e : Int) (r : Rl), vs = [.ref x, .int b, .int e] ∧ RuleAt A H x r ∧ (∀ st fi, r ≠ .ev st fi) ∧ Wd b e ∧ DLst r b e Q H
def sp_Every_days_in (A : RAd) : Sp := fun vs H Q _ => ∃ (x : Addr) (b e st fi : Int), vs = [.ref x, .int b, .int e] ∧ RuleAt A H x (.ev st fi) ∧ Wd b e ∧ DLst (.ev st fi) b e Q H
def lo0 (b : Int) : Int := if 0 > b then 0 else b
def sp_days_of (A : RAd) : Sp := fun vs H Q _ => ∃ (x : Addr) (b e : Int) (r : Rl), vs = [.ref x, .int b, .int e] ∧ RuleAt A H x r ∧ Wd (lo0 b) e ∧ DLst r (lo0 b) e Q H
def sp_Every_init (A : RAd) : Sp := fun vs H Q _ => ∃ (x dx : Addr) (st fi : Int), vs = [.ref x, .int st, .int fi] ∧ H x = some (.ins A.e dx []) ∧ 1 ≤ st ∧ st < 1000 ∧ 0 ≤ fi ∧ fi < 146097 ∧ ∀ H', SameX x H H' → RuleAt A H' x (.ev st fi) → Q .non H'
def sp_Days_init (A : RAd) : Sp := fun vs H Q _ => ∃ (x dx p : Addr) (ds : List Int), vs = [.ref x, .ref p] ∧ H x = some (.ins A.d dx []) ∧ H p = some (.tup (ds.map V.int)) ∧ ds.length ≤ 50 ∧ (∀ k ∈ ds, 0 ≤ k ∧ k < 146097) ∧ ∀ H', SameX x H H' → RuleAt A H' x (.dy ds) → Q .non H'
def sp_Where_init (A : RAd) : Sp := fun vs H Q _ => ∃ (x dx f : Addr) (st re : Int), vs = [.ref x, .ref f] ∧ H x = some (.ins A.w dx []) ∧ 1 ≤ st ∧ LamW H f st re ∧ ∀ H', SameX x H H' → RuleAt A H' x (.wh st re) → Q .non H'
def sp_law_where (pt : Addr) : Sp := fun vs H Q _ => ∃ st re : Int, vs = [.int st, .int re] ∧ TabW H pt ∧ ∀ f H', SameX pt H H' → TabW H' pt → LamW H' f st re → Q (.ref f) H'
abbrev ad (a : Adr) : RAd := ⟨a.x_Rule, a.x_Every, a.x_Days, a.x_Where⟩
theorem fl_step (u v : V) : List.lookup sS [(sS, u), (sF, v)] = some u := look_eq (by decide +kernel)
theorem fl_first (u v : V) : List.lookup sF [(sS, u), (sF, v)] = some v := by rw [look_ne (by decide +kernel), look_eq (by decide +kernel)]
theorem fl_days (u : V) : List.lookup sD [(sD, u)] = some u := look_eq (by decide +kernel)
theorem fl_test (u : V) : List.lookup sT [(sT, u)] = some u := look_eq (by decide +kernel)
theorem pf_step (u : V) : putF sS u [] = [(sS, u)] := rfl
theorem pf_first (u v : V) : putF sF v [(sS, u)] = [(sS, u), (sF, v)] := by
  unfold putF
  rw [if_neg (by decide)]
  rfl
theorem pf_days (u : V) : putF sD u [] = [(sD, u)] := rfl
theorem pf_test (u : V) : putF sT u [] = [(sT, u)] := rfl
theorem nometh2 (m : Str) (u v : V) (h1 : (m == sS) = false) (h2 : (m == sF) = false) : List.lookup m [(sS, u), (sF, v)] = none := by rw [look_ne h1, look_ne h2]; rfl
theorem nometh1 (m n : Str) (u : V) (h1 : (m == n) = false) : List.lookup m [(n, u)] = none := by rw [look_ne h1]; rfl

theorem nd_len : ∀ {ms ds : List Int}, ms.Pairwise (· < ·) → (∀ k ∈ ms, k ∈ ds) → ms.length ≤ ds.length
  | [], _, _, _ => Nat.zero_le _
  | x :: ms, ds, h, hs => by
    obtain ⟨h1, h2⟩ := List.pairwise_cons.mp h
    have hx := hs x (List.mem_cons_self ..)
    have ih := nd_len (ds := ds.erase x) h2 fun k hk => (List.mem_erase_of_ne (by have := h1 k hk; omega)).mpr (hs k (List.mem_cons_of_mem _ hk))
    rw [List.length_erase_of_mem hx] at ih
    have : 0 < ds.length := List.length_pos_of_mem hx
    show ms.length + 1 ≤ ds.length
    omega

def dyL (c b : Int) : List Int := (List.range (mx c 31 6).toNat).map fun (i : Nat) => b + mx c (22 + (i : Int)) 300
def rlOf (c b : Int) : Rl := if mx c 21 4 = 0 then .dy (dyL c b) else if mx c 21 4 = 1 then .ev (1 + mx c 32 120) (b + mx c 33 90) else if mx c 21 4 = 2 then .wh (1 + mx c 34 70) (mx c 35 70) else .nv
def fD (c b : Int) : V → V
  | .int i => .int (b + mx c (22 + i) 300)
  | v => v
theorem dy_vals (c b : Int) (n : Nat) (h : n = (mx c 31 6).toNat) : ((List.range n).map fun (i : Nat) => V.int (0 + (i : Int))).map (fD c b) = (dyL c b).map V.int := by
  subst h
  unfold dyL
  rw [List.map_map, List.map_map]
  refine List.map_congr_left fun i _ => ?_
  show V.int (b + mx c (22 + (0 + (i : Int))) 300) = V.int (b + mx c (22 + (i : Int)) 300)
  rw [Int.zero_add]
theorem dy_len (c b : Int) : (dyL c b).length ≤ 50 := by
  unfold dyL
  rw [List.length_map, List.length_range]
  have := mx1 c 31 (m := 6) (by decide)
  omega
theorem dy_in {c b k : Int} (h : k ∈ dyL c b) : b ≤ k ∧ k < b + 300 := by
  unfold dyL at h
  obtain ⟨i, _, rfl⟩ := List.mem_map.mp h
  have := mx0 c (22 + (i : Int)) (m := 300) (by decide)
  have := mx1 c (22 + (i : Int)) (m := 300) (by decide)
  omega
theorem rl0 {c b : Int} (h : mx c 21 4 = 0) : rlOf c b = .dy (dyL c b) := if_pos h
theorem rl1 {c b : Int} (h : mx c 21 4 = 1) : rlOf c b = .ev (1 + mx c 32 120) (b + mx c 33 90) := by unfold rlOf; rw [if_neg (by omega), if_pos h]
theorem rl2 {c b : Int} (h : mx c 21 4 = 2) : rlOf c b = .wh (1 + mx c 34 70) (mx c 35 70) := by unfold rlOf; rw [if_neg (by omega), if_neg (by omega), if_pos h]
theorem rl3 {c b : Int} (h0 : mx c 21 4 ≠ 0) (h1 : mx c 21 4 ≠ 1) (h2 : mx c 21 4 ≠ 2) : rlOf c b = .nv := by unfold rlOf; rw [if_neg h0, if_neg h1, if_neg h2]
def sp_law_rule_by (A : RAd) (pt : Addr) : Sp := fun vs H Q _ => ∃ c b : Int, vs = [.int c, .int b] ∧ 0 ≤ b ∧ b ≤ 145000 ∧ TabW H pt ∧ ∀ x H', SameX pt H H' → TabW H' pt → RuleAt A H' x (rlOf c b) → Q (.ref x) H'

def lo40 (b : Int) : Int := if b - 40 > 0 then b - 40 else 0
def sp_law_falls_by : Sp := fun vs H Q _ => ∃ c b : Int, vs = [.int c, .int b] ∧ 0 ≤ b ∧ b ≤ 145000 ∧ ∀ D H', Same H H' → H D = none → H' D = some (.lst ((days (fl (rlOf c b)) (lo40 b) (b + 400)).map V.int)) → Q (.ref D) H'

theorem fl0 {c b : Int} (h : mx c 21 4 = 0) (d : Int) : fl (rlOf c b) d = decide (d ∈ dyL c b) := by rw [rl0 h]; rfl
theorem fl1 {c b : Int} (h : mx c 21 4 = 1) (d : Int) : fl (rlOf c b) d = (decide (b + mx c 33 90 ≤ d) && decide ((d - (b + mx c 33 90)) % (1 + mx c 32 120) = 0)) := by rw [rl1 h]; rfl
theorem fl2 {c b : Int} (h : mx c 21 4 = 2) (d : Int) : fl (rlOf c b) d = decide (d % (1 + mx c 34 70) = mx c 35 70) := by rw [rl2 h]; rfl
theorem fl3 {c b : Int} (h0 : mx c 21 4 ≠ 0) (h1 : mx c 21 4 ≠ 1) (h2 : mx c 21 4 ≠ 2) (d : Int) : fl (rlOf c b) d = false := by rw [rl3 h0 h1 h2]; rfl

def rowOf (mi o sh : Int) (fs : List Int) (k : Int) : Int × Int := (k * 1440 + mi, if k ∈ fs then o + sh else o)
def niF (fs : List Int) : V → Bool
  | .int k => !decide (k ∈ fs)
  | _ => false
def uniL (fs bs : List Int) : List Int := fs ++ bs.filter fun k => !decide (k ∈ fs)
def winP (b e k : Int) : Bool := decide (b ≤ k) && decide (k < e)
def Due (fs bs : List Int) (b e : Int) (ms : List Int) : Prop := ms.Pairwise (· < ·) ∧ ∀ k, k ∈ ms ↔ (k ∈ fs ∨ k ∈ bs) ∧ b ≤ k ∧ k < e
theorem niF_filter (fs bs : List Int) : (((bs.map V.int).filter (niF fs)).map id : List V) = (bs.filter fun k => !decide (k ∈ fs)).map V.int := by
  rw [List.map_id, List.filter_map]
  rfl
theorem uni_mem {fs bs : List Int} {k : Int} : k ∈ uniL fs bs ↔ (k ∈ fs ∨ k ∈ bs) := by
  unfold uniL
  rw [List.mem_append, List.mem_filter]
  constructor
  · exact fun h => h.elim .inl fun h => .inr h.1
  · intro h
    by_cases hk : k ∈ fs
    · exact .inl hk
    · exact .inr ⟨h.elim (fun w => absurd w hk) id, by rw [decide_eq_false hk]; rfl⟩
theorem uni_nodup {fs bs : List Int} (hf : fs.Pairwise (· < ·)) (hb : bs.Pairwise (· < ·)) : (uniL fs bs).Nodup := by
  unfold uniL
  rw [List.nodup_append]
  refine ⟨hf.imp fun h => by omega, (hb.imp fun h => by omega : bs.Nodup).filter _, fun x hx y hy e => ?_⟩
  subst e
  have h := (List.mem_filter.mp hy).2
  rw [decide_eq_true hx] at h
  cases h
theorem due_of {fs bs ms : List Int} {b e : Int} (hf : fs.Pairwise (· < ·)) (hb : bs.Pairwise (· < ·)) (hp : ms.Perm (uniL fs bs)) (hm : ms.Pairwise (· ≤ ·)) : Due fs bs b e (ms.filter (winP b e)) := by
  have hn : ms.Nodup := hp.nodup_iff.mpr (uni_nodup hf hb)
  have hr : ms.Pairwise (· < ·) := (hm.and (List.nodup_iff_pairwise_ne.mp hn)).imp fun h => by omega
  refine ⟨hr.filter _, fun k => ?_⟩
  rw [List.mem_filter, hp.mem_iff, uni_mem]
  unfold winP
  rw [Bool.and_eq_true, decide_eq_true_iff, decide_eq_true_iff]
structure Dv (kvs : List (Key × V)) (v : Int → Option Int) (n : Nat) : Prop where
  ns : ∃ ns : List Int, kvs.map (·.1) = ns.map Sum.inl ∧ ∀ x, x ∈ ns ↔ (v x).isSome = true
  val : ∀ x, valV kvs (Sum.inl x) = (v x).map V.int
  few : kvs.length ≤ n
theorem Dv.nil : Dv [] (fun _ => none) 0 := ⟨⟨[], rfl, fun _ => by simp⟩, fun _ => rfl, Nat.le_refl _⟩
theorem Dv.put {kvs : List (Key × V)} {v : Int → Option Int} {n : Nat} (h : Dv kvs v n) (x y : Int) : Dv (putK kvs (Sum.inl x) (.int y)) (fun z => if z = x then some y else v z) (n + 1) := by
  obtain ⟨ns, e1, e2⟩ := h.ns
  refine ⟨?_, fun z => ?_, Nat.le_trans (length_putK _ _ _) (Nat.succ_le_succ h.few)⟩
  · by_cases hx : (v x).isSome = true
    · refine ⟨ns, ?_, fun z => ?_⟩
      · rw [← e1]
        unfold putK
        split
        · rw [List.map_map]
          refine List.map_congr_left fun p _ => ?_
          show (if p.1 = Sum.inl x then (p.1, V.int y) else p).1 = p.1
          split <;> rfl
        · rename_i hn
          exfalso
          apply hn
          rw [valV_any, h.val]
          cases q : v x with
          | none => rw [q] at hx; cases hx
          | some _ => rfl
      · by_cases hz : z = x
        · subst hz
          rw [if_pos rfl, e2, hx]
          exact ⟨fun _ => rfl, fun _ => rfl⟩
        · rw [if_neg hz, e2]
    · have hn : v x = none := by
        cases q : v x with
        | none => rfl
        | some _ => rw [q] at hx; exact absurd rfl hx
      refine ⟨ns ++ [x], ?_, fun z => ?_⟩
      · rw [putK_new _ (by rw [h.val, hn]; rfl), List.map_append, List.map_append, e1]
        rfl
      · rw [List.mem_append, List.mem_singleton, e2]
        by_cases hz : z = x
        · subst hz
          rw [if_pos rfl]
          exact ⟨fun _ => rfl, fun _ => .inr rfl⟩
        · rw [if_neg hz]
          exact ⟨fun w => w.elim id (fun w => absurd w hz), .inl⟩
  · rw [valV_put]
    by_cases hz : z = x
    · subst hz
      rw [if_pos rfl, if_pos rfl]
      rfl
    · rw [if_neg (fun w => hz (Sum.inl.inj w)), if_neg hz]
      exact h.val z
theorem Dv.same {kvs : List (Key × V)} {v u : Int → Option Int} {n : Nat} (h : Dv kvs v n) (e : ∀ x, v x = u x) : Dv kvs u n := by
  obtain ⟨ns, e1, e2⟩ := h.ns
  exact ⟨⟨ns, e1, fun x => by rw [e2, e]⟩, fun x => by rw [h.val, e], h.few⟩
theorem take_snoc {α : Type} {l : List α} {i : Nat} {y : α} (h : l[i]? = some y) : l.take (i + 1) = l.take i ++ [y] := by rw [List.take_add_one, h]; rfl
def putL (l : List Int) (y : Int) (v : Int → Option Int) : Int → Option Int := fun z => if z ∈ l then some y else v z
theorem putL_snoc {l : List Int} {y : Int} {v : Int → Option Int} {i : Nat} {x : Int} (e : l[i]? = some x) (z : Int) : (if z = x then some y else putL (l.take i) y v z) = putL (l.take (i + 1)) y v z := by
  unfold putL
  rw [take_snoc e]
  by_cases hz : z = x
  · rw [if_pos hz, if_pos (List.mem_append_right _ (List.mem_singleton.mpr hz))]
  · rw [if_neg hz]
    by_cases h : z ∈ l.take i
    · rw [if_pos h, if_pos (List.mem_append_left _ h)]
    · rw [if_neg h, if_neg (fun w => (List.mem_append.mp w).elim h (fun w => hz (List.mem_singleton.mp w)))]
theorem putL_two {fs bs : List Int} {x y k : Int} : (putL fs x (putL bs y fun _ => none) k).isSome = true ↔ (k ∈ fs ∨ k ∈ bs) := by
  unfold putL
  by_cases h1 : k ∈ fs
  · rw [if_pos h1]; exact ⟨fun _ => .inl h1, fun _ => rfl⟩
  · rw [if_neg h1]
    by_cases h2 : k ∈ bs
    · rw [if_pos h2]; exact ⟨fun _ => .inr h2, fun _ => rfl⟩
    · rw [if_neg h2]; exact ⟨fun w => (nomatch w), fun w => w.elim (fun w => absurd w h1) (fun w => absurd w h2)⟩
theorem putL_val {fs bs : List Int} {x y k : Int} (h : k ∈ fs ∨ k ∈ bs) : putL fs x (putL bs y fun _ => none) k = some (if k ∈ fs then x else y) := by
  unfold putL
  by_cases h1 : k ∈ fs
  · rw [if_pos h1, if_pos h1]
  · rw [if_neg h1, if_neg h1, if_pos (h.elim (fun w => absurd w h1) id)]
def sp_law_due : Sp := fun vs H Q _ => ∃ (L0 L1 Lf : Addr) (fs bs : List Int) (o b e mi sh : Int), vs = [.ref Lf, .int o, .int b, .int e, .int mi, .int sh] ∧ H Lf = some (.lst [.ref L0, .ref L1]) ∧ H L0 = some (.lst (fs.map V.int)) ∧ H L1 = some (.lst (bs.map V.int)) ∧
  fs.Pairwise (· < ·) ∧ bs.Pairwise (· < ·) ∧ fs.length ≤ 1000 ∧ bs.length ≤ 1000 ∧
  ∀ (p : Addr) (rs : List RA) (ms : List Int) H', Same H H' → H' p = some (.tup (refs rs)) → RowOk H' rs → Due fs bs b e ms → sps rs = ms.map (rowOf mi o sh fs) → Q (.ref p) H'
theorem b01 (b : Bool) : -(2 ^ 64) < (if b = true then (1 : Int) else 0) ∧ (if b = true then (1 : Int) else 0) < 2 ^ 64 := by cases b <;> decide
theorem one_row (mi o sh : Int) (fs : List Int) (d : Int) : (d * 1440 + mi, o + sh * (if decide (d ∈ fs) = true then 1 else 0)) = rowOf mi o sh fs d := by
  unfold rowOf
  by_cases h : d ∈ fs
  · rw [if_pos h, if_pos (decide_eq_true h), Int.mul_one]
  · rw [if_neg h, if_neg (by rw [decide_eq_false h]; decide), Int.mul_zero, Int.add_zero]

def fR (mi o sh : Int) (fs : List Int) : V → Int × Int
  | .int k => rowOf mi o sh fs k
  | _ => (0, 0)
theorem due_len {fs bs ms : List Int} {b e : Int} (h : Due fs bs b e ms) : ms.length ≤ (e - b).toNat := by
  have := nd_len h.1 (ds := DR.rng b e) fun k hk => DR.rng_mem.mpr ((h.2 k).mp hk).2
  unfold DR.rng at this
  rwa [List.length_map, List.length_range] at this
theorem bds_due {cs : List RA} {ms fs : List Int} {mi o sh : Int} (hs : sps cs = ms.map (rowOf mi o sh fs)) (hr : ms.Pairwise (· < ·)) (hl : ms.length ≤ 400) (h1 : -780 ≤ o) (h2 : o ≤ 780) (h3 : 1 ≤ sh) (h4 : sh ≤ 120) : Bds cs := by
  have hl2 : cs.length = ms.length := by
    have := congrArg List.length hs
    rwa [sps_len, List.length_map] at this
  refine ⟨?_, by omega, fun c hc => ?_⟩
  · unfold DC.Rise DC.mom
    rw [hs, List.map_map, List.pairwise_map]
    exact hr.imp fun h => by show _ * 1440 + mi < _ * 1440 + mi; omega
  · rw [hs] at hc
    obtain ⟨k, _, rfl⟩ := List.mem_map.mp hc
    show -900 ≤ (if k ∈ fs then o + sh else o) ∧ (if k ∈ fs then o + sh else o) ≤ 900
    split <;> omega
def sp_place_by (A : RAd) (C : Addr) : Sp := fun vs H Q _ => ∃ (nm : Str) (o : Int) (fw bk : Addr) (b e mi sh : Int) (rf rb : Rl), vs = [.str nm, .int o, .ref fw, .ref bk, .int b, .int e, .int mi, .int sh] ∧ (nameB nm.cps.toList = true ∧ nm.length ≤ 8 ∧ -780 ≤ o ∧ o ≤ 780 ∧ 0 ≤ mi ∧ mi < 1440 ∧ 1 ≤ sh ∧ sh ≤ 120) ∧
  Wd (lo0 b) e ∧ e - lo0 b ≤ 400 ∧ RuleAt A H fw rf ∧ RuleAt A H bk rb ∧
  ∀ (x ch q : Addr) (cs : List RA) (ms : List Int) H', Same H H' → PlaceAt C H' x nm o ch q cs → Due (days (fl rf) (lo0 b) e) (days (fl rb) (lo0 b) e) (lo0 b) e ms → sps cs = ms.map (rowOf mi o sh (days (fl rf) (lo0 b) e)) → Q (.ref x) H'
def sp_law_changes_are : Sp := fun vs H Q _ => ∃ (p q : Addr) (rs ts : List RA), vs = [.ref p, .ref q] ∧ H p = some (.tup (refs rs)) ∧ H q = some (.tup (refs ts)) ∧ RowOk H rs ∧ RowOk H ts ∧ sps rs = sps ts ∧ rs.length ≤ 1000 ∧ ∀ H', Same H H' → Q (.bl true) H'
def sp_law_pair_is : Sp := fun vs H Q _ => ∃ (p : Addr) (d m l : Int), vs = [.ref p, .int l] ∧ H p = some (.tup [.int d, .int m]) ∧ 0 ≤ m ∧ m < 1440 ∧ d * 1440 + m = l ∧ Q (.bl true) H
theorem pair_eq (x : Int) : x / 1440 * 1440 + x % 1440 = x := by omega
theorem lo0_ge (b : Int) : b ≤ lo0 b ∧ 0 ≤ lo0 b := by unfold lo0; split <;> omega
theorem due_same {F G : Int → Bool} {f b e : Int} {ms ns : List Int} (h1 : f - 40 ≤ b) (h2 : e ≤ f + 400) (hm : Due (days F (lo0 b) e) (days G (lo0 b) e) (lo0 b) e ms) (hn : Due (days F (lo40 f) (f + 400)) (days G (lo40 f) (f + 400)) b e ns) : ms = ns ∧ ∀ mi o sh, ms.map (rowOf mi o sh (days F (lo0 b) e)) = ns.map (rowOf mi o sh (days F (lo40 f) (f + 400))) := by
  have hb : ∀ k, lo0 b ≤ k ↔ b ≤ k ∧ 0 ≤ k := fun k => by unfold lo0; split <;> omega
  have hf : ∀ k, lo40 f ≤ k ↔ f - 40 ≤ k ∧ 0 ≤ k := fun k => by unfold lo40; split <;> omega
  have e1 : ∀ k, b ≤ k → k < e → ∀ W : Int → Bool, (k ∈ days W (lo0 b) e ↔ k ∈ days W (lo40 f) (f + 400)) := fun k k1 k2 W => by
    rw [DR.days_mem, DR.days_mem, hb, hf]
    constructor
    · rintro ⟨⟨_, a⟩, _, c⟩
      exact ⟨⟨by omega, a⟩, by omega, c⟩
    · rintro ⟨⟨_, a⟩, _, c⟩
      exact ⟨⟨k1, a⟩, k2, c⟩
  have em : ms = ns := DR.rise_ext hm.1 hn.1 fun k => by
    rw [hm.2, hn.2]
    constructor
    · rintro ⟨a, c, d⟩
      have c' := (hb k).mp c
      exact ⟨a.imp (e1 k c'.1 d F).mp (e1 k c'.1 d G).mp, c'.1, d⟩
    · rintro ⟨a, c, d⟩
      have k0 : 0 ≤ k := a.elim (fun w => ((hf k).mp (DR.days_mem.mp w).1).2) (fun w => ((hf k).mp (DR.days_mem.mp w).1).2)
      exact ⟨a.imp (e1 k c d F).mpr (e1 k c d G).mpr, (hb k).mpr ⟨c, k0⟩, d⟩
  subst em
  refine ⟨rfl, fun mi o sh => List.map_congr_left fun k hk => ?_⟩
  have w := (hn.2 k).mp hk
  unfold rowOf
  by_cases z : k ∈ days F (lo0 b) e
  · rw [if_pos z, if_pos ((e1 k w.2.1 w.2.2 F).mp z)]
  · rw [if_neg z, if_neg (fun y => z ((e1 k w.2.1 w.2.2 F).mpr y))]

theorem seqX {K : PySem.W.Frag} {H H' : Hp} {pt c : Addr} {xs : List V} {tb : Array Value} (h : SqL K H c xs) (hp : H pt = some (.tbl tb)) (s : SameX pt H H') : SqL K H' c xs := by
  rcases h with (h | ⟨o, h⟩) | h
  · exact .inl (.inl (s _ _ (fun z => by rw [z, hp] at h; cases h) h))
  · exact .inl (.inr ⟨o, s _ _ (fun z => by rw [z, hp] at h; cases h) h⟩)
  · exact .inr h
theorem RuleAt.upL {A : RAd} {H : Hp} {x D : Addr} {r : Rl} {ys zs : List V} (h : RuleAt A H x r) (hD : H D = some (.lst ys)) : RuleAt A (upd H D (.lst zs)) x r := by
  have up : ∀ {c : Addr} {o : HO}, H c = some o → (∀ z, o ≠ .lst z) → upd H D (.lst zs) c = some o := fun {c o} e n => by
    rw [upd_ne (fun z => by rw [z, hD] at e; exact n _ (Option.some.inj e).symm)]
    exact e
  cases r with
  | nv => obtain ⟨dx, e⟩ := h; exact ⟨dx, up e (fun _ z => nomatch z)⟩
  | ev st fi => obtain ⟨b, dx, e⟩ := h; exact ⟨b, dx, up e (fun _ z => nomatch z)⟩
  | dy ds => obtain ⟨dx, d, ms, e, f, g⟩ := h; exact ⟨dx, d, ms, up e (fun _ z => nomatch z), up f (fun _ z => nomatch z), g⟩
  | wh st re =>
    obtain ⟨b, dx, f, e, cl, cd, L⟩ := h
    refine ⟨b, dx, f, up e (fun _ z => nomatch z), cl, cd, up (o := .ext _) L.at_ (fun _ z => nomatch z), up (o := .ext _) L.code (fun _ z => nomatch z), L.nd, L.len, fun i y z h1 h2 => ?_, fun p hp => ?_⟩
    · obtain ⟨c, e1, e2⟩ := L.has i y z h1 h2
      exact ⟨c, e1, up (o := .ext _) e2 (fun _ z => nomatch z)⟩
    · obtain ⟨z, e⟩ := L.all p hp
      exact ⟨z, up (o := .ext _) e (fun _ z => nomatch z)⟩
theorem tab_updL {H : Hp} {pt D : Addr} {ys zs : List V} (h : TabW H pt) (hD : H D = some (.lst ys)) : TabW (upd H D (.lst zs)) pt := by
  have up : ∀ {c : Addr} {o : HO}, H c = some o → (∀ z, o ≠ .lst z) → upd H D (.lst zs) c = some o := fun {c o} e n => by
    rw [upd_ne (fun z => by rw [z, hD] at e; exact n _ (Option.some.inj e).symm)]
    exact e
  rcases h with h | ⟨cd, h1, h2⟩
  · exact .inl (up h (fun _ z => nomatch z))
  · exact .inr ⟨cd, up h1 (fun _ z => nomatch z), up (o := .ext _) h2 (fun _ z => nomatch z)⟩
def sp_law (K : PySem.W.Frag) (pt : Addr) : Sp := fun vs H Q _ => ∃ (a : Addr) (ns : List Int), vs = [.ref a] ∧ SqL K H a (ns.map V.int) ∧ ns.length ≤ 63 ∧ H pt = some (.tbl #[]) ∧ ∀ H', Q (.bl true) H'
theorem look_n4 (u v x y : V) : List.lookup ("name" : Str) [("name", u), ("offset", v), ("changes", x), ("moments", y)] = some u := look_eq (by decide +kernel)
theorem look_o4 (u v x y : V) : List.lookup ("offset" : Str) [("name", u), ("offset", v), ("changes", x), ("moments", y)] = some v := by rw [look_ne (by decide +kernel), look_eq (by decide +kernel)]
theorem look_c4' (u v x y : V) : List.lookup ("changes" : Str) [("name", u), ("offset", v), ("changes", x), ("moments", y)] = some x := by rw [look_ne (by decide +kernel), look_ne (by decide +kernel), look_eq (by decide +kernel)]

end K35

namespace K35
open PySem L2
open DR (Rl fl days)
section
variable {P : Program} {w : World} {K : PySem.W.Frag} {mg : Str → Option Value} {base : Heap} {a : Adr}
theorem sc_is_made_of : FnScope ["text", "signs"] ["text", "signs"] (defScope s_is_made_of) := ⟨rfl, rfl, rfl, by decide +kernel, rfl, by decide +kernel, by decide +kernel⟩

theorem ok_is_made_of (T : TxtL K mg base a) : FnOk P w K mg base CX0 true 1 a.f_is_made_of a.d_is_made_of ["text", "signs"] (sp_is_made_of) := by
  refine T.F_is_made_of.ok sc_is_made_of (fun vs H Q E h => ?_) (fun cdv A outer s H vs Q E hr h => ?_)
  · obtain ⟨t, g, rfl, _⟩ := h; rfl
  · obtain ⟨t, g, rfl, hl, k⟩ := h
    refine ⟨_, (pss_one (ps_ret (pe_callB (call_allK (K := K) rfl rfl) rfl T.n_all (by decide +kernel) (pa_cons (pe_comp (N := ["sign", "signs"]) (cap := [none, some 1]) (by show CompScope (defScope s_is_made_of) _ ["text", "signs"] _ _; exact ⟨rfl, by decide +kernel, by decide +kernel, by decide +kernel, by decide +kernel, rfl, by decide +kernel⟩) rfl (pi_str (pv 0)) (fun C s H fp => ⟨(pg_name (i := 0) (by show (["sign", "signs"] : List Str).Nodup; decide +kernel) rfl (Or.inl rfl) (.inr rfl)), pf_none, (pe_cmpR op_in_chr (pv 0) (pv 1) (by with_unfolding_all rfl))⟩)) pa_nil)))), ?_⟩
    refine ⟨_, rfl, t, rfl, ?_⟩
    refine comp_pure (seq_str t H) (fun _ => true) (fun v => V.bl (match v with | .str y => decide (y.cps.toList.headD 0 ∈ g.cps.toList) | _ => false)) ?_ ?_ ?_ ?_
    · rw [List.length_map, Array.length_toList]
      exact Nat.le_trans hl (by decide)
    · exact fun x _ H' _ R hR => hR H' (Same.refl _)
    · intro x hx _ H' _ R hR
      obtain ⟨c, _, rfl⟩ := List.mem_map.mp hx
      exact ⟨_, rfl, _, rfl, c, g, rfl, rfl, hR H' (Same.refl _)⟩
    · intro D H' sm _ hD
      refine ⟨D, t.cps.toList.map fun c => decide (c ∈ g.cps.toList), rfl, SqL.of ?_, ?_⟩
      · rw [hD, List.filter_eq_self.mpr (fun _ _ => rfl), List.map_map, List.map_map]
        rfl
      · have := k H' sm
        rw [List.all_map]
        exact this
end
end K35

namespace K35
open PySem L2
open DR (Rl fl days)
section
variable {P : Program} {w : World} {K : PySem.W.Frag} {mg : Str → Option Value} {base : Heap} {a : Adr}
theorem sc_is_day : FnScope ["number"] ["number"] (defScope s_is_day) := ⟨rfl, rfl, rfl, by decide +kernel, rfl, by decide +kernel, by decide +kernel⟩

theorem ok_is_day (T : TxtL K mg base a) : FnOk P w K mg base CX0 true 1 a.f_is_day a.d_is_day ["number"] (sp_is_day) := by
  refine T.F_is_day.ok sc_is_day (fun vs H Q E h => ?_) (fun cdv A outer s H vs Q E hr h => ?_)
  · obtain ⟨d, rfl, _⟩ := h; rfl
  · obtain ⟨d, rfl, h0, h1, k⟩ := h
    refine ⟨_, (pss_one (ps_ret (pe_chain op_le op_lt pe_int (pv 0) (pe_globI rfl T.g_DAYS)))), ?_⟩
    refine ⟨_, rfl, _, _, rfl, rfl, _, rfl, ?_⟩
    refine ite2 (fun e => ?_) (fun e => absurd (decide_eq_true h0) e)
    refine ⟨_, _, rfl, rfl, ?_⟩
    show Q (V.bl (decide (d < 146097))) H
    rw [decide_eq_true h1]
    exact k
end
end K35

namespace K35
open PySem L2
open DR (Rl fl days)
section
variable {P : Program} {w : World} {K : PySem.W.Frag} {mg : Str → Option Value} {base : Heap} {a : Adr}
theorem sc_check_bounds : FnScope ["number", "least", "most"] ["number", "least", "most"] (defScope s_check_bounds) := ⟨rfl, rfl, rfl, by decide +kernel, rfl, by decide +kernel, by decide +kernel⟩

theorem ok_check_bounds (T : TxtL K mg base a) : FnOk P w K mg base CX0 true 1 a.f_check_bounds a.d_check_bounds ["number", "least", "most"] (sp_check_bounds) := by
  refine T.F_check_bounds.ok sc_check_bounds (fun vs H Q E h => ?_) (fun cdv A outer s H vs Q E hr h => ?_)
  · obtain ⟨n, l, m, rfl, _⟩ := h; rfl
  · obtain ⟨n, l, m, rfl, h0, h1, k⟩ := h
    refine ⟨_, (pss_one (ps_if (PW.pt (pw_or (pt_cmpR op_lt (pv 0) (pv 1) (nomark _)) (pw_or1 (pt_cmpR op_gt (pv 0) (pv 2) (nomark _))))) (pss_one ps_never) pss_nil)), ?_⟩
    refine ⟨_, rfl, _, rfl, _, _, rfl, rfl, _, rfl, ?_⟩
    refine ite2 (fun z => absurd (of_decide_eq_true z) (by omega)) (fun _ => ?_)
    refine ⟨_, rfl, _, rfl, _, _, rfl, rfl, _, rfl, ?_⟩
    exact ite2 (fun z => absurd (of_decide_eq_true z) (by omega)) (fun _ => k)
end
end K35

namespace K35
open PySem L2
open DR (Rl fl days)
section
variable {P : Program} {w : World} {K : PySem.W.Frag} {mg : Str → Option Value} {base : Heap} {a : Adr}
theorem sc_count_below : FnScope ["days", "number", "low", "high", "middle"] ["days", "number"] (defScope s_count_below) := ⟨rfl, rfl, rfl, by decide +kernel, rfl, by decide +kernel, by decide +kernel⟩

theorem ok_count_below (T : TxtL K mg base a) : FnOk P w K mg base CX0 true 1 a.f_count_below a.d_count_below ["days", "number"] (sp_count_below K) := by
  refine T.F_count_below.ok sc_count_below (fun vs H Q E h => ?_) (fun cdv A outer s H vs Q E hr h => ?_)
  · obtain ⟨p, ns, x, rfl, _⟩ := h; rfl
  · obtain ⟨p, ns, x, rfl, hS, hr1, hz, k⟩ := h
    refine ⟨_, (pss_cons (ps_set (i := 2) sc_count_below.nd rfl (Or.inl rfl) pe_int)
      (pss_cons (ps_set (i := 3) sc_count_below.nd rfl (Or.inl rfl) (pe_callB (call_len_seqK (K := K) rfl) rfl T.n_len (by decide +kernel) (pa_cons (pv 0) pa_nil)))
      (pss_cons (ps_while PassesOwn.never (pt_cmpR op_lt (pv 2) (pv 3) (nomark _)) (pss_cons (ps_set (i := 4) sc_count_below.nd rfl (Or.inl rfl) (pe_op op_fdiv (pe_op op_add (pv 2) (pv 3)) pe_int))
      (pss_one (ps_if (pt_cmpR op_lt (pe_ix (ix_tupK (K := K) rfl) (pv 0) (pv 4) (fun _ _ => rfl)) (pv 1) (nomark _)) (pss_one (ps_set (i := 2) sc_count_below.nd rfl (Or.inl rfl) (pe_op op_add (pv 4) pe_int))) (pss_one (ps_set (i := 3) sc_count_below.nd rfl (Or.inl rfl) (pv 4)))))))
      (pss_one (ps_ret (pv 2)))))), ?_⟩
    refine ⟨_, rfl, p, _, rfl, .inr hS, ?_⟩
    rw [List.length_map]
    refine ⟨fun m σ H' => H' = H ∧ ∃ (lo hi : Nat) (y : Option V), m = hi - lo ∧ lo ≤ hi ∧ hi ≤ ns.length ∧ (∀ (i : Nat) a, i < lo → ns[i]? = some a → a < x) ∧ (∀ (i : Nat) a, hi ≤ i → ns[i]? = some a → ¬ a < x) ∧ σ = [some (.ref p), some (.int x), some (.int (lo : Int)), some (.int (hi : Int)), y],
      ⟨_, rfl, 0, ns.length, none, rfl, Nat.zero_le _, Nat.le_refl _, fun i _ h => absurd h (Nat.not_lt_zero _), fun i a h e => by obtain ⟨z, _⟩ := List.getElem?_eq_some_iff.mp e; omega, rfl⟩, ?_⟩
    rintro m σ H1 ⟨rfl, lo, hi, y, rfl, h1, h2, h3, h4, rfl⟩
    refine ⟨_, rfl, _, rfl, _, _, rfl, rfl, _, rfl, ?_⟩
    refine ite2 (fun e => ?_) (fun e => ?_)
    · have e' : lo < hi := by have := of_decide_eq_true e; omega
      obtain ⟨a, ha⟩ := int_get (ns := ns) (i := (lo + hi) / 2) (by omega)
      refine ⟨fun σ' H' => H' = H1 ∧ ∃ (lo' hi' : Nat) (y : Option V), hi' - lo' < hi - lo ∧ lo' ≤ hi' ∧ hi' ≤ ns.length ∧ (∀ (i : Nat) a, i < lo' → ns[i]? = some a → a < x) ∧ (∀ (i : Nat) a, hi' ≤ i → ns[i]? = some a → ¬ a < x) ∧ σ' = [some (.ref p), some (.int x), some (.int (lo' : Int)), some (.int (hi' : Int)), y], ?_, ?_⟩
      · rintro σ' H' ⟨rfl, lo', hi', y, l1, l2, l3, l4, l5, rfl⟩
        exact ⟨hi' - lo', l1, rfl, lo', hi', y, rfl, l2, l3, l4, l5, rfl⟩
      refine ⟨_, rfl, _, rfl, _, _, rfl, rfl, _, _, rfl, rfl, ⟨by decide, by decide⟩, ?_⟩
      have A1 : atI (ns.map V.int) (((lo : Int) + (hi : Int)) / 2) = some (.int a) := by rw [half]; exact atI_nat (ints_at ha)
      have E1 : ((lo : Int) + (hi : Int)) / 2 = (((lo + hi) / 2 : Nat) : Int) := half
      have E2 : ((lo : Int) + (hi : Int)) / 2 + 1 = (((lo + hi) / 2 + 1 : Nat) : Int) := by omega
      refine ⟨_, rfl, _, rfl, p, _, _, _, rfl, rfl, hS, A1, _, rfl, _, _, rfl, rfl, _, rfl, ?_⟩
      refine ite2 (fun z => ?_) (fun z => ?_)
      · have z' := of_decide_eq_true z
        refine ⟨_, rfl, _, _, rfl, rfl, rfl, (lo + hi) / 2 + 1, hi, some (.int (((lo : Int) + (hi : Int)) / 2)), by omega, by omega, h2, fun i b hi' hb => ?_, h4, congrArg (fun (z : Int) => ([some (.ref p), some (.int x), some (.int z), some (.int (hi : Int)), some (.int (((lo : Int) + (hi : Int)) / 2))] : St)) E2⟩
        have := DC.rise_le hr1 hb ha (by omega)
        omega
      · have z' : ¬ a < x := fun w => z (decide_eq_true w)
        refine ⟨_, rfl, rfl, lo, (lo + hi) / 2, some (.int (((lo : Int) + (hi : Int)) / 2)), by omega, by omega, by omega, h3, fun i b hi' hb => ?_, congrArg (fun (z : Int) => ([some (.ref p), some (.int x), some (.int (lo : Int)), some (.int z), some (.int (((lo : Int) + (hi : Int)) / 2))] : St)) E1⟩
        have := DC.rise_le hr1 ha hb hi'
        omega
    · have e' : lo = hi := by
        have : ¬ (lo : Int) < (hi : Int) := fun w => e (decide_eq_true w)
        omega
      subst e'
      rw [DC.below_at h2 h3 h4] at k
      exact ⟨_, rfl, k⟩
end
end K35

namespace K35
open PySem L2
open DR (Rl fl days)
section
variable {P : Program} {w : World} {K : PySem.W.Frag} {mg : Str → Option Value} {base : Heap} {a : Adr}
theorem sc_Rule_next_in : FnScope ["self", "day", "end"] ["self", "day", "end"] (defScope s_Rule_next_in) := ⟨rfl, rfl, rfl, by decide +kernel, rfl, by decide +kernel, by decide +kernel⟩

theorem ok_Rule_next_in (T : TxtL K mg base a) : FnOk P w K mg base CX0 true 1 a.f_Rule_next_in a.d_Rule_next_in ["self", "day", "end"] (sp_Rule_next_in) := by
  refine T.F_Rule_next_in.ok sc_Rule_next_in (fun vs H Q E h => ?_) (fun cdv A outer s H vs Q E hr h => ?_)
  · obtain ⟨x, b, e, rfl, _⟩ := h; rfl
  · obtain ⟨x, b, e, rfl, k⟩ := h
    refine ⟨_, (pss_one (ps_ret pe_non)), ?_⟩
    exact k
end
end K35

namespace K35
open PySem L2
open DR (Rl fl days)
section
variable {P : Program} {w : World} {K : PySem.W.Frag} {mg : Str → Option Value} {base : Heap} {a : Adr}
theorem sc_Every_next_in : FnScope ["self", "day", "end", "begin", "found"] ["self", "day", "end"] (defScope s_Every_next_in) := ⟨rfl, rfl, rfl, by decide +kernel, rfl, by decide +kernel, by decide +kernel⟩

theorem ok_Every_next_in (T : TxtL K mg base a) : FnOk P w K mg base CX0 true 1 a.f_Every_next_in a.d_Every_next_in ["self", "day", "end"] (sp_Every_next_in (ad a)) := by
  refine T.F_Every_next_in.ok sc_Every_next_in (fun vs H Q E h => ?_) (fun cdv A outer s H vs Q E hr h => ?_)
  · obtain ⟨x, b, e, st, fi, rfl, _⟩ := h; rfl
  · obtain ⟨x, b, e, st, fi, rfl, ⟨⟨s1, s2, f0, f1⟩, dx, hx⟩, he, k1, k2⟩ := h
    refine ⟨_, (pss_cons (ps_set (i := 3) sc_Every_next_in.nd rfl (Or.inl rfl) (pe_callB (call_max2 rfl) rfl T.n_max (by decide +kernel) (pa_cons (pv 1) (pa_cons (pe_fldK (K := K) rfl (pv 0)) pa_nil))))
      (pss_cons (ps_set (i := 4) sc_Every_next_in.nd rfl (Or.inl rfl) (pe_op op_add (pv 3) (pe_op op_mod (pe_op op_sub (pe_fldK (K := K) rfl (pv 0)) (pv 3)) (pe_fldK (K := K) rfl (pv 0)))))
      (pss_one (ps_ret (pe_ifExp (pt_cmpR op_lt (pv 4) (pe_callB (call_min2 rfl) rfl T.n_min (by decide +kernel) (pa_cons (pv 2) (pa_cons (pe_globI rfl T.g_DAYS) pa_nil))) (nomark _)) (pv 4) pe_non))))), ?_⟩
    obtain ⟨n1, n2, n3⟩ := DR.ev_next (fi := fi) (b := b) (show 0 < st by omega)
    refine ⟨_, rfl, _, rfl, x, _, dx, _, _, rfl, hx, T.cl_Every, T.n_Every_first, fl_first _ _, _, _, rfl, ?_⟩
    refine ⟨_, rfl, _, rfl, x, _, dx, _, _, rfl, hx, T.cl_Every, T.n_Every_first, fl_first _ _, _, rfl, _, _, rfl, rfl, _, rfl, x, _, dx, _, _, rfl, hx, T.cl_Every, T.n_Every_step, fl_step _ _, _, _, rfl, rfl, (by show (0 : Int) < st; omega), _, _, rfl, rfl, ?_⟩
    refine ⟨_, rfl, _, rfl, _, _, rfl, ?_⟩
    rw [if_neg (show ¬ (146097 : Int) < e by omega)]
    refine ⟨_, _, rfl, rfl, _, rfl, ?_⟩
    exact ite2 (fun z => ⟨_, rfl, k1 _ n1 (of_decide_eq_true z) n2 n3⟩) (fun z => k2 fun k h1 h2 => n3 k h1 (by have : ¬ _ < e := fun w => z (decide_eq_true w); omega))
end
end K35

namespace K35
open PySem L2
open DR (Rl fl days)
section
variable {P : Program} {w : World} {K : PySem.W.Frag} {mg : Str → Option Value} {base : Heap} {a : Adr}
theorem sc_Where___init : FnScope ["self", "test"] ["self", "test"] (defScope s_Where___init) := ⟨rfl, rfl, rfl, by decide +kernel, rfl, by decide +kernel, by decide +kernel⟩

theorem ok_Where___init (T : TxtL K mg base a) : FnOk P w K mg base CX0 true 1 a.f_Where___init a.d_Where___init ["self", "test"] (sp_Where_init (ad a)) := by
  refine T.F_Where___init.ok sc_Where___init (fun vs H Q E h => ?_) (fun cdv A outer s H vs Q E hr h => ?_)
  · obtain ⟨x, dx, f, st, re, rfl, _⟩ := h; rfl
  · obtain ⟨x, dx, f, st, re, rfl, hx, s1, ⟨cl, cd, L⟩, k⟩ := h
    refine ⟨_, (pss_one (ps_fldK (K := K) rfl (pv 0) (pv 1))), ?_⟩
    refine ⟨_, rfl, _, rfl, x, _, dx, _, rfl, hx, T.cl_Where, T.n_Where_test, (by show 0 < 1000; decide), ?_⟩
    rw [pf_test]
    have sx : SameX x H (upd H x (.ins a.x_Where dx [(sT, .ref f)])) := fun c u hc e => by rw [upd_ne hc]; exact e
    refine k _ sx ⟨s1, dx, f, upd_same, cl, cd, ?_⟩
    have ne : ∀ {b : Addr} {φ : Heap → Prop}, H b = some (.ext φ) → b ≠ x := fun e z => by rw [z, hx] at e; cases e
    refine ⟨sx _ _ (ne (φ := _) L.at_) L.at_, sx _ _ (ne (φ := _) L.code) L.code, L.nd, L.len, fun i y z h1 h2 => ?_, fun p hp => ?_⟩
    · obtain ⟨c, e1, e2⟩ := L.has i y z h1 h2
      exact ⟨c, e1, sx _ _ (ne (φ := _) e2) e2⟩
    · obtain ⟨z, e⟩ := L.all p hp
      exact ⟨z, sx _ _ (ne (φ := _) e) e⟩
end
end K35

namespace K35
open PySem L2
open DR (Rl fl days)
section
variable {P : Program} {w : World} {K : PySem.W.Frag} {mg : Str → Option Value} {base : Heap} {a : Adr}
theorem sc_check_offset : FnScope ["offset"] ["offset"] (defScope s_check_offset) := ⟨rfl, rfl, rfl, by decide +kernel, rfl, by decide +kernel, by decide +kernel⟩

theorem ok_check_offset (T : TxtL K mg base a) : FnOk P w K mg base CX0 true 1 a.f_check_offset a.d_check_offset ["offset"] (sp_check_offset) := by
  refine T.F_check_offset.ok sc_check_offset (fun vs H Q E h => ?_) (fun cdv A outer s H vs Q E hr h => ?_)
  · obtain ⟨o, rfl, _⟩ := h; rfl
  · obtain ⟨o, rfl, h1, h2, k⟩ := h
    refine ⟨_, (pss_one (ps_if (PW.pt (pw_or (pt_cmpR op_lt (pv 0) (pe_un un_neg (pe_globI rfl T.g_MOST_OFFSET)) (nomark _)) (pw_or1 (pt_cmpR op_gt (pv 0) (pe_globI rfl T.g_MOST_OFFSET) (nomark _))))) (pss_one ps_never) pss_nil)), ?_⟩
    refine ⟨_, rfl, _, rfl, _, _, rfl, rfl, _, rfl, ?_⟩
    refine ite2 (fun z => absurd (of_decide_eq_true z) (by omega)) (fun _ => ?_)
    refine ⟨_, rfl, _, _, rfl, rfl, _, rfl, ?_⟩
    exact ite2 (fun z => absurd (of_decide_eq_true z) (by omega)) (fun _ => k)
end
end K35

namespace K35
open PySem L2
open DR (Rl fl days)
section
variable {P : Program} {w : World} {K : PySem.W.Frag} {mg : Str → Option Value} {base : Heap} {a : Adr}
theorem sc_offset_behind : FnScope ["place", "many"] ["place", "many"] (defScope s_offset_behind) := ⟨rfl, rfl, rfl, by decide +kernel, rfl, by decide +kernel, by decide +kernel⟩

theorem ok_offset_behind (T : TxtL K mg base a) : FnOk P w K mg base CX0 true 1 a.f_offset_behind a.d_offset_behind ["place", "many"] (sp_offset_behind a.x_Place) := by
  refine T.F_offset_behind.ok sc_offset_behind (fun vs H Q E h => ?_) (fun cdv A outer s H vs Q E hr h => ?_)
  · obtain ⟨x, nm, own, ch, ms, cs, m, rfl, _⟩ := h; rfl
  · obtain ⟨x, nm, own, ch, ms, cs, q, rfl, pl, hq, k⟩ := h
    obtain ⟨dx, ob⟩ := pl.ob
    refine ⟨_, (pss_one (ps_ret (pe_ifExp (pt_cmpR op_gt (pv 1) pe_int (nomark _)) (pe_ix (ix_tupK (K := K) rfl) (pe_ix (ix_tupK (K := K) rfl) (pe_fldK (K := K) rfl (pv 0)) (pe_op op_sub (pv 1) pe_int) (fun _ _ => rfl)) pe_int (fun _ _ => rfl)) (pe_fldK (K := K) rfl (pv 0))))), ?_⟩
    refine ⟨_, rfl, _, _, rfl, rfl, _, rfl, ?_⟩
    refine ite2 (fun z => ?_) (fun z => ?_)
    · have z' : (0 : Int) < (q : Int) := of_decide_eq_true z
      obtain ⟨j, rfl⟩ : ∃ j, q = j + 1 := ⟨q - 1, by omega⟩
      obtain ⟨y, hy⟩ := rs_get (rs := cs) (i := j) (by omega)
      have hyp := pl.ok y (List.mem_of_getElem? hy)
      rw [DC.off_succ (sps_at hy)] at k
      refine ⟨_, rfl, x, _, dx, _, _, rfl, ob, T.cl_Place, T.n_Place_changes, fl_ch _ _ _ _, _, rfl, _, _, rfl, rfl, ch, _, _, _, rfl, rfl, SqT.of pl.ch, ?_, y.1, _, _, _, rfl, rfl, SqT.of hyp, rfl, k⟩
      rw [show (((j + 1 : Nat) : Int)) - 1 = ((j : Nat) : Int) by omega]
      exact atI_nat (refs_at hy)
    · have z' : ¬ (0 : Int) < (q : Int) := fun w => z (decide_eq_true w)
      obtain rfl : q = 0 := by omega
      rw [DC.off_zero] at k
      exact ⟨_, rfl, x, _, dx, _, _, rfl, ob, T.cl_Place, T.n_Place_offset, fl_off _ _ _ _, k⟩
end
end K35

namespace K35
open PySem L2
open DR (Rl fl days)
section
variable {P : Program} {w : World} {K : PySem.W.Frag} {mg : Str → Option Value} {base : Heap} {a : Adr}
theorem sc_check_put : FnScope ["minute", "shift"] ["minute", "shift"] (defScope s_check_put) := ⟨rfl, rfl, rfl, by decide +kernel, rfl, by decide +kernel, by decide +kernel⟩

theorem ok_check_put (T : TxtL K mg base a) : FnOk P w K mg base CX0 true 1 a.f_check_put a.d_check_put ["minute", "shift"] (sp_check_put) := by
  refine T.F_check_put.ok sc_check_put (fun vs H Q E h => ?_) (fun cdv A outer s H vs Q E hr h => ?_)
  · obtain ⟨mi, sh, rfl, _⟩ := h; rfl
  · obtain ⟨mi, sh, rfl, m0, m1, s0, s1, k⟩ := h
    refine ⟨_, (pss_cons (ps_if (PW.pt (pw_or (pt_cmpR op_lt (pv 0) pe_int (nomark _)) (pw_or1 (pt_cmpR op_ge (pv 0) (pe_globI rfl T.g_DAY_MINUTES) (nomark _))))) (pss_one ps_never) pss_nil)
      (pss_one (ps_if (PW.pt (pw_or (pt_cmpR op_lt (pv 1) pe_int (nomark _)) (pw_or1 (pt_cmpR op_gt (pv 1) (pe_globI rfl T.g_MOST_SHIFT) (nomark _))))) (pss_one ps_never) pss_nil))), ?_⟩
    refine ⟨_, rfl, _, _, rfl, rfl, _, rfl, ?_⟩
    refine ite2 (fun z => absurd (of_decide_eq_true z) (by omega)) (fun _ => ?_)
    refine ⟨_, rfl, _, _, rfl, rfl, _, rfl, ?_⟩
    refine ite2 (fun z => absurd (of_decide_eq_true z) (by omega)) (fun _ => ?_)
    refine ⟨_, rfl, _, _, rfl, rfl, _, rfl, ?_⟩
    refine ite2 (fun z => absurd (of_decide_eq_true z) (by omega)) (fun _ => ?_)
    refine ⟨_, rfl, _, _, rfl, rfl, _, rfl, ?_⟩
    exact ite2 (fun z => absurd (of_decide_eq_true z) (by omega)) (fun _ => k)
end
end K35

namespace K35
open PySem L2
open DR (Rl fl days)
section
variable {P : Program} {w : World} {K : PySem.W.Frag} {mg : Str → Option Value} {base : Heap} {a : Adr}
theorem sc_law_cell_at : FnScope ["_law_script", "_law_k"] ["_law_script", "_law_k"] (defScope s_law_cell_at) := ⟨rfl, rfl, rfl, by decide +kernel, rfl, by decide +kernel, by decide +kernel⟩

theorem ok_law_cell_at (T : TxtL K mg base a) : FnOk P w K mg base CX0 true 1 a.f_law_cell_at a.d_law_cell_at ["_law_script", "_law_k"] (sp_law_cell_at K) := by
  refine T.F_law_cell_at.ok sc_law_cell_at (fun vs H Q E h => ?_) (fun cdv A outer s H vs Q E hr h => ?_)
  · obtain ⟨p, ns, i, rfl, _⟩ := h; rfl
  · obtain ⟨p, ns, i, rfl, hS, h0, k⟩ := h
    refine ⟨_, (pss_cons (ps_if (pt_cmpR op_lt (pv 1) (pe_callB (call_len_seqK (K := K) rfl) rfl T.n_len (by decide +kernel) (pa_cons (pv 0) pa_nil)) (nomark _)) (pss_one (ps_ret (pe_ix (ix_listK (K := K) rfl) (pv 0) (pv 1) (fun _ _ => rfl)))) pss_nil)
      (pss_one (ps_ret pe_int))), ?_⟩
    refine ⟨_, rfl, _, rfl, p, _, rfl, .inl hS, _, _, rfl, rfl, _, rfl, ?_⟩
    refine ite2 (fun e1 => ?_) (fun e1 => k 0)
    have e1' := of_decide_eq_true e1
    rw [List.length_map] at e1'
    obtain ⟨t, _, et⟩ := atI_ints h0 e1'
    exact ⟨_, rfl, _, rfl, p, _, _, _, rfl, rfl, hS, et, k t⟩
end
end K35

namespace K35
open PySem L2
open DR (Rl fl days)
section
variable {P : Program} {w : World} {K : PySem.W.Frag} {mg : Str → Option Value} {base : Heap} {a : Adr}
theorem sc_law_whole : FnScope ["_law_found"] ["_law_found"] (defScope s_law_whole) := ⟨rfl, rfl, rfl, by decide +kernel, rfl, by decide +kernel, by decide +kernel⟩

theorem ok_law_whole (T : TxtL K mg base a) : FnOk P w K mg base CX0 true 1 a.f_law_whole a.d_law_whole ["_law_found"] (sp_law_whole) := by
  refine T.F_law_whole.ok sc_law_whole (fun vs H Q E h => ?_) (fun cdv A outer s H vs Q E hr h => ?_)
  · obtain ⟨i, rfl, _⟩ := h; rfl
  · obtain ⟨i, rfl, k⟩ := h
    refine ⟨_, (pss_one (ps_ret (pe_and (pe_callB (call_isinstK (K := K) rfl) rfl T.n_isinstance (by decide +kernel) (pa_cons (pv 0) (pa_cons (pe_bltn (v := .ty "int") rfl T.n_int (by decide +kernel) rfl) pa_nil))) (pe_one (pe_not (pe_callB (call_isinstK (K := K) rfl) rfl T.n_isinstance (by decide +kernel) (pa_cons (pv 0) (pa_cons (pe_bltn (v := .ty "bool") rfl T.n_bool (by decide +kernel) rfl) pa_nil)))))))), ?_⟩
    refine ⟨_, rfl, _, _, _, _, rfl, TyOf.int _, rfl, _, rfl, iteT ?_⟩
    exact ⟨_, rfl, _, _, _, _, rfl, TyOf.int _, rfl, _, rfl, k⟩
end
end K35

namespace K35
open PySem L2
open DR (Rl fl days)
section
variable {P : Program} {w : World} {K : PySem.W.Frag} {mg : Str → Option Value} {base : Heap} {a : Adr}
theorem sc_law_mixed : FnScope ["_law_cell", "_law_k", "_law_many", "_law_made"] ["_law_cell", "_law_k", "_law_many"] (defScope s_law_mixed) := ⟨rfl, rfl, rfl, by decide +kernel, rfl, by decide +kernel, by decide +kernel⟩

theorem ok_law_mixed (T : TxtL K mg base a) : FnOk P w K mg base CX0 true 1 a.f_law_mixed a.d_law_mixed ["_law_cell", "_law_k", "_law_many"] (sp_law_mixed) := by
  refine T.F_law_mixed.ok sc_law_mixed (fun vs H Q E h => ?_) (fun cdv A outer s H vs Q E hr h => ?_)
  · obtain ⟨c, k, m, rfl, _⟩ := h; rfl
  · obtain ⟨c, q, m, rfl, q0, q1, hm, k⟩ := h
    refine ⟨_, (pss_cons (ps_set (i := 3) sc_law_mixed.nd rfl (Or.inl rfl) (pe_op op_mod (pe_op op_add (pe_op op_add (pe_op op_add (pe_op op_mul (pv 0) pe_int) (pe_op op_mul (pe_op op_mul pe_int (pv 1)) (pv 1))) (pe_op op_mul pe_int (pv 1))) pe_int) pe_int))
      (pss_one (ps_ret (pe_op op_mod (pe_op op_mod (pe_op op_mul (pv 3) (pe_op op_add (pe_op op_add (pv 3) (pe_op op_mul pe_int (pv 1))) pe_int)) pe_int) (pv 2))))), ?_⟩
    have k' := k (mx c q m) (mx0 c q hm) (mx1 c q hm) rfl
    unfold mx at k'
    refine ⟨_, rfl, _, _, rfl, rfl, .inr ⟨by decide, by decide⟩, _, rfl, _, _, rfl, rfl, .inl ⟨by decide, by decide⟩, _, rfl, _, _, rfl, rfl, .inr ⟨by omega, by omega⟩, _, _, rfl, rfl, _, rfl, _, _, rfl, rfl, .inl ⟨by decide, by decide⟩, _, _, rfl, rfl, _, _, rfl, rfl, _, _, rfl, rfl, (by show (0 : Int) < 2147483647; decide), ?_⟩
    clear k
    generalize (c * 48271 + 7919 * q * q + 31 * q + 5) = big at k'
    have b0 : 0 ≤ big % 2147483647 := Int.emod_nonneg _ (by decide)
    have b1 : big % 2147483647 < 2147483647 := Int.emod_lt_of_pos _ (by decide)
    exact ⟨_, rfl, _, rfl, _, rfl, _, _, rfl, rfl, .inl ⟨by decide, by decide⟩, _, _, rfl, rfl, _, _, rfl, rfl, _, _, rfl, rfl, .inl ⟨by omega, by omega⟩, _, _, rfl, rfl, (by show (0 : Int) < 1000000007; decide), _, rfl, _, _, rfl, rfl, hm, k'⟩
end
end K35

namespace K35
open PySem L2
open DR (Rl fl days)
section
variable {P : Program} {w : World} {K : PySem.W.Frag} {mg : Str → Option Value} {base : Heap} {a : Adr}
theorem sc_law_offset_of : FnScope ["_law_own", "_law_changes", "_law_moment", "_law_k"] ["_law_own", "_law_changes", "_law_moment"] (defScope s_law_offset_of) := ⟨rfl, rfl, rfl, by decide +kernel, rfl, by decide +kernel, by decide +kernel⟩

theorem ok_law_offset_of (T : TxtL K mg base a) : FnOk P w K mg base CX0 true 1 a.f_law_offset_of a.d_law_offset_of ["_law_own", "_law_changes", "_law_moment"] (sp_law_offset_of) := by
  refine T.F_law_offset_of.ok sc_law_offset_of (fun vs H Q E h => ?_) (fun cdv A outer s H vs Q E hr h => ?_)
  · obtain ⟨own, m, p, cs, rfl, _⟩ := h; rfl
  · obtain ⟨own, m, p, cs, rfl, hp, hok, hri, hz, k⟩ := h
    refine ⟨_, (pss_cons (ps_for PassesOwn.never rfl (pi_range1 rfl T.n_range (pa_cons (pe_callB (call_len_seqK (K := K) rfl) rfl T.n_len (by decide +kernel) (pa_cons (pv 1) pa_nil)) pa_nil)) (pg_name (i := 3) sc_law_offset_of.nd rfl (Or.inl rfl)) (pss_one (ps_if (pt_cmpR op_le (pe_ix (ix_tupK (K := K) rfl) (pe_ix (ix_tupK (K := K) rfl) (pv 1) (pe_op op_sub (pe_op op_sub (pe_callB (call_len_seqK (K := K) rfl) rfl T.n_len (by decide +kernel) (pa_cons (pv 1) pa_nil)) pe_int) (pv 3)) (fun _ _ => rfl)) pe_int (fun _ _ => rfl)) (pv 2) (nomark _)) (pss_one (ps_ret (pe_ix (ix_tupK (K := K) rfl) (pe_ix (ix_tupK (K := K) rfl) (pv 1) (pe_op op_sub (pe_op op_sub (pe_callB (call_len_seqK (K := K) rfl) rfl T.n_len (by decide +kernel) (pa_cons (pv 1) pa_nil)) pe_int) (pv 3)) (fun _ _ => rfl)) pe_int (fun _ _ => rfl)))) pss_nil)))
      (pss_one (ps_ret (pv 0)))), ?_⟩
    refine ⟨_, rfl, p, _, rfl, .inr (SqT.of hp), (cs.length : Int), by rw [refs_len], by omega, by omega, ?_⟩
    refine for_range (n := cs.length) (fun i σ H' => H' = H ∧ (∀ (j : Nat) d, cs.length - i ≤ j → (sps cs)[j]? = some d → ¬ d.1 ≤ m) ∧ ∃ x, σ = [some (.int own), some (.ref p), some (.int m), x]) ⟨rfl, fun j d h e => ?_, _, rfl⟩ ?_ ?_
    · obtain ⟨z, _⟩ := List.getElem?_eq_some_iff.mp e
      rw [sps_len] at z
      omega
    · rintro i σ H1 hi ⟨rfl, hgt, x1, rfl⟩
      obtain ⟨y, hy⟩ := rs_get (rs := cs) (i := cs.length - 1 - i) (by omega)
      have hyp := hok y (List.mem_of_getElem? hy)
      have A1 : atI (refs cs) (((refs cs).length : Int) - 1 - (0 + (i : Int))) = some (.ref y.1) := by
        rw [refs_len, show ((cs.length : Int) - 1 - (0 + (i : Int))) = ((cs.length - 1 - i : Nat) : Int) by omega]
        exact atI_nat (refs_at hy)
      refine ⟨_, rfl, _, rfl, p, _, rfl, .inr (SqT.of hp), _, _, rfl, rfl, _, rfl, _, _, rfl, rfl, p, _, _, _, rfl, rfl, SqT.of hp, A1, y.1, _, _, _, rfl, rfl, SqT.of hyp, rfl, _, rfl, _, _, rfl, rfl, _, rfl, ?_⟩
      refine ite2 (fun z => ?_) (fun z => ⟨rfl, fun j d hj e => ?_, _, rfl⟩)
      · have e := DC.cnt_last hri (sps_at hy) (of_decide_eq_true z) (fun j d hj e => hgt j d (by omega) e)
        unfold DC.offAt at k
        rw [e, DC.off_succ (sps_at hy)] at k
        exact ⟨_, rfl, _, rfl, p, _, rfl, .inr (SqT.of hp), _, _, rfl, rfl, _, rfl, _, _, rfl, rfl, p, _, _, _, rfl, rfl, SqT.of hp, A1, y.1, _, _, _, rfl, rfl, SqT.of hyp, rfl, k⟩
      · by_cases hj' : cs.length - i ≤ j
        · exact hgt j d hj' e
        · obtain rfl : j = cs.length - 1 - i := by omega
          rw [sps_at hy] at e
          cases e
          exact fun w => z (decide_eq_true w)
    · rintro σ H1 ⟨rfl, hgt, x1, rfl⟩
      have e := DC.cnt_none hri (fun j d e => hgt j d (by omega) e)
      unfold DC.offAt at k
      rw [e, DC.off_zero] at k
      exact ⟨_, rfl, k⟩
end
end K35

namespace K35
open PySem L2
open DR (Rl fl days)
section
variable {P : Program} {w : World} {K : PySem.W.Frag} {mg : Str → Option Value} {base : Heap} {a : Adr}
theorem sc_law_where : FnScope ["_law_step", "_law_rest"] ["_law_step", "_law_rest"] (defScope s_law_where) := ⟨rfl, rfl, rfl, by decide +kernel, rfl, by decide +kernel, by decide +kernel⟩

theorem ok_law_where (T : TxtL K mg base a) : FnOk P w K mg base CX0 true 1 a.f_law_where a.d_law_where ["_law_step", "_law_rest"] (sp_law_where a.pt_law_where) := by
  refine T.F_law_where.okC sc_law_where T.lc_law_where (fun vs H Q E h => ?_) (fun A outer s H vs Q E hr h => ?_)
  · obtain ⟨st, re, rfl, _⟩ := h; rfl
  · obtain ⟨st, re, rfl, ht, k⟩ := h
    refine ⟨_, (pss_one (ps_ret (pe_lam T.L_law_where rfl))), ?_⟩
    have key := lam_made2 (H := H) (P := a.pt_law_where) (pos := lamPos lam_law_where) (q := q_law_where) (ps := lamArgs lam_law_where) (b := lamBody lam_law_where) (sc := lamScope lam_law_where) (x1 := "_law_rest") (x2 := "_law_step") (c1 := s.heap.objs.size + 1 + 1) (c2 := s.heap.objs.size + 1) (z1 := .int re) (z2 := .int st) (Q := Q)
      (L := [(1, ("_law_rest" : Str), s.heap.objs.size + 1 + 1, .int re), (0, ("_law_step" : Str), s.heap.objs.size + 1, .int st)]) (fun _ => rfl) ⟨by simp, by simp⟩ (Nat.succ_ne_self _) (by decide +kernel) ht (fun f cl cd H' s1 t1 L1 => k f H' s1 t1 ⟨cl, cd, L1⟩)
    have nd : ([s.heap.objs.size + 1 + 1, s.heap.objs.size + 1] : List Addr).Nodup := by simp
    have facts : ∀ p ∈ ([(1, ("_law_rest" : Str), s.heap.objs.size + 1 + 1, .int re), (0, ("_law_step" : Str), s.heap.objs.size + 1, .int st)] : List (Nat × Str × Addr × V)), (["_law_step", "_law_rest"] : List Str)[p.1]? = some p.2.1 ∧ (start ["_law_step", "_law_rest"] [V.int st, V.int re])[p.1]? = some (some p.2.2.2) ∧ (cellsFrom (s.heap.objs.size + 1) (defScope s_law_where).names []).lookup p.2.1 = some p.2.2.1 ∧ (defScope s_law_where).names.lookup p.2.1 = some .cell := by
        intro p hp
        rcases List.mem_cons.mp hp with rfl | hp
        · exact ⟨rfl, rfl, rfl, rfl⟩
        · rw [List.mem_singleton] at hp
          subst hp
          exact ⟨rfl, rfl, rfl, rfl⟩
    exact ⟨ht, fun e f cd nf nc ne => ⟨[(1, ("_law_rest" : Str), s.heap.objs.size + 1 + 1, .int re), (0, ("_law_step" : Str), s.heap.objs.size + 1, .int st)], facts, nd, key.1 e f cd nf nc ne⟩, fun cd e f nf => ⟨[(1, ("_law_rest" : Str), s.heap.objs.size + 1 + 1, .int re), (0, ("_law_step" : Str), s.heap.objs.size + 1, .int st)], facts, nd, key.2 cd e f nf⟩⟩
end
end K35

namespace K35
open PySem L2
open DR (Rl fl days)
section
variable {P : Program} {w : World} {K : PySem.W.Frag} {mg : Str → Option Value} {base : Heap} {a : Adr}
theorem sc_law_due : FnScope ["_law_falls", "_law_offset", "_law_begin", "_law_end", "_law_minute", "_law_shift", "_law_row", "_law_day"] ["_law_falls", "_law_offset", "_law_begin", "_law_end", "_law_minute", "_law_shift"] (defScope s_law_due) := ⟨rfl, rfl, rfl, by decide +kernel, rfl, by decide +kernel, by decide +kernel⟩

theorem ok_law_due (T : TxtL K mg base a) : FnOk P w K mg base CX0 true 1 a.f_law_due a.d_law_due ["_law_falls", "_law_offset", "_law_begin", "_law_end", "_law_minute", "_law_shift"] (sp_law_due) := by
  refine T.F_law_due.ok sc_law_due (fun vs H Q E h => ?_) (fun cdv A outer s H vs Q E hr h => ?_)
  · obtain ⟨L0, L1, Lf, fs, bs, o, b, e, mi, sh, rfl, _⟩ := h; rfl
  · obtain ⟨L0, L1, Lf, fs, bs, o, b, e, mi, sh, rfl, hLf, hL0, hL1, rf, rb, zf, zb, k⟩ := h
    refine ⟨_, (pss_cons (ps_set (i := 6) sc_law_due.nd rfl (Or.inl rfl) (pe_lst pa_nil))
      (pss_cons (ps_for PassesOwn.never rfl (pi_listK (K := K) rfl (pe_callB call_sortedIB rfl T.n_sorted (by decide +kernel) (pa_cons (pe_op op_cat (pe_ix (ix_listK (K := K) rfl) (pv 0) pe_int (fun _ _ => rfl)) (pe_comp (N := ["_law_day", "_law_falls"]) (cap := [none, some 0]) (by show CompScope (defScope s_law_due) _ ["_law_falls", "_law_offset", "_law_begin", "_law_end", "_law_minute", "_law_shift", "_law_row", "_law_day"] _ _; exact ⟨rfl, by decide +kernel, by decide +kernel, by decide +kernel, by decide +kernel, rfl, by decide +kernel⟩) rfl (pi_listK (K := K) rfl (pe_ix (ix_listK (K := K) rfl) (pv 0) pe_int (fun _ _ => rfl))) (fun C s H fp => ⟨(pg_name (i := 0) (by show (["_law_day", "_law_falls"] : List Str).Nodup; decide +kernel) rfl (Or.inl rfl) (.inr rfl)), (pf_one (pt_cmpR (op_notIn_seqK (K := K) rfl) (pv 0) (pe_ix (ix_listK (K := K) rfl) (pv 1) pe_int (fun _ _ => rfl)) (by with_unfolding_all rfl))), (pv 0)⟩))) pa_nil))) (pg_name (i := 7) sc_law_due.nd rfl (Or.inl rfl)) (pss_one (ps_if (PW.pt (pw_and (pt_cmpR op_le (pv 2) (pv 7) (nomark _)) (pw_and1 (pt_cmpR op_lt (pv 7) (pv 3) (nomark _))))) (pss_one (ps_expr (pe_bm PySem.F.plainAttrs_list PySem.F.slot_list_append PySem.F.type_list_append mt_append (pv 6) (pa_cons (pe_tup (pa_cons (pe_op op_add (pe_op op_mul (pv 7) pe_int) (pv 4)) (pa_cons (pe_op op_add (pv 1) (pe_op op_mul (pv 5) (pe_callTy call_int1 rfl T.n_int (by decide +kernel) (pa_cons (pe_cmpR (op_in_seqK (K := K) rfl) (pv 7) (pe_ix (ix_listK (K := K) rfl) (pv 0) pe_int (fun _ _ => rfl)) (by with_unfolding_all rfl)) pa_nil)))) pa_nil))) pa_nil)))) pss_nil)))
      (pss_one (ps_ret (pe_callTy (call_tuple_ofK (K := K) rfl) rfl T.n_tuple (by decide +kernel) (pa_cons (pv 6) pa_nil)))))), ?_⟩
    refine ⟨(by show 0 ≤ sizeLine; decide), fun R hR => ?_⟩
    have u1 := same_upd (o := .lst []) hR
    have allf : (fs.map V.int).all flatV = true := by rw [List.all_map]; exact List.all_eq_true.mpr fun _ _ => rfl
    have hR1 : (upd H R (.lst [])) R = some (.lst []) := upd_same
    generalize upd H R (.lst []) = H1 at *
    refine ⟨_, rfl, Lf, _, _, _, rfl, rfl, SqL.of (u1 _ _ hLf), rfl, _, rfl, Lf, _, _, _, rfl, rfl, SqL.of (u1 _ _ hLf), rfl, L1, rfl, ⟨_, SqL.of (u1 _ _ hL1)⟩, ?_⟩
    refine comp_pure (seq_list (K := K) (SqL.of (u1 _ _ hL1))) (niF fs) id (by rw [List.length_map]; omega) ?_ ?_ (fun D1 H2 s2 hD10 hD1 => ?_)
    · intro x hx H' sm R' hR'
      obtain ⟨d, hd, rfl⟩ := List.mem_map.mp hx
      have h1 := u1.trans sm
      refine ⟨_, rfl, _, rfl, Lf, _, _, _, rfl, rfl, SqL.of (h1 _ _ hLf), rfl, L0, _, rfl, .inl (SqL.of (h1 _ _ hL0)), rfl, allf, _, rfl, ?_⟩
      have z := hR' H' (Same.refl _)
      show R' (!inV (.int d) (fs.map V.int)) H'
      rw [inV_ints]
      exact z
    · intro x hx _ H' sm R' hR'
      exact ⟨_, rfl, hR' H' (Same.refl _)⟩
    rw [niF_filter] at hD1
    have S2 := u1.trans s2
    refine ⟨L0, D1, _, _, rfl, rfl, S2 _ _ hL0, hD1, ?_, fun p hp => ?_⟩
    · rw [List.length_map, List.length_map]
      have := List.length_filter_le (fun k => !decide (k ∈ fs)) bs
      exact Nat.le_trans (by omega : _ ≤ 2000) (by decide)
    have hpp : (upd H2 p (.lst (fs.map V.int ++ (bs.filter fun k => !decide (k ∈ fs)).map V.int))) p = some (.lst ((uniL fs bs).map V.int)) := by rw [upd_same]; unfold uniL; rw [List.map_append]
    have u3 := same_upd (o := .lst (fs.map V.int ++ (bs.filter fun k => !decide (k ∈ fs)).map V.int)) hp
    generalize upd H2 p (.lst (fs.map V.int ++ (bs.filter fun k => !decide (k ∈ fs)).map V.int)) = H3 at *
    refine ⟨p, _, rfl, hpp, fun D ms hD hpm hle => ?_⟩
    have u4 := same_upd (o := .lst (ms.map V.int)) hD
    have hDD : (upd H3 D (.lst (ms.map V.int))) D = some (.lst (ms.map V.int)) := upd_same
    have hR3 := u3 _ _ (s2 _ _ hR1)
    have nDR : D ≠ R := fun z => by rw [z, hR3] at hD; cases hD
    have hlm : ms.length ≤ 2000 := by
      rw [hpm.length_eq]
      unfold uniL
      rw [List.length_append]
      have := List.length_filter_le (fun k => !decide (k ∈ fs)) bs
      omega
    have S4 := (S2.trans u3).trans u4
    have hR4 := u4 _ _ hR3
    generalize upd H3 D (.lst (ms.map V.int)) = H4 at *
    refine ⟨D, rfl, ⟨_, SqL.of hDD⟩, ?_⟩
    refine for_list (K := K) (xs := ms.map V.int) (fun i σ H' => SameX R H4 H' ∧ ∃ rs, RowAt H' R rs ∧ sps rs = ((ms.take i).filter (winP b e)).map (rowOf mi o sh fs) ∧ ∃ x, σ = [some (.ref Lf), some (.int o), some (.int b), some (.int e), some (.int mi), some (.int sh), some (.ref R), x]) ⟨SameX.refl _ _, [], ⟨hR4, RowOk.nil⟩, rfl, _, rfl⟩ (fun _ _ _ _ h => SqL.of (h.1 _ _ nDR hDD)) ?_ ?_
    · rintro i x σ H5 hx ⟨sx, rs, hrs, hsp, y, rfl⟩
      rw [List.getElem?_map] at hx
      obtain ⟨d, hd, rfl⟩ := Option.map_eq_some_iff.mp hx
      have S5 : Same H H5 := SameX.same S4 sx hR
      have tk := take_snoc hd
      have hl : rs.length ≤ 2000 := by
        have e1 := congrArg List.length hsp
        rw [sps_len, List.length_map] at e1
        have e2 := List.length_filter_le (winP b e) (ms.take i)
        have e3 : (ms.take i).length ≤ ms.length := by rw [List.length_take]; omega
        omega
      have no : winP b e d = false → sps rs = ((ms.take (i + 1)).filter (winP b e)).map (rowOf mi o sh fs) := fun z => by
        rw [tk, List.filter_append, List.filter_cons_of_neg (by rw [z]; decide), List.filter_nil, List.append_nil]
        exact hsp
      refine ⟨_, rfl, _, rfl, _, _, rfl, rfl, _, rfl, ite2 (fun z => ?_) (fun z => ?_)⟩
      · have z1 : decide (b ≤ d) = true := z
        refine ⟨_, rfl, _, rfl, _, _, rfl, rfl, _, rfl, ite2 (fun z => ?_) (fun z => ?_)⟩
        · have z2 : decide (d < e) = true := z
          have yes : winP b e d = true := by unfold winP; rw [z1, z2]; rfl
          refine ⟨_, rfl, .inl ⟨rfl, _, SqL.of hrs.1⟩, _, rfl, _, _, rfl, rfl, .inr ⟨by decide, by decide⟩, _, rfl, _, _, rfl, rfl, ?_⟩
          refine ⟨_, rfl, _, rfl, _, rfl, _, rfl, Lf, _, _, _, rfl, rfl, SqL.of (S5 _ _ hLf), rfl, L0, _, rfl, .inl (SqL.of (S5 _ _ hL0)), rfl, allf, .inr ⟨_, rfl, ?_⟩⟩
          refine ⟨_, _, rfl, rfl, .inr (b01 _), _, _, rfl, rfl, (by show 2 ≤ sizeLine; decide), fun c hc => ?_⟩
          have hr5 := hrs.at2 (o := .tup [.int (d * 1440 + mi), .int (o + sh * (if inV (.int d) (fs.map V.int) = true then 1 else 0))]) hc
          refine ⟨R, _, _, rfl, rfl, hr5, (by rw [refs_len]; exact Nat.lt_of_le_of_lt hl (by decide)), ?_⟩
          refine ⟨sx.put hc, _, hrs.put hc, ?_, _, rfl⟩
          rw [sps_app, hsp, tk, List.filter_append, List.filter_cons_of_pos yes, List.filter_nil, List.map_append, inV_ints]
          exact congrArg (_ ++ [·]) (one_row mi o sh fs d)
        · exact ⟨sx, rs, hrs, no (by unfold winP; rw [show decide (d < e) = false by cases q : decide (d < e) with | true => exact absurd q z | false => rfl, Bool.and_false]), _, rfl⟩
      · exact iteF ⟨sx, rs, hrs, no (by unfold winP; rw [show decide (b ≤ d) = false by cases q : decide (b ≤ d) with | true => exact absurd q z | false => rfl, Bool.false_and]), _, rfl⟩
    rintro σ H5 ⟨sx, rs, hrs, hsp, y, rfl⟩
    rw [List.length_map, List.take_length] at hsp
    have S5 : Same H H5 := SameX.same S4 sx hR
    refine ⟨_, rfl, R, _, rfl, .inl ⟨SqL.of hrs.1, fun q hq => ?_⟩⟩
    have u6 := same_upd (o := .tup (refs rs)) hq
    exact k q rs _ _ (S5.trans u6) upd_same (hrs.2.up u6) (due_of rf rb hpm hle) hsp
end
end K35

namespace K35
open PySem L2
open DR (Rl fl days)
section
variable {P : Program} {w : World} {K : PySem.W.Frag} {mg : Str → Option Value} {base : Heap} {a : Adr}
theorem sc_is_name : FnScope ["text"] ["text"] (defScope s_is_name) := ⟨rfl, rfl, rfl, by decide +kernel, rfl, by decide +kernel, by decide +kernel⟩

theorem ok_is_name (T : TxtL K mg base a) : FnOk P w K mg base CX0 true 2 a.f_is_name a.d_is_name ["text"] (sp_is_name) := by
  refine T.F_is_name.ok sc_is_name (fun vs H Q E h => ?_) (fun cdv A outer s H vs Q E hr h => ?_)
  · obtain ⟨t, rfl, _⟩ := h; rfl
  · obtain ⟨t, rfl, hl, k⟩ := h
    refine ⟨_, (pss_cons (ps_if (PW.pt (pw_or (pt_cmpR op_lt (pe_callB call_len_str rfl T.n_len (by decide +kernel) (pa_cons (pv 0) pa_nil)) pe_int (nomark _)) (pw_or1 (pt_cmpR op_gt (pe_callB call_len_str rfl T.n_len (by decide +kernel) (pa_cons (pv 0) pa_nil)) (pe_globI rfl T.g_NAME_SIGNS) (nomark _))))) (pss_one (ps_ret pe_bl)) pss_nil)
      (pss_one (ps_ret (pe_and (pe_cmpR op_in_chr (pe_ix ix_str (pv 0) pe_int (fun _ _ => rfl)) (pe_globS rfl T.g_LETTERS) (by with_unfolding_all rfl)) (pe_one (pe_call ((ok_is_made_of T).mono (by decide)) hr rfl T.m_is_made_of T.F_is_made_of.kp T.b_is_made_of .nil pass0 (pa_cons (pv 0) (pa_cons (pe_op op_add_str (pe_globS rfl T.g_LETTERS) (pe_globS rfl T.g_FIGURES)) pa_nil)))))))), ?_⟩
    have hz : t.length ≤ sizeLine := Nat.le_of_lt (Nat.lt_of_le_of_lt hl sz1000)
    have el : t.cps.toList.length = t.length := Array.length_toList
    refine ⟨_, rfl, t, rfl, hz, _, _, rfl, rfl, _, rfl, ?_⟩
    refine ite2 (fun h1 => ?_) (fun h1 => ?_)
    · refine iteT ?_
      have q := k H (Same.refl _)
      rw [nameB_short (by rw [el]; have := of_decide_eq_true h1; omega)] at q
      exact q
    · have h1' : ¬ ((t.length : Int) < 1) := fun z => h1 (decide_eq_true z)
      refine ⟨_, rfl, t, rfl, hz, _, _, rfl, rfl, _, rfl, ?_⟩
      refine ite2 (fun h2 => ?_) (fun h2 => ?_)
      · have q := k H (Same.refl _)
        rw [nameB_long (by rw [el]; have := of_decide_eq_true h2; omega)] at q
        exact q
      · have h2' : ¬ ((8 : Int) < t.length) := fun z => h2 (decide_eq_true z)
        obtain ⟨c0, e0⟩ : ∃ c, t.cps.toList[0]? = some c := ⟨t.cps.toList[0]'(by rw [el]; omega), by simp⟩
        refine ⟨_, rfl, t, 0, c0, rfl, rfl, hz, atI_nat e0, c0, _, rfl, rfl, _, rfl, ?_⟩
        have en := nameB_mid (l := t.cps.toList) (by rw [el]; omega) (by rw [el]; omega) e0
        refine ite2 (fun h3 => ?_) (fun h3 => ?_)
        · refine ⟨_, rfl, _, _, rfl, rfl, by decide +kernel, t, _, rfl, hl, fun H' sm => ?_⟩
          have q := k H' sm
          rw [en, show decide (c0 ∈ LT) = true from h3, Bool.true_and] at q
          exact q
        · have q := k H (Same.refl _)
          rw [en, show decide (c0 ∈ LT) = false from decide_eq_false (fun z => h3 (decide_eq_true z)), Bool.false_and] at q
          exact q
end
end K35

namespace K35
open PySem L2
open DR (Rl fl days)
section
variable {P : Program} {w : World} {K : PySem.W.Frag} {mg : Str → Option Value} {base : Heap} {a : Adr}
theorem sc_check_day : FnScope ["number"] ["number"] (defScope s_check_day) := ⟨rfl, rfl, rfl, by decide +kernel, rfl, by decide +kernel, by decide +kernel⟩

theorem ok_check_day (T : TxtL K mg base a) : FnOk P w K mg base CX0 true 2 a.f_check_day a.d_check_day ["number"] (sp_check_day) := by
  refine T.F_check_day.ok sc_check_day (fun vs H Q E h => ?_) (fun cdv A outer s H vs Q E hr h => ?_)
  · obtain ⟨n, rfl, _⟩ := h; rfl
  · obtain ⟨n, rfl, h0, h1, k⟩ := h
    refine ⟨_, (pss_one (ps_if (pt_not (pt_truth (pe_call ((ok_is_day T).mono (by decide)) hr rfl T.m_is_day T.F_is_day.kp T.b_is_day .nil pass0 (pa_cons (pv 0) pa_nil)) (fun _ => rfl))) (pss_one ps_never) pss_nil)), ?_⟩
    exact ⟨_, rfl, n, rfl, h0, h1, _, rfl, iteF k⟩
end
end K35

namespace K35
open PySem L2
open DR (Rl fl days)
section
variable {P : Program} {w : World} {K : PySem.W.Frag} {mg : Str → Option Value} {base : Heap} {a : Adr}
theorem sc_Every_days_in : FnScope ["self", "begin", "end", "day"] ["self", "begin", "end"] (defScope s_Every_days_in) := ⟨rfl, rfl, rfl, by decide +kernel, rfl, by decide +kernel, by decide +kernel⟩

theorem ok_Every_days_in (T : TxtL K mg base a) : FnOk P w K mg base CX0 true 2 a.f_Every_days_in a.d_Every_days_in ["self", "begin", "end"] (sp_Every_days_in (ad a)) := by
  refine T.F_Every_days_in.ok sc_Every_days_in (fun vs H Q E h => ?_) (fun cdv A outer s H vs Q E hr h => ?_)
  · obtain ⟨x, b, e, st, fi, rfl, _⟩ := h; rfl
  · obtain ⟨x, b, e, st, fi, rfl, hr0, ⟨b0, b1, e0, e1, hz⟩, k⟩ := h
    refine ⟨_, (pss_cons (ps_set (i := 3) sc_Every_days_in.nd rfl (Or.inl rfl) (pe_methV (n := 2) (D := fun C R => (C = a.x_Every ∧ R = fun x vs H Q => (sp_Every_next_in (ad a)) (x :: (vs ++ ([] : List V))) H Q E0)) (pv 0) (by rintro C R ⟨rfl, rfl⟩ <;> first | exact ⟨T.cl_Every, _, _, _, _, _, _, _, _, _, _, T.me_Every_next_in, (ok_Every_next_in T).mono (by decide), hr, T.b_Every_next_in, .nil, pass0, fun _ _ _ _ _ h => h⟩) (pa_cons (pv 1) (pa_cons (pv 2) pa_nil))))
      (pss_one (ps_ret (pe_ifExp (pt_cmpR op_isN (pv 3) pe_non (nomark _)) (pe_lst pa_nil) (pe_callTy (call_list_rngS rfl) rfl T.n_list (by decide +kernel) (pa_cons (pe_callTy call_rangeVS rfl T.n_range (by decide +kernel) (pa_cons (pv 3) (pa_cons (pe_callB (call_min2 rfl) rfl T.n_min (by decide +kernel) (pa_cons (pv 2) (pa_cons (pe_globI rfl T.g_DAYS) pa_nil))) (pa_cons (pe_fldK (K := K) rfl (pv 0)) pa_nil)))) pa_nil)))))), ?_⟩
    obtain ⟨⟨s1, s2, f0, f1⟩, dx, hx⟩ := id hr0
    refine ⟨_, rfl, x, _, dx, _, _, rfl, hx, nometh2 _ _ _ (by decide +kernel) (by decide +kernel), ⟨rfl, rfl⟩, _, rfl, _, rfl, rfl, x, b, e, st, fi, rfl, hr0, e1, fun d h1 h2 h3 h4 => ?_, fun hn => ?_⟩
    · refine ⟨_, rfl, rfl, _, rfl, ite2 (fun z => absurd (of_decide_eq_true z) (fun w => nomatch w)) (fun _ => ?_)⟩
      refine ⟨_, rfl, _, rfl, _, _, rfl, ?_⟩
      rw [if_neg (show ¬ (146097 : Int) < e by omega)]
      have hq : 0 ≤ (e - d - 1) / st := Int.ediv_nonneg (by omega) (by omega)
      have hq2 : (e - d - 1) / st ≤ e - d - 1 := Int.ediv_le_self _ (by omega)
      refine ⟨_, rfl, x, _, dx, _, _, rfl, hx, T.cl_Every, T.n_Every_step, fl_step _ _, d, e, st, rfl, by omega, by omega, ⟨by omega, by omega, by omega, by omega⟩, fun r hr1 => ⟨r, d, e, st, ((e - d - 1) / st + 1).toNat, rfl, upd_same, by omega, by omega, ⟨by omega, by omega, by omega, by omega⟩, ?_, by omega, fun l hl => ?_⟩⟩
      · unfold Builtin.Range.rangeSize
        rw [if_pos (by omega), if_pos h2]
        omega
      · refine k l _ ((same_upd hr1).trans (same_upd hl)) ?_
        rw [upd_same, DR.ev_all (n := ((e - d - 1) / st + 1).toNat) (by omega) h1 h3 h4 h2 (by omega), List.map_map]
        rfl
    · refine ⟨_, rfl, rfl, _, rfl, ite2 (fun _ => ?_) (fun z => absurd (decide_eq_true rfl) z)⟩
      refine ⟨(by show 0 ≤ sizeLine; decide), fun l hl => k l _ (same_upd hl) ?_⟩
      rw [upd_same, DR.days_none hn]
      rfl
end
end K35

namespace K35
open PySem L2
open DR (Rl fl days)
section
variable {P : Program} {w : World} {K : PySem.W.Frag} {mg : Str → Option Value} {base : Heap} {a : Adr}
theorem sc_Days_next_in : FnScope ["self", "day", "end", "place"] ["self", "day", "end"] (defScope s_Days_next_in) := ⟨rfl, rfl, rfl, by decide +kernel, rfl, by decide +kernel, by decide +kernel⟩

theorem ok_Days_next_in (T : TxtL K mg base a) : FnOk P w K mg base CX0 true 2 a.f_Days_next_in a.d_Days_next_in ["self", "day", "end"] (sp_Days_next_in (ad a)) := by
  refine T.F_Days_next_in.ok sc_Days_next_in (fun vs H Q E h => ?_) (fun cdv A outer s H vs Q E hr h => ?_)
  · obtain ⟨x, b, e, ds, rfl, _⟩ := h; rfl
  · obtain ⟨x, b, e, ds, rfl, ⟨dx, d, ms, hx, hd, hri, hlen, hmem⟩, k1, k2⟩ := h
    refine ⟨_, (pss_cons (ps_set (i := 3) sc_Days_next_in.nd rfl (Or.inl rfl) (pe_call ((ok_count_below T).mono (by decide)) hr rfl T.m_count_below T.F_count_below.kp T.b_count_below .nil pass0 (pa_cons (pe_fldK (K := K) rfl (pv 0)) (pa_cons (pv 1) pa_nil))))
      (pss_cons (ps_if (PW.pt (pw_or (pt_cmpR op_eq (pv 3) (pe_callB (call_len_seqK (K := K) rfl) rfl T.n_len (by decide +kernel) (pa_cons (pe_fldK (K := K) rfl (pv 0)) pa_nil)) (nomark _)) (pw_or1 (pt_cmpR op_ge (pe_ix (ix_tupK (K := K) rfl) (pe_fldK (K := K) rfl (pv 0)) (pv 3) (fun _ _ => rfl)) (pv 2) (nomark _))))) (pss_one (ps_ret pe_non)) pss_nil)
      (pss_one (ps_ret (pe_ix (ix_tupK (K := K) rfl) (pe_fldK (K := K) rfl (pv 0)) (pv 3) (fun _ _ => rfl)))))), ?_⟩
    have hS : SqT K H d (ms.map V.int) := SqT.of hd
    refine ⟨_, rfl, x, _, dx, _, _, rfl, hx, T.cl_Days, T.n_Days_days, fl_days _, _, rfl, d, ms, b, rfl, hS, hri, hlen, ?_⟩
    have hle := DC.below_le ms b
    have hf : ∀ k, DR.fl (.dy ds) k = decide (k ∈ ds) := fun _ => rfl
    generalize hn : DC.below ms b = n at *
    have before : ∀ k ∈ ms, k < b ∨ ∃ i, n ≤ i ∧ ms[i]? = some k := fun k hk => by
      obtain ⟨i, hi⟩ := List.getElem?_of_mem hk
      by_cases hin : i < n
      · rw [← hn] at hin; exact .inl ((DC.below_front hri hi).mp hin)
      · exact .inr ⟨i, by omega, hi⟩
    refine ⟨_, rfl, _, rfl, x, _, dx, _, _, rfl, hx, T.cl_Days, T.n_Days_days, fl_days _, d, _, rfl, .inr hS, rfl, _, rfl, ?_⟩
    rw [List.length_map]
    refine ite2 (fun z => iteT ?_) (fun z => ?_)
    · have z' : (n : Int) = (ms.length : Int) := V.int.inj (of_decide_eq_true z)
      refine k2 fun k h1 h2 => ?_
      rw [hf]
      refine decide_eq_false fun hk => ?_
      rcases before k ((hmem k).mpr hk) with w | ⟨i, w1, w2⟩
      · omega
      · obtain ⟨w3, _⟩ := List.getElem?_eq_some_iff.mp w2
        omega
    have hlt : n < ms.length := by
      have : ¬ (n : Int) = (ms.length : Int) := fun w => z (decide_eq_true (by rw [w]))
      omega
    obtain ⟨v, hv⟩ := int_get (ns := ms) (i := n) hlt
    have hA : atI (ms.map V.int) (n : Int) = some (.int v) := atI_nat (ints_at hv)
    have hvb : b ≤ v := Int.not_lt.mp fun w => by have := (DC.below_front hri hv).mpr w; omega
    have first : ∀ k, b ≤ k → k < v → DR.fl (.dy ds) k = false := fun k h1 h2 => by
      rw [hf]
      refine decide_eq_false fun hk => ?_
      rcases before k ((hmem k).mpr hk) with w | ⟨i, w1, w2⟩
      · omega
      · have := DC.rise_le hri hv w2 w1
        omega
    refine ⟨_, rfl, x, _, dx, _, _, rfl, hx, T.cl_Days, T.n_Days_days, fl_days _, _, rfl, d, _, _, _, rfl, rfl, hS, hA, _, rfl, _, _, rfl, rfl, _, rfl, ?_⟩
    refine ite2 (fun z => ?_) (fun z => ?_)
    · have z' : e ≤ v := of_decide_eq_true z
      exact k2 fun k h1 h2 => first k h1 (by omega)
    · have z' : ¬ e ≤ v := fun w => z (decide_eq_true w)
      exact ⟨_, rfl, x, _, dx, _, _, rfl, hx, T.cl_Days, T.n_Days_days, fl_days _, _, rfl, d, _, _, _, rfl, rfl, hS, hA, k1 v hvb (by omega) (by rw [hf]; exact decide_eq_true ((hmem v).mp (List.mem_of_getElem? hv))) first⟩
end
end K35

namespace K35
open PySem L2
open DR (Rl fl days)
section
variable {P : Program} {w : World} {K : PySem.W.Frag} {mg : Str → Option Value} {base : Heap} {a : Adr}
theorem sc_Where_falls_on : FnScope ["self", "day", "test"] ["self", "day"] (defScope s_Where_falls_on) := ⟨rfl, rfl, rfl, by decide +kernel, rfl, by decide +kernel, by decide +kernel⟩

theorem ok_Where_falls_on (T : TxtL K mg base a) : FnOk P w K mg base CX0 true 2 a.f_Where_falls_on a.d_Where_falls_on ["self", "day"] (sp_Where_falls_on (ad a)) := by
  refine T.F_Where_falls_on.ok sc_Where_falls_on (fun vs H Q E h => ?_) (fun cdv A outer s H vs Q E hr h => ?_)
  · obtain ⟨x, d, st, re, rfl, _⟩ := h; rfl
  · obtain ⟨x, d, st, re, rfl, ⟨s1, dx, f, hx, cl, cd, L⟩, d0, d1, k⟩ := h
    refine ⟨_, (pss_cons (ps_set (i := 2) sc_Where_falls_on.nd rfl (Or.inl rfl) (pe_fldK (K := K) rfl (pv 0)))
      (pss_one (ps_ret (pe_and (pe_call ((ok_is_day T).mono (by decide)) hr rfl T.m_is_day T.F_is_day.kp T.b_is_day .nil pass0 (pa_cons (pv 1) pa_nil)) (pe_one (pe_callTy call_bool1 rfl T.n_bool (by decide +kernel) (pa_cons (pe_callL lsc_law_where lbd_law_where hr (fun _ _ _ _ _ _ _ => (pe_cmpR op_eq (pe_op op_mod (pv 0) (pv 2)) (pv 1) (nomark _))) (pv 2) (pa_cons (pv 1) pa_nil)) pa_nil))))))), ?_⟩
    refine ⟨_, rfl, x, _, dx, _, _, rfl, hx, T.cl_Where, T.n_Where_test, fl_test _, ?_⟩
    refine ⟨_, rfl, d, rfl, d0, d1, _, rfl, iteT ?_⟩
    refine ⟨_, rfl, f, _, cl, cd, rfl, L, _, rfl, _, rfl, L, ?_⟩
    refine ⟨_, rfl, _, rfl, _, _, rfl, rfl, (by show (0 : Int) < st; omega), _, rfl, rfl, rfl, .inr ⟨_, rfl, ?_⟩⟩
    rw [vint]
    exact k
end
end K35

namespace K35
open PySem L2
open DR (Rl fl days)
section
variable {P : Program} {w : World} {K : PySem.W.Frag} {mg : Str → Option Value} {base : Heap} {a : Adr}
theorem sc_check_changes : FnScope ["changes", "place", "change"] ["changes"] (defScope s_check_changes) := ⟨rfl, rfl, rfl, by decide +kernel, rfl, by decide +kernel, by decide +kernel⟩

theorem ok_check_changes (T : TxtL K mg base a) : FnOk P w K mg base CX0 true 2 a.f_check_changes a.d_check_changes ["changes"] (sp_check_changes) := by
  refine T.F_check_changes.ok sc_check_changes (fun vs H Q E h => ?_) (fun cdv A outer s H vs Q E hr h => ?_)
  · obtain ⟨p, cs, rfl, _⟩ := h; rfl
  · obtain ⟨p, cs, rfl, hp, hok, ⟨hrise, hlen, hoff⟩, k⟩ := h
    refine ⟨_, (pss_cons (ps_if (pt_cmpR op_gt (pe_callB (call_len_seqK (K := K) rfl) rfl T.n_len (by decide +kernel) (pa_cons (pv 0) pa_nil)) (pe_globI rfl T.g_MOST_CHANGES) (nomark _)) (pss_one ps_never) pss_nil)
      (pss_cons (ps_for PassesOwn.never rfl (pi_range2 rfl T.n_range (pa_cons pe_int (pa_cons (pe_callB (call_len_seqK (K := K) rfl) rfl T.n_len (by decide +kernel) (pa_cons (pv 0) pa_nil)) pa_nil))) (pg_name (i := 1) sc_check_changes.nd rfl (Or.inl rfl)) (pss_one (ps_if (pt_cmpR op_le (pe_ix (ix_tupK (K := K) rfl) (pe_ix (ix_tupK (K := K) rfl) (pv 0) (pv 1) (fun _ _ => rfl)) pe_int (fun _ _ => rfl)) (pe_ix (ix_tupK (K := K) rfl) (pe_ix (ix_tupK (K := K) rfl) (pv 0) (pe_op op_sub (pv 1) pe_int) (fun _ _ => rfl)) pe_int (fun _ _ => rfl)) (nomark _)) (pss_one ps_never) pss_nil)))
      (pss_one (ps_for PassesOwn.never rfl (pi_tupK (K := K) rfl (pv 0)) (pg_name (i := 2) sc_check_changes.nd rfl (Or.inl rfl)) (pss_one (ps_expr (pe_call ((ok_check_offset T).mono (by decide)) hr rfl T.m_check_offset T.F_check_offset.kp T.b_check_offset .nil pass0 (pa_cons (pe_ix (ix_tupK (K := K) rfl) (pv 2) pe_int (fun _ _ => rfl)) pa_nil)))))))), ?_⟩
    refine ⟨_, rfl, p, _, rfl, .inr (SqT.of hp), _, _, rfl, rfl, _, rfl, ?_⟩
    rw [refs_len]
    refine ite2 (fun z => absurd (of_decide_eq_true z) (by omega)) (fun _ => ?_)
    refine ⟨_, rfl, p, _, rfl, .inr (SqT.of hp), _, _, rfl, ⟨by decide, by decide, by omega, by rw [refs_len]; omega⟩, ?_⟩
    rw [refs_len]
    refine for_range (fun i σ H' => H' = H ∧ ∃ x y, σ = [some (.ref p), x, y]) ⟨rfl, _, _, rfl⟩ ?_ ?_
    · rintro i σ H1 hi ⟨rfl, x1, x2, rfl⟩
      obtain ⟨y, hy⟩ := rs_get (rs := cs) (i := i + 1) (by omega)
      obtain ⟨z, hz⟩ := rs_get (rs := cs) (i := i) (by omega)
      have hyp := hok y (List.mem_of_getElem? hy)
      have hzp := hok z (List.mem_of_getElem? hz)
      have A1 : atI (refs cs) (1 + (i : Int)) = some (.ref y.1) := by rw [show (1 + (i : Int)) = ((i + 1 : Nat) : Int) by omega]; exact atI_nat (refs_at hy)
      have A2 : atI (refs cs) (1 + (i : Int) - 1) = some (.ref z.1) := by rw [show (1 + (i : Int) - 1) = ((i : Nat) : Int) by omega]; exact atI_nat (refs_at hz)
      refine ⟨_, rfl, _, rfl, p, _, _, _, rfl, rfl, SqT.of hp, A1, y.1, _, _, _, rfl, rfl, SqT.of hyp, rfl, _, rfl, _, rfl, _, _, rfl, rfl, p, _, _, _, rfl, rfl, SqT.of hp, A2, z.1, _, _, _, rfl, rfl, SqT.of hzp, rfl, _, _, rfl, rfl, _, rfl, ?_⟩
      have lt := DC.rise_lt hrise (DC.mom_at (sps_at hz)) (DC.mom_at (sps_at hy)) (Nat.lt_succ_self i)
      exact ite2 (fun w => absurd (of_decide_eq_true w) (by omega)) (fun _ => ⟨rfl, _, _, rfl⟩)
    rintro σ H1 ⟨rfl, x1, x2, rfl⟩
    refine ⟨_, rfl, p, rfl, ⟨_, SqT.of hp⟩, ?_⟩
    refine for_seq (seq_tup (SqT.of hp)) (fun i σ H' => H' = H1 ∧ ∃ x y, σ = [some (.ref p), x, y]) ⟨rfl, _, _, rfl⟩ (fun _ _ _ _ h => h.1 ▸ Same.refl _) ?_ ?_
    · rintro i x σ H2 hx ⟨rfl, x1, x2, rfl⟩
      obtain ⟨y, hy, hm, rfl⟩ := refs_get hx
      have ho := hoff _ (sps_mem hm)
      exact ⟨_, rfl, y.1, _, _, _, rfl, rfl, SqT.of (hok y hm), rfl, _, rfl, ho.1, ho.2, rfl, _, _, rfl⟩
    · rintro σ H2 ⟨rfl, x1, x2, rfl⟩
      exact k
end
end K35

namespace K35
open PySem L2
open DR (Rl fl days)
section
variable {P : Program} {w : World} {K : PySem.W.Frag} {mg : Str → Option Value} {base : Heap} {a : Adr}
theorem sc_changes_until : FnScope ["place", "moment"] ["place", "moment"] (defScope s_changes_until) := ⟨rfl, rfl, rfl, by decide +kernel, rfl, by decide +kernel, by decide +kernel⟩

theorem ok_changes_until (T : TxtL K mg base a) : FnOk P w K mg base CX0 true 2 a.f_changes_until a.d_changes_until ["place", "moment"] (sp_changes_until a.x_Place) := by
  refine T.F_changes_until.ok sc_changes_until (fun vs H Q E h => ?_) (fun cdv A outer s H vs Q E hr h => ?_)
  · obtain ⟨x, nm, own, ch, ms, cs, m, rfl, _⟩ := h; rfl
  · obtain ⟨x, nm, own, ch, ms, cs, m, rfl, pl, k⟩ := h
    obtain ⟨dx, ob⟩ := pl.ob
    refine ⟨_, (pss_one (ps_ret (pe_call ((ok_count_below T).mono (by decide)) hr rfl T.m_count_below T.F_count_below.kp T.b_count_below .nil pass0 (pa_cons (pe_fldK (K := K) rfl (pv 0)) (pa_cons (pe_op op_add (pv 1) pe_int) pa_nil))))), ?_⟩
    exact ⟨_, rfl, x, _, dx, _, _, rfl, ob, T.cl_Place, T.n_Place_moments, fl_ms _ _ _ _, _, rfl, _, _, rfl, rfl, ms, _, _, rfl, SqT.of pl.ms, pl.rise, by rw [DC.mom_len, sps_len]; have := pl.few; omega, k⟩
end
end K35

namespace K35
open PySem L2
open DR (Rl fl days)
section
variable {P : Program} {w : World} {K : PySem.W.Frag} {mg : Str → Option Value} {base : Heap} {a : Adr}
theorem sc_law_name_by : FnScope ["_law_cell", "_law_some", "_law_name", "_law_k"] ["_law_cell"] (defScope s_law_name_by) := ⟨rfl, rfl, rfl, by decide +kernel, rfl, by decide +kernel, by decide +kernel⟩

theorem ok_law_name_by (T : TxtL K mg base a) : FnOk P w K mg base CX0 true 2 a.f_law_name_by a.d_law_name_by ["_law_cell"] (sp_law_name_by) := by
  refine T.F_law_name_by.ok sc_law_name_by (fun vs H Q E h => ?_) (fun cdv A outer s H vs Q E hr h => ?_)
  · obtain ⟨c, rfl, _⟩ := h; rfl
  · obtain ⟨c, rfl, k⟩ := h
    refine ⟨_, (pss_cons (ps_set (i := 1) sc_law_name_by.nd rfl (Or.inl rfl) pe_str)
      (pss_cons (ps_set (i := 2) sc_law_name_by.nd rfl (Or.inl rfl) (pe_ix ix_str (pv 1) (pe_op op_mod (pv 0) pe_int) (fun _ _ => rfl)))
      (pss_cons (ps_for PassesOwn.never rfl (pi_range1 rfl T.n_range (pa_cons (pe_call ((ok_law_mixed T).mono (by decide)) hr rfl T.m_law_mixed T.F_law_mixed.kp T.b_law_mixed .nil pass0 (pa_cons (pv 0) (pa_cons pe_int (pa_cons pe_int pa_nil)))) pa_nil)) (pg_name (i := 3) sc_law_name_by.nd rfl (Or.inl rfl)) (pss_one (ps_set (i := 2) sc_law_name_by.nd rfl (Or.inl rfl) (pe_op op_add_str (pv 2) (pe_ix ix_str (pv 1) (pe_call ((ok_law_mixed T).mono (by decide)) hr rfl T.m_law_mixed T.F_law_mixed.kp T.b_law_mixed .nil pass0 (pa_cons (pv 0) (pa_cons (pe_op op_add pe_int (pv 3)) (pa_cons pe_int pa_nil)))) (fun _ _ => rfl))))))
      (pss_one (ps_ret (pv 2)))))), ?_⟩
    obtain ⟨c0, hc0, e0⟩ := at26 (i := c % 26) (Int.emod_nonneg _ (by decide)) (Int.emod_lt_of_pos _ (by decide))
    refine ⟨_, rfl, _, rfl, _, _, rfl, rfl, (by show (0 : Int) < 26; decide), _, _, _, rfl, rfl, by decide +kernel, e0, ?_⟩
    refine ⟨_, rfl, _, _, _, rfl, by omega, by omega, by decide, fun n n0 n1 _ => ⟨n, rfl, by omega, by omega, ?_⟩⟩
    refine for_range (n := n.toNat) (fun i σ H' => H' = H ∧ ∃ (t : Str) (x : Option V), nameB t.cps.toList = true ∧ t.length = i + 1 ∧ σ = [some (.int c), some (.str "abcdefghijklmnopqrstuvwxyz0123456789"), some (.str t), x]) ⟨rfl, ⟨#[c0]⟩, _, name_one hc0, rfl, rfl⟩ ?_ ?_
    · rintro i σ H1 hi ⟨rfl, t, x, hn, hl, rfl⟩
      refine ⟨_, rfl, _, rfl, _, rfl, _, rfl, _, _, rfl, rfl, _, _, _, rfl, by omega, by omega, by decide, fun v v0 v1 _ => ?_⟩
      obtain ⟨c1, hc1, e1⟩ := at36 v0 v1
      refine ⟨_, _, _, rfl, rfl, by decide +kernel, e1, _, _, rfl, rfl, ?_, ?_⟩
      · show t.length + 1 ≤ sizeLine
        exact Nat.le_trans (by omega : t.length + 1 ≤ 9) (by decide)
      · have el : t.cps.toList.length = t.length := Array.length_toList
        refine ⟨rfl, _, _, ?_, ?_, rfl⟩
        · rw [cps_app]
          exact name_more hn hc1 (by omega)
        · rw [len_app, hl]
          rfl
    · rintro σ H1 ⟨rfl, t, x, hn, hl, rfl⟩
      exact ⟨_, rfl, k t hn (by omega)⟩
end
end K35

namespace K35
open PySem L2
open DR (Rl fl days)
section
variable {P : Program} {w : World} {K : PySem.W.Frag} {mg : Str → Option Value} {base : Heap} {a : Adr}
theorem sc_law_pair_is : FnScope ["_law_found", "_law_local"] ["_law_found", "_law_local"] (defScope s_law_pair_is) := ⟨rfl, rfl, rfl, by decide +kernel, rfl, by decide +kernel, by decide +kernel⟩

theorem ok_law_pair_is (T : TxtL K mg base a) : FnOk P w K mg base CX0 true 2 a.f_law_pair_is a.d_law_pair_is ["_law_found", "_law_local"] (sp_law_pair_is) := by
  refine T.F_law_pair_is.ok sc_law_pair_is (fun vs H Q E h => ?_) (fun cdv A outer s H vs Q E hr h => ?_)
  · obtain ⟨p, d, m, l, rfl, _⟩ := h; rfl
  · obtain ⟨p, d, m, l, rfl, hp, m0, m1, e, k⟩ := h
    refine ⟨_, (pss_cons (ps_if (PW.pt (pw_or (pt_not (pt_val (pe_callB (call_isinstK (K := K) rfl) rfl T.n_isinstance (by decide +kernel) (pa_cons (pv 0) (pa_cons (pe_bltn (v := .ty "tuple") rfl T.n_tuple (by decide +kernel) rfl) pa_nil))))) (pw_or (pt_cmpR op_ne (pe_callB (call_len_seqK (K := K) rfl) rfl T.n_len (by decide +kernel) (pa_cons (pv 0) pa_nil)) pe_int (nomark _)) (pw_or (pt_not (pt_val (pe_call ((ok_law_whole T).mono (by decide)) hr rfl T.m_law_whole T.F_law_whole.kp T.b_law_whole .nil pass0 (pa_cons (pe_ix (ix_tupK (K := K) rfl) (pv 0) pe_int (fun _ _ => rfl)) pa_nil)))) (pw_or1 (pt_not (pt_val (pe_call ((ok_law_whole T).mono (by decide)) hr rfl T.m_law_whole T.F_law_whole.kp T.b_law_whole .nil pass0 (pa_cons (pe_ix (ix_tupK (K := K) rfl) (pv 0) pe_int (fun _ _ => rfl)) pa_nil))))))))) (pss_one ps_never) pss_nil)
      (pss_one (ps_ret (pe_and (pe_chain op_le op_lt pe_int (pe_ix (ix_tupK (K := K) rfl) (pv 0) pe_int (fun _ _ => rfl)) pe_int) (pe_one (pe_cmpR op_eq (pe_op op_add (pe_op op_mul (pe_ix (ix_tupK (K := K) rfl) (pv 0) pe_int (fun _ _ => rfl)) pe_int) (pe_ix (ix_tupK (K := K) rfl) (pv 0) pe_int (fun _ _ => rfl))) (pv 1) (nomark _))))))), ?_⟩
    refine ⟨_, rfl, _, _, _, _, rfl, TyOf.tup hp, rfl, _, rfl, iteF ?_⟩
    refine ⟨_, rfl, p, _, rfl, .inr (SqT.of hp), rfl, _, rfl, iteF ?_⟩
    refine ⟨_, rfl, p, _, _, _, rfl, rfl, SqT.of hp, rfl, _, rfl, _, rfl, iteF ?_⟩
    refine ⟨_, rfl, p, _, _, _, rfl, rfl, SqT.of hp, rfl, _, rfl, _, rfl, iteF ?_⟩
    refine ⟨_, rfl, p, _, _, _, rfl, rfl, SqT.of hp, rfl, _, _, rfl, rfl, _, rfl, ?_⟩
    rw [decide_eq_true m0]
    refine iteT ?_
    refine ⟨_, _, rfl, rfl, _, rfl, ?_⟩
    rw [decide_eq_true m1]
    refine iteT ?_
    refine ⟨_, rfl, p, _, _, _, rfl, rfl, SqT.of hp, rfl, _, _, rfl, rfl, .inr ⟨by decide, by decide⟩, _, rfl, p, _, _, _, rfl, rfl, SqT.of hp, rfl, _, _, rfl, rfl, _, rfl, rfl, ?_⟩
    rw [vint, decide_eq_true e]
    exact k
end
end K35

namespace K35
open PySem L2
open DR (Rl fl days)
section
variable {P : Program} {w : World} {K : PySem.W.Frag} {mg : Str → Option Value} {base : Heap} {a : Adr}
theorem sc_law_falls_by : FnScope ["_law_cell", "_law_begin", "_law_way", "_law_found", "_law_day", "_law_good", "_law_first"] ["_law_cell", "_law_begin"] (defScope s_law_falls_by) := ⟨rfl, rfl, rfl, by decide +kernel, rfl, by decide +kernel, by decide +kernel⟩

theorem ok_law_falls_by (T : TxtL K mg base a) : FnOk P w K mg base CX0 true 2 a.f_law_falls_by a.d_law_falls_by ["_law_cell", "_law_begin"] (sp_law_falls_by) := by
  refine T.F_law_falls_by.ok sc_law_falls_by (fun vs H Q E h => ?_) (fun cdv A outer s H vs Q E hr h => ?_)
  · obtain ⟨c, b, rfl, _⟩ := h; rfl
  · obtain ⟨c, b, rfl, b0, b1, k⟩ := h
    refine ⟨_, (pss_cons (ps_set (i := 2) sc_law_falls_by.nd rfl (Or.inl rfl) (pe_call ((ok_law_mixed T).mono (by decide)) hr rfl T.m_law_mixed T.F_law_mixed.kp T.b_law_mixed .nil pass0 (pa_cons (pv 0) (pa_cons pe_int (pa_cons pe_int pa_nil)))))
      (pss_cons (ps_set (i := 3) sc_law_falls_by.nd rfl (Or.inl rfl) (pe_lst pa_nil))
      (pss_cons (ps_for PassesOwn.never rfl (pi_range2 rfl T.n_range (pa_cons (pe_callB (call_max2 rfl) rfl T.n_max (by decide +kernel) (pa_cons pe_int (pa_cons (pe_op op_sub (pv 1) pe_int) pa_nil))) (pa_cons (pe_op op_add (pv 1) pe_int) pa_nil))) (pg_name (i := 4) sc_law_falls_by.nd rfl (Or.inl rfl)) (pss_cons (ps_set (i := 5) sc_law_falls_by.nd rfl (Or.inl rfl) pe_bl)
      (pss_cut (ps_if (pt_cmpR op_eq (pv 2) pe_int (nomark _)) (pss_one (ps_set (i := 5) sc_law_falls_by.nd rfl (Or.inl rfl) (pe_cmpR (op_in_seqK (K := K) rfl) (pv 4) (pe_comp (N := ["_law_k", "_law_begin", "_law_cell"]) (cap := [none, some 1, some 0]) (by show CompScope (defScope s_law_falls_by) _ ["_law_cell", "_law_begin", "_law_way", "_law_found", "_law_day", "_law_good", "_law_first"] _ _; exact ⟨rfl, by decide +kernel, by decide +kernel, by decide +kernel, by decide +kernel, rfl, by decide +kernel⟩) rfl (pi_range1 rfl T.n_range (pa_cons (pe_call ((ok_law_mixed T).mono (by decide)) hr rfl T.m_law_mixed T.F_law_mixed.kp T.b_law_mixed .nil pass0 (pa_cons (pv 0) (pa_cons pe_int (pa_cons pe_int pa_nil)))) pa_nil)) (fun C s H fp => ⟨(pg_name (i := 0) (by show (["_law_k", "_law_begin", "_law_cell"] : List Str).Nodup; decide +kernel) rfl (Or.inl rfl) (.inr rfl)), pf_none, (pe_op op_add (pv 1) (pe_call ((ok_law_mixed T).mono (by decide)) hr rfl T.m_law_mixed T.F_law_mixed.kp T.b_law_mixed .nil pass0 (pa_cons (pv 2) (pa_cons (pe_op op_add pe_int (pv 0)) (pa_cons pe_int pa_nil)))))⟩)) (by with_unfolding_all rfl)))) pss_nil)
      (pss_cut (ps_if (pt_cmpR op_eq (pv 2) pe_int (nomark _)) (pss_cons (ps_set (i := 6) sc_law_falls_by.nd rfl (Or.inl rfl) (pe_op op_add (pv 1) (pe_call ((ok_law_mixed T).mono (by decide)) hr rfl T.m_law_mixed T.F_law_mixed.kp T.b_law_mixed .nil pass0 (pa_cons (pv 0) (pa_cons pe_int (pa_cons pe_int pa_nil))))))
      (pss_one (ps_set (i := 5) sc_law_falls_by.nd rfl (Or.inl rfl) (pe_and (pe_cmpR op_ge (pv 4) (pv 6) (nomark _)) (pe_one (pe_cmpR op_eq (pe_op op_mod (pe_op op_sub (pv 4) (pv 6)) (pe_op op_add pe_int (pe_call ((ok_law_mixed T).mono (by decide)) hr rfl T.m_law_mixed T.F_law_mixed.kp T.b_law_mixed .nil pass0 (pa_cons (pv 0) (pa_cons pe_int (pa_cons pe_int pa_nil)))))) pe_int (nomark _))))))) pss_nil)
      (pss_cut (ps_if (pt_cmpR op_eq (pv 2) pe_int (nomark _)) (pss_one (ps_set (i := 5) sc_law_falls_by.nd rfl (Or.inl rfl) (pe_cmpR op_eq (pe_op op_mod (pv 4) (pe_op op_add pe_int (pe_call ((ok_law_mixed T).mono (by decide)) hr rfl T.m_law_mixed T.F_law_mixed.kp T.b_law_mixed .nil pass0 (pa_cons (pv 0) (pa_cons pe_int (pa_cons pe_int pa_nil)))))) (pe_call ((ok_law_mixed T).mono (by decide)) hr rfl T.m_law_mixed T.F_law_mixed.kp T.b_law_mixed .nil pass0 (pa_cons (pv 0) (pa_cons pe_int (pa_cons pe_int pa_nil)))) (nomark _)))) pss_nil)
      (pss_one (ps_if (pt_val (pv 5)) (pss_one (ps_expr (pe_bm PySem.F.plainAttrs_list PySem.F.slot_list_append PySem.F.type_list_append mt_append (pv 3) (pa_cons (pv 4) pa_nil)))) pss_nil)))))))
      (pss_one (ps_ret (pv 3)))))), ?_⟩
    refine ⟨_, rfl, c, 21, 4, rfl, by decide, by decide, by decide, fun w w0 w1 hw => ?_⟩
    refine ⟨(by show 0 ≤ sizeLine; decide), fun L hL => ?_⟩
    have u1 := same_upd (o := .lst []) hL
    refine ⟨_, rfl, _, _, rfl, rfl, _, _, rfl, _, rfl, _, _, rfl, rfl, ?_⟩
    have hlo : (if b - 40 > 0 then b - 40 else 0) = lo40 b := rfl
    rw [hlo]
    have l0 : 0 ≤ lo40 b := by unfold lo40; split <;> omega
    have l1 : lo40 b ≤ b := by unfold lo40; split <;> omega
    have l2 : b - 40 ≤ lo40 b := by unfold lo40; split <;> omega
    have F0 := fl0 (c := c) (b := b)
    have F1 := fl1 (c := c) (b := b)
    have F2 := fl2 (c := c) (b := b)
    have F3 := fl3 (c := c) (b := b)
    generalize lo40 b = lo at *
    generalize fl (rlOf c b) = F at *
    refine ⟨_, _, rfl, ⟨by omega, by omega, by omega, by omega⟩, ?_⟩
    refine for_range (fun i σ H' => Same H H' ∧ H' L = some (.lst ((days F lo (lo + (i : Int))).map V.int)) ∧ ∃ x g y, σ = [some (.int c), some (.int b), some (.int w), some (.ref L), x, g, y]) ⟨u1, by rw [upd_same, DR.days_none (fun k h1 h2 => by omega)]; rfl, _, _, _, rfl⟩ ?_ ?_
    · rintro i σ H1 hi ⟨s1, hL1, x, g0, y, rfl⟩
      generalize hd : lo + (i : Int) = d at *
      refine ⟨fun σ' H' => Same H H' ∧ H' L = some (.lst ((days F lo d).map V.int)) ∧ ∃ (gd : Bool) (y : Option V), ((w = 0 → gd = F d) ∧ (w ≠ 0 → gd = false)) ∧ σ' = [some (.int c), some (.int b), some (.int w), some (.ref L), some (.int d), some (.bl gd), y], ?_, ?_⟩
      · refine ⟨_, rfl, rfl, _, rfl, ite2 (fun z => ?_) (fun z => ?_)⟩
        · have z' : w = 0 := V.int.inj (of_decide_eq_true z)
          refine ⟨_, rfl, _, rfl, c, 31, 6, rfl, by decide, by decide, by decide, fun n n0 n1 hn => ?_⟩
          refine ⟨_, rfl, by omega, by omega, ?_⟩
          refine comp_pure (seq_range 0 n.toNat _) (fun _ => true) (fD c b) (by rw [List.length_map, List.length_range]; omega) (fun x _ H' _ R hR => hR H' (Same.refl _)) ?_ (fun D H2 s2 hD0 hD => ?_)
          · intro x hx _ H' sm R hR
            obtain ⟨i, hi, rfl⟩ := List.mem_map.mp hx
            rw [List.mem_range] at hi
            refine ⟨_, rfl, _, rfl, _, rfl, _, _, rfl, rfl, c, _, _, rfl, by omega, by omega, by decide, fun v _ _ hv => ⟨_, _, rfl, rfl, ?_⟩⟩
            subst hv
            exact hR H' (Same.refl _)
          rw [List.filter_eq_self.mpr (fun _ _ => rfl), dy_vals c b _ (by rw [hn])] at hD
          refine ⟨D, _, rfl, .inl (SqL.of hD), rfl, ?_, ?_⟩
          · rw [List.all_map]; exact List.all_eq_true.mpr fun _ _ => rfl
          · refine ⟨s1.trans s2, s2 _ _ hL1, _, _, ⟨fun _ => ?_, fun q => absurd z' q⟩, rfl⟩
            rw [F0 (by rw [← hw]; exact z')]
            exact inV_ints d (dyL c b)
        · have z' : w ≠ 0 := fun q => z (decide_eq_true (by rw [q]))
          exact ⟨s1, hL1, _, _, ⟨fun q => absurd q z', fun _ => rfl⟩, rfl⟩
      rintro σ H2 ⟨s2, hL2, gd, y2, ⟨g1, g2⟩, rfl⟩
      refine ⟨fun σ' H' => Same H H' ∧ H' L = some (.lst ((days F lo d).map V.int)) ∧ ∃ (gd : Bool) (y : Option V), ((w = 0 ∨ w = 1 → gd = F d) ∧ (w ≠ 0 → w ≠ 1 → gd = false)) ∧ σ' = [some (.int c), some (.int b), some (.int w), some (.ref L), some (.int d), some (.bl gd), y], ?_, ?_⟩
      · refine ⟨_, rfl, rfl, _, rfl, ite2 (fun z => ?_) (fun z => ?_)⟩
        · have z' : w = 1 := V.int.inj (of_decide_eq_true z)
          have f1 := F1 (by rw [← hw]; exact z') d
          refine ⟨_, rfl, _, rfl, c, 33, 90, rfl, by decide, by decide, by decide, fun v v0 v1 hv => ?_⟩
          rw [← hv] at f1
          refine ⟨_, _, rfl, rfl, _, rfl, _, rfl, _, _, rfl, rfl, _, rfl, ite2 (fun q => ?_) (fun q => ?_)⟩
          · rw [q, Bool.true_and] at f1
            refine ⟨_, rfl, _, rfl, _, _, rfl, rfl, _, rfl, c, 32, 120, rfl, by decide, by decide, by decide, fun u u0 u1 hu => ?_⟩
            rw [← hu] at f1
            refine ⟨_, _, rfl, rfl, _, _, rfl, rfl, (by show (0 : Int) < 1 + u; omega), rfl, s2, hL2, _, _, ⟨fun _ => ?_, fun _ q2 => absurd z' q2⟩, rfl⟩
            rw [vint, f1]
          · have q' : decide (b + v ≤ d) = false := by cases e : decide (b + v ≤ d) with | true => exact absurd e q | false => rfl
            rw [q', Bool.false_and] at f1
            exact ⟨s2, hL2, _, _, ⟨fun _ => f1.symm, fun _ q2 => absurd z' q2⟩, rfl⟩
        · have z' : w ≠ 1 := fun q => z (decide_eq_true (by rw [q]))
          exact ⟨s2, hL2, _, _, ⟨fun q => q.elim g1 fun q => absurd q z', fun q _ => g2 q⟩, rfl⟩
      rintro σ H3 ⟨s3, hL3, gd, y3, ⟨g1, g2⟩, rfl⟩
      refine ⟨fun σ' H' => Same H H' ∧ H' L = some (.lst ((days F lo d).map V.int)) ∧ ∃ (gd : Bool) (y : Option V), (gd = F d) ∧ σ' = [some (.int c), some (.int b), some (.int w), some (.ref L), some (.int d), some (.bl gd), y], ?_, ?_⟩
      · refine ⟨_, rfl, rfl, _, rfl, ite2 (fun z => ?_) (fun z => ?_)⟩
        · have z' : w = 2 := V.int.inj (of_decide_eq_true z)
          have f2 := F2 (by rw [← hw]; exact z') d
          refine ⟨_, rfl, _, rfl, c, 34, 70, rfl, by decide, by decide, by decide, fun v v0 v1 hv => ?_⟩
          refine ⟨_, _, rfl, rfl, _, _, rfl, rfl, (by show (0 : Int) < 1 + v; omega), _, rfl, c, 35, 70, rfl, by decide, by decide, by decide, fun u u0 u1 hu => ?_⟩
          rw [← hv, ← hu] at f2
          refine ⟨rfl, s3, hL3, _, _, ?_, rfl⟩
          rw [vint, f2]
        · have z' : w ≠ 2 := fun q => z (decide_eq_true (by rw [q]))
          refine ⟨s3, hL3, _, _, ?_, rfl⟩
          by_cases w01 : w = 0 ∨ w = 1
          · exact g1 w01
          · rw [g2 (fun q => w01 (.inl q)) (fun q => w01 (.inr q)), F3 (by rw [← hw]; exact fun q => w01 (.inl q)) (by rw [← hw]; exact fun q => w01 (.inr q)) (by rw [← hw]; exact z')]
      rintro σ H4 ⟨s4, hL4, gd, y4, g1, rfl⟩
      subst g1
      have hn : lo + ((i + 1 : Nat) : Int) = d + 1 := by omega
      rw [hn]
      have hlen := DR.days_len F lo d
      refine ⟨_, rfl, _, rfl, ?_⟩
      cases hF : F d with
      | true =>
        refine iteT ?_
        have ds1 := DR.days_snoc (f := F) (b := lo) (c := d) (d := d) (by omega) (Int.le_refl _) hF (fun k w1 w2 => by omega)
        refine ⟨_, rfl, .inl ⟨rfl, _, SqL.of hL4⟩, _, rfl, L, _, _, rfl, rfl, hL4, (by rw [List.length_map]; exact Nat.lt_of_le_of_lt (by omega : (days F lo d).length ≤ 1000) (by decide)), ?_⟩
        refine ⟨fun q u eq => by rw [upd_ne (ne_of_none eq hL)]; exact s4 _ _ eq, by rw [upd_same, ← ds1, List.map_append]; rfl, _, _, _, rfl⟩
      | false =>
        refine iteF ⟨s4, ?_, _, _, _, rfl⟩
        rw [hL4, DR.days_skip (f := F) (b := lo) (c := d) (e := d + 1) (by omega) (by omega) (fun k w1 w2 => by rw [show k = d by omega]; exact hF)]
    rintro σ H5 ⟨s5, hL5, x, g0, y, rfl⟩
    rw [show lo + ((b + 400 - lo).toNat : Int) = b + 400 by omega] at hL5
    exact ⟨_, rfl, k L H5 s5 hL hL5⟩
end
end K35

namespace K35
open PySem L2
open DR (Rl fl days)
section
variable {P : Program} {w : World} {K : PySem.W.Frag} {mg : Str → Option Value} {base : Heap} {a : Adr}
theorem sc_law_changes_are : FnScope ["_law_found", "_law_due_here"] ["_law_found", "_law_due_here"] (defScope s_law_changes_are) := ⟨rfl, rfl, rfl, by decide +kernel, rfl, by decide +kernel, by decide +kernel⟩

theorem ok_law_changes_are (T : TxtL K mg base a) : FnOk P w K mg base CX0 true 2 a.f_law_changes_are a.d_law_changes_are ["_law_found", "_law_due_here"] (sp_law_changes_are) := by
  refine T.F_law_changes_are.ok sc_law_changes_are (fun vs H Q E h => ?_) (fun cdv A outer s H vs Q E hr h => ?_)
  · obtain ⟨p, q, rs, ts, rfl, _⟩ := h; rfl
  · obtain ⟨p, q, rs, ts, rfl, hp, hq, ok1, ok2, es, hl, k⟩ := h
    refine ⟨_, (pss_cons (ps_if (PW.pt (pw_or (pt_not (pt_val (pe_callB (call_isinstK (K := K) rfl) rfl T.n_isinstance (by decide +kernel) (pa_cons (pv 0) (pa_cons (pe_bltn (v := .ty "tuple") rfl T.n_tuple (by decide +kernel) rfl) pa_nil))))) (pw_or1 (pt_cmpR (op_neTup (hu2 hr)) (pv 0) (pv 1) (nomark _))))) (pss_one ps_never) pss_nil)
      (pss_one (ps_ret (pe_callB (call_allK (K := K) rfl rfl) rfl T.n_all (by decide +kernel) (pa_cons (pe_comp (N := ["_law_one"]) (cap := [none]) (by show CompScope (defScope s_law_changes_are) _ ["_law_found", "_law_due_here"] _ _; exact ⟨rfl, by decide +kernel, by decide +kernel, by decide +kernel, by decide +kernel, rfl, by decide +kernel⟩) rfl (pi_tupK (K := K) rfl (pv 0)) (fun C s H fp => ⟨(pg_name (i := 0) (by show (["_law_one"] : List Str).Nodup; decide +kernel) rfl (Or.inl rfl) (.inr rfl)), pf_none, (pe_and (pe_callB (call_isinstK (K := K) rfl) rfl T.n_isinstance (by decide +kernel) (pa_cons (pv 0) (pa_cons (pe_bltn (v := .ty "tuple") rfl T.n_tuple (by decide +kernel) rfl) pa_nil))) (pe_and (pe_call ((ok_law_whole T).mono (by decide)) hr rfl T.m_law_whole T.F_law_whole.kp T.b_law_whole .nil pass0 (pa_cons (pe_ix (ix_tupK (K := K) rfl) (pv 0) pe_int (fun _ _ => rfl)) pa_nil)) (pe_one (pe_call ((ok_law_whole T).mono (by decide)) hr rfl T.m_law_whole T.F_law_whole.kp T.b_law_whole .nil pass0 (pa_cons (pe_ix (ix_tupK (K := K) rfl) (pv 0) pe_int (fun _ _ => rfl)) pa_nil)))))⟩)) pa_nil))))), ?_⟩
    refine ⟨_, rfl, _, _, _, _, rfl, TyOf.tup hp, rfl, _, rfl, iteF ?_⟩
    refine ⟨_, rfl, _, rfl, p, q, rs, ts, rfl, rfl, hp, hq, ok1, ok2, _, rfl, ?_⟩
    rw [decide_eq_true es]
    refine iteF ?_
    refine ⟨_, rfl, p, rfl, ⟨_, SqT.of hp⟩, ?_⟩
    refine comp_pure (seq_tup (SqT.of hp)) (fun _ => true) (fun _ => V.bl true) (by rw [refs_len]; omega) (fun x _ H' _ R hR => hR H' (Same.refl _)) ?_ (fun D H1 s1 hD0 hD => ?_)
    · intro x hx _ H' sm R hR
      obtain ⟨y, hy, rfl⟩ := List.mem_map.mp hx
      have hy1 := sm _ _ (ok1 y hy)
      refine ⟨_, rfl, _, _, _, _, rfl, TyOf.tup hy1, rfl, _, rfl, iteT ?_⟩
      refine ⟨_, rfl, y.1, _, _, _, rfl, rfl, SqT.of hy1, rfl, _, rfl, _, rfl, iteT ?_⟩
      exact ⟨_, rfl, y.1, _, _, _, rfl, rfl, SqT.of hy1, rfl, _, rfl, hR H' (Same.refl _)⟩
    have hD' : H1 D = some (.lst ((rs.map fun _ => true).map V.bl)) := by rw [hD, List.filter_eq_self.mpr (fun _ _ => rfl), List.map_map]; unfold refs; rw [List.map_map]; rfl
    refine ⟨D, _, rfl, SqL.of hD', ?_⟩
    have ea : rs.all (id ∘ fun _ => true) = true := List.all_eq_true.mpr (fun _ _ => rfl)
    rw [List.all_map, ea]
    exact k H1 s1
end
end K35

namespace K35
open PySem L2
open DR (Rl fl days)
section
variable {P : Program} {w : World} {K : PySem.W.Frag} {mg : Str → Option Value} {base : Heap} {a : Adr}
theorem sc_Every___init : FnScope ["self", "step", "first"] ["self", "step", "first"] (defScope s_Every___init) := ⟨rfl, rfl, rfl, by decide +kernel, rfl, by decide +kernel, by decide +kernel⟩

theorem ok_Every___init (T : TxtL K mg base a) : FnOk P w K mg base CX0 true 3 a.f_Every___init a.d_Every___init ["self", "step", "first"] (sp_Every_init (ad a)) := by
  refine T.F_Every___init.ok sc_Every___init (fun vs H Q E h => ?_) (fun cdv A outer s H vs Q E hr h => ?_)
  · obtain ⟨x, dx, st, fi, rfl, _⟩ := h; rfl
  · obtain ⟨x, dx, st, fi, rfl, hx, s1, s2, b0, b1, k⟩ := h
    refine ⟨_, (pss_cons (ps_expr (pe_call ((ok_check_bounds T).mono (by decide)) hr rfl T.m_check_bounds T.F_check_bounds.kp T.b_check_bounds .nil pass0 (pa_cons (pv 1) (pa_cons pe_int (pa_cons (pe_op op_sub (pe_globI rfl T.g_DAYS) pe_int) pa_nil)))))
      (pss_cons (ps_expr (pe_call ((ok_check_day T).mono (by decide)) hr rfl T.m_check_day T.F_check_day.kp T.b_check_day .nil pass0 (pa_cons (pv 2) pa_nil)))
      (pss_cons (ps_fldK (K := K) rfl (pv 0) (pv 1))
      (pss_one (ps_fldK (K := K) rfl (pv 0) (pv 2)))))), ?_⟩
    refine ⟨_, rfl, _, _, rfl, rfl, _, _, _, rfl, s1, (by show st ≤ 146096; omega), ?_⟩
    refine ⟨_, rfl, fi, rfl, b0, b1, ?_⟩
    refine ⟨_, rfl, _, rfl, x, _, dx, _, rfl, hx, T.cl_Every, T.n_Every_step, (by show 0 < 1000; decide), ?_⟩
    rw [pf_step]
    refine ⟨_, rfl, _, rfl, x, _, dx, _, rfl, upd_same, T.cl_Every, T.n_Every_first, (by show 1 < 1000; decide), ?_⟩
    rw [pf_first]
    exact k _ (fun c u hc e => by rw [upd_ne hc, upd_ne hc]; exact e) ⟨⟨s1, s2, b0, b1⟩, dx, upd_same⟩
end
end K35

namespace K35
open PySem L2
open DR (Rl fl days)
section
variable {P : Program} {w : World} {K : PySem.W.Frag} {mg : Str → Option Value} {base : Heap} {a : Adr}
theorem sc_Days___init : FnScope ["self", "days", "day"] ["self", "days"] (defScope s_Days___init) := ⟨rfl, rfl, rfl, by decide +kernel, rfl, by decide +kernel, by decide +kernel⟩

theorem ok_Days___init (T : TxtL K mg base a) : FnOk P w K mg base CX0 true 3 a.f_Days___init a.d_Days___init ["self", "days"] (sp_Days_init (ad a)) := by
  refine T.F_Days___init.ok sc_Days___init (fun vs H Q E h => ?_) (fun cdv A outer s H vs Q E hr h => ?_)
  · obtain ⟨x, dx, p, ds, rfl, _⟩ := h; rfl
  · obtain ⟨x, dx, p, ds, rfl, hx, hp, hl0, hb, k⟩ := h
    refine ⟨_, (pss_cons (ps_for PassesOwn.never rfl (pi_tupK (K := K) rfl (pv 1)) (pg_name (i := 2) sc_Days___init.nd rfl (Or.inl rfl)) (pss_one (ps_expr (pe_call ((ok_check_day T).mono (by decide)) hr rfl T.m_check_day T.F_check_day.kp T.b_check_day .nil pass0 (pa_cons (pv 2) pa_nil)))))
      (pss_one (ps_fldK (K := K) rfl (pv 0) (pe_callTy (call_tuple_ofK (K := K) rfl) rfl T.n_tuple (by decide +kernel) (pa_cons (pe_callB (call_sortedS rfl) rfl T.n_sorted (by decide +kernel) (pa_cons (pe_callTy (call_setT rfl) rfl T.n_set (by decide +kernel) (pa_cons (pv 1) pa_nil)) pa_nil)) pa_nil))))), ?_⟩
    refine ⟨_, rfl, p, rfl, ⟨_, SqT.of hp⟩, ?_⟩
    refine for_seq (seq_tup (SqT.of hp)) (fun i σ H' => H' = H ∧ ∃ y, σ = [some (.ref x), some (.ref p), y]) ⟨rfl, _, rfl⟩ (fun _ _ _ _ h => h.1 ▸ Same.refl _) ?_ ?_
    · rintro i v σ H1 hv ⟨rfl, y, rfl⟩
      obtain ⟨b, hbm, rfl⟩ := List.mem_map.mp (List.mem_of_getElem? hv)
      obtain ⟨b0, b1⟩ := hb b hbm
      exact ⟨_, rfl, b, rfl, b0, b1, rfl, _, rfl⟩
    rintro σ H1 ⟨rfl, y, rfl⟩
    refine ⟨_, rfl, p, ds, rfl, hp, (by omega), fun D qs hD hmem hnd => ?_⟩
    have u1 := same_upd (o := .ext (SetI P w D qs)) hD
    refine ⟨D, qs, rfl, upd_same, fun D2 ms hD2 hpm hlt => ?_⟩
    have hms : ∀ z, z ∈ ms ↔ z ∈ ds := fun z => by rw [hpm.mem_iff, hmem]
    have hlen : ms.length ≤ 1000 := by
      have := nd_len hlt fun z hz => (hms z).mp hz
      omega
    have u2 := same_upd (o := .lst (ms.map V.int)) hD2
    refine ⟨D2, _, rfl, .inl ⟨SqL.of upd_same, fun d hd => ?_⟩⟩
    have u3 := same_upd (o := .tup (ms.map V.int)) hd
    have U := (u1.trans u2).trans u3
    have nd : d ≠ x := fun e => by rw [e, (u1.trans u2) _ _ hx] at hd; cases hd
    refine ⟨_, rfl, x, _, dx, _, rfl, U _ _ hx, T.cl_Days, T.n_Days_days, (by show 0 < 1000; decide), ?_⟩
    rw [pf_days]
    exact k _ (fun c u hc e => by rw [upd_ne hc]; exact U _ _ e) ⟨dx, d, ms, upd_same, by rw [upd_ne nd]; exact upd_same, hlt, hlen, hms⟩
end
end K35

namespace K35
open PySem L2
open DR (Rl fl days)
section
variable {P : Program} {w : World} {K : PySem.W.Frag} {mg : Str → Option Value} {base : Heap} {a : Adr}
theorem sc_Where_next_in : FnScope ["self", "day", "end", "found"] ["self", "day", "end"] (defScope s_Where_next_in) := ⟨rfl, rfl, rfl, by decide +kernel, rfl, by decide +kernel, by decide +kernel⟩

theorem ok_Where_next_in (T : TxtL K mg base a) : FnOk P w K mg base CX0 true 3 a.f_Where_next_in a.d_Where_next_in ["self", "day", "end"] (sp_Where_next_in (ad a)) := by
  refine T.F_Where_next_in.ok sc_Where_next_in (fun vs H Q E h => ?_) (fun cdv A outer s H vs Q E hr h => ?_)
  · obtain ⟨x, b, e, st, re, rfl, _⟩ := h; rfl
  · obtain ⟨x, b, e, st, re, rfl, hr0, b0, b1, e0, e1, k1, k2⟩ := h
    refine ⟨_, (pss_cons (ps_for PassesOwn.never rfl (pi_range2 rfl T.n_range (pa_cons (pe_callB (call_max2 rfl) rfl T.n_max (by decide +kernel) (pa_cons (pv 1) (pa_cons pe_int pa_nil))) (pa_cons (pe_callB (call_min2 rfl) rfl T.n_min (by decide +kernel) (pa_cons (pv 2) (pa_cons (pe_globI rfl T.g_DAYS) pa_nil))) pa_nil))) (pg_name (i := 3) sc_Where_next_in.nd rfl (Or.inl rfl)) (pss_one (ps_if (pt_val (pe_methV (n := 1) (D := fun C R => (C = a.x_Where ∧ R = fun x vs H Q => (sp_Where_falls_on (ad a)) (x :: (vs ++ ([] : List V))) H Q E0)) (pv 0) (by rintro C R ⟨rfl, rfl⟩ <;> first | exact ⟨T.cl_Where, _, _, _, _, _, _, _, _, _, _, T.me_Where_falls_on, (ok_Where_falls_on T).mono (by decide), hr, T.b_Where_falls_on, .nil, pass0, fun _ _ _ _ _ h => h⟩) (pa_cons (pv 3) pa_nil))) (pss_one (ps_ret (pv 3))) pss_nil)))
      (pss_one (ps_ret pe_non))), ?_⟩
    obtain ⟨s1, dx, f, hx, cl, cd, L⟩ := id hr0
    refine ⟨_, rfl, _, _, rfl, ?_⟩
    rw [if_neg (show ¬ (0 : Int) > b by omega)]
    refine ⟨_, rfl, _, _, rfl, ?_⟩
    rw [if_neg (show ¬ (146097 : Int) < e by omega)]
    refine ⟨_, _, rfl, ⟨by omega, by omega, by omega, by omega⟩, ?_⟩
    refine for_range (fun i σ H' => H' = H ∧ (∀ k, b ≤ k → k < b + (i : Int) → DR.fl (.wh st re) k = false) ∧ ∃ y, σ = [some (.ref x), some (.int b), some (.int e), y]) ⟨rfl, (fun k h1 h2 => by omega), _, rfl⟩ ?_ ?_
    · rintro i σ H1 hi ⟨rfl, hn, y, rfl⟩
      refine ⟨_, rfl, x, _, dx, _, _, rfl, hx, nometh1 _ _ _ (by decide +kernel), ⟨rfl, rfl⟩, _, rfl, rfl, x, _, st, re, rfl, hr0, by omega, by omega, _, rfl, ?_⟩
      cases hv : DR.fl (.wh st re) (b + (i : Int)) with
      | true => exact iteT ⟨_, rfl, k1 _ (by omega) (by omega) hv hn⟩
      | false =>
        refine iteF ⟨rfl, fun k h1 h2 => ?_, _, rfl⟩
        by_cases hk : k = b + (i : Int)
        · rw [hk]; exact hv
        · exact hn k h1 (by omega)
    · rintro σ H1 ⟨rfl, hn, y, rfl⟩
      exact k2 fun k h1 h2 => hn k h1 (by omega)
end
end K35

namespace K35
open PySem L2
open DR (Rl fl days)
section
variable {P : Program} {w : World} {K : PySem.W.Frag} {mg : Str → Option Value} {base : Heap} {a : Adr}
theorem sc_Place___init : FnScope ["self", "name", "offset", "changes"] ["self", "name", "offset", "changes"] (defScope s_Place___init) := ⟨rfl, rfl, rfl, by decide +kernel, rfl, by decide +kernel, by decide +kernel⟩

theorem ok_Place___init (T : TxtL K mg base a) : FnOk P w K mg base CX0 true 3 a.f_Place___init a.d_Place___init ["self", "name", "offset", "changes"] (sp_init a.x_Place) := by
  refine T.F_Place___init.ok sc_Place___init (fun vs H Q E h => ?_) (fun cdv A outer s H vs Q E hr h => ?_)
  · obtain ⟨x, dx, nm, o, v, cs, rfl, _⟩ := h; rfl
  · obtain ⟨x, dx, nm, o, v, cs, rfl, hx, hn, hnl, ho1, ho2, hb, hv, k⟩ := h
    refine ⟨_, (pss_cons (ps_if (pt_not (pt_val (pe_call ((ok_is_name T).mono (by decide)) hr rfl T.m_is_name T.F_is_name.kp T.b_is_name .nil pass0 (pa_cons (pv 1) pa_nil)))) (pss_one ps_never) pss_nil)
      (pss_cons (ps_expr (pe_call ((ok_check_offset T).mono (by decide)) hr rfl T.m_check_offset T.F_check_offset.kp T.b_check_offset .nil pass0 (pa_cons (pv 2) pa_nil)))
      (pss_cons (ps_fldK (K := K) rfl (pv 0) (pv 1))
      (pss_cons (ps_fldK (K := K) rfl (pv 0) (pv 2))
      (pss_cons (ps_fldK (K := K) rfl (pv 0) (pe_ifExp (pt_cmpR op_isN (pv 3) pe_non (nomark _)) (pe_tup pa_nil) (pe_callTy (call_tuple_ofK (K := K) rfl) rfl T.n_tuple (by decide +kernel) (pa_cons (pv 3) pa_nil))))
      (pss_cons (ps_expr (pe_call ((ok_check_changes T).mono (by decide)) hr rfl T.m_check_changes T.F_check_changes.kp T.b_check_changes .nil pass0 (pa_cons (pe_fldK (K := K) rfl (pv 0)) pa_nil)))
      (pss_one (ps_fldK (K := K) rfl (pv 0) (pe_callTy (call_tuple_ofK (K := K) rfl) rfl T.n_tuple (by decide +kernel) (pa_cons (pe_comp (N := ["moment", "later"]) (cap := [none, none]) (by show CompScope (defScope s_Place___init) _ ["self", "name", "offset", "changes"] _ _; exact ⟨rfl, by decide +kernel, by decide +kernel, by decide +kernel, by decide +kernel, rfl, by decide +kernel⟩) rfl (pi_tupK (K := K) rfl (pe_fldK (K := K) rfl (pv 0))) (fun C s H fp => ⟨(pg_tupK (K := K) (n := 2) rfl rfl (pgs_cons (pg_name (i := 0) (by show (["moment", "later"] : List Str).Nodup; decide +kernel) rfl (Or.inl rfl) (.inr rfl)) (pgs_cons (pg_name (i := 1) (by show (["moment", "later"] : List Str).Nodup; decide +kernel) rfl (Or.inl rfl) (.inr rfl)) pgs_nil))), pf_none, (pv 0)⟩)) pa_nil)))))))))), ?_⟩
    refine ⟨_, rfl, nm, rfl, hnl, fun H1 s1 => ⟨_, rfl, ?_⟩⟩
    rw [hn]
    refine iteF ?_
    refine ⟨_, rfl, _, rfl, ho1, ho2, ?_⟩
    refine ⟨_, rfl, _, rfl, x, _, dx, _, rfl, s1 _ _ hx, T.cl_Place, T.n_Place_name, (by show 0 < 1000; decide), ?_⟩
    rw [putf1]
    refine ⟨_, rfl, _, rfl, x, _, dx, _, rfl, upd_same, T.cl_Place, T.n_Place_offset, (by show 1 < 1000; decide), ?_⟩
    rw [putf2]
    have X2 : SameX x H (upd (upd H1 x (.ins a.x_Place dx [(sN, .str nm)])) x (.ins a.x_Place dx [(sN, .str nm), (sO, .int o)])) := fun b u hb e => by
      rw [upd_ne hb, upd_ne hb]
      exact s1 _ _ e
    rcases hv with ⟨rfl, rfl⟩ | ⟨ch, rfl, hch, hok⟩
    · refine ⟨_, rfl, rfl, _, rfl, ?_⟩
      refine ite2 (fun _ => ?_) (fun z => absurd (decide_eq_true rfl) z)
      refine ⟨by decide, fun ch hch => ?_⟩
      have nch : ch ≠ x := fun e => by rw [e, upd_same] at hch; cases hch
      refine ⟨_, rfl, x, _, dx, _, rfl, same_upd hch _ _ upd_same, T.cl_Place, T.n_Place_changes, (by show 2 < 1000; decide), ?_⟩
      rw [putf3]
      have f1 : (upd (upd (upd (upd H1 x (.ins a.x_Place dx [(sN, .str nm)])) x (.ins a.x_Place dx [(sN, .str nm), (sO, .int o)])) ch (.tup [])) x (.ins a.x_Place dx [(sN, .str nm), (sO, .int o), (sC, .ref ch)])) x = some (.ins a.x_Place dx [(sN, .str nm), (sO, .int o), (sC, .ref ch)]) := upd_same
      have f2 : (upd (upd (upd (upd H1 x (.ins a.x_Place dx [(sN, .str nm)])) x (.ins a.x_Place dx [(sN, .str nm), (sO, .int o)])) ch (.tup [])) x (.ins a.x_Place dx [(sN, .str nm), (sO, .int o), (sC, .ref ch)])) ch = some (.tup (refs [])) := by rw [upd_ne nch]; exact upd_same
      have f3 : RowOk (upd (upd (upd (upd H1 x (.ins a.x_Place dx [(sN, .str nm)])) x (.ins a.x_Place dx [(sN, .str nm), (sO, .int o)])) ch (.tup [])) x (.ins a.x_Place dx [(sN, .str nm), (sO, .int o), (sC, .ref ch)])) [] := RowOk.nil
      have f4 : SameX x H (upd (upd (upd (upd H1 x (.ins a.x_Place dx [(sN, .str nm)])) x (.ins a.x_Place dx [(sN, .str nm), (sO, .int o)])) ch (.tup [])) x (.ins a.x_Place dx [(sN, .str nm), (sO, .int o), (sC, .ref ch)])) := fun b u hb e => by
        rw [upd_ne hb]
        exact same_upd hch _ _ (X2 b u hb e)
      refine ⟨_, rfl, x, _, dx, _, _, rfl, f1, T.cl_Place, T.n_Place_changes, look_c3 _ _ _, ch, [], rfl, f2, f3, hb, ?_⟩
      refine ⟨_, rfl, x, _, dx, _, _, rfl, f1, T.cl_Place, T.n_Place_changes, look_c3 _ _ _, ch, rfl, ⟨_, SqT.of f2⟩, ?_⟩
      refine comp_pair (K := K) (seq_tup (SqT.of f2)) f3 (fun _ => true) (fun c => .int c.1) (by have := hb.2.1; omega) (fun y hy H' _ R hR => hR H' (Same.refl _)) (fun y hy _ H' _ R hR => ⟨_, rfl, hR H' (Same.refl _)⟩) (fun D H4 s4 hD0 hD => ?_)
      refine ⟨D, _, rfl, .inl ⟨SqL.of hD, fun ms hms => ?_⟩⟩
      rw [mom_vals]
      have g1 := s4 _ _ f1
      have g2 := s4 _ _ f2
      have nx : ms ≠ x := fun e => by rw [e, g1] at hms; cases hms
      refine ⟨_, rfl, x, _, dx, _, rfl, same_upd hms _ _ g1, T.cl_Place, T.n_Place_moments, (by show 3 < 1000; decide), ?_⟩
      rw [putf4]
      refine k ch ms _ (fun b u hb' e => ?_) ⟨⟨dx, upd_same⟩, ?_, fun y hy => ?_, ?_, hb.1, hb.2.1⟩
      · rw [upd_ne hb']
        exact same_upd hms _ _ (s4 _ _ (f4 b u hb' e))
      · rw [upd_ne nch]
        exact same_upd hms _ _ g2
      · have z := f3 y hy
        rw [upd_ne (fun e => by rw [e, f1] at z; cases z)]
        exact same_upd hms _ _ (s4 _ _ z)
      · rw [upd_ne nx]
        exact upd_same
    · refine ⟨_, rfl, rfl, _, rfl, ?_⟩
      refine ite2 (fun z => absurd (of_decide_eq_true z) (fun e => nomatch e)) (fun _ => ?_)
      have nch : ch ≠ x := fun e => by rw [e, hx] at hch; cases hch
      have e2 := X2 ch _ nch hch
      refine ⟨_, rfl, ch, _, rfl, .inr ⟨SqT.of e2, ?_⟩⟩
      refine ⟨_, rfl, x, _, dx, _, rfl, upd_same, T.cl_Place, T.n_Place_changes, (by show 2 < 1000; decide), ?_⟩
      rw [putf3]
      have f1 : (upd (upd (upd H1 x (.ins a.x_Place dx [(sN, .str nm)])) x (.ins a.x_Place dx [(sN, .str nm), (sO, .int o)])) x (.ins a.x_Place dx [(sN, .str nm), (sO, .int o), (sC, .ref ch)])) x = some (.ins a.x_Place dx [(sN, .str nm), (sO, .int o), (sC, .ref ch)]) := upd_same
      have f2 : (upd (upd (upd H1 x (.ins a.x_Place dx [(sN, .str nm)])) x (.ins a.x_Place dx [(sN, .str nm), (sO, .int o)])) x (.ins a.x_Place dx [(sN, .str nm), (sO, .int o), (sC, .ref ch)])) ch = some (.tup (refs cs)) := by rw [upd_ne nch]; exact e2
      have f3 : RowOk (upd (upd (upd H1 x (.ins a.x_Place dx [(sN, .str nm)])) x (.ins a.x_Place dx [(sN, .str nm), (sO, .int o)])) x (.ins a.x_Place dx [(sN, .str nm), (sO, .int o), (sC, .ref ch)])) cs := fun y hy => by
        have z := hok y hy
        have n : y.1 ≠ x := fun e => by rw [e, hx] at z; cases z
        rw [upd_ne n]
        exact X2 _ _ n z
      have f4 : SameX x H (upd (upd (upd H1 x (.ins a.x_Place dx [(sN, .str nm)])) x (.ins a.x_Place dx [(sN, .str nm), (sO, .int o)])) x (.ins a.x_Place dx [(sN, .str nm), (sO, .int o), (sC, .ref ch)])) := fun b u hb e => by
        rw [upd_ne hb]
        exact X2 b u hb e
      refine ⟨_, rfl, x, _, dx, _, _, rfl, f1, T.cl_Place, T.n_Place_changes, look_c3 _ _ _, ch, cs, rfl, f2, f3, hb, ?_⟩
      refine ⟨_, rfl, x, _, dx, _, _, rfl, f1, T.cl_Place, T.n_Place_changes, look_c3 _ _ _, ch, rfl, ⟨_, SqT.of f2⟩, ?_⟩
      refine comp_pair (K := K) (seq_tup (SqT.of f2)) f3 (fun _ => true) (fun c => .int c.1) (by have := hb.2.1; omega) (fun y hy H' _ R hR => hR H' (Same.refl _)) (fun y hy _ H' _ R hR => ⟨_, rfl, hR H' (Same.refl _)⟩) (fun D H4 s4 hD0 hD => ?_)
      refine ⟨D, _, rfl, .inl ⟨SqL.of hD, fun ms hms => ?_⟩⟩
      rw [mom_vals]
      have g1 := s4 _ _ f1
      have g2 := s4 _ _ f2
      have nx : ms ≠ x := fun e => by rw [e, g1] at hms; cases hms
      refine ⟨_, rfl, x, _, dx, _, rfl, same_upd hms _ _ g1, T.cl_Place, T.n_Place_moments, (by show 3 < 1000; decide), ?_⟩
      rw [putf4]
      refine k ch ms _ (fun b u hb' e => ?_) ⟨⟨dx, upd_same⟩, ?_, fun y hy => ?_, ?_, hb.1, hb.2.1⟩
      · rw [upd_ne hb']
        exact same_upd hms _ _ (s4 _ _ (f4 b u hb' e))
      · rw [upd_ne nch]
        exact same_upd hms _ _ g2
      · have z := f3 y hy
        rw [upd_ne (fun e => by rw [e, f1] at z; cases z)]
        exact same_upd hms _ _ (s4 _ _ z)
      · rw [upd_ne nx]
        exact upd_same
end
end K35

namespace K35
open PySem L2
open DR (Rl fl days)
section
variable {P : Program} {w : World} {K : PySem.W.Frag} {mg : Str → Option Value} {base : Heap} {a : Adr}
theorem sc_offset_at : FnScope ["place", "moment"] ["place", "moment"] (defScope s_offset_at) := ⟨rfl, rfl, rfl, by decide +kernel, rfl, by decide +kernel, by decide +kernel⟩

theorem ok_offset_at (T : TxtL K mg base a) : FnOk P w K mg base CX0 true 3 a.f_offset_at a.d_offset_at ["place", "moment"] (sp_offset_at a.x_Place) := by
  refine T.F_offset_at.ok sc_offset_at (fun vs H Q E h => ?_) (fun cdv A outer s H vs Q E hr h => ?_)
  · obtain ⟨x, nm, own, ch, ms, cs, m, rfl, _⟩ := h; rfl
  · obtain ⟨x, nm, own, ch, ms, cs, m, rfl, pl, k⟩ := h
    refine ⟨_, (pss_one (ps_ret (pe_call ((ok_offset_behind T).mono (by decide)) hr rfl T.m_offset_behind T.F_offset_behind.kp T.b_offset_behind .nil pass0 (pa_cons (pv 0) (pa_cons (pe_call ((ok_changes_until T).mono (by decide)) hr rfl T.m_changes_until T.F_changes_until.kp T.b_changes_until .nil pass0 (pa_cons (pv 0) (pa_cons (pv 1) pa_nil))) pa_nil))))), ?_⟩
    exact ⟨_, rfl, _, rfl, _, rfl, x, nm, own, ch, ms, cs, m, rfl, pl, x, nm, own, ch, ms, cs, _, rfl, pl, by rw [← sps_len]; exact DC.cnt_le _ _, k⟩
end
end K35

namespace K35
open PySem L2
open DR (Rl fl days)
section
variable {P : Program} {w : World} {K : PySem.W.Frag} {mg : Str → Option Value} {base : Heap} {a : Adr}
theorem sc_Rule_days_in : FnScope ["self", "begin", "end", "found", "day"] ["self", "begin", "end"] (defScope s_Rule_days_in) := ⟨rfl, rfl, rfl, by decide +kernel, rfl, by decide +kernel, by decide +kernel⟩

theorem ok_Rule_days_in (T : TxtL K mg base a) : FnOk P w K mg base CX0 true 4 a.f_Rule_days_in a.d_Rule_days_in ["self", "begin", "end"] (sp_Rule_days_in (ad a)) := by
  refine T.F_Rule_days_in.ok sc_Rule_days_in (fun vs H Q E h => ?_) (fun cdv A outer s H vs Q E hr h => ?_)
  · obtain ⟨x, b, e, r, rfl, _⟩ := h; rfl
  · obtain ⟨x, b, e, r, rfl, hr0, hne, ⟨b0, b1, e0, e1, hz⟩, k⟩ := h
    refine ⟨_, (pss_cons (ps_set (i := 3) sc_Rule_days_in.nd rfl (Or.inl rfl) (pe_lst pa_nil))
      (pss_cons (ps_set (i := 4) sc_Rule_days_in.nd rfl (Or.inl rfl) (pe_methV (n := 2) (D := fun C R => (C = a.x_Rule ∧ R = fun x vs H Q => (sp_Rule_next_in) (x :: (vs ++ ([] : List V))) H Q E0) ∨ (C = a.x_Days ∧ R = fun x vs H Q => (sp_Days_next_in (ad a)) (x :: (vs ++ ([] : List V))) H Q E0) ∨ (C = a.x_Where ∧ R = fun x vs H Q => (sp_Where_next_in (ad a)) (x :: (vs ++ ([] : List V))) H Q E0)) (pv 0) (by rintro C R (⟨rfl, rfl⟩ | ⟨rfl, rfl⟩ | ⟨rfl, rfl⟩) <;> first | exact ⟨T.cl_Rule, _, _, _, _, _, _, _, _, _, _, T.me_Rule_next_in, (ok_Rule_next_in T).mono (by decide), hr, T.b_Rule_next_in, .nil, pass0, fun _ _ _ _ _ h => h⟩ | exact ⟨T.cl_Days, _, _, _, _, _, _, _, _, _, _, T.me_Days_next_in, (ok_Days_next_in T).mono (by decide), hr, T.b_Days_next_in, .nil, pass0, fun _ _ _ _ _ h => h⟩ | exact ⟨T.cl_Where, _, _, _, _, _, _, _, _, _, _, T.me_Where_next_in, (ok_Where_next_in T).mono (by decide), hr, T.b_Where_next_in, .nil, pass0, fun _ _ _ _ _ h => h⟩) (pa_cons (pv 1) (pa_cons (pv 2) pa_nil))))
      (pss_cons (ps_while PassesOwn.never (pt_cmpR op_notN (pv 4) pe_non (nomark _)) (pss_cons (ps_expr (pe_bm PySem.F.plainAttrs_list PySem.F.slot_list_append PySem.F.type_list_append mt_append (pv 3) (pa_cons (pv 4) pa_nil)))
      (pss_one (ps_set (i := 4) sc_Rule_days_in.nd rfl (Or.inl rfl) (pe_methV (n := 2) (D := fun C R => (C = a.x_Rule ∧ R = fun x vs H Q => (sp_Rule_next_in) (x :: (vs ++ ([] : List V))) H Q E0) ∨ (C = a.x_Days ∧ R = fun x vs H Q => (sp_Days_next_in (ad a)) (x :: (vs ++ ([] : List V))) H Q E0) ∨ (C = a.x_Where ∧ R = fun x vs H Q => (sp_Where_next_in (ad a)) (x :: (vs ++ ([] : List V))) H Q E0)) (pv 0) (by rintro C R (⟨rfl, rfl⟩ | ⟨rfl, rfl⟩ | ⟨rfl, rfl⟩) <;> first | exact ⟨T.cl_Rule, _, _, _, _, _, _, _, _, _, _, T.me_Rule_next_in, (ok_Rule_next_in T).mono (by decide), hr, T.b_Rule_next_in, .nil, pass0, fun _ _ _ _ _ h => h⟩ | exact ⟨T.cl_Days, _, _, _, _, _, _, _, _, _, _, T.me_Days_next_in, (ok_Days_next_in T).mono (by decide), hr, T.b_Days_next_in, .nil, pass0, fun _ _ _ _ _ h => h⟩ | exact ⟨T.cl_Where, _, _, _, _, _, _, _, _, _, _, T.me_Where_next_in, (ok_Where_next_in T).mono (by decide), hr, T.b_Where_next_in, .nil, pass0, fun _ _ _ _ _ h => h⟩) (pa_cons (pe_op op_add (pv 4) pe_int) (pa_cons (pv 2) pa_nil)))))))
      (pss_one (ps_ret (pv 3)))))), ?_⟩
    refine ⟨(by show 0 ≤ sizeLine; decide), fun L hL => ?_⟩
    have u1 := same_upd (o := .lst []) hL
    cases r with
    | ev st fi => exact absurd rfl (hne st fi)
    | nv =>
      obtain ⟨dx, hx⟩ := hr0
      refine ⟨_, rfl, x, _, dx, _, _, rfl, u1 _ _ hx, rfl, .inl ⟨rfl, rfl⟩, _, rfl, _, rfl, rfl, x, b, e, rfl, ?_⟩
      refine ⟨fun m σ H' => H' = upd H L (.lst []) ∧ σ = [some (.ref x), some (.int b), some (.int e), some (.ref L), some .non], ⟨0, rfl, rfl⟩, ?_⟩
      rintro m σ H1 ⟨rfl, rfl⟩
      refine ⟨_, rfl, rfl, _, rfl, ite2 (fun z => absurd z (by decide)) (fun _ => ?_)⟩
      exact ⟨_, rfl, k L _ u1 (by rw [upd_same, DR.days_none (f := fl .nv) (fun _ _ _ => rfl)]; rfl)⟩
    | dy ds =>
      obtain ⟨dx, d0, ms, hx, _⟩ := id hr0
      refine ⟨_, rfl, x, _, dx, _, _, rfl, u1 _ _ hx, nometh1 _ _ _ (by decide +kernel), .inr (.inl ⟨rfl, rfl⟩), _, rfl, _, rfl, rfl, x, b, e, ds, rfl, RuleAt.up hr0 u1, fun d h1 h2 h3 h4 => ?_, fun hn => ?_⟩
      · refine ⟨fun m σ H' => Same H H' ∧ ((∃ d, m = (e - d).toNat + 1 ∧ b ≤ d ∧ d < e ∧ fl (Rl.dy ds) d = true ∧ H' L = some (.lst ((days (fl (Rl.dy ds)) b d).map V.int)) ∧ σ = [some (.ref x), some (.int b), some (.int e), some (.ref L), some (.int d)]) ∨ (m = 0 ∧ H' L = some (.lst ((days (fl (Rl.dy ds)) b e).map V.int)) ∧ σ = [some (.ref x), some (.int b), some (.int e), some (.ref L), some .non])), ⟨_, u1, .inl ⟨d, rfl, h1, h2, h3, by rw [upd_same, DR.days_none h4]; rfl, rfl⟩⟩, ?_⟩
        rintro m σ H1 ⟨s1, ⟨d, rfl, g1, g2, g3, hL1, rfl⟩ | ⟨rfl, hL1, rfl⟩⟩
        · refine ⟨_, rfl, rfl, _, rfl, ite2 (fun _ => ?_) (fun z => absurd (by rw [decide_eq_false (fun e => nomatch e)]; rfl) z)⟩
          have hlen := DR.days_len (fl (Rl.dy ds)) b d
          have ds1 := DR.days_snoc (f := fl (Rl.dy ds)) (b := b) (c := d) (d := d) g1 (Int.le_refl _) g3 (fun k w1 w2 => by omega)
          refine ⟨fun σ' H' => ∃ m', m' < (e - d).toNat + 1 ∧ Same H H' ∧ ((∃ d', m' = (e - d').toNat + 1 ∧ b ≤ d' ∧ d' < e ∧ fl (Rl.dy ds) d' = true ∧ H' L = some (.lst ((days (fl (Rl.dy ds)) b d').map V.int)) ∧ σ' = [some (.ref x), some (.int b), some (.int e), some (.ref L), some (.int d')]) ∨ (m' = 0 ∧ H' L = some (.lst ((days (fl (Rl.dy ds)) b e).map V.int)) ∧ σ' = [some (.ref x), some (.int b), some (.int e), some (.ref L), some .non])), fun σ' H' h => h, ?_⟩
          refine ⟨_, rfl, .inl ⟨rfl, _, SqL.of hL1⟩, _, rfl, L, _, _, rfl, rfl, hL1, (by rw [List.length_map]; exact Nat.lt_of_le_of_lt (by omega : (days (fl (Rl.dy ds)) b d).length ≤ 1000) (by decide)), ?_⟩
          have s2 : Same H (upd H1 L (.lst ((days (fl (Rl.dy ds)) b d).map V.int ++ [.int d]))) := fun c u ec => by rw [upd_ne (ne_of_none ec hL)]; exact s1 _ _ ec
          have hL2 : (upd H1 L (.lst ((days (fl (Rl.dy ds)) b d).map V.int ++ [.int d]))) L = some (.lst ((days (fl (Rl.dy ds)) b (d + 1)).map V.int)) := by rw [upd_same, ← ds1, List.map_append]; rfl
          generalize upd H1 L (.lst ((days (fl (Rl.dy ds)) b d).map V.int ++ [.int d])) = H2 at *
          refine ⟨_, rfl, x, _, dx, _, _, rfl, s2 _ _ hx, nometh1 _ _ _ (by decide +kernel), .inr (.inl ⟨rfl, rfl⟩), _, rfl, _, _, rfl, rfl, _, rfl, rfl, x, _, e, ds, rfl, RuleAt.up hr0 s2, fun d' h1' h2' h3' h4' => ?_, fun hn => ?_⟩
          · exact ⟨_, by omega, s2, .inl ⟨d', rfl, by omega, h2', h3', by rw [hL2, DR.days_skip (by omega) h1' h4'], rfl⟩⟩
          · exact ⟨0, by omega, s2, .inr ⟨rfl, by rw [hL2, DR.days_skip (by omega) (by omega) hn], rfl⟩⟩
        · refine ⟨_, rfl, rfl, _, rfl, ite2 (fun z => absurd z (by decide)) (fun _ => ?_)⟩
          exact ⟨_, rfl, k L _ s1 hL1⟩
      · refine ⟨fun m σ H' => H' = upd H L (.lst []) ∧ σ = [some (.ref x), some (.int b), some (.int e), some (.ref L), some .non], ⟨0, rfl, rfl⟩, ?_⟩
        rintro m σ H1 ⟨rfl, rfl⟩
        refine ⟨_, rfl, rfl, _, rfl, ite2 (fun z => absurd z (by decide)) (fun _ => ?_)⟩
        exact ⟨_, rfl, k L _ u1 (by rw [upd_same, DR.days_none hn]; rfl)⟩
    | wh st re =>
      obtain ⟨s0, dx, f, hx, _⟩ := id hr0
      refine ⟨_, rfl, x, _, dx, _, _, rfl, u1 _ _ hx, nometh1 _ _ _ (by decide +kernel), .inr (.inr ⟨rfl, rfl⟩), _, rfl, _, rfl, rfl, x, b, e, st, re, rfl, RuleAt.up hr0 u1, by omega, by omega, by omega, by omega, fun d h1 h2 h3 h4 => ?_, fun hn => ?_⟩
      · refine ⟨fun m σ H' => Same H H' ∧ ((∃ d, m = (e - d).toNat + 1 ∧ b ≤ d ∧ d < e ∧ fl (Rl.wh st re) d = true ∧ H' L = some (.lst ((days (fl (Rl.wh st re)) b d).map V.int)) ∧ σ = [some (.ref x), some (.int b), some (.int e), some (.ref L), some (.int d)]) ∨ (m = 0 ∧ H' L = some (.lst ((days (fl (Rl.wh st re)) b e).map V.int)) ∧ σ = [some (.ref x), some (.int b), some (.int e), some (.ref L), some .non])), ⟨_, u1, .inl ⟨d, rfl, h1, h2, h3, by rw [upd_same, DR.days_none h4]; rfl, rfl⟩⟩, ?_⟩
        rintro m σ H1 ⟨s1, ⟨d, rfl, g1, g2, g3, hL1, rfl⟩ | ⟨rfl, hL1, rfl⟩⟩
        · refine ⟨_, rfl, rfl, _, rfl, ite2 (fun _ => ?_) (fun z => absurd (by rw [decide_eq_false (fun e => nomatch e)]; rfl) z)⟩
          have hlen := DR.days_len (fl (Rl.wh st re)) b d
          have ds1 := DR.days_snoc (f := fl (Rl.wh st re)) (b := b) (c := d) (d := d) g1 (Int.le_refl _) g3 (fun k w1 w2 => by omega)
          refine ⟨fun σ' H' => ∃ m', m' < (e - d).toNat + 1 ∧ Same H H' ∧ ((∃ d', m' = (e - d').toNat + 1 ∧ b ≤ d' ∧ d' < e ∧ fl (Rl.wh st re) d' = true ∧ H' L = some (.lst ((days (fl (Rl.wh st re)) b d').map V.int)) ∧ σ' = [some (.ref x), some (.int b), some (.int e), some (.ref L), some (.int d')]) ∨ (m' = 0 ∧ H' L = some (.lst ((days (fl (Rl.wh st re)) b e).map V.int)) ∧ σ' = [some (.ref x), some (.int b), some (.int e), some (.ref L), some .non])), fun σ' H' h => h, ?_⟩
          refine ⟨_, rfl, .inl ⟨rfl, _, SqL.of hL1⟩, _, rfl, L, _, _, rfl, rfl, hL1, (by rw [List.length_map]; exact Nat.lt_of_le_of_lt (by omega : (days (fl (Rl.wh st re)) b d).length ≤ 1000) (by decide)), ?_⟩
          have s2 : Same H (upd H1 L (.lst ((days (fl (Rl.wh st re)) b d).map V.int ++ [.int d]))) := fun c u ec => by rw [upd_ne (ne_of_none ec hL)]; exact s1 _ _ ec
          have hL2 : (upd H1 L (.lst ((days (fl (Rl.wh st re)) b d).map V.int ++ [.int d]))) L = some (.lst ((days (fl (Rl.wh st re)) b (d + 1)).map V.int)) := by rw [upd_same, ← ds1, List.map_append]; rfl
          generalize upd H1 L (.lst ((days (fl (Rl.wh st re)) b d).map V.int ++ [.int d])) = H2 at *
          refine ⟨_, rfl, x, _, dx, _, _, rfl, s2 _ _ hx, nometh1 _ _ _ (by decide +kernel), .inr (.inr ⟨rfl, rfl⟩), _, rfl, _, _, rfl, rfl, _, rfl, rfl, x, _, e, st, re, rfl, RuleAt.up hr0 s2, by omega, by omega, by omega, by omega, fun d' h1' h2' h3' h4' => ?_, fun hn => ?_⟩
          · exact ⟨_, by omega, s2, .inl ⟨d', rfl, by omega, h2', h3', by rw [hL2, DR.days_skip (by omega) h1' h4'], rfl⟩⟩
          · exact ⟨0, by omega, s2, .inr ⟨rfl, by rw [hL2, DR.days_skip (by omega) (by omega) hn], rfl⟩⟩
        · refine ⟨_, rfl, rfl, _, rfl, ite2 (fun z => absurd z (by decide)) (fun _ => ?_)⟩
          exact ⟨_, rfl, k L _ s1 hL1⟩
      · refine ⟨fun m σ H' => H' = upd H L (.lst []) ∧ σ = [some (.ref x), some (.int b), some (.int e), some (.ref L), some .non], ⟨0, rfl, rfl⟩, ?_⟩
        rintro m σ H1 ⟨rfl, rfl⟩
        refine ⟨_, rfl, rfl, _, rfl, ite2 (fun z => absurd z (by decide)) (fun _ => ?_)⟩
        exact ⟨_, rfl, k L _ u1 (by rw [upd_same, DR.days_none hn]; rfl)⟩
end
end K35

namespace K35
open PySem L2
open DR (Rl fl days)
section
variable {P : Program} {w : World} {K : PySem.W.Frag} {mg : Str → Option Value} {base : Heap} {a : Adr}
theorem sc_shown : FnScope ["place", "moment"] ["place", "moment"] (defScope s_shown) := ⟨rfl, rfl, rfl, by decide +kernel, rfl, by decide +kernel, by decide +kernel⟩

theorem ok_shown (T : TxtL K mg base a) : FnOk P w K mg base CX0 true 4 a.f_shown a.d_shown ["place", "moment"] (sp_shown a.x_Place) := by
  refine T.F_shown.ok sc_shown (fun vs H Q E h => ?_) (fun cdv A outer s H vs Q E hr h => ?_)
  · obtain ⟨x, nm, own, ch, ms, cs, m, rfl, _⟩ := h; rfl
  · obtain ⟨x, nm, own, ch, ms, cs, m, rfl, pl, k⟩ := h
    refine ⟨_, (pss_one (ps_ret (pe_callB call_divmod rfl T.n_divmod (by decide +kernel) (pa_cons (pe_op op_add (pv 1) (pe_call ((ok_offset_at T).mono (by decide)) hr rfl T.m_offset_at T.F_offset_at.kp T.b_offset_at .nil pass0 (pa_cons (pv 0) (pa_cons (pv 1) pa_nil)))) (pa_cons (pe_globI rfl T.g_DAY_MINUTES) pa_nil))))), ?_⟩
    exact ⟨_, rfl, _, rfl, _, rfl, x, nm, own, ch, ms, cs, m, rfl, pl, _, _, rfl, rfl, _, _, rfl, ⟨by decide, by decide⟩, fun p hp => k p _ (same_upd hp) hp upd_same⟩
end
end K35

namespace K35
open PySem L2
open DR (Rl fl days)
section
variable {P : Program} {w : World} {K : PySem.W.Frag} {mg : Str → Option Value} {base : Heap} {a : Adr}
theorem sc_days_of : FnScope ["rule", "begin", "end"] ["rule", "begin", "end"] (defScope s_days_of) := ⟨rfl, rfl, rfl, by decide +kernel, rfl, by decide +kernel, by decide +kernel⟩

theorem ok_days_of (T : TxtL K mg base a) : FnOk P w K mg base CX0 true 5 a.f_days_of a.d_days_of ["rule", "begin", "end"] (sp_days_of (ad a)) := by
  refine T.F_days_of.ok sc_days_of (fun vs H Q E h => ?_) (fun cdv A outer s H vs Q E hr h => ?_)
  · obtain ⟨x, b, e, r, rfl, _⟩ := h; rfl
  · obtain ⟨x, b, e, r, rfl, hr0, hw, k⟩ := h
    refine ⟨_, (pss_one (ps_ret (pe_methV (n := 2) (D := fun C R => (C = a.x_Rule ∧ R = fun x vs H Q => (sp_Rule_days_in (ad a)) (x :: (vs ++ ([] : List V))) H Q E0) ∨ (C = a.x_Every ∧ R = fun x vs H Q => (sp_Every_days_in (ad a)) (x :: (vs ++ ([] : List V))) H Q E0) ∨ (C = a.x_Days ∧ R = fun x vs H Q => (sp_Rule_days_in (ad a)) (x :: (vs ++ ([] : List V))) H Q E0) ∨ (C = a.x_Where ∧ R = fun x vs H Q => (sp_Rule_days_in (ad a)) (x :: (vs ++ ([] : List V))) H Q E0)) (pv 0) (by rintro C R (⟨rfl, rfl⟩ | ⟨rfl, rfl⟩ | ⟨rfl, rfl⟩ | ⟨rfl, rfl⟩) <;> first | exact ⟨T.cl_Rule, _, _, _, _, _, _, _, _, _, _, T.me_Rule_days_in, (ok_Rule_days_in T).mono (by decide), hr, T.b_Rule_days_in, .nil, pass0, fun _ _ _ _ _ h => h⟩ | exact ⟨T.cl_Every, _, _, _, _, _, _, _, _, _, _, T.me_Every_days_in, (ok_Every_days_in T).mono (by decide), hr, T.b_Every_days_in, .nil, pass0, fun _ _ _ _ _ h => h⟩ | exact ⟨T.cl_Days, _, _, _, _, _, _, _, _, _, _, T.me_Days_days_in, (ok_Rule_days_in T).mono (by decide), hr, T.b_Rule_days_in, .nil, pass0, fun _ _ _ _ _ h => h⟩ | exact ⟨T.cl_Where, _, _, _, _, _, _, _, _, _, _, T.me_Where_days_in, (ok_Rule_days_in T).mono (by decide), hr, T.b_Rule_days_in, .nil, pass0, fun _ _ _ _ _ h => h⟩) (pa_cons (pe_callB (call_max2 rfl) rfl T.n_max (by decide +kernel) (pa_cons (pv 1) (pa_cons pe_int pa_nil))) (pa_cons (pe_callB (call_min2 rfl) rfl T.n_min (by decide +kernel) (pa_cons (pv 2) (pa_cons (pe_globI rfl T.g_DAYS) pa_nil))) pa_nil))))), ?_⟩
    cases r with
    | nv =>
      obtain ⟨dx, hx⟩ := id hr0
      refine ⟨_, rfl, x, _, dx, _, _, rfl, hx, rfl, .inl ⟨rfl, rfl⟩, _, rfl, _, _, rfl, _, rfl, _, _, rfl, ?_⟩
      rw [if_neg (show ¬ (146097 : Int) < e by have := hw.2.2.2.1; omega)]
      exact ⟨rfl, x, _, e, _, rfl, hr0, (fun _ _ z => nomatch z), hw, k⟩
    | ev st fi =>
      obtain ⟨_, dx, hx⟩ := id hr0
      refine ⟨_, rfl, x, _, dx, _, _, rfl, hx, nometh2 _ _ _ (by decide +kernel) (by decide +kernel), .inr (.inl ⟨rfl, rfl⟩), _, rfl, _, _, rfl, _, rfl, _, _, rfl, ?_⟩
      rw [if_neg (show ¬ (146097 : Int) < e by have := hw.2.2.2.1; omega)]
      exact ⟨rfl, x, _, e, st, fi, rfl, hr0, hw, k⟩
    | dy ds =>
      obtain ⟨dx, d, ms, hx, _⟩ := id hr0
      refine ⟨_, rfl, x, _, dx, _, _, rfl, hx, nometh1 _ _ _ (by decide +kernel), .inr (.inr (.inl ⟨rfl, rfl⟩)), _, rfl, _, _, rfl, _, rfl, _, _, rfl, ?_⟩
      rw [if_neg (show ¬ (146097 : Int) < e by have := hw.2.2.2.1; omega)]
      exact ⟨rfl, x, _, e, _, rfl, hr0, (fun _ _ z => nomatch z), hw, k⟩
    | wh st re =>
      obtain ⟨_, dx, f, hx, _⟩ := id hr0
      refine ⟨_, rfl, x, _, dx, _, _, rfl, hx, nometh1 _ _ _ (by decide +kernel), .inr (.inr (.inr ⟨rfl, rfl⟩)), _, rfl, _, _, rfl, _, rfl, _, _, rfl, ?_⟩
      rw [if_neg (show ¬ (146097 : Int) < e by have := hw.2.2.2.1; omega)]
      exact ⟨rfl, x, _, e, _, rfl, hr0, (fun _ _ z => nomatch z), hw, k⟩
end
end K35

namespace K35
open PySem L2
open DR (Rl fl days)
section
variable {P : Program} {w : World} {K : PySem.W.Frag} {mg : Str → Option Value} {base : Heap} {a : Adr}
theorem sc_law_rule_by : FnScope ["_law_cell", "_law_begin", "_law_way"] ["_law_cell", "_law_begin"] (defScope s_law_rule_by) := ⟨rfl, rfl, rfl, by decide +kernel, rfl, by decide +kernel, by decide +kernel⟩

theorem ok_law_rule_by (T : TxtL K mg base a) : FnOk P w K mg base CX0 true 5 a.f_law_rule_by a.d_law_rule_by ["_law_cell", "_law_begin"] (sp_law_rule_by (ad a) a.pt_law_where) := by
  refine T.F_law_rule_by.ok sc_law_rule_by (fun vs H Q E h => ?_) (fun cdv A outer s H vs Q E hr h => ?_)
  · obtain ⟨c, b, rfl, _⟩ := h; rfl
  · obtain ⟨c, b, rfl, b0, b1, ht, k⟩ := h
    refine ⟨_, (pss_cons (ps_set (i := 2) sc_law_rule_by.nd rfl (Or.inl rfl) (pe_call ((ok_law_mixed T).mono (by decide)) hr rfl T.m_law_mixed T.F_law_mixed.kp T.b_law_mixed .nil pass0 (pa_cons (pv 0) (pa_cons pe_int (pa_cons pe_int pa_nil)))))
      (pss_cons (ps_if (pt_cmpR op_eq (pv 2) pe_int (nomark _)) (pss_one (ps_ret (pe_make T.mk_Days ((ok_Days___init T).mono (by decide)) hr rfl T.m_Days T.b_Days___init .nil pass0 (pa_cons (pe_callTy (call_tuple_ofK (K := K) rfl) rfl T.n_tuple (by decide +kernel) (pa_cons (pe_comp (N := ["_law_k", "_law_begin", "_law_cell"]) (cap := [none, some 1, some 0]) (by show CompScope (defScope s_law_rule_by) _ ["_law_cell", "_law_begin", "_law_way"] _ _; exact ⟨rfl, by decide +kernel, by decide +kernel, by decide +kernel, by decide +kernel, rfl, by decide +kernel⟩) rfl (pi_range1 rfl T.n_range (pa_cons (pe_call ((ok_law_mixed T).mono (by decide)) hr rfl T.m_law_mixed T.F_law_mixed.kp T.b_law_mixed .nil pass0 (pa_cons (pv 0) (pa_cons pe_int (pa_cons pe_int pa_nil)))) pa_nil)) (fun C s H fp => ⟨(pg_name (i := 0) (by show (["_law_k", "_law_begin", "_law_cell"] : List Str).Nodup; decide +kernel) rfl (Or.inl rfl) (.inr rfl)), pf_none, (pe_op op_add (pv 1) (pe_call ((ok_law_mixed T).mono (by decide)) hr rfl T.m_law_mixed T.F_law_mixed.kp T.b_law_mixed .nil pass0 (pa_cons (pv 2) (pa_cons (pe_op op_add pe_int (pv 0)) (pa_cons pe_int pa_nil)))))⟩)) pa_nil)) pa_nil)))) pss_nil)
      (pss_cons (ps_if (pt_cmpR op_eq (pv 2) pe_int (nomark _)) (pss_one (ps_ret (pe_make T.mk_Every ((ok_Every___init T).mono (by decide)) hr rfl T.m_Every T.b_Every___init .nil pass0 (pa_cons (pe_op op_add pe_int (pe_call ((ok_law_mixed T).mono (by decide)) hr rfl T.m_law_mixed T.F_law_mixed.kp T.b_law_mixed .nil pass0 (pa_cons (pv 0) (pa_cons pe_int (pa_cons pe_int pa_nil))))) (pa_cons (pe_op op_add (pv 1) (pe_call ((ok_law_mixed T).mono (by decide)) hr rfl T.m_law_mixed T.F_law_mixed.kp T.b_law_mixed .nil pass0 (pa_cons (pv 0) (pa_cons pe_int (pa_cons pe_int pa_nil))))) pa_nil))))) pss_nil)
      (pss_cons (ps_if (pt_cmpR op_eq (pv 2) pe_int (nomark _)) (pss_one (ps_ret (pe_make T.mk_Where ((ok_Where___init T).mono (by decide)) hr rfl T.m_Where T.b_Where___init .nil pass0 (pa_cons (pe_call ((ok_law_where T).mono (by decide)) hr rfl T.m_law_where T.F_law_where.kp T.b_law_where .nil pass0 (pa_cons (pe_op op_add pe_int (pe_call ((ok_law_mixed T).mono (by decide)) hr rfl T.m_law_mixed T.F_law_mixed.kp T.b_law_mixed .nil pass0 (pa_cons (pv 0) (pa_cons pe_int (pa_cons pe_int pa_nil))))) (pa_cons (pe_call ((ok_law_mixed T).mono (by decide)) hr rfl T.m_law_mixed T.F_law_mixed.kp T.b_law_mixed .nil pass0 (pa_cons (pv 0) (pa_cons pe_int (pa_cons pe_int pa_nil)))) pa_nil))) pa_nil)))) pss_nil)
      (pss_one (ps_ret (pe_makeN T.mn_Rule rfl T.m_Rule))))))), ?_⟩
    refine ⟨_, rfl, c, 21, 4, rfl, by decide, by decide, by decide, fun w w0 w1 hw => ?_⟩
    refine ⟨_, rfl, rfl, _, rfl, ite2 (fun z => ?_) (fun z => ?_)⟩
    · have z' : mx c 21 4 = 0 := by rw [← hw]; exact V.int.inj (of_decide_eq_true z)
      rw [rl0 z'] at k
      refine ⟨_, rfl, c, 31, 6, rfl, by decide, by decide, by decide, fun n n0 n1 hn => ?_⟩
      refine ⟨_, rfl, by omega, by omega, ?_⟩
      refine comp_pure (seq_range 0 n.toNat _) (fun _ => true) (fD c b) (by rw [List.length_map, List.length_range]; omega) (fun x _ H' _ R hR => hR H' (Same.refl _)) ?_ (fun D H1 s1 hD0 hD => ?_)
      · intro x hx _ H' sm R hR
        obtain ⟨i, hi, rfl⟩ := List.mem_map.mp hx
        rw [List.mem_range] at hi
        refine ⟨_, rfl, _, rfl, _, rfl, _, _, rfl, rfl, c, _, _, rfl, by omega, by omega, by decide, fun v _ _ hv => ⟨_, _, rfl, rfl, ?_⟩⟩
        subst hv
        exact hR H' (Same.refl _)
      rw [List.filter_eq_self.mpr (fun _ _ => rfl), dy_vals c b _ (by rw [hn])] at hD
      refine ⟨D, _, rfl, .inl ⟨SqL.of hD, fun p hp => ?_⟩⟩
      have u2 := same_upd (o := .tup ((dyL c b).map V.int)) hp
      have S2 := s1.trans u2
      have hpp : (upd H1 p (.tup ((dyL c b).map V.int))) p = some (.tup ((dyL c b).map V.int)) := upd_same
      generalize upd H1 p (.tup ((dyL c b).map V.int)) = H2 at *
      refine fun x dx nx ndx nex => ?_
      have up : ∀ q u, H2 q = some u → (upd (upd H2 dx (.own x)) x (.ins a.x_Days dx [])) q = some u := fun q u eq => by rw [upd_ne (ne_of_none eq nx), upd_ne (ne_of_none eq ndx)]; exact eq
      refine ⟨x, dx, p, dyL c b, rfl, upd_same, up _ _ hpp, dy_len c b, (fun q hq => by have := dy_in hq; omega), fun H3 sx hr3 => ⟨rfl, ?_⟩⟩
      have S3 : Same H H3 := fun q u eq => sx _ _ (ne_of_none (S2 _ _ eq) nx) (up _ _ (S2 _ _ eq))
      exact k x H3 (fun q u _ eq => S3 _ _ eq) (ht.same S3) hr3
    have z0 : mx c 21 4 ≠ 0 := fun e => z (decide_eq_true (by rw [hw, e]))
    clear z
    refine ⟨_, rfl, rfl, _, rfl, ite2 (fun z => ?_) (fun z => ?_)⟩
    · have z' : mx c 21 4 = 1 := by rw [← hw]; exact V.int.inj (of_decide_eq_true z)
      rw [rl1 z'] at k
      refine ⟨_, rfl, c, 32, 120, rfl, by decide, by decide, by decide, fun v v0 v1 hv => ?_⟩
      refine ⟨_, _, rfl, rfl, _, rfl, _, rfl, c, 33, 90, rfl, by decide, by decide, by decide, fun u u0 u1 hu => ?_⟩
      refine ⟨_, _, rfl, rfl, fun x dx nx ndx nex => ?_⟩
      have up : ∀ q u, H q = some u → (upd (upd H dx (.own x)) x (.ins a.x_Every dx [])) q = some u := fun q u eq => by rw [upd_ne (ne_of_none eq nx), upd_ne (ne_of_none eq ndx)]; exact eq
      subst hv hu
      refine ⟨x, dx, _, _, rfl, upd_same, by omega, by omega, by omega, by omega, fun H3 sx hr3 => ⟨rfl, ?_⟩⟩
      have S3 : Same H H3 := fun q u eq => sx _ _ (ne_of_none eq nx) (up _ _ eq)
      exact k x H3 (fun q u _ eq => S3 _ _ eq) (ht.same S3) hr3
    have z1 : mx c 21 4 ≠ 1 := fun e => z (decide_eq_true (by rw [hw, e]))
    clear z
    refine ⟨_, rfl, rfl, _, rfl, ite2 (fun z => ?_) (fun z => ?_)⟩
    · have z' : mx c 21 4 = 2 := by rw [← hw]; exact V.int.inj (of_decide_eq_true z)
      rw [rl2 z'] at k
      refine ⟨_, rfl, c, 34, 70, rfl, by decide, by decide, by decide, fun v v0 v1 hv => ?_⟩
      refine ⟨_, _, rfl, rfl, _, rfl, c, 35, 70, rfl, by decide, by decide, by decide, fun u u0 u1 hu => ?_⟩
      subst hv hu
      refine ⟨_, _, rfl, ht, fun f H2 s2 t2 hl2 => fun x dx nx ndx nex => ?_⟩
      have up : ∀ q u, H2 q = some u → (upd (upd H2 dx (.own x)) x (.ins a.x_Where dx [])) q = some u := fun q u eq => by rw [upd_ne (ne_of_none eq nx), upd_ne (ne_of_none eq ndx)]; exact eq
      obtain ⟨cl, cd, L⟩ := hl2
      refine ⟨x, dx, f, _, _, rfl, upd_same, by omega, ⟨cl, cd, L.same up⟩, fun H3 sx hr3 => ⟨rfl, ?_⟩⟩
      have S3 : Same H2 H3 := fun q u eq => sx _ _ (ne_of_none eq nx) (up _ _ eq)
      exact k x H3 (fun q u hq eq => S3 _ _ (s2 _ _ hq eq)) (t2.same S3) hr3
    have z2 : mx c 21 4 ≠ 2 := fun e => z (decide_eq_true (by rw [hw, e]))
    rw [rl3 z0 z1 z2] at k
    refine fun x dx nx ndx nex => ?_
    have up : ∀ q u, H q = some u → (upd (upd H dx (.own x)) x (.ins a.x_Rule dx [])) q = some u := fun q u eq => by rw [upd_ne (ne_of_none eq nx), upd_ne (ne_of_none eq ndx)]; exact eq
    exact k x _ (fun q u _ eq => up _ _ eq) (ht.same up) ⟨dx, upd_same⟩
end
end K35

namespace K35
open PySem L2
open DR (Rl fl days)
section
variable {P : Program} {w : World} {K : PySem.W.Frag} {mg : Str → Option Value} {base : Heap} {a : Adr}
theorem sc_place_by : FnScope ["name", "offset", "forward", "back", "begin", "end", "minute", "shift", "offsets", "day", "changes"] ["name", "offset", "forward", "back", "begin", "end", "minute", "shift"] (defScope s_place_by) := ⟨rfl, rfl, rfl, by decide +kernel, rfl, by decide +kernel, by decide +kernel⟩

theorem ok_place_by (T : TxtL K mg base a) : FnOk P w K mg base CX0 true 7 a.f_place_by a.d_place_by ["name", "offset", "forward", "back", "begin", "end", "minute", "shift"] (sp_place_by (ad a) a.x_Place) := by
  refine T.F_place_by.ok sc_place_by (fun vs H Q E h => ?_) (fun cdv A outer s H vs Q E hr h => ?_)
  · obtain ⟨nm, o, fw, bk, b, e, mi, sh, rf, rb, rfl, _⟩ := h; rfl
  · obtain ⟨nm, o, fw, bk, b, e, mi, sh, rf, rb, rfl, ⟨hnb, hnl, o1, o2, m0, m1, sh0, sh1⟩, hw, hz, hfw, hbk, k⟩ := h
    refine ⟨_, (pss_cons (ps_expr (pe_call ((ok_check_put T).mono (by decide)) hr rfl T.m_check_put T.F_check_put.kp T.b_check_put .nil pass0 (pa_cons (pv 6) (pa_cons (pv 7) pa_nil))))
      (pss_cons (ps_set (i := 8) sc_place_by.nd rfl (Or.inr rfl) pe_dnewK)
      (pss_cons (ps_for PassesOwn.never rfl (pi_listK (K := K) rfl (pe_call ((ok_days_of T).mono (by decide)) hr rfl T.m_days_of T.F_days_of.kp T.b_days_of .nil pass0 (pa_cons (pv 3) (pa_cons (pv 4) (pa_cons (pv 5) pa_nil))))) (pg_name (i := 9) sc_place_by.nd rfl (Or.inl rfl)) (pss_one (ps_dput (hu_of hr) (pv 8) (pv 9) (pv 1) rfl)))
      (pss_cons (ps_for PassesOwn.never rfl (pi_listK (K := K) rfl (pe_call ((ok_days_of T).mono (by decide)) hr rfl T.m_days_of T.F_days_of.kp T.b_days_of .nil pass0 (pa_cons (pv 2) (pa_cons (pv 4) (pa_cons (pv 5) pa_nil))))) (pg_name (i := 9) sc_place_by.nd rfl (Or.inl rfl)) (pss_one (ps_dput (hu_of hr) (pv 8) (pv 9) (pe_op op_add (pv 1) (pv 7)) rfl)))
      (pss_cons (ps_setComp (i0 := 10) sc_place_by.nd rfl rfl (N := ["day", "minute", "offsets"]) (cap := [none, some 6, some 8]) (by show CompScope (defScope s_place_by) _ ["name", "offset", "forward", "back", "begin", "end", "minute", "shift", "offsets", "day", "changes"] _ _; exact ⟨rfl, by decide +kernel, by decide +kernel, by decide +kernel, by decide +kernel, rfl, by decide +kernel⟩) rfl (pi_listK (K := K) rfl (pe_callB (call_sortedDI rfl) rfl T.n_sorted (by decide +kernel) (pa_cons (pv 8) pa_nil))) (fun C s H fp => ⟨(pg_name (i := 0) (by show (["day", "minute", "offsets"] : List Str).Nodup; decide +kernel) rfl (Or.inl rfl) (.inr rfl)), pf_none, (pe_tup (pa_cons (pe_op op_add (pe_op op_mul (pv 0) (pe_globI rfl T.g_DAY_MINUTES)) (pv 1)) (pa_cons (pe_dget (hu_of hr) (pv 2) (pv 0) (fun _ _ => rfl)) pa_nil)))⟩))
      (pss_one (ps_ret (pe_make T.mk_Place ((ok_Place___init T).mono (by decide)) hr rfl T.m_Place T.b_Place___init .nil pass0 (pa_cons (pv 0) (pa_cons (pv 1) (pa_cons (pe_callTy (call_tuple_ofK (K := K) rfl) rfl T.n_tuple (by decide +kernel) (pa_cons (pv 10) pa_nil)) pa_nil))))))))))), ?_⟩
    refine ⟨_, rfl, _, rfl, mi, sh, rfl, m0, m1, sh0, sh1, ?_⟩
    have hl1 := DR.days_len (fl rf) (lo0 b) e
    have hl2 := DR.days_len (fl rb) (lo0 b) e
    refine fun d hd0 => ?_
    have s0 := same_upd (o := .dK []) hd0
    refine ⟨_, rfl, _, rfl, _, rfl, bk, b, e, rb, rfl, hbk.up s0, hw, fun D1 H1 s1 hD1 => ⟨D1, rfl, ⟨_, SqL.of hD1⟩, ?_⟩⟩
    have hd1 : H1 d = some (.dK []) := s1 _ _ upd_same
    have hDd1 : D1 ≠ d := fun z => by rw [z, hd1] at hD1; cases hD1
    refine for_list (K := K) (xs := (days (fl rb) (lo0 b) e).map V.int) (fun i σ H' => SameX d H1 H' ∧ i ≤ (days (fl rb) (lo0 b) e).length ∧ ∃ kvs, H' d = some (.dK kvs) ∧ Dv kvs (putL ((days (fl rb) (lo0 b) e).take i) o (fun _ => none)) (i) ∧ ∃ x, σ = [some (.str nm), some (.int o), some (.ref fw), some (.ref bk), some (.int b), some (.int e), some (.int mi), some (.int sh), some (.ref d), x, none]) ⟨SameX.refl _ _, Nat.zero_le _, _, hd1, Dv.nil.same (fun _ => by unfold putL; rw [List.take_zero]; rfl), _, rfl⟩ (fun _ _ _ _ h => SqL.of (h.1 _ _ hDd1 hD1)) ?_ ?_
    · rintro i x σ H9 hx ⟨sx, hi, kvs, hd, dv, y, rfl⟩
      rw [List.getElem?_map] at hx
      obtain ⟨n, hn, rfl⟩ := Option.map_eq_some_iff.mp hx
      have hi' : i < (days (fl rb) (lo0 b) e).length := by
        obtain ⟨z, _⟩ := List.getElem?_eq_some_iff.mp hn
        exact z
      refine ⟨_, rfl, _, rfl, _, rfl, d, _, rfl, DPut.k (k := Sum.inl n) hd (Nat.lt_of_le_of_lt (Nat.le_trans dv.few (by omega : _ ≤ 3000)) (by decide)), ?_⟩
      exact ⟨fun q u hq z => by rw [upd_ne hq]; exact sx q u hq z, hi', _, upd_same, (dv.put n _).same (putL_snoc hn), _, rfl⟩
    rintro σ H2 ⟨sx, _, kvs, hd, dv, y, rfl⟩
    rw [List.length_map, List.take_length] at dv
    have S2 : Same H H2 := SameX.same (s0.trans s1) sx hd0
    have dv1 : Dv kvs (putL (days (fl rb) (lo0 b) e) o (fun _ => none)) ((days (fl rb) (lo0 b) e).length + 0) := dv
    clear dv
    refine ⟨_, rfl, _, rfl, _, rfl, fw, b, e, rf, rfl, hfw.up S2, hw, fun D2 H3 s3 hD2 => ⟨D2, rfl, ⟨_, SqL.of hD2⟩, ?_⟩⟩
    have hd2 : H3 d = some (.dK kvs) := s3 _ _ hd
    have hDd2 : D2 ≠ d := fun z => by rw [z, hd2] at hD2; cases hD2
    refine for_list (K := K) (xs := (days (fl rf) (lo0 b) e).map V.int) (fun i σ H' => SameX d H3 H' ∧ i ≤ (days (fl rf) (lo0 b) e).length ∧ ∃ kvs, H' d = some (.dK kvs) ∧ Dv kvs (putL ((days (fl rf) (lo0 b) e).take i) (o + sh) (putL (days (fl rb) (lo0 b) e) o (fun _ => none))) ((days (fl rb) (lo0 b) e).length + i) ∧ ∃ x, σ = [some (.str nm), some (.int o), some (.ref fw), some (.ref bk), some (.int b), some (.int e), some (.int mi), some (.int sh), some (.ref d), x, none]) ⟨SameX.refl _ _, Nat.zero_le _, _, hd2, dv1.same (fun _ => by unfold putL; rw [List.take_zero]; rfl), _, rfl⟩ (fun _ _ _ _ h => SqL.of (h.1 _ _ hDd2 hD2)) ?_ ?_
    · rintro i x σ H9 hx ⟨sx, hi, kvs, hd, dv, y, rfl⟩
      rw [List.getElem?_map] at hx
      obtain ⟨n, hn, rfl⟩ := Option.map_eq_some_iff.mp hx
      have hi' : i < (days (fl rf) (lo0 b) e).length := by
        obtain ⟨z, _⟩ := List.getElem?_eq_some_iff.mp hn
        exact z
      refine ⟨_, rfl, _, rfl, _, _, rfl, rfl, _, rfl, _, rfl, d, _, rfl, DPut.k (k := Sum.inl n) hd (Nat.lt_of_le_of_lt (Nat.le_trans dv.few (by omega : _ ≤ 3000)) (by decide)), ?_⟩
      exact ⟨fun q u hq z => by rw [upd_ne hq]; exact sx q u hq z, hi', _, upd_same, (dv.put n _).same (putL_snoc hn), _, rfl⟩
    rintro σ H4 ⟨sx2, _, kvs2, hd4, dv, y2, rfl⟩
    rw [List.length_map, List.take_length] at dv
    have S4 : Same H H4 := SameX.same (S2.trans s3) sx2 hd0
    obtain ⟨ns, hns, hmem⟩ := dv.ns
    refine ⟨_, rfl, d, kvs2, ns, rfl, hd4, hns, fun D3 ms hD3 hpm hlt => ⟨D3, rfl, ⟨_, SqL.of upd_same⟩, ?_⟩⟩
    have hms : ∀ k, k ∈ ms ↔ (k ∈ (days (fl rf) (lo0 b) e) ∨ k ∈ (days (fl rb) (lo0 b) e)) := fun k => by rw [hpm.mem_iff, hmem, putL_two]
    have due : Due (days (fl rf) (lo0 b) e) (days (fl rb) (lo0 b) e) (lo0 b) e ms := ⟨hlt, fun k => by
      rw [hms]
      refine ⟨fun w => ⟨w, ?_⟩, fun w => w.1⟩
      rcases w with w | w
      · exact ⟨(DR.days_mem.mp w).1, (DR.days_mem.mp w).2.1⟩
      · exact ⟨(DR.days_mem.mp w).1, (DR.days_mem.mp w).2.1⟩⟩
    have hlm := due_len due
    have u3 := same_upd (o := .lst (ms.map V.int)) hD3
    refine comp_mkrow (seq_list (K := K) (SqL.of upd_same)) (fR mi o sh (days (fl rf) (lo0 b) e)) ?_ (fun x hx H' _ R hR => hR) ?_ (fun D4 H5 cs s5 hD40 hD4 hok4 hsp => ?_)
    · rw [List.length_map]
      omega
    · intro x hx H' sm R hR
      obtain ⟨k, hk, rfl⟩ := List.mem_map.mp hx
      have hdk := sm _ _ (u3 _ _ hd4)
      have hg : DGet H' d (.int k) (some (.int (if k ∈ (days (fl rf) (lo0 b) e) then o + sh else o))) := by
        have z := DGet.k (k := Sum.inl k) hdk
        rw [dv.val, putL_val ((hms k).mp hk)] at z
        exact z
      exact ⟨_, rfl, _, _, rfl, rfl, .inr ⟨by decide, by decide⟩, _, rfl, _, _, rfl, rfl, _, rfl, _, rfl, d, _, rfl, hg, (by show 2 ≤ sizeLine; decide), fun c hc => hR c _ (same_upd hc) hc upd_same⟩
    have hs : sps cs = ms.map (rowOf mi o sh (days (fl rf) (lo0 b) e)) := by rw [hsp, List.map_map]; rfl
    have hbd := bds_due hs hlt (by omega) o1 o2 sh0 sh1
    have S5 := (S4.trans u3).trans s5
    refine ⟨_, rfl, _, rfl, _, rfl, D4, _, rfl, .inl ⟨SqL.of hD4, fun p hp => ?_⟩⟩
    have u5 := same_upd (o := .tup (refs cs)) hp
    have S6 := S5.trans u5
    have hok5 := hok4.up u5
    have hpp : (upd H5 p (.tup (refs cs))) p = some (.tup (refs cs)) := upd_same
    generalize upd H5 p (.tup (refs cs)) = H6 at *
    refine fun x dx nx ndx nex => ?_
    have up : ∀ c u, H6 c = some u → (upd (upd H6 dx (.own x)) x (.ins a.x_Place dx [])) c = some u := fun c u ec => by rw [upd_ne (ne_of_none ec nx), upd_ne (ne_of_none ec ndx)]; exact ec
    refine ⟨x, dx, nm, o, .ref p, cs, rfl, upd_same, hnb, by omega, by omega, by omega, hbd, .inr ⟨p, rfl, up _ _ hpp, fun q hq => up _ _ (hok5 q hq)⟩, fun ch q H7 sx7 pl => ⟨rfl, ?_⟩⟩
    exact k x ch q cs ms H7 (fun c u ec => sx7 c u (ne_of_none (S6 _ _ ec) nx) (up _ _ (S6 _ _ ec))) pl due hs
end
end K35

namespace K35
open PySem L2
open DR (Rl fl days)
section
variable {P : Program} {w : World} {K : PySem.W.Frag} {mg : Str → Option Value} {base : Heap} {a : Adr}
theorem sc_law : FnScope ["_law_script", "_law_name", "_law_offset", "_law_first", "_law_cells", "_law_rules", "_law_falls", "_law_begin", "_law_end", "_law_minute", "_law_shift", "_law_way", "_law_place", "_law_due_here", "_law_moment"] ["_law_script"] (defScope s_law) := ⟨rfl, rfl, rfl, by decide +kernel, rfl, by decide +kernel, by decide +kernel⟩

theorem ok_law (T : TxtL K mg base a) : FnOk P w K mg base CX0 true 9 a.f_law a.d_law ["_law_script"] (sp_law K a.pt_law_where) := by
  refine T.F_law.ok sc_law (fun vs H Q E h => ?_) (fun cdv A outer s H vs Q E hr h => ?_)
  · obtain ⟨sa, ns, rfl, _⟩ := h; rfl
  · obtain ⟨sa, ns, rfl, hS, hlen, hpt, k⟩ := h
    refine ⟨_, (pss_cons (ps_set (i := 1) sc_law.nd rfl (Or.inl rfl) (pe_call ((ok_law_name_by T).mono (by decide)) hr rfl T.m_law_name_by T.F_law_name_by.kp T.b_law_name_by .nil pass0 (pa_cons (pe_call ((ok_law_cell_at T).mono (by decide)) hr rfl T.m_law_cell_at T.F_law_cell_at.kp T.b_law_cell_at .nil pass0 (pa_cons (pv 0) (pa_cons pe_int pa_nil))) pa_nil)))
      (pss_cons (ps_set (i := 2) sc_law.nd rfl (Or.inl rfl) (pe_op op_sub (pe_call ((ok_law_mixed T).mono (by decide)) hr rfl T.m_law_mixed T.F_law_mixed.kp T.b_law_mixed .nil pass0 (pa_cons (pe_call ((ok_law_cell_at T).mono (by decide)) hr rfl T.m_law_cell_at T.F_law_cell_at.kp T.b_law_cell_at .nil pass0 (pa_cons (pv 0) (pa_cons pe_int pa_nil))) (pa_cons pe_int (pa_cons pe_int pa_nil)))) pe_int))
      (pss_cons (ps_set (i := 3) sc_law.nd rfl (Or.inr rfl) (pe_call ((ok_law_mixed T).mono (by decide)) hr rfl T.m_law_mixed T.F_law_mixed.kp T.b_law_mixed .nil pass0 (pa_cons (pe_call ((ok_law_cell_at T).mono (by decide)) hr rfl T.m_law_cell_at T.F_law_cell_at.kp T.b_law_cell_at .nil pass0 (pa_cons (pv 0) (pa_cons pe_int pa_nil))) (pa_cons pe_int (pa_cons pe_int pa_nil)))))
      (pss_cons (ps_set (i := 4) sc_law.nd rfl (Or.inl rfl) (pe_lst (pa_cons (pe_call ((ok_law_cell_at T).mono (by decide)) hr rfl T.m_law_cell_at T.F_law_cell_at.kp T.b_law_cell_at .nil pass0 (pa_cons (pv 0) (pa_cons pe_int pa_nil))) (pa_cons (pe_call ((ok_law_cell_at T).mono (by decide)) hr rfl T.m_law_cell_at T.F_law_cell_at.kp T.b_law_cell_at .nil pass0 (pa_cons (pv 0) (pa_cons pe_int pa_nil))) pa_nil))))
      (pss_cons (ps_setComp (i0 := 5) sc_law.nd rfl rfl (N := ["_law_cell", "_law_first"]) (cap := [none, some 3]) (by show CompScope (defScope s_law) _ ["_law_script", "_law_name", "_law_offset", "_law_first", "_law_cells", "_law_rules", "_law_falls", "_law_begin", "_law_end", "_law_minute", "_law_shift", "_law_way", "_law_place", "_law_due_here", "_law_moment"] _ _; exact ⟨rfl, by decide +kernel, by decide +kernel, by decide +kernel, by decide +kernel, rfl, by decide +kernel⟩) rfl (pi_listK (K := K) rfl (pv 4)) (fun C s H fp => ⟨(pg_name (i := 0) (by show (["_law_cell", "_law_first"] : List Str).Nodup; decide +kernel) rfl (Or.inl rfl) (.inr rfl)), pf_none, (pe_call ((ok_law_rule_by T).mono (by decide)) hr rfl T.m_law_rule_by T.F_law_rule_by.kp T.b_law_rule_by .nil pass0 (pa_cons (pv 0) (pa_cons (pv 1) pa_nil)))⟩))
      (pss_cons (ps_setComp (i0 := 6) sc_law.nd rfl rfl (N := ["_law_cell", "_law_first"]) (cap := [none, some 3]) (by show CompScope (defScope s_law) _ ["_law_script", "_law_name", "_law_offset", "_law_first", "_law_cells", "_law_rules", "_law_falls", "_law_begin", "_law_end", "_law_minute", "_law_shift", "_law_way", "_law_place", "_law_due_here", "_law_moment"] _ _; exact ⟨rfl, by decide +kernel, by decide +kernel, by decide +kernel, by decide +kernel, rfl, by decide +kernel⟩) rfl (pi_listK (K := K) rfl (pv 4)) (fun C s H fp => ⟨(pg_name (i := 0) (by show (["_law_cell", "_law_first"] : List Str).Nodup; decide +kernel) rfl (Or.inl rfl) (.inr rfl)), pf_none, (pe_call ((ok_law_falls_by T).mono (by decide)) hr rfl T.m_law_falls_by T.F_law_falls_by.kp T.b_law_falls_by .nil pass0 (pa_cons (pv 0) (pa_cons (pv 1) pa_nil)))⟩))
      (pss_cons (ps_set (i := 7) sc_law.nd rfl (Or.inl rfl) (pe_op op_add (pv 3) (pe_call ((ok_law_mixed T).mono (by decide)) hr rfl T.m_law_mixed T.F_law_mixed.kp T.b_law_mixed .nil pass0 (pa_cons (pe_call ((ok_law_cell_at T).mono (by decide)) hr rfl T.m_law_cell_at T.F_law_cell_at.kp T.b_law_cell_at .nil pass0 (pa_cons (pv 0) (pa_cons pe_int pa_nil))) (pa_cons pe_int (pa_cons pe_int pa_nil))))))
      (pss_cut (ps_if (pt_cmpR op_lt (pv 3) pe_int (nomark _)) (pss_one (ps_set (i := 7) sc_law.nd rfl (Or.inl rfl) (pe_op op_sub (pv 3) pe_int))) pss_nil)
      (pss_cons (ps_set (i := 8) sc_law.nd rfl (Or.inl rfl) (pe_op op_add (pv 7) (pe_call ((ok_law_mixed T).mono (by decide)) hr rfl T.m_law_mixed T.F_law_mixed.kp T.b_law_mixed .nil pass0 (pa_cons (pe_call ((ok_law_cell_at T).mono (by decide)) hr rfl T.m_law_cell_at T.F_law_cell_at.kp T.b_law_cell_at .nil pass0 (pa_cons (pv 0) (pa_cons pe_int pa_nil))) (pa_cons pe_int (pa_cons pe_int pa_nil))))))
      (pss_cons (ps_set (i := 9) sc_law.nd rfl (Or.inl rfl) (pe_call ((ok_law_mixed T).mono (by decide)) hr rfl T.m_law_mixed T.F_law_mixed.kp T.b_law_mixed .nil pass0 (pa_cons (pe_call ((ok_law_cell_at T).mono (by decide)) hr rfl T.m_law_cell_at T.F_law_cell_at.kp T.b_law_cell_at .nil pass0 (pa_cons (pv 0) (pa_cons pe_int pa_nil))) (pa_cons pe_int (pa_cons pe_int pa_nil)))))
      (pss_cons (ps_set (i := 10) sc_law.nd rfl (Or.inl rfl) (pe_op op_add pe_int (pe_call ((ok_law_mixed T).mono (by decide)) hr rfl T.m_law_mixed T.F_law_mixed.kp T.b_law_mixed .nil pass0 (pa_cons (pe_call ((ok_law_cell_at T).mono (by decide)) hr rfl T.m_law_cell_at T.F_law_cell_at.kp T.b_law_cell_at .nil pass0 (pa_cons (pv 0) (pa_cons pe_int pa_nil))) (pa_cons pe_int (pa_cons pe_int pa_nil))))))
      (pss_cons (ps_set (i := 11) sc_law.nd rfl (Or.inl rfl) (pe_op op_mod (pe_call ((ok_law_cell_at T).mono (by decide)) hr rfl T.m_law_cell_at T.F_law_cell_at.kp T.b_law_cell_at .nil pass0 (pa_cons (pv 0) (pa_cons pe_int pa_nil))) pe_int))
      (pss_cut (ps_if (pt_cmpR op_eq (pv 11) pe_int (nomark _)) (pss_cons (ps_set (i := 12) sc_law.nd rfl (Or.inl rfl) (pe_call ((ok_place_by T).mono (by decide)) hr rfl T.m_place_by T.F_place_by.kp T.b_place_by_2.choose_spec.1 T.b_place_by_2.choose_spec.2 pass0 (pa_cons (pv 1) (pa_cons (pv 2) (pa_cons (pe_ix (ix_listK (K := K) rfl) (pv 5) pe_int (fun _ _ => rfl)) (pa_cons (pe_ix (ix_listK (K := K) rfl) (pv 5) pe_int (fun _ _ => rfl)) (pa_cons (pv 7) (pa_cons (pv 8) pa_nil))))))))
      (pss_one (ps_asg (pe_tup (pa_lits [.int 60, .int 60] (by decide +kernel))) (pg_tup rfl (pgs_cons (pg_name (i := 9) sc_law.nd rfl (Or.inl rfl)) (pgs_cons (pg_name (i := 10) sc_law.nd rfl (Or.inl rfl)) pgs_nil)))))) (pss_one (ps_if (pt_cmpR op_eq (pv 11) pe_int (nomark _)) (pss_cons (ps_set (i := 12) sc_law.nd rfl (Or.inl rfl) (pe_call ((ok_place_by T).mono (by decide)) hr rfl T.m_place_by T.F_place_by.kp T.b_place_by_1.choose_spec.1 T.b_place_by_1.choose_spec.2 pass0 (pa_cons (pv 1) (pa_cons (pv 2) (pa_cons (pe_ix (ix_listK (K := K) rfl) (pv 5) pe_int (fun _ _ => rfl)) (pa_cons (pe_ix (ix_listK (K := K) rfl) (pv 5) pe_int (fun _ _ => rfl)) (pa_cons (pv 7) (pa_cons (pv 8) (pa_cons (pv 9) pa_nil)))))))))
      (pss_one (ps_set (i := 10) sc_law.nd rfl (Or.inl rfl) pe_int))) (pss_one (ps_set (i := 12) sc_law.nd rfl (Or.inl rfl) (pe_call ((ok_place_by T).mono (by decide)) hr rfl T.m_place_by T.F_place_by.kp T.b_place_by .nil pass0 (pa_cons (pv 1) (pa_cons (pv 2) (pa_cons (pe_ix (ix_listK (K := K) rfl) (pv 5) pe_int (fun _ _ => rfl)) (pa_cons (pe_ix (ix_listK (K := K) rfl) (pv 5) pe_int (fun _ _ => rfl)) (pa_cons (pv 7) (pa_cons (pv 8) (pa_cons (pv 9) (pa_cons (pv 10) pa_nil))))))))))))))
      (pss_cons (ps_set (i := 13) sc_law.nd rfl (Or.inl rfl) (pe_call ((ok_law_due T).mono (by decide)) hr rfl T.m_law_due T.F_law_due.kp T.b_law_due .nil pass0 (pa_cons (pv 6) (pa_cons (pv 2) (pa_cons (pv 7) (pa_cons (pv 8) (pa_cons (pv 9) (pa_cons (pv 10) pa_nil))))))))
      (pss_cons (ps_if (PW.pt (pw_or (pt_not (pt_val (pe_callB (call_isiOK (K := K) rfl) rfl T.n_isinstance (by decide +kernel) (pa_cons (pv 12) (pa_cons (pe_globR rfl T.m_Place) pa_nil))))) (pw_or (pt_cmpR op_ne (pe_fldK (K := K) rfl (pv 12)) (pv 1) (nomark _)) (pw_or1 (pt_cmpR op_ne (pe_fldK (K := K) rfl (pv 12)) (pv 2) (nomark _)))))) (pss_one ps_never) pss_nil)
      (pss_cons (ps_set (i := 14) sc_law.nd rfl (Or.inl rfl) (pe_op op_sub (pe_op op_add (pe_op op_mul (pv 3) pe_int) (pe_call ((ok_law_mixed T).mono (by decide)) hr rfl T.m_law_mixed T.F_law_mixed.kp T.b_law_mixed .nil pass0 (pa_cons (pe_call ((ok_law_cell_at T).mono (by decide)) hr rfl T.m_law_cell_at T.F_law_cell_at.kp T.b_law_cell_at .nil pass0 (pa_cons (pv 0) (pa_cons pe_int pa_nil))) (pa_cons pe_int (pa_cons pe_int pa_nil))))) pe_int))
      (pss_cons (ps_if (pt_not (pt_val (pe_call ((ok_law_changes_are T).mono (by decide)) hr rfl T.m_law_changes_are T.F_law_changes_are.kp T.b_law_changes_are .nil pass0 (pa_cons (pe_fldK (K := K) rfl (pv 12)) (pa_cons (pv 13) pa_nil))))) (pss_one ps_never) pss_nil)
      (pss_one (ps_ret (pe_call ((ok_law_pair_is T).mono (by decide)) hr rfl T.m_law_pair_is T.F_law_pair_is.kp T.b_law_pair_is .nil pass0 (pa_cons (pe_call ((ok_shown T).mono (by decide)) hr rfl T.m_shown T.F_shown.kp T.b_shown .nil pass0 (pa_cons (pv 12) (pa_cons (pv 14) pa_nil))) (pa_cons (pe_op op_add (pv 14) (pe_call ((ok_law_offset_of T).mono (by decide)) hr rfl T.m_law_offset_of T.F_law_offset_of.kp T.b_law_offset_of .nil pass0 (pa_cons (pv 2) (pa_cons (pv 13) (pa_cons (pv 14) pa_nil))))) pa_nil)))))))))))))))))))))), ?_⟩
    refine ⟨_, rfl, sa, ns, _, rfl, hS, by decide, fun c0 => ⟨_, rfl, fun nm hnb hnl => ?_⟩⟩
    refine ⟨_, rfl, sa, ns, _, rfl, hS, by decide, fun c0 => ⟨_, _, _, rfl, by decide, by decide, by decide, fun o0 o00 o01 _ => ⟨_, _, rfl, rfl, ?_⟩⟩⟩
    refine ⟨_, rfl, sa, ns, _, rfl, hS, by decide, fun c1 => ⟨_, _, _, rfl, by decide, by decide, by decide, fun f f0 f1 _ => ?_⟩⟩
    refine ⟨_, rfl, sa, ns, _, rfl, hS, by decide, fun c2 => ⟨_, rfl, sa, ns, _, rfl, hS, by decide, fun c3 => ⟨(by show 2 ≤ sizeLine; decide), fun Lc hLc => ?_⟩⟩⟩
    have u1 := same_upd (o := .lst [.int c2, .int c3]) hLc
    have hLc1 : (upd H Lc (.lst [.int c2, .int c3])) Lc = some (.lst [.int c2, .int c3]) := upd_same
    have hpt1 := u1 _ _ hpt
    have hS1 := u1.seq hS
    generalize upd H Lc (.lst [.int c2, .int c3]) = H1 at *
    have nLp : Lc ≠ a.pt_law_where := fun z => by rw [z, hpt1] at hLc1; cases hLc1
    refine ⟨_, rfl, Lc, rfl, ⟨_, SqL.of hLc1⟩, ?_⟩
    refine comp_inv (K := K) (xs := [.int c2, .int c3]) (by show 2 ≤ 100000; decide) (fun _ _ _ h => h) (fun D i ys H' => D ≠ a.pt_law_where ∧ H1 D = none ∧ SameX a.pt_law_where H1 H' ∧ TabW H' a.pt_law_where ∧ H' D = some (.lst ys) ∧ ∃ rs : List Addr, ys = rs.map V.ref ∧ rs.length = i ∧ ∀ (j : Nat) x c, rs[j]? = some x → ([c2, c3] : List Int)[j]? = some c → RuleAt (ad a) H' x (rlOf c f)) ?_ ?_ ?_ ?_
    · rintro D i ys H' ⟨_, _, sx, _, hD, rs, rfl, hl, _⟩
      exact ⟨SqL.of (sx _ _ nLp hLc1), hD, by rw [List.length_map]; exact hl⟩
    · intro D hD
      have u := same_upd (o := .lst []) hD
      exact ⟨(fun z => by rw [z, hpt1] at hD; cases hD), hD, fun b o _ e => u _ _ e, .inl (u _ _ hpt1), upd_same, [], rfl, rfl, fun j x c h _ => nomatch h⟩
    · rintro D i x ys H' hx ⟨nD, hD0, sx, tb, hD, rs, rfl, hl, hr⟩ R hR
      obtain ⟨c, hc, rfl⟩ : ∃ c, ([c2, c3] : List Int)[i]? = some c ∧ x = .int c := by
        have e2 : ([.int c2, .int c3] : List V) = ([c2, c3] : List Int).map V.int := rfl
        rw [e2, List.getElem?_map] at hx
        obtain ⟨c, h1, h2⟩ := Option.map_eq_some_iff.mp hx
        exact ⟨c, h1, h2.symm⟩
      refine ⟨_, rfl, _, rfl, c, f, rfl, f0, by omega, tb, fun y H5 s5 t5 hr5 => ?_⟩
      have hD5 := s5 _ _ nD hD
      obtain ⟨tbl, htbl⟩ := tb.tbl
      refine hR _ _ hD5 ⟨nD, hD0, fun b o hb e => ?_, tab_updL t5 hD5, upd_same, rs ++ [y], ?_, ?_, ?_⟩
      · rw [upd_ne (ne_of_none e hD0)]
        exact s5 _ _ hb (sx _ _ hb e)
      · rw [List.map_append]; rfl
      · rw [List.length_append, hl]; rfl
      · intro j z c' h1 h2
        by_cases hj : j < rs.length
        · rw [List.getElem?_append_left hj] at h1
          exact RuleAt.upL (RuleAt.upX (hr j z c' h1 h2) htbl s5) hD5
        · rw [List.getElem?_append_right (by omega)] at h1
          have ej : j = i := by
            have := (List.getElem?_eq_some_iff.mp h1).1
            rw [List.length_singleton] at this
            omega
          subst ej
          rw [hl, Nat.sub_self] at h1
          cases h1
          rw [hc] at h2
          cases h2
          exact hr5.upL hD5
    rintro Dr ys H2 ⟨nDr, hDr0, sx2, tb2, hDr, rs, rfl, hrl, hr⟩
    have hrl2 : rs.length = 2 := hrl
    obtain ⟨x1, x2, rfl⟩ : ∃ x1 x2, rs = [x1, x2] := by
      match rs, hrl2 with
      | [x1, x2], _ => exact ⟨x1, x2, rfl⟩
    have hr1 := hr 0 x1 c2 rfl rfl
    have hr2 := hr 1 x2 c3 rfl rfl
    clear hr hrl hrl2
    have hS2 := seqX hS1 hpt1 sx2
    have hLc2 := sx2 _ _ nLp hLc1
    refine ⟨_, rfl, Lc, rfl, ⟨_, SqL.of hLc2⟩, ?_⟩
    refine comp_inv (K := K) (xs := [.int c2, .int c3]) (by show 2 ≤ 100000; decide) (fun _ _ _ h => h) (fun D i ys H' => H2 D = none ∧ Same H2 H' ∧ H' D = some (.lst ys) ∧ ∃ rs : List Addr, ys = rs.map V.ref ∧ rs.length = i ∧ ∀ (j : Nat) x c, rs[j]? = some x → ([c2, c3] : List Int)[j]? = some c → x ≠ D ∧ H' x = some (.lst ((days (fl (rlOf c f)) (lo40 f) (f + 400)).map V.int))) ?_ ?_ ?_ ?_
    · rintro D i ys H' ⟨_, s, hD, rs, rfl, hl, _⟩
      exact ⟨SqL.of (s _ _ hLc2), hD, by rw [List.length_map]; exact hl⟩
    · intro D hD
      exact ⟨hD, same_upd hD, upd_same, [], rfl, rfl, fun j x c h _ => nomatch h⟩
    · rintro D i x ys H' hx ⟨hD0, s, hD, rs, rfl, hl, hr⟩ R hR
      obtain ⟨c, hc, rfl⟩ : ∃ c, ([c2, c3] : List Int)[i]? = some c ∧ x = .int c := by
        have e2 : ([.int c2, .int c3] : List V) = ([c2, c3] : List Int).map V.int := rfl
        rw [e2, List.getElem?_map] at hx
        obtain ⟨c, h1, h2⟩ := Option.map_eq_some_iff.mp hx
        exact ⟨c, h1, h2.symm⟩
      refine ⟨_, rfl, _, rfl, c, f, rfl, f0, by omega, fun y H5 s5 hy0 hy5 => ?_⟩
      have hD5 := s5 _ _ hD
      have hyD : y ≠ D := fun z => by rw [z, hD] at hy0; cases hy0
      refine hR _ _ hD5 ⟨hD0, fun b o e => ?_, upd_same, rs ++ [y], ?_, ?_, ?_⟩
      · rw [upd_ne (ne_of_none e hD0)]
        exact s5 _ _ (s _ _ e)
      · rw [List.map_append]; rfl
      · rw [List.length_append, hl]; rfl
      · intro j z c' h1 h2
        by_cases hj : j < rs.length
        · rw [List.getElem?_append_left hj] at h1
          obtain ⟨g1, g2⟩ := hr j z c' h1 h2
          exact ⟨g1, by rw [upd_ne g1]; exact s5 _ _ g2⟩
        · rw [List.getElem?_append_right (by omega)] at h1
          have ej : j = i := by
            have := (List.getElem?_eq_some_iff.mp h1).1
            rw [List.length_singleton] at this
            omega
          subst ej
          rw [hl, Nat.sub_self] at h1
          cases h1
          rw [hc] at h2
          cases h2
          exact ⟨hyD, by rw [upd_ne hyD]; exact hy5⟩
    rintro Df ys H5 ⟨hDf0, s5, hDf, rs, rfl, hrl, hr⟩
    have hrl2 : rs.length = 2 := hrl
    obtain ⟨L0, L1, rfl⟩ : ∃ x1 x2, rs = [x1, x2] := by
      match rs, hrl2 with
      | [x1, x2], _ => exact ⟨x1, x2, rfl⟩
    have hL0 := (hr 0 L0 c2 rfl rfl).2
    have hL1 := (hr 1 L1 c3 rfl rfl).2
    clear hr hrl hrl2
    replace hr1 := hr1.up s5
    replace hr2 := hr2.up s5
    replace hDr := s5 _ _ hDr
    have hS5 := s5.seq hS2
    refine ⟨_, rfl, _, rfl, sa, ns, _, rfl, hS5, by decide, fun c4 => ⟨_, _, _, rfl, by decide, by decide, by decide, fun u u0 u1 _ => ⟨_, _, rfl, rfl, ?_⟩⟩⟩
    refine ⟨fun σ' H' => ∃ bg : Int, f - 40 ≤ bg ∧ bg ≤ f + 19 ∧ H5 = H' ∧ σ' = [some (.ref sa), some (.str nm), some (.int (o0 - 780)), some (.int f), some (.ref Lc), some (.ref Dr), some (.ref Df), some (.int bg), none, none, none, none, none, none, none], ?_, ?_⟩
    · refine ⟨_, rfl, _, _, rfl, rfl, _, rfl, ite2 (fun z => ?_) (fun z => ?_)⟩
      · exact ⟨_, rfl, _, _, rfl, rfl, f - 40, by omega, by omega, rfl, rfl⟩
      · exact ⟨f + u, by omega, by omega, rfl, rfl⟩
    rintro σ H6 ⟨bg, g1, g2, rfl, rfl⟩
    refine ⟨_, rfl, _, rfl, sa, ns, _, rfl, hS5, by decide, fun c5 => ⟨_, _, _, rfl, by decide, by decide, by decide, fun ev ev0 ev1 _ => ⟨_, _, rfl, rfl, ?_⟩⟩⟩
    refine ⟨_, rfl, sa, ns, _, rfl, hS5, by decide, fun c6 => ⟨_, _, _, rfl, by decide, by decide, by decide, fun mi mi0 mi1 _ => ?_⟩⟩
    refine ⟨_, rfl, sa, ns, _, rfl, hS5, by decide, fun c7 => ⟨_, _, _, rfl, by decide, by decide, by decide, fun sv sv0 sv1 _ => ⟨_, _, rfl, rfl, ?_⟩⟩⟩
    refine ⟨_, rfl, sa, ns, _, rfl, hS5, by decide, fun c8 => ⟨_, _, rfl, rfl, (by show (0 : Int) < 4; decide), ?_⟩⟩
    have gl := lo0_ge bg
    have gu : lo0 bg ≤ 200000 := by unfold lo0; split <;> omega
    have hWd : Wd (lo0 bg) (bg + ev) := ⟨gl.2, gu, by omega, by omega, by omega⟩
    refine ⟨fun σ' H' => ∃ (mi sh : Int) (x ch q : Addr) (cs : List RA) (ms : List Int), Same H5 H' ∧ PlaceAt a.x_Place H' x nm (o0 - 780) ch q cs ∧ Due (days (fl (rlOf c2 f)) (lo0 bg) (bg + ev)) (days (fl (rlOf c3 f)) (lo0 bg) (bg + ev)) (lo0 bg) (bg + ev) ms ∧ sps cs = ms.map (rowOf mi (o0 - 780) sh (days (fl (rlOf c2 f)) (lo0 bg) (bg + ev))) ∧ σ' = [some (.ref sa), some (.str nm), some (.int (o0 - 780)), some (.int f), some (.ref Lc), some (.ref Dr), some (.ref Df), some (.int bg), some (.int (bg + ev)), some (.int mi), some (.int sh), some (.int (c8 % 4)), some (.ref x), none, none], ?_, ?_⟩
    · refine ⟨_, rfl, rfl, _, rfl, ite2 (fun z => ?_) (fun z => ?_)⟩
      · refine ⟨_, rfl, _, rfl, _, rfl, Dr, _, _, _, rfl, rfl, SqL.of hDr, rfl, _, rfl, Dr, _, _, _, rfl, rfl, SqL.of hDr, rfl, _, rfl, _, rfl, nm, _, x1, x2, bg, _, 60, 60, _, _, rfl, ⟨hnb, hnl, by omega, by omega, by omega, by omega, by omega, by omega⟩, hWd, by omega, hr1, hr2, fun x ch q cs ms H7 s7 pl due hs => ?_⟩
        refine ⟨(by show 2 ≤ sizeLine; decide), fun tp htp => ⟨tp, _, rfl, SqT.of upd_same, rfl, ?_⟩⟩
        have u7 := same_upd (o := .tup [.int 60, .int 60]) htp
        exact ⟨_, _, rfl, _, _, rfl, rfl, 60, 60, x, ch, q, cs, ms, s7.trans u7, pl.up u7, due, hs, rfl⟩
      · refine ⟨_, rfl, rfl, _, rfl, ite2 (fun z => ?_) (fun z => ?_)⟩
        · refine ⟨_, rfl, _, rfl, _, rfl, Dr, _, _, _, rfl, rfl, SqL.of hDr, rfl, _, rfl, Dr, _, _, _, rfl, rfl, SqL.of hDr, rfl, _, rfl, _, rfl, _, rfl, nm, _, x1, x2, bg, _, mi, 60, _, _, rfl, ⟨hnb, hnl, by omega, by omega, by omega, by omega, by omega, by omega⟩, hWd, by omega, hr1, hr2, fun x ch q cs ms H7 s7 pl due hs => ?_⟩
          exact ⟨mi, 60, x, ch, q, cs, ms, s7, pl, due, hs, rfl⟩
        · refine ⟨_, rfl, _, rfl, _, rfl, Dr, _, _, _, rfl, rfl, SqL.of hDr, rfl, _, rfl, Dr, _, _, _, rfl, rfl, SqL.of hDr, rfl, _, rfl, _, rfl, _, rfl, _, rfl, nm, _, x1, x2, bg, _, mi, (1 + sv), _, _, rfl, ⟨hnb, hnl, by omega, by omega, by omega, by omega, by omega, by omega⟩, hWd, by omega, hr1, hr2, fun x ch q cs ms H7 s7 pl due hs => ?_⟩
          exact ⟨mi, 1 + sv, x, ch, q, cs, ms, s7, pl, due, hs, rfl⟩
    clear mi0 mi1 sv0 sv1
    rintro σ H7 ⟨mi, sh, x, ch, q, cs, ms, s7, pl, due, hs, rfl⟩
    refine ⟨_, rfl, _, rfl, _, rfl, _, rfl, _, rfl, _, rfl, L0, L1, Df, _, _, _, _, _, _, _, rfl, s7 _ _ hDf, s7 _ _ hL0, s7 _ _ hL1, DR.days_rise _ _ _, DR.days_rise _ _ _, ?_, ?_, fun p ts ns2 H8 s8 hp hok due2 hts => ?_⟩
    · have := DR.days_len (fl (rlOf c2 f)) (lo40 f) (f + 400)
      have : f - 40 ≤ lo40 f := by unfold lo40; split <;> omega
      omega
    · have := DR.days_len (fl (rlOf c3 f)) (lo40 f) (f + 400)
      have : f - 40 ≤ lo40 f := by unfold lo40; split <;> omega
      omega
    have es : sps cs = sps ts := by rw [hs, hts]; exact (due_same g1 (by omega) due due2).2 _ _ _
    have pl8 := pl.up s8
    obtain ⟨dx, hx⟩ := pl8.ob
    refine ⟨_, rfl, x, _, _, dx, _, _, rfl, hx, T.cl_Place, T.io_Place, T.ki_Place_Place, _, rfl, iteF ?_⟩
    refine ⟨_, rfl, x, _, dx, _, _, rfl, hx, T.cl_Place, T.n_Place_name, look_n4 _ _ _ _, _, rfl, rfl, _, rfl, ?_⟩
    rw [decide_eq_true rfl]
    refine iteF ?_
    refine ⟨_, rfl, x, _, dx, _, _, rfl, hx, T.cl_Place, T.n_Place_offset, look_o4 _ _ _ _, _, rfl, rfl, _, rfl, ?_⟩
    rw [decide_eq_true rfl]
    refine iteF ?_
    have hS8 := (s7.trans s8).seq hS5
    refine ⟨_, rfl, _, _, rfl, rfl, .inr ⟨by decide, by decide⟩, _, rfl, sa, ns, _, rfl, hS8, by decide, fun c9 => ⟨_, _, _, rfl, by decide, by decide, by decide, fun w w0 w1 _ => ⟨_, _, rfl, rfl, _, _, rfl, rfl, ?_⟩⟩⟩
    have few := pl8.few
    refine ⟨_, rfl, x, _, dx, _, _, rfl, hx, T.cl_Place, T.n_Place_changes, look_c4' _ _ _ _, _, rfl, ch, p, cs, ts, rfl, pl8.ch, hp, pl8.ok, hok, es, by omega, fun H9 s9 => ⟨_, rfl, iteF ?_⟩⟩
    refine ⟨_, rfl, _, rfl, x, nm, _, ch, q, cs, _, rfl, pl8.up s9, fun r H10 s10 hr0 hr => ?_⟩
    have elen : ts.length = cs.length := by
      have := congrArg List.length es
      rw [sps_len, sps_len] at this
      exact this.symm
    refine ⟨_, rfl, _, rfl, _, rfl, _, rfl, _, _, p, ts, rfl, s10 _ _ (s9 _ _ hp), (hok.up s9).up s10, by rw [← es]; exact pl8.rise, by omega, _, _, rfl, rfl, ?_⟩
    exact ⟨r, _, _, _, rfl, hr, Int.emod_nonneg _ (by decide), Int.emod_lt_of_pos _ (by decide), by rw [pair_eq, es], k _⟩
end
end K35

namespace K35
open PySem L2
open DR (Rl fl days)
theorem txt_mk {K : PySem.W.Frag} {h : Heap} {mg : Str → Option Value} (X : K.In h) (G : h.Ns mainGlobals mg)
    {x_Days : Addr}
    {x_Every : Addr}
    {x_Place : Addr}
    {x_Rule : Addr}
    {x_Where : Addr}
    {f_is_made_of : Addr} {oc_is_made_of kV_is_made_of dc_is_made_of pm_is_made_of cd_is_made_of ct_is_made_of : Value} {od_is_made_of an_is_made_of : Option Addr} {sl_is_made_of : Array (Option Value)}
    {f_is_day : Addr} {oc_is_day kV_is_day dc_is_day pm_is_day cd_is_day ct_is_day : Value} {od_is_day an_is_day : Option Addr} {sl_is_day : Array (Option Value)}
    {f_check_bounds : Addr} {oc_check_bounds kV_check_bounds dc_check_bounds pm_check_bounds cd_check_bounds ct_check_bounds : Value} {od_check_bounds an_check_bounds : Option Addr} {sl_check_bounds : Array (Option Value)}
    {f_count_below : Addr} {oc_count_below kV_count_below dc_count_below pm_count_below cd_count_below ct_count_below : Value} {od_count_below an_count_below : Option Addr} {sl_count_below : Array (Option Value)}
    {f_Rule_next_in : Addr} {oc_Rule_next_in dV_Rule_next_in kV_Rule_next_in dc_Rule_next_in pm_Rule_next_in cd_Rule_next_in ct_Rule_next_in : Value} {od_Rule_next_in an_Rule_next_in : Option Addr} {sl_Rule_next_in : Array (Option Value)}
    {t_Rule_next_in : Addr} {ot_Rule_next_in : Obj} {u_Rule_next_in_0 u_Rule_next_in_1 : Tok} {nt_Rule_next_in : Nat}
    {f_Every_next_in : Addr} {oc_Every_next_in dV_Every_next_in kV_Every_next_in dc_Every_next_in pm_Every_next_in cd_Every_next_in ct_Every_next_in : Value} {od_Every_next_in an_Every_next_in : Option Addr} {sl_Every_next_in : Array (Option Value)}
    {t_Every_next_in : Addr} {ot_Every_next_in : Obj} {u_Every_next_in_0 u_Every_next_in_1 : Tok} {nt_Every_next_in : Nat}
    {f_Where___init : Addr} {oc_Where___init kV_Where___init dc_Where___init pm_Where___init cd_Where___init ct_Where___init : Value} {od_Where___init an_Where___init : Option Addr} {sl_Where___init : Array (Option Value)}
    {f_check_offset : Addr} {oc_check_offset kV_check_offset dc_check_offset pm_check_offset cd_check_offset ct_check_offset : Value} {od_check_offset an_check_offset : Option Addr} {sl_check_offset : Array (Option Value)}
    {f_offset_behind : Addr} {oc_offset_behind kV_offset_behind dc_offset_behind pm_offset_behind cd_offset_behind ct_offset_behind : Value} {od_offset_behind an_offset_behind : Option Addr} {sl_offset_behind : Array (Option Value)}
    {f_check_put : Addr} {oc_check_put kV_check_put dc_check_put pm_check_put cd_check_put ct_check_put : Value} {od_check_put an_check_put : Option Addr} {sl_check_put : Array (Option Value)}
    {f_law_cell_at : Addr} {oc_law_cell_at kV_law_cell_at dc_law_cell_at pm_law_cell_at cd_law_cell_at ct_law_cell_at : Value} {od_law_cell_at an_law_cell_at : Option Addr} {sl_law_cell_at : Array (Option Value)}
    {f_law_whole : Addr} {oc_law_whole kV_law_whole dc_law_whole pm_law_whole cd_law_whole ct_law_whole : Value} {od_law_whole an_law_whole : Option Addr} {sl_law_whole : Array (Option Value)}
    {f_law_mixed : Addr} {oc_law_mixed kV_law_mixed dc_law_mixed pm_law_mixed cd_law_mixed ct_law_mixed : Value} {od_law_mixed an_law_mixed : Option Addr} {sl_law_mixed : Array (Option Value)}
    {f_law_offset_of : Addr} {oc_law_offset_of kV_law_offset_of dc_law_offset_of pm_law_offset_of cd_law_offset_of ct_law_offset_of : Value} {od_law_offset_of an_law_offset_of : Option Addr} {sl_law_offset_of : Array (Option Value)}
    {f_law_where : Addr} {oc_law_where kV_law_where dc_law_where pm_law_where cd_law_where ct_law_where : Value} {od_law_where an_law_where : Option Addr} {sl_law_where : Array (Option Value)}
    {f_law_due : Addr} {oc_law_due kV_law_due dc_law_due pm_law_due cd_law_due ct_law_due : Value} {od_law_due an_law_due : Option Addr} {sl_law_due : Array (Option Value)}
    {f_is_name : Addr} {oc_is_name kV_is_name dc_is_name pm_is_name cd_is_name ct_is_name : Value} {od_is_name an_is_name : Option Addr} {sl_is_name : Array (Option Value)}
    {f_check_day : Addr} {oc_check_day kV_check_day dc_check_day pm_check_day cd_check_day ct_check_day : Value} {od_check_day an_check_day : Option Addr} {sl_check_day : Array (Option Value)}
    {f_Every_days_in : Addr} {oc_Every_days_in kV_Every_days_in dc_Every_days_in pm_Every_days_in cd_Every_days_in ct_Every_days_in : Value} {od_Every_days_in an_Every_days_in : Option Addr} {sl_Every_days_in : Array (Option Value)}
    {f_Days_next_in : Addr} {oc_Days_next_in dV_Days_next_in kV_Days_next_in dc_Days_next_in pm_Days_next_in cd_Days_next_in ct_Days_next_in : Value} {od_Days_next_in an_Days_next_in : Option Addr} {sl_Days_next_in : Array (Option Value)}
    {t_Days_next_in : Addr} {ot_Days_next_in : Obj} {u_Days_next_in_0 u_Days_next_in_1 : Tok} {nt_Days_next_in : Nat}
    {f_Where_falls_on : Addr} {oc_Where_falls_on kV_Where_falls_on dc_Where_falls_on pm_Where_falls_on cd_Where_falls_on ct_Where_falls_on : Value} {od_Where_falls_on an_Where_falls_on : Option Addr} {sl_Where_falls_on : Array (Option Value)}
    {f_check_changes : Addr} {oc_check_changes kV_check_changes dc_check_changes pm_check_changes cd_check_changes ct_check_changes : Value} {od_check_changes an_check_changes : Option Addr} {sl_check_changes : Array (Option Value)}
    {f_changes_until : Addr} {oc_changes_until kV_changes_until dc_changes_until pm_changes_until cd_changes_until ct_changes_until : Value} {od_changes_until an_changes_until : Option Addr} {sl_changes_until : Array (Option Value)}
    {f_law_name_by : Addr} {oc_law_name_by kV_law_name_by dc_law_name_by pm_law_name_by cd_law_name_by ct_law_name_by : Value} {od_law_name_by an_law_name_by : Option Addr} {sl_law_name_by : Array (Option Value)}
    {f_law_pair_is : Addr} {oc_law_pair_is kV_law_pair_is dc_law_pair_is pm_law_pair_is cd_law_pair_is ct_law_pair_is : Value} {od_law_pair_is an_law_pair_is : Option Addr} {sl_law_pair_is : Array (Option Value)}
    {f_law_falls_by : Addr} {oc_law_falls_by kV_law_falls_by dc_law_falls_by pm_law_falls_by cd_law_falls_by ct_law_falls_by : Value} {od_law_falls_by an_law_falls_by : Option Addr} {sl_law_falls_by : Array (Option Value)}
    {f_law_changes_are : Addr} {oc_law_changes_are kV_law_changes_are dc_law_changes_are pm_law_changes_are cd_law_changes_are ct_law_changes_are : Value} {od_law_changes_are an_law_changes_are : Option Addr} {sl_law_changes_are : Array (Option Value)}
    {f_Every___init : Addr} {oc_Every___init dV_Every___init kV_Every___init dc_Every___init pm_Every___init cd_Every___init ct_Every___init : Value} {od_Every___init an_Every___init : Option Addr} {sl_Every___init : Array (Option Value)}
    {t_Every___init : Addr} {ot_Every___init : Obj} {u_Every___init_0 : Tok} {nt_Every___init : Nat}
    {f_Days___init : Addr} {oc_Days___init kV_Days___init dc_Days___init pm_Days___init cd_Days___init ct_Days___init : Value} {od_Days___init an_Days___init : Option Addr} {sl_Days___init : Array (Option Value)}
    {f_Where_next_in : Addr} {oc_Where_next_in dV_Where_next_in kV_Where_next_in dc_Where_next_in pm_Where_next_in cd_Where_next_in ct_Where_next_in : Value} {od_Where_next_in an_Where_next_in : Option Addr} {sl_Where_next_in : Array (Option Value)}
    {t_Where_next_in : Addr} {ot_Where_next_in : Obj} {u_Where_next_in_0 u_Where_next_in_1 : Tok} {nt_Where_next_in : Nat}
    {f_Place___init : Addr} {oc_Place___init dV_Place___init kV_Place___init dc_Place___init pm_Place___init cd_Place___init ct_Place___init : Value} {od_Place___init an_Place___init : Option Addr} {sl_Place___init : Array (Option Value)}
    {t_Place___init : Addr} {ot_Place___init : Obj}  {nt_Place___init : Nat}
    {f_offset_at : Addr} {oc_offset_at kV_offset_at dc_offset_at pm_offset_at cd_offset_at ct_offset_at : Value} {od_offset_at an_offset_at : Option Addr} {sl_offset_at : Array (Option Value)}
    {f_Rule_days_in : Addr} {oc_Rule_days_in kV_Rule_days_in dc_Rule_days_in pm_Rule_days_in cd_Rule_days_in ct_Rule_days_in : Value} {od_Rule_days_in an_Rule_days_in : Option Addr} {sl_Rule_days_in : Array (Option Value)}
    {f_shown : Addr} {oc_shown kV_shown dc_shown pm_shown cd_shown ct_shown : Value} {od_shown an_shown : Option Addr} {sl_shown : Array (Option Value)}
    {f_days_of : Addr} {oc_days_of dV_days_of kV_days_of dc_days_of pm_days_of cd_days_of ct_days_of : Value} {od_days_of an_days_of : Option Addr} {sl_days_of : Array (Option Value)}
    {t_days_of : Addr} {ot_days_of : Obj} {u_days_of_0 u_days_of_1 : Tok} {nt_days_of : Nat}
    {f_law_rule_by : Addr} {oc_law_rule_by kV_law_rule_by dc_law_rule_by pm_law_rule_by cd_law_rule_by ct_law_rule_by : Value} {od_law_rule_by an_law_rule_by : Option Addr} {sl_law_rule_by : Array (Option Value)}
    {f_place_by : Addr} {oc_place_by dV_place_by kV_place_by dc_place_by pm_place_by cd_place_by ct_place_by : Value} {od_place_by an_place_by : Option Addr} {sl_place_by : Array (Option Value)}
    {t_place_by : Addr} {ot_place_by : Obj} {u_place_by_0 u_place_by_1 : Tok} {nt_place_by : Nat}
    {f_law : Addr} {oc_law kV_law dc_law pm_law cd_law ct_law : Value} {od_law an_law : Option Addr} {sl_law : Array (Option Value)}
    {t_DAYS : Tok}
    {t_DAY_MINUTES : Tok}
    {t_FIGURES : Tok}
    {t_LETTERS : Tok}
    {t_MOST_CHANGES : Tok}
    {t_MOST_OFFSET : Tok}
    {t_MOST_SHIFT : Tok}
    {t_NAME_SIGNS : Tok}
    {cc_law_where pt_law_where : Addr} {u1_law_where : Value} {u2_law_where : Option Addr} {u3_law_where : Array Value} {u4_law_where : Array (Option Value)}
    (aC_Days : PySem.W.nsIn K mainGlobals "Days" = some (some (.ref x_Days)))
    (pg_Days : PySem.W.plainGet K x_Days Str.empty = true)
    (hd_Days : PySem.W.hasDictIn K x_Days = true)
    (po_Days : PySem.W.plainOver K x_Days = true)
    (sa_Days : PySem.W.findIn K (.ref x_Days) "__setattr__" = some (some (.builtin "object.__setattr__")))
    (mk_Days : PySem.W.makesIn K x_Days = true)
    (kc_Days : PySem.W.keepIn K (.ref x_Days) = true)
    (nf_days_Days : PySem.W.findIn K (.ref x_Days) "days" = some none)
    (aC_Every : PySem.W.nsIn K mainGlobals "Every" = some (some (.ref x_Every)))
    (pg_Every : PySem.W.plainGet K x_Every Str.empty = true)
    (hd_Every : PySem.W.hasDictIn K x_Every = true)
    (po_Every : PySem.W.plainOver K x_Every = true)
    (sa_Every : PySem.W.findIn K (.ref x_Every) "__setattr__" = some (some (.builtin "object.__setattr__")))
    (mk_Every : PySem.W.makesIn K x_Every = true)
    (kc_Every : PySem.W.keepIn K (.ref x_Every) = true)
    (nf_step_Every : PySem.W.findIn K (.ref x_Every) "step" = some none)
    (nf_first_Every : PySem.W.findIn K (.ref x_Every) "first" = some none)
    (aC_Place : PySem.W.nsIn K mainGlobals "Place" = some (some (.ref x_Place)))
    (pg_Place : PySem.W.plainGet K x_Place Str.empty = true)
    (hd_Place : PySem.W.hasDictIn K x_Place = true)
    (po_Place : PySem.W.plainOver K x_Place = true)
    (sa_Place : PySem.W.findIn K (.ref x_Place) "__setattr__" = some (some (.builtin "object.__setattr__")))
    (mk_Place : PySem.W.makesIn K x_Place = true)
    (kc_Place : PySem.W.keepIn K (.ref x_Place) = true)
    (nf_name_Place : PySem.W.findIn K (.ref x_Place) "name" = some none)
    (nf_offset_Place : PySem.W.findIn K (.ref x_Place) "offset" = some none)
    (nf_changes_Place : PySem.W.findIn K (.ref x_Place) "changes" = some none)
    (nf_moments_Place : PySem.W.findIn K (.ref x_Place) "moments" = some none)
    (aC_Rule : PySem.W.nsIn K mainGlobals "Rule" = some (some (.ref x_Rule)))
    (pg_Rule : PySem.W.plainGet K x_Rule Str.empty = true)
    (hd_Rule : PySem.W.hasDictIn K x_Rule = true)
    (po_Rule : PySem.W.plainOver K x_Rule = true)
    (sa_Rule : PySem.W.findIn K (.ref x_Rule) "__setattr__" = some (some (.builtin "object.__setattr__")))
    (mk_Rule : PySem.W.makesIn K x_Rule = true)
    (kc_Rule : PySem.W.keepIn K (.ref x_Rule) = true)
    (oi_Rule : PySem.W.findIn K (.ref x_Rule) "__init__" = some (some (.builtin "object.__init__")))
    (aC_Where : PySem.W.nsIn K mainGlobals "Where" = some (some (.ref x_Where)))
    (pg_Where : PySem.W.plainGet K x_Where Str.empty = true)
    (hd_Where : PySem.W.hasDictIn K x_Where = true)
    (po_Where : PySem.W.plainOver K x_Where = true)
    (sa_Where : PySem.W.findIn K (.ref x_Where) "__setattr__" = some (some (.builtin "object.__setattr__")))
    (mk_Where : PySem.W.makesIn K x_Where = true)
    (kc_Where : PySem.W.keepIn K (.ref x_Where) = true)
    (nf_test_Where : PySem.W.findIn K (.ref x_Where) "test" = some none)
    (a_is_made_of : PySem.W.nsIn K mainGlobals "is_made_of" = some (some (.ref f_is_made_of))) (l_is_made_of : K.lookup f_is_made_of = some ⟨oc_is_made_of, od_is_made_of, .func (PySem.W.fnOf "is_made_of" "is_made_of" (defArgs s_is_made_of) (defBody s_is_made_of) (defScope s_is_made_of) .none kV_is_made_of dc_is_made_of pm_is_made_of an_is_made_of cd_is_made_of ct_is_made_of), sl_is_made_of⟩) (e_is_made_of : PySem.W.codeIn K cd_is_made_of "is_made_of" = true) (k_is_made_of : PySem.W.keepIn K (.ref f_is_made_of) = true)
    (a_is_day : PySem.W.nsIn K mainGlobals "is_day" = some (some (.ref f_is_day))) (l_is_day : K.lookup f_is_day = some ⟨oc_is_day, od_is_day, .func (PySem.W.fnOf "is_day" "is_day" (defArgs s_is_day) (defBody s_is_day) (defScope s_is_day) .none kV_is_day dc_is_day pm_is_day an_is_day cd_is_day ct_is_day), sl_is_day⟩) (e_is_day : PySem.W.codeIn K cd_is_day "is_day" = true) (k_is_day : PySem.W.keepIn K (.ref f_is_day) = true)
    (a_check_bounds : PySem.W.nsIn K mainGlobals "check_bounds" = some (some (.ref f_check_bounds))) (l_check_bounds : K.lookup f_check_bounds = some ⟨oc_check_bounds, od_check_bounds, .func (PySem.W.fnOf "check_bounds" "check_bounds" (defArgs s_check_bounds) (defBody s_check_bounds) (defScope s_check_bounds) .none kV_check_bounds dc_check_bounds pm_check_bounds an_check_bounds cd_check_bounds ct_check_bounds), sl_check_bounds⟩) (e_check_bounds : PySem.W.codeIn K cd_check_bounds "check_bounds" = true) (k_check_bounds : PySem.W.keepIn K (.ref f_check_bounds) = true)
    (a_count_below : PySem.W.nsIn K mainGlobals "count_below" = some (some (.ref f_count_below))) (l_count_below : K.lookup f_count_below = some ⟨oc_count_below, od_count_below, .func (PySem.W.fnOf "count_below" "count_below" (defArgs s_count_below) (defBody s_count_below) (defScope s_count_below) .none kV_count_below dc_count_below pm_count_below an_count_below cd_count_below ct_count_below), sl_count_below⟩) (e_count_below : PySem.W.codeIn K cd_count_below "count_below" = true) (k_count_below : PySem.W.keepIn K (.ref f_count_below) = true)
    (a_Rule_next_in : PySem.W.findIn K (.ref x_Rule) "next_in" = some (some (.ref f_Rule_next_in))) (l_Rule_next_in : K.lookup f_Rule_next_in = some ⟨oc_Rule_next_in, od_Rule_next_in, .func (PySem.W.fnOf "next_in" "Rule.next_in" (defArgs s_Rule_next_in) (defBody s_Rule_next_in) (defScope s_Rule_next_in) dV_Rule_next_in kV_Rule_next_in dc_Rule_next_in pm_Rule_next_in an_Rule_next_in cd_Rule_next_in ct_Rule_next_in), sl_Rule_next_in⟩) (e_Rule_next_in : PySem.W.codeIn K cd_Rule_next_in "Rule.next_in" = true) (k_Rule_next_in : PySem.W.keepIn K (.ref f_Rule_next_in) = true)
    (i_Rule_next_in : PySem.W.isFn K (.ref f_Rule_next_in) = true)
    (v_Rule_next_in : dV_Rule_next_in = .ref t_Rule_next_in) (w_Rule_next_in : K.lookup t_Rule_next_in = some ot_Rule_next_in) (x_Rule_next_in : ot_Rule_next_in.data = .seq #[.int 0 u_Rule_next_in_0, .int 146097 u_Rule_next_in_1] nt_Rule_next_in)
    (a_Every_next_in : PySem.W.findIn K (.ref x_Every) "next_in" = some (some (.ref f_Every_next_in))) (l_Every_next_in : K.lookup f_Every_next_in = some ⟨oc_Every_next_in, od_Every_next_in, .func (PySem.W.fnOf "next_in" "Every.next_in" (defArgs s_Every_next_in) (defBody s_Every_next_in) (defScope s_Every_next_in) dV_Every_next_in kV_Every_next_in dc_Every_next_in pm_Every_next_in an_Every_next_in cd_Every_next_in ct_Every_next_in), sl_Every_next_in⟩) (e_Every_next_in : PySem.W.codeIn K cd_Every_next_in "Every.next_in" = true) (k_Every_next_in : PySem.W.keepIn K (.ref f_Every_next_in) = true)
    (i_Every_next_in : PySem.W.isFn K (.ref f_Every_next_in) = true)
    (v_Every_next_in : dV_Every_next_in = .ref t_Every_next_in) (w_Every_next_in : K.lookup t_Every_next_in = some ot_Every_next_in) (x_Every_next_in : ot_Every_next_in.data = .seq #[.int 0 u_Every_next_in_0, .int 146097 u_Every_next_in_1] nt_Every_next_in)
    (a_Where___init : PySem.W.findIn K (.ref x_Where) "__init__" = some (some (.ref f_Where___init))) (l_Where___init : K.lookup f_Where___init = some ⟨oc_Where___init, od_Where___init, .func (PySem.W.fnOf "__init__" "Where.__init__" (defArgs s_Where___init) (defBody s_Where___init) (defScope s_Where___init) .none kV_Where___init dc_Where___init pm_Where___init an_Where___init cd_Where___init ct_Where___init), sl_Where___init⟩) (e_Where___init : PySem.W.codeIn K cd_Where___init "Where.__init__" = true) (k_Where___init : PySem.W.keepIn K (.ref f_Where___init) = true)
    (i_Where___init : PySem.W.isFn K (.ref f_Where___init) = true)
    (a_check_offset : PySem.W.nsIn K mainGlobals "check_offset" = some (some (.ref f_check_offset))) (l_check_offset : K.lookup f_check_offset = some ⟨oc_check_offset, od_check_offset, .func (PySem.W.fnOf "check_offset" "check_offset" (defArgs s_check_offset) (defBody s_check_offset) (defScope s_check_offset) .none kV_check_offset dc_check_offset pm_check_offset an_check_offset cd_check_offset ct_check_offset), sl_check_offset⟩) (e_check_offset : PySem.W.codeIn K cd_check_offset "check_offset" = true) (k_check_offset : PySem.W.keepIn K (.ref f_check_offset) = true)
    (a_offset_behind : PySem.W.nsIn K mainGlobals "offset_behind" = some (some (.ref f_offset_behind))) (l_offset_behind : K.lookup f_offset_behind = some ⟨oc_offset_behind, od_offset_behind, .func (PySem.W.fnOf "offset_behind" "offset_behind" (defArgs s_offset_behind) (defBody s_offset_behind) (defScope s_offset_behind) .none kV_offset_behind dc_offset_behind pm_offset_behind an_offset_behind cd_offset_behind ct_offset_behind), sl_offset_behind⟩) (e_offset_behind : PySem.W.codeIn K cd_offset_behind "offset_behind" = true) (k_offset_behind : PySem.W.keepIn K (.ref f_offset_behind) = true)
    (a_check_put : PySem.W.nsIn K mainGlobals "check_put" = some (some (.ref f_check_put))) (l_check_put : K.lookup f_check_put = some ⟨oc_check_put, od_check_put, .func (PySem.W.fnOf "check_put" "check_put" (defArgs s_check_put) (defBody s_check_put) (defScope s_check_put) .none kV_check_put dc_check_put pm_check_put an_check_put cd_check_put ct_check_put), sl_check_put⟩) (e_check_put : PySem.W.codeIn K cd_check_put "check_put" = true) (k_check_put : PySem.W.keepIn K (.ref f_check_put) = true)
    (a_law_cell_at : PySem.W.nsIn K mainGlobals "_law_cell_at" = some (some (.ref f_law_cell_at))) (l_law_cell_at : K.lookup f_law_cell_at = some ⟨oc_law_cell_at, od_law_cell_at, .func (PySem.W.fnOf "_law_cell_at" "_law_cell_at" (defArgs s_law_cell_at) (defBody s_law_cell_at) (defScope s_law_cell_at) .none kV_law_cell_at dc_law_cell_at pm_law_cell_at an_law_cell_at cd_law_cell_at ct_law_cell_at), sl_law_cell_at⟩) (e_law_cell_at : PySem.W.codeIn K cd_law_cell_at "_law_cell_at" = true) (k_law_cell_at : PySem.W.keepIn K (.ref f_law_cell_at) = true)
    (a_law_whole : PySem.W.nsIn K mainGlobals "_law_whole" = some (some (.ref f_law_whole))) (l_law_whole : K.lookup f_law_whole = some ⟨oc_law_whole, od_law_whole, .func (PySem.W.fnOf "_law_whole" "_law_whole" (defArgs s_law_whole) (defBody s_law_whole) (defScope s_law_whole) .none kV_law_whole dc_law_whole pm_law_whole an_law_whole cd_law_whole ct_law_whole), sl_law_whole⟩) (e_law_whole : PySem.W.codeIn K cd_law_whole "_law_whole" = true) (k_law_whole : PySem.W.keepIn K (.ref f_law_whole) = true)
    (a_law_mixed : PySem.W.nsIn K mainGlobals "_law_mixed" = some (some (.ref f_law_mixed))) (l_law_mixed : K.lookup f_law_mixed = some ⟨oc_law_mixed, od_law_mixed, .func (PySem.W.fnOf "_law_mixed" "_law_mixed" (defArgs s_law_mixed) (defBody s_law_mixed) (defScope s_law_mixed) .none kV_law_mixed dc_law_mixed pm_law_mixed an_law_mixed cd_law_mixed ct_law_mixed), sl_law_mixed⟩) (e_law_mixed : PySem.W.codeIn K cd_law_mixed "_law_mixed" = true) (k_law_mixed : PySem.W.keepIn K (.ref f_law_mixed) = true)
    (a_law_offset_of : PySem.W.nsIn K mainGlobals "_law_offset_of" = some (some (.ref f_law_offset_of))) (l_law_offset_of : K.lookup f_law_offset_of = some ⟨oc_law_offset_of, od_law_offset_of, .func (PySem.W.fnOf "_law_offset_of" "_law_offset_of" (defArgs s_law_offset_of) (defBody s_law_offset_of) (defScope s_law_offset_of) .none kV_law_offset_of dc_law_offset_of pm_law_offset_of an_law_offset_of cd_law_offset_of ct_law_offset_of), sl_law_offset_of⟩) (e_law_offset_of : PySem.W.codeIn K cd_law_offset_of "_law_offset_of" = true) (k_law_offset_of : PySem.W.keepIn K (.ref f_law_offset_of) = true)
    (a_law_where : PySem.W.nsIn K mainGlobals "_law_where" = some (some (.ref f_law_where))) (l_law_where : K.lookup f_law_where = some ⟨oc_law_where, od_law_where, .func (PySem.W.fnOf "_law_where" "_law_where" (defArgs s_law_where) (defBody s_law_where) (defScope s_law_where) .none kV_law_where dc_law_where pm_law_where an_law_where cd_law_where ct_law_where), sl_law_where⟩) (e_law_where : PySem.W.codeIn K cd_law_where "_law_where" = true) (k_law_where : PySem.W.keepIn K (.ref f_law_where) = true)
    (a_law_due : PySem.W.nsIn K mainGlobals "_law_due" = some (some (.ref f_law_due))) (l_law_due : K.lookup f_law_due = some ⟨oc_law_due, od_law_due, .func (PySem.W.fnOf "_law_due" "_law_due" (defArgs s_law_due) (defBody s_law_due) (defScope s_law_due) .none kV_law_due dc_law_due pm_law_due an_law_due cd_law_due ct_law_due), sl_law_due⟩) (e_law_due : PySem.W.codeIn K cd_law_due "_law_due" = true) (k_law_due : PySem.W.keepIn K (.ref f_law_due) = true)
    (a_is_name : PySem.W.nsIn K mainGlobals "is_name" = some (some (.ref f_is_name))) (l_is_name : K.lookup f_is_name = some ⟨oc_is_name, od_is_name, .func (PySem.W.fnOf "is_name" "is_name" (defArgs s_is_name) (defBody s_is_name) (defScope s_is_name) .none kV_is_name dc_is_name pm_is_name an_is_name cd_is_name ct_is_name), sl_is_name⟩) (e_is_name : PySem.W.codeIn K cd_is_name "is_name" = true) (k_is_name : PySem.W.keepIn K (.ref f_is_name) = true)
    (a_check_day : PySem.W.nsIn K mainGlobals "check_day" = some (some (.ref f_check_day))) (l_check_day : K.lookup f_check_day = some ⟨oc_check_day, od_check_day, .func (PySem.W.fnOf "check_day" "check_day" (defArgs s_check_day) (defBody s_check_day) (defScope s_check_day) .none kV_check_day dc_check_day pm_check_day an_check_day cd_check_day ct_check_day), sl_check_day⟩) (e_check_day : PySem.W.codeIn K cd_check_day "check_day" = true) (k_check_day : PySem.W.keepIn K (.ref f_check_day) = true)
    (a_Every_days_in : PySem.W.findIn K (.ref x_Every) "days_in" = some (some (.ref f_Every_days_in))) (l_Every_days_in : K.lookup f_Every_days_in = some ⟨oc_Every_days_in, od_Every_days_in, .func (PySem.W.fnOf "days_in" "Every.days_in" (defArgs s_Every_days_in) (defBody s_Every_days_in) (defScope s_Every_days_in) .none kV_Every_days_in dc_Every_days_in pm_Every_days_in an_Every_days_in cd_Every_days_in ct_Every_days_in), sl_Every_days_in⟩) (e_Every_days_in : PySem.W.codeIn K cd_Every_days_in "Every.days_in" = true) (k_Every_days_in : PySem.W.keepIn K (.ref f_Every_days_in) = true)
    (i_Every_days_in : PySem.W.isFn K (.ref f_Every_days_in) = true)
    (a_Days_next_in : PySem.W.findIn K (.ref x_Days) "next_in" = some (some (.ref f_Days_next_in))) (l_Days_next_in : K.lookup f_Days_next_in = some ⟨oc_Days_next_in, od_Days_next_in, .func (PySem.W.fnOf "next_in" "Days.next_in" (defArgs s_Days_next_in) (defBody s_Days_next_in) (defScope s_Days_next_in) dV_Days_next_in kV_Days_next_in dc_Days_next_in pm_Days_next_in an_Days_next_in cd_Days_next_in ct_Days_next_in), sl_Days_next_in⟩) (e_Days_next_in : PySem.W.codeIn K cd_Days_next_in "Days.next_in" = true) (k_Days_next_in : PySem.W.keepIn K (.ref f_Days_next_in) = true)
    (i_Days_next_in : PySem.W.isFn K (.ref f_Days_next_in) = true)
    (v_Days_next_in : dV_Days_next_in = .ref t_Days_next_in) (w_Days_next_in : K.lookup t_Days_next_in = some ot_Days_next_in) (x_Days_next_in : ot_Days_next_in.data = .seq #[.int 0 u_Days_next_in_0, .int 146097 u_Days_next_in_1] nt_Days_next_in)
    (a_Where_falls_on : PySem.W.findIn K (.ref x_Where) "falls_on" = some (some (.ref f_Where_falls_on))) (l_Where_falls_on : K.lookup f_Where_falls_on = some ⟨oc_Where_falls_on, od_Where_falls_on, .func (PySem.W.fnOf "falls_on" "Where.falls_on" (defArgs s_Where_falls_on) (defBody s_Where_falls_on) (defScope s_Where_falls_on) .none kV_Where_falls_on dc_Where_falls_on pm_Where_falls_on an_Where_falls_on cd_Where_falls_on ct_Where_falls_on), sl_Where_falls_on⟩) (e_Where_falls_on : PySem.W.codeIn K cd_Where_falls_on "Where.falls_on" = true) (k_Where_falls_on : PySem.W.keepIn K (.ref f_Where_falls_on) = true)
    (i_Where_falls_on : PySem.W.isFn K (.ref f_Where_falls_on) = true)
    (a_check_changes : PySem.W.nsIn K mainGlobals "check_changes" = some (some (.ref f_check_changes))) (l_check_changes : K.lookup f_check_changes = some ⟨oc_check_changes, od_check_changes, .func (PySem.W.fnOf "check_changes" "check_changes" (defArgs s_check_changes) (defBody s_check_changes) (defScope s_check_changes) .none kV_check_changes dc_check_changes pm_check_changes an_check_changes cd_check_changes ct_check_changes), sl_check_changes⟩) (e_check_changes : PySem.W.codeIn K cd_check_changes "check_changes" = true) (k_check_changes : PySem.W.keepIn K (.ref f_check_changes) = true)
    (a_changes_until : PySem.W.nsIn K mainGlobals "changes_until" = some (some (.ref f_changes_until))) (l_changes_until : K.lookup f_changes_until = some ⟨oc_changes_until, od_changes_until, .func (PySem.W.fnOf "changes_until" "changes_until" (defArgs s_changes_until) (defBody s_changes_until) (defScope s_changes_until) .none kV_changes_until dc_changes_until pm_changes_until an_changes_until cd_changes_until ct_changes_until), sl_changes_until⟩) (e_changes_until : PySem.W.codeIn K cd_changes_until "changes_until" = true) (k_changes_until : PySem.W.keepIn K (.ref f_changes_until) = true)
    (a_law_name_by : PySem.W.nsIn K mainGlobals "_law_name_by" = some (some (.ref f_law_name_by))) (l_law_name_by : K.lookup f_law_name_by = some ⟨oc_law_name_by, od_law_name_by, .func (PySem.W.fnOf "_law_name_by" "_law_name_by" (defArgs s_law_name_by) (defBody s_law_name_by) (defScope s_law_name_by) .none kV_law_name_by dc_law_name_by pm_law_name_by an_law_name_by cd_law_name_by ct_law_name_by), sl_law_name_by⟩) (e_law_name_by : PySem.W.codeIn K cd_law_name_by "_law_name_by" = true) (k_law_name_by : PySem.W.keepIn K (.ref f_law_name_by) = true)
    (a_law_pair_is : PySem.W.nsIn K mainGlobals "_law_pair_is" = some (some (.ref f_law_pair_is))) (l_law_pair_is : K.lookup f_law_pair_is = some ⟨oc_law_pair_is, od_law_pair_is, .func (PySem.W.fnOf "_law_pair_is" "_law_pair_is" (defArgs s_law_pair_is) (defBody s_law_pair_is) (defScope s_law_pair_is) .none kV_law_pair_is dc_law_pair_is pm_law_pair_is an_law_pair_is cd_law_pair_is ct_law_pair_is), sl_law_pair_is⟩) (e_law_pair_is : PySem.W.codeIn K cd_law_pair_is "_law_pair_is" = true) (k_law_pair_is : PySem.W.keepIn K (.ref f_law_pair_is) = true)
    (a_law_falls_by : PySem.W.nsIn K mainGlobals "_law_falls_by" = some (some (.ref f_law_falls_by))) (l_law_falls_by : K.lookup f_law_falls_by = some ⟨oc_law_falls_by, od_law_falls_by, .func (PySem.W.fnOf "_law_falls_by" "_law_falls_by" (defArgs s_law_falls_by) (defBody s_law_falls_by) (defScope s_law_falls_by) .none kV_law_falls_by dc_law_falls_by pm_law_falls_by an_law_falls_by cd_law_falls_by ct_law_falls_by), sl_law_falls_by⟩) (e_law_falls_by : PySem.W.codeIn K cd_law_falls_by "_law_falls_by" = true) (k_law_falls_by : PySem.W.keepIn K (.ref f_law_falls_by) = true)
    (a_law_changes_are : PySem.W.nsIn K mainGlobals "_law_changes_are" = some (some (.ref f_law_changes_are))) (l_law_changes_are : K.lookup f_law_changes_are = some ⟨oc_law_changes_are, od_law_changes_are, .func (PySem.W.fnOf "_law_changes_are" "_law_changes_are" (defArgs s_law_changes_are) (defBody s_law_changes_are) (defScope s_law_changes_are) .none kV_law_changes_are dc_law_changes_are pm_law_changes_are an_law_changes_are cd_law_changes_are ct_law_changes_are), sl_law_changes_are⟩) (e_law_changes_are : PySem.W.codeIn K cd_law_changes_are "_law_changes_are" = true) (k_law_changes_are : PySem.W.keepIn K (.ref f_law_changes_are) = true)
    (a_Every___init : PySem.W.findIn K (.ref x_Every) "__init__" = some (some (.ref f_Every___init))) (l_Every___init : K.lookup f_Every___init = some ⟨oc_Every___init, od_Every___init, .func (PySem.W.fnOf "__init__" "Every.__init__" (defArgs s_Every___init) (defBody s_Every___init) (defScope s_Every___init) dV_Every___init kV_Every___init dc_Every___init pm_Every___init an_Every___init cd_Every___init ct_Every___init), sl_Every___init⟩) (e_Every___init : PySem.W.codeIn K cd_Every___init "Every.__init__" = true) (k_Every___init : PySem.W.keepIn K (.ref f_Every___init) = true)
    (i_Every___init : PySem.W.isFn K (.ref f_Every___init) = true)
    (v_Every___init : dV_Every___init = .ref t_Every___init) (w_Every___init : K.lookup t_Every___init = some ot_Every___init) (x_Every___init : ot_Every___init.data = .seq #[.int 0 u_Every___init_0] nt_Every___init)
    (a_Days___init : PySem.W.findIn K (.ref x_Days) "__init__" = some (some (.ref f_Days___init))) (l_Days___init : K.lookup f_Days___init = some ⟨oc_Days___init, od_Days___init, .func (PySem.W.fnOf "__init__" "Days.__init__" (defArgs s_Days___init) (defBody s_Days___init) (defScope s_Days___init) .none kV_Days___init dc_Days___init pm_Days___init an_Days___init cd_Days___init ct_Days___init), sl_Days___init⟩) (e_Days___init : PySem.W.codeIn K cd_Days___init "Days.__init__" = true) (k_Days___init : PySem.W.keepIn K (.ref f_Days___init) = true)
    (i_Days___init : PySem.W.isFn K (.ref f_Days___init) = true)
    (a_Where_next_in : PySem.W.findIn K (.ref x_Where) "next_in" = some (some (.ref f_Where_next_in))) (l_Where_next_in : K.lookup f_Where_next_in = some ⟨oc_Where_next_in, od_Where_next_in, .func (PySem.W.fnOf "next_in" "Where.next_in" (defArgs s_Where_next_in) (defBody s_Where_next_in) (defScope s_Where_next_in) dV_Where_next_in kV_Where_next_in dc_Where_next_in pm_Where_next_in an_Where_next_in cd_Where_next_in ct_Where_next_in), sl_Where_next_in⟩) (e_Where_next_in : PySem.W.codeIn K cd_Where_next_in "Where.next_in" = true) (k_Where_next_in : PySem.W.keepIn K (.ref f_Where_next_in) = true)
    (i_Where_next_in : PySem.W.isFn K (.ref f_Where_next_in) = true)
    (v_Where_next_in : dV_Where_next_in = .ref t_Where_next_in) (w_Where_next_in : K.lookup t_Where_next_in = some ot_Where_next_in) (x_Where_next_in : ot_Where_next_in.data = .seq #[.int 0 u_Where_next_in_0, .int 146097 u_Where_next_in_1] nt_Where_next_in)
    (a_Place___init : PySem.W.findIn K (.ref x_Place) "__init__" = some (some (.ref f_Place___init))) (l_Place___init : K.lookup f_Place___init = some ⟨oc_Place___init, od_Place___init, .func (PySem.W.fnOf "__init__" "Place.__init__" (defArgs s_Place___init) (defBody s_Place___init) (defScope s_Place___init) dV_Place___init kV_Place___init dc_Place___init pm_Place___init an_Place___init cd_Place___init ct_Place___init), sl_Place___init⟩) (e_Place___init : PySem.W.codeIn K cd_Place___init "Place.__init__" = true) (k_Place___init : PySem.W.keepIn K (.ref f_Place___init) = true)
    (i_Place___init : PySem.W.isFn K (.ref f_Place___init) = true)
    (v_Place___init : dV_Place___init = .ref t_Place___init) (w_Place___init : K.lookup t_Place___init = some ot_Place___init) (x_Place___init : ot_Place___init.data = .seq #[.none] nt_Place___init)
    (a_offset_at : PySem.W.nsIn K mainGlobals "offset_at" = some (some (.ref f_offset_at))) (l_offset_at : K.lookup f_offset_at = some ⟨oc_offset_at, od_offset_at, .func (PySem.W.fnOf "offset_at" "offset_at" (defArgs s_offset_at) (defBody s_offset_at) (defScope s_offset_at) .none kV_offset_at dc_offset_at pm_offset_at an_offset_at cd_offset_at ct_offset_at), sl_offset_at⟩) (e_offset_at : PySem.W.codeIn K cd_offset_at "offset_at" = true) (k_offset_at : PySem.W.keepIn K (.ref f_offset_at) = true)
    (a_Rule_days_in : PySem.W.findIn K (.ref x_Rule) "days_in" = some (some (.ref f_Rule_days_in))) (l_Rule_days_in : K.lookup f_Rule_days_in = some ⟨oc_Rule_days_in, od_Rule_days_in, .func (PySem.W.fnOf "days_in" "Rule.days_in" (defArgs s_Rule_days_in) (defBody s_Rule_days_in) (defScope s_Rule_days_in) .none kV_Rule_days_in dc_Rule_days_in pm_Rule_days_in an_Rule_days_in cd_Rule_days_in ct_Rule_days_in), sl_Rule_days_in⟩) (e_Rule_days_in : PySem.W.codeIn K cd_Rule_days_in "Rule.days_in" = true) (k_Rule_days_in : PySem.W.keepIn K (.ref f_Rule_days_in) = true)
    (i_Rule_days_in : PySem.W.isFn K (.ref f_Rule_days_in) = true)
    (a_shown : PySem.W.nsIn K mainGlobals "shown" = some (some (.ref f_shown))) (l_shown : K.lookup f_shown = some ⟨oc_shown, od_shown, .func (PySem.W.fnOf "shown" "shown" (defArgs s_shown) (defBody s_shown) (defScope s_shown) .none kV_shown dc_shown pm_shown an_shown cd_shown ct_shown), sl_shown⟩) (e_shown : PySem.W.codeIn K cd_shown "shown" = true) (k_shown : PySem.W.keepIn K (.ref f_shown) = true)
    (a_days_of : PySem.W.nsIn K mainGlobals "days_of" = some (some (.ref f_days_of))) (l_days_of : K.lookup f_days_of = some ⟨oc_days_of, od_days_of, .func (PySem.W.fnOf "days_of" "days_of" (defArgs s_days_of) (defBody s_days_of) (defScope s_days_of) dV_days_of kV_days_of dc_days_of pm_days_of an_days_of cd_days_of ct_days_of), sl_days_of⟩) (e_days_of : PySem.W.codeIn K cd_days_of "days_of" = true) (k_days_of : PySem.W.keepIn K (.ref f_days_of) = true)
    (v_days_of : dV_days_of = .ref t_days_of) (w_days_of : K.lookup t_days_of = some ot_days_of) (x_days_of : ot_days_of.data = .seq #[.int 0 u_days_of_0, .int 146097 u_days_of_1] nt_days_of)
    (a_law_rule_by : PySem.W.nsIn K mainGlobals "_law_rule_by" = some (some (.ref f_law_rule_by))) (l_law_rule_by : K.lookup f_law_rule_by = some ⟨oc_law_rule_by, od_law_rule_by, .func (PySem.W.fnOf "_law_rule_by" "_law_rule_by" (defArgs s_law_rule_by) (defBody s_law_rule_by) (defScope s_law_rule_by) .none kV_law_rule_by dc_law_rule_by pm_law_rule_by an_law_rule_by cd_law_rule_by ct_law_rule_by), sl_law_rule_by⟩) (e_law_rule_by : PySem.W.codeIn K cd_law_rule_by "_law_rule_by" = true) (k_law_rule_by : PySem.W.keepIn K (.ref f_law_rule_by) = true)
    (a_place_by : PySem.W.nsIn K mainGlobals "place_by" = some (some (.ref f_place_by))) (l_place_by : K.lookup f_place_by = some ⟨oc_place_by, od_place_by, .func (PySem.W.fnOf "place_by" "place_by" (defArgs s_place_by) (defBody s_place_by) (defScope s_place_by) dV_place_by kV_place_by dc_place_by pm_place_by an_place_by cd_place_by ct_place_by), sl_place_by⟩) (e_place_by : PySem.W.codeIn K cd_place_by "place_by" = true) (k_place_by : PySem.W.keepIn K (.ref f_place_by) = true)
    (v_place_by : dV_place_by = .ref t_place_by) (w_place_by : K.lookup t_place_by = some ot_place_by) (x_place_by : ot_place_by.data = .seq #[.int 60 u_place_by_0, .int 60 u_place_by_1] nt_place_by)
    (a_law : PySem.W.nsIn K mainGlobals "law" = some (some (.ref f_law))) (l_law : K.lookup f_law = some ⟨oc_law, od_law, .func (PySem.W.fnOf "law" "law" (defArgs s_law) (defBody s_law) (defScope s_law) .none kV_law dc_law pm_law an_law cd_law ct_law), sl_law⟩) (e_law : PySem.W.codeIn K cd_law "law" = true) (k_law : PySem.W.keepIn K (.ref f_law) = true)
    (j_Days_days_in : PySem.W.findIn K (.ref x_Days) "days_in" = some (some (.ref f_Rule_days_in)))
    (j_Where_days_in : PySem.W.findIn K (.ref x_Where) "days_in" = some (some (.ref f_Rule_days_in)))
    (g_DAYS : PySem.W.nsIn K mainGlobals "DAYS" = some (some (.int 146097 t_DAYS)))
    (g_DAY_MINUTES : PySem.W.nsIn K mainGlobals "DAY_MINUTES" = some (some (.int 1440 t_DAY_MINUTES)))
    (g_FIGURES : PySem.W.nsIn K mainGlobals "FIGURES" = some (some (.str "0123456789" t_FIGURES)))
    (g_LETTERS : PySem.W.nsIn K mainGlobals "LETTERS" = some (some (.str "abcdefghijklmnopqrstuvwxyz" t_LETTERS)))
    (g_MOST_CHANGES : PySem.W.nsIn K mainGlobals "MOST_CHANGES" = some (some (.int 400 t_MOST_CHANGES)))
    (g_MOST_OFFSET : PySem.W.nsIn K mainGlobals "MOST_OFFSET" = some (some (.int 900 t_MOST_OFFSET)))
    (g_MOST_SHIFT : PySem.W.nsIn K mainGlobals "MOST_SHIFT" = some (some (.int 120 t_MOST_SHIFT)))
    (g_NAME_SIGNS : PySem.W.nsIn K mainGlobals "NAME_SIGNS" = some (some (.int 8 t_NAME_SIGNS)))
    (io0_Place : PySem.W.findIn K (.ref x_Place) "__class__" = some (some (.builtin "object.__class__")))
    (io1_Place : PySem.W.specialIn K (.builtin "object.__class__") "__get__" = some (some (.builtin "getset_descriptor.__get__")))
    (io2_Place : PySem.W.takesIn K (.builtin "object.__class__") = some true)
    (io3_Place : PySem.W.mroIn K x_Place (.type "object") = some true)
    (ki_Place_Place : PySem.W.kitOne K (.ref x_Place) (.ref x_Place) = some true)
    (n_all : PySem.W.nsIn K mainGlobals "all" = some none)
    (n_bool : PySem.W.nsIn K mainGlobals "bool" = some none)
    (n_divmod : PySem.W.nsIn K mainGlobals "divmod" = some none)
    (n_int : PySem.W.nsIn K mainGlobals "int" = some none)
    (n_isinstance : PySem.W.nsIn K mainGlobals "isinstance" = some none)
    (n_len : PySem.W.nsIn K mainGlobals "len" = some none)
    (n_list : PySem.W.nsIn K mainGlobals "list" = some none)
    (n_max : PySem.W.nsIn K mainGlobals "max" = some none)
    (n_min : PySem.W.nsIn K mainGlobals "min" = some none)
    (n_range : PySem.W.nsIn K mainGlobals "range" = some none)
    (n_set : PySem.W.nsIn K mainGlobals "set" = some none)
    (n_sorted : PySem.W.nsIn K mainGlobals "sorted" = some none)
    (n_tuple : PySem.W.nsIn K mainGlobals "tuple" = some none)
    (cv_law_where : cd_law_where = .ref cc_law_where) (lk_law_where : K.lookup cc_law_where = some ⟨u1_law_where, u2_law_where, .fields u3_law_where, u4_law_where⟩) (pv_law_where : u3_law_where[11]? = some (.ref pt_law_where)) (np_law_where : K.lookup pt_law_where = none) :
    ∃ a : Adr, Txt K mg a ∧ a.f_law = f_law ∧ PySem.W.tabIn K "_law_where" = some (a.cc_law_where, a.pt_law_where) ∧ K.lookup a.pt_law_where = none ∧ ∀ (s : Shared) (v : Value), BindsTo s a.d_law ⟨[v], []⟩ [("_law_script", v)] := by
  have F_is_made_of := fun_mk (st := s_is_made_of) l_is_made_of e_is_made_of k_is_made_of
  have b_is_made_of := F_is_made_of.binds (ps := ["text", "signs"]) fun _ _ _ _ _ _ us hl => by obtain ⟨_, _, rfl⟩ := L2.ex2 hl; exact rfl
  have F_is_day := fun_mk (st := s_is_day) l_is_day e_is_day k_is_day
  have b_is_day := F_is_day.binds (ps := ["number"]) fun _ _ _ _ _ _ us hl => by obtain ⟨_, rfl⟩ := L2.ex1 hl; exact rfl
  have F_check_bounds := fun_mk (st := s_check_bounds) l_check_bounds e_check_bounds k_check_bounds
  have b_check_bounds := F_check_bounds.binds (ps := ["number", "least", "most"]) fun _ _ _ _ _ _ us hl => by obtain ⟨_, _, _, rfl⟩ := L2.ex3 hl; exact rfl
  have F_count_below := fun_mk (st := s_count_below) l_count_below e_count_below k_count_below
  have b_count_below := F_count_below.binds (ps := ["days", "number"]) fun _ _ _ _ _ _ us hl => by obtain ⟨_, _, rfl⟩ := L2.ex2 hl; exact rfl
  subst v_Rule_next_in
  have F_Rule_next_in := funD_mk (st := s_Rule_next_in) l_Rule_next_in e_Rule_next_in k_Rule_next_in
  have b_Rule_next_in : Binds K (PySem.W.fnOf "next_in" "Rule.next_in" (defArgs s_Rule_next_in) (defBody s_Rule_next_in) (defScope s_Rule_next_in) (.ref t_Rule_next_in) kV_Rule_next_in dc_Rule_next_in pm_Rule_next_in an_Rule_next_in cd_Rule_next_in ct_Rule_next_in) ["self", "day", "end"] [] := fun s us KX hl => by obtain ⟨_, _, _, rfl⟩ := L2.ex3 (us := us) (by rw [List.append_nil] at hl; exact hl); exact BindsTo.of_defaults rfl (KX _ _ w_Rule_next_in) x_Rule_next_in rfl rfl
  subst v_Every_next_in
  have F_Every_next_in := funD_mk (st := s_Every_next_in) l_Every_next_in e_Every_next_in k_Every_next_in
  have b_Every_next_in : Binds K (PySem.W.fnOf "next_in" "Every.next_in" (defArgs s_Every_next_in) (defBody s_Every_next_in) (defScope s_Every_next_in) (.ref t_Every_next_in) kV_Every_next_in dc_Every_next_in pm_Every_next_in an_Every_next_in cd_Every_next_in ct_Every_next_in) ["self", "day", "end"] [] := fun s us KX hl => by obtain ⟨_, _, _, rfl⟩ := L2.ex3 (us := us) (by rw [List.append_nil] at hl; exact hl); exact BindsTo.of_defaults rfl (KX _ _ w_Every_next_in) x_Every_next_in rfl rfl
  have F_Where___init := fun_mk (st := s_Where___init) l_Where___init e_Where___init k_Where___init
  have b_Where___init := F_Where___init.binds (ps := ["self", "test"]) fun _ _ _ _ _ _ us hl => by obtain ⟨_, _, rfl⟩ := L2.ex2 hl; exact rfl
  have F_check_offset := fun_mk (st := s_check_offset) l_check_offset e_check_offset k_check_offset
  have b_check_offset := F_check_offset.binds (ps := ["offset"]) fun _ _ _ _ _ _ us hl => by obtain ⟨_, rfl⟩ := L2.ex1 hl; exact rfl
  have F_offset_behind := fun_mk (st := s_offset_behind) l_offset_behind e_offset_behind k_offset_behind
  have b_offset_behind := F_offset_behind.binds (ps := ["place", "many"]) fun _ _ _ _ _ _ us hl => by obtain ⟨_, _, rfl⟩ := L2.ex2 hl; exact rfl
  have F_check_put := fun_mk (st := s_check_put) l_check_put e_check_put k_check_put
  have b_check_put := F_check_put.binds (ps := ["minute", "shift"]) fun _ _ _ _ _ _ us hl => by obtain ⟨_, _, rfl⟩ := L2.ex2 hl; exact rfl
  have F_law_cell_at := fun_mk (st := s_law_cell_at) l_law_cell_at e_law_cell_at k_law_cell_at
  have b_law_cell_at := F_law_cell_at.binds (ps := ["_law_script", "_law_k"]) fun _ _ _ _ _ _ us hl => by obtain ⟨_, _, rfl⟩ := L2.ex2 hl; exact rfl
  have F_law_whole := fun_mk (st := s_law_whole) l_law_whole e_law_whole k_law_whole
  have b_law_whole := F_law_whole.binds (ps := ["_law_found"]) fun _ _ _ _ _ _ us hl => by obtain ⟨_, rfl⟩ := L2.ex1 hl; exact rfl
  have F_law_mixed := fun_mk (st := s_law_mixed) l_law_mixed e_law_mixed k_law_mixed
  have b_law_mixed := F_law_mixed.binds (ps := ["_law_cell", "_law_k", "_law_many"]) fun _ _ _ _ _ _ us hl => by obtain ⟨_, _, _, rfl⟩ := L2.ex3 hl; exact rfl
  have F_law_offset_of := fun_mk (st := s_law_offset_of) l_law_offset_of e_law_offset_of k_law_offset_of
  have b_law_offset_of := F_law_offset_of.binds (ps := ["_law_own", "_law_changes", "_law_moment"]) fun _ _ _ _ _ _ us hl => by obtain ⟨_, _, _, rfl⟩ := L2.ex3 hl; exact rfl
  have F_law_where := fun_mk (st := s_law_where) l_law_where e_law_where k_law_where
  have b_law_where := F_law_where.binds (ps := ["_law_step", "_law_rest"]) fun _ _ _ _ _ _ us hl => by obtain ⟨_, _, rfl⟩ := L2.ex2 hl; exact rfl
  have F_law_due := fun_mk (st := s_law_due) l_law_due e_law_due k_law_due
  have b_law_due := F_law_due.binds (ps := ["_law_falls", "_law_offset", "_law_begin", "_law_end", "_law_minute", "_law_shift"]) fun _ _ _ _ _ _ us hl => by obtain ⟨_, _, _, _, _, _, rfl⟩ := L2.ex6 hl; exact rfl
  have F_is_name := fun_mk (st := s_is_name) l_is_name e_is_name k_is_name
  have b_is_name := F_is_name.binds (ps := ["text"]) fun _ _ _ _ _ _ us hl => by obtain ⟨_, rfl⟩ := L2.ex1 hl; exact rfl
  have F_check_day := fun_mk (st := s_check_day) l_check_day e_check_day k_check_day
  have b_check_day := F_check_day.binds (ps := ["number"]) fun _ _ _ _ _ _ us hl => by obtain ⟨_, rfl⟩ := L2.ex1 hl; exact rfl
  have F_Every_days_in := fun_mk (st := s_Every_days_in) l_Every_days_in e_Every_days_in k_Every_days_in
  have b_Every_days_in := F_Every_days_in.binds (ps := ["self", "begin", "end"]) fun _ _ _ _ _ _ us hl => by obtain ⟨_, _, _, rfl⟩ := L2.ex3 hl; exact rfl
  subst v_Days_next_in
  have F_Days_next_in := funD_mk (st := s_Days_next_in) l_Days_next_in e_Days_next_in k_Days_next_in
  have b_Days_next_in : Binds K (PySem.W.fnOf "next_in" "Days.next_in" (defArgs s_Days_next_in) (defBody s_Days_next_in) (defScope s_Days_next_in) (.ref t_Days_next_in) kV_Days_next_in dc_Days_next_in pm_Days_next_in an_Days_next_in cd_Days_next_in ct_Days_next_in) ["self", "day", "end"] [] := fun s us KX hl => by obtain ⟨_, _, _, rfl⟩ := L2.ex3 (us := us) (by rw [List.append_nil] at hl; exact hl); exact BindsTo.of_defaults rfl (KX _ _ w_Days_next_in) x_Days_next_in rfl rfl
  have F_Where_falls_on := fun_mk (st := s_Where_falls_on) l_Where_falls_on e_Where_falls_on k_Where_falls_on
  have b_Where_falls_on := F_Where_falls_on.binds (ps := ["self", "day"]) fun _ _ _ _ _ _ us hl => by obtain ⟨_, _, rfl⟩ := L2.ex2 hl; exact rfl
  have F_check_changes := fun_mk (st := s_check_changes) l_check_changes e_check_changes k_check_changes
  have b_check_changes := F_check_changes.binds (ps := ["changes"]) fun _ _ _ _ _ _ us hl => by obtain ⟨_, rfl⟩ := L2.ex1 hl; exact rfl
  have F_changes_until := fun_mk (st := s_changes_until) l_changes_until e_changes_until k_changes_until
  have b_changes_until := F_changes_until.binds (ps := ["place", "moment"]) fun _ _ _ _ _ _ us hl => by obtain ⟨_, _, rfl⟩ := L2.ex2 hl; exact rfl
  have F_law_name_by := fun_mk (st := s_law_name_by) l_law_name_by e_law_name_by k_law_name_by
  have b_law_name_by := F_law_name_by.binds (ps := ["_law_cell"]) fun _ _ _ _ _ _ us hl => by obtain ⟨_, rfl⟩ := L2.ex1 hl; exact rfl
  have F_law_pair_is := fun_mk (st := s_law_pair_is) l_law_pair_is e_law_pair_is k_law_pair_is
  have b_law_pair_is := F_law_pair_is.binds (ps := ["_law_found", "_law_local"]) fun _ _ _ _ _ _ us hl => by obtain ⟨_, _, rfl⟩ := L2.ex2 hl; exact rfl
  have F_law_falls_by := fun_mk (st := s_law_falls_by) l_law_falls_by e_law_falls_by k_law_falls_by
  have b_law_falls_by := F_law_falls_by.binds (ps := ["_law_cell", "_law_begin"]) fun _ _ _ _ _ _ us hl => by obtain ⟨_, _, rfl⟩ := L2.ex2 hl; exact rfl
  have F_law_changes_are := fun_mk (st := s_law_changes_are) l_law_changes_are e_law_changes_are k_law_changes_are
  have b_law_changes_are := F_law_changes_are.binds (ps := ["_law_found", "_law_due_here"]) fun _ _ _ _ _ _ us hl => by obtain ⟨_, _, rfl⟩ := L2.ex2 hl; exact rfl
  subst v_Every___init
  have F_Every___init := funD_mk (st := s_Every___init) l_Every___init e_Every___init k_Every___init
  have b_Every___init : Binds K (PySem.W.fnOf "__init__" "Every.__init__" (defArgs s_Every___init) (defBody s_Every___init) (defScope s_Every___init) (.ref t_Every___init) kV_Every___init dc_Every___init pm_Every___init an_Every___init cd_Every___init ct_Every___init) ["self", "step", "first"] [] := fun s us KX hl => by obtain ⟨_, _, _, rfl⟩ := L2.ex3 (us := us) (by rw [List.append_nil] at hl; exact hl); exact BindsTo.of_defaults rfl (KX _ _ w_Every___init) x_Every___init rfl rfl
  have F_Days___init := fun_mk (st := s_Days___init) l_Days___init e_Days___init k_Days___init
  have b_Days___init := F_Days___init.binds (ps := ["self", "days"]) fun _ _ _ _ _ _ us hl => by obtain ⟨_, _, rfl⟩ := L2.ex2 hl; exact rfl
  subst v_Where_next_in
  have F_Where_next_in := funD_mk (st := s_Where_next_in) l_Where_next_in e_Where_next_in k_Where_next_in
  have b_Where_next_in : Binds K (PySem.W.fnOf "next_in" "Where.next_in" (defArgs s_Where_next_in) (defBody s_Where_next_in) (defScope s_Where_next_in) (.ref t_Where_next_in) kV_Where_next_in dc_Where_next_in pm_Where_next_in an_Where_next_in cd_Where_next_in ct_Where_next_in) ["self", "day", "end"] [] := fun s us KX hl => by obtain ⟨_, _, _, rfl⟩ := L2.ex3 (us := us) (by rw [List.append_nil] at hl; exact hl); exact BindsTo.of_defaults rfl (KX _ _ w_Where_next_in) x_Where_next_in rfl rfl
  subst v_Place___init
  have F_Place___init := funD_mk (st := s_Place___init) l_Place___init e_Place___init k_Place___init
  have b_Place___init : Binds K (PySem.W.fnOf "__init__" "Place.__init__" (defArgs s_Place___init) (defBody s_Place___init) (defScope s_Place___init) (.ref t_Place___init) kV_Place___init dc_Place___init pm_Place___init an_Place___init cd_Place___init ct_Place___init) ["self", "name", "offset", "changes"] [] := fun s us KX hl => by obtain ⟨_, _, _, _, rfl⟩ := L2.ex4 (us := us) (by rw [List.append_nil] at hl; exact hl); exact BindsTo.of_defaults rfl (KX _ _ w_Place___init) x_Place___init rfl rfl
  have F_offset_at := fun_mk (st := s_offset_at) l_offset_at e_offset_at k_offset_at
  have b_offset_at := F_offset_at.binds (ps := ["place", "moment"]) fun _ _ _ _ _ _ us hl => by obtain ⟨_, _, rfl⟩ := L2.ex2 hl; exact rfl
  have F_Rule_days_in := fun_mk (st := s_Rule_days_in) l_Rule_days_in e_Rule_days_in k_Rule_days_in
  have b_Rule_days_in := F_Rule_days_in.binds (ps := ["self", "begin", "end"]) fun _ _ _ _ _ _ us hl => by obtain ⟨_, _, _, rfl⟩ := L2.ex3 hl; exact rfl
  have F_shown := fun_mk (st := s_shown) l_shown e_shown k_shown
  have b_shown := F_shown.binds (ps := ["place", "moment"]) fun _ _ _ _ _ _ us hl => by obtain ⟨_, _, rfl⟩ := L2.ex2 hl; exact rfl
  subst v_days_of
  have F_days_of := funD_mk (st := s_days_of) l_days_of e_days_of k_days_of
  have b_days_of : Binds K (PySem.W.fnOf "days_of" "days_of" (defArgs s_days_of) (defBody s_days_of) (defScope s_days_of) (.ref t_days_of) kV_days_of dc_days_of pm_days_of an_days_of cd_days_of ct_days_of) ["rule", "begin", "end"] [] := fun s us KX hl => by obtain ⟨_, _, _, rfl⟩ := L2.ex3 (us := us) (by rw [List.append_nil] at hl; exact hl); exact BindsTo.of_defaults rfl (KX _ _ w_days_of) x_days_of rfl rfl
  have F_law_rule_by := fun_mk (st := s_law_rule_by) l_law_rule_by e_law_rule_by k_law_rule_by
  have b_law_rule_by := F_law_rule_by.binds (ps := ["_law_cell", "_law_begin"]) fun _ _ _ _ _ _ us hl => by obtain ⟨_, _, rfl⟩ := L2.ex2 hl; exact rfl
  subst v_place_by
  have F_place_by := funD_mk (st := s_place_by) l_place_by e_place_by k_place_by
  have b_place_by : Binds K (PySem.W.fnOf "place_by" "place_by" (defArgs s_place_by) (defBody s_place_by) (defScope s_place_by) (.ref t_place_by) kV_place_by dc_place_by pm_place_by an_place_by cd_place_by ct_place_by) ["name", "offset", "forward", "back", "begin", "end", "minute", "shift"] [] := fun s us KX hl => by obtain ⟨_, _, _, _, _, _, _, _, rfl⟩ := L2.ex8 (us := us) (by rw [List.append_nil] at hl; exact hl); exact BindsTo.of_defaults rfl (KX _ _ w_place_by) x_place_by rfl rfl
  have F_law := fun_mk (st := s_law) l_law e_law k_law
  have b_law := F_law.binds (ps := ["_law_script"]) fun _ _ _ _ _ _ us hl => by obtain ⟨_, rfl⟩ := L2.ex1 hl; exact rfl
  exact ⟨{ f_is_made_of := f_is_made_of, d_is_made_of := _, f_is_day := f_is_day, d_is_day := _, f_check_bounds := f_check_bounds, d_check_bounds := _, f_count_below := f_count_below, d_count_below := _, f_Rule_next_in := f_Rule_next_in, d_Rule_next_in := _, f_Every_next_in := f_Every_next_in, d_Every_next_in := _, f_Where___init := f_Where___init, d_Where___init := _, f_check_offset := f_check_offset, d_check_offset := _, f_offset_behind := f_offset_behind, d_offset_behind := _, f_check_put := f_check_put, d_check_put := _, f_law_cell_at := f_law_cell_at, d_law_cell_at := _, f_law_whole := f_law_whole, d_law_whole := _, f_law_mixed := f_law_mixed, d_law_mixed := _, f_law_offset_of := f_law_offset_of, d_law_offset_of := _, f_law_where := f_law_where, d_law_where := _, f_law_due := f_law_due, d_law_due := _, f_is_name := f_is_name, d_is_name := _, f_check_day := f_check_day, d_check_day := _, f_Every_days_in := f_Every_days_in, d_Every_days_in := _, f_Days_next_in := f_Days_next_in, d_Days_next_in := _, f_Where_falls_on := f_Where_falls_on, d_Where_falls_on := _, f_check_changes := f_check_changes, d_check_changes := _, f_changes_until := f_changes_until, d_changes_until := _, f_law_name_by := f_law_name_by, d_law_name_by := _, f_law_pair_is := f_law_pair_is, d_law_pair_is := _, f_law_falls_by := f_law_falls_by, d_law_falls_by := _, f_law_changes_are := f_law_changes_are, d_law_changes_are := _, f_Every___init := f_Every___init, d_Every___init := _, f_Days___init := f_Days___init, d_Days___init := _, f_Where_next_in := f_Where_next_in, d_Where_next_in := _, f_Place___init := f_Place___init, d_Place___init := _, f_offset_at := f_offset_at, d_offset_at := _, f_Rule_days_in := f_Rule_days_in, d_Rule_days_in := _, f_shown := f_shown, d_shown := _, f_days_of := f_days_of, d_days_of := _, f_law_rule_by := f_law_rule_by, d_law_rule_by := _, f_place_by := f_place_by, d_place_by := _, f_law := f_law, d_law := _, x_Days := x_Days, x_Every := x_Every, x_Place := x_Place, x_Rule := x_Rule, x_Where := x_Where, cc_law_where := cc_law_where, pt_law_where := pt_law_where }, ⟨F_is_made_of, PySem.W.mg_of X G a_is_made_of, b_is_made_of, F_is_day, PySem.W.mg_of X G a_is_day, b_is_day, F_check_bounds, PySem.W.mg_of X G a_check_bounds, b_check_bounds, F_count_below, PySem.W.mg_of X G a_count_below, b_count_below, F_Rule_next_in, b_Rule_next_in, F_Every_next_in, b_Every_next_in, F_Where___init, b_Where___init, F_check_offset, PySem.W.mg_of X G a_check_offset, b_check_offset, F_offset_behind, PySem.W.mg_of X G a_offset_behind, b_offset_behind, F_check_put, PySem.W.mg_of X G a_check_put, b_check_put, F_law_cell_at, PySem.W.mg_of X G a_law_cell_at, b_law_cell_at, F_law_whole, PySem.W.mg_of X G a_law_whole, b_law_whole, F_law_mixed, PySem.W.mg_of X G a_law_mixed, b_law_mixed, F_law_offset_of, PySem.W.mg_of X G a_law_offset_of, b_law_offset_of, F_law_where, PySem.W.mg_of X G a_law_where, b_law_where, F_law_due, PySem.W.mg_of X G a_law_due, b_law_due, F_is_name, PySem.W.mg_of X G a_is_name, b_is_name, F_check_day, PySem.W.mg_of X G a_check_day, b_check_day, F_Every_days_in, b_Every_days_in, F_Days_next_in, b_Days_next_in, F_Where_falls_on, b_Where_falls_on, F_check_changes, PySem.W.mg_of X G a_check_changes, b_check_changes, F_changes_until, PySem.W.mg_of X G a_changes_until, b_changes_until, F_law_name_by, PySem.W.mg_of X G a_law_name_by, b_law_name_by, F_law_pair_is, PySem.W.mg_of X G a_law_pair_is, b_law_pair_is, F_law_falls_by, PySem.W.mg_of X G a_law_falls_by, b_law_falls_by, F_law_changes_are, PySem.W.mg_of X G a_law_changes_are, b_law_changes_are, F_Every___init, b_Every___init, F_Days___init, b_Days___init, F_Where_next_in, b_Where_next_in, F_Place___init, b_Place___init, F_offset_at, PySem.W.mg_of X G a_offset_at, b_offset_at, F_Rule_days_in, b_Rule_days_in, F_shown, PySem.W.mg_of X G a_shown, b_shown, F_days_of, PySem.W.mg_of X G a_days_of, b_days_of, F_law_rule_by, PySem.W.mg_of X G a_law_rule_by, b_law_rule_by, F_place_by, PySem.W.mg_of X G a_place_by, b_place_by, ⟨[.int 60 u_place_by_1], (fun s us KX hl => match us, (show us.length = 7 by rw [List.length_append] at hl; simpa using hl) with | [_, _, _, _, _, _, _], _ => BindsTo.of_defaults rfl (KX _ _ w_place_by) x_place_by rfl rfl), (.cons (⟨_, rfl⟩) .nil)⟩, ⟨[.int 60 u_place_by_0, .int 60 u_place_by_1], (fun s us KX hl => match us, (show us.length = 6 by rw [List.length_append] at hl; simpa using hl) with | [_, _, _, _, _, _], _ => BindsTo.of_defaults rfl (KX _ _ w_place_by) x_place_by rfl rfl), (.cons (⟨_, rfl⟩) (.cons (⟨_, rfl⟩) .nil))⟩, F_law, PySem.W.mg_of X G a_law, b_law, ⟨_, PySem.W.mg_of X G g_DAYS⟩, ⟨_, PySem.W.mg_of X G g_DAY_MINUTES⟩, ⟨_, PySem.W.mg_of X G g_FIGURES⟩, ⟨_, PySem.W.mg_of X G g_LETTERS⟩, ⟨_, PySem.W.mg_of X G g_MOST_CHANGES⟩, ⟨_, PySem.W.mg_of X G g_MOST_OFFSET⟩, ⟨_, PySem.W.mg_of X G g_MOST_SHIFT⟩, ⟨_, PySem.W.mg_of X G g_NAME_SIGNS⟩, ⟨io0_Place, io1_Place, io2_Place, io3_Place⟩, ki_Place_Place, PySem.W.mg_of X G aC_Days, ⟨pg_Days, hd_Days, po_Days, sa_Days⟩, ⟨mk_Days, a_Days___init, i_Days___init, kc_Days⟩, nf_days_Days, ⟨j_Days_days_in, i_Rule_days_in, k_Rule_days_in⟩, ⟨a_Days_next_in, i_Days_next_in, k_Days_next_in⟩, PySem.W.mg_of X G aC_Every, ⟨pg_Every, hd_Every, po_Every, sa_Every⟩, ⟨mk_Every, a_Every___init, i_Every___init, kc_Every⟩, nf_step_Every, nf_first_Every, ⟨a_Every_days_in, i_Every_days_in, k_Every_days_in⟩, ⟨a_Every_next_in, i_Every_next_in, k_Every_next_in⟩, PySem.W.mg_of X G aC_Place, ⟨pg_Place, hd_Place, po_Place, sa_Place⟩, ⟨mk_Place, a_Place___init, i_Place___init, kc_Place⟩, nf_name_Place, nf_offset_Place, nf_changes_Place, nf_moments_Place, PySem.W.mg_of X G aC_Rule, ⟨pg_Rule, hd_Rule, po_Rule, sa_Rule⟩, ⟨mk_Rule, oi_Rule, kc_Rule⟩, ⟨a_Rule_days_in, i_Rule_days_in, k_Rule_days_in⟩, ⟨a_Rule_next_in, i_Rule_next_in, k_Rule_next_in⟩, PySem.W.mg_of X G aC_Where, ⟨pg_Where, hd_Where, po_Where, sa_Where⟩, ⟨mk_Where, a_Where___init, i_Where___init, kc_Where⟩, nf_test_Where, ⟨j_Where_days_in, i_Rule_days_in, k_Rule_days_in⟩, ⟨a_Where_falls_on, i_Where_falls_on, k_Where_falls_on⟩, ⟨a_Where_next_in, i_Where_next_in, k_Where_next_in⟩, PySem.W.mg_none_of X G n_all, PySem.W.mg_none_of X G n_bool, PySem.W.mg_none_of X G n_divmod, PySem.W.mg_none_of X G n_int, PySem.W.mg_none_of X G n_isinstance, PySem.W.mg_none_of X G n_len, PySem.W.mg_none_of X G n_list, PySem.W.mg_none_of X G n_max, PySem.W.mg_none_of X G n_min, PySem.W.mg_none_of X G n_range, PySem.W.mg_none_of X G n_set, PySem.W.mg_none_of X G n_sorted, PySem.W.mg_none_of X G n_tuple, codeRef_of l_law_where cv_law_where⟩, rfl, tabIn_of a_law_where l_law_where cv_law_where lk_law_where pv_law_where, np_law_where, fun s v => .of_eq rfl⟩
end K35
namespace K35
open PySem L2
theorem walk {l : PySem.W.OpenLaw} {q : Program} {loose : List Str} {XP : (Str → Option Value) → Heap → Prop} {YP : World → Heap → Prop} {d : DefRec} {K : Params → PySem.W.Frag} (hn : l.most = some 63) (hdf : d.params.defaults = [])
    (hY : ∀ (w : World) (h : Heap), YP w h → (K w.params).In h) (hrec : ((PyProof.Rows.recsOf q).find? (fun e => e.name == ("_law_where" : Str))).isSome = true)
    (F : ∀ (w : World) (mg : Str → Option Value) (fa : Addr) (h : Heap), (K w.params).In h → h.Ns mainGlobals mg → mg d.name = some (.ref fa) →
      ∃ (fd : FuncData) (cc pt : Addr), PySem.W.tabIn (K w.params) "_law_where" = some (cc, pt) ∧ (K w.params).lookup pt = none ∧ (∀ (s : Shared) (u : Value), BindsTo s fd ⟨[u], []⟩ [("_law_script", u)]) ∧ ∀ base : Heap, (K w.params).In base → base.Ns mainGlobals mg → MkL mg base cc pt → FnOk l.prog w (K w.params) mg base CX0 true 9 fa fd ["_law_script"] (sp_law (K w.params) pt)) :
    PySem.W.WalkO q loose XP YP l.row.toRowW d [] (fun f vs => PySem.call f vs) :=
  L2.walk_ofT (cm := true) (n := 63) (k := 9) (x := "_law_script") (y := "_law_where") (CX := fun _ => CX0) (sp := fun w pt => sp_law (K w.params) pt) hn (by decide) hdf ⟨fun _ => rfl, by decide, by decide⟩ hY hrec F (fun _ _ a pt ns hl _ hT hS => ⟨a, ns, rfl, hS, hl, hT, fun _ => rfl⟩) fun _ _ _ _ _ z => z
theorem all_ok {l : PySem.W.OpenLaw} {w : World} {K : PySem.W.Frag} {mg : Str → Option Value} {fa f : Addr} (hfa : mg "law" = some (.ref fa))
    (h : ∃ a : Adr, Txt K mg a ∧ a.f_law = f ∧ PySem.W.tabIn K "_law_where" = some (a.cc_law_where, a.pt_law_where) ∧ K.lookup a.pt_law_where = none ∧ ∀ (s : Shared) (v : Value), BindsTo s a.d_law ⟨[v], []⟩ [("_law_script", v)]) :
    ∃ (fd : FuncData) (cc pt : Addr), PySem.W.tabIn K "_law_where" = some (cc, pt) ∧ K.lookup pt = none ∧ (∀ (s : Shared) (u : Value), BindsTo s fd ⟨[u], []⟩ [("_law_script", u)]) ∧ ∀ base : Heap, K.In base → base.Ns mainGlobals mg → MkL mg base cc pt → FnOk l.prog w K mg base CX0 true 9 fa fd ["_law_script"] (sp_law K pt) := by
  obtain ⟨a, T, _, h1, h2, hb⟩ := h
  have e := T.m_law
  rw [hfa] at e
  cases e
  exact ⟨a.d_law, a.cc_law_where, a.pt_law_where, h1, h2, hb, fun base _ _ M => ok_law ⟨T, M⟩⟩
end K35
open PySem PySem.W PyProof.Rows
set_option maxRecDepth 100000 in
set_option maxHeartbeats 0 in
theorem PySem.Challenge.cw_hourhouse_k35_places_by_rules_holds : PySem.Challenge.rw_hourhouse_k35_places_by_rules.Holds := by
  w_on; o_law; k_head; (case hw => w_witness2)
  k_fill
  refine K35.walk (l := PySem.Challenge.rw_hourhouse_k35_places_by_rules) rfl rfl (fun w h Y => PySem.W.km_in_of Y) (by decide +kernel) ?F
  case F =>
    intro w mg fa h KX G hmg
    refine' K35.all_ok hmg (K35.txt_mk KX G ?aC_Days ?pg_Days ?hd_Days ?po_Days ?sa_Days ?mk_Days ?kc_Days ?nf_days_Days ?aC_Every ?pg_Every ?hd_Every ?po_Every ?sa_Every ?mk_Every ?kc_Every ?nf_step_Every ?nf_first_Every ?aC_Place ?pg_Place ?hd_Place ?po_Place ?sa_Place ?mk_Place ?kc_Place ?nf_name_Place ?nf_offset_Place ?nf_changes_Place ?nf_moments_Place ?aC_Rule ?pg_Rule ?hd_Rule ?po_Rule ?sa_Rule ?mk_Rule ?kc_Rule ?oi_Rule ?aC_Where ?pg_Where ?hd_Where ?po_Where ?sa_Where ?mk_Where ?kc_Where ?nf_test_Where ?a_is_made_of ?l_is_made_of ?e_is_made_of ?k_is_made_of ?a_is_day ?l_is_day ?e_is_day ?k_is_day ?a_check_bounds ?l_check_bounds ?e_check_bounds ?k_check_bounds ?a_count_below ?l_count_below ?e_count_below ?k_count_below ?a_Rule_next_in ?l_Rule_next_in ?e_Rule_next_in ?k_Rule_next_in ?i_Rule_next_in ?v_Rule_next_in ?w_Rule_next_in ?x_Rule_next_in ?a_Every_next_in ?l_Every_next_in ?e_Every_next_in ?k_Every_next_in ?i_Every_next_in ?v_Every_next_in ?w_Every_next_in ?x_Every_next_in ?a_Where___init ?l_Where___init ?e_Where___init ?k_Where___init ?i_Where___init ?a_check_offset ?l_check_offset ?e_check_offset ?k_check_offset ?a_offset_behind ?l_offset_behind ?e_offset_behind ?k_offset_behind ?a_check_put ?l_check_put ?e_check_put ?k_check_put ?a_law_cell_at ?l_law_cell_at ?e_law_cell_at ?k_law_cell_at ?a_law_whole ?l_law_whole ?e_law_whole ?k_law_whole ?a_law_mixed ?l_law_mixed ?e_law_mixed ?k_law_mixed ?a_law_offset_of ?l_law_offset_of ?e_law_offset_of ?k_law_offset_of ?a_law_where ?l_law_where ?e_law_where ?k_law_where ?a_law_due ?l_law_due ?e_law_due ?k_law_due ?a_is_name ?l_is_name ?e_is_name ?k_is_name ?a_check_day ?l_check_day ?e_check_day ?k_check_day ?a_Every_days_in ?l_Every_days_in ?e_Every_days_in ?k_Every_days_in ?i_Every_days_in ?a_Days_next_in ?l_Days_next_in ?e_Days_next_in ?k_Days_next_in ?i_Days_next_in ?v_Days_next_in ?w_Days_next_in ?x_Days_next_in ?a_Where_falls_on ?l_Where_falls_on ?e_Where_falls_on ?k_Where_falls_on ?i_Where_falls_on ?a_check_changes ?l_check_changes ?e_check_changes ?k_check_changes ?a_changes_until ?l_changes_until ?e_changes_until ?k_changes_until ?a_law_name_by ?l_law_name_by ?e_law_name_by ?k_law_name_by ?a_law_pair_is ?l_law_pair_is ?e_law_pair_is ?k_law_pair_is ?a_law_falls_by ?l_law_falls_by ?e_law_falls_by ?k_law_falls_by ?a_law_changes_are ?l_law_changes_are ?e_law_changes_are ?k_law_changes_are ?a_Every___init ?l_Every___init ?e_Every___init ?k_Every___init ?i_Every___init ?v_Every___init ?w_Every___init ?x_Every___init ?a_Days___init ?l_Days___init ?e_Days___init ?k_Days___init ?i_Days___init ?a_Where_next_in ?l_Where_next_in ?e_Where_next_in ?k_Where_next_in ?i_Where_next_in ?v_Where_next_in ?w_Where_next_in ?x_Where_next_in ?a_Place___init ?l_Place___init ?e_Place___init ?k_Place___init ?i_Place___init ?v_Place___init ?w_Place___init ?x_Place___init ?a_offset_at ?l_offset_at ?e_offset_at ?k_offset_at ?a_Rule_days_in ?l_Rule_days_in ?e_Rule_days_in ?k_Rule_days_in ?i_Rule_days_in ?a_shown ?l_shown ?e_shown ?k_shown ?a_days_of ?l_days_of ?e_days_of ?k_days_of ?v_days_of ?w_days_of ?x_days_of ?a_law_rule_by ?l_law_rule_by ?e_law_rule_by ?k_law_rule_by ?a_place_by ?l_place_by ?e_place_by ?k_place_by ?v_place_by ?w_place_by ?x_place_by ?a_law ?l_law ?e_law ?k_law ?j_Days_days_in ?j_Where_days_in ?g_DAYS ?g_DAY_MINUTES ?g_FIGURES ?g_LETTERS ?g_MOST_CHANGES ?g_MOST_OFFSET ?g_MOST_SHIFT ?g_NAME_SIGNS ?io0_Place ?io1_Place ?io2_Place ?io3_Place ?ki_Place_Place ?n_all ?n_bool ?n_divmod ?n_int ?n_isinstance ?n_len ?n_list ?n_max ?n_min ?n_range ?n_set ?n_sorted ?n_tuple ?cv_law_where ?lk_law_where ?pv_law_where ?np_law_where)
    (case aC_Days => k_is)
    (case pg_Days => k_is)
    (case hd_Days => k_is)
    (case po_Days => k_is)
    (case sa_Days => k_is)
    (case mk_Days => k_is)
    (case kc_Days => k_is)
    (case nf_days_Days => k_is)
    (case aC_Every => k_is)
    (case pg_Every => k_is)
    (case hd_Every => k_is)
    (case po_Every => k_is)
    (case sa_Every => k_is)
    (case mk_Every => k_is)
    (case kc_Every => k_is)
    (case nf_step_Every => k_is)
    (case nf_first_Every => k_is)
    (case aC_Place => k_is)
    (case pg_Place => k_is)
    (case hd_Place => k_is)
    (case po_Place => k_is)
    (case sa_Place => k_is)
    (case mk_Place => k_is)
    (case kc_Place => k_is)
    (case nf_name_Place => k_is)
    (case nf_offset_Place => k_is)
    (case nf_changes_Place => k_is)
    (case nf_moments_Place => k_is)
    (case aC_Rule => k_is)
    (case pg_Rule => k_is)
    (case hd_Rule => k_is)
    (case po_Rule => k_is)
    (case sa_Rule => k_is)
    (case mk_Rule => k_is)
    (case kc_Rule => k_is)
    (case oi_Rule => k_is)
    (case aC_Where => k_is)
    (case pg_Where => k_is)
    (case hd_Where => k_is)
    (case po_Where => k_is)
    (case sa_Where => k_is)
    (case mk_Where => k_is)
    (case kc_Where => k_is)
    (case nf_test_Where => k_is)
    (case a_is_made_of => k_is)
    (case l_is_made_of => k_is)
    (case e_is_made_of => k_is)
    (case k_is_made_of => k_is)
    (case a_is_day => k_is)
    (case l_is_day => k_is)
    (case e_is_day => k_is)
    (case k_is_day => k_is)
    (case a_check_bounds => k_is)
    (case l_check_bounds => k_is)
    (case e_check_bounds => k_is)
    (case k_check_bounds => k_is)
    (case a_count_below => k_is)
    (case l_count_below => k_is)
    (case e_count_below => k_is)
    (case k_count_below => k_is)
    (case a_Rule_next_in => k_is)
    (case l_Rule_next_in => k_is)
    (case e_Rule_next_in => k_is)
    (case k_Rule_next_in => k_is)
    (case i_Rule_next_in => k_is)
    (case v_Rule_next_in => rfl)
    (case w_Rule_next_in => k_is)
    (case x_Rule_next_in => rfl)
    (case a_Every_next_in => k_is)
    (case l_Every_next_in => k_is)
    (case e_Every_next_in => k_is)
    (case k_Every_next_in => k_is)
    (case i_Every_next_in => k_is)
    (case v_Every_next_in => rfl)
    (case w_Every_next_in => k_is)
    (case x_Every_next_in => rfl)
    (case a_Where___init => k_is)
    (case l_Where___init => k_is)
    (case e_Where___init => k_is)
    (case k_Where___init => k_is)
    (case i_Where___init => k_is)
    (case a_check_offset => k_is)
    (case l_check_offset => k_is)
    (case e_check_offset => k_is)
    (case k_check_offset => k_is)
    (case a_offset_behind => k_is)
    (case l_offset_behind => k_is)
    (case e_offset_behind => k_is)
    (case k_offset_behind => k_is)
    (case a_check_put => k_is)
    (case l_check_put => k_is)
    (case e_check_put => k_is)
    (case k_check_put => k_is)
    (case a_law_cell_at => k_is)
    (case l_law_cell_at => k_is)
    (case e_law_cell_at => k_is)
    (case k_law_cell_at => k_is)
    (case a_law_whole => k_is)
    (case l_law_whole => k_is)
    (case e_law_whole => k_is)
    (case k_law_whole => k_is)
    (case a_law_mixed => k_is)
    (case l_law_mixed => k_is)
    (case e_law_mixed => k_is)
    (case k_law_mixed => k_is)
    (case a_law_offset_of => k_is)
    (case l_law_offset_of => k_is)
    (case e_law_offset_of => k_is)
    (case k_law_offset_of => k_is)
    (case a_law_where => k_is)
    (case l_law_where => k_is)
    (case e_law_where => k_is)
    (case k_law_where => k_is)
    (case a_law_due => k_is)
    (case l_law_due => k_is)
    (case e_law_due => k_is)
    (case k_law_due => k_is)
    (case a_is_name => k_is)
    (case l_is_name => k_is)
    (case e_is_name => k_is)
    (case k_is_name => k_is)
    (case a_check_day => k_is)
    (case l_check_day => k_is)
    (case e_check_day => k_is)
    (case k_check_day => k_is)
    (case a_Every_days_in => k_is)
    (case l_Every_days_in => k_is)
    (case e_Every_days_in => k_is)
    (case k_Every_days_in => k_is)
    (case i_Every_days_in => k_is)
    (case a_Days_next_in => k_is)
    (case l_Days_next_in => k_is)
    (case e_Days_next_in => k_is)
    (case k_Days_next_in => k_is)
    (case i_Days_next_in => k_is)
    (case v_Days_next_in => rfl)
    (case w_Days_next_in => k_is)
    (case x_Days_next_in => rfl)
    (case a_Where_falls_on => k_is)
    (case l_Where_falls_on => k_is)
    (case e_Where_falls_on => k_is)
    (case k_Where_falls_on => k_is)
    (case i_Where_falls_on => k_is)
    (case a_check_changes => k_is)
    (case l_check_changes => k_is)
    (case e_check_changes => k_is)
    (case k_check_changes => k_is)
    (case a_changes_until => k_is)
    (case l_changes_until => k_is)
    (case e_changes_until => k_is)
    (case k_changes_until => k_is)
    (case a_law_name_by => k_is)
    (case l_law_name_by => k_is)
    (case e_law_name_by => k_is)
    (case k_law_name_by => k_is)
    (case a_law_pair_is => k_is)
    (case l_law_pair_is => k_is)
    (case e_law_pair_is => k_is)
    (case k_law_pair_is => k_is)
    (case a_law_falls_by => k_is)
    (case l_law_falls_by => k_is)
    (case e_law_falls_by => k_is)
    (case k_law_falls_by => k_is)
    (case a_law_changes_are => k_is)
    (case l_law_changes_are => k_is)
    (case e_law_changes_are => k_is)
    (case k_law_changes_are => k_is)
    (case a_Every___init => k_is)
    (case l_Every___init => k_is)
    (case e_Every___init => k_is)
    (case k_Every___init => k_is)
    (case i_Every___init => k_is)
    (case v_Every___init => rfl)
    (case w_Every___init => k_is)
    (case x_Every___init => rfl)
    (case a_Days___init => k_is)
    (case l_Days___init => k_is)
    (case e_Days___init => k_is)
    (case k_Days___init => k_is)
    (case i_Days___init => k_is)
    (case a_Where_next_in => k_is)
    (case l_Where_next_in => k_is)
    (case e_Where_next_in => k_is)
    (case k_Where_next_in => k_is)
    (case i_Where_next_in => k_is)
    (case v_Where_next_in => rfl)
    (case w_Where_next_in => k_is)
    (case x_Where_next_in => rfl)
    (case a_Place___init => k_is)
    (case l_Place___init => k_is)
    (case e_Place___init => k_is)
    (case k_Place___init => k_is)
    (case i_Place___init => k_is)
    (case v_Place___init => rfl)
    (case w_Place___init => k_is)
    (case x_Place___init => rfl)
    (case a_offset_at => k_is)
    (case l_offset_at => k_is)
    (case e_offset_at => k_is)
    (case k_offset_at => k_is)
    (case a_Rule_days_in => k_is)
    (case l_Rule_days_in => k_is)
    (case e_Rule_days_in => k_is)
    (case k_Rule_days_in => k_is)
    (case i_Rule_days_in => k_is)
    (case a_shown => k_is)
    (case l_shown => k_is)
    (case e_shown => k_is)
    (case k_shown => k_is)
    (case a_days_of => k_is)
    (case l_days_of => k_is)
    (case e_days_of => k_is)
    (case k_days_of => k_is)
    (case v_days_of => rfl)
    (case w_days_of => k_is)
    (case x_days_of => rfl)
    (case a_law_rule_by => k_is)
    (case l_law_rule_by => k_is)
    (case e_law_rule_by => k_is)
    (case k_law_rule_by => k_is)
    (case a_place_by => k_is)
    (case l_place_by => k_is)
    (case e_place_by => k_is)
    (case k_place_by => k_is)
    (case v_place_by => rfl)
    (case w_place_by => k_is)
    (case x_place_by => rfl)
    (case a_law => k_is)
    (case l_law => k_is)
    (case e_law => k_is)
    (case k_law => k_is)
    (case j_Days_days_in => k_is)
    (case j_Where_days_in => k_is)
    (case g_DAYS => k_is)
    (case g_DAY_MINUTES => k_is)
    (case g_FIGURES => k_is)
    (case g_LETTERS => k_is)
    (case g_MOST_CHANGES => k_is)
    (case g_MOST_OFFSET => k_is)
    (case g_MOST_SHIFT => k_is)
    (case g_NAME_SIGNS => k_is)
    (case io0_Place => k_is)
    (case io1_Place => k_is)
    (case io2_Place => k_is)
    (case io3_Place => k_is)
    (case ki_Place_Place => kit_is)
    (case n_all => k_is)
    (case n_bool => k_is)
    (case n_divmod => k_is)
    (case n_int => k_is)
    (case n_isinstance => k_is)
    (case n_len => k_is)
    (case n_list => k_is)
    (case n_max => k_is)
    (case n_min => k_is)
    (case n_range => k_is)
    (case n_set => k_is)
    (case n_sorted => k_is)
    (case n_tuple => k_is)
    (case cv_law_where => rfl)
    (case lk_law_where => k_is)
    (case pv_law_where => rfl)
    (case np_law_where => kernel_rfl)


