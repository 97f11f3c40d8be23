import PyProof.Rows.All
import Wide.All
import OpenK.AllK
import Wide.FinOn
import Lean
import PyProof.EqAt
import PyProof.EqKinds
import PyProof.TupleCall
import PySem.Challenge.RW_hourhouse_k54_things_refused
set_option Elab.async false
set_option linter.all false
set_option maxRecDepth 100000
/-! These names are taken so that the head makes no twins of its heaps, trees and objects: the compiled file would be too big. Nothing refers to them, and they prove nothing. -/
namespace PySem.W.Fast
def tw6953312664405768325 := ()
def tw691551099810817580 := ()
def tw15761405858307077913 := ()
def tw16750428198458483582 := ()
def tw12714358086978958891 := ()
def tw18046550386090427200 := ()
def tw772629953626726720 := ()
def tw6761673325073532049 := ()
def tw2510709709294325610 := ()
def tw1558301153426777623 := ()
def tw3397166619792696651 := ()
def tw12020953294733961141 := ()
def tw16678052139818533141 := ()
def tw943962727680730194 := ()
def tw15366195434689676546 := ()
def tw5592397437664132108 := ()
def tw11276015865547041188 := ()
def tw17905017889310174783 := ()
def tw17951319738508759645 := ()
def tw3714074975006820730 := ()
def tw6128871635069720034 := ()
def tw10803751407533456491 := ()
def tw1096780556711958409 := ()
def tw18421809544548841945 := ()
def tw18323348540960500345 := ()
def tw16160861298188782237 := ()
def tw2790769487554882389 := ()
def tw5069181969838457349 := ()
def tw17718365222970981450 := ()
def tw16621557952400240923 := ()
def tw18390642534099417144 := ()
def tw15111960235822207959 := ()
def tw17298859384367908208 := ()
def tw12029772818246021281 := ()
def tw15652864678026605997 := ()
def tw10627730104850602658 := ()
def tw14365470202369495351 := ()
def tw15462933972960747490 := ()
def tw14917636448354356427 := ()
def tw14541238293080253561 := ()
def tw8850697529148637897 := ()
def tw14250084239179688563 := ()
def tw4885763195680870834 := ()
def tw670560768145169625 := ()
def tw8602334283600679487 := ()
def tw5069880336230645666 := ()
def tw5994484342443615411 := ()
def tw4490955195844487698 := ()
def tw2348877595769140704 := ()
def tw8535215326591131317 := ()
def tw1688404536051748249 := ()
def tw5859162086701329296 := ()
def tw511857081908901728 := ()
def tw5285019823978978551 := ()
def tw2688171178726432202 := ()
def tw6599660400580597110 := ()
def tw10087021337056130181 := ()
def tw10186701925796837846 := ()
def tw3610676045125797688 := ()
def tw14785241956989846876 := ()
def tw18043300609196569893 := ()
def tw1510894628074851092 := ()
def tw18352553789382639479 := ()
def tw13176153236922382412 := ()
def tw11032749643311770247 := ()
def tw14003924984643886255 := ()
def tw14271420461730378347 := ()
def tw10029574741424914439 := ()
def tw7151389271199322439 := ()
def tw16833217933486242445 := ()
def tw6774232849814752706 := ()
def tw5285431813149384123 := ()
def tw12281523929203740430 := ()
def tw12102555746908365988 := ()
def tw15167841211470635767 := ()
def tw3182741660175029730 := ()
def tw17052030624731887489 := ()
def tw11642917576441955464 := ()
def tw5350286778938793245 := ()
def tw13143583527096452662 := ()
def tw5526538723657477381 := ()
def tw13068820734586030114 := ()
def tw2722059201842189719 := ()
def tw6631863294864082688 := ()
def tw6330422232971359960 := ()
def tw1405407506705874809 := ()
def tw12107581184432768636 := ()
def tw9584542469507104308 := ()
def tw8143330389738211192 := ()
def tw2398719812535607781 := ()
def tw7027593479975906833 := ()
def tw2747683486652765825 := ()
def tw11140212280546166221 := ()
def tw3148311539688214870 := ()
def tw11223717917573051901 := ()
def tw11274031096234330358 := ()
def tw740036536034548975 := ()
def tw17178803247381417959 := ()
def tw7940657893412528663 := ()
def tw12307583461727390728 := ()
def tw10377854358526160214 := ()
def tw9037528683190488989 := ()
def tw8399223975255579763 := ()
def tw3983978068213669968 := ()
def tw9594761081208829415 := ()
def tw2030567810445923175 := ()
def tw547680663134645080 := ()
def tw6926638315134612715 := ()
def tw2354707846001103014 := ()
def tw3551765442262869246 := ()
def tw14092710206888644613 := ()
def tw15225248283926299945 := ()
def tw396895584157006162 := ()
def tw689181008762842128 := ()
def tw17820976520961608103 := ()
def tw14444784688402169839 := ()
def tw3277210137083304378 := ()
def tw833706625947714274 := ()
def tw9767056249718738500 := ()
def tw4497689749328132867 := ()
def tw8180199477202265313 := ()
def tw17743029602044467475 := ()
def tw6206796889704036976 := ()
def tw5027029052474074820 := ()
def tw15013937630832514025 := ()
def tw7600771672696487166 := ()
def tw10754901095927732423 := ()
def tw7414895201543995025 := ()
def tw14350650574463988402 := ()
def tw6219615436585900826 := ()
def tw12364278280012993993 := ()
def tw17835676346383446453 := ()
def tw7988047424241246835 := ()
def tw15239814665433221033 := ()
def tw7677003401693709611 := ()
def tw11017779172615853019 := ()
def tw14205541679023406327 := ()
def tw7301974316857771677 := ()
def tw17968523362025976191 := ()
def tw15888220691671311695 := ()
def tw1540693712672644213 := ()
def tw5485437906262163744 := ()
def tw322046442596919181 := ()
def tw11468167607603734358 := ()
def tw13237985524489778001 := ()
def tw13150989492626221347 := ()
def tw12085079666725016520 := ()
def tw15328781212050101917 := ()
def tw16823393834275819987 := ()
def tw10014454414817104680 := ()
def tw18053119921230417583 := ()
def tw4808738548638954006 := ()
def tw6100567801581358839 := ()
def tw18157414088501077366 := ()
def tw4871739501945896006 := ()
def tw6620058151985587868 := ()
def tw11147181266292341885 := ()
def tw7684610431223682843 := ()
def tw8411172834490994622 := ()
def tw17118265632962457236 := ()
def tw7645404967450512984 := ()
def tw15980810333529005783 := ()
def tw11052069483144495658 := ()
def tw1916294613749595452 := ()
def tw7738705165824902121 := ()
def tw2793725949463558283 := ()
def tw1223455523012096227 := ()
def tw6064026621773198270 := ()
def tw10585704211258734464 := ()
def tw7906388383389706722 := ()
def tw15066967009758828111 := ()
def tw9523595019013800471 := ()
def tw7310918605198866367 := ()
def tw9715681400481493564 := ()
def tw222093499864780272 := ()
def tw9639426743596212060 := ()
def tw11637041281642359466 := ()
def tw14897049511649438949 := ()
def tw15897117302965871084 := ()
def tw3411776244337600206 := ()
def tw11147976848685233737 := ()
def tw3202232826815501412 := ()
def tw3583319479756521124 := ()
def tw6206087010165508837 := ()
def tw13280127439916533155 := ()
def tw13347139079139983575 := ()
def tw7339221984227705844 := ()
def tw16027214031585695747 := ()
def tw17997221949818085036 := ()
def tw14797253344720402675 := ()
def tw13324703477867986345 := ()
def tw12315083979024897293 := ()
def tw5338492225782826548 := ()
def tw3808113448556204320 := ()
def tw17067720587708411115 := ()
def tw2977481347834917728 := ()
def tw1205260237859833360 := ()
def tw5538662540586776949 := ()
def tw5824257253515269884 := ()
def tw16518846630745173959 := ()
def tw9117060519807275290 := ()
def tw8105427512574932948 := ()
def tw8989733923865959700 := ()
def tw13185721022542392938 := ()
def tw3100402213144228924 := ()
def tw3085958151254320362 := ()
def tw2183015111281144610 := ()
def tw5113515817763322381 := ()
def tw15223349466549365732 := ()
def tw15334528825771386285 := ()
def tw7308875385333166143 := ()
def tw265932569777208347 := ()
def tw15352535491514627363 := ()
def tw8747617416420352690 := ()
def tw727503727219887916 := ()
def tw15619500625323827290 := ()
def tw3670620692271648520 := ()
def tw16227603267406705308 := ()
def tw11514494685916025228 := ()
def tw1137514010212511203 := ()
def tw16435259556629491658 := ()
def tw12702577667274640906 := ()
def tw15085159563471256815 := ()
def tw16340626759112571385 := ()
def tw9442229358036485153 := ()
def tw4295911350316321858 := ()
def tw14270448705019350389 := ()
def tw9464140068555625214 := ()
def tw15712583768488534628 := ()
def tw10510895673281550394 := ()
def tw11474938519232750604 := ()
def tw106126978439678379 := ()
def tw962720056326454522 := ()
def tw5971278388801152876 := ()
def tw17462756056887082795 := ()
def tw15243819353532251299 := ()
def tw16107419823179040746 := ()
def tw3729216429595487662 := ()
def tw14423730061245673343 := ()
def tw5263583738131839190 := ()
def tw12754275918234311917 := ()
def tw8172008696267340339 := ()
def tw11974401599678523173 := ()
def tw1548899401148400481 := ()
def tw11856775125847564399 := ()
def tw3908923782731230469 := ()
def tw11072891506738809869 := ()
def tw13956874498880179351 := ()
def tw10083088669214472319 := ()
def tw11867135698295146712 := ()
def tw6635604792476295409 := ()
def tw10879884211013533557 := ()
def tw4957924191170771907 := ()
def tw5060011269603523841 := ()
def tw11252611487983476338 := ()
def tw4349836401704875017 := ()
def tw2306603749143096681 := ()
def tw17731094693772800878 := ()
def tw12319460983162065182 := ()
def tw7917656761349981962 := ()
def tw13154843926667240278 := ()
def tw4613366249730973111 := ()
def tw7248531662335467490 := ()
def tw13981804862433450644 := ()
def tw15950998422847249312 := ()
def tw11346412196231242073 := ()
def tw247722438056638525 := ()
def tw11581199654974711535 := ()
def tw7668502474981944977 := ()
def tw6662317684318000325 := ()
def tw13325667538198999706 := ()
def tw11365730833292233445 := ()
def tw13958066034292969594 := ()
def tw17196507514377839869 := ()
def tw6954606821953734837 := ()
def tw16181260300430075611 := ()
def tw3794547429709580583 := ()
def tw10761944656848516315 := ()
def tw7727018283862228439 := ()
def tw10817778275592807658 := ()
def tw10089155306432379610 := ()
def tw8466702089536580182 := ()
def tw4501506007534164107 := ()
def tw13907228767305071092 := ()
def tw1054568161473395720 := ()
def tw1988746977876401780 := ()
def tw11342773721473139719 := ()
def tw14766823694412802084 := ()
def tw2475056025801593974 := ()
def tw12041783158647603607 := ()
def tw16540636839229036749 := ()
def tw7361481933829368197 := ()
def tw16286449564707724993 := ()
def tw15010607420321664859 := ()
def tw3485349554586131582 := ()
def tw324710984127844140 := ()
def tw12085081412562637343 := ()
def tw1648440785004726282 := ()
def tw9291929467196760309 := ()
def tw12827653636711044157 := ()
def tw2516224593797934876 := ()
def tw14474570324145108198 := ()
def tw14099151271584035190 := ()
def tw12811446637949928203 := ()
def tw6373825429621335654 := ()
def tw2639180141943738874 := ()
def tw14604140363841604931 := ()
def tw2099187181355243989 := ()
def tw9675187962262003487 := ()
def tw11122635708349364993 := ()
def tw17954456749415936610 := ()
def tw6476667710483435643 := ()
def tw11064354541399977255 := ()
def tw1181779260712936837 := ()
def tw13073250191051929986 := ()
def tw15612769604758291112 := ()
def tw10494026477343339426 := ()
def tw13818778453690594193 := ()
def tw8606264088610411510 := ()
def tw1075362841043041139 := ()
def tw14866699909598042605 := ()
def tw12941188078751651248 := ()
def tw12200058105793939013 := ()
def tw15429609449454415059 := ()
def tw16020938007127528563 := ()
def tw14713530255458996086 := ()
def tw17587353497673351652 := ()
def tw5076286051609777073 := ()
def tw13986763862454058895 := ()
def tw17216235463869917501 := ()
def tw2039067219482421184 := ()
def tw5121124528040434060 := ()
def tw3550010276331609026 := ()
def tw11393534660878886355 := ()
def tw3898959314525962989 := ()
def tw7894060155184810971 := ()
def tw14820730345700072596 := ()
def tw1111291020757721582 := ()
def tw5012458352433284944 := ()
def tw9009538726938025469 := ()
def tw5714430576400099155 := ()
def tw5256427830929015283 := ()
def tw3080751243841235326 := ()
def tw1456888773599058876 := ()
def tw2733063432651941613 := ()
def tw10657549115234953763 := ()
def tw6011663811487113955 := ()
def tw5739427751780524178 := ()
def tw14488671120378044961 := ()
def tw11393782135205164182 := ()
def tw15391897542610999854 := ()
def tw5453507243623860800 := ()
def tw3256237135922367430 := ()
def tw8864853191191506323 := ()
def tw795992469407530477 := ()
def tw6142323413988260823 := ()
def tw12143005727453948356 := ()
def tw5677595862105956079 := ()
def tw13515003591289455741 := ()
def tw11487097469566702072 := ()
def tw17609760050222865493 := ()
def tw14727767505691390449 := ()
def tw3352275612585724637 := ()
def tw8184819655666730183 := ()
def tw6427379712293510535 := ()
def tw15139946039618406714 := ()
def tw6289959841248516768 := ()
def tw12424342284305443898 := ()
def tw12089338438602960705 := ()
def tw128283950748020738 := ()
def tw14840951745214278028 := ()
def tw10575041196567793425 := ()
def tw14959978956874649227 := ()
def tw8351057473547831027 := ()
def tw12317924434545617085 := ()
def tw6109227145142420755 := ()
def tw13888650188021612520 := ()
def tw8632396789895315699 := ()
def tw14475520549132545964 := ()
def tw4936858716721547506 := ()
def tw7437002325738167625 := ()
def tw1449742872881300366 := ()
def tw1080430554915064321 := ()
def tw5313932326129383137 := ()
def tw13081513178128104747 := ()
def tw17879068899314379069 := ()
def tw10776183908471801688 := ()
def tw2238669884569281394 := ()
def tw17115701457794348380 := ()
def tw10358359794685876509 := ()
def tw18291235272343012630 := ()
def tw9278060189819460322 := ()
def tw9237339227578060234 := ()
def tw96248224908831382 := ()
def tw4192960180235993984 := ()
def tw12137176144461863502 := ()
def tw8026905889773050050 := ()
def tw267231485272424182 := ()
def tw6647282157793225356 := ()
def tw4430408292513525774 := ()
def tw5772100773773505461 := ()
def tw11496213105887689830 := ()
def tw11969659865561637568 := ()
def tw7067896226480888166 := ()
def tw8226690307048393628 := ()
def tw8273905532892904756 := ()
def tw13210827153327755290 := ()
def tw3044329723580948420 := ()
def tw10659234550749022716 := ()
def tw13923208755415601465 := ()
def tw1531282284208546473 := ()
def tw1277787651706596611 := ()
def tw3240300783247393342 := ()
def tw5643776646735923006 := ()
def tw10404857263824520199 := ()
def tw3361825353149006201 := ()
def tw12154916582558186301 := ()
def tw7824059570584658683 := ()
def tw301569417297090373 := ()
def tw4911855155636693597 := ()
def tw6464713618595420668 := ()
def tw17570954300289567218 := ()
def tw3182698989681453852 := ()
def tw9725233562800791174 := ()
def tw7662506445852990319 := ()
def tw14399672368053826455 := ()
def tw1961764514864112386 := ()
def tw15422894593386476523 := ()
def tw10071785966694941425 := ()
def tw15628412196992115251 := ()
def tw14007700937633591650 := ()
def tw13793959278887908116 := ()
def tw6640144900018466772 := ()
def tw15894832056693169679 := ()
def tw2822711696348099449 := ()
def tw7629235114189899292 := ()
def tw5620368020008111496 := ()
def tw1377977353420266261 := ()
def tw10288032519778616927 := ()
def tw16963758665040798019 := ()
def tw14817345781381612931 := ()
def tw9056812515467815466 := ()
def tw7524765747540191432 := ()
def tw8291371907653413101 := ()
def tw12751627963655553117 := ()
def tw8144641435135634800 := ()
def tw5404508349877052046 := ()
def tw14075305960598825315 := ()
def tw11566344708283315942 := ()
def tw14200604515654767186 := ()
def tw16882583372633798896 := ()
def tw10588273859769214664 := ()
def tw9466253909497261370 := ()
def tw1181620955672730075 := ()
def tw14985549358411158524 := ()
def tw14889432430862737721 := ()
def tw13351102480614889279 := ()
def tw11097234728254989658 := ()
def tw8696985543566194948 := ()
def tw3410836275227777566 := ()
def tw17670049808825442288 := ()
def tw11681679182112333747 := ()
def tw8235182401353693314 := ()
def tw13716302884448670137 := ()
def tw7153835300891783113 := ()
def tw15884147348789882975 := ()
def tw6298014955787942948 := ()
def tw2200686295450997540 := ()
def tw13796463476048935727 := ()
def tw17005180897304787947 := ()
def tw2391773899990850 := ()
def tw18095553962701710710 := ()
def tw3863591547746245300 := ()
def tw931343060487039307 := ()
def tw12996860012418418219 := ()
def tw8321045793469641614 := ()
def tw2257371100584503952 := ()
def tw4329487446795367684 := ()
def tw10566193234446850344 := ()
def tw17260981628790804250 := ()
def tw17669259306931212698 := ()
def tw7136259033502858111 := ()
def tw12274186279375660184 := ()
def tw14042927009876506681 := ()
def tw16765271073853597636 := ()
def tw4232704619486614354 := ()
def tw8822703300359570891 := ()
def tw5396794483147468809 := ()
def tw13792046955030264334 := ()
def tw18032319314713786520 := ()
def tw1348050897150052679 := ()
def tw7983124678797054976 := ()
def tw17075869347250335426 := ()
def tw9784498746360418338 := ()
def tw1321733437387721741 := ()
def tw13764694436864433118 := ()
def tw7479420181312657015 := ()
def tw15019582979267191543 := ()
def tw6209548947977480372 := ()
def tw1358003891906619329 := ()
def tw17565100622036115760 := ()
def tw7965306133707159006 := ()
def tw11885964837762526400 := ()
def tw8325280126477634146 := ()
def tw3992146922537405391 := ()
def tw3761741885691095109 := ()
def tw5575964433046679819 := ()
def tw8771733365533861140 := ()
def tw11363221100417385932 := ()
def tw8559538378339351648 := ()
def tw15985954017675977328 := ()
def tw3801118523435593539 := ()
def tw825351587743688791 := ()
def tw16345521466140986801 := ()
def tw11480513903573824264 := ()
def tw3115099809786807345 := ()
def tw10386831508245970156 := ()
def tw16305723763089296845 := ()
def tw17736701369587005028 := ()
def tw9031881565099450020 := ()
def tw561389520458112029 := ()
def tw11233336746507884637 := ()
def tw18148910010296667120 := ()
def tw4943477621573219921 := ()
def tw5443242892849386044 := ()
def tw4110314073582566553 := ()
def tw11662296661928168425 := ()
def tw15085995126417500210 := ()
def tw652383306371911480 := ()
def tw3675705405425296487 := ()
def tw12102912007871227954 := ()
def tw11505606092921790390 := ()
def tw15965029212299219323 := ()
def tw12902338088340923176 := ()
def tw809910941593498323 := ()
def tw15584568217465890959 := ()
def tw2901334056394281394 := ()
def tw15307484515495444583 := ()
def tw10306244147485826779 := ()
def tw4787966264231522718 := ()
def tw11210235816473116294 := ()
def tw11250630826268280908 := ()
def tw17832462598326439694 := ()
def tw9469721639995408720 := ()
def tw7518444686835028675 := ()
def tw3905257536373575548 := ()
def tw9995389039308180044 := ()
def tw11643384273656207761 := ()
def tw8844665519175986727 := ()
def tw4936747202367223846 := ()
def tw7463027086687446859 := ()
def tw6227310309126935598 := ()
def tw7716797079232887812 := ()
def tw13910359851609631483 := ()
def tw11676535920692072983 := ()
def tw16386673234903597251 := ()
def tw6758146541494419916 := ()
def tw3800984218519103377 := ()
def tw17664815431035429812 := ()
def tw3113572914633478668 := ()
def tw14930266807895221169 := ()
def tw13195618768598789717 := ()
def tw14230698987239963511 := ()
def tw5490197815879537363 := ()
def tw6764222634635945344 := ()
def tw12941698704018298951 := ()
def tw13999460291714803972 := ()
def tw4036576479855852610 := ()
def tw8980414149753201184 := ()
def tw5636144585441990708 := ()
def tw2020863229409769208 := ()
def tw6175308322836076536 := ()
def tw12258187242951413617 := ()
def tw15265247117475319574 := ()
def tw4971664129186718302 := ()
def tw13749140975849350786 := ()
def tw7968092929628166718 := ()
def tw3397477907787572819 := ()
def tw1347130450551747639 := ()
def tw17077899998039554888 := ()
def tw9458037514003603090 := ()
def tw13972249002756868085 := ()
def tw14647100648122940120 := ()
def tw12268685154899806186 := ()
def tw7827445436422611144 := ()
def tw1729177218589778643 := ()
def tw7657190945969854569 := ()
def tw13349055419440238485 := ()
def tw342420055193435004 := ()
def tw2861581390427492627 := ()
def tw4621182323641098535 := ()
def tw11381235374502050592 := ()
def tw9738654341087654492 := ()
def tw10822635005788877318 := ()
def tw10885791996518345133 := ()
def tw12223106100494655804 := ()
def tw8479784189958035680 := ()
def tw17463762074442090901 := ()
def tw11542472583027185532 := ()
def tw10994335157115149981 := ()
def tw14051021161474502885 := ()
def tw3280266995865523261 := ()
def tw11278958411305106363 := ()
def tw2411461075086516411 := ()
def tw1659857667462723902 := ()
def tw4078581171514393426 := ()
def tw3747916756002776216 := ()
def tw6093681608469581068 := ()
def tw15080173310983051355 := ()
def tw7498139359137822441 := ()
def tw15593609526917131809 := ()
def tw7317136020653657975 := ()
def tw13319900062637777566 := ()
def tw1887320881615495111 := ()
def tw11613024113934005502 := ()
def tw39202968206754937 := ()
def tw1982284022269841294 := ()
def tw7942386627338276751 := ()
def tw14603754499574001770 := ()
def tw4173425433749158729 := ()
def tw730186866701766037 := ()
def tw9911339425017029799 := ()
def tw3409047232371801505 := ()
def tw7108783972266681367 := ()
def tw2139923240799873225 := ()
def tw6108885219348880385 := ()
def tw12963247974357899748 := ()
def tw13892541592257415531 := ()
def tw10075586684677829986 := ()
def tw7898464692000655896 := ()
def tw806774354273132894 := ()
def tw17503288236797041219 := ()
def tw17042732812615005524 := ()
def tw6055595696913678186 := ()
def tw12409002195466470113 := ()
def tw12832449600346103936 := ()
def tw15138529952384040142 := ()
def tw16032563687888918890 := ()
def tw5099926914021968517 := ()
def tw11789594292168634605 := ()
def tw13652718797059011304 := ()
def tw10188168210189839520 := ()
def tw15235950806915370979 := ()
def tw7052115293600606307 := ()
def tw4297030582418758215 := ()
def tw2503952169812712575 := ()
def tw17355890934790381347 := ()
def tw8300935825224317923 := ()
def tw8737526743884748553 := ()
def tw15028546379034102413 := ()
def tw4433649579839112824 := ()
def tw12301342684790648165 := ()
def tw13075750058931382631 := ()
def tw12351762024786970836 := ()
def tw13450137652664440453 := ()
def tw6636814059774981570 := ()
def tw5438116119359970068 := ()
def tw18439076788602616981 := ()
def tw13922136337283998805 := ()
def tw11587444950558946105 := ()
def tw3336694101977908465 := ()
def tw13281010157707399410 := ()
def tw11862990598117478975 := ()
def tw14178182715672740391 := ()
def tw5320688782615907081 := ()
def tw815193049131495548 := ()
def tw17177482473817486834 := ()
def tw12169033839000621695 := ()
def tw1292168074094112921 := ()
def tw9278170064307013637 := ()
def tw15107532093130645318 := ()
def tw7227939822549796971 := ()
def tw10490146178059420677 := ()
def tw2216457064425819227 := ()
def tw7872925040966681033 := ()
def tw8632195481853150075 := ()
def tw7284124685056348759 := ()
def tw17528398756884360629 := ()
def tw14732719585981271739 := ()
def tw1822283887226194028 := ()
def tw4965411614836450146 := ()
def tw4810798329909843680 := ()
def tw5330037689210481277 := ()
def tw14117105580196762059 := ()
def tw18045891954032214175 := ()
def tw16640405917401367595 := ()
def tw15946219616613659759 := ()
def tw2241665765216421725 := ()
def tw6243525959875543986 := ()
def tw2135835761083994158 := ()
def tw17567012493278369202 := ()
def tw1012977611899183526 := ()
def tw2307539433841190687 := ()
def tw12091003619066794341 := ()
def tw15847345765261120155 := ()
def tw4343172345595020607 := ()
def tw5980335353686477682 := ()
def tw14892945939872281612 := ()
def tw16412261462761046389 := ()
def tw8356574873424588411 := ()
def tw18123896547110636313 := ()
def tw2492721449306547941 := ()
def tw10234575977542494824 := ()
def tw11660114802013589747 := ()
def tw5974087722171100574 := ()
def tw13241821779886646899 := ()
def tw2761220380104777622 := ()
def tw5572179109324919482 := ()
def tw16150232173209221931 := ()
def tw8523307830780143983 := ()
def tw1227508412194237041 := ()
def tw18325861256882579633 := ()
def tw12803093645590716606 := ()
def tw10747124937605413137 := ()
def tw5136582520419441762 := ()
def tw7175365900833368635 := ()
def tw18408879444327072758 := ()
def tw11985645135749637108 := ()
def tw14411953402791032188 := ()
def tw10834732316678418294 := ()
def tw10501446341345125114 := ()
def tw5646571036022730555 := ()
def tw7257485429968244560 := ()
def tw17250978429746885714 := ()
def tw17409466874640263807 := ()
def tw7069645564974937813 := ()
def tw7101495616319727852 := ()
def tw1869186617851510141 := ()
def tw15475010950814452428 := ()
def tw11697944974605073288 := ()
def tw6204419874832019138 := ()
def tw6808870137899289203 := ()
def tw4086031781229541454 := ()
def tw6375536437219456553 := ()
def tw15748895118492353312 := ()
def tw864710608874960160 := ()
def tw13351262102683330363 := ()
def tw4372238250691719249 := ()
def tw1748160164215774964 := ()
def tw8520806658584851622 := ()
def tw1793695985549071078 := ()
def tw1876123043725898404 := ()
def tw14349543004828492661 := ()
def tw1916429815945847106 := ()
def tw13816138738913879166 := ()
def tw12978638349789609682 := ()
def tw14218401475278112999 := ()
def tw18301776769942241479 := ()
def tw8208927893357262985 := ()
def tw6715539427648632664 := ()
def tw5115107007650884374 := ()
def tw10840987580561315962 := ()
def tw2401864220907549895 := ()
def tw17485697487367868932 := ()
def tw18419998345653955864 := ()
def tw10501548061415231179 := ()
def tw6270460869504748661 := ()
def tw9349542441671406748 := ()
def tw9651939804265835960 := ()
def tw11776242103857563065 := ()
def tw16405467845909684903 := ()
def tw15924386233477826662 := ()
def tw13257598665552332500 := ()
def tw13956636030204061590 := ()
def tw15736371417440120876 := ()
def tw15216540181478811242 := ()
def tw6950156153441795146 := ()
def tw18426110577861630763 := ()
def tw6662077345399804628 := ()
def tw8498809628092807742 := ()
def tw13260111159956915968 := ()
def tw1914732246808334164 := ()
def tw7266691224664494234 := ()
def tw16412148998697165281 := ()
def tw5867486748723778552 := ()
def tw4855771035455093810 := ()
def tw674988467980374802 := ()
def tw7341691734512201616 := ()
def tw14216993918593816965 := ()
def tw17495909306173537597 := ()
def tw4752450967763632588 := ()
def tw11721341016086646113 := ()
def tw7392960303968854973 := ()
def tw12486548382348145076 := ()
def tw16489111512712040450 := ()
def tw4388863728986744464 := ()
def tw13906405167870021858 := ()
def tw12308233077697208943 := ()
def tw16184288783659649513 := ()
def tw5790826462996266279 := ()
def tw7695685672740958945 := ()
def tw12629624240757737954 := ()
def tw12042005017845043709 := ()
def tw1379641250271599076 := ()
def tw12979572902769682848 := ()
def tw5331452290408247311 := ()
def tw17322109884086995073 := ()
def tw10952039419562115132 := ()
def tw16963335109167506680 := ()
def tw9448935152789299740 := ()
def tw11539917079914985432 := ()
def tw1704493195485352854 := ()
def tw189024579994938801 := ()
def tw3899323245516976590 := ()
def tw13045334364955719767 := ()
def tw146321371942125750 := ()
def tw1064265329235954742 := ()
def tw10652816405016523191 := ()
def tw8675705686922325482 := ()
def tw6033198444679470485 := ()
def tw10062076267741763772 := ()
def tw13719342973243897452 := ()
def tw3204240457965428005 := ()
def tw16972847696691918882 := ()
def tw7124422170038029911 := ()
def tw12883500549985660428 := ()
def tw11642262613646787825 := ()
def tw6453022762559915840 := ()
def tw9529223268482385656 := ()
def tw9615762010412536514 := ()
def tw11387858430749169313 := ()
def tw1383178593235606367 := ()
def tw434478632710430333 := ()
def tw3240768513007352804 := ()
def tw76151871105011110 := ()
end PySem.W.Fast
abbrev Aga:=@PySem.wpAny_bind
abbrev Agb:=@PySem.wpAny_pure
abbrev Agc:=@PySem.Heap.get?_push_of_some
abbrev Agd:=@List.length_map
abbrev Age:=@decide_eq_true
abbrev Agf:=@of_decide_eq_true
abbrev Agg:=@Array.length_toList
abbrev Agh:=@List.mem_cons_of_mem
abbrev Agi:=@Nat.le_refl
abbrev Agj:=@List.mem_cons_self
abbrev Agk:=@PySem.Heap.lt_size
abbrev Agl:=@List.getElem?_eq_some_iff
abbrev Agm:=@List.size_toArray
abbrev Agn:=@Option.some.inj
abbrev Ago:=@PySem.Heap.get?_push_size
abbrev Agp:=@decide_eq_false
abbrev Agq:=@Array.getElem?_eq_getElem
abbrev Agr:=@List.length_cons
abbrev Ags:=@Bool.false_ne_true
abbrev Agt:=@Array.getElem?_toList
abbrev Agu:=@Array.getD_eq_getD_getElem?
abbrev Agv:=@Nat.ne_of_lt
abbrev Agw:=@List.length_append
abbrev Agx:=@List.mem_cons
abbrev Agy:=@List.map_cons
abbrev Agz:=@List.getElem?_map
abbrev Ag0:=@List.getElem?_eq_getElem
abbrev Ag1:=@Nat.le_trans
abbrev Ag2:=@Nat.lt_of_le_of_lt
abbrev Ag3:=@List.mem_singleton
abbrev Ag4:=@Nat.lt_of_lt_of_le
abbrev Ag5:=@List.mem_append_right
abbrev Ag6:=@Bool.and_eq_true
abbrev Ag7:=@List.mem_map
abbrev Ag8:=@List.mem_map_of_mem
abbrev Ag9:=@PySem.W.mg_of
abbrev Aha:=@List.map_map
abbrev Ahb:=@congrArg
abbrev Ahc:=@Option.map_eq_some_iff
abbrev Ahd:=@PySem.wpAny_holding
abbrev Ahe:=@decide_eq_decide
abbrev Ahf:=@List.mem_append
abbrev Ahg:=@List.map_append
abbrev Ahh:=@List.append_nil
abbrev Ahi:=@Bool.false_eq_true
abbrev Ahj:=@PySem.wpAny_call_entry
abbrev Ahk:=@List.length_take
abbrev Ahl:=@List.length_range
abbrev Ahm:=@List.mem_range
abbrev Ahn:=@Nat.zero_le
abbrev Aho:=@Nat.not_lt_zero
abbrev Ahp:=@Nat.lt_irrefl
abbrev Ahq:=@Int.toNat_natCast
abbrev Ahr:=@PySem.sizeLine_eq
abbrev Ahs:=@PySem.Value.isStrOf_shape
abbrev Aht:=@PySem.PassesOwn.never
abbrev Ahu:=@PySem.BindsTo.of_defaults
abbrev Ahv:=@PySem.Heap.size_push
abbrev Ahw:=@List.getElem?_of_mem
abbrev Ahx:=@PySem.wpAny_truthy_bool
abbrev Ahy:=@PySem.wpAny_setState_of
abbrev Ahz:=@PySem.Value.isInt_shape
abbrev Ah0:=@List.filterMap_cons
abbrev Ah1:=@PySem.codeAny_builtin
abbrev Ah2:=@List.length_filter_le
abbrev Ah3:=@PySem.wpAny_forIn_list
abbrev Ah4:=@PySem.Heap.SameBut.update
abbrev Ah5:=@PySem.wpAny_newObj_type
abbrev Ah6:=@PySem.Heap.get?_update_self
abbrev Ah7:=@Int.emod_lt_of_pos
abbrev Ah8:=@List.mem_of_getElem?
abbrev Ah9:=@Nat.lt_succ_self
abbrev Aia:=@List.getElem_mem
abbrev Aib:=@PySem.wpAny_ite_split
abbrev Aic:=@Array.getElem?_eq_none
abbrev Aid:=@PySem.wpAny_mono
abbrev Aie:=@Int.emod_nonneg
abbrev Aif:=@List.mem_filterMap
abbrev Aig:=@List.lookup_cons
abbrev Aih:=@Nat.lt_succ_of_lt
abbrev Aii:=@Nat.le_of_lt_succ
abbrev Aij:=@beq_eq_false_iff_ne
abbrev Aik:=@PySem.Around.under_plainId
abbrev Ail:=@PySem.W.mg_none_of
abbrev Aim:=@List.take_length
abbrev Ain:=@List.not_mem_nil
abbrev Aio:=@PySem.F.slot_dict_get
abbrev Aip:=@Nat.ne_of_gt
abbrev Aiq:=@Nat.lt_or_ge
abbrev Air:=@List.zip_cons_cons
abbrev Ais:=@Bool.not_true
abbrev Ait:=@Array.forIn_toList
abbrev Aiu:=@List.pairwise_iff_getElem
abbrev Aiv:=@PyProof.Rows.F.plain_set_update_loop
abbrev Aiw:=@PySem.wpAny_tupleItemsOf
abbrev Aix:=@PyProof.Rows.slot_tuple_getitem
abbrev Aiy:=@PySem.wpAny_specialOf
abbrev Aiz:=@if_false
abbrev Ai0:=@decide_eq_true_iff
abbrev Ai1:=@List.filter_append
abbrev Ai2:=@PySem.wpAny_isInstance
abbrev Ai3:=@List.take_append_drop
abbrev Ai4:=@List.nodup_cons
abbrev Ai5:=@PyProof.Rows.KeyOrd.kle_refl
abbrev Ai6:=@PySem.tupleKind_room_in1
abbrev Ai7:=@List.getElem?_append_right
abbrev Ai8:=@Array.getElem?_eq_some_iff
abbrev Ai9:=@Array.mem_toList_iff
abbrev Aja:=@PySem.wpAny_passesOwn
abbrev Ajb:=@PySem.isSubtype_tuple_tuple
abbrev Ajc:=@PySem.codeAny_mono
abbrev Ajd:=@List.length_drop
abbrev Aje:=@List.filter_cons
abbrev Ajf:=@PySem.mem_of_lookup
abbrev Ajg:=@Option.isSome_iff_exists
abbrev Ajh:=@Nat.succ_pos
abbrev Aji:=@List.filterMap_cons_some
abbrev Ajj:=@PySem.Calls.evalArgs_plain
abbrev Ajk:=@PySem.W.kia_one
abbrev Ajl:=@List.pairwise_cons
abbrev Ajm:=@List.mem_filter
abbrev Ajn:=@List.getElem?_drop
abbrev Ajo:=@List.find?_cons
abbrev Ajp:=@PySem.wpAny_askSetting
abbrev Ajq:=@PySem.wpAny_setEntries_of
abbrev Ajr:=@List.take_succ_eq_append_getElem
abbrev Ajs:=@PySem.F.entry_dict_get
abbrev Ajt:=@decide_eq_true_eq
abbrev Aju:=@Nat.le_succ
abbrev Ajv:=@List.pairwise_map
abbrev Ajw:=@PySem.wpAny_Call_Name_kw
abbrev Ajx:=@PySem.Code.quiet_builtin
abbrev Ajy:=@PySem.Calls.spliced_cons
abbrev Ajz:=@Nat.le_of_lt
abbrev Aj0:=@List.map_nil
abbrev Aj1:=@List.getElem?_toArray
abbrev Aj2:=@List.getElem?_eq_none
abbrev Aj3:=@Ne.symm
abbrev Aj4:=@PySem.Heap.get?_update_other
abbrev Aj5:=@PySem.Calls.callWith_builtin
abbrev Aj6:=@List.mem_append_left
abbrev Aj7:=@PySem.wpAny_rule
abbrev Aj8:=@PySem.fits_of_scanBound
abbrev Aj9:=@List.any_cons
abbrev Aka:=@PySem.wpAny_typeOf
abbrev Akb:=@PyProof.Rows.callWith_type1
abbrev Akc:=@Nat.add_le_add_left
abbrev Akd:=@List.filter_map
abbrev Ake:=@List.cons.injEq
abbrev Akf:=@PyProof.Rows.F.entry_set_update_loop
abbrev Akg:=@PySem.codeAny_call_builtin
abbrev Akh:=@Nat.zero_add
abbrev Aki:=@List.getElem?_take
abbrev Akj:=@PySem.wpAny_newList
abbrev Akk:=@PySem.wpAny_attempt
abbrev Akl:=@List.getElem?_append_left
abbrev Akm:=@PyProof.Rows.KeyOrd.kle_of_klt
abbrev Akn:=@PySem.wpAny_richCompare_same_room
abbrev Ako:=@PySem.wpAny_execs_nil
abbrev Akp:=@PySem.F.args_tuple_add_2
abbrev Akq:=@Nat.mod_lt
abbrev Akr:=@List.take_add_one
abbrev Aks:=@List.filterMap_cons_none
abbrev Akt:=@Bool.eq_false_iff
abbrev Aku:=@PySem.F.plainAttrs_dict
abbrev Akv:=@PySem.F.entry_tuple_add
abbrev Akw:=@Prod.mk.injEq
abbrev Akx:=@Option.bind_eq_some_iff
abbrev Aky:=@beq_self_eq_true
abbrev Akz:=@Nat.le_add_right
abbrev Ak0:=@PySem.wpAny_setField
abbrev Ak1:=@PySem.F.slot_tuple_add
abbrev Ak2:=@PySem.Calls.call_function_entry
abbrev Ak3:=@List.pairwise_lt_range
abbrev Ak4:=@List.getElem?_set_self
abbrev Ak5:=@PySem.wpAny_storeSet_of
abbrev Ak6:=@PySem.wpAny_pyIter_list
abbrev Ak7:=@PySem.SetTable.toList_insertAt
abbrev Ak8:=@PySem.F.slot_tuple_hash
abbrev Ak9:=@PySem.Calls.spliced_nil
abbrev Ala:=@Option.map_some
abbrev Alb:=@Bool.eq_iff_iff
abbrev Alc:=@PySem.plainId_quiet
abbrev Ald:=@PySem.Paired.length
abbrev Ale:=@List.getElem?_set_ne
abbrev Alf:=@Array.toArray_toList
abbrev Alh:=@if_true
abbrev Ali:=@Sum.inr.inj
abbrev Alj:=@List.map_congr_left
abbrev Alk:=@List.filter_eq_self
abbrev Alm:=@List.countP_eq_zero
abbrev Aln:=@PySem.call_meetsIn
abbrev Alo:=@Nat.add_right_comm
abbrev Alp:=@Nat.add_assoc
abbrev Alq:=@List.map_singleton
abbrev Alr:=@PySem.wpAny_call
abbrev Als:=@Option.isSome_map
abbrev Alu:=@Nat.lt_trichotomy
abbrev Alv:=@List.take_sublist
abbrev Alw:=@List.nodup_append
abbrev Alx:=@List.append_assoc
abbrev Aly:=@Bool.not_eq_true'
abbrev Alz:=@PySem.wpAny_seqItems
abbrev Al0:=@PySem.wpAny_runValue
abbrev Al1:=@PySem.wpAny_fieldsOf
abbrev Al2:=@PySem.W.looks_findIn
abbrev Al3:=@List.set_set
abbrev Al4:=@PySem.Paired.snoc
abbrev Al5:=@PyProof.Rows.KeyOrd.kle_trans
abbrev Al6:=@Nat.succ_lt_succ
namespace L2
open PySem PySem.Spec PyProof.Rows
abbrev Key:=Sum Int Str
def Xf:Key->Value->Bool
 | .inl k,v=>Value.isInt k v
 | .inr x,v=>Value.isStrOf x v
def Afx (w:World):Key->Int
 | .inl k=>hashInt k
 | .inr x=>hashStr w x
theorem Du:∀{k:Key}{v:Value},Xf k v=true->(∃i t,k=Sum.inl i/\v=Value.int i t)∨(∃x t,k=Sum.inr x/\v=Value.str x t)
 |
  .inl i,v,h=>by
  obtain⟨t,e⟩:=Ahz (k:=i) (v:=v) h
  exact .inl ⟨i,t,rfl,e⟩
 |
  .inr x,v,h=>by
  obtain⟨t,e⟩:=Ahs (x:=x) (v:=v) h
  exact .inr ⟨x,t,rfl,e⟩
theorem qw (i:Int)(t:Tok):Xf (.inl i) (.int i t)=true:=by simp[Xf,Value.isInt]
theorem ql (x:Str)(t:Tok):Xf (.inr x) (.str x t)=true:=by simp[Xf,Value.isStrOf]
theorem Acs (a b:Int):decide ((Sum.inl a:Key)=Sum.inl b)=(a==b):=by
 by_cases e:a=b
 · subst e;simp
 ·
  have h:¬(Sum.inl a:Key)=Sum.inl b:=λq=>e (Sum.inl.inj q)
  rw[Agp h]
  exact(Aij.mpr e).symm
theorem Acl (a b:Str):decide ((Sum.inr a:Key)=Sum.inr b)=decide (a=b):=by
 by_cases e:a=b
 · subst e;simp
 ·
  have h:¬(Sum.inr a:Key)=Sum.inr b:=λq=>e (Ali q)
  rw[Agp h,Agp e]
theorem Ab0 (a:Int)(b:Str):decide ((Sum.inl a:Key)=Sum.inr b)=false:=Agp (λq=>nomatch q)
theorem Ack (a:Str)(b:Int):decide ((Sum.inr a:Key)=Sum.inl b)=false:=Agp (λq=>nomatch q)
def A4 (prog:Program)(w:World):PySem.KeyKind prog w Key where
 is:=Xf
 hash:=Afx w
 inj:=λv a b ha hb=>by
  rcases Du ha with⟨i,t,rfl,rfl⟩|⟨x,t,rfl,rfl⟩
  ·
   rcases Du hb with⟨j,u,rfl,e⟩|⟨y,u,rfl,e⟩
   · injection e with e1 _;rw[e1]
   · exact nomatch e
  ·
   rcases Du hb with⟨j,u,rfl,e⟩|⟨y,u,rfl,e⟩
   · exact nomatch e
   · injection e with e1 _;rw[e1]
 byValue:=λk v h=>by
  rcases Du h with⟨i,t,rfl,rfl⟩|⟨x,t,rfl,rfl⟩<;>rfl
 pyHash:=λhv h=>by
  rcases Du hv with⟨i,t,rfl,rfl⟩|⟨x,t,rfl,rfl⟩
  · exact wpAny_pyHash_int h
  · exact wpAny_pyHash_str h
 eqBool:=λhu hv h=>by
  rcases Du hu with⟨i,t,rfl,rfl⟩|⟨x,t,rfl,rfl⟩
  ·
   rcases Du hv with⟨j,u,rfl,rfl⟩|⟨y,u,rfl,rfl⟩
   · rw[Acs] at h;exact wpAny_eqBool_int h
   · rw[Ab0] at h;exact SeqAt.EqAt.int_str i t y u _ _ _ _ h
  ·
   rcases Du hv with⟨j,u,rfl,rfl⟩|⟨y,u,rfl,rfl⟩
   · rw[Ack] at h;exact SeqAt.EqAt.str_int x t j u _ _ _ _ h
   · rw[Acl] at h;exact wpAny_eqBool_str h
 «strs»:=λk x t v h=>by
  rcases Du h with⟨i,u,rfl,e⟩|⟨y,u,rfl,e⟩
  · exact nomatch e
  ·
   injection e with e1 _
   subst e1
   cases v<;>rfl
theorem ij (prog:Program)(w:World)(i:Int)(t:Tok):(A4 prog w).is (.inl i) (.int i t)=true:=qw i t
theorem gz (prog:Program)(w:World)(x:Str)(t:Tok):(A4 prog w).is (.inr x) (.str x t)=true:=ql x t
inductive V where
 | non|bl (b:Bool)|int (i:Int)|str (x:Str)|byt (b:Array UInt8)|flt (b:UInt64)|ref (a:Addr)|ty (n:String)
 deriving DecidableEq
def RelV:V->Value->Prop
 | .non,u=>u=Value.none
 | .bl b,u=>u=Value.bool b
 | .int i,u=>∃t,u=Value.int i t
 | .str x,u=>∃t,u=Value.str x t
 | .byt b,u=>∃t,u=Value.bytes b t
 | .flt b,u=>∃t,u=Value.float b t
 | .ref a,u=>u=Value.ref a
 | .ty n,u=>u=Value.type n
abbrev Vals:List V->List Value->Prop:=Paired RelV
theorem Vals.length {xs:List V}{us:List Value}(r:Vals xs us):xs.length=us.length:=Ald r
theorem Vals.get:∀{xs:List V}{us:List Value}{i:Nat}{x:V},Vals xs us->xs[i]?=some x->∃u,us[i]?=some u/\RelV x u
 | _,_,_,_,.nil,e=>by simp at e
 | _,_,0,_,.cons r _,e=>by simp at e;subst e;exact⟨_,rfl,r⟩
 |
  _,_,i+1,x,.cons _ t,e=>by
  obtain⟨u,h1,h2⟩:=Vals.get (i:=i) (x:=x) t (by simpa using e)
  exact⟨u,by simpa using h1,h2⟩
theorem Vals.set {x:V}{u:Value}(r:RelV x u):∀{xs:List V}{us:List Value}(i:Nat),Vals xs us->Vals (xs.set i x) (us.set i u)
 | _,_,_,.nil=>.nil
 | _,_,0,.cons _ t=>.cons r t
 | _,_,i+1,.cons q t=>.cons q (Vals.set r i t)
theorem Vals.append:∀{xs ys:List V}{us ws:List Value},Vals xs us->Vals ys ws->Vals (xs++ys) (us++ws)
 | _,_,_,_,.nil,s=>s
 | _,_,_,_,.cons r t,s=>.cons r (Vals.append t s)
theorem Vals.take:∀{xs:List V}{us:List Value}(n:Nat),Vals xs us->Vals (xs.take n) (us.take n)
 | _,_,0,_=>.nil
 | _,_,_+1,.nil=>.nil
 | _,_,n+1,.cons r t=>.cons r (Vals.take n t)
theorem Vals.drop:∀{xs:List V}{us:List Value}(n:Nat),Vals xs us->Vals (xs.drop n) (us.drop n)
 | _,_,0,r=>r
 | _,_,_+1,.nil=>.nil
 | _,_,n+1,.cons _ t=>Vals.drop n t
def RelO:Option V->Option Value->Prop
 | some v,some u=>RelV v u
 | none,none=>True
 | _,_=>False
def KV {κ:Type}:List (κ×V)->List (κ×Value)->Prop:=Paired λ(p:κ×V)(q:κ×Value)=>p.1=q.1/\RelV p.2 q.2
def kV:Key->V
 | .inl i=>.int i
 | .inr x=>.str x
inductive HO where
 | lst (xs:List V)
 | tup (xs:List V)
 | dK (kvs:List (Key×V))|dT (kvs:List (List Key×V))
 | set (S:Int->Bool) (n:Nat)
 | ins (C dx:Addr) (fs:List (Str×V))
 | own (x:Addr)
 | xd (fs:List (Str×V))
 | met (f x:Addr)
 | rng (lo hi:Int)
 | frz (o:Obj) (u:HO)
 | tbl (ps:Array Value)
 | ext (φ:Heap->Prop)
abbrev Hp:=Addr->Option HO
def upd (H:Hp)(a:Addr)(o:HO):Hp:=λb=>if b=a then some o else H b
theorem Ac {H:Hp}{a:Addr}{o:HO}:upd H a o a=some o:=by unfold upd;rw[if_pos rfl]
theorem Ak {H:Hp}{a b:Addr}{o:HO}(h:b≠a):upd H a o b=H b:=by unfold upd;rw[if_neg h]
theorem Sz {H:Hp}{a:Addr}{o u:HO}:upd (upd H a o) a u=upd H a u:=by
 funext b;unfold upd;split<;>rfl
theorem xm {H:Hp}{a b:Addr}{o u:HO}(h:H a=some o)(h':H b=some u)(d:o≠u):a≠b:=by
 intro e;subst e;rw[h] at h';exact d (Agn h')
theorem Au {H:Hp}{a b:Addr}{o:HO}(h:H a=some o)(h':H b=none):a≠b:=by
 intro e;subst e;rw[h] at h';cases h'
section
variable (P:Program)(w:World)
def ObjOk (H:Hp)(h:Heap)(a:Addr):HO->Prop
 | .lst xs=>xs.length<=sizeLine/\∃(its:List Value)(n:Nat),Vals xs its/\h.get? a=some {cls:=.type "list",data:=.seq its.toArray n}
 | .tup xs=>xs.length<=sizeLine/\∃its:List Value,Vals xs its/\IsTup h a its.toArray
 | .dK kvs=>kvs.length<=sizeLine/\(a==sysModules)=false/\∃vs,KV kvs vs/\h.DictOf (A4 P w) a vs
 | .dT kvs=>kvs.length<=sizeLine/\(a==sysModules)=false/\∃xs:List (List Key×Addr×Value),
  Paired (λ(p:List Key×V)(q:List Key×Addr×Value)=>p.1=q.1/\H q.2.1=some (.tup (p.1.map kV))/\RelV p.2 q.2.2) kvs xs/\
  ∃o es ep,h.get? a=some o/\o.ExactDict/\o.data=.dict es ep/\es.toList=xs.map (entryOfKey (tupleKind (A4 P w)))/\(xs.map (·.1)).Nodup
 | .set S n=>h.SetOf (intKind P w) a S n
 | .ins C dx fs=>H dx=some (.own a)/\fs.length<=1000/\dx≠a/\h.get? a=some (W.instObj C dx)/\
  ∃mA,h.Ns1 dx mA/\(∀f,RelO (fs.lookup f) (mA f))/\PySem.Within mA (fs.map (·.1))
 | .own _=>∃o,h.get? a=some o
 | .xd fs=>∃mA,h.Ns1 a mA/\∀f,RelO (fs.lookup f) (mA f)
 | .rng lo hi=>∃t u v,h.get? a=some {cls:=.type "range",data:=.fields #[.int lo t,.int hi u,.int 1 v]}
 | .frz o u=>h.get? a=some o/\ObjOk H h a u
 | .tbl ps=>h.get? a=some {cls:=.none,data:=.fields ps}
 | .met f x=>h.get? a=some (W.methodObj (.ref f) (.ref x))
 | .ext φ=>φ h/\(∃o,h.get? a=some o)/\∀h1 h2:Heap,φ h1->(∀o,h1.get? a=some o->h2.get? a=some o)->φ h2
def HOk (H:Hp)(h:Heap):Prop:=∀a o,H a=some o->ObjOk P w H h a o
end
section
variable {P:Program}{w:World}{H H':Hp}{h h':Heap}{a:Addr}{o:HO}
theorem ObjOk.lt (x:ObjOk P w H h a o):a<h.objs.size:=by
 cases o with
 | lst xs=>obtain⟨_,_,_,_,e⟩:=x;exact Agk e
 | tup xs=>obtain⟨_,_,_,p⟩:=x;exact p.lt
 | dK kvs=>obtain⟨_,_,_,_,o,_,_,e,_⟩:=x;exact Agk e
 | dT kvs=>obtain⟨_,_,_,_,o,_,_,e,_⟩:=x;exact Agk e
 | set S n=>obtain⟨o,_,_,_,e,_⟩:=x;exact Agk e
 | ins C dx fs=>obtain⟨_,_,_,e,_⟩:=x;exact Agk e
 | own y=>obtain⟨_,e⟩:=x;exact Agk e
 | xd fs=>obtain⟨_,⟨_,_,_,e,_⟩,_⟩:=x;exact Agk e
 | rng lo hi=>obtain⟨_,_,_,e⟩:=x;exact Agk e
 | frz ob u=>obtain⟨e,_⟩:=x;exact Agk e
 | tbl ps=>exact Agk (show h.get? a=some _ from x)
 | met f y=>exact Agk (show h.get? a=some _ from x)
 | ext φ=>obtain⟨_,⟨_,e⟩,_⟩:=x;exact Agk e
theorem Paired.mapP {α β:Type}{F G:α->β->Prop}:∀{l₁:List α}{l₂:List β},Paired F l₁ l₂->(∀a b,F a b->G a b)->Paired G l₁ l₂
 | _,_,.nil,_=>.nil
 | _,_,.cons r t,f=>.cons (f _ _ r) (Paired.mapP t f)
theorem ObjOk.stay (x:ObjOk P w H h a o)(k:∀b u,(b=a∨H b=some (.own a))->h.get? b=some u->h'.get? b=some u)
  (ho:∀b,H b=some (.own a)->H' b=some (.own a)) (ht:∀b xs,H b=some (.tup xs)->H' b=some (.tup xs)):ObjOk P w H' h' a o:=by
 induction o with
 | lst xs=>obtain⟨z,its,n,r,e⟩:=x;exact⟨z,its,n,r,k _ _ (.inl rfl) e⟩
 | tup xs=>obtain⟨z,its,r,ob,e,c⟩:=x;exact⟨z,its,r,ob,k _ _ (.inl rfl) e,c⟩
 | dK kvs=>obtain⟨z,y,vs,r,ob,es,ep,e,c⟩:=x;exact⟨z,y,vs,r,ob,es,ep,k _ _ (.inl rfl) e,c⟩
 |
  dT kvs=>
  obtain⟨z,y,xs,r,ob,es,ep,e,c⟩:=x
  exact⟨z,y,xs,Paired.mapP r λp q z=>⟨z.1,ht _ _ z.2.1,z.2.2⟩,ob,es,ep,k _ _ (.inl rfl) e,c⟩
 | set S n=>obtain⟨ob,es,ep,t,e,c⟩:=x;exact⟨ob,es,ep,t,k _ _ (.inl rfl) e,c⟩
 |
  ins C dx fs=>
  obtain⟨d,z,ne,e,mA,⟨od,es,ep,e2,c⟩,r⟩:=x
  exact⟨ho _ d,z,ne,k _ _ (.inl rfl) e,mA,⟨od,es,ep,k _ _ (.inr d) e2,c⟩,r⟩
 | own y=>obtain⟨ob,e⟩:=x;exact⟨ob,k _ _ (.inl rfl) e⟩
 | xd fs=>obtain⟨mA,⟨od,es,ep,e,c⟩,r⟩:=x;exact⟨mA,⟨od,es,ep,k _ _ (.inl rfl) e,c⟩,r⟩
 | rng lo hi=>obtain⟨t,u,v,e⟩:=x;exact⟨t,u,v,k _ _ (.inl rfl) e⟩
 | frz ob u ih=>obtain⟨e,q⟩:=x;exact⟨k _ _ (.inl rfl) e,ih q⟩
 |
  tbl ps=>
  have e:h.get? a=some {cls:=.none,data:=.fields ps}:=x
  show h'.get? a=some {cls:=.none,data:=.fields ps}
  exact k a _ (.inl rfl) e
 |
  met f y=>
  have e:h.get? a=some (W.methodObj (.ref f) (.ref y)):=x
  show h'.get? a=some (W.methodObj (.ref f) (.ref y))
  exact k a _ (.inl rfl) e
 | ext φ=>obtain⟨p,⟨o,e⟩,st⟩:=x;exact⟨st _ _ p λo q=>k _ _ (.inl rfl) q,⟨o,k _ _ (.inl rfl) e⟩,st⟩
theorem HOk.lt (x:HOk P w H h)(e:H a=some o):a<h.objs.size:=(x a o e).lt
theorem HOk.fresh (x:HOk P w H h)(e:h.objs.size<=a):H a=none:=by
 cases q:H a with
 | none=>rfl
 | some u=>exact absurd (Ag4 (x.lt q) e) (Ahp _)
theorem HOk.kept (x:HOk P w H h)(k:∀b u,h.get? b=some u->h'.get? b=some u):HOk P w H h':=λa o e=>
 (x a o e).stay (λb u _ q=>k b u q) (λ_ q=>q) λ_ _ q=>q
theorem HOk.laid (x:HOk P w H h)(k:∀b u,h.get? b=some u->h'.get? b=some u)(hp:h.objs.size<=a)(new:ObjOk P w (upd H a o) h' a o):HOk P w (upd H a o) h':=λb u e=>by
 have hn:=x.fresh hp
 by_cases hb:b=a
 · subst hb;rw[Ac] at e;cases e;exact new
 ·
  rw[Ak hb] at e
  exact(x b u e).stay (λc v _ q=>k c v q) (λc q=>by rw[Ak (Au q hn)];exact q) λc xs q=>by rw[Ak (Au q hn)];exact q
end
def Rd (H:Hp)(a:Addr)(u:HO):Prop:=H a=some u∨∃o,H a=some (.frz o u)
theorem Rd.ok {P:Program}{w:World}{H:Hp}{h:Heap}{a:Addr}{u:HO}(r:Rd H a u)(x:HOk P w H h):ObjOk P w H h a u:=by
 rcases r with r|⟨o,r⟩
 · exact x a u r
 ·
  obtain⟨_,q⟩:=x a _ r
  exact q
def Mut:Option HO->Prop
 | some (.lst _)=>True
 | some (.dK _)=>True
 | some (.dT _)=>True
 | some (.set _ _)=>True
 | some (.ins _ _ _)=>True
 | some (.ext _)=>True
 | _=>False
section
variable {P:Program}{w:World}{H:Hp}{h h':Heap}{x e:Addr}{o':HO}
theorem HOk.write (ok:HOk P w H h)(mu:Mut (H x))(he:e=x∨H e=some (.own x))(k:∀b u,b≠e->h.get? b=some u->h'.get? b=some u)(heo:∃u,h'.get? e=some u)
  (new:ObjOk P w (upd H x o') h' x o'):HOk P w (upd H x o') h':=λb u q=>by
 have nown:∀c y,H c=some (.own y)->c≠x:=λc y r z=>by subst z;rw[r] at mu;exact mu
 have ntup:∀c xs,H c=some (.tup xs)->c≠x:=λc xs r z=>by subst z;rw[r] at mu;exact mu
 by_cases hb:b=x
 · subst hb;rw[Ac] at q;cases q;exact new
 ·
  rw[Ak hb] at q
  by_cases hbe:b=e
  ·
   have q':H b=some (.own x):=by
    rcases he with z|z
    · exact absurd (hbe.trans z) hb
    · rw[hbe];exact z
   rw[q] at q';cases q'
   obtain⟨v,hv⟩:=heo
   exact⟨v,by rw[hbe];exact hv⟩
  ·
   refine(ok b u q).stay (λc v hc r=>k c v ?_ r) (λc r=>by rw[Ak (nown c b r)];exact r) λc xs r=>by rw[Ak (ntup c xs r)];exact r
   rcases hc with rfl|hc
   · exact hbe
   ·
    rintro rfl
    rcases he with z|z
    · exact nown c b hc z
    · rw[hc] at z;cases z;exact hb rfl
end
structure Un (fs ex:List Addr)(H H':Hp)(h h':Heap):Prop where
 keep:∀b o,h.get? b=some o->H b=none->b∉fs->b∉ex->h'.get? b=some o
 slot:∀b o,h.get? b=some o->H b=none->b∈fs->b∉ex->∃sl,h'.get? b=some {o with slots:=sl}
 free:∀b o,h.get? b=some o->H b=none->b∉ex->H' b=none
 there:∀b o,h.get? b=some o->b∉ex->∃o',h'.get? b=some o'
 tups:∀b xs,H b=some (.tup xs)->H' b=some (.tup xs)
 frzs:∀b o u,H b=some (.frz o u)->H' b=some (.frz o u)
 tbls:∀b ps,H b=some (.tbl ps)->∃more,H' b=some (.tbl (ps++more))
section
variable {fs fs' ex ex':List Addr}{H H1 H2:Hp}{h h1 h2 h':Heap}{a x e:Addr}{o:HO}
theorem Un.any (u:Un fs ex H H1 h h1){b:Addr}{ob:Obj}(q:h.get? b=some ob)(n:H b=none)(hx:b∉ex):∃sl,h1.get? b=some {ob with slots:=sl}:=by
 by_cases hb:b∈fs
 · exact u.slot b ob q n hb hx
 · exact⟨ob.slots,u.keep b ob q n hb hx⟩
theorem Un.kept (k:∀b u,h.get? b=some u->h'.get? b=some u):Un fs ex H H h h':=
 ⟨λb ob q _ _ _=>k b ob q,λb ob q _ _ _=>⟨ob.slots,k b ob q⟩,λ_ _ _ n _=>n,λb ob q _=>⟨ob,k b ob q⟩,λ_ _ q=>q,λ_ _ _ q=>q,λ_ ps q=>⟨#[],by rw[q];simp⟩⟩
theorem Un.refl:Un fs ex H H h h:=Un.kept λ_ _ q=>q
theorem Un.laid (k:∀b u,h.get? b=some u->h'.get? b=some u)(hp:h.objs.size<=a)(hn:H a=none):Un fs ex H (upd H a o) h h' where
 keep:=λb u q _ _ _=>k b u q
 slot:=λb u q _ _ _=>⟨u.slots,k b u q⟩
 free:=λb u q n _=>by rw[Ak (Agv (Ag4 (Agk q) hp))];exact n
 there:=λb u q _=>⟨u,k b u q⟩
 tups:=λb xs q=>by rw[Ak (Au q hn)];exact q
 frzs:=λb u xs q=>by rw[Ak (Au q hn)];exact q
 tbls:=λb ps q=>⟨#[],by rw[Ak (Au q hn),q];simp⟩
theorem Un.write (mu:Mut (H x))(he:e=x∨H e=some (.own x))(k:∀b u,b≠e->h.get? b=some u->h'.get? b=some u)(heo:∃u,h'.get? e=some u):Un fs ex H (upd H x o) h h':=by
 have hx:∀b,H b=none->b≠x:=λb n z=>by subst z;rw[n] at mu;exact mu
 have hb:∀b,H b=none->b≠e:=λb n z=>by
  subst z
  rcases he with r|r
  · exact hx b n r
  · rw[n] at r;cases r
 have hm:∀b u,H b=some u->¬Mut (some u)->b≠x:=λb u q nm z=>by subst z;rw[q] at mu;exact nm mu
 refine⟨λb u q n _ _=>k b u (hb b n) q,λb u q n _ _=>⟨u.slots,k b u (hb b n) q⟩,λb u q n _=>by rw[Ak (hx b n)];exact n,λb u q _=>?_,
  λb xs q=>by rw[Ak (hm b _ q λz=>z)];exact q,λb u xs q=>by rw[Ak (hm b _ q λz=>z)];exact q,λb ps q=>⟨#[],by rw[Ak (hm b _ q λz=>z),q];simp⟩⟩
 by_cases hbe:b=e
 · subst hbe;exact heo
 · exact⟨u,k b u hbe q⟩
end
def trk (h:Heap)(H:Hp):List Addr:=(List.range h.objs.size).filter λa=>(H a).isSome
def wj (h:Heap)(H:Hp):Heap:=W.hideAll h (trk h H)
theorem vo (h:Heap)(H:Hp):(wj h H).objs.size=h.objs.size:=W.hideAll_size _ _
theorem xa {h:Heap}{H:Hp}{b:Addr}{o:Obj}(e:h.get? b=some o)(n:H b=none):(wj h H).get? b=some o:=
 W.hideAll_get _ e λhm=>by
  have q:(H b).isSome=true:=(Ajm.mp hm).2
  rw[n] at q;simp at q
theorem Aau {h:Heap}{H:Hp}{b:Addr}{o:Obj}(e:(wj h H).get? b=some o):h.get? b=some o/\H b=none:=by
 have e':h.get? b=some o:=W.of_hideAll (trk h H) e
 refine⟨e',?_⟩
 cases q:H b with
 | none=>rfl
 |
  some x=>
  have hm:b∈trk h H:=List.mem_filter.mpr ⟨Ahm.mpr (Agk e'),by simp[q]⟩
  have z:(wj h H).get? b=none:=W.hideAll_none (trk h H) hm
  rw[z] at e;cases e
def zg (g h:Heap)(L:Addr):List (Addr×Obj):=(List.range h.objs.size).filterMap λa=>if a=L∨(g.get? a).isSome=true then none else(h.get? a).map λo=>(a,o)
def rest (g h:Heap)(L d:Addr):List (Addr×Obj):=(zg g h L).filter λp=>decide (p.1≠d)
structure Mod (K:W.Frag)(mg:Str->Option Value)(base:Heap):Prop where
 kin:K.In base
 glob:base.Ns mainGlobals mg
 blt:∃mb,base.Ns builtinsNs mb/\∀x:Str,x≠"__name__"->mb x=bootBuiltins x
 nolimit:base.NoLimit
structure Cx where
 prog:Program
 w:World
 K:W.Frag
 mg:Str->Option Value
 base:Heap
 A:Around
 N:List Str
 s₀:Shared
 H₀:Hp
 env:Env
 outer:List Env
 stack:List Env
 ex:List Addr
 fn:Str->Bool
 calm:Bool
 pn:List (Addr×Obj)
 xe:Value->Shared->Prop
def frs (l:List Env):List Addr:=l.filterMap (·.frame)
abbrev Cx.fs (X:Cx):List Addr:=frs X.outer
def Vis (sc:Scope)(x:Str):Prop:=sc.names.lookup x=some .local∨sc.names.lookup x=some .cell∨sc.names.lookup x=some .free
def Loc (sc:Scope)(x:Str):Prop:=sc.names.lookup x=some .local∨sc.names.lookup x=some .cell
def Look (env:Env)(h:Heap)(m:Str->Option Value)(x:Str)(u:Value):Prop:=
 (env.kindOf x=some .local/\m x=some u)∨((env.kindOf x=some .cell∨env.kindOf x=some .free)/\∃c,env.cells.lookup x=some c/\h.IsCell c (some u))
structure Cx.Ok (X:Cx):Prop where
 mod:Mod X.K X.mg X.base
 kind:X.env.scope.kind=.function
 glob:X.env.globals=mainGlobals
 blt:X.env.builtins=builtinsNs
 above:X.s₀.heap.objs.size<=X.env.locals
 inj:∀x y c,X.env.cells.lookup x=some c->X.env.cells.lookup y=some c->x=y
 has:∀x,(X.env.kindOf x=some .cell∨X.env.kindOf x=some .free)->∃c,X.env.cells.lookup x=some c
 cab:∀x c,X.fn x=true->X.env.cells.lookup x=some c->X.s₀.heap.objs.size<=c
 hd:X.calm=true->X.A.handled=none
 frames:X.A.frames=some X.stack
 stk:X.stack=X.outer∨(X.stack=X.env::X.outer/\X.env.frame=some X.env.locals)
 exf:∀b∈X.ex,b≠X.env.locals/\∀x c,X.env.cells.lookup x=some c->c≠b
 bs:∀b o,X.base.get? b=some o->X.s₀.heap.get? b=some o/\X.H₀ b=none
 bsz:X.base.objs.size<=X.s₀.heap.objs.size
 noex:∀b o,X.base.get? b=some o->b∉X.ex
 exfs:∀b∈X.ex,b∉X.fs
 funs:X.s₀.heap.FunFrames X.base X.outer
 frf:∀b∈X.fs,X.H₀ b=none
structure Inv (X:Cx)(pins:List (Addr×Obj))(σ:List (Option V))(H:Hp)(s:Shared):Prop where
 ok:X.Ok
 os:s.os=X.s₀.os
 bare:AllBare s.gens
 base:Un X.fs X.ex X.H₀ H X.s₀.heap s.heap
 loc:∃m,s.heap.Ns X.env.locals m/\∀(i:Nat)(x:Str)(v:V),X.N[i]?=some x->σ[i]?=some (some v)->Vis X.env.scope x->∃u,RelV v u/\Look X.env s.heap m x u
 cell:∀x c,X.env.cells.lookup x=some c->∃v,s.heap.IsCell c v
 free:H X.env.locals=none
 freeC:∀x c,X.env.cells.lookup x=some c->H c=none
 pin:∀p∈X.pn++pins,s.heap.get? p.1=some p.2/\H p.1=none/\p.1≠X.env.locals/\p.1∉X.fs/\∀v,p.2.data≠ .cell v
 hok:HOk X.prog X.w H s.heap
 len:σ.length=X.N.length
section
variable {X:Cx}{pins:List (Addr×Obj)}{σ:List (Option V)}{H H':Hp}{s:Shared}{h':Heap}
theorem Cx.Ok.nofr (ok:X.Ok){b:Addr}{o:Obj}(e:X.base.get? b=some o):b∉X.fs:=λhb=>by
 have:=(ok.funs.mem hb).1
 rw[e] at this;cases this
theorem Inv.bs (I:Inv X pins σ H s):∀b o,X.base.get? b=some o->s.heap.get? b=some o/\H b=none:=λb o e=>
 ⟨I.base.keep b o (I.ok.bs b o e).1 (I.ok.bs b o e).2 (I.ok.nofr e) (I.ok.noex b o e),I.base.free b o (I.ok.bs b o e).1 (I.ok.bs b o e).2 (I.ok.noex b o e)⟩
theorem Inv.bk (I:Inv X pins σ H s):∀b o,X.base.get? b=some o->s.heap.get? b=some o:=λb o e=>(I.bs b o e).1
theorem Inv.mod (I:Inv X pins σ H s):Mod X.K X.mg X.base:=I.ok.mod
theorem Inv.kIn (I:Inv X pins σ H s):X.K.In s.heap:=I.ok.mod.kin.keeps I.bk
theorem Inv.lt (I:Inv X pins σ H s):X.env.locals<s.heap.objs.size:=let ⟨_,hn,_⟩:=I.loc;hn.lt
theorem Inv.sz (I:Inv X pins σ H s):X.s₀.heap.objs.size<=s.heap.objs.size:=Ag1 I.ok.above (Ajz I.lt)
theorem Inv.nofs (I:Inv X pins σ H s){a:Addr}(h:s.heap.objs.size<=a):a∉X.fs:=λhb=>by
 obtain⟨_,o,ho,_⟩:=I.ok.funs.mem hb
 exact absurd (Ag4 (Agk ho) (Ag1 I.sz h)) (Ahp _)
theorem Inv.cne (I:Inv X pins σ H s):∀x c,X.env.cells.lookup x=some c->c≠X.env.locals:=λx c e z=>by
 obtain⟨v,o,ho,hd⟩:=I.cell x c e
 obtain⟨m,⟨o',es,ep,ho',hd',_⟩,_⟩:=I.loc
 rw[z,ho'] at ho;cases ho;rw[hd'] at hd;cases hd
theorem Inv.funs (I:Inv X pins σ H s):s.heap.FunFrames X.base X.outer:=by
 have all:∀(l:List Env),(∀b∈frs l,b∈X.fs)->X.s₀.heap.FunFrames X.base l->s.heap.FunFrames X.base l:=by
  intro l
  induction l with
  | nil=>intro _ _;trivial
  |
   cons env r ih=>
   intro hs hl
   obtain⟨hk,⟨L,o,hf,hn,ho,hd⟩,hr⟩:=hl
   have hL:L∈X.fs:=hs L (by unfold frs;rw[Ah0,hf];exact Agj)
   obtain⟨sl,e⟩:=I.base.slot L o ho (I.ok.frf L hL) hL λz=>I.ok.exfs L z hL
   exact⟨hk,⟨L,_,hf,hn,e,hd⟩,ih (λb hb=>hs b (by unfold frs;rw[Ah0,hf];exact Agh _ hb)) hr⟩
 exact all X.outer (λ_ hb=>hb) I.ok.funs
theorem Inv.stack (I:Inv X pins σ H s):s.heap.FunFrames X.base X.stack:=by
 rcases I.ok.stk with e|⟨e,hf⟩
 · rw[e];exact I.funs
 ·
  rw[e]
  obtain⟨m,hn,_⟩:=I.loc
  refine .cons (by rw[I.ok.kind];decide) hf hn ?_ I.funs
  exact Heap.get?_none_of_le (Ag1 I.ok.bsz I.ok.above)
theorem Inv.stkSub (I:Inv X pins σ H s):∀b∈frs X.stack,b∈X.env.locals::X.fs:=λb hb=>by
 rcases I.ok.stk with e|⟨e,hf⟩
 · rw[e] at hb;exact Agh _ hb
 ·
  rw[e] at hb
  unfold frs at hb
  rw[Ah0,hf] at hb
  exact hb
theorem Inv.stkFree (I:Inv X pins σ H s):∀b∈frs X.stack,H b=none:=λb hb=>by
 rcases Agx.mp (I.stkSub b hb) with e|hb
 · rw[e];exact I.free
 ·
  obtain⟨_,o,ho,_⟩:=I.ok.funs.mem hb
  exact I.base.free b o ho (I.ok.frf b hb) λz=>I.ok.exfs b z hb
theorem Inv.step {g':Array GenState}{t':Nat}{d':Drawn}{ch:List Addr}(I:Inv X pins σ H s)
  (hch:∀b∈ch,(b∈X.ex∨X.s₀.heap.objs.size<=b)/\b≠X.env.locals/\(∀x c,X.env.cells.lookup x=some c->c≠b)/\∀p∈X.pn++pins,p.1≠b)
  (keep:∀b o,b≠X.env.locals->b∉X.fs->b∉ch->s.heap.get? b=some o->H b=none->h'.get? b=some o)
  (slot:∀b o,b≠X.env.locals->b∈X.fs->b∉ch->s.heap.get? b=some o->H b=none->∃sl,h'.get? b=some {o with slots:=sl}) (free:∀b o,b∉ch->s.heap.get? b=some o->H b=none->H' b=none)
  (there:∀b o,b∉ch->s.heap.get? b=some o->∃o',h'.get? b=some o')
  (tups:∀b xs,H b=some (.tup xs)->H' b=some (.tup xs)) (frzs:∀b o u,H b=some (.frz o u)->H' b=some (.frz o u)) (tbls:∀b ps,H b=some (.tbl ps)->∃more,H' b=some (.tbl (ps++more)))
  (ns:∀m,s.heap.Ns X.env.locals m->h'.Ns X.env.locals m) (hok:HOk X.prog X.w H' h') (hg:AllBare g'):
  Inv X pins σ H' {s with heap:=h',gens:=g',drawn:=d',toks:=t'}:=by
 have neL:∀b o,X.s₀.heap.get? b=some o->b≠X.env.locals:=λb o e=>Agv (Ag4 (Agk e) I.ok.above)
 have neC:∀b o,X.s₀.heap.get? b=some o->b∉X.ex->b∉ch:=λb o e hx hb=>by
  rcases(hch b hb).1 with z|z
  · exact hx z
  · exact absurd (Ag4 (Agk e) z) (Ahp _)
 have cellK:∀x c,X.env.cells.lookup x=some c->∀v,s.heap.IsCell c v->h'.IsCell c v:=λx c e v ⟨o,ho,hd⟩=>by
  have nch:c∉ch:=λz=>(hch c z).2.2.1 x c e rfl
  by_cases hc:c∈X.fs
  ·
   obtain⟨sl,q⟩:=slot c o (I.cne x c e) hc nch ho (I.freeC x c e)
   exact⟨_,q,hd⟩
  · exact⟨o,keep c o (I.cne x c e) hc nch ho (I.freeC x c e),hd⟩
 refine⟨I.ok,I.os,hg,⟨λb o e n hb hx=>?_,λb o e n hb hx=>?_,λb o e n hx=>?_,λb o e hx=>?_,λb xs e=>tups b xs (I.base.tups b xs e),λb o xs e=>frzs b o xs (I.base.frzs b o xs e),λb ps e=>?_⟩,?_,λx c e=>?_,?_,λx c e=>?_,λp hp=>?_,hok,I.len⟩
 · exact keep b o (neL b o e) hb (neC b o e hx) (I.base.keep b o e n hb hx) (I.base.free b o e n hx)
 ·
  obtain⟨sl,e1⟩:=I.base.slot b o e n hb hx
  obtain⟨sl',e2⟩:=slot b _ (neL b o e) hb (neC b o e hx) e1 (I.base.free b o e n hx)
  exact⟨sl',e2⟩
 ·
  obtain⟨o',e1⟩:=I.base.there b o e hx
  exact free b o' (neC b o e hx) e1 (I.base.free b o e n hx)
 ·
  obtain⟨o',e1⟩:=I.base.there b o e hx
  exact there b o' (neC b o e hx) e1
 ·
  obtain⟨m1,e1⟩:=I.base.tbls b ps e
  obtain⟨m2,e2⟩:=tbls b _ e1
  exact⟨m1++m2,by rw[e2,Array.append_assoc]⟩
 ·
  obtain⟨m,hn,hl⟩:=I.loc
  refine⟨m,ns m hn,λi x v e1 e2 e3=>?_⟩
  obtain⟨u,r,l⟩:=hl i x v e1 e2 e3
  refine⟨u,r,?_⟩
  rcases l with l|⟨k,c,e,z⟩
  · exact .inl l
  · exact .inr ⟨k,c,e,cellK x c e _ z⟩
 ·
  obtain⟨v,z⟩:=I.cell x c e
  exact⟨v,cellK x c e v z⟩
 ·
  obtain⟨m,⟨o,_,_,ho,_⟩,_⟩:=I.loc
  exact free _ o (λz=>(hch _ z).2.1 rfl) ho I.free
 ·
  obtain⟨v,o,ho,hd⟩:=I.cell x c e
  exact free c o (λz=>(hch c z).2.2.1 x c e rfl) ho (I.freeC x c e)
 ·
  obtain⟨e,n,ne,nf,d⟩:=I.pin p hp
  have nch:p.1∉ch:=λz=>(hch p.1 z).2.2.2 p hp rfl
  exact⟨keep p.1 p.2 ne nf nch e n,free p.1 p.2 nch e n,ne,nf,d⟩
theorem Inv.un {t':Nat}(I:Inv X pins σ H s)(u:Un X.fs [] H H' s.heap h')(hok:HOk X.prog X.w H' h'):Inv X pins σ H' {s with heap:=h',toks:=t'}:=by
 obtain⟨m,⟨o,es,ep,ho,r⟩,_⟩:=id I.loc
 obtain⟨sl,hL⟩:=u.any ho I.free (by simp)
 exact I.step (g':=s.gens) (d':=s.drawn) (ch:=[]) (λ_ z=>nomatch z) (λb o _ hb _ e n=>u.keep b o e n hb (by simp)) (λb o _ hb _ e n=>u.slot b o e n hb (by simp)) (λb o _ e n=>u.free b o e n (by simp)) (λb o _ e=>u.there b o e (by simp)) u.tups u.frzs u.tbls (λm' hm=>by
  obtain⟨o',es',ep',ho',r'⟩:=hm
  rw[ho] at ho';cases ho'
  exact⟨_,es',ep',hL,r'⟩) hok I.bare
theorem Inv.call {g':Array GenState}{t':Nat}{d':Drawn}{ch:List Addr}(I:Inv X pins σ H s)(u:Un (frs X.stack) ch H H' s.heap h')(hok:HOk X.prog X.w H' h')(hg:AllBare g')
  (hch:∀b∈ch,(b∈X.ex∨X.s₀.heap.objs.size<=b)/\b≠X.env.locals/\(∀x c,X.env.cells.lookup x=some c->c≠b)/\∀p∈X.pn++pins,p.1≠b):
  Inv X pins σ H' {s with heap:=h',gens:=g',drawn:=d',toks:=t'}:=by
 obtain⟨m,⟨o,es,ep,ho,r⟩,_⟩:=id I.loc
 obtain⟨sl,hL⟩:=u.any ho I.free λz=>(hch _ z).2.1 rfl
 exact I.step (ch:=ch) hch (λb o hL hb hc e n=>u.keep b o e n (λz=>(Agx.mp (I.stkSub b z)).elim hL hb) hc) (λb o _ _ hc e n=>u.any e n hc) (λb o hc e n=>u.free b o e n hc) (λb o hc e=>u.there b o e hc) u.tups u.frzs u.tbls (λm' hm=>by
  obtain⟨o',es',ep',ho',r'⟩:=hm
  rw[ho] at ho';cases ho'
  exact⟨_,es',ep',hL,r'⟩) hok hg
theorem Inv.turned {t':Nat}{it:Addr}(I:Inv X pins σ H s)(k:∀b o,b≠it->s.heap.get? b=some o->h'.get? b=some o)(hn:H it=none)(hL:it≠X.env.locals)
  (h1:it∈X.ex∨X.s₀.heap.objs.size<=it) (h2:∀x c,X.env.cells.lookup x=some c->c≠it) (h3:∀p∈X.pn++pins,p.1≠it):Inv X pins σ H {s with heap:=h',toks:=t'}:=by
 have nit:∀b u,H b=some u->b≠it:=λb u e z=>by rw[z,hn] at e;cases e
 refine I.step (g':=s.gens) (d':=s.drawn) (ch:=[it]) (λb hb=>?_) (λb o _ _ hc e _=>k b o (λz=>hc (by simp[z])) e) (λb o _ _ hc e _=>⟨o.slots,k b o (λz=>hc (by simp[z])) e⟩) (λ_ _ _ _ n=>n)
  (λb o hc e=>⟨o,k b o (λz=>hc (by simp[z])) e⟩) (λ_ _ e=>e) (λ_ _ _ e=>e) (λb ps e=>⟨#[],by rw[e];simp⟩) (λm hm=>?_) (λb u e=>?_) I.bare
 ·
  have e:b=it:=by simpa using hb
  subst e
  exact⟨h1,hL,h2,h3⟩
 ·
  obtain⟨o,es,ep,ho,r⟩:=hm
  exact⟨o,es,ep,k _ o (Aj3 hL) ho,r⟩
 ·
  refine(I.hok b u e).stay (λc v hc q=>k c v ?_ q) (λ_ q=>q) λ_ _ q=>q
  rcases hc with z|z
  · rw[z];exact nit b u e
  · exact nit c _ z
theorem Inv.tok (I:Inv X pins σ H s)(t:Nat):Inv X pins σ H {s with toks:=t}:=I.un (h':=s.heap) (t':=t) Un.refl I.hok
theorem Inv.kept {t':Nat}(I:Inv X pins σ H s)(k:∀b u,s.heap.get? b=some u->h'.get? b=some u):Inv X pins σ H {s with heap:=h',toks:=t'}:=I.un (Un.kept k) (I.hok.kept k)
theorem Inv.laid {a:Addr}{o:HO}{t':Nat}(I:Inv X pins σ H s)(k:∀b u,s.heap.get? b=some u->h'.get? b=some u)(hp:s.heap.objs.size<=a)(new:ObjOk X.prog X.w (upd H a o) h' a o):
 Inv X pins σ (upd H a o) {s with heap:=h',toks:=t'}:=I.un (Un.laid k hp (I.hok.fresh hp)) (I.hok.laid k hp new)
theorem Inv.write {x e:Addr}{o:HO}{t':Nat}(I:Inv X pins σ H s)(mu:Mut (H x))(he:e=x∨H e=some (.own x))(k:∀b u,b≠e->s.heap.get? b=some u->h'.get? b=some u)(heo:∃u,h'.get? e=some u)
 (new:ObjOk X.prog X.w (upd H x o) h' x o):Inv X pins σ (upd H x o) {s with heap:=h',toks:=t'}:=I.un (Un.write mu he k heo) (I.hok.write mu he k heo new)
theorem Inv.pins_of {pins':List (Addr×Obj)}(I:Inv X pins σ H s)(h:∀p∈pins',s.heap.get? p.1=some p.2/\H p.1=none/\p.1≠X.env.locals/\p.1∉X.fs/\∀v,p.2.data≠ .cell v):Inv X pins' σ H s:=
 ⟨I.ok,I.os,I.bare,I.base,I.loc,I.cell,I.free,I.freeC,λp hp=>(Ahf.mp hp).elim (λz=>I.pin p (Aj6 _ z)) (h p),I.hok,I.len⟩
theorem X6 {N:List Str}(hN:N.Nodup){i j:Nat}{x:Str}(a:N[i]?=some x)(b:N[j]?=some x):i=j:=by
 obtain⟨h1,e1⟩:=Agl.mp a
 obtain⟨h2,e2⟩:=Agl.mp b
 exact(List.getElem_inj hN).mp (e1.trans e2.symm)
theorem aq {M:Model}{A:Around}{E:Value->Shared->Prop}{i:Nat}{x:Str}{v:V}{u:Value}{Q:Unit->Shared->Prop}(I:Inv X pins σ H s)(hN:X.N.Nodup)(hi:X.N[i]?=some x)(hx:Loc X.env.scope x)(r:RelV v u)
  (h:∀s',Inv X pins (σ.set i (some v)) H s'->(∃a,Heap.SameBut a s.heap s'.heap/\(a=X.env.locals∨X.env.cells.lookup x=some a))->Q () s') (hf:X.fn x=true∨X.env.scope.names.lookup x=some .local:=by first|exact .inl rfl|exact .inr rfl|assumption):wpAny M A (storeName X.env x u) Q E s:=by
 obtain⟨m,hn,hl⟩:=id I.loc
 have hcls:(X.env.scope.kind== .class||(X.env.scope.kind== .module&&X.env.locals != X.env.globals))=false:=by rw[I.ok.kind];rfl
 have hiσ:i<σ.length:=by rw[I.len];exact(Agl.mp hi).1
 have cne:=I.cne
 have tracked:∀{a:Addr}{h':Heap},(∃o,s.heap.get? a=some o/\H a=none)->Heap.SameBut a s.heap h'->HOk X.prog X.w H h':=λ{a h'}ha hs b ob e=>by
  obtain⟨_,_,hfree⟩:=ha
  refine(I.hok b ob e).stay (λc w' hc q=>(hs.2 c ?_).trans q) (λ_ q=>q) λ_ _ q=>q
  rintro rfl
  rcases hc with rfl|hc
  · rw[hfree] at e;cases e
  · rw[hfree] at hc;cases hc
 rcases hx with hk|hk
 ·
  refine wpAny_storeName_local hk hn (λh' hn' hs=>?_) hcls
  obtain⟨oL,_,_,hoL,_⟩:=id hn
  refine h _ ⟨I.ok,I.os,I.bare,⟨λb o e n hb hx=>?_,λb o e n hb hx=>?_,I.base.free,λb o e hx=>?_,I.base.tups,I.base.frzs,I.base.tbls⟩,⟨_,hn',λj y v' e1 e2 e3=>?_⟩,λy c e=>?_,I.free,I.freeC,λp hp=>?_,tracked ⟨oL,hoL,I.free⟩ hs,by simpa using I.len⟩ ⟨_,hs,.inl rfl⟩
  · exact(hs.2 b (Agv (Ag4 (Agk e) I.ok.above))).trans (I.base.keep b o e n hb hx)
  ·
   obtain⟨sl,e1⟩:=I.base.slot b o e n hb hx
   exact⟨sl,(hs.2 b (Agv (Ag4 (Agk e) I.ok.above))).trans e1⟩
  ·
   obtain⟨o',e1⟩:=I.base.there b o e hx
   exact⟨o',(hs.2 b (Agv (Ag4 (Agk e) I.ok.above))).trans e1⟩
  ·
   by_cases hj:j=i
   ·
    subst hj
    rw[hi] at e1;cases e1
    rw[Ak4 hiσ] at e2
    cases e2
    exact⟨u,r,.inl ⟨hk,by simp⟩⟩
   ·
    rw[Ale (Aj3 hj)] at e2
    obtain⟨u',r',q⟩:=hl j y v' e1 e2 e3
    refine⟨u',r',?_⟩
    rcases q with⟨k,e⟩|⟨k,c,e,z⟩
    ·
     refine .inl ⟨k,?_⟩
     have:y≠x:=λe=>hj (X6 hN e1 (e▸hi))
     simp[this,e]
    · exact .inr ⟨k,c,e,z.sameBut hs (cne y c e)⟩
  ·
   obtain⟨w',z⟩:=I.cell y c e
   exact⟨w',z.sameBut hs (cne y c e)⟩
  ·
   obtain⟨e,n,ne,nf,d⟩:=I.pin p hp
   exact⟨(hs.2 p.1 ne).trans e,n,ne,nf,d⟩
 ·
  have hfn:X.fn x=true:=by
   rcases hf with z|z
   · exact z
   · rw[z] at hk;cases hk
  obtain⟨c,hc⟩:=I.ok.has x (.inl hk)
  obtain⟨w',z⟩:=I.cell x c hc
  refine wpAny_storeName_cell I.ok.kind hk hc z (λh' hc' hs=>?_)
  obtain⟨oc,hoc,hocd⟩:=id z
  refine h {s with heap:=h'} ⟨I.ok,I.os,I.bare,⟨λb o e n hb hx=>?_,λb o e n hb hx=>?_,I.base.free,λb o e hx=>?_,I.base.tups,I.base.frzs,I.base.tbls⟩,⟨m,hn.sameBut hs (Aj3 (cne x c hc)),λj y v' e1 e2 e3=>?_⟩,λy c' e=>?_,I.free,I.freeC,λp hp=>?_,tracked ⟨oc,hoc,I.freeC x c hc⟩ hs,by simpa using I.len⟩ ⟨c,hs,.inr hc⟩
  · exact(hs.2 b (Agv (Ag4 (Agk e) (I.ok.cab x c hfn hc)))).trans (I.base.keep b o e n hb hx)
  ·
   obtain⟨sl,e1⟩:=I.base.slot b o e n hb hx
   exact⟨sl,(hs.2 b (Agv (Ag4 (Agk e) (I.ok.cab x c hfn hc)))).trans e1⟩
  ·
   obtain⟨o',e1⟩:=I.base.there b o e hx
   exact⟨o',(hs.2 b (Agv (Ag4 (Agk e) (I.ok.cab x c hfn hc)))).trans e1⟩
  ·
   by_cases hj:j=i
   ·
    subst hj
    rw[hi] at e1;cases e1
    rw[Ak4 hiσ] at e2
    cases e2
    exact⟨u,r,.inr ⟨.inl hk,c,hc,hc'⟩⟩
   ·
    rw[Ale (Aj3 hj)] at e2
    obtain⟨u',r',q⟩:=hl j y v' e1 e2 e3
    refine⟨u',r',?_⟩
    rcases q with q|⟨k,c',e,z'⟩
    · exact .inl q
    ·
     refine .inr ⟨k,c',e,z'.sameBut hs ?_⟩
     rintro rfl
     exact hj (X6 hN e1 (I.ok.inj _ _ _ e hc▸hi))
  ·
   by_cases hcc:c'=c
   · subst hcc;exact⟨_,hc'⟩
   ·
    obtain⟨w2,z2⟩:=I.cell y c' e
    exact⟨w2,z2.sameBut hs hcc⟩
  ·
   obtain⟨e,n,ne,nf,d⟩:=I.pin p hp
   refine⟨(hs.2 p.1 ?_).trans e,n,ne,nf,d⟩
   intro q
   rw[q,hoc] at e
   have q':oc=p.2:=Agn e
   exact d w' (by rw[←q'];exact hocd)
theorem X5 {M:Model}{A:Around}{E:Value->Shared->Prop}{i:Nat}{x:Str}{v:V}{u:Value}{Q:Unit->Shared->Prop}(I:Inv X pins σ H s)(hN:X.N.Nodup)(hi:X.N[i]?=some x)(hx:Loc X.env.scope x)(r:RelV v u)
  (h:∀s',Inv X pins (σ.set i (some v)) H s'->Q () s') (hf:X.fn x=true∨X.env.scope.names.lookup x=some .local:=by first|exact .inl rfl|exact .inr rfl|assumption):wpAny M A (storeName X.env x u) Q E s:=
 aq I hN hi hx r (λs' I' _=>h s' I') hf
theorem Inv.call' {s':Shared}{ch:List Addr}(I:Inv X pins σ H s)(ho:s'.os=s.os)(u:Un (frs X.stack) ch H H' s.heap s'.heap)(hok:HOk X.prog X.w H' s'.heap)(hg:AllBare s'.gens)
  (hch:∀b∈ch,(b∈X.ex∨X.s₀.heap.objs.size<=b)/\b≠X.env.locals/\(∀x c,X.env.cells.lookup x=some c->c≠b)/\∀p∈X.pn++pins,p.1≠b):Inv X pins σ H' s':=by
 obtain⟨h',g',d',t',o'⟩:=s'
 have e:o'=s.os:=ho
 subst e
 exact I.call (g':=g') (t':=t') (d':=d') u hok hg hch
end
abbrev XK:=Value->Option Addr->Hp->Prop
abbrev St:=List (Option V)
abbrev VK:=V->Hp->Prop
abbrev TE:=St->Hp->VK->Prop
abbrev TT:=St->Hp->(Bool->Hp->Prop)->Prop
abbrev TA:=St->Hp->(List V->Hp->Prop)->Prop
structure Ends where
 nx:St->Hp->Prop
 rt:St->VK
 bk:St->Hp->Prop:=λ_ _=>False
 ct:St->Hp->Prop:=λ_ _=>False
abbrev TS:=Ends->St->Hp->Prop
def EP (X:Cx)(pins:List (Addr×Obj))(σ:St)(Q:VK)(u:Value)(s':Shared):Prop:=∃v H',Inv X pins σ H' s'/\RelV v u/\Q v H'
def TP (X:Cx)(pins:List (Addr×Obj))(σ:St)(Q:Bool->Hp->Prop)(b:Bool)(s':Shared):Prop:=∃H',Inv X pins σ H' s'/\Q b H'
def AP (X:Cx)(pins:List (Addr×Obj))(σ:St)(Q:List V->Hp->Prop)(us:List Value)(s':Shared):Prop:=∃vs H',Inv X pins σ H' s'/\Vals vs us/\Q vs H'
def SP (X:Cx)(pins:List (Addr×Obj))(D:Ends)(f:Flow)(s':Shared):Prop:=
 match f with
 | .next=>∃σ' H',Inv X pins σ' H' s'/\D.nx σ' H'
 | .brk=>∃σ' H',Inv X pins σ' H' s'/\D.bk σ' H'
 | .cont=>∃σ' H',Inv X pins σ' H' s'/\D.ct σ' H'
 | .ret u=>∃v σ' H',Inv X pins σ' H' s'/\RelV v u/\D.rt σ' v H'
def PE (X:Cx)(e:Expr)(t:TE):Prop:=
 ∀(pins:List (Addr×Obj))(s:Shared)(σ:St)(H:Hp)(Q:VK),Inv X pins σ H s->t σ H Q->wpAny (model X.prog X.w) X.A (eval e X.env) (EP X pins σ Q) X.xe s
def PT (X:Cx)(e:Expr)(t:TT):Prop:=
 ∀(pins:List (Addr×Obj))(s:Shared)(σ:St)(H:Hp)(Q:Bool->Hp->Prop),Inv X pins σ H s->t σ H Q->wpAny (model X.prog X.w) X.A (isTrue e X.env (eval e X.env)) (TP X pins σ Q) X.xe s
def PW (X:Cx)(e:Expr)(t:TT):Prop:=
 ∀(whole:Sem Value)(pins:List (Addr×Obj))(s:Shared)(σ:St)(H:Hp)(Q:Bool->Hp->Prop),Inv X pins σ H s->t σ H Q->wpAny (model X.prog X.w) X.A (isTrue e X.env whole) (TP X pins σ Q) X.xe s
theorem PW.pt {X:Cx}{e:Expr}{t:TT}(h:PW X e t):PT X e t:=h _
def PA (X:Cx)(es:List Expr)(t:TA):Prop:=
 ∀(pos:Pos)(pins:List (Addr×Obj))(s:Shared)(σ:St)(H:Hp)(Q:List V->Hp->Prop),Inv X pins σ H s->t σ H Q->wpAny (model X.prog X.w) X.A (spliced (backTo pos (starEach es X.env))) (AP X pins σ Q) X.xe s
def PS (X:Cx)(st:Stmt)(t:TS):Prop:=
 ∀(pins:List (Addr×Obj))(s:Shared)(σ:St)(H:Hp)(D:Ends),Inv X pins σ H s->t D σ H->wpAny (model X.prog X.w) X.A (exec st X.env) (SP X pins D) X.xe s
def PSs (X:Cx)(st:List Stmt)(t:TS):Prop:=
 ∀(pins:List (Addr×Obj))(s:Shared)(σ:St)(H:Hp)(D:Ends),Inv X pins σ H s->t D σ H->wpAny (model X.prog X.w) X.A (execs st X.env) (SP X pins D) X.xe s
theorem thn {α:Type}{t:Sem α}{Q Q':α->Shared->Prop}{M:Model}{A:Around}{E:Value->Shared->Prop}{s:Shared}(h:wpAny M A t Q E s)(hQ:∀a s,Q a s->Q' a s):wpAny M A t Q' E s:=Aid h hQ λ_ _ x=>x
section
variable {X:Cx}
def Ae7 (i:Nat):TE:=λσ H Q=>∃v,σ[i]?=some (some v)/\Q v H
def tC (v:V):TE:=λ_ H Q=>Q v H
theorem Abs {i:Nat}{x:Str}{pos:Pos}(hN:X.N[i]?=some x)(hv:Vis X.env.scope x)(hd:(x==("__debug__":Str))=false:=by decide)(hcd:(x==("__classdict__":Str))=false:=by decide):PE X (.Name x pos) (Ae7 i):=by
 intro pins s σ H Q I h
 obtain⟨v,e,h⟩:=h
 obtain⟨m,hn,hl⟩:=I.loc
 obtain⟨u,r,l⟩:=hl i x v hN e hv
 have fin:EP X pins σ Q u s:=⟨v,H,I,r,h⟩
 rcases l with⟨hk,hm⟩|⟨hk,c,hc,hcell⟩
 · exact wpAny_Name (wpAny_loadName_local I.ok.kind hk hn hm fin) hd
 ·
  rcases hk with hk|hk
  · exact wpAny_Name (wpAny_loadName_cell I.ok.kind hk hc hcell fin) hd
  · exact wpAny_Name (wpAny_loadName_free I.ok.kind hk hc hcell fin hcd) hd
theorem Aj {i j pos}:PE X (.Constant (.int i) j pos) (tC (.int i)):=λ_ _ _ H _ I h=>wpAny_Constant_int ⟨.int i,H,I.tok _,⟨_,rfl⟩,h⟩
theorem Z3 {b j pos}:PE X (.Constant (.bool b) j pos) (tC (.bl b)):=λ_ _ _ H _ I h=>Constant_bool ⟨.bl b,H,I,rfl,h⟩
theorem Ra {j pos}:PE X (.Constant .none j pos) (tC .non):=λ_ _ _ H _ I h=>Constant_none ⟨.non,H,I,rfl,h⟩
theorem Ce {x j pos}:PE X (.Constant (.str x) j pos) (tC (.str x)):=λ_ _ _ H _ I h=>Calls.Constant_str ⟨.str x,H,I.tok _,⟨_,rfl⟩,h⟩
def Gl (X:Cx)(x:Str):Prop:=X.env.kindOf x=some .globalImplicit
theorem Tb {E:Value->Shared->Prop}{pins:List (Addr×Obj)}{s:Shared}{σ:St}{H:Hp}{x:Str}{u:Value}{pos:Pos}{Q:Value->Shared->Prop}(I:Inv X pins σ H s)(hg:Gl X x)(hm:X.mg x=some u)(h:Q u s)
  (hd:(x==("__debug__":Str))=false:=by decide):wpAny (model X.prog X.w) X.A (eval (.Name x pos) X.env) Q E s:=
 Calls.Name_function_global I.ok.kind hg (Calls.loadGlobal_global (by rw[I.ok.glob];exact I.mod.glob.keeps I.bk) hm h) hd
theorem ah {E:Value->Shared->Prop}{pins:List (Addr×Obj)}{s:Shared}{σ:St}{H:Hp}{x:Str}{u:Value}{pos:Pos}{Q:Value->Shared->Prop}(I:Inv X pins σ H s)(hg:Gl X x)(hm:X.mg x=none)(hv:bootBuiltins x=some u)(h:Q u s)
  (hn:x≠"__name__":=by decide) (hd:(x==("__debug__":Str))=false:=by decide):wpAny (model X.prog X.w) X.A (eval (.Name x pos) X.env) Q E s:=by
 obtain⟨mb,h1,h2⟩:=I.mod.blt
 exact Calls.Name_function_global I.ok.kind hg (Calls.loadGlobal_builtin (by rw[I.ok.glob];exact I.mod.glob.keeps I.bk) hm (by rw[I.ok.blt];exact h1.keeps I.bk) ((h2 x hn).trans hv) h) hd
theorem fo {x:Str}{v:V}{u:Value}{pos:Pos}(hg:Gl X x)(hm:X.mg x=some u)(r:RelV v u)(hd:(x==("__debug__":Str))=false:=by decide):PE X (.Name x pos) (tC v):=
 λ_ _ _ H _ I h=>Tb I hg hm ⟨v,H,I,r,h⟩ hd
theorem zi {x:Str}{v:V}{u:Value}{pos:Pos}(hg:Gl X x)(hm:X.mg x=none)(hv:bootBuiltins x=some u)(r:RelV v u)(hn:x≠"__name__":=by decide)(hd:(x==("__debug__":Str))=false:=by decide):PE X (.Name x pos) (tC v):=
 λ_ _ _ H _ I h=>ah I hg hm hv ⟨v,H,I,r,h⟩ hn hd
variable {a b:Expr}{ta tb:TE}{pos:Pos}
def PC (X:Cx)(op:CmpOp)(a b:Expr)(t:TE):Prop:=
 ∀(pins:List (Addr×Obj))(s:Shared)(σ:St)(H:Hp)(Q:VK),Inv X pins σ H s->t σ H Q->
  wpAny (model X.prog X.w) X.A (eval a X.env) (λv s₁=>wpAny (model X.prog X.w) X.A (eval b X.env) (λu s₂=>wpAny (model X.prog X.w) X.A (compareOp op v u) (EP X pins σ Q) X.xe s₂) X.xe s₁) X.xe s
def tB (t:TE):TT:=λσ H Q=>t σ H λx H1=>∃c,x=.bl c/\Q c H1
theorem Abt {op:CmpOp}{t:TE}(h:PC X op a b t)(h1:behindInMarks op b=false:=by first|exact nobehind _ (by decide) (by decide)|rfl):PE X (.Compare a [op] [b] pos) t:=λpins s σ H Q I hw=>wpAny_Compare1 (h pins s σ H Q I hw) h1
theorem Xu {op:CmpOp}{t:TE}(h:PC X op a b t)(h1:behindInMarks op b=false:=by first|exact nobehind _ (by decide) (by decide)|rfl):PT X (.Compare a [op] [b] pos) (tB t):=by
 intro pins s σ H Q I hw
 refine wpAny_isTrue_Compare1 (thn (h pins s σ H _ I hw) λv s1 h1=>thn h1 λu s2 h2=>thn h2 λc s3 ⟨x,H1,I1,r1,q1⟩=>?_) h1
 obtain⟨d,rfl,q⟩:=q1
 cases r1
 exact Ahx ⟨H1,I1,q⟩
theorem L1 {e:Expr}{t:TE}(h:PE X e t)(he:∀whole,isTrue e X.env whole=(do let v ←whole;standAt e.pos;holding [v] (truthy v)):=by intro _;rfl):PT X e (tB t):=by
 intro pins s σ H Q I hw
 refine isTrue_plain (thn (h pins s σ H _ I hw) λv s1 ⟨x,H1,I1,r1,q1⟩=>?_) (he _)
 obtain⟨d,rfl,q⟩:=q1
 cases r1
 exact Ahx ⟨H1,I1,q⟩
variable {tA tB':TT}{rest:List Expr}
def Af4 (t u:TT):TT:=λσ H Q=>t σ H λc H1=>if c=true then u σ H1 Q else Q false H1
def tOr (t u:TT):TT:=λσ H Q=>t σ H λc H1=>if c=true then Q true H1 else u σ H1 Q
def Af6 (t:TT):TT:=λσ H Q=>t σ H λc H1=>Q (!c) H1
theorem Ox (ha:PT X a tA):PW X (.BoolOp .And [a] pos) tA:=by
 intro wh pins s σ H Q I h
 refine isTrue_and (thn (ha pins s σ H Q I h) λc s1 e=>?_)
 cases c with
 | true=>exact isTrue_and_nil e
 | false=>exact e
theorem Xp (ha:PT X a tA):PW X (.BoolOp .Or [a] pos) tA:=by
 intro wh pins s σ H Q I h
 refine isTrue_or (thn (ha pins s σ H Q I h) λc s1 e=>?_)
 cases c with
 | false=>exact isTrue_or_nil e
 | true=>exact e
theorem Ts (ha:PT X a tA)(hb:PW X (.BoolOp .And (b::rest) pos) tB'):PW X (.BoolOp .And (a::b::rest) pos) (Af4 tA tB'):=by
 intro wh pins s σ H Q I h
 refine isTrue_and (thn (ha pins s σ H _ I h) λc s1 hz=>?_)
 obtain⟨H1,I1,q1⟩:=hz
 cases c with
 | true=>exact hb wh pins s1 σ H1 Q I1 q1
 | false=>exact⟨H1,I1,q1⟩
theorem ke (ha:PT X a tA)(hb:PW X (.BoolOp .Or (b::rest) pos) tB'):PW X (.BoolOp .Or (a::b::rest) pos) (tOr tA tB'):=by
 intro wh pins s σ H Q I h
 refine isTrue_or (thn (ha pins s σ H _ I h) λc s1 hz=>?_)
 obtain⟨H1,I1,q1⟩:=hz
 cases c with
 | true=>exact⟨H1,I1,q1⟩
 | false=>exact hb wh pins s1 σ H1 Q I1 q1
theorem N8 (ha:PT X a tA):PT X (.UnaryOp .Not a pos) (Af6 tA):=by
 intro pins s σ H Q I h
 exact isTrue_not (ha pins s σ H (λc H1=>Q (!c) H1) I h)
def Aef (ta tb:TE):TE:=λσ H Q=>ta σ H λx H1=>∃c,x=.bl c/\if c=true then tb σ H1 Q else Q (.bl false) H1
def Afi (ta tb:TE):TE:=λσ H Q=>ta σ H λx H1=>∃c,x=.bl c/\if c=true then Q (.bl true) H1 else tb σ H1 Q
theorem X0 {op}{t:TE}(h:PE X a t):PE X (.BoolOp op [a] pos) t:=λpins s σ H Q I hw=>BoolOp_one (h pins s σ H Q I hw)
theorem Xv (ha:PE X a ta)(hb:PE X (.BoolOp .And (b::rest) pos) tb):PE X (.BoolOp .And (a::b::rest) pos) (Aef ta tb):=by
 intro pins s σ H Q I h
 refine BoolOp_and (thn (ha pins s σ H _ I h) λv s1 hz=>?_)
 obtain⟨x,H1,I1,r1,q1⟩:=hz
 obtain⟨c,rfl,q1⟩:=q1
 cases r1
 refine Ahx ?_
 cases c with
 | true=>exact hb pins s1 σ H1 Q I1 q1
 | false=>exact⟨.bl false,H1,I1,rfl,q1⟩
theorem Aei (ha:PE X a ta)(hb:PE X (.BoolOp .Or (b::rest) pos) tb):PE X (.BoolOp .Or (a::b::rest) pos) (Afi ta tb):=by
 intro pins s σ H Q I h
 refine BoolOp_or (thn (ha pins s σ H _ I h) λv s1 hz=>?_)
 obtain⟨x,H1,I1,r1,q1⟩:=hz
 obtain⟨c,rfl,q1⟩:=q1
 cases r1
 refine Ahx ?_
 cases c with
 | false=>exact hb pins s1 σ H1 Q I1 q1
 | true=>exact⟨.bl true,H1,I1,rfl,q1⟩
def tIf (t:TT)(ta tb:TE):TE:=λσ H Q=>t σ H λc H1=>if c=true then ta σ H1 Q else tb σ H1 Q
theorem D8 {c:Expr}(hc:PT X c tA)(ha:PE X a ta)(hb:PE X b tb):PE X (.IfExp c a b pos) (tIf tA ta tb):=by
 intro pins s σ H Q I h
 refine wpAny_IfExp (thn (hc pins s σ H _ I h) λd s1 hz=>?_)
 obtain⟨H1,I1,q1⟩:=hz
 cases d with
 | true=>exact ha pins s1 σ H1 Q I1 q1
 | false=>exact hb pins s1 σ H1 Q I1 q1
end
def SqL (K:W.Frag)(H:Hp)(a:Addr)(xs:List V):Prop:=
 Rd H a (.lst xs)∨
  ∃(o:Obj)(its:Array Value)(n:Nat),K.lookup a=some o/\o.cls=.type "list"/\o.dict=none/\o.data=.seq its n/\its.size<=sizeLine/\Vals xs its.toList
def SqT (K:W.Frag)(H:Hp)(a:Addr)(xs:List V):Prop:=
 Rd H a (.tup xs)∨
  ∃(o:Obj)(its:Array Value)(n:Nat),K.lookup a=some o/\o.cls=.type "tuple"/\o.data=.seq its n/\its.size<=sizeLine/\Vals xs its.toList
def Afv:Value->Option V
 | .none=>some .non
 | .bool b=>some (.bl b)
 | .int i _=>some (.int i)
 | .str x _=>some (.str x)
 | .bytes b _=>some (.byt b)
 | .float b _=>some (.flt b)
 | .ref a=>some (.ref a)
 | .type n=>some (.ty n)
 | _=>none
theorem RelV.abs {x:V}{u:Value}(r:RelV x u):Afv u=some x:=by
 cases x with
 | non=>cases r;rfl
 | bl _=>cases r;rfl
 | int _=>obtain⟨t,rfl⟩:=r;rfl
 | str _=>obtain⟨t,rfl⟩:=r;rfl
 | byt _=>obtain⟨t,rfl⟩:=r;rfl
 | flt _=>obtain⟨t,rfl⟩:=r;rfl
 | ref _=>cases r;rfl
 | ty _=>cases r;rfl
theorem RelV.inj {x y:V}{u:Value}(r:RelV x u)(q:RelV y u):x=y:=Agn (r.abs.symm.trans q.abs)
theorem Vals.inj:∀{xs ys:List V}{us:List Value},Vals xs us->Vals ys us->xs=ys
 | _,_,_,.nil,.nil=>rfl
 | _,_,_,.cons r t,.cons r' t'=>by rw[r.inj r',Vals.inj t t']
section
variable {X:Cx}{pins:List (Addr×Obj)}{σ:St}{H:Hp}{s:Shared}{a:Addr}{xs ys:List V}
theorem SqL.of {K:W.Frag}(h:H a=some (.lst xs)):SqL K H a xs:=.inl (.inl h)
theorem SqT.of {K:W.Frag}(h:H a=some (.tup xs)):SqT K H a xs:=.inl (.inl h)
theorem Inv.list (I:Inv X pins σ H s)(h:SqL X.K H a xs):∃its:List Value,Vals xs its/\PlainL s.heap a its.toArray/\xs.length<=sizeLine:=by
 rcases h with h|⟨o,its,n,hk,hc,hd,hs,hz,r⟩
 ·
  obtain⟨z,its,n,r,e⟩:=h.ok I.hok
  exact⟨its,r,⟨_,n,e,rfl,rfl,rfl⟩,z⟩
 ·
  refine⟨its.toList,r,⟨o,n,I.kIn a o hk,hc,hd,by simpa using hs⟩,?_⟩
  have e:=r.length
  simp only[Agg] at e
  lia
theorem Inv.tuple (I:Inv X pins σ H s)(h:SqT X.K H a xs):∃its:List Value,Vals xs its/\IsTup s.heap a its.toArray/\xs.length<=sizeLine:=by
 rcases h with h|⟨o,its,n,hk,hc,hs,hz,r⟩
 ·
  obtain⟨z,its,r,p⟩:=h.ok I.hok
  exact⟨its,r,p,z⟩
 ·
  refine⟨its.toList,r,⟨o,I.kIn a o hk,hc,n,by simpa using hs⟩,?_⟩
  have e:=r.length
  simp only[Agg] at e
  lia
theorem Inv.list_inj (I:Inv X pins σ H s)(h:SqL X.K H a xs)(h':SqL X.K H a ys):xs=ys:=by
 obtain⟨its,r,⟨o,n,e,_,_,d⟩,_⟩:=I.list h
 obtain⟨its',r',⟨o',n',e',_,_,d'⟩,_⟩:=I.list h'
 rw[e] at e';cases e'
 rw[d] at d'
 injection d' with d1 _
 have:its=its':=by simpa using Ahb Array.toList d1
 subst this
 exact r.inj r'
theorem Inv.tuple_inj (I:Inv X pins σ H s)(h:SqT X.K H a xs)(h':SqT X.K H a ys):xs=ys:=by
 obtain⟨its,r,⟨o,e,_,n,d⟩,_⟩:=I.tuple h
 obtain⟨its',r',⟨o',e',_,n',d'⟩,_⟩:=I.tuple h'
 rw[e] at e';cases e'
 rw[d] at d'
 injection d' with d1 _
 have:its=its':=by simpa using Ahb Array.toList d1
 subst this
 exact r.inj r'
end
abbrev Cx.wish (X:Cx)(E:Value->Shared->Prop):Cx:={X with xe:=E}
abbrev Cx.nox (X:Cx):Cx:=X.wish λ_ _=>False
theorem Cx.Ok.wish {X:Cx}(ok:X.Ok)(E:Value->Shared->Prop):(X.wish E).Ok:=
 ⟨ok.mod,ok.kind,ok.glob,ok.blt,ok.above,ok.inj,ok.has,ok.cab,ok.hd,ok.frames,ok.stk,ok.exf,ok.bs,ok.bsz,ok.noex,ok.exfs,ok.funs,ok.frf⟩
theorem Cx.Ok.unwish {X:Cx}{E:Value->Shared->Prop}(ok:(X.wish E).Ok):X.Ok:=
 ⟨ok.mod,ok.kind,ok.glob,ok.blt,ok.above,ok.inj,ok.has,ok.cab,ok.hd,ok.frames,ok.stk,ok.exf,ok.bs,ok.bsz,ok.noex,ok.exfs,ok.funs,ok.frf⟩
section
variable {X:Cx}{pins:List (Addr×Obj)}{σ:St}{H:Hp}{s:Shared}{E:Value->Shared->Prop}
theorem Inv.wish (I:Inv X pins σ H s)(E:Value->Shared->Prop):Inv (X.wish E) pins σ H s:=⟨I.ok.wish E,I.os,I.bare,I.base,I.loc,I.cell,I.free,I.freeC,I.pin,I.hok,I.len⟩
theorem Inv.unwish (I:Inv (X.wish E) pins σ H s):Inv X pins σ H s:=⟨I.ok.unwish,I.os,I.bare,I.base,I.loc,I.cell,I.free,I.freeC,I.pin,I.hok,I.len⟩
theorem SP.unwish {D:Ends}{f:Flow}{s':Shared}(h:SP (X.wish E) pins D f s'):SP X pins D f s':=by
 cases f with
 | next=>obtain⟨σ',H',I,q⟩:=h;exact⟨σ',H',I.unwish,q⟩
 | brk=>obtain⟨σ',H',I,q⟩:=h;exact⟨σ',H',I.unwish,q⟩
 | cont=>obtain⟨σ',H',I,q⟩:=h;exact⟨σ',H',I.unwish,q⟩
 | ret u=>obtain⟨v,σ',H',I,r,q⟩:=h;exact⟨v,σ',H',I.unwish,r,q⟩
theorem PSs.nox {st:List Stmt}{t:TS}(h:PSs X.nox st t):PSs X st t:=λpins s σ H D I hw=>
 Aid (h pins s σ H D (I.wish _) hw) (λ_ _ q=>q.unwish) λ_ _ z=>False.elim z
end
section
variable {X:Cx}{st:Stmt}{rest:List Stmt}{t u:TS}{e:Expr}{te:TE}{pos:Pos}
def Adz:TS:=λD σ H=>D.nx σ H
def vv (t u:TS):TS:=λD σ H=>t {D with nx:=u D} σ H
theorem Bd:PSs X [] Adz:=λ_ _ σ H _ I h=>Ako ⟨σ,H,I,h⟩
theorem Af (h1:PS X st t)(h2:PSs X rest u):PSs X (st::rest) (vv t u):=by
 intro pins s σ H D I h
 refine wpAny_execs_cons (thn (h1 pins s σ H {D with nx:=u D} I h) λf s1 q=>?_)
 cases f with
 |
  next=>
  obtain⟨σ',H',I',q⟩:=q
  exact h2 pins s1 σ' H' D I' q
 | ret v=>exact q
 | brk=>exact q
 | cont=>exact q
theorem Ag (h1:PS X st t):PSs X [st] t:=by
 intro pins s σ H D I h
 refine wpAny_execs_cons (thn (h1 pins s σ H D I h) λf s1 q=>?_)
 cases f with
 | next=>exact Ako q
 | ret v=>exact q
 | brk=>exact q
 | cont=>exact q
theorem Inv.quiet {pins:List (Addr×Obj)}{σ:St}{H:Hp}{s:Shared}(I:Inv X pins σ H s):interactive X.env=false:=by simp[interactive,I.ok.kind]
def Ad8 (te:TE):TS:=λD σ H=>te σ H λ_ H1=>D.nx σ H1
theorem De (he:PE X e te)(hs:swapsWith e none pos.line X.env=pure false:=by rfl):PS X (.Expr e pos) (Ad8 te):=by
 intro pins s σ H D I h
 exact wpAny_Expr_any (thn (he pins s σ H _ I h) λv s1 ⟨x,H1,I1,r1,q1⟩=>⟨σ,H1,I1,q1⟩) I.quiet hs
def Afj (te:TE):TS:=λD σ H=>te σ H (D.rt σ)
theorem A8 (he:PE X e te):PS X (.Return (some e) pos) (Afj te):=by
 intro pins s σ H D I h
 exact wpAny_Return_some (thn (he pins s σ H _ I h) λv s1 ⟨x,H1,I1,r1,q1⟩=>⟨x,σ,H1,I1,r1,q1⟩)
def Afo (c:TT)(t u:TS):TS:=λD σ H=>c σ H λb H1=>if b=true then t D σ H1 else u D σ H1
theorem Cy {c:Expr}{a b:List Stmt}{tc:TT}(hc:PT X c tc)(ha:PSs X a t)(hb:PSs X b u):PS X (.If c a b pos) (Afo tc t u):=by
 intro pins s σ H D I h
 refine wpAny_If (thn (hc pins s σ H _ I h) λd s1 hz=>?_)
 obtain⟨H1,I1,q1⟩:=hz
 cases d with
 | true=>exact ha pins s1 σ H1 D I1 q1
 | false=>exact hb pins s1 σ H1 D I1 q1
def Adf:TS:=λ_ _ _=>False
theorem N3:PS X st Adf:=λ_ _ _ _ _ _ h=>h.elim
end
abbrev TG:=V->St->Hp->(St->Hp->Prop)->Prop
abbrev TGs:=List V->St->Hp->(St->Hp->Prop)->Prop
def PG (X:Cx)(target:Expr)(t:TG):Prop:=
 ∀(pins:List (Addr×Obj))(s:Shared)(σ:St)(H:Hp)(v:V)(u:Value)(Q:St->Hp->Prop),Inv X pins σ H s->RelV v u->t v σ H Q->
  wpAny (model X.prog X.w) X.A (assign target X.env u) (λ_ s'=>∃σ' H',Inv X pins σ' H' s'/\Q σ' H') X.xe s
def PGs (X:Cx)(ts:List Expr)(t:TGs):Prop:=
 ∀(pins:List (Addr×Obj))(s:Shared)(σ:St)(H:Hp)(vs:List V)(us:List Value)(Q:St->Hp->Prop),Inv X pins σ H s->Vals vs us->t vs σ H Q->
  wpAny (model X.prog X.w) X.A (assignInOrder ((assignEach ts X.env).map (·.2)) us) (λ_ s'=>∃σ' H',Inv X pins σ' H' s'/\Q σ' H') X.xe s
abbrev Aej:=V->V->V->Hp->(Hp->Prop)->Prop
def Afc (X:Cx)(t:Aej):Prop:=
 ∀(pins:List (Addr×Obj))(s:Shared)(σ:St)(H:Hp)(o i v:V)(ov iv u:Value)(Q:Hp->Prop),Inv X pins σ H s->RelV o ov->RelV i iv->RelV v u->t o i v H Q->
  wpAny (model X.prog X.w) X.A (setItem ov iv u) (λ_ s'=>∃H',Inv X pins σ H' s'/\Q H') X.xe s
section
variable {X:Cx}{pos:Pos}
def dq (i:Nat):TG:=λv σ H Q=>Q (σ.set i (some v)) H
theorem C5 {i:Nat}{x:Str}(hN:X.N.Nodup)(hi:X.N[i]?=some x)(hx:Loc X.env.scope x)(hf:X.fn x=true∨X.env.scope.names.lookup x=some .local:=by first|exact .inl rfl|exact .inr rfl|assumption):PG X (.Name x pos) (dq i):=by
 intro pins s σ H v u Q I r h
 exact wpAny_assign_Name (X5 I hN hi hx r (λs' I'=>⟨_,H,I',h⟩) hf)
def Aew:TGs:=λvs σ H Q=>vs=[]/\Q σ H
def Aak (t:TG)(u:TGs):TGs:=λvs σ H Q=>∃v r,vs=v::r/\t v σ H λσ' H'=>u r σ' H' Q
theorem rj:PGs X [] Aew:=by
 intro pins s σ H vs us Q I r h
 obtain⟨e,h⟩:=h
 subst e
 cases r
 exact assignInOrder_nil ⟨σ,H,I,h⟩
theorem Uv {e:Expr}{es:List Expr}{t:TG}{u:TGs}(h1:PG X e t)(h2:PGs X es u)
  (hs:(assignEach (e::es) X.env).map (·.2)=assign e X.env::(assignEach es X.env).map (·.2):=by rfl):PGs X (e::es) (Aak t u):=by
 intro pins s σ H vs us Q I r h
 obtain⟨v,vr,e1,h⟩:=h
 subst e1
 cases r with
 |
  cons r rr=>
  rw[hs]
  refine assignInOrder_cons (thn (h1 pins s σ H _ _ _ I r h) λ_ s1 hz=>?_)
  obtain⟨σ1,H1,I1,q1⟩:=hz
  exact h2 pins s1 σ1 H1 _ _ Q I1 rr q1
def Ad5 (K:W.Frag)(n:Nat)(t:TGs):TG:=λv σ H Q=>∃a xs,v=.ref a/\SqT K H a xs/\xs.length=n/\t xs σ H Q
theorem Adm {es:List Expr}{k:Nat}{t:TGs}{n:Nat}(hc:X.calm=true)(h:PGs X es t)
  (hn:(assignEach es X.env).length=n:=by rfl) (hst:(assignEach es X.env).findIdx? (·.1)=none:=by rfl):PG X (.Tuple es k pos) (Ad5 X.K n t):=by
 intro pins s σ H v u Q I r hw
 obtain⟨a,xs,e1,hq,hl,hw⟩:=hw
 subst e1
 cases r
 obtain⟨its,rv,ht,hz⟩:=I.tuple hq
 refine assign_Tuple_tuple (I.ok.hd hc) ht (by simp[hn,←hl,rv.length]) hst λh' hx=>?_
 have I1:Inv X pins σ H {s with heap:=h'}:=I.kept (t':=s.toks) λb o e=>hx b o (Agv (Agk e)) e
 exact h pins _ σ H xs _ Q I1 (by simpa using rv) hw
def Af5 (to ti:TE)(t:Aej):TG:=λv σ H Q=>to σ H λo H1=>ti σ H1 λi H2=>t o i v H2 λH3=>Q σ H3
theorem Abz {o i:Expr}{to ti:TE}{t:Aej}(ho:PE X o to)(hi:PE X i ti)(hs:Afc X t)
  (ha:∀v,assign (.Subscript o i pos) X.env v=(do
   let ov ←holding [v] (eval o X.env)
   let iv ←holding [v,ov] (eval i X.env)
   standAt pos
   holding [v,ov,iv] (setItem ov iv v)
   release [v,ov,iv] []):=by intro _;rfl):PG X (.Subscript o i pos) (Af5 to ti t):=by
 intro pins s σ H v u Q I r h
 rw[ha]
 refine Aga (Ahd (thn (ho pins s σ H _ I h) λov s1 hz=>?_))
 obtain⟨x,H1,I1,r1,q1⟩:=hz
 refine Aga (Ahd (thn (hi pins s1 σ H1 _ I1 q1) λiv s2 hz=>?_))
 obtain⟨y,H2,I2,r2,q2⟩:=hz
 refine Aga (wpAny_standAt (Aga (Ahd (thn (hs pins s2 σ H2 x y v ov iv u _ I2 r1 r2 r q2) λ_ s3 hz=>?_))))
 obtain⟨H3,I3,q3⟩:=hz
 exact wpAny_release ⟨σ,H3,I3,q3⟩
def Aes (te:TE)(g:TG):TS:=λD σ H=>te σ H λx H1=>g x σ H1 D.nx
theorem Ach {tg e:Expr}{te:TE}{g:TG}(he:PE X e te)(hg:PG X tg g)(hs:swapsWithSole [tg] e pos.line X.env=pure false:=by rfl)(hw:swappedStores [tg] e X.env=pure none:=by rfl)
  (h1:(assignEach [tg] X.env).map (·.2)=[assign tg X.env]:=by rfl):PS X (.Assign [tg] e pos) (Aes te g):=by
 intro pins s σ H D I h
 refine wpAny_Assign_stores (thn (he pins s σ H _ I h) λv s1 ⟨x,H1,I1,r1,q1⟩=>?_) hs hw
 rw[h1]
 exact thn (hg pins s1 σ H1 x v _ I1 r1 q1) λ_ s2 q=>q
theorem Be {i:Nat}{x:Str}{e:Expr}{te:TE}{pos':Pos}(hN:X.N.Nodup)(hi:X.N[i]?=some x)(hx:Loc X.env.scope x)(he:PE X e te)(hs:swapsWith e (some (.Name x pos')) pos.line X.env=pure false:=by rfl)(hf:X.fn x=true∨X.env.scope.names.lookup x=some .local:=by first|exact .inl rfl|exact .inr rfl|assumption):
  PS X (.Assign [.Name x pos'] e pos) (Aes te (dq i)):=by
 intro pins s σ H D I h
 refine wpAny_Assign_Name (thn (he pins s σ H _ I h) λv s1 ⟨y,H1,I1,r1,q1⟩=>?_) hs
 exact X5 I1 hN hi hx r1 (λs2 I2=>⟨_,H1,I2,q1⟩) hf
end
section
variable {X:Cx}{pos:Pos}
def Aci (c:TT)(tb:TS):TS:=λD σ H=>∃W:Nat->St->Hp->Prop,(∃m,W m σ H)/\∀m σ H,W m σ H->
 c σ H λb H1=>if b=true then ∃N:St->Hp->Prop,(∀σ' H',N σ' H'->∃m',m'<m/\W m' σ' H')/\tb {D with nx:=N,ct:=N,bk:=D.nx} σ H1 else D.nx σ H1
theorem x5 {c:Expr}{body:List Stmt}{tc:TT}{tb:TS}(hp:PassesOwn (model X.prog X.w) X.A X.env X.xe)(hc:PT X c tc)(hb:PSs X body tb):PS X (.While c body [] pos) (Aci tc tb):=by
 intro pins s σ H D I h
 obtain⟨W,⟨m0,w0⟩,turn⟩:=h
 refine wpAny_While (codeAny_whileLoop (λn s'=>∃σ' H',Inv X pins σ' H' s'/\W n σ' H') ?_ m0 ⟨σ,H,I,w0⟩)
 rintro n s1 ⟨σ1,H1,I1,w1⟩
 refine Aja hp (thn (hc pins s1 σ1 H1 _ I1 (turn n σ1 H1 w1)) λb s2 hz=>?_)
 obtain⟨H2,I2,q2⟩:=hz
 cases b with
 |
  true=>
  obtain⟨N,hN,q2⟩:=q2
  rw[if_pos rfl]
  refine Aja hp (thn (hb pins s2 σ1 H2 _ I2 q2) λf s3 q3=>?_)
  cases f with
  |
   next=>
   obtain⟨σ3,H3,I3,n3⟩:=q3
   obtain⟨m',hm,w3⟩:=hN σ3 H3 n3
   exact⟨m',hm,σ3,H3,I3,w3⟩
  |
   cont=>
   obtain⟨σ3,H3,I3,n3⟩:=q3
   obtain⟨m',hm,w3⟩:=hN σ3 H3 n3
   exact⟨m',hm,σ3,H3,I3,w3⟩
  | brk=>exact q3
  | ret v=>exact q3
 |
  false=>
  rw[if_neg Ags]
  exact Ako ⟨σ1,H2,I2,q2⟩
end
structure It where
 go:Nat->Hp->Prop
 yld:Nat->Hp->V->Hp->Prop
 stop:Nat->Hp->Prop
def n6 (X:Cx)(pins:List (Addr×Obj))(H:Hp)(b:Addr):Prop:=
 H b=none/\b≠X.env.locals/\b∉X.fs/\(b∈X.ex∨X.s₀.heap.objs.size<=b)/\(∀x c,X.env.cells.lookup x=some c->c≠b)/\∀p∈X.pn++pins,p.1≠b
theorem Inv.fpOk {X:Cx}{pins:List (Addr×Obj)}{σ:St}{H H':Hp}{s:Shared}{b:Addr}(I:Inv X pins σ H s)(hb:s.heap.objs.size<=b)(hn:H' b=none):n6 X pins H' b:=by
 refine⟨hn,Aip (Ag4 I.lt hb),I.nofs hb,.inr (Ag1 I.sz hb),λx c e z=>?_,λp hp z=>?_⟩
 ·
  obtain⟨v,q⟩:=I.cell x c e
  exact absurd (Ag4 q.lt (by rw[z];exact hb)) (Ahp _)
 · exact absurd (Ag4 (Agk (I.pin p hp).1) (by rw[z];exact hb)) (Ahp _)
structure Turn (P:Program)(w:World)(K:W.Frag)(tg:Expr)(J:It)(fp:List Addr)(it:Addr)(tn:Nat->Heap->Prop):Prop where
 mem:it∈fp
 obj:∀i h,tn i h->∀b∈fp,∃o,h.get? b=some o/\∀v,o.data≠ .cell v
 keep:∀i h h',tn i h->(∀b∈fp,∀o,h.get? b=some o->h'.get? b=some o)->tn i h'
 item:∀(X:Cx),X.prog=P->X.w=w->X.K=K->X.calm=true->∀(i:Nat)(pins:List (Addr×Obj))(s:Shared)(σ:St)(H:Hp)(E:Value->Shared->Prop),Inv X pins σ H s->(∀b∈fp,n6 X pins H b)->tn i s.heap->J.go i H->
  wpAny (model P w) X.A (pyNext (.ref it)) (λr s1=>∃u,r=some u/\
   wpAny (model P w) X.A (letOwnedTupleGo tg (.ref it) u) (λ_ s2=>∃x H',Inv X pins σ H' s2/\RelV x u/\J.yld i H x H'/\tn (i+1) s2.heap/\∀b∈fp,H' b=none) E s1) E s
 done:∀(X:Cx),X.prog=P->X.w=w->X.K=K->X.calm=true->∀(i:Nat)(pins:List (Addr×Obj))(s:Shared)(σ:St)(H:Hp)(E:Value->Shared->Prop),Inv X pins σ H s->(∀b∈fp,n6 X pins H b)->tn i s.heap->J.stop i H->
  wpAny (model P w) X.A (pyNext (.ref it)) (λr s1=>r=none/\Inv X pins σ H s1) E s
 self:∀(A:Around)(i:Nat)(s:Shared)(Q:Value->Shared->Prop)(E:Value->Shared->Prop),tn i s.heap->Q (.ref it) s->wpAny (model P w) A (pyIter (.ref it)) Q E s
abbrev TI:=St->Hp->(It->Hp->Prop)->Prop
def PIE (X:Cx)(pins:List (Addr×Obj))(σ:St)(tg:Expr)(R:It->Hp->Prop)(itv:Value)(s2:Shared):Prop:=
 ∃(it:Addr)(fp:List Addr)(tn:Nat->Heap->Prop)(J:It)(H':Hp),itv=.ref it/\Inv X pins σ H' s2/\Turn X.prog X.w X.K tg J fp it tn/\tn 0 s2.heap/\(∀b∈fp,n6 X pins H' b)/\R J H'
def PI (X:Cx)(tg iter:Expr)(wi:TI):Prop:=
 ∀(pins:List (Addr×Obj))(s:Shared)(σ:St)(H:Hp)(R:It->Hp->Prop),Inv X pins σ H s->wi σ H R->
  wpAny (model X.prog X.w) X.A (eval iter X.env) (λv s1=>wpAny (model X.prog X.w) X.A (pyIter v) (PIE X pins σ tg R) X.xe s1) X.xe s
theorem p6 {M:Model}{A:Around}{E:Value->Shared->Prop}{s:Shared}{tg:Expr}{it:Addr}{u:Value}{o:Obj}{n:String}{vs:Array Value}{Q:Unit->Shared->Prop}(ho:s.heap.get? it=some o)(hc:o.cls=.type n)(hd:o.data=.fields vs)
  (hn:["enumerate","zip","dict_itemiterator","dict_reverseitemiterator","odict_iterator","itertools.zip_longest","itertools.pairwise"].contains n=false) (hQ:Q () s):wpAny M A (letOwnedTupleGo tg (.ref it) u) Q E s:=by
 unfold letOwnedTupleGo
 cases tg<;>first
  | exact Agb hQ
  | (cases u<;>first
   | exact Agb hQ
   | (
    refine Aga (wpAny_load ho ?_)
    rw[hc,hd]
    show wpAny M A (if(["enumerate","zip","dict_itemiterator","dict_reverseitemiterator","odict_iterator","itertools.zip_longest","itertools.pairwise"].contains n&&vs[0]?==some (rawInt _))=true then _ else _) Q E s
    rw[if_neg (by intro h;rw[hn,Bool.false_and] at h;cases h)]
    exact Agb hQ))
def Itl (K:W.Frag)(a:Addr):It:=
 ⟨λi H=>∃xs x,SqL K H a xs/\xs[i]?=some x,λi H x H'=>H'=H/\∀xs,SqL K H a xs->xs[i]?=some x,λi H=>∃xs,SqL K H a xs/\xs.length<=i⟩
def Itt (K:W.Frag)(a:Addr):It:=
 ⟨λi H=>∃xs x,SqT K H a xs/\xs[i]?=some x,λi H x H'=>H'=H/\∀xs,SqT K H a xs->xs[i]?=some x,λi H=>∃xs,SqT K H a xs/\xs.length<=i⟩
def Itr (lo:Int)(n:Nat):It:=⟨λi _=>i<n,λi H x H'=>H'=H/\x=.int (lo+i),λi _=>n<=i⟩
theorem rb {P:Program}{w:World}{K:W.Frag}{tg:Expr}(a it:Addr):Turn P w K tg (Itl K a) [it] it (λi h=>h.IsListIter it a i) where
 mem:=by simp
 obj:=λi h st b hb=>by
  have e:b=it:=by simpa using hb
  subst e
  obtain⟨o,e,c,d⟩:=st
  exact⟨o,e,λv z=>by rw[d] at z;cases z⟩
 keep:=λi h h' st k=>st.at λo e=>k it (by simp) o e
 item:=by
  intro X hP hw hK hc i pins s σ H E I hf st hg
  subst hP hw hK
  obtain⟨xs,x,hq,hx⟩:=hg
  obtain⟨its,rv,p,hz⟩:=I.list hq
  obtain⟨u,hu,ru⟩:=rv.get hx
  obtain⟨f0,f1,f2,f3,f4,f5⟩:=hf it (by simp)
  refine wpAny_pyNext_list_item st p.isList (x:=u) (by simpa using hu) λh' st' sb=>?_
  have I1:Inv X pins σ H {s with heap:=h'}:=I.turned (t':=s.toks) (λb o hb e=>(sb.2 b hb).trans e) f0 f1 f3 f4 f5
  obtain⟨o,e,c,d⟩:=id st'
  exact⟨u,rfl,p6 (s:={s with heap:=h'}) e c d (by decide) ⟨x,H,I1,ru,⟨rfl,λys hy=>by rw[I.list_inj hy hq];exact hx⟩,st',λb hb=>(hf b hb).1⟩⟩
 done:=by
  intro X hP hw hK hc i pins s σ H E I hf st hg
  subst hP hw hK
  obtain⟨xs,hq,hx⟩:=hg
  obtain⟨its,rv,p,hz⟩:=I.list hq
  obtain⟨f0,f1,f2,f3,f4,f5⟩:=hf it (by simp)
  have hl:=rv.length
  exact wpAny_pyNext_list_end (I.ok.hd hc) st p.isList (by simp;lia) λh' eb=>⟨rfl,I.turned (t':=s.toks) (λb o hb e=>eb b o hb e) f0 f1 f3 f4 f5⟩
 self:=λ_ _ _ _ _ st h=>wpAny_pyIter_listiter st h
theorem mn {P:Program}{w:World}{K:W.Frag}{tg:Expr}(a it:Addr):Turn P w K tg (Itt K a) [it] it (λi h=>h.IsTupleIter it a i) where
 mem:=by simp
 obj:=λi h st b hb=>by
  have e:b=it:=by simpa using hb
  subst e
  obtain⟨o,e,c,d⟩:=st
  exact⟨o,e,λv z=>by rw[d] at z;cases z⟩
 keep:=λi h h' st k=>st.at λo e=>k it (by simp) o e
 item:=by
  intro X hP hw hK hc i pins s σ H E I hf st hg
  subst hP hw hK
  obtain⟨xs,x,hq,hx⟩:=hg
  obtain⟨its,rv,p,hz⟩:=I.tuple hq
  obtain⟨u,hu,ru⟩:=rv.get hx
  obtain⟨f0,f1,f2,f3,f4,f5⟩:=hf it (by simp)
  refine wpAny_pyNext_tuple_item st (show s.heap.IsTuple a its.toArray from p) (x:=u) (by simpa using hu) λh' st' sb=>?_
  have I1:Inv X pins σ H {s with heap:=h'}:=I.turned (t':=s.toks) (λb o hb e=>(sb.2 b hb).trans e) f0 f1 f3 f4 f5
  obtain⟨o,e,c,d⟩:=id st'
  exact⟨u,rfl,p6 (s:={s with heap:=h'}) e c d (by decide) ⟨x,H,I1,ru,⟨rfl,λys hy=>by rw[I.tuple_inj hy hq];exact hx⟩,st',λb hb=>(hf b hb).1⟩⟩
 done:=by
  intro X hP hw hK hc i pins s σ H E I hf st hg
  subst hP hw hK
  obtain⟨xs,hq,hx⟩:=hg
  obtain⟨its,rv,p,hz⟩:=I.tuple hq
  obtain⟨f0,f1,f2,f3,f4,f5⟩:=hf it (by simp)
  have hl:=rv.length
  exact wpAny_pyNext_tuple_end (I.ok.hd hc) st (show s.heap.IsTuple a its.toArray from p) (by simp;lia) λh' eb=>⟨rfl,I.turned (t':=s.toks) (λb o hb e=>eb b o hb e) f0 f1 f3 f4 f5⟩
 self:=λ_ _ _ _ _ st h=>wpAny_pyIter_tupleiter st h
theorem ky {P:Program}{w:World}{K:W.Frag}{tg:Expr}(it:Addr)(lo:Int)(n:Nat):Turn P w K tg (Itr lo n) [it] it (λi h=>IsRangeIter h it (lo+(i:Nat)*1) ((n:Int)-(i:Nat)) 1) where
 mem:=by simp
 obj:=λi h st b hb=>by
  have e:b=it:=by simpa using hb
  subst e
  exact⟨_,st,λv z=>by
   have z':Data.fields _=Data.cell v:=z
   cases z'⟩
 keep:=λi h h' st k=>k it (by simp) _ st
 item:=by
  intro X hP hw hK hc i pins s σ H E I hf st hg
  subst hP hw hK
  obtain⟨f0,f1,f2,f3,f4,f5⟩:=hf it (by simp)
  have W:=Walks.range (prog:=X.prog) (w:=X.w) (I.ok.hd hc) it lo 1 n
  refine W.item i s _ _ hg st λv h' tk hv st' kk=>?_
  obtain⟨t,rfl⟩:=hv
  have I1:Inv X pins σ H {s with heap:=h',toks:=tk}:=I.turned (λb o hb e=>kk b o (by simpa using hb) e) f0 f1 f3 f4 f5
  refine⟨_,rfl,p6 (s:={s with heap:=h',toks:=tk}) (n:="range_iterator") st' rfl rfl (by decide) ⟨.int (lo+i),H,I1,⟨t,?_⟩,⟨rfl,rfl⟩,st',λb hb=>(hf b hb).1⟩⟩
  rw[Int.mul_one]
 done:=by
  intro X hP hw hK hc i pins s σ H E I hf st hg
  subst hP hw hK
  obtain⟨f0,f1,f2,f3,f4,f5⟩:=hf it (by simp)
  exact wpAny_pyNext_range_end (I.ok.hd hc) st (by have:n<=i:=hg;lia) λh' eb=>⟨rfl,I.turned (t':=s.toks) (λb o hb e=>eb b o hb e) f0 f1 f3 f4 f5⟩
 self:=λ_ _ _ _ _ st h=>wpAny_pyIter_rangeiter st h
section
variable {X:Cx}{tg:Expr}
def Acu (K:W.Frag)(tl:TE):TI:=λσ H R=>tl σ H λx H1=>∃a,x=.ref a/\(∃xs,SqL K H1 a xs)/\R (Itl K a) H1
def Afa (K:W.Frag)(tl:TE):TI:=λσ H R=>tl σ H λx H1=>∃a,x=.ref a/\(∃xs,SqT K H1 a xs)/\R (Itt K a) H1
theorem Aa0 {l:Expr}{tl:TE}(hl:PE X l tl):PI X tg l (Acu X.K tl):=by
 intro pins s σ H R I h
 refine thn (hl pins s σ H _ I h) λv s1 hz=>?_
 obtain⟨x,H1,I1,r1,q1⟩:=hz
 obtain⟨a,e,⟨xs,hq⟩,q⟩:=q1
 subst e
 cases r1
 obtain⟨its,rv,p,hz⟩:=I1.list hq
 refine Ak6 p.isList ?_
 refine⟨s1.heap.objs.size,[s1.heap.objs.size],_,_,H1,rfl,I1.kept (t':=s1.toks) λb o e=>Agc _ e,rb a _,⟨_,Ago _ rfl,rfl,rfl⟩,λb hb=>?_,q⟩
 have e:b=s1.heap.objs.size:=by simpa using hb
 subst e
 exact I1.fpOk (Agi _) (I1.hok.fresh (Agi _))
theorem Ab3 {l:Expr}{tl:TE}(hl:PE X l tl):PI X tg l (Afa X.K tl):=by
 intro pins s σ H R I h
 refine thn (hl pins s σ H _ I h) λv s1 hz=>?_
 obtain⟨x,H1,I1,r1,q1⟩:=hz
 obtain⟨a,e,⟨xs,hq⟩,q⟩:=q1
 subst e
 cases r1
 obtain⟨its,rv,p,hz⟩:=I1.tuple hq
 refine wpAny_pyIter_tuple (show s1.heap.IsTuple a its.toArray from p) ?_
 refine⟨s1.heap.objs.size,[s1.heap.objs.size],_,_,H1,rfl,I1.kept (t':=s1.toks) λb o e=>Agc _ e,mn a _,⟨_,Ago _ rfl,rfl,rfl⟩,λb hb=>?_,q⟩
 have e:b=s1.heap.objs.size:=by simpa using hb
 subst e
 exact I1.fpOk (Agi _) (I1.hok.fresh (Agi _))
theorem jd {pins:List (Addr×Obj)}{σ:St}{H:Hp}{s:Shared}{R:It->Hp->Prop}{E:Value->Shared->Prop}{lo hi:Int}{t u v:Tok}{tk:Nat}(I:Inv X pins σ H s)(h1: -(2 ^ 62)<=lo)(h2:lo<2 ^ 62)(h3: -(2 ^ 62)<=hi)(h4:hi<2 ^ 62)
  (q:R (Itr lo (hi-lo).toNat) H):wpAny (model X.prog X.w) X.A (pyIter (.ref s.heap.objs.size)) (PIE X pins σ tg R) E {s with heap:=s.heap.push {cls:=.type "range",data:=.fields #[.int lo t,.int hi u,.int 1 v]},toks:=tk}:=by
 refine wpAny_pyIter_range (IsRange.new ..) (small_one h1 h2 h3 h4) ?_
 have I1:Inv X pins σ H {s with heap:=s.heap.push {cls:=.type "range",data:=.fields #[.int lo t,.int hi u,.int 1 v]},toks:=tk}:=I.kept λb o e=>Agc _ e
 refine⟨(s.heap.push {cls:=.type "range",data:=.fields #[.int lo t,.int hi u,.int 1 v]}).objs.size,[(s.heap.push {cls:=.type "range",data:=.fields #[.int lo t,.int hi u,.int 1 v]}).objs.size],_,_,H,rfl,
  I1.kept (t':=tk) λb o e=>Agc _ e,ky _ lo (hi-lo).toNat,?_,λb hb=>?_,q⟩
 ·
  have e1:lo+((0:Nat):Int)*1=lo:=by simp
  have e2:(((hi-lo).toNat:Nat):Int)-((0:Nat):Int)=Builtin.Range.rangeSize lo hi 1:=by rw[rangeSize_one];split<;>lia
  show IsRangeIter _ _ (lo+((0:Nat):Int)*1) ((((hi-lo).toNat:Nat):Int)-((0:Nat):Int)) 1
  rw[e1,e2]
  exact Ago _ rfl
 ·
  have e:b=(s.heap.push {cls:=.type "range",data:=.fields #[.int lo t,.int hi u,.int 1 v]}).objs.size:=by simpa using hb
  subst e
  exact I1.fpOk (Agi _) (I1.hok.fresh (Agi _))
def Aea (ta:TA):TI:=λσ H R=>ta σ H λvs H1=>∃j:Int,vs=[.int j]/\ -(2 ^ 62)<=j/\j<2 ^ 62/\R (Itr 0 j.toNat) H1
def Ad9 (ta:TA):TI:=λσ H R=>ta σ H λvs H1=>∃i j:Int,vs=[.int i,.int j]/\(-(2 ^ 62)<=i/\i<2 ^ 62/\ -(2 ^ 62)<=j/\j<2 ^ 62)/\R (Itr i (j-i).toNat) H1
theorem uk {a:Expr}{ta:TA}{p pos:Pos}(hg:Gl X "range")(hm:X.mg "range"=none)(ha:PA X [a] ta)(hs:starEach [a] X.env=[(false,eval a X.env)]:=by rfl):PI X tg (.Call (.Name "range" p) [a] [] pos) (Aea ta):=by
 intro pins s σ H R I h
 refine Call_ (ah I hg hm boot_range (Akb (thn (ha pos pins s σ H _ I h) λus s1 ⟨vs,H1,I1,r1,q1⟩=>?_) hs rfl))
 obtain⟨j,e,q1,q2,q⟩:=q1
 subst e
 cases r1 with
 |
  cons r rr=>
  cases rr
  obtain⟨t,rfl⟩:=r
  exact call_range_1 (jd I1 (by lia) (by lia) q1 q2 (by simpa using q))
theorem Va {a b:Expr}{ta:TA}{p pos:Pos}(hg:Gl X "range")(hm:X.mg "range"=none)(ha:PA X [a,b] ta)(hs:starEach [a,b] X.env=[(false,eval a X.env),(false,eval b X.env)]:=by rfl)(hs2:starEach [b] X.env=[(false,eval b X.env)]:=by rfl):
  PI X tg (.Call (.Name "range" p) [a,b] [] pos) (Ad9 ta):=by
 intro pins s σ H R I h
 refine Call_ (ah I hg hm boot_range (Akb (thn (ha pos pins s σ H _ I h) λus s1 ⟨vs,H1,I1,r1,q1⟩=>?_) (by rw[hs,hs2]) (by rw[hs2];rfl)))
 obtain⟨i,j,e,⟨q1,q2,q3,q4⟩,q⟩:=q1
 subst e
 cases r1 with
 |
  cons r rr=>
  cases rr with
  |
   cons r' rr=>
   cases rr
   obtain⟨t,rfl⟩:=r
   obtain⟨t',rfl⟩:=r'
   exact call_range_2 (jd I1 q1 q2 q3 q4 q)
def Afz (wi:TI)(g:TG)(tb:TS):TS:=λD σ H=>wi σ H λJ H1=>∃W:Nat->Nat->St->Hp->Prop,(∃m,W 0 m σ H1)/\∀i m σ H,W i m σ H->
 (J.stop i H/\D.nx σ H)∨(J.go i H/\∃N:St->Hp->Prop,(∀σ' H',N σ' H'->∃m',m'<m/\W (i+1) m' σ' H')/\∀x H',J.yld i H x H'->g x σ H' λσ2 H2=>tb {D with nx:=N,ct:=N,bk:=D.nx} σ2 H2)
def Xz (fp:List Addr)(h:Heap):List (Addr×Obj):=fp.filterMap λb=>(h.get? b).map λo=>(b,o)
theorem Lq {fp:List Addr}{h:Heap}{b:Addr}{o:Obj}(hb:b∈fp)(e:h.get? b=some o):(b,o)∈Xz fp h:=Aif.mpr ⟨b,hb,by rw[e];rfl⟩
theorem u0 {fp:List Addr}{h:Heap}{p:Addr×Obj}(hp:p∈Xz fp h):p.1∈fp/\h.get? p.1=some p.2:=by
 obtain⟨b,hb,e⟩:=Aif.mp hp
 cases q:h.get? b with
 | none=>rw[q] at e;cases e
 |
  some o=>
  rw[q] at e
  have e':(b,o)=p:=Agn e
  subst e'
  exact⟨hb,q⟩
theorem Inv.pinned {pins:List (Addr×Obj)}{σ:St}{H:Hp}{s:Shared}{fp:List Addr}(I:Inv X pins σ H s)(hf:∀b∈fp,n6 X pins H b)(ho:∀b∈fp,∃o,s.heap.get? b=some o/\∀v,o.data≠ .cell v):Inv X (pins++Xz fp s.heap) σ H s:=
 I.pins_of λp hp=>(Ahf.mp hp).elim (λz=>I.pin p (Ag5 _ z)) λz=>by
  obtain⟨hb,e⟩:=u0 z
  obtain⟨f0,f1,f2,_⟩:=hf p.1 hb
  obtain⟨o,e',d⟩:=ho p.1 hb
  rw[e] at e';cases e'
  exact⟨e,f0,f1,f2,d⟩
theorem Inv.unpinned {pins pl:List (Addr×Obj)}{σ:St}{H:Hp}{s:Shared}(I:Inv X (pins++pl) σ H s):Inv X pins σ H s:=I.pins_of λp hp=>I.pin p (Ag5 _ (Aj6 _ hp))
theorem Og {iter:Expr}{body:List Stmt}{wi:TI}{g:TG}{tb:TS}{pos:Pos}(hp:PassesOwn (model X.prog X.w) X.A X.env X.xe)(hc:X.calm=true)(hi:PI X tg iter wi)(hg:PG X tg g)(hb:PSs X body tb)
  (hs:∀x,foldedSetIterable iter X.env x=pure x:=by intro _;rfl):PS X (.For tg iter body [] pos) (Afz wi g tb):=by
 intro pins s σ H D I h
 refine wpAny_For (thn (hi pins s σ H _ I h) λv s1 h1=>thn h1 λitv s2 h2=>?_) hs
 obtain⟨it,fp,tn,J,H2,e,I2,T,st2,f2,W,⟨m0,w0⟩,turn⟩:=h2
 subst e
 --what stays true of the iterator's objects through the loop
 have stat:∀{H':Hp},(∀b∈fp,H' b=none)->∀b∈fp,n6 X pins H' b:=λhn b hb=>⟨hn b hb,(f2 b hb).2⟩
 refine codeAny_forLoop_any (λn s'=>∃i σ' H',Inv X pins σ' H' s'/\tn i s'.heap/\(∀b∈fp,H' b=none)/\W i n σ' H') ?_ m0 ⟨0,σ,H2,I2,st2,λb hb=>(f2 b hb).1,w0⟩
 rintro n s3 ⟨i,σ3,H3,I3,st3,fr3,w3⟩
 rcases turn i n σ3 H3 w3 with⟨stop,qn⟩|⟨go,N,hN,step⟩
 ·
  refine Aja hp (thn (T.done X rfl rfl rfl hc i pins s3 σ3 H3 X.xe I3 (stat fr3) st3 stop) λr s4 hz=>?_)
  obtain⟨hr,I4⟩:=hz
  subst hr
  exact Ako ⟨σ3,H3,I4,qn⟩
 ·
  refine Aja hp (thn (T.item X rfl rfl rfl hc i pins s3 σ3 H3 X.xe I3 (stat fr3) st3 go) λr s4 hz=>?_)
  obtain⟨u,hr,h4⟩:=hz
  subst hr
  refine Aja hp (thn h4 λ_ s5 hz=>?_)
  obtain⟨x,H5,I5,r5,y5,st5,fr5⟩:=hz
  have I5':=I5.pinned (stat fr5) (T.obj _ _ st5)
  refine Aja hp (thn (hg _ s5 σ3 H5 x u _ I5' r5 (step x H5 y5)) λ_ s6 hz=>?_)
  obtain⟨σ6,H6,I6,q6⟩:=hz
  refine Aja hp (thn (hb _ s6 σ6 H6 _ I6 q6) λf s7 q7=>?_)
  have again:∀{σ7:St}{H7:Hp},Inv X (pins++Xz fp s5.heap) σ7 H7 s7->N σ7 H7->∃m,m<n/\∃i σ' H',Inv X pins σ' H' s7/\tn i s7.heap/\(∀b∈fp,H' b=none)/\W i m σ' H':=λ{σ7 H7}I7 n7=>by
   obtain⟨m',hm,w7⟩:=hN σ7 H7 n7
   refine⟨m',hm,i+1,σ7,H7,I7.unpinned,T.keep _ _ _ st5 λb hb o e=>(I7.pin (b,o) (Ag5 _ (Ag5 _ (Lq hb e)))).1,λb hb=>?_,w7⟩
   obtain⟨o,e,d⟩:=T.obj _ _ st5 b hb
   exact(I7.pin (b,o) (Ag5 _ (Ag5 _ (Lq hb e)))).2.1
  cases f with
  | next=>obtain⟨σ7,H7,I7,n7⟩:=q7;exact again I7 n7
  | cont=>obtain⟨σ7,H7,I7,n7⟩:=q7;exact again I7 n7
  | brk=>obtain⟨σ7,H7,I7,q7⟩:=q7;exact⟨σ7,H7,I7.unpinned,q7⟩
  | ret v=>obtain⟨x7,σ7,H7,I7,r7,q7⟩:=q7;exact⟨x7,σ7,H7,I7.unpinned,r7,q7⟩
end
theorem Vn {lo:Int}{n:Nat}{g:TG}{tb:TS}{D:Ends}{σ:St}{H:Hp}(Pv:Nat->St->Hp->Prop)(h0:Pv 0 σ H)
  (hs:∀i σ H,i<n->Pv i σ H->g (.int (lo+i)) σ H λσ2 H2=>tb {D with nx:=Pv (i+1),ct:=Pv (i+1),bk:=D.nx} σ2 H2) (hd:∀σ H,Pv n σ H->D.nx σ H):
  ∃W:Nat->Nat->St->Hp->Prop,(∃m,W 0 m σ H)/\∀i m σ H,W i m σ H->
   ((Itr lo n).stop i H/\D.nx σ H)∨((Itr lo n).go i H/\∃N:St->Hp->Prop,(∀σ' H',N σ' H'->∃m',m'<m/\W (i+1) m' σ' H')/\∀x H',(Itr lo n).yld i H x H'->g x σ H' λσ2 H2=>tb {D with nx:=N,ct:=N,bk:=D.nx} σ2 H2):=by
 refine⟨λi m σ H=>m=n-i/\i<=n/\Pv i σ H,⟨n,by simp,Ahn _,h0⟩,?_⟩
 rintro i m σ H ⟨rfl,hi,p⟩
 by_cases hlt:i<n
 ·
  refine .inr ⟨hlt,Pv (i+1),λσ' H' p'=>⟨n-(i+1),by lia,rfl,hlt,p'⟩,λx H' y=>?_⟩
  obtain⟨e,y⟩:=y
  subst e y
  exact hs i σ _ hlt p
 ·
  have e:i=n:=by lia
  subst e
  exact .inl ⟨Agi _,hd σ H p⟩
abbrev R2:=V->V->Hp->VK->Prop
def OpR (X:Cx)(f:Value->Value->Sem Value)(r:R2):Prop:=
 ∀(pins:List (Addr×Obj))(s:Shared)(σ:St)(H:Hp)(x y:V)(v u:Value)(Q:VK),Inv X pins σ H s->RelV x v->RelV y u->r x y H Q->
  wpAny (model X.prog X.w) X.A (f v u) (EP X pins σ Q) X.xe s
def UnR (X:Cx)(f:Value->Sem Value)(r:V->Hp->VK->Prop):Prop:=
 ∀(pins:List (Addr×Obj))(s:Shared)(σ:St)(H:Hp)(x:V)(v:Value)(Q:VK),Inv X pins σ H s->RelV x v->r x H Q->
  wpAny (model X.prog X.w) X.A (f v) (EP X pins σ Q) X.xe s
def Jp (X:Cx)(f:Value)(r:List V->Hp->VK->Prop):Prop:=
 ∀(pins:List (Addr×Obj))(s:Shared)(σ:St)(H:Hp)(xs:List V)(us:List Value)(Q:VK),Inv X pins σ H s->Vals xs us->r xs H Q->
  wpAny (model X.prog X.w) X.A (call f us) (EP X pins σ Q) X.xe s
def Af9 (X:Cx)(r:V->Hp->(Bool->Hp->Prop)->Prop):Prop:=
 ∀(pins:List (Addr×Obj))(s:Shared)(σ:St)(H:Hp)(x:V)(v:Value)(Q:Bool->Hp->Prop),Inv X pins σ H s->RelV x v->r x H Q->
  wpAny (model X.prog X.w) X.A (truthy v) (TP X pins σ Q) X.xe s
def tOp (r:R2)(ta tb:TE):TE:=λσ H Q=>ta σ H λx H1=>tb σ H1 λy H2=>r x y H2 Q
def tUn (r:V->Hp->VK->Prop)(ta:TE):TE:=λσ H Q=>ta σ H λx H1=>r x H1 Q
def rI (C:Int->Int->Prop)(g:Int->Int->V):R2:=λx y H Q=>∃i j,x=.int i/\y=.int j/\C i j/\Q (g i j) H
def rI0 (g:Int->Int->V):R2:=λx y H Q=>∃i j,x=.int i/\y=.int j/\Q (g i j) H
def rU (g:Int->V):V->Hp->VK->Prop:=λx H Q=>∃i,x=.int i/\Q (g i) H
section
variable {X:Cx}{a b c:Expr}{ta tb tc:TE}{pos:Pos}
theorem Ady (ha:PE X a ta)(hb:PE X b tb){pins:List (Addr×Obj)}{s:Shared}{σ:St}{H:Hp}{R:V->V->Hp->Prop}(I:Inv X pins σ H s)
  (h:ta σ H λx H1=>tb σ H1 λy H2=>R x y H2) {Q:Value->Shared->Prop} {f:Value->Value->Sem Value}
  (hf:∀v u s2 x y H2,Inv X pins σ H2 s2->RelV x v->RelV y u->R x y H2->wpAny (model X.prog X.w) X.A (f v u) Q X.xe s2):
  wpAny (model X.prog X.w) X.A (eval a X.env) (λv s₁=>wpAny (model X.prog X.w) X.A (eval b X.env) (λu s₂=>wpAny (model X.prog X.w) X.A (f v u) Q X.xe s₂) X.xe s₁) X.xe s:=by
 refine thn (ha pins s σ H _ I h) λv s1 hz=>?_
 obtain⟨x,H1,I1,r1,q1⟩:=hz
 refine thn (hb pins s1 σ H1 _ I1 q1) λu s2 hz=>?_
 obtain⟨y,H2,I2,r2,q2⟩:=hz
 exact hf v u s2 x y H2 I2 r1 r2 q2
theorem Ba {op:Operator}{r:R2}(ho:OpR X (binaryOp op) r)(ha:PE X a ta)(hb:PE X b tb):PE X (.BinOp a op b pos) (tOp r ta tb):=by
 intro pins s σ H Q I h
 exact wpAny_BinOp (Ady ha hb I h λv u s2 x y H2 I2 rx ry q=>ho pins s2 σ H2 x y v u Q I2 rx ry q)
theorem Abp {op:UnaryOp}{r:V->Hp->VK->Prop}(ho:UnR X (unaryOp op) r)(ha:PE X a ta):PE X (.UnaryOp op a pos) (tUn r ta):=by
 intro pins s σ H Q I h
 exact UnaryOp_ (thn (ha pins s σ H _ I h) λv s1 ⟨x,H1,I1,r1,q1⟩=>ho pins s1 σ H1 x v Q I1 r1 q1)
theorem opI {f:Value->Value->Sem Value}{C:Int->Int->Prop}{g:Int->Int->Int}
  (rule:∀(i j:Int)(t u:Tok)(s:Shared)(Q:Value->Shared->Prop)(E:Value->Shared->Prop),C i j->Q (.int (g i j) s.toks) {s with toks:=s.toks+1}->wpAny (model X.prog X.w) X.A (f (.int i t) (.int j u)) Q E s):
  OpR X f (rI C λi j=>.int (g i j)):=by
 intro pins s σ H x y v u Q I rx ry h
 obtain⟨i,j,rfl,rfl,hc,q⟩:=h
 obtain⟨t,rfl⟩:=rx
 obtain⟨t',rfl⟩:=ry
 exact rule i j t t' s _ _ hc ⟨.int (g i j),H,I.tok _,⟨_,rfl⟩,q⟩
theorem Aey {f:Value->Value->Sem Value}{g:Int->Int->Int}
  (rule:∀(i j:Int)(t u:Tok)(s:Shared)(Q:Value->Shared->Prop)(E:Value->Shared->Prop),Q (.int (g i j) s.toks) {s with toks:=s.toks+1}->wpAny (model X.prog X.w) X.A (f (.int i t) (.int j u)) Q E s):
  OpR X f (rI0 λi j=>.int (g i j)):=by
 intro pins s σ H x y v u Q I rx ry h
 obtain⟨i,j,rfl,rfl,q⟩:=h
 obtain⟨t,rfl⟩:=rx
 obtain⟨t',rfl⟩:=ry
 exact rule i j t t' s _ _ ⟨.int (g i j),H,I.tok _,⟨_,rfl⟩,q⟩
theorem Adp {f:Value->Value->Sem Value}{g:Int->Int->Bool}
  (rule:∀(i j:Int)(t u:Tok)(s:Shared)(Q:Value->Shared->Prop)(E:Value->Shared->Prop),Q (.bool (g i j)) s->wpAny (model X.prog X.w) X.A (f (.int i t) (.int j u)) Q E s):
  OpR X f (rI0 λi j=>.bl (g i j)):=by
 intro pins s σ H x y v u Q I rx ry h
 obtain⟨i,j,rfl,rfl,q⟩:=h
 obtain⟨t,rfl⟩:=rx
 obtain⟨t',rfl⟩:=ry
 exact rule i j t t' s _ _ ⟨.bl (g i j),H,I,rfl,q⟩
def Afu (i j:Int):Prop:=0<j/\j<1073741824
def CMul (i j:Int):Prop:=(-(2 ^ 64)<i/\i<2 ^ 64)∨(-(2 ^ 64)<j/\j<2 ^ 64)
theorem CMul.ok {i j:Int}(h:CMul i j):IntMulOk i j:=by
 rcases h with⟨h1,h2⟩|⟨h1,h2⟩
 · exact .of_left (intBits_le_64 h1 h2)
 · exact .of_right (intBits_le_64 h1 h2)
theorem Cd:OpR X (binaryOp .Add) (rI0 λi j=>.int (i+j)):=Aey λ_ _ _ _ _ _ _ q=>add_int q
theorem Nd:OpR X (binaryOp .Sub) (rI0 λi j=>.int (i-j)):=Aey λ_ _ _ _ _ _ _ q=>sub_int q
theorem dk:OpR X (binaryOp .Mult) (rI CMul λi j=>.int (i*j)):=opI λ_ _ _ _ _ _ _ hc q=>mul_int q hc.ok
theorem Vp:OpR X (binaryOp .FloorDiv) (rI Afu λi j=>.int (i/j)):=opI λi j _ _ _ _ _ hc q=>by
 have h1:(0:Int)<j:=hc.1
 have h2:j<1073741824:=hc.2
 exact floordiv_int (by lia) (by rw[Int.fdiv_eq_ediv_of_nonneg i (by lia)];exact q) (.inl (PyProof.noPylong_small (by lia)))
theorem M8:OpR X (binaryOp .Mod) (rI (λ_ j=>0<j) λi j=>.int (i%j)):=opI λi j _ _ _ _ _ hc q=>by
 have h1:(0:Int)<j:=hc
 exact mod_int' (by lia) (by rw[Int.fmod_eq_emod_of_nonneg i (by lia)];exact q)
theorem unI {f:Value->Sem Value}{g:Int->Int}
  (rule:∀(i:Int)(t:Tok)(s:Shared)(Q:Value->Shared->Prop)(E:Value->Shared->Prop),Q (.int (g i) s.toks) {s with toks:=s.toks+1}->wpAny (model X.prog X.w) X.A (f (.int i t)) Q E s):
  UnR X f (rU λi=>.int (g i)):=by
 intro pins s σ H x v Q I rx h
 obtain⟨i,rfl,q⟩:=h
 obtain⟨t,rfl⟩:=rx
 exact rule i t s _ _ ⟨.int (g i),H,I.tok _,⟨_,rfl⟩,q⟩
theorem vn:UnR X (unaryOp .USub) (rU λi=>.int (-i)):=unI λ_ _ _ _ _ q=>neg_int q
end
def Ae4:V->V->Bool
 | .non,.non=>true| .non,.int _=>true| .int _,.non=>true| .non,.bl _=>true| .bl _,.non=>true| .non,.str _=>true| .str _,.non=>true
 | .int _,.int _=>true| .bl _,.bl _=>true| .str _,.str _=>true| .byt _,.byt _=>true
 | .int _,.str _=>true| .str _,.int _=>true| .bl _,.str _=>true| .str _,.bl _=>true
 | _,_=>false
def rEq:R2:=λx y H Q=>Ae4 x y=true/\Q (.bl (decide (x=y))) H
def rNe:R2:=λx y H Q=>Ae4 x y=true/\Q (.bl (!decide (x=y))) H
theorem qh {i j:Int}:decide (V.int i=V.int j)=(i==j):=by
 rw[Alb]
 simp
theorem yz {i j:Bool}:decide (V.bl i=V.bl j)=(i==j):=by
 rw[Alb]
 simp
theorem rf {i j:Str}:decide (V.str i=V.str j)=(i==j):=by
 rw[Alb]
 simp
theorem oj {i j:Array UInt8}:decide (V.byt i=V.byt j)=(i.toList==j.toList):=by
 rw[Alb]
 cases i
 cases j
 simp
section
variable {X:Cx}{a b c:Expr}{ta tb tc:TE}{pos:Pos}
theorem Ck {pins:List (Addr×Obj)}{σ:St}{H:Hp}{s:Shared}{Q:VK}{k k':Bool}(I:Inv X pins σ H s)(q:Q (.bl k) H)(e:k=k'):EP X pins σ Q (.bool k') s:=by
 subst e
 exact⟨.bl k,H,I,rfl,q⟩
theorem So:OpR X (compareOp .Eq) rEq:=by
 intro pins s σ H x y v u Q I rx ry h
 obtain⟨hs,q⟩:=h
 cases x with
 |
  non=>
  cases rx
  cases y with
  | non=>cases ry;exact PySem.EqNone.eq_none_none (Ck I q (by simp))
  | bl j=>cases ry;exact PySem.EqNone.eq_none_bool (Ck I q (by simp))
  | int j=>obtain⟨t',rfl⟩:=ry;exact PySem.EqNone.eq_none_int (Ck I q (by simp))
  | str j=>obtain⟨t',rfl⟩:=ry;exact PySem.EqNone.eq_none_str (Ck I q (by simp))
  | _=>exact absurd (show false=true from hs) Ags
 |
  bl i=>
  cases rx
  cases y with
  | non=>cases ry;exact PySem.EqNone.eq_bool_none (Ck I q (by simp))
  | bl j=>cases ry;exact eq_bool (Ck I q yz)
  | str j=>obtain⟨t',rfl⟩:=ry;exact PySem.EqMixed.eq_bool_str (Ck I q (by simp))
  | _=>exact absurd (show false=true from hs) Ags
 |
  int i=>
  obtain⟨t,rfl⟩:=rx
  cases y with
  | non=>cases ry;exact PySem.EqNone.eq_int_none (Ck I q (by simp))
  | int j=>obtain⟨t',rfl⟩:=ry;exact eq_int (Ck I q qh)
  | str j=>obtain⟨t',rfl⟩:=ry;exact PySem.EqMixed.eq_int_str (Ck I q (by simp))
  | _=>exact absurd (show false=true from hs) Ags
 |
  str i=>
  obtain⟨t,rfl⟩:=rx
  cases y with
  | non=>cases ry;exact PySem.EqNone.eq_str_none (Ck I q (by simp))
  | bl j=>cases ry;exact PySem.EqMixed.eq_str_bool (Ck I q (by simp))
  | int j=>obtain⟨t',rfl⟩:=ry;exact PySem.EqMixed.eq_str_int (Ck I q (by simp))
  | str j=>obtain⟨t',rfl⟩:=ry;exact eq_str (Ck I q rf)
  | _=>exact absurd (show false=true from hs) Ags
 |
  byt i=>
  obtain⟨t,rfl⟩:=rx
  cases y with
  | byt j=>obtain⟨t',rfl⟩:=ry;exact W.eq_bytes (Ck I q oj)
  | _=>exact absurd (show false=true from hs) Ags
 | _=>cases y<;>exact absurd (show false=true from hs) Ags
theorem Acr:OpR X (compareOp .NotEq) rNe:=by
 intro pins s σ H x y v u Q I rx ry h
 obtain⟨hs,q⟩:=h
 cases x with
 |
  non=>
  cases rx
  cases y with
  | non=>cases ry;exact PySem.EqNone.ne_none_none (Ck I q (by simp))
  | bl j=>cases ry;exact PySem.EqNone.ne_none_bool (Ck I q (by simp))
  | int j=>obtain⟨t',rfl⟩:=ry;exact PySem.EqNone.ne_none_int (Ck I q (by simp))
  | str j=>obtain⟨t',rfl⟩:=ry;exact PySem.EqNone.ne_none_str (Ck I q (by simp))
  | _=>exact absurd (show false=true from hs) Ags
 |
  bl i=>
  cases rx
  cases y with
  | non=>cases ry;exact PySem.EqNone.ne_bool_none (Ck I q (by simp))
  | bl j=>cases ry;exact ne_bool (Ck I q (Ahb not yz))
  | str j=>obtain⟨t',rfl⟩:=ry;exact PySem.EqMixed.ne_bool_str (Ck I q (by simp))
  | _=>exact absurd (show false=true from hs) Ags
 |
  int i=>
  obtain⟨t,rfl⟩:=rx
  cases y with
  | non=>cases ry;exact PySem.EqNone.ne_int_none (Ck I q (by simp))
  | int j=>obtain⟨t',rfl⟩:=ry;exact ne_int (Ck I q (Ahb not qh))
  | str j=>obtain⟨t',rfl⟩:=ry;exact PySem.EqMixed.ne_int_str (Ck I q (by simp))
  | _=>exact absurd (show false=true from hs) Ags
 |
  str i=>
  obtain⟨t,rfl⟩:=rx
  cases y with
  | non=>cases ry;exact PySem.EqNone.ne_str_none (Ck I q (by simp))
  | bl j=>cases ry;exact PySem.EqMixed.ne_str_bool (Ck I q (by simp))
  | int j=>obtain⟨t',rfl⟩:=ry;exact PySem.EqMixed.ne_str_int (Ck I q (by simp))
  | str j=>obtain⟨t',rfl⟩:=ry;exact ne_str (Ck I q (Ahb not rf))
  | _=>exact absurd (show false=true from hs) Ags
 |
  byt i=>
  obtain⟨t,rfl⟩:=rx
  cases y with
  | byt j=>obtain⟨t',rfl⟩:=ry;exact W.ne_bytes (Ck I q (Ahb not oj))
  | _=>exact absurd (show false=true from hs) Ags
 | _=>cases y<;>exact absurd (show false=true from hs) Ags
theorem M5:OpR X (compareOp .Lt) (rI0 λi j=>.bl (decide (i<j))):=Adp λ_ _ _ _ _ _ _ q=>lt_int q
theorem tu:OpR X (compareOp .LtE) (rI0 λi j=>.bl (decide (i<=j))):=Adp λ_ _ _ _ _ _ _ q=>le_int q
theorem Vm:OpR X (compareOp .Gt) (rI0 λi j=>.bl (decide (j<i))):=Adp λ_ _ _ _ _ _ _ q=>gt_int q
theorem p8:OpR X (compareOp .GtE) (rI0 λi j=>.bl (decide (j<=i))):=Adp λ_ _ _ _ _ _ _ q=>ge_int q
theorem o5:OpR X (compareOp .In) (λx y H Q=>∃i j,x=.str i/\y=.str j/\Q (.bl (!(Builtin.Str.occurrences j i 0 j.length 1).isEmpty)) H):=by
 intro pins s σ H x y v u Q I rx ry h
 obtain⟨i,j,rfl,rfl,q⟩:=h
 obtain⟨t,rfl⟩:=rx
 obtain⟨t',rfl⟩:=ry
 exact in_str (Ck I q rfl)
theorem Xw:OpR X (compareOp .Is) (λx y H Q=>y=.non/\Q (.bl (decide (x=.non))) H):=by
 intro pins s σ H x y v u Q I rx ry h
 obtain⟨rfl,q⟩:=h
 cases ry
 refine is_none_gen (Ck I q ?_)
 cases x<;>first
  | (cases rx;rfl)
  | (obtain⟨t,rfl⟩:=rx;rfl)
theorem A6 (b:Expr){op:CmpOp}(h:op≠ .In:=by decide)(h2:op≠ .NotIn:=by decide):behindInMarks op b=false:=by
 have e1:(op==CmpOp.In)=false:=by cases op<;>first|rfl|exact absurd rfl h
 have e2:(op==CmpOp.NotIn)=false:=by cases op<;>first|rfl|exact absurd rfl h2
 cases b<;>simp[behindInMarks,e1,e2]
theorem L5 {op:CmpOp}{r:R2}(ho:OpR X (compareOp op) r)(ha:PE X a ta)(hb:PE X b tb)(hm:behindInMarks op b=false):PE X (.Compare a [op] [b] pos) (tOp r ta tb):=by
 intro pins s σ H Q I h
 exact wpAny_Compare1 (Ady ha hb I h λv u s2 x y H2 I2 rx ry q=>ho pins s2 σ H2 x y v u Q I2 rx ry q) hm
def Ac0 (t:TE):TT:=λσ H Q=>t σ H λx H'=>∃k,x=.bl k/\Q k H'
theorem A2 {op:CmpOp}{r:R2}(ho:OpR X (compareOp op) r)(ha:PE X a ta)(hb:PE X b tb)(hm:behindInMarks op b=false):PT X (.Compare a [op] [b] pos) (Ac0 (tOp r ta tb)):=by
 intro pins s σ H Q I h
 refine wpAny_isTrue_Compare1 (thn (ha pins s σ H _ I h) λv s1 ⟨x,H1,I1,r1,q1⟩=>thn (hb pins s1 σ H1 _ I1 q1) λu s2 ⟨y,H2,I2,r2,q2⟩=>
  thn (ho pins s2 σ H2 x y v u _ I2 r1 r2 q2) λc s3 ⟨z,H3,I3,r3,k,e,q3⟩=>?_) hm
 subst e
 cases r3
 exact Ahx ⟨H3,I3,q3⟩
def yl (r r':R2)(ta tb tc:TE):TE:=λσ H Q=>ta σ H λx H1=>tb σ H1 λy H2=>r x y H2 λz H3=>∃k,z=.bl k/\
 (if k=true then tc σ H3 λw' H4=>r' y w' H4 Q else Q (.bl false) H3)
theorem xn {op op':CmpOp}{r r':R2}(ho:OpR X (compareOp op) r)(ho':OpR X (compareOp op') r')(ha:PE X a ta)(hb:PE X b tb)(hc:PE X c tc)
  (hm:lastMarks [op,op'] [b,c]=false:=by with_unfolding_all rfl):PE X (.Compare a [op,op'] [b,c] pos) (yl r r' ta tb tc):=by
 intro pins s σ H Q I h
 refine Compare_chain (thn (ha pins s σ H _ I h) λv s1 ⟨x,H1,I1,r1,q1⟩=>chain_link (thn (hb pins s1 σ H1 _ I1 q1) λu s2 ⟨y,H2,I2,r2,q2⟩=>
  thn (ho pins s2 σ H2 x y v u _ I2 r1 r2 q2) λd s3 ⟨z,H3,I3,r3,k,e,q3⟩=>?_)) hm
 subst e
 cases r3
 refine Ahx ?_
 cases k with
 | false=>exact ite_ff ⟨.bl false,H3,I3,rfl,q3⟩
 | true=>exact ite_tt (chain_last (thn (hc pins s3 σ H3 _ I3 q3) λw' s4 ⟨z',H4,I4,r4,q4⟩=>ho' pins s4 σ H4 y z' u w' Q I4 r2 r4 q4))
theorem Zy {op op':CmpOp}{r r':R2}(ho:OpR X (compareOp op) r)(ho':OpR X (compareOp op') r')(ha:PE X a ta)(hb:PE X b tb)(hc:PE X c tc)
  (hm:lastMarks [op,op'] [b,c]=false:=by with_unfolding_all rfl):PT X (.Compare a [op,op'] [b,c] pos) (Ac0 (yl r r' ta tb tc)):=by
 intro pins s σ H Q I h
 refine isTrue_chain (thn (ha pins s σ H _ I h) λv s1 ⟨x,H1,I1,r1,q1⟩=>test_link (thn (hb pins s1 σ H1 _ I1 q1) λu s2 ⟨y,H2,I2,r2,q2⟩=>
  thn (ho pins s2 σ H2 x y v u _ I2 r1 r2 q2) λd s3 ⟨z,H3,I3,r3,k,e,q3⟩=>?_)) hm
 subst e
 cases r3
 refine Ahx ?_
 cases k with
 |
  false=>
  obtain⟨k',e',q'⟩:=q3
  cases e'
  exact ite_ff ⟨H3,I3,q'⟩
 |
  true=>
  refine ite_tt (test_last (thn (hc pins s3 σ H3 _ I3 q3) λw' s4 ⟨z',H4,I4,r4,q4⟩=>thn (ho' pins s4 σ H4 y z' u w' _ I4 r2 r4 q4) λd' s5 hz=>?_))
  obtain⟨z2,H5,I5,r5,k2,e2,q5⟩:=hz
  subst e2
  cases r5
  exact Ahx ⟨H5,I5,q5⟩
def Ae6 (K:W.Frag)(x:V)(H:Hp)(k:Bool):Prop:=
 match x with
 | .non=>k=false
 | .bl b=>k=b
 | .int i=>k=(i != 0)
 | .str y=>y.length<=sizeLine/\k=((y.length:Int) != 0)
 | .byt y=>y.size<=sizeLine/\k=((y.size:Int) != 0)
 | .ref p=>(∃xs,SqL K H p xs/\k= !xs.isEmpty)∨(∃xs,SqT K H p xs/\k= !xs.isEmpty)∨∃kvs,H p=some (.dK kvs)/\k= !kvs.isEmpty
 | _=>False
theorem lr {κ:Type}{kvs:List (κ×V)}{vs:List (κ×Value)}(r:KV kvs vs):(!vs.isEmpty)= !kvs.isEmpty:=by
 cases r<;>rfl
theorem Xi {xs:List V}{its:List Value}(r:Vals xs its):(!its.toArray.isEmpty)= !xs.isEmpty:=by
 cases r<;>simp
theorem V3:(sizeLine:Nat)<2 ^ 63:=by rw[Ahr];decide
theorem Abx:Af9 X (λx H Q=>∃k,Ae6 X.K x H k/\Q k H):=by
 intro pins s σ H x v Q I rx h
 obtain⟨k,e,q⟩:=h
 have hl:=V3
 have hs:sizeLine=16777216:=Ahr
 cases x with
 |
  non=>
  cases rx
  have e':k=false:=e
  subst e'
  exact truthy_none ⟨H,I,q⟩
 |
  bl b=>
  cases rx
  have e':k=b:=e
  subst e'
  exact Ahx ⟨H,I,q⟩
 |
  int i=>
  obtain⟨t,rfl⟩:=rx
  have e':k=(i != 0):=e
  subst e'
  exact PySem.P.truthy_int ⟨H,I,q⟩
 |
  str y=>
  obtain⟨t,rfl⟩:=rx
  obtain⟨hy,e'⟩:y.length<=sizeLine/\k=((y.length:Int) != 0):=e
  subst e'
  exact PySem.P.truthy_str (by lia) ⟨H,I.tok _,q⟩
 |
  byt y=>
  obtain⟨t,rfl⟩:=rx
  obtain⟨hy,e'⟩:y.size<=sizeLine/\k=((y.size:Int) != 0):=e
  subst e'
  exact W.truthy_bytes (by lia) ⟨H,I.tok _,q⟩
 |
  ref p=>
  cases rx
  have e':(∃xs,SqL X.K H p xs/\k= !xs.isEmpty)∨(∃xs,SqT X.K H p xs/\k= !xs.isEmpty)∨∃kvs,H p=some (.dK kvs)/\k= !kvs.isEmpty:=e
  rcases e' with⟨xs,hx,e'⟩|⟨xs,hx,e'⟩|⟨kvs,hx,e'⟩
  ·
   subst e'
   obtain⟨its,r,pl,hz⟩:=I.list hx
   have hlen:=r.length
   exact wpAny_truthy_list pl.isList (by simp only[Agm];lia) ⟨H,I.tok _,by rw[Xi r];exact q⟩
  ·
   subst e'
   obtain⟨its,r,pl,hz⟩:=I.tuple hx
   have hlen:=r.length
   exact truthy_tuple pl (by simp only[Agm];lia) ⟨H,I.tok _,by rw[Xi r];exact q⟩
  ·
   subst e'
   obtain⟨hz,hS,vs,r,m⟩:kvs.length<=sizeLine/\(p==sysModules)=false/\∃vs,KV kvs vs/\s.heap.DictOf (A4 X.prog X.w) p vs:=I.hok p _ hx
   have hlen:kvs.length=vs.length:=Ald r
   exact wpAny_truthy_dict hS m (by lia) ⟨H,I.tok _,by rw[lr r];exact q⟩
 | _=>exact(show False from e).elim
theorem U1 (ha:PE X a ta)(he:∀whole,isTrue a X.env whole=(do let v ←whole;standAt a.pos;holding [v] (truthy v))):
  PT X a (λσ H Q=>ta σ H λx H'=>∃k,Ae6 X.K x H' k/\Q k H'):=by
 intro pins s σ H Q I h
 exact isTrue_plain (thn (ha pins s σ H _ I h) λv s1 ⟨x,H1,I1,r1,q1⟩=>Abx pins s1 σ H1 x v Q I1 r1 q1) (he _)
theorem Sg:OpR X (binaryOp .Add) (λx y H Q=>∃i j,x=.str i/\y=.str j/\i.length+j.length<=sizeLine/\Q (.str (i++j)) H):=by
 intro pins s σ H x y v u Q I rx ry h
 obtain⟨i,j,rfl,rfl,hz,q⟩:=h
 obtain⟨t,rfl⟩:=rx
 obtain⟨t',rfl⟩:=ry
 exact add_str (λt' tk=>⟨.str (i++j),H,I.tok _,⟨_,rfl⟩,q⟩) hz
theorem vals1 {x:V}{us:List Value}(r:Vals [x] us):∃u,us=[u]/\RelV x u:=by
 cases r with
 | cons r1 r2=>cases r2;exact⟨_,rfl,r1⟩
theorem vals2 {x y:V}{us:List Value}(r:Vals [x,y] us):∃u w',us=[u,w']/\RelV x u/\RelV y w':=by
 cases r with
 |
  cons r1 r2=>
  cases r2 with
  | cons r3 r4=>cases r4;exact⟨_,_,rfl,r1,r3⟩
theorem V4 (hc:X.calm=true):Jp X (.builtin "max") (λxs H Q=>∃i j,xs=[.int i,.int j]/\Q (.int (if j>i then j else i)) H):=by
 intro pins s σ H xs us Q I r h
 obtain⟨i,j,rfl,q⟩:=h
 obtain⟨u,w',rfl,⟨t,rfl⟩,⟨t',rfl⟩⟩:=vals2 r
 refine max_two_ints (I.ok.hd hc) λh' tk k=>⟨_,H,I.kept k,?_,q⟩
 by_cases hj:j>i
 · rw[if_pos hj,if_pos hj];exact⟨_,rfl⟩
 · rw[if_neg hj,if_neg hj];exact⟨_,rfl⟩
theorem R6 (hc:X.calm=true):Jp X (.builtin "min") (λxs H Q=>∃i j,xs=[.int i,.int j]/\Q (.int (if j<i then j else i)) H):=by
 intro pins s σ H xs us Q I r h
 obtain⟨i,j,rfl,q⟩:=h
 obtain⟨u,w',rfl,⟨t,rfl⟩,⟨t',rfl⟩⟩:=vals2 r
 refine min_two_ints (I.ok.hd hc) λh' tk k=>⟨_,H,I.kept k,?_,q⟩
 by_cases hj:j<i
 · rw[if_pos hj,if_pos hj];exact⟨_,rfl⟩
 · rw[if_neg hj,if_neg hj];exact⟨_,rfl⟩
theorem Cp:Jp X (.type "int") (λxs H Q=>(∃i,xs=[.int i]/\Q (.int i) H)∨∃k,xs=[.bl k]/\Q (.int (if k then 1 else 0)) H):=by
 intro pins s σ H xs us Q I r h
 rcases h with⟨i,rfl,q⟩|⟨k,rfl,q⟩
 ·
  obtain⟨u,rfl,t,rfl⟩:=vals1 r
  exact call_int_int ⟨.int i,H,I,⟨_,rfl⟩,q⟩
 ·
  obtain⟨u,rfl,r1⟩:=vals1 r
  cases r1
  exact call_int_bool ⟨.int (if k then 1 else 0),H,I.tok _,⟨_,rfl⟩,q⟩
end
structure ObjM (h:Heap)(x dx C:Addr)(mA:Str->Option Value):Prop where
 obj:h.get? x=some (W.instObj C dx)
 ns:h.Ns1 dx mA
 ne:dx≠x
theorem rm {h:Heap}{dx:Addr}{mA:Str->Option Value}(n:h.Ns1 dx mA):∃od,h.get? dx=some od/\∀name,W.lookIn name od=some (mA name):=by
 obtain⟨o,es,ep,ho,hd,hk,_,hm⟩:=n
 refine⟨o,ho,λname=>?_⟩
 have e:=hm name
 unfold nsFind findBy at e
 rw[←Array.find?_toList] at e
 unfold W.lookIn
 rw[hd]
 dsimp only
 split
 ·
  rename_i y q
  rw[q] at e
  exact Ahb some e
 ·
  rename_i q
  rw[q] at e
  have a:es.toList.any (·.refKey)=false:=by
   rw[List.any_eq_false]
   intro y hy
   obtain⟨z,t,hkey⟩:=hk y (Array.mem_toList_iff.mp hy)
   simp[DictEntry.refKey,hkey]
  have a':¬es.toList.any (·.refKey)=true:=by rw[a];exact Ags
  rw[if_neg a']
  exact Ahb some e
theorem ObjM.look {h:Heap}{x dx C:Addr}{mA:Str->Option Value}(I:ObjM h x dx C mA):∃od,W.InstAt h x (W.instObj C dx) C (some od)/\∀name,W.lookIn name od=some (mA name):=
 let ⟨od,ho,hl⟩:=rm I.ns
 ⟨od,⟨I.obj,rfl,rfl,ho⟩,hl⟩
section
variable {prog:Program}{w:World}{A:Around}{E:Value->Shared->Prop}{s:Shared}{K:W.Frag}{x dx C f:Addr}{mA:Str->Option Value}{name:Str}{v:Value}
theorem get_map {expr:Bool}{Q:Value->Shared->Prop}(X:K.In s.heap)(I:ObjM s.heap x dx C mA)(hg:W.plainGet K C name=true)(hh:W.hasDictIn K C=true)
  (ha:W.findIn K (.ref C) name=some none) (hv:mA name=some v) (hv':W.handedIn v=true) (h:Q v {s with toks:=s.toks+1}):
  wpAny (model prog w) A (getAttr (.ref x) name expr) Q E s:=by
 obtain⟨od,J,hl⟩:=I.look
 exact W.get_value X J (W.plainGet_of hg).1 (W.findObj_own hh ha rfl (by rw[hl,hv])) hv' h
theorem xv {pl:Sem Bool}{Q:Value×List Value->Shared->Prop}(X:K.In s.heap)(I:ObjM s.heap x dx C mA)(hg:W.plainGet K C name=true)
  (hf:W.findIn K (.ref C) name=some (some (.ref f))) (ht:W.isFn K (.ref f)=true) (hv:mA name=none) (h:Q (.ref f,[.ref x]) s):
  wpAny (model prog w) A (getMethod (.ref x) name pl) Q E s:=by
 obtain⟨od,J,hl⟩:=I.look
 exact W.method_fn X J (W.plainGet_of hg).1 (W.plainGet_of hg).2 hf (beq_iff_eq.mp ht) (by show(W.lookIn name od).map (·.isSome)=some false;rw[hl,hv];rfl) h
theorem Aal {ns:List Str}{Q:Unit->Shared->Prop}(X:K.In s.heap)(I:ObjM s.heap x dx C mA)
  (hs:W.findIn K (.ref C) "__setattr__"=some (some (.builtin "object.__setattr__"))) (hp:W.plainOver K C=true) (ht:W.takerIn K C name=some none) (hh:W.hasDictIn K C=true)
  (hw:PySem.Within mA ns) (hsz:ns.length<=sizeLine)
  (h:∀h',ObjM h' x dx C (λy=>if y=name then some v else mA y)->Heap.SameBut dx s.heap h'->Q () {s with heap:=h',toks:=s.toks+2}):
  wpAny (model prog w) A (setAttr (.ref x) name v) Q E s:=by
 obtain⟨od,J,hl⟩:=I.look
 refine W.set_plain X J hs (W.osa_open (s:={s with toks:=s.toks+1}) (r:=none) X J hp ht λb=>?_)
 obtain⟨cd,hc,hd'⟩:=W.any_some hh
 have hx:s.heap.get? x=some ⟨.ref C,some dx,.plain,#[]⟩:=I.obj
 refine Aga (Agb (Aga (Aga (wpAny_loadPart hx (Aga (W.Looks.here (s:={s with toks:=s.toks+1}) (W.looks_clsIn X hc) ?_))))))
 rw[hd']
 refine Agb (a:=some dx) (Aga (Agb (Aga ?_)))
 refine wpAny_nsSet1 (s:={s with toks:=s.toks+1}) I.ns λh' hn2 hs2=>?_
 obtain⟨oD,esD,epD,hoD,hdD,hcD⟩:=hn2.count (PySem.Within.cons name v hw)
 refine Aga (wpAny_lookBehind hoD (by rw[hdD];exact pastItsLine_dict (Ag1 hcD (by rw[Agr];lia))) ?_)
 exact Agb (h _ ⟨(hs2.2 _ (Aj3 I.ne)).trans I.obj,hn2,I.ne⟩ hs2)
theorem yi {R:Result->Shared->Prop}{vs:List Value}{kw:List (Str×Value)}(X:K.In s.heap)(hm:W.makesIn K C=true)
  (hi:W.findIn K (.ref C) "__init__"=some (some (.ref f))) (hf:W.typeIn K (.ref f)=some (.type "function"))
  (h:codeAny (model prog w) (A.under (.builtin "type.__call__" ⟨.ref C::vs,kw⟩)) (.call (.ref f) ⟨.ref (s.heap.objs.size+1)::vs,kw⟩) (W.InitBack (s.heap.objs.size+1) R)
   {s with heap:=(s.heap.push W.emptyDict).push (W.instObj C s.heap.objs.size)}):
  codeAny (model prog w) A (.call (.ref C) ⟨vs,kw⟩) R s:=by
 obtain⟨hh,g,d,t,os⟩:=s
 exact W.make_core (W.makes_of X hm) (Al2 X hi) (λself=>W.bind_fn X self hf) (.inl rfl) h
end
def eh (f:Str)(v:V):List (Str×V)->List (Str×V)
 | []=>[(f,v)]
 | (g,x)::r=>if g=f then(g,v)::r else(g,x)::eh f v r
theorem Wh (f g:Str)(v:V):∀fs:List (Str×V),(eh f v fs).lookup g=if g=f then some v else fs.lookup g
 |
  []=>by
  show List.lookup g [(f,v)]=_
  by_cases h:g=f
  ·
   have hb:(g==f)=true:=beq_iff_eq.mpr h
   simp only[List.lookup,hb,if_pos h]
  ·
   have hb:(g==f)=false:=Aij.mpr h
   simp only[List.lookup,hb,if_neg h]
 |
  (k,x)::r=>by
  have ih:=Wh f g v r
  rw[show eh f v ((k,x)::r)=(if k=f then(k,v)::r else(k,x)::eh f v r) from rfl]
  by_cases hk:k=f
  ·
   rw[if_pos hk]
   by_cases h:g=k
   ·
    have hb:(g==k)=true:=beq_iff_eq.mpr h
    simp only[List.lookup,hb,if_pos (h.trans hk)]
   ·
    have hb:(g==k)=false:=Aij.mpr h
    simp only[List.lookup,hb,if_neg (λe:g=f=>h (e.trans hk.symm))]
  ·
   rw[if_neg hk]
   by_cases h:g=k
   ·
    have hb:(g==k)=true:=beq_iff_eq.mpr h
    simp only[List.lookup,hb,if_neg (λe:g=f=>hk (h.symm.trans e))]
   ·
    have hb:(g==k)=false:=Aij.mpr h
    simp only[List.lookup,hb]
    exact ih
theorem Vt (f:Str)(v:V):∀fs:List (Str×V),f∈(eh f v fs).map (·.1)/\∀g,g∈fs.map (·.1)->g∈(eh f v fs).map (·.1)
 | []=>⟨by simp[eh],λg h=>by simp at h⟩
 |
  (k,x)::r=>by
  obtain⟨i1,i2⟩:=Vt f v r
  rw[show eh f v ((k,x)::r)=(if k=f then(k,v)::r else(k,x)::eh f v r) from rfl]
  by_cases hk:k=f
  ·
   rw[if_pos hk]
   subst hk
   exact⟨by simp,λg h=>by simpa using h⟩
  ·
   rw[if_neg hk]
   refine⟨?_,λg h=>?_⟩
   ·
    rw[Agy]
    exact Agh _ i1
   ·
    rw[Agy] at h ⊢
    rcases Agx.mp h with e|e
    · exact List.mem_cons.mpr (.inl e)
    · exact Agh _ (i2 g e)
theorem Wm (f:Str)(v:V):∀fs:List (Str×V),(eh f v fs).length<=fs.length+1
 | []=>by simp[eh]
 |
  (k,x)::r=>by
  have ih:=Wm f v r
  rw[show eh f v ((k,x)::r)=(if k=f then(k,v)::r else(k,x)::eh f v r) from rfl]
  by_cases hk:k=f
  · rw[if_pos hk,Agr,Agr];lia
  · rw[if_neg hk,Agr,Agr];lia
theorem RelO.some_of {v:V}{o:Option Value}(r:RelO (some v) o):∃u,o=some u/\RelV v u:=by
 cases o with
 | none=>exact(show False from r).elim
 | some u=>exact⟨u,rfl,r⟩
theorem RelO.none_of {o:Option Value}(r:RelO none o):o=none:=by
 cases o with
 | none=>rfl
 | some u=>exact(show False from r).elim
theorem o7 {v:V}{u:Value}(r:RelV v u):W.handedIn u=true:=by
 cases v with
 | non=>cases (show u=Value.none from r);rfl
 | bl b=>cases (show u=Value.bool b from r);rfl
 | int i=>obtain⟨t,e⟩:=(show ∃t,u=Value.int i t from r);cases e;rfl
 | str x=>obtain⟨t,e⟩:=(show ∃t,u=Value.str x t from r);cases e;rfl
 | byt b=>obtain⟨t,e⟩:=(show ∃t,u=Value.bytes b t from r);cases e;rfl
 | flt b=>obtain⟨t,e⟩:=(show ∃t,u=Value.float b t from r);cases e;rfl
 | ref a=>cases (show u=Value.ref a from r);rfl
 | ty n=>cases (show u=Value.type n from r);rfl
section
variable {P:Program}{w:World}{H H':Hp}{h h':Heap}{a C dx:Addr}{fs fs':List (Str×V)}
theorem Zl (hok:HOk P w H h)(e:H a=some (.ins C dx fs)):∃mA,ObjM h a dx C mA/\(∀f,RelO (fs.lookup f) (mA f))/\PySem.Within mA (fs.map (·.1))/\fs.length<=1000/\H dx=some (.own a):=by
 obtain⟨d,z,ne,ob,mA,n,r,q⟩:=(show ObjOk P w H h a (.ins C dx fs) from hok a _ e)
 exact⟨mA,⟨ob,n,ne⟩,r,q,z,d⟩
end
structure Cls (K:W.Frag)(C:Addr):Prop where
 pg:W.plainGet K C Str.empty=true
 hd:W.hasDictIn K C=true
 po:W.plainOver K C=true
 sa:W.findIn K (.ref C) "__setattr__"=some (some (.builtin "object.__setattr__"))
theorem Cls.get {K:W.Frag}{C:Addr}(c:Cls K C)(f:Str):W.plainGet K C f=true:=c.pg
def NoAttr (K:W.Frag)(C:Addr)(f:Str):Prop:=W.findIn K (.ref C) f=some none
theorem NoAttr.taker {K:W.Frag}{C:Addr}{f:Str}(n:NoAttr K C f):W.takerIn K C f=some none:=by
 unfold W.takerIn
 rw[show W.findIn K (.ref C) f=some none from n]
 rfl
structure Meth (K:W.Frag)(C:Addr)(m:Str)(f:Addr):Prop where
 at_:W.findIn K (.ref C) m=some (some (.ref f))
 fn:W.isFn K (.ref f)=true
 kp:W.keepIn K (.ref f)=true
section
variable {X:Cx}{pins:List (Addr×Obj)}{σ:St}{H:Hp}{s:Shared}{a C dx:Addr}{fs:List (Str×V)}{f:Str}{v:V}{A:Around}{E:Value->Shared->Prop}
theorem k9 {b:Bool}{Q:Value->Shared->Prop}(I:Inv X pins σ H s)(e:H a=some (.ins C dx fs))(c:Cls X.K C)(n:NoAttr X.K C f)(l:fs.lookup f=some v)
  (h:∀u s',Inv X pins σ H s'->RelV v u->Q u s'):wpAny (model X.prog X.w) A (getAttr (.ref a) f b) Q E s:=by
 obtain⟨mA,O,r,_,_,_⟩:=Zl I.hok e
 obtain⟨u,hu,ru⟩:=RelO.some_of (v:=v) (o:=mA f) (by rw[←l];exact r f)
 exact get_map I.kIn O (c.get f) c.hd n hu (o7 ru) (h u _ (I.tok _) ru)
theorem Sl {m:Str}{g:Addr}{pl:Sem Bool}{Q:Value×List Value->Shared->Prop}(I:Inv X pins σ H s)(e:H a=some (.ins C dx fs))(c:Cls X.K C)(k:Meth X.K C m g)(l:fs.lookup m=none)
  (h:Q (.ref g,[.ref a]) s):wpAny (model X.prog X.w) A (getMethod (.ref a) m pl) Q E s:=by
 obtain⟨mA,O,r,_,_,_⟩:=Zl I.hok e
 have hn:mA m=none:=RelO.none_of (by rw[←l];exact r m)
 exact xv I.kIn O (c.get m) k.at_ k.fn hn h
theorem lz {y:V}{u:Value}{Q:Unit->Shared->Prop}(I:Inv X pins σ H s)(e:H a=some (.ins C dx fs))(c:Cls X.K C)(n:NoAttr X.K C f)(hl:fs.length<1000)(ry:RelV y u)
  (h:∀s',Inv X pins σ (upd H a (.ins C dx (eh f y fs))) s'->Q () s'):wpAny (model X.prog X.w) A (setAttr (.ref a) f u) Q E s:=by
 obtain⟨mA,O,r,wi,_,ho⟩:=Zl I.hok e
 have hz:(fs.map (·.1)).length<=sizeLine:=by rw[Agd,Ahr];lia
 refine Aal I.kIn O c.sa c.po n.taker c.hd wi hz λh' O' sb=>h _ ?_
 have hd:∃o,h'.get? dx=some o:=let ⟨o,_,_,e',_⟩:=O'.ns;⟨o,e'⟩
 refine I.write (x:=a) (e:=dx) (by rw[e];exact True.intro) (.inr ho) (λb q hb z=>(sb.2 b hb).trans z) hd ?_
 refine⟨by rw[Ak O.ne];exact ho,?_,O.ne,O'.obj,_,O'.ns,λg=>?_,λg hg=>?_⟩
 · have:=Wm f y fs;lia
 ·
  show RelO ((eh f y fs).lookup g) (if g=f then some u else mA g)
  rw[Wh]
  by_cases q:g=f
  · rw[if_pos q,if_pos q];exact ry
  · rw[if_neg q,if_neg q];exact r g
 ·
  by_cases q:g=f
  · rw[q];exact(Vt f y fs).1
  ·
   refine(Vt f y fs).2 g (wi g λz=>hg ?_)
   show(if g=f then some u else mA g)=none
   rw[if_neg q];exact z
theorem Inv.made (I:Inv X pins σ H s):Inv X pins σ (upd (upd H s.heap.objs.size (.own (s.heap.objs.size+1))) (s.heap.objs.size+1) (.ins C s.heap.objs.size []))
  {s with heap:=(s.heap.push W.emptyDict).push (W.instObj C s.heap.objs.size)}:=by
 have e1:(s.heap.push W.emptyDict).get? s.heap.objs.size=some W.emptyDict:=Ago s.heap rfl
 have e2:((s.heap.push W.emptyDict).push (W.instObj C s.heap.objs.size)).get? (s.heap.objs.size+1)=some (W.instObj C s.heap.objs.size):=by
  have:=Ago (s.heap.push W.emptyDict) (o:=W.instObj C s.heap.objs.size) rfl
  rwa[Ahv] at this
 have e3:(s.heap.push W.emptyDict).Ns s.heap.objs.size (λ_=>none):=⟨W.emptyDict,#[],_,e1,rfl,(λe he=>absurd he (by simp)),λ_=>rfl⟩
 have I1:=I.laid (a:=s.heap.objs.size) (o:=.own (s.heap.objs.size+1)) (h':=s.heap.push W.emptyDict) (t':=s.toks) (λb u q=>Agc _ q) (Agi _) ⟨_,e1⟩
 refine I1.laid (a:=s.heap.objs.size+1) (o:=.ins C s.heap.objs.size []) (t':=s.toks) (λb u q=>Agc _ q) (Nat.le_of_eq (Ahv _ _)) ?_
 have ne:s.heap.objs.size≠s.heap.objs.size+1:=Agv (Ah9 _)
 refine⟨by rw[Ak ne,Ac],Ahn _,ne,e2,λ_=>none,(Heap.Ns1.of_empty e3).at λo q=>Agc _ q,λ_=>True.intro,λy hy=>absurd rfl hy⟩
theorem Aab {prog:Program}{w:World}{env:Env}{e:Expr}{f:Str}{pos:Pos}{s:Shared}{Q:Value->Shared->Prop}(hb:attributeBase e f env (eval e env)=eval e env)
  (h:wpAny (model prog w) A (eval e env) (λo s₁=>wpAny (model prog w) A (getAttr o f true) Q E s₁) E s):wpAny (model prog w) A (eval (.Attribute e f pos) env) Q E s:=
 Attribute_any_ h (by rw[arm_eval_Attribute,hb])
end
def Afe (K:W.Frag)(ta:TE)(f:Str):TE:=λσ H Q=>ta σ H λx H1=>∃a C dx fs v,x=.ref a/\H1 a=some (.ins C dx fs)/\Cls K C/\NoAttr K C f/\fs.lookup f=some v/\Q v H1
def Aev (K:W.Frag)(ta tv:TE)(f:Str):TS:=λD σ H=>tv σ H λy H1=>ta σ H1 λx H2=>∃a C dx fs,x=.ref a/\H2 a=some (.ins C dx fs)/\Cls K C/\NoAttr K C f/\fs.length<1000/\
 D.nx σ (upd H2 a (.ins C dx (eh f y fs)))
section
variable {X:Cx}{o e value:Expr}{f:Str}{pos pos' tpos:Pos}{ta tv:TE}
theorem Ac2 (he:PE X e ta)(hb:attributeBase e f X.env (eval e X.env)=eval e X.env):PE X (.Attribute e f pos) (Afe X.K ta f):=by
 intro pins s σ H Q I h
 refine Aab hb (thn (he pins s σ H _ I h) λu s1 hz=>?_)
 obtain⟨x,H1,I1,rx,a,C,dx,fs,v,ex,ea,c,n,l,q⟩:=hz
 subst ex
 obtain rfl:u=Value.ref a:=rx
 exact k9 I1 ea c n l λu' s2 I2 ru=>⟨v,H1,I2,ru,q⟩
theorem Ac1 (ha:PE X o ta)(hv:PE X value tv)(hs:swapsWith value (some (.Attribute o f pos')) pos.line X.env=pure false):PS X (.Assign [.Attribute o f pos'] value pos) (Aev X.K ta tv f):=by
 intro pins s σ H D I h
 refine plainObj_wpAny_Assign_Attribute (thn (hv pins s σ H _ I h) λu s1 ⟨y,H1,I1,ry,q⟩=>thn (ha pins s1 σ H1 _ I1 q) λov s2 ⟨x,H2,I2,rx,a,C,dx,fs,ex,ea,c,n,l,q2⟩=>?_) hs
 subst ex
 obtain rfl:ov=Value.ref a:=rx
 exact lz I2 ea c n l ry λs3 I3=>⟨σ,_,I3,q2⟩
end
section
variable {X:Cx}{pins:List (Addr×Obj)}{σ:St}{H:Hp}{s:Shared}{A:Around}{E:Value->Shared->Prop}{Q:Value->Shared->Prop}{c:Value}{b:Bool}
inductive ef (K:W.Frag)(H:Hp):V->Value->Prop where
 | non:ef K H .non (.type "NoneType")
 | bl (x:Bool):ef K H (.bl x) (.type "bool")
 | int (i:Int):ef K H (.int i) (.type "int")
 | str (x:Str):ef K H (.str x) (.type "str")
 | flt (x:UInt64):ef K H (.flt x) (.type "float")
 | lst {a:Addr} {xs:List V} (e:H a=some (.lst xs)):ef K H (.ref a) (.type "list")
 | frz {a:Addr} {o:Obj} {xs:List V} (e:H a=some (.frz o (.lst xs))):ef K H (.ref a) (.type "list")
 | tup {a:Addr} {xs:List V} (e:H a=some (.tup xs)):ef K H (.ref a) (.type "tuple")
 | dK {a:Addr} {kvs:List (Key×V)} (e:H a=some (.dK kvs)):ef K H (.ref a) (.type "dict")
 | dT {a:Addr} {kvs:List (List Key×V)} (e:H a=some (.dT kvs)):ef K H (.ref a) (.type "dict")
 | ins {a C dx:Addr} {fs:List (Str×V)} (e:H a=some (.ins C dx fs)) (cl:Cls K C) (ha:W.findIn K (.ref C) "__class__"=some (some (.builtin "object.__class__")))
  (hn:W.specialIn K (.builtin "object.__class__") "__get__"=some (some (.builtin "getset_descriptor.__get__"))) (htk:W.takesIn K (.builtin "object.__class__")=some true)
  (hm:W.mroIn K C (.type "object")=some true):ef K H (.ref a) (.ref C)
theorem p7 {x:V}{u t:Value}(I:Inv X pins σ H s)(rx:RelV x u)(ty:ef X.K H x t)(e:W.kitOne X.K t c=some b)(h:∀tk,Q (.bool b) {s with toks:=tk}):
  wpAny (model X.prog X.w) A (call (.builtin "isinstance") [u,c]) Q E s:=by
 cases ty with
 | non=>cases (show u=Value.none from rx);exact Ajk W.kitx_none I.kIn True.intro e (λz=>nomatch z) h
 | bl y=>cases (show u=Value.bool y from rx);exact Ajk W.kitx_bool I.kIn True.intro e (λz=>nomatch z) h
 | int i=>obtain⟨t,q⟩:=(show ∃t,u=Value.int i t from rx);cases q;exact Ajk W.kitx_int I.kIn True.intro e (λz=>nomatch z) h
 | str y=>obtain⟨t,q⟩:=(show ∃t,u=Value.str y t from rx);cases q;exact Ajk W.kitx_str I.kIn True.intro e (λz=>nomatch z) h
 | flt y=>obtain⟨t,q⟩:=(show ∃t,u=Value.float y t from rx);cases q;exact Ajk W.kitx_float I.kIn True.intro e (λz=>nomatch z) h
 |
  @lst a xs ea=>
  cases (show u=Value.ref a from rx)
  obtain⟨_,_,n,_,h1⟩:=(show ObjOk X.prog X.w H s.heap a (.lst xs) from I.hok a _ ea)
  exact Ajk W.kitx_list I.kIn ⟨_,h1,rfl⟩ e (λz=>nomatch z) h
 |
  @frz a ob xs ea=>
  cases (show u=Value.ref a from rx)
  obtain⟨_,_,_,n,_,h1⟩:=(show ObjOk X.prog X.w H s.heap a (.frz ob (.lst xs)) from I.hok a _ ea)
  exact Ajk W.kitx_list I.kIn ⟨_,h1,rfl⟩ e (λz=>nomatch z) h
 |
  @tup a xs ea=>
  cases (show u=Value.ref a from rx)
  obtain⟨_,_,_,p⟩:=(show ObjOk X.prog X.w H s.heap a (.tup xs) from I.hok a _ ea)
  obtain⟨o,h1,h2,_⟩:=p
  exact Ajk W.kitx_tuple I.kIn ⟨o,h1,h2⟩ e (λz=>nomatch z) h
 |
  @dK a kvs ea=>
  cases (show u=Value.ref a from rx)
  obtain⟨_,_,vs,_,p⟩:=(show ObjOk X.prog X.w H s.heap a (.dK kvs) from I.hok a _ ea)
  obtain⟨o,es,ep,h1,h2,_⟩:=p
  exact Ajk W.kitx_dict I.kIn ⟨o,h1,h2.1⟩ e (λz=>nomatch z) h
 |
  @dT a kvs ea=>
  cases (show u=Value.ref a from rx)
  obtain⟨_,_,xs,_,o,es,ep,h1,h2,_⟩:=(show ObjOk X.prog X.w H s.heap a (.dT kvs) from I.hok a _ ea)
  exact Ajk W.kitx_dict I.kIn ⟨o,h1,h2.1⟩ e (λz=>nomatch z) h
 |
  @ins a C dx fs ea cl ha hn htk hm=>
  cases (show u=Value.ref a from rx)
  obtain⟨mA,O,_⟩:=Zl I.hok ea
  obtain⟨od,J,_⟩:=O.look
  exact Ajk (W.kitx_own (cl.get _) cl.hd ha hn htk hm) I.kIn J e (λz=>nomatch z) h
end
structure Room (cm:Bool)(k:Nat)(A:Around):Prop where
 hd:cm=true->A.handled=none
 dp:A.depth+3*k+5<recursionLimit
 un:A.units+16*k+200<cLine
theorem Room.mono {cm:Bool}{j k:Nat}{A:Around}(r:Room cm k A)(h:j<=k):Room cm j A:=⟨r.hd,by have:=r.dp;lia,by have:=r.un;lia⟩
theorem Room.deeper {cm:Bool}{k:Nat}{A:Around}(r:Room cm (k+1) A)(env:Env):Room cm k (A.deeper env):=
 ⟨r.hd,by have:=r.dp;show A.depth+1+3*k+5<_;lia,by have:=r.un;show A.units+3+16*k+200<_;lia⟩
theorem lu {A:Around}{C:Addr}{us:List Value}{kw:List (Str×Value)}:(A.under (.builtin "type.__call__" ⟨.ref C::us,kw⟩)).depth=A.depth+1:=by
 first|rfl|simp[Around.under,Code.weight,Code.isCreation,Code.isGuard,Code.isCaller,Code.frames,Code.isFrame,guardIds]
theorem m9 {A:Around}{C:Addr}{us:List Value}{kw:List (Str×Value)}:(A.under (.builtin "type.__call__" ⟨.ref C::us,kw⟩)).units=A.units+1:=by
 first|rfl|simp[Around.under,Code.cUnits,Code.frames,Code.isFrame]
theorem Room.make {cm:Bool}{k:Nat}{A:Around}(r:Room cm (k+1) A)(C:Addr)(us:List Value)(kw:List (Str×Value)):Room cm k (A.under (.builtin "type.__call__" ⟨.ref C::us,kw⟩)):=
 ⟨r.hd,by have:=r.dp;rw[lu];lia,by have:=r.un;rw[m9];lia⟩
theorem Room.depth {cm:Bool}{k:Nat}{A:Around}(r:Room cm k A):A.depth<recursionLimit:=by have:=r.dp;lia
theorem Room.units {cm:Bool}{k:Nat}{A:Around}(r:Room cm k A):A.units+64<cLine:=by have:=r.un;lia
def Ae5:TA:=λ_ H Q=>Q [] H
def Aep (ta:TE)(tr:TA):TA:=λσ H Q=>ta σ H λx H1=>tr σ H1 λxs H2=>Q (x::xs) H2
section
variable {X:Cx}{e:Expr}{es:List Expr}{te:TE}{t:TA}{pos:Pos}
theorem Ae:PA X [] Ae5:=λ_ _ _ _ H Q I h=>Ak9 ⟨[],H,I,.nil,h⟩
theorem Aa (ha:PE X e te)(hr:PA X es t)(hs:starEach (e::es) X.env=(false,eval e X.env)::starEach es X.env:=by rfl):PA X (e::es) (Aep te t):=by
 intro pos pins s σ H Q I h
 rw[hs]
 show wpAny _ _ (spliced ((false,eval e X.env)::backTo pos (starEach es X.env))) _ _ s
 refine Ajy (thn (ha pins s σ H _ I h) λu s1 hz=>?_)
 obtain⟨x,H1,I1,r1,q1⟩:=hz
 exact thn (hr pos pins s1 σ H1 _ I1 q1) λus s2 ⟨xs,H2,I2,r2,q2⟩=>⟨x::xs,H2,I2,.cons r1 r2,q2⟩
def Af3 (t:TA):TE:=λσ H Q=>t σ H λxs H1=>xs.length<=sizeLine/\∀p,H1 p=none->Q (.ref p) (upd H1 p (.tup xs))
def Afr (t:TA):TE:=λσ H Q=>t σ H λxs H1=>xs.length<=sizeLine/\∀p,H1 p=none->Q (.ref p) (upd H1 p (.lst xs))
theorem Ku {x1}(h:PA X es t):PE X (.Tuple es x1 pos) (Af3 t):=by
 intro pins s σ H Q I hq
 refine wpAny_Tuple_spliced (thn (h pos pins s σ H _ I hq) λus s1 ⟨xs,H1,I1,r,z,q⟩=>⟨by rw[←r.length];exact z,?_⟩)
 have hf:H1 s1.heap.objs.size=none:=I1.hok.fresh (Agi _)
 refine⟨.ref s1.heap.objs.size,upd H1 s1.heap.objs.size (.tup xs),I1.laid (t':=s1.toks) (λb u e=>Agc _ e) (Agi _) ?_,rfl,q _ hf⟩
 exact⟨z,us,r,⟨_,Ago _ rfl,rfl,_,rfl⟩⟩
theorem Oh (h:PA X es t):PE X (.List es pos) (Afr t):=by
 intro pins s σ H Q I hq
 refine wpAny_List_spliced (thn (h pos pins s σ H _ I hq) λus s1 ⟨xs,H1,I1,r,z,q⟩=>⟨by rw[←r.length];exact z,?_⟩)
 have hf:H1 s1.heap.objs.size=none:=I1.hok.fresh (Agi _)
 refine⟨.ref s1.heap.objs.size,upd H1 s1.heap.objs.size (.lst xs),I1.laid (t':=s1.toks) (λb u e=>Agc _ e) (Agi _) ?_,rfl,q _ hf⟩
 exact⟨z,us,0,r,Ago _ rfl⟩
end
abbrev Sp:=List V->Hp->VK->XK->Prop
abbrev CXT:=List Env->Hp->Shared->XK->Value->Shared->Prop
structure Env0 (P:Program)(w:World)(K:W.Frag)(mg:Str->Option Value)(base:Heap)(A:Around)(outer:List Env)(s:Shared)(H:Hp):Prop where
 frames:A.frames=some outer
 mod:Mod K mg base
 bs:∀b o,base.get? b=some o->s.heap.get? b=some o/\H b=none
 bsz:base.objs.size<=s.heap.objs.size
 funs:s.heap.FunFrames base outer
 frf:∀b∈frs outer,H b=none
 hok:HOk P w H s.heap
 bare:AllBare s.gens
def CE (outer:List Env)(P:Program)(w:World)(H:Hp)(s:Shared)(Q:VK)(u:Value)(s':Shared):Prop:=
 ∃v H',s'.os=s.os/\AllBare s'.gens/\Un (frs outer) [] H H' s.heap s'.heap/\HOk P w H' s'.heap/\RelV v u/\Q v H'
def CR (CX:CXT)(outer:List Env)(P:Program)(w:World)(H:Hp)(s:Shared)(Q:VK)(E:XK)(r:Result)(s':Shared):Prop:=
 match r with
 | .ok (.ret u)=>CE outer P w H s Q u s'
 | .ok _=>False
 | .error e=>CX outer H s E e s'
structure FnOk (P:Program)(w:World)(K:W.Frag)(mg:Str->Option Value)(base:Heap)(CX:CXT)(cm:Bool)(k:Nat)(f:Addr)(fd:FuncData)(ps:List Str)(sp:Sp):Prop where
 len:∀vs H Q E,sp vs H Q E->vs.length=ps.length
 run:∀(A:Around)(outer:List Env)(s:Shared)(H:Hp)(args:Args)(us:List Value)(vs:List V)(Q:VK)(E:XK),Room cm k A->Env0 P w K mg base A outer s H->BindsTo s fd args (ps.zip us)->Vals vs us->sp vs H Q E->
  codeAny (model P w) A (.call (.ref f) args) (CR CX outer P w H s Q E) s
theorem FnOk.mono {cm:Bool}{P:Program}{w:World}{K:W.Frag}{mg:Str->Option Value}{base:Heap}{CX:CXT}{j k:Nat}{f:Addr}{fd:FuncData}{ps:List Str}{sp:Sp}(F:FnOk P w K mg base CX cm j f fd ps sp)(h:j<=k):
 FnOk P w K mg base CX cm k f fd ps sp:=⟨F.len,λA outer s H args us vs Q E hr=>F.run A outer s H args us vs Q E (hr.mono h)⟩
theorem Env0.make {P:Program}{w:World}{K:W.Frag}{mg:Str->Option Value}{base:Heap}{A:Around}{outer:List Env}{s:Shared}{H:Hp}(e:Env0 P w K mg base A outer s H)(C:Addr)(us:List Value)(kw:List (Str×Value)):
 Env0 P w K mg base (A.under (.builtin "type.__call__" ⟨.ref C::us,kw⟩)) outer s H:=⟨by first|exact e.frames|(simpa[Around.under,Code.envs,Code.isFrame,pushEnvs] using e.frames),e.mod,e.bs,e.bsz,e.funs,e.frf,e.hok,e.bare⟩
section
variable {X:Cx}{pins:List (Addr×Obj)}{σ:St}{H:Hp}{s s':Shared}
theorem Inv.env0 (I:Inv X pins σ H s):Env0 X.prog X.w X.K X.mg X.base X.A X.stack s H:=
 ⟨I.ok.frames,I.ok.mod,I.bs,Ag1 I.ok.bsz I.sz,I.stack,I.stkFree,I.hok,I.bare⟩
theorem Inv.after {Q:VK}{u:Value}(I:Inv X pins σ H s)(h:CE X.stack X.prog X.w H s Q u s'):EP X pins σ Q u s':=by
 obtain⟨v,H',os,bare,un,hok,r,q⟩:=h
 obtain⟨hh,g,d,t,os'⟩:=s'
 obtain rfl:os'=s.os:=os
 exact⟨v,H',I.call (h':=hh) (g':=g) (d':=d) (t':=t) (ch:=[]) un hok bare (λb z=>absurd z (by simp)),r,q⟩
end
def Aed (sp:Sp)(dvs:List V)(E:XK)(t:TA):TE:=λσ H Q=>t σ H λvs H1=>sp (vs++dvs) H1 Q E
def Acp (C:Addr)(sp:Sp)(dvs:List V)(E:XK)(t:TA):TE:=λσ H Q=>t σ H λvs H1=>∀x dx,H1 x=none->H1 dx=none->dx≠x->
 sp (.ref x::(vs++dvs)) (upd (upd H1 dx (.own x)) x (.ins C dx [])) (λv H2=>v=.non/\Q (.ref x) H2) E
def Binds (K:W.Frag)(fd:FuncData)(ps:List Str)(ds:List Value):Prop:=
 ∀(s:Shared)(us:List Value),K.In s.heap->(us++ds).length=ps.length->BindsTo s fd ⟨us,[]⟩ (ps.zip (us++ds))
theorem Binds.all {K:W.Frag}{fd:FuncData}{ps:List Str}(h:∀us:List Value,us.length=ps.length->bindArgs fd ⟨us,[]⟩=pure (ps.zip us)):Binds K fd ps []:=λs us _ hl=>by
 rw[Ahh] at hl ⊢
 exact .of_eq (h us hl)
def Passes (CX:CXT)(X:Cx)(E:XK):Prop:=∀(pins:List (Addr×Obj))(σ:St)(H:Hp)(s:Shared)(e:Value)(s':Shared),Inv X pins σ H s->CX X.stack H s E e s'->X.xe e s'
section
variable {X:Cx}{CX:CXT}{cm:Bool}{k:Nat}{f C:Addr}{fd:FuncData}{ps:List Str}{sp:Sp}{dvs:List V}{ds:List Value}{E:XK}{x m:Str}{p pos apos:Pos}{e o:Expr}{es:List Expr}{ta:TE}{t:TA}
theorem vm {pins:List (Addr×Obj)}{σ:St}{H:Hp}{s:Shared}{Q:VK}{us:List Value}{vs:List V}(F:FnOk X.prog X.w X.K X.mg X.base CX cm k f fd ps sp)(hr:Room cm k X.A)(hb:Binds X.K fd ps ds)(hd:Vals dvs ds)(hx:Passes CX X E)
  (I:Inv X pins σ H s) (r:Vals vs us) (h:sp (vs++dvs) H Q E):wpAny (model X.prog X.w) X.A (call (.ref f) us) (EP X pins σ Q) X.xe s:=by
 have r2:Vals (vs++dvs) (us++ds):=r.append hd
 have hl:(us++ds).length=ps.length:=by rw[←r2.length];exact F.len _ _ _ _ h
 refine Alr (Ajc (F.run X.A X.stack s H ⟨us,[]⟩ (us++ds) (vs++dvs) Q E hr I.env0 (hb s us I.kIn hl) r2 h) λr s' hq=>?_)
 cases r with
 | error e=>exact hx pins σ H s e s' I hq
 |
  ok fl=>
  cases fl with
  | ret u=>exact I.after hq
  | next=>exact False.elim hq
  | brk=>exact False.elim hq
  | cont=>exact False.elim hq
theorem Az (F:FnOk X.prog X.w X.K X.mg X.base CX cm k f fd ps sp)(hr:Room cm k X.A)(hg:Gl X x)(hm:X.mg x=some (.ref f))(hk:W.keepIn X.K (.ref f)=true)(hb:Binds X.K fd ps ds)(hd:Vals dvs ds)(hx:Passes CX X E)
  (ha:PA X (e::es) t) (hdb:(x==("__debug__":Str))=false:=by decide) (he:starEach (e::es) X.env=(false,eval e X.env)::starEach es X.env:=by rfl) (hpl:(backTo pos (starEach es X.env)).any (·.1)=false:=by rfl):
  PE X (.Call (.Name x p) (e::es) [] pos) (Aed sp dvs E t):=by
 intro pins s σ H Q I h
 refine Ajw (Tb I hg hm ?_ hdb)
 refine W.callWith_K (h₀:=X.base) I.ok.mod.kin hk (thn (ha pos pins s σ H _ I h) λus s1 ⟨vs,H1,I1,r,q⟩=>⟨I1.kIn,?_⟩) he hpl
 exact vm F hr hb hd hx I1 r q
structure Mk (K:W.Frag)(C f:Addr):Prop where
 makes:W.makesIn K C=true
 init:W.findIn K (.ref C) "__init__"=some (some (.ref f))
 fn:W.isFn K (.ref f)=true
 kp:W.keepIn K (.ref C)=true
theorem i7 {pins:List (Addr×Obj)}{σ:St}{H:Hp}{s:Shared}{Q:VK}{us:List Value}{vs:List V}(M:Mk X.K C f)(F:FnOk X.prog X.w X.K X.mg X.base CX cm k f fd ps sp)(hr:Room cm (k+1) X.A)(hb:Binds X.K fd ps ds)(hd:Vals dvs ds)
  (hx:Passes CX X E) (I:Inv X pins σ H s) (r:Vals vs us)
  (h:∀x dx,H x=none->H dx=none->dx≠x->sp (.ref x::(vs++dvs)) (upd (upd H dx (.own x)) x (.ins C dx [])) (λv H2=>v=.non/\Q (.ref x) H2) E):
  wpAny (model X.prog X.w) X.A (call (.ref C) us) (EP X pins σ Q) X.xe s:=by
 have hq:=h (s.heap.objs.size+1) s.heap.objs.size (I.hok.fresh (Aju _)) (I.hok.fresh (Agi _)) (Agv (Ah9 _))
 have I2:=Inv.made (C:=C) I
 have r2:Vals (V.ref (s.heap.objs.size+1)::(vs++dvs)) (Value.ref (s.heap.objs.size+1)::(us++ds)):=.cons rfl (r.append hd)
 have hl:(Value.ref (s.heap.objs.size+1)::us++ds).length=ps.length:=by
  have e:=r2.length
  rw[F.len _ _ _ _ hq] at e
  exact e.symm
 refine Alr (yi (f:=f) I.kIn M.makes M.init (beq_iff_eq.mp M.fn) (Ajc (F.run _ X.stack _ _ ⟨Value.ref (s.heap.objs.size+1)::us,[]⟩ (Value.ref (s.heap.objs.size+1)::(us++ds)) _ _ E (hr.make C us [])
  (I2.env0.make C us []) (hb _ (Value.ref (s.heap.objs.size+1)::us) I2.kIn hl) r2 hq) λr s' hq'=>?_))
 cases r with
 | error e=>exact hx pins σ _ _ e s' I2 hq'
 |
  ok fl=>
  cases fl with
  |
   ret u=>
   obtain⟨v,H',I3,rv,ev,q3⟩:=I2.after hq'
   subst ev
   exact⟨rv,⟨V.ref (s.heap.objs.size+1),H',I3,rfl,q3⟩⟩
  | next=>exact False.elim hq'
  | brk=>exact False.elim hq'
  | cont=>exact False.elim hq'
theorem Sq (M:Mk X.K C f)(F:FnOk X.prog X.w X.K X.mg X.base CX cm k f fd ps sp)(hr:Room cm (k+1) X.A)(hg:Gl X x)(hm:X.mg x=some (.ref C))(hb:Binds X.K fd ps ds)(hd:Vals dvs ds)(hx:Passes CX X E)
  (ha:PA X (e::es) t) (hdb:(x==("__debug__":Str))=false:=by decide) (he:starEach (e::es) X.env=(false,eval e X.env)::starEach es X.env:=by rfl) (hpl:(backTo pos (starEach es X.env)).any (·.1)=false:=by rfl):
  PE X (.Call (.Name x p) (e::es) [] pos) (Acp C sp dvs E t):=by
 intro pins s σ H Q I h
 refine Ajw (Tb I hg hm ?_ hdb)
 refine W.callWith_K (h₀:=X.base) I.ok.mod.kin M.kp (thn (ha pos pins s σ H _ I h) λus s1 ⟨vs,H1,I1,r,q⟩=>⟨I1.kIn,?_⟩) he hpl
 exact i7 M F hr hb hd hx I1 r q
theorem wz (M:Mk X.K C f)(F:FnOk X.prog X.w X.K X.mg X.base CX cm k f fd ps sp)(hr:Room cm (k+1) X.A)(hg:Gl X x)(hm:X.mg x=some (.ref C))(hb:Binds X.K fd ps ds)(hd:Vals dvs ds)(hx:Passes CX X E)
  (hdb:(x==("__debug__":Str))=false:=by decide):PE X (.Call (.Name x p) [] [] pos) (Acp C sp dvs E Ae5):=by
 intro pins s σ H Q I h
 refine Ajw (Tb I hg hm ?_ hdb)
 exact W.callWith_K0 I.kIn M.kp (i7 (us:=[]) M F hr hb hd hx I .nil h)
end
section
variable {X:Cx}{CX:CXT}{cm:Bool}{k:Nat}{f C:Addr}{fd:FuncData}{ps ks:List Str}{sp:Sp}{E:XK}{x m:Str}{p pos apos kpos:Pos}{e o:Expr}{es:List Expr}{kws:List Keyword}{te ta:TE}{t tk:TA}{nm:Option Str}
variable {g:List Value->List Value->List Value}{gV:List V->List V->List V}
end
structure Ar (N P:List Str)(sc:Scope):Prop where
 kind:sc.kind=.function
 co:sc.isCoroutine=false
 gen:sc.isGenerator=false
 nd:N.Nodup
 pre:N.take P.length=P
 par:∀x∈P,sc.names.lookup x=some .local∨sc.names.lookup x=some .cell
 nofree:∀y∈sc.names,y.2≠ .free
theorem bt {kindOf:Str->Option NameKind}{x:Str}:∀{binds:List (Str×Value)}{m:Str->Option Value},(∀v,(x,v)∉binds)->bindL kindOf binds m x=m x
 | [],_,_=>rfl
 |
  (n,v)::r,m,h=>by
  unfold bindL
  rw[bt λw hw=>h w (Agh _ hw)]
  split
  ·
   have:x≠n:=by rintro rfl;exact h v Agj
   simp[this]
  · rfl
theorem bc {kindOf:Str->Option NameKind}{x:Str}:∀{binds:List (Str×Value)}{m:Str->Option Value},(∀v,(x,v)∉binds)->bindC kindOf binds m x=m x
 | [],_,_=>rfl
 |
  (n,v)::r,m,h=>by
  unfold bindC
  rw[bc λw hw=>h w (Agh _ hw)]
  split
  · rfl
  ·
   have:x≠n:=by rintro rfl;exact h v Agj
   simp[this]
theorem br {kindOf:Str->Option NameKind}{x:Str}{v:Value}:∀{P:List Str}{vs:List Value}{i:Nat}{m:Str->Option Value},P.Nodup->P[i]?=some x->vs[i]?=some v->kindOf x=some .local->
  bindL kindOf (P.zip vs) m x=some v
 | [],_,_,_,_,h,_,_=>by simp at h
 | _::_,[],_,_,_,_,h,_=>by simp at h
 |
  p::P,w::vs,0,m,nd,h1,h2,hk=>by
  simp at h1 h2;subst h1;subst h2
  show bindL kindOf ((p,w)::P.zip vs) m p=_
  unfold bindL
  rw[bt λv hv=>(Ai4.mp nd).1 (List.of_mem_zip hv).1,if_pos hk]
  simp
 |
  p::P,w::vs,i+1,m,nd,h1,h2,hk=>by
  show bindL kindOf ((p,w)::P.zip vs) m x=_
  unfold bindL
  exact br (i:=i) (Ai4.mp nd).2 (by simpa using h1) (by simpa using h2) hk
theorem bw {kindOf:Str->Option NameKind}{x:Str}{v:Value}:∀{P:List Str}{vs:List Value}{i:Nat}{m:Str->Option Value},P.Nodup->P[i]?=some x->vs[i]?=some v->kindOf x≠some .local->
  bindC kindOf (P.zip vs) m x=some v
 | [],_,_,_,_,h,_,_=>by simp at h
 | _::_,[],_,_,_,_,h,_=>by simp at h
 |
  p::P,w::vs,0,m,nd,h1,h2,hk=>by
  simp at h1 h2;subst h1;subst h2
  show bindC kindOf ((p,w)::P.zip vs) m p=_
  unfold bindC
  rw[bc λv hv=>(Ai4.mp nd).1 (List.of_mem_zip hv).1,if_neg hk]
  simp
 |
  p::P,w::vs,i+1,m,nd,h1,h2,hk=>by
  show bindC kindOf ((p,w)::P.zip vs) m x=_
  unfold bindC
  exact bw (i:=i) (Ai4.mp nd).2 (by simpa using h1) (by simpa using h2) hk
def start (N:List Str)(vs:List V):St:=vs.map some++List.replicate (N.length-vs.length) none
def eo (CX:CXT)(cm:Bool)(P:Program)(w:World)(K:W.Frag)(mg:Str->Option Value)(base:Heap)(N:List Str)(qual:Str)(scope:Scope)(f:Addr)(cd:Value)(A:Around)(outer:List Env)(s:Shared)(H:Hp)(E:XK):Cx where
 prog:=P
 w:=w
 K:=K
 mg:=mg
 base:=base
 A:=A.deeper (envOfC qual scope s.heap.objs.size f cd)
 N:=N
 s₀:=s
 H₀:=H
 env:=envOfC qual scope s.heap.objs.size f cd
 outer:=outer
 stack:=envOfC qual scope s.heap.objs.size f cd::outer
 ex:=[]
 calm:=cm
 fn:=λ_=>true
 pn:=[]
 xe:=λe s'=>wpAny (model P w) (A.deeper (envOfC qual scope s.heap.objs.size f cd)) (leaving (envOfC qual scope s.heap.objs.size f cd) e) (λ_ s''=>CX outer H s E e s'') (λe' s''=>CX outer H s E e' s'') s'
theorem ir {sc:Scope}{n:Nat}{x:Str}(h:sc.names.lookup x=some .cell):∃c,(cellsFrom n sc.names []).lookup x=some c:=by
 have q:=W.cellsFrom_some sc.names n [] (.inl h)
 exact Ajg.mp q
theorem o9 {cm:Bool}{CX:CXT}{P:Program}{w:World}{K:W.Frag}{mg:Str->Option Value}{base:Heap}{N ps:List Str}{qual:Str}{scope:Scope}{f:Addr}{cd:Value}{A:Around}{outer:List Env}{s s1:Shared}{H:Hp}{E:XK}{us:List Value}{vs:List V}
  (S:Ar N ps scope) (hd:cm=true->A.handled=none) (e0:Env0 P w K mg base A outer s H) (hl:vs.length=ps.length) (r:Vals vs us)
  (x:InCallC s s.heap.objs.size (bindL (envOfC qual scope s.heap.objs.size f cd).kindOf (ps.zip us) λ_=>none) (cellsFrom (s.heap.objs.size+1) scope.names []) (bindC (envOfC qual scope s.heap.objs.size f cd).kindOf (ps.zip us) λ_=>none) s1):
  Inv (eo CX cm P w K mg base N qual scope f cd A outer s H E) [] (start N vs) H s1:=by
 have hpl:ps.length<=N.length:=by have:=Ahb List.length S.pre;rw[Ahk] at this;lia
 obtain⟨h1,tk,rfl,hk⟩:=x.done
 have noA:∀b:Addr,b∉(eo CX cm P w K mg base N qual scope f cd A outer s H E).ex:=λb z=>absurd (show b∈([]:List Addr) from z) (by simp)
 refine⟨⟨e0.mod,S.kind,rfl,rfl,Agi _,λy z c h1 h2=>?_,λy hy=>?_,λy c _ h=>?_,hd,Around.frames_deeper e0.frames,.inr ⟨rfl,rfl⟩,λb z=>absurd z (noA b),e0.bs,e0.bsz,λb _ _=>noA b,λb z=>absurd z (noA b),e0.funs,e0.frf⟩,
  rfl,e0.bare,Un.kept hk,⟨_,x.toInCall.ns,λi y v h1 h2 h3=>?_⟩,λy c h=>⟨_,x.cell y c h⟩,e0.hok.fresh (Agi _),λy c h=>?_,λp hp=>absurd (show p∈([]:List (Addr×Obj)) from hp) (by simp),e0.hok.kept hk,?_⟩
 · exact name_of_addr x.apart (Ajf h1) (Ajf h2)
 ·
  have hy:scope.names.lookup y=some .cell∨scope.names.lookup y=some .free:=hy
  rcases hy with hy|hy
  · exact ir hy
  · exact absurd rfl (S.nofree _ (Ajf hy))
 · exact Ajz (x.above y c (Ajf h))
 ·
  have hi:i<vs.length:=by
   unfold start at h2
   by_cases hi:i<vs.length
   · exact hi
   ·
    rw[Ai7 (by simpa using hi)] at h2
    rw[List.getElem?_replicate] at h2
    split at h2<;>cases h2
  have ha:vs[i]?=some v:=by
   unfold start at h2
   rw[Akl (by simpa using hi),Agz] at h2
   cases e:vs[i]? with
   | none=>rw[e] at h2;cases h2
   | some a=>rw[e] at h2;cases h2;rfl
  obtain⟨u,hu,rv⟩:=r.get ha
  have hp:ps[i]?=some y:=by
   rw[←S.pre,List.getElem?_take_of_lt (by lia)];exact h1
  have ndP:ps.Nodup:=by rw[←S.pre];exact S.nd.sublist (Alv _ _)
  refine⟨u,rv,?_⟩
  rcases S.par y (Ah8 hp) with k|k
  · exact .inl ⟨k,br ndP hp hu k⟩
  ·
   obtain⟨c,e⟩:=ir (n:=s.heap.objs.size+1) k
   refine .inr ⟨.inl k,c,e,?_⟩
   have q:=x.cell y c e
   rw[bw ndP hp hu (by show scope.names.lookup y≠_;rw[k];decide)] at q
   exact q
 · exact e0.hok.fresh (Ajz (x.above y c (Ajf h)))
 ·
  unfold start
  show _=N.length
  rw[Agw,Agd,List.length_replicate]
  lia
theorem vw {cm:Bool}{CX:CXT}{P:Program}{w:World}{K:W.Frag}{mg:Str->Option Value}{base:Heap}{k:Nat}{f:Addr}{name qual:Str}{params:Arguments}{body:List Stmt}{scope:Scope}{dV kV doc pm cdv ct oc:Value}{an od:Option Addr}
  {osl:Array (Option Value)} {N ps:List Str} {sp:Sp} (lk:K.lookup f=some ⟨oc,od,.func (W.fnOf name qual params body scope dV kV doc pm an cdv ct),osl⟩) (hcd:W.codeIn K cdv qual=true) (S:Ar N ps scope)
  (len:∀vs H Q E,sp vs H Q E->vs.length=ps.length)
  (hbody:∀(A:Around)(outer:List Env)(s:Shared)(H:Hp)(vs:List V)(Q:VK)(E:XK),Room cm k (A.deeper (envOfC qual scope s.heap.objs.size f cdv))->sp vs H Q E->
   ∃t,PSs (eo CX cm P w K mg base N qual scope f cdv A outer s H E) body t/\t {nx:=λ_ H'=>Q .non H',rt:=λ_=>Q} (start N vs) H):
  FnOk P w K mg base CX cm (k+1) f (W.fnOf name qual params body scope dV kV doc pm an cdv ct) ps sp:=by
 refine⟨len,λA outer s H args us vs Q E hr e0 hb r hsp=>?_⟩
 have hl:=len _ _ _ _ hsp
 have KX:K.In s.heap:=e0.mod.kin.keeps λb o e=>(e0.bs b o e).1
 have lim:s.heap.NoLimit:=e0.mod.nolimit.keeps λb o e=>(e0.bs b o e).1
 have hkind:∀y∈ps.zip us,scope.names.lookup y.1=some .local∨(scope.names.lookup y.1=some .cell/\((cellsFrom (s.heap.objs.size+1) scope.names []).lookup y.1).isSome=true):=λ⟨n,v⟩ hy=>by
  rcases S.par n (List.of_mem_zip hy).1 with q|q
  · exact .inl q
  · exact .inr ⟨q,W.cellsFrom_some _ _ _ (.inl q)⟩
 refine codeAny_call_function hr.depth (KX _ _ lk) rfl S.co S.gen rfl (W.codeRec_of KX hcd) (hb _ _ _ _ ?_)
 refine wpAny_newFunctionEnv_cells S.kind hkind λenv he s1 x=>?_
 subst he
 refine⟨lim.keeps x.toInCall.keep,codeAny_func ?_⟩
 obtain⟨t,ht,hq⟩:=hbody A outer s H vs Q E (hr.deeper _) hsp
 have I:Inv (eo CX cm P w K mg base N qual scope f cdv A outer s H E) [] (start N vs) H s1:=o9 S hr.hd e0 hl r x
 refine Aid (ht [] s1 (start N vs) H _ I hq) (λfl s' hs=>?_) λe s' hs=>hs
 have fin:∀{σ':St}{H':Hp}{v:V}{u:Value},Inv (eo CX cm P w K mg base N qual scope f cdv A outer s H E) [] σ' H' s'->RelV v u->Q v H'->CE outer P w H s Q u s':=
  λ{σ' H' v u}J rv q=>⟨v,H',J.os,J.bare,J.base,J.hok,rv,q⟩
 cases fl with
 |
  ret u=>
  obtain⟨v,σ',H',J,rv,q⟩:=hs
  exact fin J rv q
 |
  next=>
  obtain⟨σ',H',J,q⟩:=hs
  exact fin (v:=V.non) (u:=Value.none) J rfl q
 |
  brk=>
  obtain⟨_,_,_,q⟩:=hs
  exact False.elim q
 |
  cont=>
  obtain⟨_,_,_,q⟩:=hs
  exact False.elim q
section
variable {X:Cx}{x:Str}{p pos:Pos}{e:Expr}{es:List Expr}{t:TA}{id T:String}{r:List V->Hp->VK->Prop}
def tCB (r:List V->Hp->VK->Prop)(t:TA):TE:=λσ H Q=>t σ H λvs H1=>r vs H1 Q
theorem Ax (hc:Jp X (.builtin id) r)(hg:Gl X x)(hm:X.mg x=none)(hv:bootBuiltins x=some (.builtin id))(ha:PA X (e::es) t)(hn:x≠"__name__":=by decide)(hdb:(x==("__debug__":Str))=false:=by decide)
  (he:starEach (e::es) X.env=(false,eval e X.env)::starEach es X.env:=by rfl) (hpl:(backTo pos (starEach es X.env)).any (·.1)=false:=by rfl):PE X (.Call (.Name x p) (e::es) [] pos) (tCB r t):=by
 intro pins s σ H Q I h
 refine Ajw (ah I hg hm hv ?_ hn hdb)
 exact PyProof.Rows.callWith_builtin1 (thn (ha pos pins s σ H _ I h) λus s1 ⟨vs,H1,I1,r1,q1⟩=>hc pins s1 σ H1 vs us Q I1 r1 q1) he hpl
theorem A5 (hc:Jp X (.type T) r)(hg:Gl X x)(hm:X.mg x=none)(hv:bootBuiltins x=some (.type T))(ha:PA X (e::es) t)(hn:x≠"__name__":=by decide)(hdb:(x==("__debug__":Str))=false:=by decide)
  (he:starEach (e::es) X.env=(false,eval e X.env)::starEach es X.env:=by rfl) (hpl:(backTo pos (starEach es X.env)).any (·.1)=false:=by rfl):PE X (.Call (.Name x p) (e::es) [] pos) (tCB r t):=by
 intro pins s σ H Q I h
 refine Ajw (ah I hg hm hv ?_ hn hdb)
 exact Akb (thn (ha pos pins s σ H _ I h) λus s1 ⟨vs,H1,I1,r1,q1⟩=>hc pins s1 σ H1 vs us Q I1 r1 q1) he hpl
end
end L2
namespace HT
open PySem PyProof.Rows
section
open PySem.SeqAt
open PySem.AutoSeq1 (wpAny_loadPart')
open PySem.MeetsSeq PySem.MeetsSeq2 PySem.MeetsSeq3
end
section
variable {prog:Program}{w:World}{A:Around}{E:Value->Shared->Prop}{s:Shared}
theorem Aa1 {t b:Addr}{vs ws:List Value}{Q:Value->Shared->Prop}(ht:IsTup s.heap t vs.toArray)(hb:IsTup s.heap b ws.toArray)(hv:vs≠[])
  (h1:ws=[]->Q (.ref t) s) (h2:ws≠[]->Q (.ref s.heap.objs.size) {s with heap:=s.heap.push {cls:=.type "tuple",data:=.seq (vs++ws).toArray}})
  (hsz:vs.length+ws.length<=sizeLine):wpAny (model prog w) A (binaryOp .Add (.ref t) (.ref b)) Q E s:=by
 obtain⟨⟨cls,dd,data,sl⟩,ho,hc,n,hd⟩:=id ht
 obtain⟨⟨cls2,dd2,data2,sl2⟩,ho2,hc2,n2,hd2⟩:=id hb
 simp only at hc hd hc2 hd2
 subst hc hd hc2 hd2
 have e:vs.toArray++ws.toArray=(vs++ws).toArray:=by simp
 by_cases hw:ws=[]
 ·
  exact concat_meets ⟨_,ho,rfl⟩ ⟨_,ho2,rfl⟩ noFill_tuple_add seq_tuple_add Ak1 Akv (Akp _ _)
   (tuple_addW1 t b vs.toArray ws.toArray n n2 dd dd2 sl sl2 (by simpa using hv) (by simp[hw])) ⟨ho,ho2,h1 hw⟩
 ·
  refine concat_meets ⟨_,ho,rfl⟩ ⟨_,ho2,rfl⟩ noFill_tuple_add seq_tuple_add Ak1 Akv (Akp _ _)
   (tuple_addW2 t b vs.toArray ws.toArray n n2 dd dd2 sl sl2 (by simpa using hv) (by simpa using hw) (by rw[Agm,Agm];exact hsz)) ⟨ho,ho2,?_⟩
  rw[e]
  exact h2 hw
def sIx (n d:Nat):Option Int->Nat
 | none=>d
 | some v=>if v<0 then(v+(n:Int)).toNat else min v.toNat n
theorem u6 (n d k:Nat):sIx n d (some (k:Int))=min k n:=by
 show(if(k:Int)<0 then((k:Int)+(n:Int)).toNat else min (k:Int).toNat n)=min k n
 rw[if_neg (by lia),Ahq]
theorem Ac9 (n d:Nat)(hd:d<=n)(o:Option Int):sIx n d o<=n:=by
 cases o with
 | none=>exact hd
 |
  some v=>
  show(if v<0 then(v+(n:Int)).toNat else min v.toNat n)<=n
  by_cases hv:v<0
  · rw[if_pos hv];lia
  · rw[if_neg hv];exact Nat.min_le_right _ _
theorem sj (v:Int)(n d:Nat):(if v<0 then max (v+(n:Int)) 0 else min v (n:Int))=((sIx n d (some v):Nat):Int):=by
 show(if v<0 then max (v+(n:Int)) 0 else min v (n:Int))=(((if v<0 then(v+(n:Int)).toNat else min v.toNat n):Nat):Int)
 by_cases hv:v<0
 · simp only[if_pos hv];lia
 · simp only[if_neg hv];lia
theorem lg (lo hi:Option Int)(n:Nat):Builtin.Slice.sliceAdjust lo hi 1 (n:Int)=(((sIx n 0 lo:Nat):Int),((sIx n n hi:Nat):Int)):=by
 have h1:¬((1:Int)<0):=by lia
 unfold Builtin.Slice.sliceAdjust
 simp only[h1,Aiz]
 refine Prod.ext ?_ ?_
 ·
  cases lo with
  | none=>rfl
  | some v=>exact sj v n 0
 ·
  cases hi with
  | none=>rfl
  | some v=>exact sj v n n
theorem ko (i j:Nat):Builtin.Slice.slicePlaces (i:Int) (j:Int) 1=j-i:=by
 unfold Builtin.Slice.slicePlaces
 have h1:(1:Int)>0:=by lia
 simp only[h1,Alh,Int.ediv_one]
 split<;>lia
theorem Xj {v:Value}{o:Option Int}{Q:Option Int->Shared->Prop}(p:IsPart v o)(h:Q o s):wpAny (model prog w) A (Builtin.Slice.slicePartIndex v) Q E s:=by
 cases p with
 | none=>exact slicePart_none h
 | int i t=>exact slicePart_int h
theorem Oi {sl:Addr}{vl vu:Value}{lo hi:Option Int}{n:Nat}{Q:Int×Int×Nat->Shared->Prop}(hs:s.heap.IsSliceOf sl vl vu .none)(pl:IsPart vl lo)(pu:IsPart vu hi)
  (h:Q (((sIx n 0 lo:Nat):Int),1,sIx n n hi-sIx n 0 lo) s):wpAny (model prog w) A (Builtin.Slice.sliceApplied (.ref sl) (pure (n:Int))) Q E s:=by
 obtain⟨os,hos,hcs,hds⟩:=id hs
 unfold Builtin.Slice.sliceApplied Builtin.Slice.sliceFields
 refine Aga (Aga (wpAny_field hos hds (x:=vl) rfl (Aga (wpAny_field hos hds (x:=vu) rfl (Aga (wpAny_field hos hds (x:=.none) rfl (Agb ?_)))))))
 refine Aga (slicePart_none ?_)
 show wpAny _ _ (if((1:Int)==0)=true then _ else _) _ _ s
 rw[if_neg (by decide)]
 refine Aga (Xj pl (Aga (Xj pu (Aga (Agb ?_)))))
 show wpAny _ _ (match Builtin.Slice.sliceAdjust lo hi 1 (n:Int) with|(lo,hi)=>pure (lo,(1:Int),Builtin.Slice.slicePlaces lo hi 1)) _ _ s
 rw[lg lo hi n]
 show wpAny _ _ (pure (((sIx n 0 lo:Nat):Int),(1:Int),Builtin.Slice.slicePlaces ((sIx n 0 lo:Nat):Int) ((sIx n n hi:Nat):Int) 1)) _ _ s
 rw[ko]
 exact Agb h
theorem xw (xs:Array Value)(i k:Nat):((List.range k).filterMap λ(m:Nat)=>xs[((i:Int)+(m:Int)*1).toNat]?).toArray=((xs.toList.drop i).take k).toArray:=by
 have e:(λ(m:Nat)=>xs[((i:Int)+(m:Int)*1).toNat]?)=λm=>xs[i+m]?:=by
  funext m
  have:((i:Int)+(m:Int)*1).toNat=i+m:=by lia
  rw[this]
 rw[e]
 have:=pick_run xs i k
 rw[List.filterMap_map] at this
 have e2:((λx=>xs[x]?)∘ λx=>i+x)=λm=>xs[i+m]?:=rfl
 rw[e2] at this
 rw[this]
theorem Sy {t sl:Addr}{items:Array Value}{vl vu:Value}{lo hi:Option Int}{Q:Value->Shared->Prop}(ht:IsTup s.heap t items)(hs:s.heap.IsSliceOf sl vl vu .none)(pl:IsPart vl lo)(pu:IsPart vu hi)
  (hw:¬(sIx items.size 0 lo=0/\sIx items.size items.size hi=items.size))
  (h:Q (.ref s.heap.objs.size) {s with heap:=s.heap.push {cls:=.type "tuple",data:=.seq ((items.toList.drop (sIx items.size 0 lo)).take (sIx items.size items.size hi-sIx items.size 0 lo)).toArray}})
  (hsz:items.size<=sizeLine):wpAny (model prog w) A (getItem (.ref t) (.ref sl)) Q E s:=by
 have htake:sizeOk (.seq ((items.toList.drop (sIx items.size 0 lo)).take (sIx items.size items.size hi-sIx items.size 0 lo)).toArray):=by
  show((items.toList.drop (sIx items.size 0 lo)).take (sIx items.size items.size hi-sIx items.size 0 lo)).toArray.size<=sizeLine
  rw[Agm,Ahk,Ajd,Agg]
  lia
 have hj:sIx items.size items.size hi<=items.size:=Ac9 _ _ (Agi _) hi
 obtain⟨os,hos,hcs,hds⟩:=id hs
 have hTs:s.TypeIs (.ref sl) "slice":=⟨os,hos,hcs⟩
 unfold getItem
 try with_reducible refine Ahd ?_
 first|refine Aga (Agb ?_)|skip
 refine Aga (wpAny_sequenceKey ht.typeIs (by decide) ?_)
 refine Aga (wpAny_callSpecial?_slot (name:=Str.ofString "__getitem__") ht.typeIs Aix
  (Ahj Aix ht.typeIs entry_tuple_getitem ?_ (args_tuple_getitem _ _)))
 show wpAny _ _ (Builtin.Tuple.tupleItemsOf (.ref t)>>=_) _ _ s
 refine Aga (tupleItemsOf_ ht ?_)
 refine Aga (Aka hTs ?_)
 rw[if_pos (by decide)]
 refine Aga (Oi hs pl pu ?_)
 have hno:¬((((sIx items.size 0 lo:Nat):Int)==0&&(1:Int)==1&&(sIx items.size items.size hi-sIx items.size 0 lo)==items.size)=true):=by
  intro q
  rw[Ag6,Ag6] at q
  have q1:((sIx items.size 0 lo:Nat):Int)=0:=eq_of_beq q.1.1
  have q2:sIx items.size items.size hi-sIx items.size 0 lo=items.size:=eq_of_beq q.2
  exact hw ⟨by lia,by lia⟩
 show wpAny _ _ (if(((sIx items.size 0 lo:Nat):Int)==0&&(1:Int)==1&&(sIx items.size items.size hi-sIx items.size 0 lo)==items.size)=true then _ else _) _ _ s
 rw[if_neg hno,xw]
 first
  | exact Aga (m:=Builtin.Tuple.tupleExact _) (Ah5 (Agb ⟨_,rfl,Agb h⟩) htake)
  | exact Aga (m:=Builtin.Tuple.tupleExact _) (Ah5 (Aga (Agb (Agb ⟨_,rfl,Agb h⟩))) htake)
  | exact Aga (Aga (m:=Builtin.Tuple.tupleExact _) (Ah5 (Agb (Agb ⟨_,rfl,Agb h⟩)) htake))
  | exact Aga (Aga (m:=Builtin.Tuple.tupleExact _) (Ah5 (Agb ⟨_,rfl,Agb h⟩) htake))
end
end HT
namespace L2
open PySem PySem.Spec PyProof.Rows
abbrev TO:=St->Hp->(Option Int->Hp->Prop)->Prop
def PO (X:Cx)(e:Option Expr)(t:TO):Prop:=
 ∀(pins:List (Addr×Obj))(s:Shared)(σ:St)(H:Hp)(Q:Option Int->Hp->Prop),Inv X pins σ H s->t σ H Q->
  wpAny (model X.prog X.w) X.A (evalPart e X.env) (λu s'=>∃o H',Inv X pins σ H' s'/\IsPart u o/\Q o H') X.xe s
def Aeq (t:TE):TO:=λσ H Q=>t σ H λx H1=>∃i,x=.int i/\Q (some i) H1
theorem intsAre_of {ns:List Int}:∀{us:List Value},Vals (ns.map V.int) us->IntsAre us ns:=by
 induction ns with
 | nil=>intro us r;rw[Aj0] at r;cases r;exact .nil
 |
  cons n ns ih=>
  intro us r
  rw[Agy] at r
  cases r with
  |
   cons r1 r2=>
   obtain⟨t,e⟩:=r1
   subst e
   exact .cons n t (ih r2)
section
variable {X:Cx}{e:Expr}{te:TE}{lo hi:Option Expr}{tl th:TO}{pos p2:Pos}
theorem Zr (h:PE X e te):PO X (some e) (Aeq te):=by
 intro pins s σ H Q I hw
 rw[evalPart_some]
 refine thn (h pins s σ H _ I hw) λu s1 hz=>?_
 obtain⟨x,H1,I1,r1,q1⟩:=hz
 obtain⟨i,rfl,q⟩:=q1
 obtain⟨t,rfl⟩:=r1
 exact⟨some i,H1,I1,.int i t,q⟩
def SlR (X:Cx)(r:V->Option Int->Option Int->Hp->VK->Prop):Prop:=
 ∀(pins:List (Addr×Obj))(s:Shared)(σ:St)(H:Hp)(x:V)(v vl vu:Value)(lo hi:Option Int)(sl:Addr)(Q:VK),Inv X pins σ H s->RelV x v->s.heap.IsSliceOf sl vl vu .none->IsPart vl lo->IsPart vu hi->r x lo hi H Q->
  ∃T id,typeLookup (.type T) "__getitem__"=pure (some (.builtin id))/\s.TypeIs v T/\wpAny (model X.prog X.w) X.A (getItem v (.ref sl)) (EP X pins σ Q) X.xe s
def tSl (r:V->Option Int->Option Int->Hp->VK->Prop)(te:TE)(tl th:TO):TE:=λσ H Q=>te σ H λx H1=>tl σ H1 λl H2=>th σ H2 λu H3=>r x l u H3 Q
theorem j5 {r:V->Option Int->Option Int->Hp->VK->Prop}(hr:SlR X r)(he:PE X e te)(hl:PO X lo tl)(hu:PO X hi th):PE X (.Subscript e (.Slice lo hi none p2) pos) (tSl r te tl th):=by
 intro pins s σ H Q I h
 refine Subscript_ (thn (he pins s σ H _ I h) λv s1 hz=>?_)
 obtain⟨x,H1,I1,r1,q1⟩:=hz
 refine wpAny_Slice (thn (hl pins s1 σ H1 _ I1 q1) λvl s2 ⟨l,H2,I2,pl,q2⟩=>thn (hu pins s2 σ H2 _ I2 q2) λvu s3 hz=>?_)
 obtain⟨u,H3,I3,pu,q3⟩:=hz
 rw[evalPart_none]
 refine Agb ?_
 have I4:Inv X pins σ H3 {s3 with heap:=s3.heap.push {cls:=.type "slice",data:=.fields #[vl,vu,.none]}}:=I3.kept (t':=s3.toks) λb ob q=>Agc _ q
 obtain⟨T,id,hT,ht,hg⟩:=hr pins {s3 with heap:=s3.heap.push {cls:=.type "slice",data:=.fields #[vl,vu,.none]}} σ H3 x v vl vu l u s3.heap.objs.size Q I4 r1 (Heap.IsSliceOf.new ..) pl pu q3
 show wpAny (model X.prog X.w) X.A (subscriptTail e (.Slice lo hi none p2) v (.ref s3.heap.objs.size)) (EP X pins σ Q) X.xe {s3 with heap:=s3.heap.push {cls:=.type "slice",data:=.fields #[vl,vu,.none]}}
 exact tail_any (ops:=[.ref s3.heap.objs.size,v]) ht hT hg (by with_unfolding_all rfl)
def kz (xs:List V)(lo hi:Option Int):List V:=(xs.drop (HT.sIx xs.length 0 lo)).take (HT.sIx xs.length xs.length hi-HT.sIx xs.length 0 lo)
theorem Wa (xs:List V)(lo hi:Option Int):(kz xs lo hi).length<=xs.length:=by
 unfold kz
 rw[Ahk,Ajd]
 lia
def Afp (K:W.Frag):V->Option Int->Option Int->Hp->VK->Prop:=λx lo hi H Q=>∃a xs,x=.ref a/\SqT K H a xs/\
 ¬(HT.sIx xs.length 0 lo=0/\HT.sIx xs.length xs.length hi=xs.length)/\∀p,H p=none->Q (.ref p) (upd H p (.tup (kz xs lo hi)))
theorem Ab1:SlR X (Afp X.K):=by
 intro pins s σ H x v vl vu lo hi sl Q I rx hs pl pu h
 obtain⟨a,xs,rfl,hx,hw,q⟩:=h
 cases rx
 obtain⟨its,r,ht,hz⟩:=I.tuple hx
 have hlen:its.toArray.size=xs.length:=by rw[Agm];exact r.length.symm
 refine⟨"tuple",_,PyProof.Rows.slot_tuple_getitem.lookup,ht.typeIs,?_⟩
 refine HT.Sy ht hs pl pu (by rw[hlen];exact hw) ?_ (by rw[hlen];exact hz)
 rw[hlen]
 refine⟨.ref s.heap.objs.size,_,I.laid (t':=s.toks) (o:=.tup (kz xs lo hi)) (λb ob q=>Agc _ q) (Agi _) ?_,rfl,q _ (I.hok.fresh (Agi _))⟩
 exact⟨Ag1 (Wa xs lo hi) hz,_,(r.drop (HT.sIx xs.length 0 lo)).take (HT.sIx xs.length xs.length hi-HT.sIx xs.length 0 lo),IsTup.new _ _⟩
def Aeb (K:W.Frag):R2:=λx y H Q=>∃a b xs ys,x=.ref a/\y=.ref b/\SqT K H a xs/\SqT K H b ys/\xs≠[]/\xs.length+ys.length<=sizeLine/\
 (ys=[]->Q (.ref a) H)/\(ys≠[]->∀p,H p=none->Q (.ref p) (upd H p (.tup (xs++ys))))
theorem Vals.nil_iff {xs:List V}{us:List Value}(r:Vals xs us):us=[]↔xs=[]:=by
 cases r with
 | nil=>simp
 | cons _ _=>simp
theorem Aa5:OpR X (binaryOp .Add) (Aeb X.K):=by
 intro pins s σ H x y v u Q I rx ry h
 obtain⟨a,b,xs,ys,rfl,rfl,ha,hb,hx,hz,q1,q2⟩:=h
 cases rx
 cases ry
 obtain⟨its,r1,p1,_⟩:=I.tuple ha
 obtain⟨its2,r2,p2,_⟩:=I.tuple hb
 refine HT.Aa1 p1 p2 (λz=>hx (r1.nil_iff.mp z)) (λz=>⟨.ref a,H,I,rfl,q1 (r2.nil_iff.mp z)⟩) (λz=>?_) (by rw[←r1.length,←r2.length];exact hz)
 refine⟨.ref s.heap.objs.size,_,I.laid (t':=s.toks) (o:=.tup (xs++ys)) (λb ob q=>Agc _ q) (Agi _) ?_,rfl,q2 (λw=>z (r2.nil_iff.mpr w)) _ (I.hok.fresh (Agi _))⟩
 exact⟨by rw[Agw];exact hz,_,r1.append r2,IsTup.new _ _⟩
end
def ixN (n:Nat)(i:Int):Option Nat:=if 0<=i then(if i<n then some i.toNat else none) else if-(n:Int)<=i then some (i+n).toNat else none
def atI {α:Type}(xs:List α)(i:Int):Option α:=(ixN xs.length i).bind λj=>xs[j]?
theorem ph {n:Nat}{i:Int}{j:Nat}(h:ixN n i=some j):seqIndex? i n=some j/\j<n/\ -(n:Int)<=i/\i<n:=by
 unfold ixN at h
 by_cases h0:0<=i
 ·
  rw[if_pos h0] at h
  by_cases h1:i<n
  ·
   rw[if_pos h1] at h
   have e:i.toNat=j:=Agn h
   exact⟨by rw[seqIndex_of h0 h1,e],by lia,by lia,h1⟩
  · rw[if_neg h1] at h;cases h
 ·
  rw[if_neg h0] at h
  by_cases h1: -(n:Int)<=i
  ·
   rw[if_pos h1] at h
   have e:(i+n).toNat=j:=Agn h
   exact⟨by rw[seqIndex_neg (by lia) h1,e],by lia,h1,by lia⟩
  · rw[if_neg h1] at h;cases h
theorem fb {α:Type}{xs:List α}{i:Int}{v:α}(h:atI xs i=some v):∃j,seqIndex? i xs.length=some j/\xs[j]?=some v/\j<xs.length/\ -(xs.length:Int)<=i/\i<xs.length:=by
 unfold atI at h
 cases e:ixN xs.length i with
 | none=>rw[e] at h;cases h
 |
  some j=>
  rw[e] at h
  obtain⟨h1,h2,h3,h4⟩:=ph e
  exact⟨j,h1,h,h2,h3,h4⟩
theorem Y4 {α:Type}{xs:List α}{j:Nat}{v:α}(h:xs[j]?=some v):atI xs (j:Int)=some v:=by
 have hj:j<xs.length:=(Agl.mp h).1
 have e:ixN xs.length (j:Int)=some j:=by
  unfold ixN
  rw[if_pos (by lia),if_pos (by lia)];simp
 unfold atI;rw[e];exact h
def Aaq (b:Expr):Prop:=∀o i,subscripted b false o i=operate [o,i] (getItem o i)
def IxR (X:Cx)(r:R2):Prop:=
 ∀(value slice:Expr)(pins:List (Addr×Obj))(s:Shared)(σ:St)(H:Hp)(x y:V)(v u:Value)(Q:VK),Inv X pins σ H s->RelV x v->RelV y u->r x y H Q->
  subscripted slice false v u=operate [v,u] (getItem v u)->wpAny (model X.prog X.w) X.A (subscriptTail value slice v u) (EP X pins σ Q) X.xe s
def MtR (X:Cx)(id:String)(r:V->List V->Hp->VK->Prop):Prop:=
 ∀(pins:List (Addr×Obj))(s:Shared)(σ:St)(H:Hp)(x:V)(xs:List V)(v:Value)(us:List Value)(Q:VK),Inv X pins σ H s->RelV x v->Vals xs us->r x xs H Q->
  wpAny (model X.prog X.w) X.A (call (.builtin id) (v::us)) (EP X pins σ Q) X.xe s
section
variable {X:Cx}{a b:Expr}{ta tb:TE}{pos:Pos}
theorem Hk {r:R2}(hr:IxR X r)(ha:PE X a ta)(hb:PE X b tb)(hs:Aaq b):PE X (.Subscript a b pos) (tOp r ta tb):=by
 intro pins s σ H Q I h
 exact Subscript_ (Ady ha hb I h λv u s2 x y H2 I2 rx ry q=>hr a b pins s2 σ H2 x y v u Q I2 rx ry q (hs _ _))
def Ae9 (K:W.Frag):R2:=λx y H Q=>∃p xs i v,x=.ref p/\y=.int i/\SqL K H p xs/\atI xs i=some v/\Q v H
def Ae0 (K:W.Frag):R2:=λx y H Q=>∃p xs i v,x=.ref p/\y=.int i/\SqT K H p xs/\atI xs i=some v/\Q v H
def Af1:R2:=λx y H Q=>∃z i c,x=.str z/\y=.int i/\z.length<=sizeLine/\atI z.cps.toList i=some c/\Q (.str ⟨#[c]⟩) H
theorem Aar:IxR X (Ae9 X.K):=by
 intro value slice pins s σ H x y v u Q I rx ry h hs
 obtain⟨p,xs,i,z,rfl,rfl,hq,he,q⟩:=h
 cases rx
 obtain⟨t,rfl⟩:=ry
 obtain⟨its,r,pl,hz⟩:=I.list hq
 obtain⟨j,h1,h2,h3,h4,h5⟩:=fb he
 obtain⟨w,ew,rw'⟩:=r.get h2
 have hl:=r.length
 have hn:=V3
 have fin:EP X pins σ Q w s:=⟨z,H,I,rw',q⟩
 by_cases h0:0<=i
 ·
  have hj:i.toNat=j:=by
   rw[seqIndex_of h0 h5] at h1
   exact Agn h1
  exact item_listR pl.isList h0 (by lia) (by rw[hj];simpa using ew) fin hs
 ·
  have hj:(i+(its.toArray.size:Int)).toNat=j:=by
   rw[seqIndex_neg (by lia) h4] at h1
   rw[Agm,←hl]
   exact Agn h1
  exact subscriptTail_builtinR (x:=w) pl.isList.typeIs slot_list_getitem.lookup
   (wpAny_getItem_list_neg (Q:=λr s'=>r=w/\EP X pins σ Q r s') pl.isList (by lia) (by rw[Agm]<;>lia) (by lia) (by rw[hj];simpa using ew) ⟨rfl,fin⟩) hs
theorem Abr:IxR X (Ae0 X.K):=by
 intro value slice pins s σ H x y v u Q I rx ry h hs
 obtain⟨p,xs,i,z,rfl,rfl,hq,he,q⟩:=h
 cases rx
 obtain⟨t,rfl⟩:=ry
 obtain⟨its,r,pl,hz⟩:=I.tuple hq
 obtain⟨j,h1,h2,h3,h4,h5⟩:=fb he
 obtain⟨w,ew,rw'⟩:=r.get h2
 have hl:=r.length
 have hn:=V3
 have fin:EP X pins σ Q w s:=⟨z,H,I,rw',q⟩
 exact subscriptTail_builtinR (x:=w) pl.typeIs slot_tuple_getitem.lookup
  (getItem_tuple (j:=j) (Q:=λr s'=>r=w/\EP X pins σ Q r s') pl (by lia) (by lia) (by rw[Agm,←hl];exact h1) (by simpa using ew) ⟨rfl,fin⟩) hs
theorem sy:IxR X Af1:=by
 intro value slice pins s σ H x y v u Q I rx ry h hs
 obtain⟨z,i,c,rfl,rfl,hz,he,q⟩:=h
 obtain⟨t,rfl⟩:=rx
 obtain⟨t',rfl⟩:=ry
 obtain⟨j,h1,h2,h3,h4,h5⟩:=fb he
 have hl:z.cps.toList.length=z.length:=by simp[Str.length]
 rw[hl] at h1 h4 h5
 have hn:=V3
 exact tail_any (typeIs_str s z t) slot_str_getitem.lookup (getItem_str (c:=c) (by
  have e1:decide (i< -(2 ^ 63:Int))=false:=Agp (by lia)
  have e2:decide (i≥2 ^ 63)=false:=Agp (by lia)
  rw[e1,e2,Bool.or_false]) (by rw[h1];simpa using h2) ⟨.str ⟨#[c]⟩,H,I.tok _,⟨_,rfl⟩,q⟩) hs
theorem lp (its:List Value)(n j:Nat)(u:Value):Obj.mapSeq (·.setIfInBounds j u) {cls:=.type "list",data:=.seq its.toArray n}={cls:=.type "list",data:=.seq (its.set j u).toArray n}:=by
 simp[Obj.mapSeq]
theorem Inv.lst {pins:List (Addr×Obj)}{σ:St}{H:Hp}{s:Shared}{p:Addr}{xs:List V}(I:Inv X pins σ H s)(h:H p=some (.lst xs)):
  ∃(its:List Value)(n:Nat),Vals xs its/\s.heap.get? p=some {cls:=.type "list",data:=.seq its.toArray n}/\xs.length<=sizeLine:=by
 obtain⟨z,its,n,r,e⟩:=I.hok p _ h
 exact⟨its,n,r,e,z⟩
theorem Inv.lstUpd {pins:List (Addr×Obj)}{σ:St}{H:Hp}{s:Shared}{p:Addr}{xs ys:List V}{its its':List Value}{n n':Nat}{f:Obj->Obj}(I:Inv X pins σ H s)(h:H p=some (.lst xs))
  (ho:s.heap.get? p=some {cls:=.type "list",data:=.seq its.toArray n}) (hf:f {cls:=.type "list",data:=.seq its.toArray n}={cls:=.type "list",data:=.seq its'.toArray n'}) (r:Vals ys its') (hz:ys.length<=sizeLine) (t:Nat):
  Inv X pins σ (upd H p (.lst ys)) {s with heap:=s.heap.update p f,toks:=t}:=by
 have e:(s.heap.update p f).get? p=some {cls:=.type "list",data:=.seq its'.toArray n'}:=by
  rw[Ah6 f ho (by rw[hf]<;>rfl),hf]
 refine I.write (x:=p) (e:=p) (by rw[h];trivial) (.inl rfl) (λb u hb q=>(Aj4 _ _ (Aj3 hb)).trans q) ⟨_,e⟩ ?_
 exact⟨hz,its',n',r,e⟩
def Aeo:V->V->V->Hp->(Hp->Prop)->Prop:=λo i v H Q=>∃p xs k j,o=.ref p/\i=.int k/\H p=some (.lst xs)/\ixN xs.length k=some j/\Q (upd H p (.lst (xs.set j v)))
theorem set_list:Afc X Aeo:=by
 intro pins s σ H o i v ov iv u Q I ro ri rv h
 obtain⟨p,xs,k,j,rfl,rfl,hp,hj,q⟩:=h
 cases ro
 obtain⟨t,rfl⟩:=ri
 obtain⟨its,n,r,ho,hz⟩:=I.lst hp
 obtain⟨h1,h2,h3,h4⟩:=ph hj
 have hl:=r.length
 have hn:=V3
 have I':Inv X pins σ (upd H p (.lst (xs.set j v))) {s with heap:=s.heap.update p (Obj.mapSeq (·.setIfInBounds j u))}:=
  I.lstUpd hp ho (lp its n j u) (r.set rv j) (by rw[List.length_set];exact hz) s.toks
 by_cases h0:0<=k
 ·
  have hk:k.toNat=j:=by
   rw[seqIndex_of h0 h4] at h1
   exact Agn h1
  exact W.ki_setAt ho h0 (by lia) (by rw[Agm,←hl];exact h4) (by rw[hk];exact⟨_,I',q⟩)
 ·
  have hk:(k+(its.toArray.size:Int)).toNat=j:=by
   rw[seqIndex_neg (by lia) h3] at h1
   rw[Agm,←hl]
   exact Agn h1
  exact W.ki_setBack ho (by lia) (by rw[Agm,←hl];exact h3) (by lia) (by rw[hk];exact⟨_,I',q⟩)
theorem d4 (lo hi:Option Int)(n:Nat):(sliceBounds lo hi none n).1=((HT.sIx n 0 lo:Nat):Int)/\(sliceBounds lo hi none n).2.1=((HT.sIx n n hi:Nat):Int)/\(sliceBounds lo hi none n).2.2=1:=by
 refine⟨?_,?_,rfl⟩
 ·
  cases lo with
  | none=>simp[sliceBounds,HT.sIx]
  |
   some i=>
   simp only[sliceBounds,HT.sIx,Option.getD_none,show(1:Int)>0 by decide,Alh]
   by_cases h:i<0
   · simp only[h,Alh]<;>lia
   · simp only[h,Aiz]<;>lia
 ·
  cases hi with
  | none=>simp[sliceBounds,HT.sIx]
  |
   some i=>
   simp only[sliceBounds,HT.sIx,Option.getD_none,show(1:Int)>0 by decide,Alh]
   by_cases h:i<0
   · simp only[h,Alh]<;>lia
   · simp only[h,Aiz]<;>lia
theorem Yh (its:List Value)(lo hi:Option Int):slicePick its.toArray lo hi none=((its.drop (HT.sIx its.length 0 lo)).take (HT.sIx its.length its.length hi-HT.sIx its.length 0 lo)).toArray:=by
 obtain⟨h1,h2,h3⟩:=d4 lo hi its.toArray.size
 unfold slicePick
 rw[h1,h2,h3]
 simp only[sliceRange_one,pick_run,Agm]<;>rfl
def Aez (K:W.Frag):V->Option Int->Option Int->Hp->VK->Prop:=λx lo hi H Q=>∃a xs,x=.ref a/\SqL K H a xs/\∀p,H p=none->Q (.ref p) (upd H p (.lst (kz xs lo hi)))
theorem Abi:SlR X (Aez X.K):=by
 intro pins s σ H x v vl vu lo hi sl Q I rx hs pl pu h
 obtain⟨a,xs,rfl,hx,q⟩:=h
 cases rx
 obtain⟨its,r,ht,hz⟩:=I.list hx
 have hlen:=r.length
 refine⟨"list",_,slot_list_getitem.lookup,ht.isList.typeIs,?_⟩
 refine wpAny_getItem_list_slice ht.isList hs pl pu .none (by simp) ?_ (by rw[Agm]<;>lia)
 rw[Yh,←hlen]
 refine⟨.ref s.heap.objs.size,_,I.laid (t':=s.toks) (o:=.lst (kz xs lo hi)) (λb ob q=>Agc _ q) (Agi _) ?_,rfl,q _ (I.hok.fresh (Agi _))⟩
 exact⟨Ag1 (Wa xs lo hi) hz,_,0,(r.drop (HT.sIx xs.length 0 lo)).take (HT.sIx xs.length xs.length hi-HT.sIx xs.length 0 lo),Ago _ rfl⟩
def Yv:V->Bool
 | .non=>true
 | .bl _=>true
 | .int _=>true
 | .str _=>true
 | _=>false
def eqV:V->V->Bool
 | .non,.non=>true
 | .bl a,.bl b=>a==b
 | .bl a,.int b=>(if a then 1 else 0)==b
 | .int a,.bl b=>a==(if b then 1 else 0)
 | .int a,.int b=>a==b
 | .str a,.str b=>a==b
 | _,_=>false
theorem Acw {A:Around}{s:Shared}{y x:V}{u v:Value}(ry:RelV y u)(rx:RelV x v)(fy:Yv y=true)(fx:Yv x=true):SeqAt.EqAt A s u v (eqV y x):=by
 cases y with
 |
  non=>
  cases ry
  cases x with
  | non=>cases rx;exact SeqAt.EqAt.same _
  | bl b=>cases rx;exact SeqAt.EqAt.none_bool b
  | int b=>obtain⟨t,rfl⟩:=rx;exact SeqAt.EqAt.none_int b t
  | str b=>obtain⟨t,rfl⟩:=rx;exact SeqAt.EqAt.none_str b t
  | _=>exact absurd (show false=true from fx) Ags
 |
  bl a=>
  cases ry
  cases x with
  | non=>cases rx;exact SeqAt.EqAt.bool_none a
  | bl b=>cases rx;exact SeqAt.EqAt.bool_bool a b
  | int b=>obtain⟨t,rfl⟩:=rx;exact SeqAt.EqAt.bool_int a b t
  | str b=>obtain⟨t,rfl⟩:=rx;exact SeqAt.EqAt.bool_str a b t
  | _=>exact absurd (show false=true from fx) Ags
 |
  int a=>
  obtain⟨t',rfl⟩:=ry
  cases x with
  | non=>cases rx;exact SeqAt.EqAt.int_none a t'
  | bl b=>cases rx;exact SeqAt.EqAt.int_bool a t' b
  | int b=>obtain⟨t,rfl⟩:=rx;exact SeqAt.EqAt.int_int a t' b t
  | str b=>obtain⟨t,rfl⟩:=rx;exact SeqAt.EqAt.int_str a t' b t
  | _=>exact absurd (show false=true from fx) Ags
 |
  str a=>
  obtain⟨t',rfl⟩:=ry
  cases x with
  | non=>cases rx;exact SeqAt.EqAt.str_none a t'
  | bl b=>cases rx;exact SeqAt.EqAt.str_bool a t' b
  | int b=>obtain⟨t,rfl⟩:=rx;exact SeqAt.EqAt.str_int a t' b t
  | str b=>obtain⟨t,rfl⟩:=rx;exact SeqAt.EqAt.str_str a t' b t
  | _=>exact absurd (show false=true from fx) Ags
 | _=>exact absurd (show false=true from fy) Ags
def eqU (x:V)(u:Value):Bool:=match u with
 | .none=>eqV .non x
 | .bool b=>eqV (.bl b) x
 | .int i _=>eqV (.int i) x
 | .str z _=>eqV (.str z) x
 | _=>false
theorem yw {x y:V}{u:Value}(r:RelV y u)(f:Yv y=true):eqU x u=eqV y x:=by
 cases y with
 | non=>cases r;rfl
 | bl b=>cases r;rfl
 | int i=>obtain⟨t,rfl⟩:=r;rfl
 | str z=>obtain⟨t,rfl⟩:=r;rfl
 | _=>exact absurd (show false=true from f) Ags
theorem f7 {x:V}:∀{xs:List V}{us:List Value},Vals xs us->xs.all Yv=true->us.any (eqU x)=xs.any λy=>eqV y x
 | _,_,.nil,_=>rfl
 |
  y::xs,u::us,.cons r t,f=>by
  rw[List.all_cons,Ag6] at f
  rw[Aj9,Aj9,yw r f.1,f7 t f.2]
theorem Y9 {A:Around}{s:Shared}{x:V}{v:Value}(rx:RelV x v)(fx:Yv x=true):∀{xs:List V}{us:List Value},Vals xs us->xs.all Yv=true->∀u∈us,SeqAt.EqAt A s u v (eqU x u)
 | _,_,.nil,_=>λu hu=>by cases hu
 |
  y::xs,u::us,.cons r t,f=>λu' hu=>by
  rw[List.all_cons,Ag6] at f
  rcases Agx.mp hu with rfl|hu
  · rw[yw r f.1];exact Acw r rx f.1 fx
  · exact Y9 rx fx t f.2 u' hu
def inV (x:V)(xs:List V):Bool:=xs.any λy=>eqV y x
def rIn (K:W.Frag)(neg:Bool):R2:=λx y H Q=>∃p xs,y=.ref p/\(SqL K H p xs∨SqT K H p xs)/\Yv x=true/\xs.all Yv=true/\Q (.bl (if neg then !inV x xs else inV x xs)) H
theorem cb:OpR X (compareOp .NotIn) (rIn X.K true):=by
 intro pins s σ H x y v u Q I rx ry h
 obtain⟨p,xs,rfl,hq,fx,fs,q⟩:=h
 cases ry
 rcases hq with hq|hq
 ·
  obtain⟨its,r,pl,hz⟩:=I.list hq
  refine SeqAt.notIn_listAt (eqU x) pl.isList (λw hw=>Y9 rx fx r fs w (by simpa using hw)) ⟨.bl _,H,I,rfl,?_⟩
  rw[show its.toArray.any (eqU x)=its.any (eqU x) by simp,f7 r fs]
  exact q
 ·
  obtain⟨its,r,pl,hz⟩:=I.tuple hq
  refine SeqAt.notIn_tupleAt (eqU x) pl (λw hw=>Y9 rx fx r fs w (by simpa using hw)) ⟨.bl _,H,I,rfl,?_⟩
  rw[show its.toArray.any (eqU x)=its.any (eqU x) by simp,f7 r fs]
  exact q
theorem bb:Jp X (.builtin "len") (λxs H Q=>∃p ys,xs=[.ref p]/\(SqL X.K H p ys∨SqT X.K H p ys)/\Q (.int ys.length) H):=by
 intro pins s σ H xs us Q I r h
 obtain⟨p,ys,rfl,hq,q⟩:=h
 obtain⟨u,rfl,rx⟩:=vals1 r
 cases rx
 have hn:=V3
 rcases hq with hq|hq
 ·
  obtain⟨its,r',pl,hz⟩:=I.list hq
  have hlen:=r'.length
  exact Calls.call_len_list pl.isList (by simp only[Agm]<;>lia) ⟨.int ys.length,H,I.tok _,⟨s.toks+1,by rw[Agm,hlen]⟩,q⟩
 ·
  obtain⟨its,r',pl,hz⟩:=I.tuple hq
  have hlen:=r'.length
  exact len_tuple pl (by simp only[Agm]<;>lia) ⟨.int ys.length,H,I.tok _,⟨s.toks+1,by rw[Agm,hlen]⟩,q⟩
theorem Tn:Jp X (.builtin "len") (λxs H Q=>∃z,xs=[.str z]/\z.length<=sizeLine/\Q (.int z.length) H):=by
 intro pins s σ H xs us Q I r h
 obtain⟨z,rfl,hz,q⟩:=h
 obtain⟨u,rfl,t,rfl⟩:=vals1 r
 have hn:=V3
 exact len_str (by lia) ⟨.int z.length,H,I.tok _,⟨_,rfl⟩,q⟩
theorem c9:Jp X (.type "list") (λxs H Q=>∃p ys,xs=[.ref p]/\(SqL X.K H p ys∨SqT X.K H p ys)/\∀l,H l=none->Q (.ref l) (upd H l (.lst ys))):=by
 intro pins s σ H xs us Q I r h
 obtain⟨p,ys,rfl,hq,q⟩:=h
 obtain⟨u,rfl,rx⟩:=vals1 r
 cases rx
 have fin:∀(its:List Value),Vals ys its->ys.length<=sizeLine->∀(h':Heap)(c':Nat),(∀b o',s.heap.get? b=some o'->h'.get? b=some o')->
   h'.get? s.heap.objs.size=some {cls:=.type "list",dict:=none,data:=.seq its.toArray c',slots:=#[]}->EP X pins σ Q (.ref s.heap.objs.size) {s with heap:=h'}:=λits r' hz h' c' kp e=>
  ⟨.ref s.heap.objs.size,_,I.laid (t':=s.toks) kp (Agi _) (show ObjOk X.prog X.w _ h' _ (.lst ys) from ⟨hz,its,c',r',e⟩),rfl,q _ (I.hok.fresh (Agi _))⟩
 rcases hq with hq|hq
 ·
  obtain⟨its,r',pl,hz⟩:=I.list hq
  have hlen:=r'.length
  obtain⟨o,ho,hc,n,hd⟩:=pl.isList
  exact call_list_seq p (.inl rfl) ho hc hd (λh' c' kp e=>fin its r' hz h' c' kp e) (by simp only[Agm]<;>lia)
 ·
  obtain⟨its,r',pl,hz⟩:=I.tuple hq
  have hlen:=r'.length
  obtain⟨o,ho,hc,n,hd⟩:=pl
  exact call_list_seq p (.inr rfl) ho hc hd (λh' c' kp e=>fin its r' hz h' c' kp e) (by simp only[Agm]<;>lia)
theorem X9:Jp X (.type "tuple") (λxs H Q=>∃p ys,xs=[.ref p]/\((SqL X.K H p ys/\∀l,H l=none->Q (.ref l) (upd H l (.tup ys)))∨(SqT X.K H p ys/\Q (.ref p) H))):=by
 intro pins s σ H xs us Q I r h
 obtain⟨p,ys,rfl,h⟩:=h
 obtain⟨u,rfl,rx⟩:=vals1 r
 cases rx
 rcases h with⟨hq,q⟩|⟨hq,q⟩
 ·
  obtain⟨its,r',pl,hz⟩:=I.list hq
  have hlen:=r'.length
  refine call_tuple_list pl.isList (λh' kp=>?_) (by simp only[Agm]<;>lia)
  have I1:Inv X pins σ H {s with heap:=h'}:=I.kept (t':=s.toks) kp
  have I2:Inv X pins σ (upd H h'.objs.size (.tup ys)) {s with heap:=h'.push {cls:=.type "tuple",data:=.seq its.toArray}}:=
   I1.laid (t':=s.toks) (λb o e=>Agc _ e) (Agi _) (show ObjOk X.prog X.w _ _ _ (.tup ys) from ⟨hz,its,r',IsTup.new _ _⟩)
  exact⟨.ref h'.objs.size,_,I2,rfl,q _ (I1.hok.fresh (Agi _))⟩
 ·
  obtain⟨its,r',pl,hz⟩:=I.tuple hq
  exact call_tuple_same pl ⟨.ref p,H,I,rfl,q⟩
def tyV (K:W.Frag)(T:String)(x:V)(H:Hp):Prop:=match x with
 | .str _=>T="str"
 | .int _=>T="int"
 | .ref p=>(T="list"/\∃xs,SqL K H p xs)∨(T="tuple"/\∃o,K.lookup p=some o/\o.cls=.type "tuple"/\o.dict=none)∨
  (T="dict"/\((∃kvs,H p=some (.dK kvs))∨∃kvs,H p=some (.dT kvs)))∨(T="set"/\∃S n,H p=some (.set S n))
 | _=>False
theorem Ab4 {pins:List (Addr×Obj)}{σ:St}{H:Hp}{s:Shared}{T:String}{x:V}{v:Value}(I:Inv X pins σ H s)(r:RelV x v)(ty:tyV X.K T x H):
  s.TypeIs v T/\∀a,v=.ref a->∃ob,s.heap.get? a=some ob/\ob.dict=none:=by
 cases x with
 |
  str z=>
  obtain⟨t,rfl⟩:=r
  cases (show T="str" from ty)
  exact⟨typeIs_str s z t,λ_ e=>nomatch e⟩
 |
  int i=>
  obtain⟨t,rfl⟩:=r
  cases (show T="int" from ty)
  exact⟨typeIs_int s i t,λ_ e=>nomatch e⟩
 |
  ref p=>
  cases r
  rcases ty with⟨rfl,xs,hq⟩|⟨rfl,o,hk,hc,hd⟩|⟨rfl,hk⟩|⟨rfl,S,n,hk⟩
  ·
   obtain⟨its,_,pl,_⟩:=I.list hq
   refine⟨pl.isList.typeIs,λa e=>?_⟩
   cases e
   obtain⟨o,n,e,c,hd,_⟩:=pl
   exact⟨o,e,hd⟩
  ·
   refine⟨⟨o,I.kIn p o hk,hc⟩,λa e=>?_⟩
   cases e
   exact⟨o,I.kIn _ o hk,hd⟩
  ·
   have z:∃o,s.heap.get? p=some o/\o.ExactDict:=by
    rcases hk with⟨kvs,hk⟩|⟨kvs,hk⟩
    ·
     obtain⟨_,_,_,_,o,_,_,e,ex,_⟩:=I.hok p _ hk
     exact⟨o,e,ex⟩
    ·
     obtain⟨_,_,_,_,o,_,_,e,ex,_⟩:=I.hok p _ hk
     exact⟨o,e,ex⟩
   obtain⟨o,e,ex⟩:=z
   refine⟨⟨o,e,ex.1⟩,λa e2=>?_⟩
   cases e2
   exact⟨o,e,ex.2.1⟩
  ·
   obtain⟨o,_,_,_,e,ex,_⟩:=I.hok p _ hk
   refine⟨⟨o,e,ex.1⟩,λa e2=>?_⟩
   cases e2
   exact⟨o,e,ex.2.1⟩
 | _=>exact False.elim ty
def tBM (K:W.Frag)(T:String)(r:V->List V->Hp->VK->Prop)(to:TE)(t:TA):TE:=λσ H Q=>to σ H λx H1=>tyV K T x H1/\t σ H1 λxs H2=>r x xs H2 Q
variable {o e:Expr}{es:List Expr}{to:TE}{t:TA}{name:Str}{apos cpos:Pos}{T id:String}{r:V->List V->Hp->VK->Prop}
theorem Acx (pa:PlainAttrs T)(slot:Slot T name id)(hty:typeOf (.builtin id)=pure (.type "method_descriptor"))(hm:MtR X id r)(ho:PE X o to)(ha:PA X (e::es) t)
  (hbase:attributeBase o name X.env (eval o X.env)=eval o X.env:=by rfl)
  (hfew:((backTo cpos (starEach (e::es) X.env)).all (λx=>!x.1)&&(backToKw cpos (keywordEach [] X.env)).all (λx=>x.1.isSome)
   &&decide ((e::es).length+([]:List Keyword).length+(if([]:List Keyword).isEmpty then 0 else 1)<30))=true:=by rfl)
  (hline:(apos.endLine==cpos.line)=true:=by rfl) (hs:starEach (e::es) X.env=(false,eval e X.env)::starEach es X.env:=by rfl) (hplain:(backTo cpos (starEach es X.env)).any (·.1)=false:=by rfl):
  PE X (.Call (.Attribute o name apos) (e::es) [] cpos) (tBM X.K T r to t):=by
 intro pins s σ H Q I h
 refine wpAny_Call_method_late hbase hfew hline rfl (thn (ho pins s σ H _ I h) λv s1 hz=>?_)
 obtain⟨x,H1,I1,r1,ty,q1⟩:=hz
 obtain⟨h1,h2⟩:=Ab4 I1 r1 ty
 refine⟨T,id,pa,slot,hty,h1,h2,?_⟩
 have hA:=ha cpos pins s1 σ H1 _ I1 q1
 rw[hs] at hA ⊢
 refine Aj5 (by show(false||(backTo cpos (starEach es X.env)).any (·.1))=false;rw[hplain]<;>rfl) (Ajj ?_)
 exact thn hA λus s2 ⟨vs,H2,I2,r2,q2⟩=>hm pins s2 σ H2 x vs v us Q I2 r1 r2 q2
end
def MtM (X:Cx)(id:String)(r:V->List V->Hp->VK->Prop):Prop:=
 ∀(pins:List (Addr×Obj))(s:Shared)(σ:St)(H:Hp)(x:V)(xs:List V)(v:Value)(us:List Value)(Q:VK),Inv X pins σ H s->RelV x v->Vals xs us->r x xs H Q->
  wpAny (model X.prog X.w) X.A (call (.builtin id) (v::us)) (EP X pins σ Q) X.xe s
theorem Vals.one {x:V}{us:List Value}(h:Vals [x] us):∃u,us=[u]/\RelV x u:=by
 cases h with
 | cons r t=>cases t;exact⟨_,rfl,r⟩
theorem Vals.two {x y:V}{us:List Value}(h:Vals [x,y] us):∃u v,us=[u,v]/\RelV x u/\RelV y v:=by
 cases h with
 |
  cons r t=>
  obtain⟨v,rfl,q⟩:=Vals.one t
  exact⟨_,_,rfl,r,q⟩
section
variable {X:Cx}{pins:List (Addr×Obj)}{σ:St}{H:Hp}{s:Shared}{l b:Addr}{xs ys zs:List V}
theorem Inv.lset {its its':List Value}{n:Nat}{f:Array Value->Array Value}{t':Nat}(I:Inv X pins σ H s)(hH:H l=some (.lst xs))
  (e:s.heap.get? l=some {cls:=.type "list",data:=.seq its.toArray n}) (hf:f its.toArray=its'.toArray) (hv:Vals ys its') (hz:ys.length<=sizeLine):
  Inv X pins σ (upd H l (.lst ys)) {s with heap:=s.heap.update l (Obj.mapSeq f),toks:=t'}:=by
 have q:=PySem.IsL.update e f
 rw[hf] at q
 refine I.write (x:=l) (e:=l) (by rw[hH];exact trivial) (.inl rfl) (λb' u hb hu=>(Aj4 s.heap (Obj.mapSeq f) (Aj3 hb)).trans hu) ⟨_,q⟩ ?_
 exact⟨hz,its',_,hv,q⟩
theorem Inv.lnew {its:List Value}{t':Nat}(I:Inv X pins σ H s)(hv:Vals ys its)(hz:ys.length<=sizeLine):
  Inv X pins σ (upd H s.heap.objs.size (.lst ys)) {s with heap:=s.heap.push {cls:=.type "list",data:=.seq its.toArray},toks:=t'}:=
 I.laid (λ_ _ q=>Agc _ q) (Agi _) ⟨hz,its,0,hv,Ago _ rfl⟩
theorem Inv.fresh (I:Inv X pins σ H s):H s.heap.objs.size=none:=I.hok.fresh (Agi _)
theorem Inv.lstM (I:Inv X pins σ H s)(hH:H l=some (.lst xs)):xs.length<=sizeLine/\∃(its:List Value)(n:Nat),Vals xs its/\xs.length=its.length/\s.heap.get? l=some {cls:=.type "list",data:=.seq its.toArray n}:=by
 obtain⟨z,its,n,r,e⟩:=I.hok l _ hH
 exact⟨z,its,n,r,r.length,e⟩
end
section
variable {X:Cx}
def Aac:V->List V->Hp->VK->Prop:=λx vs H Q=>∃l xs y,x=.ref l/\vs=[y]/\H l=some (.lst xs)/\xs.length<sizeLine/\Q .non (upd H l (.lst (xs++[y])))
theorem Qy:MtM X "list.append" Aac:=by
 intro pins s σ H x vs v us Q I rx rv h
 obtain⟨l,xs,y,rfl,rfl,hH,hz,q⟩:=h
 cases rx
 obtain⟨u,rfl,ru⟩:=rv.one
 obtain⟨z,its,n,r,hl,e⟩:=I.lstM hH
 refine call_meets F.slot_list_append ⟨_,e,rfl⟩ F.entry_list_append (F.args_list_append_2 _ _) (PySem.list_append l its.toArray n u (by rw[Agm];lia)) ⟨e,?_⟩
 refine⟨.non,_,I.lset (its':=its++[u]) hH e (by simp) (r.append (.cons ru .nil)) ?_,rfl,q⟩
 rw[Agw,List.length_singleton]
 lia
def Afm:R2:=λx y H Q=>∃l b xs zs,x=.ref l/\y=.ref b/\H l=some (.lst xs)/\H b=some (.lst zs)/\xs.length+zs.length<=sizeLine/\∀p,H p=none->Q (.ref p) (upd H p (.lst (xs++zs)))
theorem qz:OpR X (binaryOp .Add) Afm:=by
 intro pins s σ H x y v u Q I rx ry h
 obtain⟨l,b,xs,zs,rfl,rfl,hH,hB,hz,q⟩:=h
 cases rx
 cases ry
 obtain⟨z,its,n,r,hl,e⟩:=I.lstM hH
 obtain⟨z2,its2,n2,r2,hl2,e2⟩:=I.lstM hB
 refine PySem.P.add_list e e2 ?_ (by rw[Agm,Agm];lia)
 have ea:its.toArray++its2.toArray=(its++its2).toArray:=by simp
 rw[ea]
 exact⟨.ref _,_,I.lnew (t':=s.toks) (r.append r2) (by rw[Agw];lia),rfl,q _ I.fresh⟩
end
section
variable {prog:Program}{w:World}{A:Around}{E:Value->Shared->Prop}{s:Shared}
end
section
variable {X:Cx}
end
end L2
namespace Att
open PySem PySem.W PySem.Calls PyProof.Rows
theorem Ww {P:Params}{h:Heap}:∀(ns:List Int)(vs:List Value),WellAll P h vs (ns.map WData.int)->IntsAre vs ns:=by
 intro ns
 induction ns with
 |
  nil=>
  intro vs w
  rw[Aj0] at w
  cases w
  exact .nil
 |
  cons n ns ih=>
  intro vs w
  rw[Agy] at w
  cases w with
  |
   cons a b=>
   cases a
   exact .cons _ _ (ih _ b)
theorem qp {l:OpenLaw}{n:Nat}(hn:l.most=some n){P:Params}{h:Heap}{args:List WData}{vals:List Value}
  (hpre:l.row.toRowW.claim.pre args=true) (hwl:WellAll P h vals args):
  ∃a vs ns,vals=[Value.ref a]/\args=[WData.list (ns.map WData.int)]/\h.get? a=some {cls:=.type "list",data:=.seq vs.toArray}/\IntsAre vs ns/\ns.length<=n:=by
 have hsh:WShape.hasAll [] args [.list .int]=true:=(pre_splitW hpre).1
 have hc:l.pre.holds [] {args:=args}=true:=(pre_splitW hpre).2
 obtain⟨d,r,rfl,h1,h2⟩:=hasAllW_cons hsh
 obtain rfl:=hasAllW_nil h2
 obtain⟨xs,rfl,h3⟩:=hasW_list h1
 obtain⟨ns,rfl⟩:=items_int h3
 have hlen:ns.length<=n:=by
  unfold OpenLaw.pre at hc
  have h4:(WTm.not (.lt (.lit (.int (n:Int))) (.len (.arg 0)))).holds [] {args:=[.list (ns.map .int)]}=true:=by
   have h4:=(holds_andW hc).1
   rw[hn] at h4
   exact h4
  have h5:=condW_of h4 (w_not (w_lt w_lit (w_len_list (w_arg rfl))))
  rw[Agd] at h5
  refine Nat.le_of_not_lt λq=>?_
  have q':(n:Int)<((ns.length:Nat):Int):=by lia
  first
   | (rw[Age q'] at h5;exact absurd h5 (by decide))
   | (simp at h5;lia)
 cases hwl with
 |
  cons w1 w2=>
  cases w2
  cases w1 with
  | list ho hall=>exact⟨_,_,ns,rfl,rfl,ho,Ww ns _ hall,hlen⟩
theorem su (l:OpenLaw)(args:List WData):l.row.toRowW.claim.post args (.bool true) args=true:=
 postW_of (r:=l.row.toRowW) (X:=(true==true))
  (show WShape.has [] (.bool true) .bool=true by first|rfl|decide|simp[WShape.has,WShape.arms,WShape.armsAll])
  (show(WTm.eq .res (.lit (.bool true))).value [] {args:=args,res:=some (.bool true),after:=args}=some (.bool (true==true)) from w_eq_bool (w_res rfl) w_lit) rfl
theorem fk {l:OpenLaw}{n:Nat}{q:Program}{loose:List Str}{XP:(Str->Option Value)->Heap->Prop}{YP:World->Heap->Prop}{d:DefRec}
  (hn:l.most=some n) (hdf:d.params.defaults=[])
  (call:∀(w:World)(s₀ s₁:Shared)(mg mb:Str->Option Value)(fa:Addr)(o:Obj)(pm cd doc:Value)(a:Addr)(vs:List Value)(ns:List Int),
   Ground q loose [] XP w s₀ mg mb s₁.heap->YP w s₁.heap->
   s₁.heap.get? fa=some o->o.data=.func (docDef d.name d.params d.body d.scope pm cd doc)->s₁.heap.CodeRec cd d.name->mg d.name=some (.ref fa)->
   s₁.heap.get? a=some {cls:=.type "list",data:=.seq vs.toArray}->IntsAre vs ns->ns.length<=n->s₁.gens=#[]->
   codeAny (model l.prog w) callerA (.call (.ref fa) ⟨[.ref a],[]⟩) (λr s'=>r=.ok (.ret (.bool true))/\OldK s₁.heap s'.heap/\s'.os=s₁.os/\AllBare s'.gens) s₁):
  WalkO q loose XP YP l.row.toRowW d [] (λf vs=>PySem.call f vs):=by
 intro w s₀ s₁ mg mb G Y fa o pm cd doc dV kV ho hd hcd hD hmg hg args vals as hpre hlay hrd hwl hlo
 obtain rfl:dV=.none:=Dflts.none hD hdf
 obtain rfl:kV=.none:=Dflts.noKw hD
 obtain⟨a,vs,ns,rfl,rfl,hobj,hints,hlen⟩:=qp hn hpre hwl
 refine enter_call (Ajc (call w s₀ s₁ mg mb fa o pm cd doc a vs ns G Y ho (fd_plain hd) hcd hmg hobj hints hlen hg) λr s' hq=>?_)
 obtain⟨rfl,h2,h3,h4⟩:=hq
 exact⟨.inl ⟨.bool true,.bool true,[],rfl,λ_=>rfl,.bool true,su l _,λ_=>⟨List.Pairwise.nil,λ_ hm=>(nomatch hm)⟩⟩,h2,h3,h4⟩
section
variable {prog:Program}{w:World}{A:Around}{E:Value->Shared->Prop}{s:Shared}{K:Frag}
def ledger (h:Heap)(L d:Addr):List (Addr×Obj):=(List.range h.objs.size).filterMap λa=>if a=L∨a=d then none else(h.get? a).map λo=>(a,o)
end
end Att
namespace L2
open PySem PySem.Spec PyProof.Rows
theorem Vu:∀{vs:List Value}{ns:List Int},IntsAre vs ns->Vals (ns.map V.int) vs
 | _,_,.nil=>.nil
 | _,_,.cons n t h=>.cons ⟨t,rfl⟩ (Vu h)
def Ad2 (H:Hp):Prop:=∀b,H b=none∨∃o xs,H b=some (.frz o (.lst xs))
theorem xl {cm:Bool}{P:Program}{w:World}{K:W.Frag}{mg mb:Str->Option Value}{CX:CXT}{k:Nat}{fa a:Addr}{fd:FuncData}{x:Str}{sp:Sp}{s₁:Shared}{vs:List Value}{ns:List Int}
  (KX:K.In s₁.heap) (hns:s₁.heap.Ns mainGlobals mg) (hb:s₁.heap.Ns builtinsNs mb) (hbb:∀x:Str,x≠"__name__"->mb x=bootBuiltins x) (hlim:s₁.heap.NoLimit) (hg:s₁.gens=#[])
  (ha:s₁.heap.get? a=some {cls:=.type "list",data:=.seq vs.toArray}) (hi:IntsAre vs ns) (hl:ns.length<=sizeLine) (hr:Room cm k callerA)
  (F:∀base:Heap,K.In base->base.Ns mainGlobals mg->FnOk P w K mg base CX cm k fa fd [x] sp) (hbind:∀(s:Shared)(u:Value),BindsTo s fd ⟨[u],[]⟩ [(x,u)])
  (hsp:∀H:Hp,Ad2 H->SqL K H a (ns.map V.int)->sp [.ref a] H (λv _=>v=.bl true) λ_ _ _=>False)
  (hCX:∀H e s',CX [] H s₁ (λ_ _ _=>False) e s'->False):
  codeAny (model P w) callerA (.call (.ref fa) ⟨[.ref a],[]⟩) (λr s'=>r=.ok (.ret (.bool true))/\OldK s₁.heap s'.heap/\s'.os=s₁.os/\AllBare s'.gens) s₁:=by
 have rv:=Vu hi
 have lenV:=hi.length
 --from an abstract heap in which nothing but the script may be tracked
 have core:∀H:Hp,Ad2 H->SqL K H a (ns.map V.int)->HOk P w H s₁.heap->(∀b,H b≠none->b=a)->(H a≠none->K.lookup a=none)->
   codeAny (model P w) callerA (.call (.ref fa) ⟨[.ref a],[]⟩) (λr s'=>r=.ok (.ret (.bool true))/\OldK s₁.heap s'.heap/\s'.os=s₁.os/\AllBare s'.gens) s₁:=by
  intro H hO hS hok hA hK
  have base_of:∀{b:Addr}{o:Obj},s₁.heap.get? b=some o->H b=none->(wj s₁.heap H).get? b=some o:=λe n=>xa e n
  have noA:∀{b:Addr}{o:Obj}{es:Array DictEntry}{ep:Nat},s₁.heap.get? b=some o->o.data=.dict es ep->H b=none:=λ{b o es ep}e d=>by
   cases q:H b with
   | none=>rfl
   |
    some u=>
    have e':b=a:=hA b (by rw[q];simp)
    subst e'
    rw[ha] at e;cases e
    have d':Data.seq vs.toArray _=Data.dict es ep:=d
    cases d'
  have nsK:∀{b:Addr}{m:Str->Option Value},s₁.heap.Ns b m->(wj s₁.heap H).Ns b m:=λ{b m} ⟨o,es,ep,e,d,r⟩=>⟨o,es,ep,base_of e (noA e d),d,r⟩
  have hKb:K.In (wj s₁.heap H):=λb o e=>base_of (KX b o e) (by
   cases q:H b with
   | none=>rfl
   |
    some u=>
    have e':b=a:=hA b (by rw[q];simp)
    subst e'
    rw[hK (by rw[q];simp)] at e;cases e)
  have hM:Mod K mg (wj s₁.heap H):=⟨hKb,nsK hns,⟨mb,nsK hb,hbb⟩,let ⟨mc,h1,h2⟩:=hlim;⟨mc,nsK h1,h2⟩⟩
  have e0:Env0 P w K mg (wj s₁.heap H) callerA [] s₁ H:=⟨rfl,hM,λb o e=>Aau e,Nat.le_of_eq (vo _ _),trivial,λb hb=>absurd (show b∈([]:List Addr) from hb) (by simp),hok,.of_eq hg⟩
  refine Ajc ((F _ hKb (nsK hns)).run callerA [] s₁ H ⟨[.ref a],[]⟩ [.ref a] [.ref a] _ _ hr e0 (hbind s₁ (.ref a)) (.cons rfl .nil) (hsp H hO hS)) λr s' h=>?_
  cases r with
  | error e=>exact(hCX H e s' h).elim
  |
   ok fl=>
   cases fl with
   | next=>exact False.elim h
   | brk=>exact False.elim h
   | cont=>exact False.elim h
   |
    ret u=>
    obtain⟨v,H',os,bare,un,hok',r',q⟩:=h
    have q':v=.bl true:=q
    subst q'
    obtain rfl:u=Value.bool true:=r'
    refine⟨rfl,OldK.of_keep λb o e=>?_,os,bare⟩
    cases q:H b with
    | none=>exact un.keep b o e q (by intro z;exact absurd (show b∈([]:List Addr) from z) (by simp)) (by simp)
    |
     some u=>
     rcases hO b with z|⟨ob,xs,z⟩
     · rw[q] at z;cases z
     ·
      have z2:=un.frzs b ob _ z
      obtain⟨e1,_⟩:=hok b _ z
      obtain⟨e2,_⟩:=hok' b _ z2
      rw[e] at e1;cases e1
      exact e2
 cases hk:K.lookup a with
 |
  some o=>
  --the script is one of the module's own objects
  have e:=KX a o hk
  rw[ha] at e
  cases e
  refine core (λ_=>none) (λ_=>.inl rfl) (.inr ⟨_,vs.toArray,_,hk,rfl,rfl,rfl,by rw[Agm,lenV];exact hl,by simpa using rv⟩) (λb u z=>by have z':(none:Option HO)=some u:=z;cases z') (λb z=>absurd rfl z) λz=>absurd rfl z
 |
  none=>
  refine core (λb=>if b=a then some (.frz {cls:=.type "list",data:=.seq vs.toArray} (.lst (ns.map V.int))) else none) (λb=>?_) (.inl (.inr ⟨{cls:=.type "list",data:=.seq vs.toArray},if_pos rfl⟩)) (λb u z=>?_) (λb z=>?_) λ_=>hk
  ·
   by_cases hb:b=a
   · exact .inr ⟨_,_,if_pos hb⟩
   · exact .inl (if_neg hb)
  ·
   by_cases hb:b=a
   ·
    have z':=(if_pos hb).symm.trans z
    cases z'
    subst hb
    exact⟨ha,by rw[Agd];exact hl,vs,_,rv,ha⟩
   ·
    have z':=(if_neg hb).symm.trans z
    cases z'
  ·
   by_cases hb:b=a
   · exact hb
   · exact absurd (if_neg hb) z
abbrev KOf {K:W.Frag}{h:Heap}(_:K.In h):W.Frag:=K
theorem Abq {cm:Bool}{l:W.OpenLaw}{n k:Nat}{q:Program}{loose:List Str}{XP:(Str->Option Value)->Heap->Prop}{YP:World->Heap->Prop}{d:DefRec}{K:Params->W.Frag}{CX:World->CXT}{sp:World->Sp}{x:Str}
  (hn:l.most=some n) (hn2:n<=sizeLine) (hdf:d.params.defaults=[]) (hr:Room cm k callerA)
  (hY:∀(w:World)(h:Heap),YP w h->(K w.params).In h)
  (F:∀(w:World)(mg:Str->Option Value)(fa:Addr)(h:Heap),(K w.params).In h->h.Ns mainGlobals mg->mg d.name=some (.ref fa)->
   ∃fd:FuncData,(∀(s:Shared)(u:Value),BindsTo s fd ⟨[u],[]⟩ [(x,u)])/\
    ∀base:Heap,(K w.params).In base->base.Ns mainGlobals mg->FnOk l.prog w (K w.params) mg base (CX w) cm k fa fd [x] (sp w))
  (hsp:∀(w:World)(H:Hp)(a:Addr)(ns:List Int),ns.length<=n->Ad2 H->SqL (K w.params) H a (ns.map V.int)->sp w [.ref a] H (λv _=>v=.bl true) λ_ _ _=>False)
  (hCX:∀(w:World)(H:Hp)(s:Shared)(e:Value)(s':Shared),CX w [] H s (λ_ _ _=>False) e s'->False):
  W.WalkO q loose XP YP l.row.toRowW d [] (λf vs=>PySem.call f vs):=by
 refine Att.fk hn hdf λw s₀ s₁ mg mb fa o pm cd doc a vs ns G Y ho hd hcd hmg hobj hints hlen hg=>?_
 have KX:=hY w _ Y
 obtain⟨fd,hb,hF⟩:=F w mg fa _ KX G.T.g hmg
 exact xl KX G.T.g G.T.b G.T.builtins G.T.nolimit hg hobj hints (Ag1 hlen hn2) hr hF hb (λH hO hS=>hsp w H a ns hlen hO hS) λH e s'=>hCX w H s₁ e s'
def inClass (s:Stmt)(j:Nat):Stmt:=match s with
 | .ClassDef _ _ _ body _ _ _ _ _ _ _=>body.getD j (.Pass ⟨0,0,0,0⟩)
 | _=>.Pass ⟨0,0,0,0⟩
def An (s:Stmt):Arguments:=match s with
 | .FunctionDef _ a _ _ _ _ _ _ _ _=>a
 | _=>{posonlyargs:=[],args:=[],vararg:=none,kwonlyargs:=[],kw_defaults:=[],kwarg:=none,defaults:=[]}
def Al (s:Stmt):List Stmt:=match s with
 | .FunctionDef _ _ b _ _ _ _ _ _ _=>b
 | _=>[]
def Ab (s:Stmt):Scope:=match s with
 | .FunctionDef _ _ _ _ _ _ sc _ _ _=>sc
 | _=>{kind:=.function,names:=[],isGenerator:=false,isCoroutine:=false}
abbrev CX0:CXT:=λ_ _ _ _ _ _=>False
abbrev E0:XK:=λ_ _ _=>False
theorem Bh {X:Cx}:Passes CX0 X E0:=λ_ _ _ _ _ _ _ h=>h.elim
structure Fun (K:W.Frag)(x qual:Str)(st:Stmt)(f:Addr)(fd:FuncData):Prop where
 ex:∃(oc:Value)(od:Option Addr)(kV doc pm:Value)(an:Option Addr)(cdv ct:Value)(osl:Array (Option Value)),
  fd=W.fnOf x qual (An st) (Al st) (Ab st) .none kV doc pm an cdv ct/\K.lookup f=some ⟨oc,od,.func fd,osl⟩/\W.codeIn K cdv qual=true
 kp:W.keepIn K (.ref f)=true
section
variable {P:Program}{w:World}{K:W.Frag}{mg:Str->Option Value}{base:Heap}
theorem Fun.ok {cm:Bool}{x qual:Str}{st:Stmt}{f:Addr}{fd:FuncData}{N ps:List Str}{k:Nat}{sp:Sp}(F:Fun K x qual st f fd)(S:Ar N ps (Ab st))(len:∀vs H Q E,sp vs H Q E->vs.length=ps.length)
  (hbody:∀(cdv:Value)(A:Around)(outer:List Env)(s:Shared)(H:Hp)(vs:List V)(Q:VK)(E:XK),Room cm k (A.deeper (envOfC qual (Ab st) s.heap.objs.size f cdv))->sp vs H Q E->
   ∃t,PSs (eo CX0 cm P w K mg base N qual (Ab st) f cdv A outer s H E).nox (Al st) t/\t {nx:=λ_ H'=>Q .non H',rt:=λ_=>Q} (start N vs) H):FnOk P w K mg base CX0 cm (k+1) f fd ps sp:=by
 obtain⟨oc,od,kV,doc,pm,an,cdv,ct,osl,rfl,lk,hcd⟩:=F.ex
 refine vw lk hcd S len λA outer s H vs Q E hr hsp=>?_
 obtain⟨t,h,q⟩:=hbody cdv A outer s H vs Q E hr hsp
 exact⟨t,h.nox,q⟩
theorem Fun.binds {x qual:Str}{st:Stmt}{f:Addr}{fd:FuncData}{ps:List Str}(F:Fun K x qual st f fd)
  (h:∀(kV doc pm:Value)(an:Option Addr)(cdv ct:Value)(us:List Value),us.length=ps.length->bindArgs (W.fnOf x qual (An st) (Al st) (Ab st) .none kV doc pm an cdv ct) ⟨us,[]⟩=pure (ps.zip us)):Binds K fd ps []:=by
 obtain⟨oc,od,kV,doc,pm,an,cdv,ct,osl,rfl,lk,hcd⟩:=F.ex
 exact .all (h kV doc pm an cdv ct)
theorem Bc {x qual:Str}{st:Stmt}{f:Addr}{oc:Value}{od an:Option Addr}{osl:Array (Option Value)}{kV doc pm cdv ct:Value}(l:K.lookup f=some ⟨oc,od,.func (W.fnOf x qual (An st) (Al st) (Ab st) .none kV doc pm an cdv ct),osl⟩)
 (c:W.codeIn K cdv qual=true) (k:W.keepIn K (.ref f)=true):Fun K x qual st f (W.fnOf x qual (An st) (Al st) (Ab st) .none kV doc pm an cdv ct):=⟨⟨oc,od,kV,doc,pm,an,cdv,ct,osl,rfl,l,c⟩,k⟩
end
theorem L8 {cm:Bool}{A:Around}{k:Nat}(hr:Room cm k A):A.units+1<cLine:=Ag2 (Akc (by decide:1<=64) _) hr.units
section
variable {X:Cx}
theorem pv (i:Nat){x:Str}{pos:Pos}(hN:X.N[i]?=some x:=by rfl)(hv:Vis X.env.scope x:=by first|exact Or.inl rfl|exact Or.inr (Or.inl rfl)|exact Or.inr (Or.inr rfl))(hd:(x==("__debug__":Str))=false:=by decide)
 (hcd:(x==("__classdict__":Str))=false:=by decide):PE X (.Name x pos) (Ae7 i):=Abs hN hv hd hcd
end
theorem M0 {A B:Prop}(h:B):if false=true then A else B:=by
 rw[if_neg Ags]
 exact h
theorem Nw {A B:Prop}(h:A):if true=true then A else B:=by
 rw[if_pos rfl]
 exact h
theorem Jn {c A B:Prop}[Decidable c](h1:c->A)(h2:¬c->B):if c then A else B:=by
 by_cases h:c
 ·
  rw[if_pos h]
  exact h1 h
 ·
  rw[if_neg h]
  exact h2 h
theorem Ada {c A B:Prop}[Decidable c](hc:c)(h:B):if(!decide c)=true then A else B:=by
 rw[Age hc]
 exact M0 h
def Same (H H':Hp):Prop:=∀b o,H b=some o->H' b=some o
theorem Same.refl (H:Hp):Same H H:=λ_ _ h=>h
theorem Same.trans {H H1 H2:Hp}(a:Same H H1)(b:Same H1 H2):Same H H2:=λc o h=>b c o (a c o h)
theorem Same.free {H H':Hp}(e:Same H H'){l:Addr}(h:H' l=Option.none):H l=Option.none:=by
 cases q:H l with
 | none=>rfl
 |
  some o=>
  rw[e l o q] at h
  cases h
theorem Same.seq {K:W.Frag}{H H':Hp}{a:Addr}{xs:List V}(e:Same H H')(h:SqL K H a xs):SqL K H' a xs:=by
 rcases h with(h|⟨o,h⟩)|h
 · exact .inl (.inl (e _ _ h))
 · exact .inl (.inr ⟨o,e _ _ h⟩)
 · exact .inr h
def e7 (env:Env):List (Str×NameKind)->List (Str×Addr)->List (Str×Addr)
 | [],acc=>acc
 | (n,k)::r,acc=>if k== .free then e7 env r ((n,(env.cells.lookup n).getD 0)::acc) else e7 env r acc
theorem Zk {env:Env}{x:Str}{c:Addr}:∀{ns:List (Str×NameKind)}{acc:List (Str×Addr)},(∃c,acc.lookup x=some c)->∃c,(e7 env ns acc).lookup x=some c
 | [],_,h=>h
 |
  (n,k)::r,acc,h=>by
  unfold e7
  split
  ·
   refine Zk (c:=c) ?_
   obtain⟨c',e⟩:=h
   rw[Aig]
   cases q:x==n
   · exact⟨c',e⟩
   · exact⟨_,rfl⟩
  · exact Zk (c:=c) h
theorem U5 {env:Env}{x:Str}:∀{ns:List (Str×NameKind)}{acc:List (Str×Addr)},(x,NameKind.free)∈ns->∃c,(e7 env ns acc).lookup x=some c
 |
  (n,k)::r,acc,h=>by
  unfold e7
  rcases Agx.mp h with e|h
  ·
   cases e
   rw[if_pos (by rfl)]
   exact Zk (c:=0) ⟨_,by rw[Aig,Aky]⟩
  ·
   split
   · exact U5 h
   · exact U5 h
theorem gw {env:Env}{x:Str}{c:Addr}:∀{ns:List (Str×NameKind)}{acc:List (Str×Addr)},(∀y∈ns,y.2=.free->∃d,env.cells.lookup y.1=some d)->(∀y d,acc.lookup y=some d->env.cells.lookup y=some d)->
  (e7 env ns acc).lookup x=some c->env.cells.lookup x=some c
 | [],_,_,ha,h=>ha _ _ h
 |
  (n,k)::r,acc,hn,ha,h=>by
  unfold e7 at h
  have hr:∀y∈r,y.2=.free->∃d,env.cells.lookup y.1=some d:=λy hy=>hn y (Agh _ hy)
  split at h
  ·
   rename_i hk
   have hk':k=.free:=by simpa using hk
   obtain⟨d,hd⟩:=hn (n,k) Agj hk'
   refine gw hr (λy d' hy=>?_) h
   rw[Aig] at hy
   cases q:y==n
   ·
    rw[q] at hy
    exact ha y d' hy
   ·
    rw[q] at hy
    have e:y=n:=by simpa using q
    subst e
    have hd':env.cells.lookup y=some d:=hd
    rw[hd'] at hy
    rw[hd']
    exact hy
  · exact gw hr ha h
theorem Nm {x:Str}{k:NameKind}:∀{ns:List (Str×NameKind)},ns.lookup x=some k->(x,k)∈ns
 |
  (n,j)::r,h=>by
  rw[Aig] at h
  cases q:x==n
  ·
   rw[q] at h
   exact Agh _ (Nm h)
  ·
   rw[q] at h
   have e:x=n:=by simpa using q
   subst e
   cases h
   exact Agj
def E9 (X:Cx)(N:List Str)(scope:Scope)(C:Addr)(s:Shared)(H:Hp)(fp:List Addr):Cx where
 prog:=X.prog
 w:=X.w
 K:=X.K
 mg:=X.mg
 base:=X.base
 A:=X.A
 N:=N
 s₀:=s
 H₀:=H
 env:=compEnvC scope (e7 X.env scope.names []) C X.env
 outer:=X.stack
 stack:=X.stack
 ex:=fp
 fn:=λ_=>false
 calm:=X.calm
 pn:=[]
 xe:=λ_ _=>False
def dv (sc scope:Scope)(N0:List Str):List (Option Nat)->List Str->Bool
 | [],_=>true
 | none::r,_::n=>dv sc scope N0 r n
 | some j::r,x::n=>decide (N0[j]?=some x)&&decide (scope.names.lookup x=some .free)&&decide (sc.names.lookup x=some .cell)&&dv sc scope N0 r n
 | _::_,[]=>false
theorem cv {sc scope:Scope}{N0:List Str}:∀{cap:List (Option Nat)}{N:List Str}{i j:Nat},dv sc scope N0 cap N=true->cap[i]?=some (some j)->
  ∃x,N[i]?=some x/\N0[j]?=some x/\scope.names.lookup x=some .free/\sc.names.lookup x=some .cell
 | [],_,_,_,_,e=>by simp at e
 | o::_,[],_,_,h,_=>by cases o<;>simp[dv] at h
 |
  o::r,y::n,0,j,h,e=>by
  simp at e
  subst e
  unfold dv at h
  simp only[Ag6,Ajt] at h
  exact⟨y,rfl,h.1.1.1,h.1.1.2,h.1.2⟩
 |
  o::r,y::n,i+1,j,h,e=>by
  have h':dv sc scope N0 r n=true:=by
   cases o with
   | none=>exact h
   |
    some k=>
    unfold dv at h
    simp only[Ag6] at h
    exact h.2
  obtain⟨x,a,b⟩:=cv (i:=i) (j:=j) h' (by simpa using e)
  exact⟨x,by simpa using a,b⟩
structure F9 (sc scope:Scope)(N0 N:List Str)(cap:List (Option Nat)):Prop where
 kind:scope.kind=.function
 cell:∀y∈scope.names,y.2≠ .cell
 names:∀y∈scope.names,y.2=.local->scope.names.lookup y.1=some .local
 free:∀y∈scope.names,y.2=.free->sc.names.lookup y.1=some .cell
 nd:N.Nodup
 len:cap.length=N.length
 cap:dv sc scope N0 cap N=true
def Uk (cap:List (Option Nat))(σ:St):St:=cap.map λo=>match o with
 | none=>none
 | some j=>(σ[j]?).join
theorem aj {scope:Scope}{env:Env}(hk:env.scope.kind=.function)(hf:∀y∈scope.names,y.2=.free->env.kindOf y.1=some .cell){x:Str}(h:scope.names.lookup x=some .free):
  (relabel scope env).names.lookup x=some .cell:=by
 have all:∀(ns:List (Str×NameKind)),(∀y∈ns,y.2=.free->env.kindOf y.1=some .cell)->ns.lookup x=some .free->
   (ns.map λ(n,k)=>if(k== .free&&env.scope.kind== .function&&env.kindOf n==some .cell) then(n,NameKind.cell) else(n,k)).lookup x=some .cell:=by
  intro ns
  induction ns with
  | nil=>intro _ h;simp at h
  |
   cons y r ih=>
   obtain⟨n,k⟩:=y
   intro hf h
   rw[Agy]
   rw[Aig] at h
   cases q:x==n
   ·
    rw[q] at h
    have:=ih (λy hy=>hf y (Agh _ hy)) h
    show List.lookup x ((if(k== .free&&env.scope.kind== .function&&env.kindOf n==some .cell)=true then(n,NameKind.cell) else(n,k))::_)=_
    split<;>(rw[Aig,q];exact this)
   ·
    rw[q] at h
    cases h
    have e:=hf (n,.free) Agj rfl
    show List.lookup x ((if(NameKind.free== .free&&env.scope.kind== .function&&env.kindOf n==some .cell)=true then(n,NameKind.cell) else(n,NameKind.free))::_)=_
    rw[if_pos (by rw[hk,e];rfl),Aig,q]
 exact all scope.names hf h
theorem a9 {scope:Scope}{env:Env}{x:Str}(hc:∀y∈scope.names,y.2≠ .cell)(h:(relabel scope env).names.lookup x=some .cell∨(relabel scope env).names.lookup x=some .free):(x,NameKind.free)∈scope.names:=by
 have all:∀(ns:List (Str×NameKind)),(∀y∈ns,y.2≠ .cell)->
   (∀k,(k=NameKind.cell∨k=NameKind.free)->(ns.map λ(n,k)=>if(k== .free&&env.scope.kind== .function&&env.kindOf n==some .cell) then(n,NameKind.cell) else(n,k)).lookup x=some k->(x,NameKind.free)∈ns):=by
  intro ns
  induction ns with
  | nil=>intro _ k _ h;simp at h
  |
   cons y r ih=>
   obtain⟨n,j⟩:=y
   intro hc k hk h
   rw[Agy] at h
   have hr:∀y∈r,y.2≠NameKind.cell:=λy hy=>hc y (Agh _ hy)
   change List.lookup x ((if(j== .free&&env.scope.kind== .function&&env.kindOf n==some .cell)=true then(n,NameKind.cell) else(n,j))::_)=some k at h
   split at h
   ·
    rename_i hj
    rw[Ag6,Ag6] at hj
    have hj':j=.free:=by simpa using hj.1.1
    subst hj'
    rw[Aig] at h
    cases q:x==n
    ·
     rw[q] at h
     exact Agh _ (ih hr k hk h)
    ·
     have e:x=n:=by simpa using q
     subst e
     exact Agj
   ·
    rw[Aig] at h
    cases q:x==n
    ·
     rw[q] at h
     exact Agh _ (ih hr k hk h)
    ·
     rw[q] at h
     cases h
     have e:x=n:=by simpa using q
     subst e
     rcases hk with z|z
     · exact absurd z (hc (x,j) Agj)
     · rw[z];exact Agj
 rcases h with h|h
 · exact all scope.names hc _ (.inl rfl) h
 · exact all scope.names hc _ (.inr rfl) h
section
variable {X:Cx}{pins:List (Addr×Obj)}{σ:St}{H:Hp}{s:Shared}{h₁:Heap}{scope:Scope}{N:List Str}{cap:List (Option Nat)}{fp:List Addr}{t':Nat}
theorem Xk (S:F9 X.env.scope scope X.N N cap)(I:Inv X pins σ H s)(hf:∀b∈fp,n6 X pins H b)(hlt:∀b∈fp,b<s.heap.objs.size)
  (hns:h₁.Ns s.heap.objs.size (λx=>([]:List (Str×Value)).reverse.lookup x)) (keep:∀b o,s.heap.get? b=some o->h₁.get? b=some o):
  Inv (E9 X N scope s.heap.objs.size s H fp) [] (Uk cap σ) H {s with heap:=h₁,toks:=t'}:=by
 have hkf:∀y∈scope.names,y.2=.free->X.env.kindOf y.1=some .cell:=S.free
 have hcell:∀y∈scope.names,y.2=.free->∃d,X.env.cells.lookup y.1=some d:=λy hy e=>I.ok.has _ (.inl (hkf y hy e))
 have hcl:∀x c,(e7 X.env scope.names []).lookup x=some c->X.env.cells.lookup x=some c:=λx c h=>gw hcell (λy d h=>by simp at h) h
 refine⟨⟨I.ok.mod,S.kind,I.ok.glob,I.ok.blt,Agi _,λx y c h1 h2=>I.ok.inj x y c (hcl x c h1) (hcl y c h2),λx h=>U5 (a9 S.cell h),(λx c h=>nomatch h),I.ok.hd,I.ok.frames,.inl rfl,
  λb hb=>⟨Agv (hlt b hb),λx c h=>(hf b hb).2.2.2.2.1 x c (hcl x c h)⟩,I.bs,Ag1 I.ok.bsz I.sz,λb o e hb=>?_,λb hb h=>?_,I.stack,I.stkFree⟩,
  rfl,I.bare,Un.kept keep,⟨_,hns,λi x v e1 e2 e3=>?_⟩,λx c h=>?_,I.hok.fresh (Agi _),λx c h=>I.freeC x c (hcl x c h),λp hp=>(by simp[E9] at hp),I.hok.kept keep,?_⟩
 ·
  rcases(hf b hb).2.2.2.1 with z|z
  · exact I.ok.noex b o e z
  · exact absurd (Ag4 (Agk (I.ok.bs b o e).1) z) (Ahp _)
 ·
  rcases Agx.mp (I.stkSub b h) with z|z
  · exact(hf b hb).2.1 z
  · exact(hf b hb).2.2.1 z
 ·
  have e2':(Uk cap σ)[i]?=some (some v):=e2
  unfold Uk at e2'
  rw[Agz] at e2'
  cases q:cap[i]? with
  | none=>rw[q] at e2';cases e2'
  |
   some o=>
   cases o with
   | none=>rw[q] at e2';cases e2'
   |
    some j=>
    rw[q] at e2'
    obtain⟨y,n1,n2,n3,n4⟩:=cv S.cap q
    have e1':N[i]?=some x:=e1
    rw[n1] at e1'
    cases e1'
    have ej:σ[j]?=some (some v):=by
     have e3:(σ[j]?).join=some v:=Agn e2'
     cases r:σ[j]? with
     | none=>rw[r] at e3;cases e3
     | some o=>rw[r] at e3;rw[show o=some v from e3]
    obtain⟨m,hn,hl⟩:=I.loc
    obtain⟨u,ru,l⟩:=hl j x v n2 ej (.inr (.inl n4))
    refine⟨u,ru,.inr ⟨.inl (aj I.ok.kind hkf n3),?_⟩⟩
    rcases l with⟨hk,_⟩|⟨_,c,hc,z⟩
    ·
     have n4':X.env.kindOf x=some .cell:=n4
     rw[n4'] at hk;cases hk
    ·
     obtain⟨c',hc'⟩:=U5 (env:=X.env) (acc:=[]) (Nm n3)
     have:=hcl x c' hc'
     rw[hc] at this
     cases this
     exact⟨c,hc',z.keeps keep⟩
 ·
  obtain⟨v,z⟩:=I.cell x c (hcl x c h)
  exact⟨v,z.keeps keep⟩
 ·
  show(Uk cap σ).length=N.length
  unfold Uk
  rw[Agd]
  exact S.len
theorem jq {pins':List (Addr×Obj)}{σ':St}{H':Hp}{s':Shared}{h':Heap}(I:Inv X pins σ H s)(hf:∀b∈fp,n6 X pins H b)(J:Inv (E9 X N scope s.heap.objs.size s H fp) pins' σ' H' s')
  (sb:Heap.SameBut s.heap.objs.size s'.heap h'):Inv X pins σ H' {s' with heap:=h'}:=by
 have I1:Inv X pins σ H' s':=I.call' J.os J.base J.hok J.bare λb hb=>⟨(hf b hb).2.2.2.1,(hf b hb).2.1,(hf b hb).2.2.2.2.1,(hf b hb).2.2.2.2.2⟩
 have hfree:H' s.heap.objs.size=none:=J.free
 refine I1.turned (t':=s'.toks) (it:=s.heap.objs.size) (λb o hb e=>(sb.2 b hb).trans e) hfree (Aip I.lt) (.inr I.sz) (λx c h z=>?_) λp hp z=>?_
 ·
  obtain⟨v,q⟩:=I.cell x c h
  have:=q.lt
  rw[z] at this
  exact Ahp _ this
 ·
  have:=Agk (I.pin p hp).1
  rw[z] at this
  exact Ahp _ this
end
def Ado (X:Cx)(ifs:List Expr)(t:TT):Prop:=
 ∀(pins:List (Addr×Obj))(s:Shared)(σ:St)(H:Hp)(Q:Bool->Hp->Prop),Inv X pins σ H s->t σ H Q->
  wpAny (model X.prog X.w) X.A (forIn ifs true λc r=>if r=true then do let ok ←isTrue c X.env (eval c X.env);pure (ForInStep.yield ok) else pure (ForInStep.yield r)) (TP X pins σ Q) X.xe s
def Afq:TT:=λ_ H Q=>Q true H
theorem Yi {X:Cx}:Ado X [] Afq:=λpins s σ H Q I h=>wpAny_tests_nil ⟨H,I,h⟩
theorem oh {X:Cx}{c:Expr}{t:TT}(h:PT X c t):Ado X [c] t:=λpins s σ H Q I hq=>wpAny_tests_one (h pins s σ H Q I hq)
section
variable {prog:Program}{w:World}{A:Around}{R:Result->Shared->Prop}{s:Shared}
theorem Tq {elt target iter:Expr}{ifs:List Expr}{scope:Scope}{pos:Pos}{it acc:Value}{env:Env}(I:Nat->Shared->Prop)
  (turn:∀n s,I n s->wpAny (model prog w) A (pyNext it) (λr s₁=>match r with
   | none=>R (.ok .next) s₁
   | some v=>wpAny (model prog w) A (letOwnedTupleGo target it v) (λ_ s₀=>wpAny (model prog w) A (assign target env v) (λ_ s₂=>
    wpAny (model prog w) A (forIn ifs true λc r=>if r=true then do let ok ←isTrue c env (eval c env);pure (ForInStep.yield ok) else pure (ForInStep.yield r)) (λok s₃=>
     if ok=true then wpAny (model prog w) A (eval elt env) (λx s₄=>
      wpAny (model prog w) A (call (.builtin "list.append") [acc,x]) (λ_ s₅=>∃m,m<n/\I m s₅) (λ_ _=>False) s₄) (λ_ _=>False) s₃
     else ∃m,m<n/\I m s₃) (λ_ _=>False) s₂) (λ_ _=>False) s₀) (λ_ _=>False) s₁) (λ_ _=>False) s)
  (n:Nat) (h:I n s):codeAny (model prog w) A (.compLoop (.ListComp elt [⟨target,iter,ifs,0⟩] scope pos) 0 it acc env) R s:=by
 refine codeAny_loop rfl I (λn s hI=>?_) n h
 show wpAny _ A ((compTurn (.ListComp elt [⟨target,iter,ifs,0⟩] scope pos) 0 it acc env).onRaise (λx=>do noteFrame x env;theTreesLotGoes x)) _ _ s
 refine wpAny_noted ?_
 rw[compTurn_list]
 refine Aga (wpAny_standAt (Aga (Aid (turn n s hI) (λr s₁ h₁=>?_) λ_ _ h'=>h'.elim)))
 cases r with
 | none=>exact Agb h₁
 |
  some v=>
  refine Aga (Aid h₁ (λ_ s₀ h₀=>?_) λ_ _ h'=>h'.elim)
  refine Aga (Aid h₀ (λ_ s₂ h₂=>Aga (Aid h₂ (λok s₃ h₃=>?_) λ_ _ h'=>h'.elim)) λ_ _ h'=>h'.elim)
  cases ok with
  | false=>exact Agb ⟨rfl,h₃⟩
  |
   true=>
   exact Aga (Aga (Aid h₃ (λx s₄ h₄=>Aga (Aid h₄ (λ_ s₅ h₅=>Agb (Agb ⟨rfl,h₅⟩)) λ_ _ h'=>h'.elim)) λ_ _ h'=>h'.elim))
end
def Ro (J:It)(H1:Hp)(cap:List (Option Nat))(g:TG)(tt:TT)(te:TE)(σ:St)(Q:VK):Prop:=∀D,H1 D=none->
 ∃W:Nat->Nat->List V->St->Hp->Prop,(∃m,W 0 m [] (Uk cap σ) (upd H1 D (.lst [])))/\∀i m ys σ' H',W i m ys σ' H'->H' D=some (.lst ys)/\
  ((
   J.stop i H'/\Q (.ref D) H')∨(J.go i H'/\∀x H2,J.yld i H' x H2->g x σ' H2 λσ2 H3=>tt σ2 H3 λb H4=>
   if b=true then te σ2 H4 λy H5=>H5 D=some (.lst ys)/\ys.length<sizeLine/\∃m',m'<m/\W (i+1) m' (ys++[y]) σ2 (upd H5 D (.lst (ys++[y])))
   else ∃m',m'<m/\W (i+1) m' ys σ2 H4))
def Adc (wi:TI)(cap:List (Option Nat))(g:TG)(tt:TT)(te:TE):TE:=λσ H Q=>wi σ H λJ H1=>Ro J H1 cap g tt te σ Q
theorem fm {X:Cx}{elt tgt iter:Expr}{ifs:List Expr}{scope:Scope}{pos:Pos}{N:List Str}{cap:List (Option Nat)}{wi:TI}{g:TG}{tt:TT}{te:TE}
  (S:F9 X.env.scope scope X.N N cap) (hc:X.calm=true) (hi:PI X tgt iter wi)
  (hb:∀(C:Addr)(s:Shared)(H:Hp)(fp:List Addr),PG (E9 X N scope C s H fp) tgt g/\Ado (E9 X N scope C s H fp) ifs tt/\PE (E9 X N scope C s H fp) elt te)
  (hclos:closureFor scope X.env=pure (e7 X.env scope.names []):=by with_unfolding_all rfl) (hs:∀x,foldedSetIterable iter X.env x=pure x:=by intro _;rfl):
  PE X (.ListComp elt [⟨tgt,iter,ifs,0⟩] scope pos) (Adc wi cap g tt te):=by
 intro pins s σ H Q I h
 rw[eval_ListComp]
 refine wpAny_comprehension_free (use:=none) (cl:=e7 X.env scope.names []) rfl hs hclos S.kind S.names ?_
 refine thn (hi pins s σ H _ I h) λv s1 h1=>thn h1 λitv s2 h2=>?_
 obtain⟨it,fp,tn,J,H2,e,I2,T,st2,f2,k⟩:=h2
 subst e
 refine Ah5 (wpAny_newFunctionEnv S.cell (by intro y hy;simp at hy) (λh₁ hns₁ hsb₁=>?_) S.kind)
 dsimp only at hns₁ hsb₁ ⊢
 have I3:Inv X pins σ (upd H2 s2.heap.objs.size (.lst [])) {s2 with heap:=s2.heap.push {cls:=.type "list",dict:=none,data:=.seq ([]:List Value).toArray}}:=I2.lnew (t':=s2.toks) .nil (Ahn _)
 obtain⟨W,⟨m0,w0⟩,turn⟩:=k s2.heap.objs.size I2.fresh
 generalize hD:s2.heap.objs.size=D at*
 generalize hsD:({s2 with heap:=s2.heap.push {cls:=.type "list",dict:=none,data:=.seq ([]:List Value).toArray}}:Shared)=sD at*
 have hsz:sD.heap.objs.size=D+1:=by rw[←hsD,←hD];exact Ahv ..
 have hheap:s2.heap.push {cls:=.type "list",dict:=none,data:=.seq ([]:List Value).toArray}=sD.heap:=by rw[←hsD]
 rw[hheap] at hns₁ hsb₁ ⊢
 have up:∀b o,s2.heap.get? b=some o->sD.heap.get? b=some o:=λb o e=>by rw[←hheap];exact Agc _ e
 have keep:∀b o,sD.heap.get? b=some o->h₁.get? b=some o:=λb o e=>hsb₁.extBut b o (Agv (Agk e)) (Agc _ e)
 have hfD:D∉fp:=λhm=>by
  obtain⟨o,e,_⟩:=T.obj _ _ st2 D hm
  have:=Agk e
  rw[hD] at this
  exact Ahp _ this
 have f3:∀b∈fp,n6 X pins (upd H2 D (.lst [])) b:=λb hb=>⟨by rw[Ak (λz=>hfD (by rw[←z];exact hb))];exact(f2 b hb).1,(f2 b hb).2⟩
 have hlt:∀b∈fp,b<sD.heap.objs.size:=λb hb=>by
  obtain⟨o,e,_⟩:=T.obj _ _ st2 b hb
  exact Agk (up b o e)
 have I4:=Xk (t':=s2.toks+([]:List (Str×Value)).length) S I3 f3 hlt hns₁ keep
 obtain⟨hg,hif,hel⟩:=hb sD.heap.objs.size sD (upd H2 D (.lst [])) fp
 have st4:tn 0 h₁:=T.keep _ _ _ st2 λb hb o e=>keep b o (up b o e)
 have stat:∀{H':Hp},(∀b∈fp,H' b=none)->∀b∈fp,n6 (E9 X N scope sD.heap.objs.size sD (upd H2 D (.lst [])) fp) [] H' b:=λhn b hb=>
  ⟨hn b hb,(I4.ok.exf b hb).1,I4.ok.exfs b hb,.inl hb,λx c h z=>(I4.ok.exf b hb).2 x c h z,λp hp=>(by simp[E9] at hp)⟩
 have loop:codeAny (model X.prog X.w) X.A (.compLoop (.ListComp elt [⟨tgt,iter,ifs,0⟩] scope pos) 0 (.ref it) (.ref D) (compEnvC scope (e7 X.env scope.names []) sD.heap.objs.size X.env))
   (compPost (model X.prog X.w) X.A X.xe none (EP X pins σ Q) (.ref D) sD.heap.objs.size) {sD with heap:=h₁,toks:=s2.toks+([]:List (Str×Value)).length}:=by
  refine Tq (λn s'=>∃i ys σ' H',Inv (E9 X N scope sD.heap.objs.size sD (upd H2 D (.lst [])) fp) [] σ' H' s'/\tn i s'.heap/\(∀b∈fp,H' b=none)/\W i n ys σ' H') ?_ m0
   ⟨0,[],Uk cap σ,_,I4,st4,λb hb=>(f3 b hb).1,w0⟩
  rintro n s5 ⟨i,ys,σ5,H5,I5,st5,fr5,w5⟩
  obtain⟨hD5,way⟩:=turn i n ys σ5 H5 w5
  rcases way with⟨stop,q⟩|⟨go,step⟩
  ·
   refine thn (T.done (E9 X N scope sD.heap.objs.size sD (upd H2 D (.lst [])) fp) rfl rfl rfl hc i [] s5 σ5 H5 (λ_ _=>False) I5 (stat fr5) st5 stop) λr s6 hz=>?_
   obtain⟨hr,I6⟩:=hz
   subst hr
   obtain⟨m,hn,_⟩:=I6.loc
   exact⟨m,hn,λh' sb=>⟨.ref D,H5,jq I3 f3 I6 sb,rfl,q⟩⟩
  ·
   refine thn (T.item (E9 X N scope sD.heap.objs.size sD (upd H2 D (.lst [])) fp) rfl rfl rfl hc i [] s5 σ5 H5 (λ_ _=>False) I5 (stat fr5) st5 go) λr s6 hz=>?_
   obtain⟨u,hr,h6⟩:=hz
   subst hr
   refine thn h6 λ_ s7 hz=>?_
   obtain⟨x,H7,I7,r7,y7,st7,fr7⟩:=hz
   have I7':=I7.pinned (stat fr7) (T.obj _ _ st7)
   refine thn (hg _ s7 σ5 H7 x u _ I7' r7 (step x H7 y7)) λ_ s8 hz=>?_
   obtain⟨σ8,H8,I8,q8⟩:=hz
   refine thn (hif _ s8 σ8 H8 _ I8 q8) λb s9 hz=>?_
   obtain⟨H9,I9,q9⟩:=hz
   have back:∀{σ':St}{H':Hp}{s':Shared},Inv (E9 X N scope sD.heap.objs.size sD (upd H2 D (.lst [])) fp) ([]++Xz fp s7.heap) σ' H' s'->tn (i+1) s'.heap/\∀b∈fp,H' b=none:=λ{σ' H' s'}J'=>
    ⟨T.keep _ _ _ st7 λb hb o e=>(J'.pin (b,o) (Ag5 _ (Ag5 _ (Lq hb e)))).1,λb hb=>by
     obtain⟨o,e,d⟩:=T.obj _ _ st7 b hb
     exact(J'.pin (b,o) (Ag5 _ (Ag5 _ (Lq hb e)))).2.1⟩
   cases b with
   |
    false=>
    obtain⟨m',hm,w9⟩:=(show ∃m',m'<n/\W (i+1) m' ys σ8 H9 from q9)
    exact⟨m',hm,i+1,ys,σ8,H9,I9.unpinned,(back I9).1,(back I9).2,w9⟩
   |
    true=>
    refine thn (hel _ s9 σ8 H9 _ I9 (show te σ8 H9 _ from q9)) λy s10 hz=>?_
    obtain⟨v10,H10,I10,r10,q10⟩:=hz
    obtain⟨hD10,hz,m',hm,w10⟩:=q10
    refine thn (Qy (X:=E9 X N scope sD.heap.objs.size sD (upd H2 D (.lst [])) fp) _ s10 σ8 H10 (.ref D) [v10] (.ref D) [y] (λ_ H'=>H'=upd H10 D (.lst (ys++[v10]))) I10 rfl (.cons r10 .nil) ⟨D,ys,v10,rfl,rfl,hD10,hz,rfl⟩) λ_ s11 hz=>?_
    obtain⟨v11,H11,I11,_,e11⟩:=hz
    subst e11
    exact⟨m',hm,i+1,ys++[v10],σ8,_,I11.unpinned,(back I11).1,(back I11).2,w10⟩
 subst hsD
 subst hD
 exact codeAny_compStart_list loop (T.self _ 0 _ _ _ st4 loop)
section
variable {X:Cx}{x:Str}{pos:Pos}{tg:Expr}
theorem Bv {i:Int}(hg:Gl X x)(hm:∃t,X.mg x=some (.int i t))(hd:(x==("__debug__":Str))=false:=by decide):PE X (.Name x pos) (tC (.int i)):=by
 obtain⟨t,e⟩:=hm
 exact fo hg e ⟨t,rfl⟩ hd
theorem Ya {y:Str}(hg:Gl X x)(hm:∃t,X.mg x=some (.str y t))(hd:(x==("__debug__":Str))=false:=by decide):PE X (.Name x pos) (tC (.str y)):=by
 obtain⟨t,e⟩:=hm
 exact fo hg e ⟨t,rfl⟩ hd
theorem Cr {a:Addr}(hg:Gl X x)(hm:X.mg x=some (.ref a))(hd:(x==("__debug__":Str))=false:=by decide):PE X (.Name x pos) (tC (.ref a)):=fo hg hm rfl hd
theorem i3:∀{bs:List Bool}{us:List Value},Vals (bs.map V.bl) us->LSm.BoolsAre us bs
 | [],_,.nil=>.nil
 | b::bs,_,.cons r t=>by cases r;exact .cons b (i3 t)
theorem ll {prog:Program}{w:World}{A:Around}{E:Value->Shared->Prop}{s:Shared}{l:Addr}{vs:List Value}{bs:List Bool}{Q:Value->Shared->Prop}(hh:A.handled=none)(hl:s.heap.IsList l vs.toArray)(hb:LSm.BoolsAre vs bs)
  (h:∀h' tk,(∀b o,s.heap.get? b=some o->h'.get? b=some o)->Q (.bool (bs.all id)) {s with heap:=h',toks:=tk}):wpAny (model prog w) A (call (.builtin "all") [.ref l]) Q E s:=by
 have hlt:l<s.heap.objs.size:=by obtain⟨_,e,_⟩:=hl;exact Agk e
 refine call_all_walk (Ak6 hl ?_)
 refine⟨s.heap.objs.size,[s.heap.objs.size,l],[s.heap.objs.size],vs.toArray.size,_,_,λi=>(bs[i]?).getD true,rfl,Walks.list (A:=A.in1) hh _ l (Agv hlt) vs.toArray,
  ⟨⟨_,Ago _ rfl,rfl,rfl⟩,hl.push _⟩,λi v s' Q' E' hP hQ=>?_,λh' tk hk=>?_⟩
 ·
  obtain⟨b,e,rfl⟩:=hb.get i v (by simpa using hP)
  simp only[e,Option.getD_some] at hQ
  exact Ahx hQ
 ·
  have e:((List.range vs.toArray.size).all λi=>(bs[i]?).getD true)=bs.all id:=by
   rw[Agm,hb.length];exact LSm.range_all bs
  rw[e]
  exact h h' tk (LSm.kept_iter hk)
theorem x6 (hc:X.calm=true):Jp X (.builtin "all") (λxs H Q=>∃(p:Addr)(bs:List Bool),xs=[.ref p]/\SqL X.K H p (bs.map V.bl)/\Q (.bl (bs.all id)) H):=by
 intro pins s σ H xs us Q I r h
 obtain⟨p,bs,rfl,hq,q⟩:=h
 obtain⟨u,rfl,ru⟩:=r.one
 cases ru
 obtain⟨its,rv,pl,hz⟩:=I.list hq
 exact ll (I.ok.hd hc) pl.isList (i3 rv) λh' tk hk=>⟨.bl _,H,I.kept hk,rfl,q⟩
def Its (y:Str):It:=⟨λi _=>i<y.cps.size,λi H x H'=>H'=H/\∃c,y.cps[i]?=some c/\x=.str ⟨#[c]⟩,λi _=>i=y.cps.size⟩
theorem b9 {prog:Program}{w:World}{A:Around}(hh:A.handled=none)(I:Addr)(y:Str)(t:Tok):Walks prog w A I [I] [I] y.cps.size (SignAt y) (λi h=>h.IsStrIter I (strIterType y) y t i):=by
 unfold strIterType
 split
 · exact Walks.strAscii hh I y t
 · exact Walks.strWide hh I y t
theorem xo {P:Program}{w:World}{K:W.Frag}(y:Str)(t:Tok)(it:Addr):Turn P w K tg (Its y) [it] it (λi h=>h.IsStrIter it (strIterType y) y t i) where
 mem:=by simp
 obj:=λi h st b hb=>by
  have e:b=it:=by simpa using hb
  subst e
  obtain⟨o,e,c,d⟩:=st
  exact⟨o,e,λv z=>by rw[d] at z;cases z⟩
 keep:=λi h h' st k=>by
  obtain⟨o,e,r⟩:=st
  exact⟨o,k it (by simp) o e,r⟩
 item:=by
  intro X hP hw hK hc i pins s σ H E I hf st hg
  subst hP hw hK
  obtain⟨f0,f1,f2,f3,f4,f5⟩:=hf it (by simp)
  have W:=b9 (prog:=X.prog) (w:=X.w) (I.ok.hd hc) it y t
  refine W.item i s _ _ hg st λv h' tk hv st' kk=>?_
  obtain⟨c,t',hc',rfl⟩:=hv
  have I1:Inv X pins σ H {s with heap:=h',toks:=tk}:=I.turned (λb o hb e=>kk b o (by simpa using hb) e) f0 f1 f3 f4 f5
  obtain⟨o,e,c1,d⟩:=id st'
  refine⟨_,rfl,p6 (s:={s with heap:=h',toks:=tk}) (n:=strIterType y) e c1 d ?_ ⟨.str ⟨#[c]⟩,H,I1,⟨t',rfl⟩,⟨rfl,c,hc',rfl⟩,st',λb hb=>(hf b hb).1⟩⟩
  unfold strIterType
  split<;>decide
 done:=by
  intro X hP hw hK hc i pins s σ H E I hf st hg
  subst hP hw hK
  have hg':i=y.cps.size:=hg
  subst hg'
  obtain⟨f0,f1,f2,f3,f4,f5⟩:=hf it (by simp)
  have W:=b9 (prog:=X.prog) (w:=X.w) (I.ok.hd hc) it y t
  exact W.done s _ _ st λh' tk kk=>⟨rfl,I.turned (λb o hb e=>kk b o (by simpa using hb) e) f0 f1 f3 f4 f5⟩
 self:=λA i s Q E st h=>by
  obtain⟨o,e,c,d⟩:=id st
  revert st c
  unfold strIterType
  split
  · intro st c;exact wpAny_pyIter_striter_ascii st h
  · intro st c;exact wpAny_pyIter_striter_wide st h
def Af2 (tl:TE):TI:=λσ H R=>tl σ H λx H1=>∃y,x=.str y/\R (Its y) H1
theorem Ab5 {l:Expr}{tl:TE}(hl:PE X l tl):PI X tg l (Af2 tl):=by
 intro pins s σ H R I h
 refine thn (hl pins s σ H _ I h) λv s1 hz=>?_
 obtain⟨x,H1,I1,r1,q1⟩:=hz
 obtain⟨y,e,q⟩:=q1
 subst e
 obtain⟨t,rfl⟩:=r1
 refine wpAny_pyIter_strU ?_
 refine⟨s1.heap.objs.size,[s1.heap.objs.size],_,_,H1,rfl,I1.kept (t':=s1.toks) λb o e=>Agc _ e,xo y t _,⟨_,Ago _ rfl,rfl,rfl⟩,λb hb=>?_,q⟩
 have e:b=s1.heap.objs.size:=by simpa using hb
 subst e
 exact I1.fpOk (Agi _) (I1.hok.fresh (Agi _))
end
structure FunD (K:W.Frag)(x qual:Str)(st:Stmt)(f:Addr)(fd:FuncData):Prop where
 ex:∃(oc:Value)(od:Option Addr)(dV kV doc pm:Value)(an:Option Addr)(cdv ct:Value)(osl:Array (Option Value)),
  fd=W.fnOf x qual (An st) (Al st) (Ab st) dV kV doc pm an cdv ct/\K.lookup f=some ⟨oc,od,.func fd,osl⟩/\W.codeIn K cdv qual=true
 kp:W.keepIn K (.ref f)=true
section
variable {P:Program}{w:World}{K:W.Frag}{mg:Str->Option Value}{base:Heap}
theorem FunD.ok {cm:Bool}{x qual:Str}{st:Stmt}{f:Addr}{fd:FuncData}{N ps:List Str}{k:Nat}{sp:Sp}(F:FunD K x qual st f fd)(S:Ar N ps (Ab st))(len:∀vs H Q E,sp vs H Q E->vs.length=ps.length)
  (hbody:∀(cdv:Value)(A:Around)(outer:List Env)(s:Shared)(H:Hp)(vs:List V)(Q:VK)(E:XK),Room cm k (A.deeper (envOfC qual (Ab st) s.heap.objs.size f cdv))->sp vs H Q E->
   ∃t,PSs (eo CX0 cm P w K mg base N qual (Ab st) f cdv A outer s H E).nox (Al st) t/\t {nx:=λ_ H'=>Q .non H',rt:=λ_=>Q} (start N vs) H):FnOk P w K mg base CX0 cm (k+1) f fd ps sp:=by
 obtain⟨oc,od,dV,kV,doc,pm,an,cdv,ct,osl,rfl,lk,hcd⟩:=F.ex
 exact vw lk hcd S len λA outer s H vs Q E hr h=>by
  obtain⟨t,ht,q⟩:=hbody cdv A outer s H vs Q E hr h
  exact⟨t,ht.nox,q⟩
theorem Qc {x qual:Str}{st:Stmt}{f:Addr}{oc:Value}{od an:Option Addr}{osl:Array (Option Value)}{dV kV doc pm cdv ct:Value}(l:K.lookup f=some ⟨oc,od,.func (W.fnOf x qual (An st) (Al st) (Ab st) dV kV doc pm an cdv ct),osl⟩)
  (c:W.codeIn K cdv qual=true) (k:W.keepIn K (.ref f)=true):FunD K x qual st f (W.fnOf x qual (An st) (Al st) (Ab st) dV kV doc pm an cdv ct):=
 ⟨⟨oc,od,dV,kV,doc,pm,an,cdv,ct,osl,rfl,l,c⟩,k⟩
end
def Seq (J:It)(H:Hp)(xs:List V):Prop:=∀H',Same H H'->(∀(i:Nat)x,xs[i]?=some x->J.go i H'/\∀x' H2,J.yld i H' x' H2->x'=x/\H2=H')/\J.stop xs.length H'
theorem Abo (y:Str)(H:Hp):Seq (Its y) H (y.cps.toList.map λc=>.str ⟨#[c]⟩):=λH' _=>by
 refine⟨λi x e=>?_,?_⟩
 ·
  rw[Agz] at e
  cases q:y.cps.toList[i]? with
  | none=>rw[q] at e;cases e
  |
   some c=>
   rw[q] at e
   have q':y.cps[i]?=some c:=by simpa using q
   refine⟨(Ai8.mp q').1,λx' H2 hy=>?_⟩
   obtain⟨e1,c',e2,e3⟩:=hy
   rw[q'] at e2
   cases e2
   exact⟨e3.trans (Agn e),e1⟩
 ·
  show _=_
  simp
theorem Po {K:W.Frag}{H:Hp}{a:Addr}{xs:List V}(h:SqL K H a xs):Seq (Itl K a) H xs:=λH' s=>by
 have h':=s.seq h
 refine⟨λi x e=>⟨⟨xs,x,h',e⟩,λx' H2 hy=>?_⟩,⟨xs,h',Agi _⟩⟩
 obtain⟨e1,e2⟩:=hy
 have:=e2 xs h'
 rw[e] at this
 exact⟨(Agn this).symm,e1⟩
theorem Same.seqT {K:W.Frag}{H H':Hp}{a:Addr}{xs:List V}(e:Same H H')(h:SqT K H a xs):SqT K H' a xs:=by
 rcases h with(h|⟨o,h⟩)|h
 · exact .inl (.inl (e _ _ h))
 · exact .inl (.inr ⟨o,e _ _ h⟩)
 · exact .inr h
theorem Qs {K:W.Frag}{H:Hp}{a:Addr}{xs:List V}(h:SqT K H a xs):Seq (Itt K a) H xs:=λH' s=>by
 have h':=s.seqT h
 refine⟨λi x e=>⟨⟨xs,x,h',e⟩,λx' H2 hy=>?_⟩,⟨xs,h',Agi _⟩⟩
 obtain⟨e1,e2⟩:=hy
 have:=e2 xs h'
 rw[e] at this
 exact⟨(Agn this).symm,e1⟩
theorem Ah {H:Hp}{p:Addr}{o:HO}(h:H p=none):Same H (upd H p o):=λb u e=>by rw[Ak (Au e h)];exact e
theorem O7 {J:It}{xs:List V}{g:TG}{tb:TS}{D:Ends}{σ:St}{H0 H:Hp}(hJ:Seq J H0 xs)(Pv:Nat->St->Hp->Prop)(h0:Pv 0 σ H)(hsm:∀i σ H,i<=xs.length->Pv i σ H->Same H0 H)
  (hs:∀(i:Nat)x σ H,xs[i]?=some x->Pv i σ H->g x σ H λσ2 H2=>tb {D with nx:=Pv (i+1),ct:=Pv (i+1),bk:=D.nx} σ2 H2) (hd:∀σ H,Pv xs.length σ H->D.nx σ H):
  ∃W:Nat->Nat->St->Hp->Prop,(∃m,W 0 m σ H)/\∀i m σ H,W i m σ H->
   (J.stop i H/\D.nx σ H)∨(J.go i H/\∃N:St->Hp->Prop,(∀σ' H',N σ' H'->∃m',m'<m/\W (i+1) m' σ' H')/\∀x H',J.yld i H x H'->g x σ H' λσ2 H2=>tb {D with nx:=N,ct:=N,bk:=D.nx} σ2 H2):=by
 refine⟨λi m σ H=>m=xs.length-i/\i<=xs.length/\Pv i σ H,⟨xs.length,by simp,Ahn _,h0⟩,?_⟩
 rintro i m σ H ⟨rfl,hi,p⟩
 obtain⟨q1,q2⟩:=hJ H (hsm i σ H hi p)
 by_cases hlt:i<xs.length
 ·
  have e:xs[i]?=some xs[i]:=by simp[hlt]
  obtain⟨go,y⟩:=q1 i _ e
  refine .inr ⟨go,Pv (i+1),λσ' H' p'=>⟨xs.length-(i+1),by lia,rfl,hlt,p'⟩,λx H' hy=>?_⟩
  obtain⟨rfl,rfl⟩:=y x H' hy
  exact hs i _ σ _ e p
 ·
  have e:i=xs.length:=by lia
  subst e
  exact .inl ⟨q2,hd σ H p⟩
theorem Wr {J:It}{cap:List (Option Nat)}{tt:TT}{te:TE}{σ:St}{H1:Hp}{Q:VK}{xs:List V}(hJ:Seq J H1 xs)(p:V->Bool)(f:V->V)(hsz:xs.length<=100000)
  (hp:∀x∈xs,∀H',Same H1 H'->∀R:Bool->Hp->Prop,(∀H'',Same H' H''->R (p x) H'')->tt ((Uk cap σ).set 0 (some x)) H' R)
  (he:∀x∈xs,p x=true->∀H',Same H1 H'->∀R:VK,(∀H'',Same H' H''->R (f x) H'')->te ((Uk cap σ).set 0 (some x)) H' R)
  (k:∀D H',Same H1 H'->H1 D=none->H' D=some (.lst ((xs.filter p).map f))->Q (.ref D) H'):
  Ro J H1 cap (dq 0) tt te σ Q:=by
 intro D hD
 refine⟨λi m ys σ' H'=>m=xs.length-i/\i<=xs.length/\(∀v,σ'.set 0 v=(Uk cap σ).set 0 v)/\H' D=some (.lst ys)/\Same H1 H'/\ys=((xs.take i).filter p).map f,
  ⟨xs.length,by simp,Ahn _,λ_=>rfl,Ac,Ah hD,by simp⟩,?_⟩
 rintro i m ys σ' H' ⟨rfl,hi,hσ,hl,sm,hys⟩
 refine⟨hl,?_⟩
 obtain⟨q1,q2⟩:=hJ H' sm
 by_cases hlt:i<xs.length
 ·
  have e:xs[i]?=some xs[i]:=by simp[hlt]
  obtain⟨go,y⟩:=q1 i _ e
  refine .inr ⟨go,λx H2 hy=>?_⟩
  obtain⟨rfl,rfl⟩:=y x H2 hy
  have hm:xs[i]∈xs:=Aia hlt
  have etake:xs.take (i+1)=xs.take i++[xs[i]]:=by rw[Akr,e];rfl
  show tt (σ'.set 0 (some xs[i])) _ _
  rw[hσ]
  refine hp _ hm _ sm _ λH4 s4=>?_
  have hss:∀v,((Uk cap σ).set 0 (some xs[i])).set 0 v=(Uk cap σ).set 0 v:=λv=>by rw[Al3]
  cases hb:p xs[i] with
  |
   false=>
   refine M0 ⟨xs.length-(i+1),by lia,rfl,hlt,hss,s4 _ _ hl,sm.trans s4,?_⟩
   rw[etake,Ai1,hys]
   simp[hb]
  |
   true=>
   refine Nw ?_
   refine he _ hm hb _ (sm.trans s4) _ λH5 s5=>?_
   have hl5:=s5 _ _ (s4 _ _ hl)
   refine⟨hl5,?_,xs.length-(i+1),by lia,rfl,hlt,hss,Ac,λb o eb=>?_,?_⟩
   ·
    have h1:ys.length<=xs.length:=by
     rw[hys,Agd]
     exact Ag1 (Ah2 _ _) (List.length_take_le' _ _)
    have h2:(100000:Nat)<sizeLine:=by decide
    lia
   ·
    rw[Ak (Au eb hD)]
    exact s5 _ _ (s4 _ _ (sm _ _ eb))
   ·
    rw[etake,Ai1,hys]
    simp[hb]
 ·
  have e:i=xs.length:=by lia
  subst e
  refine .inl ⟨q2,k D _ sm hD ?_⟩
  rw[hl,hys,Aim]
section
variable {X:Cx}
theorem bg:OpR X (compareOp .In) (λx y H Q=>∃c j,x=.str ⟨#[c]⟩/\y=.str j/\Q (.bl (decide (c∈j.cps.toList))) H):=by
 intro pins s σ H x y v u Q I rx ry h
 obtain⟨c,j,rfl,rfl,q⟩:=h
 refine o5 pins s σ H _ _ v u Q I rx ry ⟨_,j,rfl,rfl,?_⟩
 rw[StrLaws.found_one]
 exact q
end
theorem qf {α:Type}{xs:List α}{i:Int}(h0:0<=i)(h1:i<xs.length):atI xs i=some (xs[i.toNat]'(by lia)):=by
 have:=Y4 (xs:=xs) (j:=i.toNat) (v:=xs[i.toNat]'(by lia)) (by simp)
 rw[show((i.toNat:Nat):Int)=i by lia] at this
 exact this
theorem jo {ts:List Str}{i:Int}(h0:0<=i)(h1:i<ts.length):∃t,t∈ts/\atI (ts.map V.str) i=some (.str t):=by
 refine⟨ts[i.toNat]'(by lia),Aia _,?_⟩
 rw[qf h0 (by simpa using h1)]
 simp
theorem Yc {ts:List Int}{i:Int}(h0:0<=i)(h1:i<ts.length):∃t,t∈ts/\atI (ts.map V.int) i=some (.int t):=by
 refine⟨ts[i.toNat]'(by lia),Aia _,?_⟩
 rw[qf h0 (by simpa using h1)]
 simp
def litOf:Expr->Option V
 | .Constant (.int i) _ _=>some (.int i)
 | .Constant (.str x) _ _=>some (.str x)
 | .Constant (.bool b) _ _=>some (.bl b)
 | .Constant .none _ _=>some .non
 | .UnaryOp .USub (.Constant (.int i) _ _) _=>some (.int (-i))
 | _=>none
def litsOf:List Expr->Option (List V)
 | []=>some []
 |
  e::r=>match litOf e,litsOf r with
  | some v,some vs=>some (v::vs)
  | _,_=>none
theorem Ab7 {X:Cx}{e:Expr}{v:V}(h:litOf e=some v):PE X e (tC v)/\∀es:List Expr,starEach (e::es) X.env=(false,eval e X.env)::starEach es X.env:=by
 unfold litOf at h
 split at h
 · cases h;exact⟨Aj,λ_=>rfl⟩
 · cases h;exact⟨Ce,λ_=>rfl⟩
 · cases h;exact⟨Z3,λ_=>rfl⟩
 · cases h;exact⟨Ra,λ_=>rfl⟩
 ·
  rename_i i j p q
  cases h
  refine⟨λpins s σ H Q I hq=>Abp vn Aj pins s σ H Q I ⟨_,rfl,hq⟩,λ_=>rfl⟩
 · cases h
theorem jl {X:Cx}:∀{es:List Expr}{vs:List V},litsOf es=some vs->PA X es (λ_ H Q=>Q vs H)
 | [],vs,h=>by cases h;exact Ae
 |
  e::r,vs,h=>by
  unfold litsOf at h
  split at h
  ·
   rename_i v ws h1 h2
   cases h
   have p:=Ab7 (X:=X) h1
   exact Aa p.1 (jl h2) (p.2 r)
  · cases h
def litsAre (es:List Expr)(vs:List V):Bool:=decide (litsOf es=some vs)
theorem O3 {X:Cx}{es:List Expr}(vs:List V)(h:litsAre es vs=true):PA X es (λ_ H Q=>Q vs H):=jl (Agf h)
end L2
namespace L2
theorem jr (m:Int):∀ns:List Int,inV (.int m) (ns.map V.int)=decide (m∈ns)
 | []=>rfl
 |
  n::ns=>by
  have ih:=jr m ns
  unfold inV at*
  rw[Agy,Aj9,ih]
  have e:eqV (.int n) (.int m)=decide (m=n):=by
   show(n==m)=_
   by_cases h:m=n
   · subst h;simp
   · rw[Agp h];exact Aij.mpr (Aj3 h)
  rw[e,←Bool.decide_or]
  exact Ahe.mpr (by rw[Agx])
end L2
namespace L2
open PySem PySem.Spec PyProof.Rows
def vE:List Value:=[.type "ValueError",.type "Exception",.type "BaseException",.type "object"]
theorem Abk {K:W.Frag}{h:Heap}{C:Addr}{bmB:List Value}{newId:String}(X:K.In h)(q:W.excIn K C bmB newId=true):
  ∃bm N nm qn bs hd sn sub ab col dd k0 k1 k2 k3 k5 mN,h.get? C=some (excClassObj nm qn C N bs bm hd sn sub ab col dd k0 k1 k2 k3 k5 newId)/\h.Ns N mN/\mN "__init__"=none/\OwnTail h bmB bm:=by
 unfold W.excIn at q
 split at q
 case h_2=>cases q
 case h_1 dct cdat slots look=>
  split at q
  case h_2=>cases q
  case h_1 C2 tl a0 a1 a2 a3 nw a5 e1 e2=>
   simp only[Ag6,beq_iff_eq,Aly] at q
   obtain⟨⟨⟨⟨⟨z1,z2⟩,z3⟩,z4⟩,z5⟩,z6⟩:=q
   subst z1 z2
   obtain⟨nm,bs,mro,ns,qn,hd,sn,sub,ab,col,del⟩:=cdat
   dsimp only at e1 z3 z5 z6
   subst e1 z3
   have es:slots=#[a0,a1,a2,a3,some (.builtin nw),a5]:=by
    cases slots
    exact Ahb Array.mk e2
   subst es
   exact⟨tl,ns,nm,qn,bs,hd,sn,sub,ab,col,dct,a0,a1,a2,a3,a5,_,X _ _ look,.of_isNs (W.isNs_of_in X z5),W.nsMap_none_of_in X z5 z6,W.tail_of_in X z4⟩
theorem HOk.tracked {P:Program}{w:World}{H:Hp}{h h':Heap}(x:HOk P w H h)(k:∀b u o,H b=some u->h.get? b=some o->h'.get? b=some o):HOk P w H h':=λa o e=>
 (x a o e).stay (λb u hb q=>by
  rcases hb with hb|hb
  · subst hb;exact k _ _ _ e q
  · exact k _ _ _ hb q) (λ_ q=>q) λ_ _ q=>q
def CXe (P:Program)(w:World):CXT:=λouter H s E ev s'=>∃(ea t C:Addr)(H':Hp)(B:Heap),ev=.ref ea/\s'.os=s.os/\AllBare s'.gens/\
 Un (frs outer) [] H H' s.heap s'.heap/\HOk P w H' s'.heap/\Heap.FlyingW B outer ea (.ref C) (.ref t) s'.heap/\
 (∀b o,s.heap.get? b=some o->H b=none->b∉frs outer->B.get? b=some o)/\(∀b o,s.heap.get? b=some o->b∉frs outer->∃o',B.get? b=some o')/\
 (∀b u o,H' b=some u->s'.heap.get? b=some o->B.get? b=some o)/\H' ea=none/\s.heap.get? ea=none/\E (.ref C) none H'
theorem Ad6 {P:Program}{w:World}{X:Cx}:Passes (CXe P w) X (λ_ _ _=>False):=λ_ _ _ _ _ _ _ c=>by
 obtain⟨_,_,_,_,_,_,_,_,_,_,_,_,_,_,_,_,q⟩:=c
 exact q.elim
theorem HOk.there {P:Program}{w:World}{H:Hp}{h:Heap}{b:Addr}{v:HO}(ok:HOk P w H h)(e:H b=some v):∃o',h.get? b=some o':=by
 have:=ok b v e
 cases v with
 | lst xs=>obtain⟨_,_,_,_,z⟩:=this;exact⟨_,z⟩
 | tup xs=>obtain⟨_,_,_,o,z,_⟩:=this;exact⟨_,z⟩
 | dK kvs=>obtain⟨_,_,_,_,o,_,_,z,_⟩:=this;exact⟨_,z⟩
 | dT kvs=>obtain⟨_,_,_,_,o,_,_,z,_⟩:=this;exact⟨_,z⟩
 | set S n=>obtain⟨o,_,_,_,z,_⟩:=this;exact⟨_,z⟩
 | ins C dx fs=>obtain⟨_,_,_,z,_⟩:=this;exact⟨_,z⟩
 | own y=>exact this
 | xd fs=>obtain⟨_,⟨_,_,_,z,_⟩,_⟩:=this;exact⟨_,z⟩
 | rng lo hi=>obtain⟨_,_,_,z⟩:=this;exact⟨_,z⟩
 | frz ob u=>obtain⟨z,_⟩:=this;exact⟨_,z⟩
 | tbl ps=>exact⟨_,this⟩
 | met f y=>exact⟨_,this⟩
 | ext φ=>exact this.2.1
section
variable {X:Cx}{pins:List (Addr×Obj)}{σ:St}{H H':Hp}{s:Shared}{h h2 B:Heap}
theorem lies_of (I:Inv X pins σ H s)(hst:X.stack=X.env::X.outer)(hex:X.ex=[])(u:Un (frs X.stack) [] H H' s.heap h)(ok:HOk X.prog X.w H' h)
  (oldB:∀b o,s.heap.get? b=some o->H b=none->b∉frs X.stack->B.get? b=some o) (thB:∀b o,s.heap.get? b=some o->b∉frs X.stack->∃o',B.get? b=some o')
  (trB:∀b u o,H' b=some u->h.get? b=some o->B.get? b=some o) (st:B.StaysIn h2) (up:h.UpToSlots h2):
  Un (frs X.outer) [] X.H₀ H' X.s₀.heap h2/\HOk X.prog X.w H' h2/\(∀b o,X.s₀.heap.get? b=some o->X.H₀ b=none->b∉frs X.outer->B.get? b=some o)/\
   (∀b o,X.s₀.heap.get? b=some o->b∉frs X.outer->∃o',B.get? b=some o')/\(∀b u o,H' b=some u->h2.get? b=some o->B.get? b=some o):=by
 have nx:∀b,b∉X.ex:=λb=>by rw[hex];simp
 have nst:∀b o,X.s₀.heap.get? b=some o->b∉frs X.outer->b∉frs X.stack:=λb o e hb z=>by
  rcases Agx.mp (I.stkSub b z) with q|q
  · exact absurd q (Agv (Ag4 (Agk e) I.ok.above))
  · exact hb q
 have sub:∀b,b∈frs X.outer->b∈frs X.stack:=λb hb=>by
  rw[hst]
  unfold frs at*
  rw[Ah0]
  split
  · exact hb
  · exact Agh _ hb
 have old:∀b o,X.s₀.heap.get? b=some o->X.H₀ b=none->b∉frs X.outer->B.get? b=some o:=λb o e n hb=>oldB b o (I.base.keep b o e n hb (nx b)) (I.base.free b o e n (nx b)) (nst b o e hb)
 have th:∀b o,X.s₀.heap.get? b=some o->b∉frs X.outer->∃o',B.get? b=some o':=λb o e hb=>by
  obtain⟨o',e'⟩:=I.base.there b o e (nx b)
  exact thB b o' e' (nst b o e hb)
 have sl:∀b o,X.s₀.heap.get? b=some o->b∈frs X.outer->∃sl,h2.get? b=some {o with slots:=sl}:=λb o e hb=>by
  have n0:=I.ok.frf b hb
  obtain⟨s1,e1⟩:=I.base.slot b o e n0 hb (nx b)
  obtain⟨s2,e2⟩:=u.slot b _ e1 (I.base.free b o e n0 (nx b)) (sub b hb) (by simp)
  obtain⟨_,o',e',nf⟩:=I.ok.funs.mem hb
  rw[e] at e'
  cases e'
  obtain⟨s3,e3⟩:=up b _ e2 nf
  exact⟨s3,e3⟩
 refine⟨⟨λb o e n hb _=>st b o (old b o e n hb),λb o e n hb _=>sl b o e hb,λb o e n _=>?_,λb o e _=>?_,λb xs e=>u.tups b xs (I.base.tups b xs e),λb o v e=>u.frzs b o v (I.base.frzs b o v e),λb ps e=>?_⟩,
  ok.tracked λb v o e q=>st b o (trB b v o e q),old,th,λb v o e q=>?_⟩
 ·
  obtain⟨o',e'⟩:=I.base.there b o e (nx b)
  exact u.free b o' e' (I.base.free b o e n (nx b)) (by simp)
 ·
  by_cases hb:b∈frs X.outer
  ·
   obtain⟨s1,e1⟩:=sl b o e hb
   exact⟨_,e1⟩
  ·
   obtain⟨o',e'⟩:=th b o e hb
   exact⟨o',st b o' e'⟩
 ·
  obtain⟨m1,e1⟩:=I.base.tbls b ps e
  obtain⟨m2,e2⟩:=u.tbls b _ e1
  exact⟨m1++m2,by rw[e2,Array.append_assoc]⟩
 ·
  have hl:=ok.lt e
  obtain⟨o',e'⟩:=ok.there e
  have z:=trB b v o' e e'
  have:=st b o' z
  rw[q] at this
  cases this
  exact z
end
def Raises (X:Cx)(E:XK):Prop:=∀(pins:List (Addr×Obj))(σ:St)(H:Hp)(s:Shared)(e C:Addr)(h':Heap)(vs:List Value),Inv X pins σ H s->Heap.MadeExcOf s.heap h' e (.ref C) vs->E (.ref C) none H->X.xe (.ref e) {s with heap:=h'}
section
variable {cm:Bool}{P:Program}{w:World}{K:W.Frag}{mg:Str->Option Value}{base:Heap}{N:List Str}{qual:Str}{scope:Scope}{f:Addr}{cd:Value}{A:Around}{outer:List Env}{s:Shared}{H:Hp}{E:XK}
theorem Fh:Raises (eo (CXe P w) cm P w K mg base N qual scope f cd A outer s H E) E:=by
 intro pins σ H1 s1 e C h' vs I mx q
 have old:∀b o,s1.heap.get? b=some o->H1 b=none->b∉frs (eo (CXe P w) cm P w K mg base N qual scope f cd A outer s H E).stack->(W.hideAll s1.heap (frs (eo (CXe P w) cm P w K mg base N qual scope f cd A outer s H E).stack)).get? b=some o:=λb o e _ hb=>W.hideAll_get _ e hb
 have nfr:∀b u,H1 b=some u->b∉frs (eo (CXe P w) cm P w K mg base N qual scope f cd A outer s H E).stack:=λb u e z=>by
  have:=I.stkFree b z
  rw[e] at this
  cases this
 have ok1:HOk P w H1 h':=I.hok.kept mx.keeps
 have tr:∀b u o,H1 b=some u->h'.get? b=some o->(W.hideAll s1.heap (frs (eo (CXe P w) cm P w K mg base N qual scope f cd A outer s H E).stack)).get? b=some o:=λb u o e z=>by
  have hl:b<s1.heap.objs.size:=I.hok.lt e
  cases q1:s1.heap.get? b with
  |
   none=>
   obtain⟨o',e'⟩:=I.hok.there e
   rw[q1] at e'
   cases e'
  |
   some o'=>
   have:=mx.keeps b o' q1
   rw[z] at this
   cases this
   exact W.hideAll_get _ q1 (nfr b u e)
 refine wpAny_leaves_madeW (s:={s1 with heap:=h'}) (base:=W.hideAll s1.heap (frs (eo (CXe P w) cm P w K mg base N qual scope f cd A outer s H E).stack)) (h:=s1.heap) I.ok.frames rfl (λb o z=>W.of_hideAll _ z) (W.funFrames_hide I.stack λenv he b hb=>Aif.mpr ⟨env,he,hb⟩) mx λh2 t fl tup ht up=>?_
 obtain⟨u1,o1,b1,t1,r1⟩:=lies_of I rfl rfl (Un.kept mx.keeps) ok1 old (λb o e hb=>⟨o,W.hideAll_get _ e hb⟩) tr fl.1 up
 refine⟨e,t,C,H1,_,rfl,I.os,I.bare,u1,o1,fl,b1,t1,r1,?_,?_,q⟩
 ·
  cases z:H1 e with
  | none=>rfl
  |
   some v=>
   obtain⟨o',e'⟩:=I.hok.there z
   have:=mx.new
   rw[e'] at this
   cases this
 ·
  cases z:s.heap.get? e with
  | none=>rfl
  |
   some o=>
   obtain⟨o',e'⟩:=I.base.there e o z (λq=>nomatch q)
   have:=mx.new
   rw[e'] at this
   cases this
theorem B1:Passes (CXe P w) (eo (CXe P w) cm P w K mg base N qual scope f cd A outer s H E) E:=by
 intro pins σ H1 s1 e s' I c
 obtain⟨ea,t,C,H',B,rfl,os,bare,u,ok,fl,oldB,thB,trB,n1,n2,q⟩:=c
 refine wpAny_leaves_onW (s:=s') I.ok.frames rfl fl λh2 fl' up=>?_
 obtain⟨u1,o1,b1,t1,r1⟩:=lies_of I rfl rfl u ok oldB thB trB fl'.1 up
 refine⟨ea,t,C,H',B,rfl,os.trans I.os,bare,u1,o1,fl',b1,t1,r1,n1,?_,q⟩
 cases z:s.heap.get? ea with
 | none=>rfl
 |
  some o=>
  obtain⟨o',e'⟩:=I.base.there ea o z (λq=>nomatch q)
  rw[n2] at e'
  cases e'
theorem Fun.okE {x:Str}{st:Stmt}{f:Addr}{fd:FuncData}{N ps:List Str}{k:Nat}{sp:Sp}(F:Fun K x qual st f fd)(S:Ar N ps (Ab st))(len:∀vs H Q E,sp vs H Q E->vs.length=ps.length)
  (hbody:∀(cdv:Value)(A:Around)(outer:List Env)(s:Shared)(H:Hp)(vs:List V)(Q:VK)(E:XK),Room cm k (A.deeper (envOfC qual (Ab st) s.heap.objs.size f cdv))->sp vs H Q E->
   ∃t,PSs (eo (CXe P w) cm P w K mg base N qual (Ab st) f cdv A outer s H E) (Al st) t/\t {nx:=λ_ H'=>Q .non H',rt:=λ_=>Q} (start N vs) H):FnOk P w K mg base (CXe P w) cm (k+1) f fd ps sp:=by
 obtain⟨oc,od,kV,doc,pm,an,cdv,ct,osl,rfl,lk,hcd⟩:=F.ex
 exact vw lk hcd S len λA outer s H vs Q E hr h=>hbody cdv A outer s H vs Q E hr h
theorem FunD.okE {x:Str}{st:Stmt}{f:Addr}{fd:FuncData}{N ps:List Str}{k:Nat}{sp:Sp}(F:FunD K x qual st f fd)(S:Ar N ps (Ab st))(len:∀vs H Q E,sp vs H Q E->vs.length=ps.length)
  (hbody:∀(cdv:Value)(A:Around)(outer:List Env)(s:Shared)(H:Hp)(vs:List V)(Q:VK)(E:XK),Room cm k (A.deeper (envOfC qual (Ab st) s.heap.objs.size f cdv))->sp vs H Q E->
   ∃t,PSs (eo (CXe P w) cm P w K mg base N qual (Ab st) f cdv A outer s H E) (Al st) t/\t {nx:=λ_ H'=>Q .non H',rt:=λ_=>Q} (start N vs) H):FnOk P w K mg base (CXe P w) cm (k+1) f fd ps sp:=by
 obtain⟨oc,od,dV,kV,doc,pm,an,cdv,ct,osl,rfl,lk,hcd⟩:=F.ex
 exact vw lk hcd S len λA outer s H vs Q E hr h=>hbody cdv A outer s H vs Q E hr h
end
section
variable {X:Cx}{E:XK}{x:Str}{C:Addr}{np cpos pos:Pos}{e0:Expr}{es:List Expr}{t:TA}
theorem Lf (R:Raises X E)(hc:X.calm=true)(hg:Gl X x)(hm:X.mg x=some (.ref C))(q:W.excIn X.K C vE "ValueError.__new__"=true)(ha:PA X (e0::es) t)
  (he:starEach (e0::es) X.env=(false,eval e0 X.env)::starEach es X.env:=by rfl) (hpl:(backTo cpos (starEach es X.env)).any (·.1)=false:=by rfl) (hd:(x==("__debug__":Str))=false:=by decide):
  PS X (.Raise (some (.Call (.Name x np) (e0::es) [] cpos)) none pos) (λ_ σ H=>t σ H λvs H1=>vs.length<=sizeLine/\E (.ref C) none H1):=by
 intro pins s σ H D I h
 obtain⟨bm,N,nm,qn,bs,hdc,sn,sub,ab,col,dd,k0,k1,k2,k3,k5,mN,hC,hN,hni,TL⟩:=Abk I.mod.kin q
 refine wpAny_Raise_call_subT (C:=C) (nm:=nm) (q:=qn) (N:=N) (bs:=bs) (bm:=bm) (hdct:=hdc) (sn:=sn) (sub:=sub) (ab:=ab) (col:=col) (dd:=dd) (k0:=k0) (k1:=k1) (k2:=k2) (k3:=k3) (k5:=k5)
  PySem.F.excBase_ValueError (mN:=mN) (TL.hasType PySem.F.excBase_ValueError.hasBase) (I.ok.hd hc) (by rw[he];show(false||(backTo cpos (starEach es X.env)).any (·.1))=false;rw[hpl];rfl) hni (Tb I hg hm ⟨rfl,?_⟩ hd)
 have w1:=ha cpos pins s σ H _ I h
 rw[he] at w1 ⊢
 exact Ajj (thn w1 λus s1 ⟨vs,H1,I1,r1,z,q1⟩=>⟨rfl,by rw[←r1.length];exact z,I1.bk _ _ hC,hN.keeps I1.bk,TL.keeps I1.bk,λh' e mx=>R pins σ H1 s1 e C h' us I1 mx q1⟩)
end
def Cx.hnd (X:Cx)(e:Value):Cx:={X with A:=X.A.mark (some e),calm:=false,xe:=λ_ _=>False}
theorem Inv.hnd {X:Cx}{pins:List (Addr×Obj)}{σ:St}{H:Hp}{s:Shared}(I:Inv X pins σ H s)(e:Value):Inv (X.hnd e) pins σ H s:=
 ⟨⟨
  I.ok.mod,I.ok.kind,I.ok.glob,I.ok.blt,I.ok.above,I.ok.inj,I.ok.has,I.ok.cab,(λz=>nomatch z),I.ok.frames,I.ok.stk,I.ok.exf,I.ok.bs,I.ok.bsz,I.ok.noex,I.ok.exfs,I.ok.funs,I.ok.frf⟩,
  I.os,I.bare,I.base,I.loc,I.cell,I.free,I.freeC,I.pin,I.hok,I.len⟩
theorem Inv.unhnd {X:Cx}{pins:List (Addr×Obj)}{σ:St}{H:Hp}{s:Shared}{e:Value}(ok:X.Ok)(I:Inv (X.hnd e) pins σ H s):Inv X pins σ H s:=
 ⟨ok,I.os,I.bare,I.base,I.loc,I.cell,I.free,I.freeC,I.pin,I.hok,I.len⟩
def Zw (CX:CXT)(X:Cx)(σ:St)(E:XK):Prop:=∀(pins:List (Addr×Obj))(H:Hp)(s:Shared)(e:Value)(s':Shared),Inv X pins σ H s->CX X.stack H s E e s'->X.xe e s'
section
variable {X:Cx}{CX:CXT}{cm:Bool}{k:Nat}{f:Addr}{fd:FuncData}{ps:List Str}{sp:Sp}{dvs:List V}{ds:List Value}{E:St->XK}{x:Str}{p pos:Pos}{e:Expr}{es:List Expr}{t:TA}
end
structure Catch (K:W.Frag)(Cc:Addr):Prop where
 ty:W.typeIn K (.ref Cc)=some (.type "type")
 mb:W.mroIn K Cc (.type "BaseException")=some true
theorem Catch.cls {K:W.Frag}{Cc:Addr}(c:Catch K Cc):∃cd,W.clsIn K Cc=some cd:=by
 obtain⟨cd,a,_⟩:=Akx.mp c.mb
 exact⟨cd,a⟩
theorem Yb {K:W.Frag}{prog:Program}{w:World}{A:Around}{E:Value->Shared->Prop}{s:Shared}{Q:Bool->Shared->Prop}{e Cc C:Addr}{oe:Obj}(X:K.In s.heap)(he:s.heap.get? e=some oe)(hc:oe.cls=.ref C)
  (ct:Catch K Cc) (ms:W.mroIn K C (.ref Cc)=some true) (q:Q true s):wpAny (model prog w) A (excMatches (.ref e) (.ref Cc)) Q E s:=by
 obtain⟨cd,hcd⟩:=ct.cls
 have L3:=W.looks_mroIn (M:=model prog w) X ct.mb
 have L4:=W.looks_mroIn (M:=model prog w) X ms
 have same:∀b o,s.heap.get? b=some o->s.heap.get? b=some o:=λ_ _ z=>z
 have f:=tc_notTuple
 unfold W.clsIn at hcd
 split at hcd
 case h_2=>cases hcd
 case h_1 a1 a2 a3 a4 lk=>
  have ho:=X _ _ lk
  have ty:Option.map (λo:Obj=>o.cls) (K.lookup Cc)=some (.type "type"):=ct.ty
  rw[lk] at ty
  have ty':a1=.type "type":=Agn ty
  subst ty'
  obtain⟨hp,g,d,tk,os⟩:=s
  have M3:∀(A:Around)(Q:Bool->Shared->Prop)(E:Value->Shared->Prop),Q true ⟨hp,g,d,tk,os⟩->wpAny (model prog w) A (isSubtype (.ref Cc) (.type "BaseException")) Q E ⟨hp,g,d,tk,os⟩:=λA Q E z=>L3 A Q E _ same z
  have M4:∀(A:Around)(Q:Bool->Shared->Prop)(E:Value->Shared->Prop),Q true ⟨hp,g,d,tk,os⟩->wpAny (model prog w) A (isSubtype (.ref C) (.ref Cc)) Q E ⟨hp,g,d,tk,os⟩:=λA Q E z=>L4 A Q E _ same z
  unfold excMatches
  repeat (first|(with_reducible refine wpAny_loadPart_at he ?_;rw[hc])|with_reducible refine wpAny_loadPart_at ho ?_|with_reducible refine M3 _ _ _ ?_|with_reducible refine M4 _ _ _ ?_|wp_step)
  exact q
def Cx.tryx (X:Cx)(pins:List (Addr×Obj))(Eb:Value->Shared->Prop):Cx:={X with pn:=X.pn++pins,xe:=Eb}
section
variable {X:Cx}{pins pins':List (Addr×Obj)}{σ:St}{H H':Hp}{s:Shared}{Eb:Value->Shared->Prop}{h h2 B:Heap}
theorem Inv.tryx (I:Inv X pins σ H s)(Eb:Value->Shared->Prop):Inv (X.tryx pins Eb) [] σ H s:=
 ⟨⟨
  I.ok.mod,I.ok.kind,I.ok.glob,I.ok.blt,I.ok.above,I.ok.inj,I.ok.has,I.ok.cab,I.ok.hd,I.ok.frames,I.ok.stk,I.ok.exf,I.ok.bs,I.ok.bsz,I.ok.noex,I.ok.exfs,I.ok.funs,I.ok.frf⟩,
  I.os,I.bare,I.base,I.loc,I.cell,I.free,I.freeC,(λp hp=>I.pin p (by simpa[Cx.tryx] using hp)),I.hok,I.len⟩
theorem Inv.untryx (ok:X.Ok)(I:Inv (X.tryx pins Eb) pins' σ H s):Inv X pins σ H s:=
 ⟨ok,I.os,I.bare,I.base,I.loc,I.cell,I.free,I.freeC,(λp hp=>I.pin p (Aj6 _ hp)),I.hok,I.len⟩
theorem Inv.landed (I:Inv X pins σ H s){s':Shared}(os:s'.os=s.os)(bare:AllBare s'.gens)(u:Un (frs X.stack) [] H H' s.heap s'.heap)(ok:HOk X.prog X.w H' s'.heap)
  (oldB:∀b o,s.heap.get? b=some o->H b=none->b∉frs X.stack->B.get? b=some o) (thB:∀b o,s.heap.get? b=some o->b∉frs X.stack->∃o',B.get? b=some o')
  (trB:∀b u o,H' b=some u->s'.heap.get? b=some o->B.get? b=some o) (st:B.StaysIn h2) (up:s'.heap.UpToSlots h2):Inv X pins σ H' {s' with heap:=h2}:=by
 have sl:∀b o,s.heap.get? b=some o->H b=none->b∈frs X.stack->∃sl,h2.get? b=some {o with slots:=sl}:=λb o e n hb=>by
  obtain⟨s2,e2⟩:=u.slot b o e n hb (by simp)
  obtain⟨_,o',e',nf⟩:=I.stack.mem hb
  rw[e] at e'
  cases e'
  obtain⟨s3,e3⟩:=up b _ e2 nf
  exact⟨s3,e3⟩
 refine I.call' (s':={s' with heap:=h2}) (ch:=[]) os ⟨λb o e n hb _=>st b o (oldB b o e n hb),λb o e n hb _=>sl b o e n hb,u.free,λb o e _=>?_,u.tups,u.frzs,u.tbls⟩ (ok.tracked λb v o e q=>st b o (trB b v o e q)) bare (λb z=>nomatch z)
 by_cases hb:b∈frs X.stack
 ·
  obtain⟨s1,e1⟩:=sl b o e (I.stkFree b hb) hb
  exact⟨_,e1⟩
 ·
  obtain⟨o',e'⟩:=thB b o e hb
  exact⟨o',st b o' e'⟩
end
section
variable {X:Cx}
end
section
variable {X:Cx}
theorem Vals.of_get:∀{xs:List V}{us:List Value},xs.length=us.length->(∀(j:Nat)(x:V)(u:Value),xs[j]?=some x->us[j]?=some u->RelV x u)->Vals xs us
 | [],[],_,_=>.nil
 | x::xs,u::us,h,k=>.cons (k 0 x u rfl rfl) (Vals.of_get (by simpa using h) λj y w a b=>k (j+1) y w (by simpa using a) (by simpa using b))
end
end L2
namespace L2
open PySem PySem.Spec PySem.Calls PyProof.Rows Builtin Builtin.ObjectAttr Builtin.Getset_descriptor
structure ExC (K:W.Frag)(C:Addr):Prop where
 cs:(W.clsIn K C).isSome=true
 ga:W.findIn K (.ref C) "__getattribute__"=some (some (.builtin "BaseException.__getattribute__"))
 gn:W.findIn K (.ref C) "__getattr__"=some none
 ca:W.findIn K (.ref C) "__class__"=some (some (.builtin "object.__class__"))
 sg:W.specialIn K (.builtin "object.__class__") "__get__"=some (some (.builtin "getset_descriptor.__get__"))
 tk:W.takesIn K (.builtin "object.__class__")=some true
 mo:W.mroIn K C (.type "object")=some true
 mb:W.mroIn K C (.type "BaseException")=some true
def ExcAt (e C:Addr)(h:Heap):Prop:=∃oe,h.get? e=some oe/\oe.cls=.ref C
theorem ExcAt.type {M:Model}{e C:Addr}{h:Heap}(p:ExcAt e C h):W.Looks M h (typeOf (.ref e)) (.ref C):=by
 obtain⟨oe,a,b⟩:=p
 exact b▸(W.Looks.ld a).andThen .now
section
variable {prog:Program}{w:World}{K:W.Frag}{e C:Addr}
theorem f6 {A:Around}{R:Result->Shared->Prop}{tp:Value}{s:Shared}(X:K.In s.heap)(p:ExcAt e C s.heap)(mo:W.mroIn K C (.type "object")=some true)
  (z:R (.ok (.ret (.ref C))) s):codeAny (model prog w) A (.call (.builtin "getset_descriptor.__get__") ⟨[.builtin "object.__class__",.ref e,tp],[]⟩) R s:=by
 obtain⟨h0,g0,d0,t0,o0⟩:=s
 have K0:=p.type (M:=model prog w)
 have K1:=W.looks_mroIn (M:=model prog w) X mo
 refine Akg W.KF.slot_gs.plain W.KF.entry_gs ?_
 refine W.KF.slot_gs.check _ _ _ _ _ _ _ _ W.KF.type_class (W.KF.args_gs _ _ _) ?_
 unfold Builtin.«getset_descriptor.__get__»
 unfold descrGet
 rw[W.dga_obj]
 refine Aga ?_
 refine Agb ?_
 unfold descrGetter descrCheckInstance
 unfold descrNameAndClass isInstance
 simp only[W.KF.owner_class]
 repeat lk
 refine⟨Ajx _ (by decide+kernel),?_⟩
 refine Ah1 W.KF.entry_class ?_
 unfold Builtin.«object.__class__»
 unfold shownTypeOf
 repeat lk
 exact z
theorem qt {A:Around}{M:Model}{E:Value->Shared->Prop}{nameV:Value}{Q:Unit->Shared->Prop}{s:Shared}(X:K.In s.heap)(p:ExcAt e C s.heap)(c:ExC K C)(z:Q () s):
  wpAny M A (checkBuiltinCall "BaseException.__getattribute__" ⟨[.ref e,nameV],[]⟩) Q E s:=by
 obtain⟨h0,g0,d0,t0,o0⟩:=s
 have k1:builtinKind "BaseException.__getattribute__"=some .slot:=by decide+kernel
 have k2:splitId "BaseException.__getattribute__"=some ("BaseException","__getattribute__"):=by decide+kernel
 have k3:=PySem.F.args_bexc_ga (.ref e) nameV
 have KI:W.Looks M h0 (isInstance (.ref e) (.type "BaseException")) true:=p.type.andThen (W.looks_mroIn X c.mb)
 simp only[checkBuiltinCall,k1,k2]
 refine Aga ?_
 repeat (first|with_reducible refine KI.at ?_|wp_step)
 exact z
theorem o8 {A:Around}{E:Value->Shared->Prop}{tk:Tok}{Q:Fin->Shared->Prop}{s:Shared}(X:K.In s.heap)(p:ExcAt e C s.heap)(c:ExC K C)(z:Q (.done (.ret (.ref C))) s):
  wpAny (model prog w) A (Builtin.«object.__getattribute__» ⟨[.ref e,.str "__class__" tk],[]⟩) Q E s:=by
 obtain⟨h0,g0,d0,t0,o0⟩:=s
 have K0:=p.type (M:=model prog w)
 have K3:=Al2 (M:=model prog w) X c.ca
 have K4:=W.looks_specialIn (M:=model prog w) X c.sg
 have K5:=W.looks_takesIn (M:=model prog w) X c.tk
 have KF:W.Looks (model prog w) h0 (find (.ref e) (.ref C) "__class__") (.bind (.builtin "getset_descriptor.__get__") (.builtin "object.__class__")):=
  K3.andThen (W.Looks.andThen (a:=some (Value.builtin "getset_descriptor.__get__")) (show W.Looks (model prog w) h0 (getOf (some (.builtin "object.__class__"))) _ from K4)
   (W.Looks.andThen (a:=some (Value.builtin "getset_descriptor.__get__",Value.builtin "object.__class__")) (show W.Looks (model prog w) h0 (dataDescriptor? (some (.builtin "object.__class__")) (some (.builtin "getset_descriptor.__get__"))) _ from K5.andThen .now) (W.Looks.tag .now)))
 repeat (first|with_reducible refine K0.at ?_|with_reducible refine KF.at ?_|wp_step)
 exact f6 (s:=⟨h0,g0,d0,t0,o0⟩) X p c.mo (Agb z)
theorem Aay {A:Around}{E:Value->Shared->Prop}{Q:Option Value->Shared->Prop}{s:Shared}(X:K.In s.heap)(p:ExcAt e C s.heap)(c:ExC K C)(z:Q (some (.ref C)) {s with toks:=s.toks+1}):
  wpAny (model prog w) A (getAttr? (.ref e) "__class__") Q E s:=by
 obtain⟨h0,g0,d0,t0,o0⟩:=s
 have K0:=p.type (M:=model prog w)
 have K1:=Al2 (M:=model prog w) X c.ga
 have K2:=Al2 (M:=model prog w) X c.gn
 unfold getAttr? getAttrBy?
 unfold getAttrBy
 refine Aga (wpAny_mkText ?_)
 refine Aga (Akk (Ahd ?_))
 refine Aga (K0.at ?_)
 refine Aga (K1.at ?_)
 have n1:(onTheHeap (Value.ref C)&&Value.builtin "BaseException.__getattribute__"==Value.builtin "object.__getattribute__")=false:=by
  rw[show(Value.builtin "BaseException.__getattribute__"==Value.builtin "object.__getattribute__")=false by decide+kernel,Bool.and_false]
 dsimp only
 rw[if_neg (by rw[n1];exact Ags)]
 unfold getAttrByItsOwn hookBefore
 refine Aga ?_
 rw[if_pos (show onTheHeap (Value.ref C)=true from rfl)]
 refine K2.at ?_
 refine Aga (Akk (Ahd ?_))
 unfold callGetattribute
 rw[if_neg (by rw[Bool.false_and];exact Ags)]
 unfold boundAndCalled
 rw[PySem.F.attrBase_ValueError.ga.bind (.ref e)]
 refine Aga (Agb ?_)
 refine Alr ?_
 refine Akg PySem.F.attrBase_ValueError.ga.plain PySem.F.entry_bexc_ga ?_
 refine qt (s:=⟨h0,g0,d0,t0+1,o0⟩) X p c ?_
 refine o8 (s:=⟨h0,g0,d0,t0+1,o0⟩) X p c ?_
 repeat (any_goals (first|exact z|wp_step))
theorem Aa7 (c:ExC K C):W.KitX K (.ref e) (.ref C) (ExcAt e C):=by
 obtain⟨cd,hcd⟩:=Ajg.mp c.cs
 have cls:∃c1 d1 e1 f1,K.lookup C=some ⟨c1,d1,.cls e1,f1⟩:=by
  unfold W.clsIn at hcd
  split at hcd
  · exact⟨_,_,_,_,by assumption⟩
  · cases hcd
 obtain⟨c1,d1,e1,f1,lk⟩:=cls
 refine⟨λ_ _ _ p=>p.type,λM h X _=>?_,λh tp dd its n sl X htp=>?_,λX p k=>Aay X p c k⟩
 ·
  intro A' Q' E' s' k q
  unfold isType
  unfold loadHead
  exact Aga (wpAny_loadPart (k _ _ (X _ _ lk)) (Agb q))
 ·
  refine Akt.mpr λq=>?_
  have e2:C=tp:=Value.ref.inj (beq_iff_eq.mp q)
  subst e2
  rw[X _ _ lk] at htp
  cases htp
end
def exo (e C:Addr):HO:=.ext (ExcAt e C)
section
variable {X:Cx}
theorem qy {pins:List (Addr×Obj)}{σ:St}{H:Hp}{s:Shared}{e C:Addr}{c:Value}{b:Bool}{Q:VK}(I:Inv X pins σ H s)(he:H e=some (exo e C))(x:ExC X.K C)(k:W.kitOne X.K (.ref C) c=some b)(q:Q (.bl b) H):
  wpAny (model X.prog X.w) X.A (call (.builtin "isinstance") [.ref e,c]) (EP X pins σ Q) X.xe s:=by
 have p:ExcAt e C s.heap:=(I.hok e _ he).1
 exact Ajk (Aa7 x) I.kIn p k (λz=>nomatch z) λtk=>⟨.bl b,H,I.tok tk,rfl,q⟩
theorem pk:Jp X (.builtin "isinstance") (λxs H Q=>∃(e C:Addr)(d:V)(c:Value)(b:Bool),xs=[.ref e,d]/\H e=some (exo e C)/\ExC X.K C/\((∃D,d=.ref D/\c=.ref D)∨∃T,d=.ty T/\c=.type T)/\W.kitOne X.K (.ref C) c=some b/\Q (.bl b) H):=by
 intro pins s σ H xs us Q I r h
 obtain⟨e,C,d,c,b,rfl,he,x,hc,k,q⟩:=h
 obtain⟨u,v,rfl,ru,rv⟩:=r.two
 cases ru
 rcases hc with⟨D,rfl,rfl⟩|⟨T,rfl,rfl⟩
 · cases rv;exact qy I he x k q
 · cases rv;exact qy I he x k q
end
theorem Room.mark {cm:Bool}{k:Nat}{A:Around}(r:Room cm k A)(v:Option Value):Room false k (A.mark v):=⟨(λz=>nomatch z),r.dp,r.un⟩
section
variable {X:Cx}{pins pins':List (Addr×Obj)}{σ:St}{H H':Hp}{s:Shared}{h h2 B:Heap}{ea C:Addr}
theorem Inv.landedX (I:Inv X pins σ H s){s':Shared}(os:s'.os=s.os)(bare:AllBare s'.gens)(u:Un (frs X.stack) [] H H' s.heap s'.heap)(ok:HOk X.prog X.w H' s'.heap)
  (oldB:∀b o,s.heap.get? b=some o->H b=none->b∉frs X.stack->B.get? b=some o) (thB:∀b o,s.heap.get? b=some o->b∉frs X.stack->∃o',B.get? b=some o')
  (trB:∀b u o,H' b=some u->s'.heap.get? b=some o->B.get? b=some o) (st:B.StaysIn h2) (up:s'.heap.UpToSlots h2) (n1:H' ea=none) (n2:s.heap.get? ea=none) (at2:ExcAt ea C h2):
  Inv X pins σ (upd H' ea (exo ea C)) {s' with heap:=h2}:=by
 have sl:∀b o,s.heap.get? b=some o->H b=none->b∈frs X.stack->∃sl,h2.get? b=some {o with slots:=sl}:=λb o e n hb=>by
  obtain⟨s2,e2⟩:=u.slot b o e n hb (by simp)
  obtain⟨_,o',e',nf⟩:=I.stack.mem hb
  rw[e] at e'
  cases e'
  obtain⟨s3,e3⟩:=up b _ e2 nf
  exact⟨s3,e3⟩
 have ne1:∀b o,s.heap.get? b=some o->b≠ea:=λb o e z=>by rw[z,n2] at e;cases e
 have ne2:∀b o,H b=some o->b≠ea:=λb o e=>by
  obtain⟨o',e'⟩:=I.hok.there e
  exact ne1 b o' e'
 have ne3:∀b o,H' b=some o->b≠ea:=λb o e z=>by rw[z,n1] at e;cases e
 have ok2:HOk X.prog X.w H' h2:=ok.tracked λb v o e q=>st b o (trB b v o e q)
 have ok3:HOk X.prog X.w (upd H' ea (exo ea C)) h2:=λb o e=>by
  by_cases hb:b=ea
  ·
   subst hb
   rw[Ac] at e
   cases e
   obtain⟨ob,e1,e2⟩:=id at2
   exact⟨at2,⟨ob,e1⟩,λa1 a2 p k=>by obtain⟨o1,q1,q2⟩:=p;exact⟨o1,k o1 q1,q2⟩⟩
  ·
   rw[Ak hb] at e
   exact(ok2 b o e).stay (λc w _ q=>q) (λc q=>by rw[Ak (ne3 c _ q)];exact q) λc xs q=>by rw[Ak (ne3 c _ q)];exact q
 refine I.call' (s':={s' with heap:=h2}) (ch:=[]) os ⟨λb o e n hb _=>st b o (oldB b o e n hb),λb o e n hb _=>sl b o e n hb,λb o e n hb=>by rw[Ak (ne1 b o e)];exact u.free b o e n hb,λb o e _=>?_,λb xs e=>by rw[Ak (ne2 b _ e)];exact u.tups b xs e,
  λb o v e=>by rw[Ak (ne2 b _ e)];exact u.frzs b o v e,λb ps e=>by rw[Ak (ne2 b _ e)];exact u.tbls b ps e⟩ ok3 bare (λb z=>nomatch z)
 by_cases hb:b∈frs X.stack
 ·
  obtain⟨s1,e1⟩:=sl b o e (I.stkFree b hb) hb
  exact⟨_,e1⟩
 ·
  obtain⟨o',e'⟩:=thB b o e hb
  exact⟨o',st b o' e'⟩
theorem Zg {M:Model}{A:Around}{E:Value->Shared->Prop}{i:Nat}{x:Str}{pos:Pos}{Q:Unit->Shared->Prop}(I:Inv X pins σ H s)(hN:X.N.Nodup)(hi:X.N[i]?=some x)(hk:X.env.kindOf x=some .local)
  (h:∀s',Inv X pins (σ.set i none) H s'->Q () s'):wpAny M A (do bindName X.env x .none;unbindBehindTheSuite X.env x pos) Q E s:=by
 obtain⟨m,hn,hl⟩:=id I.loc
 have hcls:(X.env.scope.kind== .class||(X.env.scope.kind== .module&&X.env.locals != X.env.globals))=false:=by rw[I.ok.kind];rfl
 refine wpAny_nameGoes_keeps hk hn hcls λh' v hn' hs=>?_
 have cne:=I.cne
 have lne:∀b o,X.s₀.heap.get? b=some o->b≠X.env.locals:=λb o e=>Agv (Ag4 (Agk e) I.ok.above)
 have tne:∀b o,H b=some o->b≠X.env.locals:=λb o e z=>by rw[z,I.free] at e;cases e
 refine h _ ⟨I.ok,I.os,I.bare,⟨λb o e n hb hx=>(hs.2 b (lne b o e)).trans (I.base.keep b o e n hb hx),λb o e n hb hx=>?_,I.base.free,λb o e hx=>?_,I.base.tups,I.base.frzs,I.base.tbls⟩,
  ⟨_,hn',λj y v' e1 e2 e3=>?_⟩,λy c e=>?_,I.free,I.freeC,λp hp=>?_,λb ob e=>?_,by simpa using I.len⟩
 ·
  obtain⟨sl,e1⟩:=I.base.slot b o e n hb hx
  exact⟨sl,(hs.2 b (lne b o e)).trans e1⟩
 ·
  obtain⟨o',e1⟩:=I.base.there b o e hx
  exact⟨o',(hs.2 b (lne b o e)).trans e1⟩
 ·
  by_cases hj:j=i
  ·
   subst hj
   have hiσ:j<σ.length:=by rw[I.len];exact(Agl.mp hi).1
   rw[Ak4 hiσ] at e2
   cases e2
  ·
   rw[Ale (Aj3 hj)] at e2
   obtain⟨u',r',q⟩:=hl j y v' e1 e2 e3
   refine⟨u',r',?_⟩
   rcases q with⟨k,e⟩|⟨k,c,e,z⟩
   ·
    have ny:y≠x:=λe=>hj (X6 hN e1 (e▸hi))
    exact .inl ⟨k,by show(if y=x then v else m y)=some u';rw[if_neg ny];exact e⟩
   · exact .inr ⟨k,c,e,z.sameBut hs (cne y c e)⟩
 ·
  obtain⟨w',z⟩:=I.cell y c e
  exact⟨w',z.sameBut hs (cne y c e)⟩
 ·
  obtain⟨e,n,ne,nf,d⟩:=I.pin p hp
  exact⟨(hs.2 p.1 ne).trans e,n,ne,nf,d⟩
 ·
  refine(I.hok b ob e).stay (λc w' hc q=>(hs.2 c ?_).trans q) (λ_ q=>q) λ_ _ q=>q
  rcases hc with rfl|hc
  · exact tne _ _ e
  · exact tne _ _ hc
end
def Adh (K:W.Frag)(Cc:Addr)(i:Nat)(tb:(St->XK)->TS)(th:Value->TS):TS:=λD σ H=>
 tb (λσ' cls _ H'=>∃C,cls=.ref C/\W.mroIn K C (.ref Cc)=some true/\∀e,H' e=none->th (.ref e) {nx:=λσ2 H2=>D.nx (σ2.set i none) H2,rt:=λσ2=>D.rt (σ2.set i none),bk:=λσ2 H2=>D.bk (σ2.set i none) H2,ct:=λσ2 H2=>D.ct (σ2.set i none) H2}
  (σ'.set i (some (.ref e))) (upd H' e (exo e C))) D σ H
theorem wc {X:Cx}{i:Nat}{x n:Str}{Cc:Addr}{np hpos pos:Pos}{body suite:List Stmt}{b0:Stmt}{tb:(St->XK)->TS}{th:Value->TS}(hg:Gl X x)(hm:X.mg x=some (.ref Cc))(ct:Catch X.K Cc)(hN:X.N.Nodup)(hi:X.N[i]?=some n)(hk:X.env.kindOf n=some .local)(hl:X.env.scope.names.lookup n=some .local)
  (hb:∀(pins:List (Addr×Obj))(Eb:Value->Shared->Prop)(E:St->XK),(∀σ,Zw (CXe X.prog X.w) (X.tryx pins Eb) σ (E σ))->PSs (X.tryx pins Eb) body (tb E))
  (hh:∀e:Value,PSs (X.hnd e) (b0::suite) (th e)) (hst:X.stack=X.env::X.outer:=by rfl) (hf:X.env.frame=some X.env.locals:=by rfl) (hd:(x==("__debug__":Str))=false:=by decide):
  PS X (.Try body [.ExceptHandler (some (.Name x np)) (some n) (b0::suite) hpos] [] [] pos) (Adh X.K Cc i tb th):=by
 intro pins s σ H D I h
 refine wpAny_Try_except ?_
 have pass:∀σ',Zw (CXe X.prog X.w) (X.tryx pins λe s₁=>wpAny (model X.prog X.w) X.A (noteFrame e X.env) (λ_ s₂=>wpAny (model X.prog X.w) X.A (setFlight e none) (λ_ s₃=>
   wpAny (model X.prog X.w) X.A (handleBy e X.env [.ExceptHandler (some (.Name x np)) (some n) (b0::suite) hpos]) (SP X pins D) X.xe s₃) X.xe s₂) X.xe s₁) σ' (λcls _ H'=>∃C,cls=.ref C/\W.mroIn X.K C (.ref Cc)=some true/\
    ∀e,H' e=none->th (.ref e) {nx:=λσ2 H2=>D.nx (σ2.set i none) H2,rt:=λσ2=>D.rt (σ2.set i none),bk:=λσ2 H2=>D.bk (σ2.set i none) H2,ct:=λσ2 H2=>D.ct (σ2.set i none) H2} (σ'.set i (some (.ref e))) (upd H' e (exo e C))):=by
  intro σ' pins' H1 s1 ev s2 I1 c
  obtain⟨ea,t,C,H',B,rfl,os,bare,u,ok,fl,oldB,thB,trB,n1,n2,C',eC,ms,q⟩:=c
  cases eC
  have J1:Inv X pins σ' H1 s1:=I1.untryx I.ok
  have hfr:X.A.frames=some (X.env::X.outer):=by rw[←hst];exact I.ok.frames
  have fl':Heap.FlyingW B (X.env::X.outer) ea (.ref C) (.ref t) s2.heap:=by rw[←hst];exact fl
  refine wpAny_looks_onW (s:=s2) hfr hf fl' λh4 held up4=>?_
  refine wpAny_landsW (s:={s2 with heap:=h4}) held λh5 fl5 up5=>?_
  have J5:Inv X pins σ' H' {s2 with heap:=h5}:=J1.landed os bare u ok oldB thB trB fl5.1 (up4.trans up5)
  obtain⟨ob,hob,hobc⟩:=fl5.there
  refine wpAny_handleBy_cons (codeAny_handlers_test (Tb (X:=X.hnd (.ref ea)) (J5.hnd (.ref ea)) hg hm ?_ hd)) (by intro z;cases z)
  refine Yb J5.kIn hob hobc ct ms (codeAny_handlers_suite_as ?_)
  refine lands_againW (s:={s2 with heap:=h5}) fl5 λh6 fl6 up6=>?_
  have J6:Inv X pins σ' (upd H' ea (exo ea C)) {s2 with heap:=h6}:=J1.landedX os bare u ok oldB thB trB fl6.1 ((up4.trans up5).trans up6) n1 n2 (by obtain⟨o6,a6,b6⟩:=fl6.there;exact⟨o6,a6,b6⟩)
  refine X5 (X:=X.hnd (.ref ea)) (J6.hnd (.ref ea)) hN hi (.inl hl) (show RelV (.ref ea) (.ref ea) from rfl) (λs7 I7=>?_) (.inr hl)
  refine Aid (hh (.ref ea) pins s7 _ _ _ I7 (q ea n1)) (λf s8 z=>?_) λ_ _ z=>z.elim
  cases f with
  | next=>obtain⟨σ8,H8,I8,q8⟩:=z;exact Zg (I8.unhnd I.ok) hN hi hk λs9 I9=>⟨_,H8,I9,q8⟩
  | brk=>obtain⟨σ8,H8,I8,q8⟩:=z;exact Zg (I8.unhnd I.ok) hN hi hk λs9 I9=>⟨_,H8,I9,q8⟩
  | cont=>obtain⟨σ8,H8,I8,q8⟩:=z;exact Zg (I8.unhnd I.ok) hN hi hk λs9 I9=>⟨_,H8,I9,q8⟩
  | ret v=>obtain⟨v8,σ8,H8,I8,r8,q8⟩:=z;exact Zg (I8.unhnd I.ok) hN hi hk λs9 I9=>⟨v8,_,H8,I9,r8,q8⟩
 refine Aid (hb pins _ _ pass [] s σ H D (I.tryx _) h) (λf s7 z=>?_) λ_ _ z=>z
 cases f with
 | next=>obtain⟨σ7,H7,I7,q7⟩:=z;exact Ako ⟨σ7,H7,I7.untryx I.ok,q7⟩
 | brk=>obtain⟨σ7,H7,I7,q7⟩:=z;exact⟨σ7,H7,I7.untryx I.ok,q7⟩
 | cont=>obtain⟨σ7,H7,I7,q7⟩:=z;exact⟨σ7,H7,I7.untryx I.ok,q7⟩
 | ret v=>obtain⟨v7,σ7,H7,I7,r7,q7⟩:=z;exact⟨v7,σ7,H7,I7.untryx I.ok,r7,q7⟩
end L2
namespace L2
open PySem PySem.Spec PyProof.Rows
theorem jt {K:W.Frag}{C:Addr}{v:Value}(h:W.mroIn K C v=some true):(W.clsIn K C).isSome=true:=by
 obtain⟨cd,a,_⟩:=Akx.mp h
 rw[a]
 rfl
section
variable {X:Cx}{K:W.Frag}(hK:X.K=K)
include hK
theorem Ff:IxR X (Ae0 K):=by subst hK;exact Abr
theorem Kg:IxR X (Ae9 K):=by subst hK;exact Aar
theorem xt:SlR X (Aez K):=by subst hK;exact Abi
theorem X8:OpR X (compareOp .NotIn) (rIn K true):=by subst hK;exact cb
theorem F0:Jp X (.builtin "len") (λxs H Q=>∃p ys,xs=[.ref p]/\(SqL K H p ys∨SqT K H p ys)/\Q (.int ys.length) H):=by subst hK;exact bb
theorem Ri:Jp X (.type "list") (λxs H Q=>∃p ys,xs=[.ref p]/\(SqL K H p ys∨SqT K H p ys)/\∀l,H l=none->Q (.ref l) (upd H l (.lst ys))):=by subst hK;exact c9
theorem El:Jp X (.type "tuple") (λxs H Q=>∃p ys,xs=[.ref p]/\((SqL K H p ys/\∀l,H l=none->Q (.ref l) (upd H l (.tup ys)))∨(SqT K H p ys/\Q (.ref p) H))):=by subst hK;exact X9
theorem Bj:Jp X (.builtin "isinstance") (λxs H Q=>∃(e C:Addr)(d:V)(c:Value)(b:Bool),xs=[.ref e,d]/\H e=some (exo e C)/\ExC K C/\((∃D,d=.ref D/\c=.ref D)∨∃T,d=.ty T/\c=.type T)/\W.kitOne K (.ref C) c=some b/\Q (.bl b) H):=by
 subst hK;exact pk
theorem t8 (hc:X.calm=true):Jp X (.builtin "all") (λxs H Q=>∃(p:Addr)(bs:List Bool),xs=[.ref p]/\SqL K H p (bs.map V.bl)/\Q (.bl (bs.all id)) H):=by subst hK;exact x6 hc
theorem Pr {tg l:Expr}{tl:TE}(hl:PE X l tl):PI X tg l (Acu K tl):=by subst hK;exact Aa0 hl
theorem Qr {tg l:Expr}{tl:TE}(hl:PE X l tl):PI X tg l (Afa K tl):=by subst hK;exact Ab3 hl
end
end L2
set_option maxHeartbeats 0
namespace L2
open PySem PySem.W PyProof.Rows
section
variable {O:KeyOrd}{key:Nat->O.α}{n:Nat}{cmp:Nat->Nat->(Bool->Shared->Prop)->Shared->Prop}{s:Shared}
def ka {O:KeyOrd}(key:Nat->O.α)(p:Array Nat)(i:Nat):O.α:=key (p.getD i 0)
def Up {O:KeyOrd}(key:Nat->O.α)(p:Array Nat)(k:Nat):Prop:=∀i j,i<=j->j<k->O.kle (ka key p i) (ka key p j)
def Down {O:KeyOrd}(key:Nat->O.α)(p:Array Nat)(k:Nat):Prop:=∀i j,i<=j->j<k->O.kle (ka key p j) (ka key p i)
def Rg (n:Nat)(p:Array Nat):Prop:=p.Perm (List.toArray (List.range n))
def vx {O:KeyOrd}(key:Nat->O.α)(n:Nat)(cmp:Nat->Nat->(Bool->Shared->Prop)->Shared->Prop)(s:Shared):Prop:=∀i j C,i<n->j<n->C (O.blt (key i) (key j)) s->cmp i j C s
theorem Rg.size {p:Array Nat}(h:Rg n p):p.size=n:=by rw[Array.Perm.size_eq h];simp
theorem Rg.at {p:Array Nat}(h:Rg n p){i:Nat}(hi:i<n):p.getD i 0<n:=by
 have hz:=h.size
 have e:p.getD i 0=p[i]'(by lia):=by simp[Array.getD,show i<p.size by lia]
 have hm:p[i]'(by lia)∈p.toList:=by simp
 have:=(Array.perm_iff_toList_perm.mp h).mem_iff.mp hm
 simp at this
 lia
theorem Qz {p q:Array Nat}{i j:Nat}(h:p[i]?=q[j]?):ka key p i=ka key q j:=by
 unfold ka
 rw[Agu,Agu,h]
theorem so {p:Array Nat}{i j:Nat}(hj:j<=p.size)(k:Nat):ka key (kas_rev p i j) k=if i<=k/\k<j then ka key p (i+j-1-k) else ka key p k:=by
 have e:=getElem?_mirror_all (xs:=p) (i:=i) hj k
 by_cases h:i<=k/\k<j
 · rw[if_pos h] at e ⊢;exact Qz e
 · rw[if_neg h] at e ⊢;exact Qz e
theorem Vf {p:Array Nat}{i j:Nat}(hj:j<=p.size)(heq:∀k,i<=k->k<j->ka key p k=ka key p (j-1))(k:Nat):ka key (kas_rev p i j) k=ka key p k:=by
 rw[so hj]
 split
 · rw[heq _ (by lia) (by lia),heq k (by lia) (by lia)]
 · rfl
theorem Rg.rev {p:Array Nat}(h:Rg n p)(i j:Nat):Rg n (kas_rev p i j):=(mirror_perm p i j _).trans h
theorem Rg.bub {p:Array Nat}(h:Rg n p)(k d:Nat):Rg n (bubble p k d):=(bubble_perm p k d).trans h
theorem Up.more {p:Array Nat}{k:Nat}(h:Up key p k)(hk:O.blt (ka key p k) (ka key p (k-1))=false):Up key p (k+1):=by
 intro i j hij hj
 by_cases hjk:j<k
 · exact h i j hij hjk
 ·
  obtain rfl:j=k:=by lia
  by_cases hi:i=j
  · rw[hi];exact Ai5 _
  · exact Al5 (h i (j-1) (by lia) (by lia)) hk
theorem Down.more {p q:Array Nat}{k:Nat}(h:Down key p k)(e:∀i,ka key q i=ka key p i)(hk:O.kle (ka key p k) (ka key p (k-1))):Down key q (k+1):=by
 intro i j hij hj
 rw[e,e]
 by_cases hjk:j<k
 · exact h i j hij hjk
 ·
  obtain rfl:j=k:=by lia
  by_cases hi:i=j
  · rw[hi];exact Ai5 _
  · exact Al5 hk (h i (j-1) (by lia) (by lia))
theorem uy {p:Array Nat}(hc:vx key n cmp s)(hp:Rg n p){Q:Nat->Shared->Prop}:∀(f a:Nat),1<=a->a+f<=n->Up key p a->
  (∀m,a<=m->m<=a+f->Up key p m->(m=a+f∨O.klt (ka key p m) (ka key p (m-1)))->Q m s)->(kas_asc p f a).kasWp cmp Q s
 | 0,a,_,_,hu,h=>h a (Agi _) (Agi _) hu (.inl rfl)
 |
  f+1,a,h1,hz,hu,h=>by
  refine hc _ _ _ (hp.at (by lia)) (hp.at (by lia)) ?_
  show(if O.blt (ka key p a) (ka key p (a-1))=true then KasT.ret a else kas_asc p f (a+1)).kasWp cmp Q s
  cases e:O.blt (ka key p a) (ka key p (a-1)) with
  | true=>exact h a (Agi _) (by lia) hu (.inr e)
  | false=>exact uy hc hp f (a+1) (by lia) (by lia) (hu.more e) λm m1 m2 m3 m4=>h m (by lia) (by lia) m3 (m4.imp_left λz=>by lia)
def Eqs {O:KeyOrd}(key:Nat->O.α)(p:Array Nat)(m q:Nat):Prop:=q+1<=m/\∀i,m-(q+1)<=i->i<m->ka key p i=ka key p (m-1)
theorem Eqs.zero {p:Array Nat}{m:Nat}(h:1<=m):Eqs key p m 0:=⟨by lia,λi h1 h2=>by rw[show i=m-1 by lia]⟩
theorem Zu (hc:vx key n cmp s){Q:Array Nat×Nat×Nat->Shared->Prop}:∀(f:Nat)(p:Array Nat)(a q:Nat),Rg n p->1<=a->a+f<=n->Down key p a->Eqs key p a q->
  (∀p' m q',Rg n p'->a<=m->m<=a+f->Down key p' m->Eqs key p' m q'->Q (p',m,q') s)->(kas_desc f p a q).kasWp cmp Q s
 | 0,p,a,q,hp,_,_,hd,he,h=>h p a q hp (Agi _) (Agi _) hd he
 |
  f+1,p,a,q,hp,h1,hz,hd,he,h=>by
  refine hc _ _ _ (hp.at (by lia)) (hp.at (by lia)) ?_
  show(if O.blt (ka key p a) (ka key p (a-1))=true then(if q>0 then kas_desc f (kas_rev p (a-(q+1)) a) (a+1) 0 else kas_desc f p (a+1) 0)
   else KasT.ask (p.getD (a-1) 0) (p.getD a 0) λd=>if d=true then KasT.ret (p,a,q) else kas_desc f p (a+1) (q+1)).kasWp cmp Q s
  have hs:=hp.size
  cases e:O.blt (ka key p a) (ka key p (a-1)) with
  |
   true=>
   rw[if_pos rfl]
   by_cases hq:q>0
   ·
    rw[if_pos hq]
    exact Zu hc f _ (a+1) 0 (hp.rev _ _) (by lia) (by lia) (hd.more (Vf (by lia) he.2) (Akm e)) (.zero (by lia)) λp' m q' r1 r2 r3 r4 r5=>h p' m q' r1 (by lia) (by lia) r4 r5
   ·
    rw[if_neg hq]
    exact Zu hc f _ (a+1) 0 hp (by lia) (by lia) (hd.more (λ_=>rfl) (Akm e)) (.zero (by lia)) λp' m q' r1 r2 r3 r4 r5=>h p' m q' r1 (by lia) (by lia) r4 r5
  |
   false=>
   rw[if_neg (by simp)]
   refine hc _ _ _ (hp.at (by lia)) (hp.at (by lia)) ?_
   show(if O.blt (ka key p (a-1)) (ka key p a)=true then KasT.ret (p,a,q) else kas_desc f p (a+1) (q+1)).kasWp cmp Q s
   cases e2:O.blt (ka key p (a-1)) (ka key p a) with
   | true=>exact h p a q hp (Agi _) (by lia) hd he
   |
    false=>
    rw[if_neg (by simp)]
    have eq:ka key p a=ka key p (a-1):=KeyOrd.kle_antisymm e2 e
    refine Zu hc f _ (a+1) (q+1) hp (by lia) (by lia) (hd.more (λ_=>rfl) (by rw[eq];exact Ai5 _)) ⟨by have:=he.1;lia,λi i1 i2=>?_⟩ λp' m q' r1 r2 r3 r4 r5=>h p' m q' r1 (by lia) (by lia) r4 r5
    rw[show a+1-1=a by lia]
    by_cases hi:i=a
    · rw[hi]
    · rw[eq];exact he.2 i (by lia) (by lia)
theorem u9 (hc:vx key n cmp s){Q:Nat×Array Nat->Shared->Prop}{p:Array Nat}{a:Nat}(hp:Rg n p)(h1:1<=a)(hz:a<=n)(hd:Down key p a)
  (h:∀m p',Rg n p'->1<=m->m<=n->Up key p' m->Q (m,p') s):(kas_tail3 a n p).kasWp cmp Q s:=by
 unfold kas_tail3
 rw[KasT.kasWp_bind]
 have hs:=hp.size
 refine uy hc (hp.rev 0 a) (n-a) a h1 (by lia) (λi j hij hj=>?_) λm m1 m2 m3 _=>h m _ (hp.rev 0 a) (by lia) (by lia) m3
 rw[so (by lia),so (by lia),if_pos (by lia),if_pos (by lia)]
 exact hd _ _ (by lia) (by lia)
theorem V0 (hc:vx key n cmp s){Q:Nat×Array Nat->Shared->Prop}{p:Array Nat}{a:Nat}(hp:Rg n p)(hz:a+1<=n)(hd:Down key p (a+1))
  (h:∀m p',Rg n p'->1<=m->m<=n->Up key p' m->Q (m,p') s):(kas_descPart a n p).kasWp cmp Q s:=by
 unfold kas_descPart
 rw[KasT.kasWp_bind]
 refine Zu hc _ p (a+1) 0 hp (by lia) (by lia) hd (.zero (by lia)) λp' m q r1 r2 r3 r4 r5=>?_
 have hs:=r1.size
 show(if q>0 then kas_tail3 m n (kas_rev p' (m-(q+1)) m) else kas_tail3 m n p').kasWp cmp Q s
 by_cases hq:q>0
 ·
  rw[if_pos hq]
  refine u9 hc (r1.rev _ _) (by lia) (by lia) (λi j hij hj=>?_) h
  rw[Vf (by lia) r5.2,Vf (by lia) r5.2]
  exact r4 i j hij hj
 ·
  rw[if_neg hq]
  exact u9 hc r1 (by lia) (by lia) r4 h
theorem wm (hc:vx key n cmp s){Q:Nat×Array Nat->Shared->Prop}{p:Array Nat}(hp:Rg n p)(h1:1<=n)(h:∀m p',Rg n p'->1<=m->m<=n->Up key p' m->Q (m,p') s):(kas_count n p).kasWp cmp Q s:=by
 unfold kas_count
 rw[KasT.kasWp_bind]
 have hs:=hp.size
 refine uy hc hp (n-1) 1 (Agi _) (by lia) (λi j hij hj=>by rw[show i=j by lia];exact Ai5 _) λm m1 m2 m3 m4=>?_
 by_cases hmn:m=n
 ·
  rw[if_pos (by simpa using hmn)]
  exact h m p hp (by lia) (by lia) m3
 ·
  rw[if_neg (by simpa using hmn)]
  have hlt:O.klt (ka key p m) (ka key p (m-1)):=m4.resolve_left (by lia)
  by_cases hg:m>1
  ·
   rw[if_pos hg]
   refine hc _ _ _ (hp.at (by lia)) (hp.at (by lia)) ?_
   show(if O.blt (ka key p 0) (ka key p (m-1))=true then KasT.ret (m,p) else kas_descPart m n (kas_rev p 0 m)).kasWp cmp Q s
   cases e:O.blt (ka key p 0) (ka key p (m-1)) with
   | true=>exact h m p hp (by lia) (by lia) m3
   |
    false=>
    rw[if_neg (by simp)]
    have hall:∀k,0<=k->k<m->ka key p k=ka key p (m-1):=λk _ hk=>KeyOrd.kle_antisymm (m3 k (m-1) (by lia) (by lia)) (Al5 e (m3 0 k (by lia) hk))
    refine V0 hc (hp.rev _ _) (by lia) (λi j hij hj=>?_) h
    rw[Vf (by lia) hall,Vf (by lia) hall]
    by_cases hjm:j<m
    · rw[hall i (by lia) (by lia),hall j (by lia) hjm];exact Ai5 _
    ·
     obtain rfl:j=m:=by lia
     by_cases hi:i=j
     · rw[hi];exact Ai5 _
     · rw[hall i (by lia) (by lia)];exact Akm hlt
  ·
   rw[if_neg hg]
   obtain rfl:m=1:=by lia
   refine V0 hc hp (by lia) (λi j hij hj=>?_) h
   by_cases hi:i=j
   · rw[hi];exact Ai5 _
   ·
    obtain rfl:i=0:=by lia
    obtain rfl:j=1:=by lia
    exact Akm hlt
theorem Zb {p:Array Nat}{k:Nat}(hc:vx key n cmp s)(hp:Rg n p)(hk:k<n)(hu:Up key p k){Q:Nat->Shared->Prop}
  (h:∀l,l<=k->(∀i,i<l->O.kle (ka key p i) (ka key p k))->(∀i,l<=i->i<k->O.klt (ka key p k) (ka key p i))->Q l s):∀(f l r:Nat),l<=r->r<=k->r-l<=f->
  (∀i,i<l->O.kle (ka key p i) (ka key p k))->(∀i,r<=i->i<k->O.klt (ka key p k) (ka key p i))->(kas_place p k f l r).kasWp cmp Q s
 | 0,l,r,hlr,hrk,hf,lo,hi=>h l (by lia) lo (by rw[show l=r by lia];exact hi)
 |
  f+1,l,r,hlr,hrk,hf,lo,hi=>by
  unfold kas_place
  by_cases hg:l≥r
  ·
   rw[if_pos hg]
   exact h l (by lia) lo (by rw[show l=r by lia];exact hi)
  ·
   rw[if_neg hg]
   refine hc _ _ _ (hp.at hk) (hp.at (by lia)) ?_
   show(if O.blt (ka key p k) (ka key p ((l+r)/2))=true then kas_place p k f l ((l+r)/2) else kas_place p k f ((l+r)/2+1) r).kasWp cmp Q s
   cases e:O.blt (ka key p k) (ka key p ((l+r)/2)) with
   |
    true=>
    rw[if_pos rfl]
    exact Zb hc hp hk hu h f l _ (by lia) (by lia) (by lia) lo λi i1 i2=>KeyOrd.klt_of_klt_of_kle e (hu _ _ i1 i2)
   |
    false=>
    rw[if_neg (by simp)]
    exact Zb hc hp hk hu h f _ r (by lia) (by lia) (by lia) (λi i1=>Al5 (hu i ((l+r)/2) (by lia) (by lia)) e) hi
theorem yy {p:Array Nat}{k d:Nat}(hk:k<p.size)(hd:d<=k)(i:Nat):ka key (bubble p k d) i=if i=k-d then ka key p k else if k-d<i/\i<=k then ka key p (i-1) else ka key p i:=by
 have e:=getElem?_bubble (xs:=p) hk d hd i
 by_cases h1:i=k-d
 · rw[if_pos h1] at e ⊢;exact Qz e
 ·
  rw[if_neg h1] at e ⊢
  by_cases h2:k-d<i/\i<=k
  · rw[if_pos h2] at e ⊢;exact Qz e
  · rw[if_neg h2] at e ⊢;exact Qz e
theorem yr (hc:vx key n cmp s){Q:Array Nat->Shared->Prop}(h:∀p',Rg n p'->Up key p' n->Q p' s):∀(f:Nat)(p:Array Nat)(k:Nat),Rg n p->k+f=n->Up key p k->(kas_bin f p k).kasWp cmp Q s
 | 0,p,k,hp,hk,hu=>h p hp (by rw[←hk];exact hu)
 |
  f+1,p,k,hp,hk,hu=>by
  unfold kas_bin
  rw[KasT.kasWp_bind]
  have hs:=hp.size
  refine Zb hc hp (by lia) hu (λl hl lo hi=>?_) k 0 k (Ahn _) (Agi _) (by lia) (λi hi=>absurd hi (Aho _)) (λi h1 h2=>by lia)
  refine yr hc h f _ (k+1) (hp.bub _ _) (by lia) λi j hij hj=>?_
  rw[yy (by lia) (by lia),yy (by lia) (by lia),show k-(k-l)=l by lia]
  repeat' split
  all_goals first
   | (exfalso;lia)
   | exact Ai5 _
   | exact lo _ (by lia)
   | exact Akm (hi _ (by lia) (by lia))
   | exact hu _ _ (by lia) (by lia)
theorem Aah (hc:vx key n cmp s)(h1:1<=n){Q:Array Nat->Shared->Prop}(h:∀p,Rg n p->Up key p n->Q p s):(kas_sort n).kasWp cmp Q s:=by
 unfold kas_sort
 rw[KasT.kasWp_bind]
 refine wm hc (Array.Perm.refl _) h1 λm p hp h1 h2 hu=>?_
 show(if m<n then kas_bin (n-max m 1) p (max m 1) else KasT.ret p).kasWp cmp Q s
 rw[show max m 1=m by lia]
 by_cases hm:m<n
 ·
  rw[if_pos hm]
  exact yr hc h _ p m hp (by lia) hu
 ·
  rw[if_neg hm]
  exact h p hp (by rw[show n=m by lia];exact hu)
end
abbrev RA:=Addr×(Int×Int)
def refs (rs:List RA):List V:=rs.map λx=>V.ref x.1
def RowOk (H:Hp)(rs:List RA):Prop:=∀x∈rs,H x.1=some (.tup [.int x.2.1,.int x.2.2])
section
variable {prog:Program}{w:World}{A:Around}{E:Value->Shared->Prop}{s:Shared}{rs:List RA}
end
end L2
namespace L2
open PySem PySem.Spec PyProof.Rows PySem.SeqAt
def sps (rs:List RA):List (Int×Int):=rs.map (·.2)
theorem hu2 {cm:Bool}{k:Nat}{A:Around}(hr:Room cm k A):A.units+2<cLine:=Ag2 (Akc (by decide:2<=64) _) hr.units
theorem xg {rs:List RA}{i:Nat}{x:V}(h:(refs rs)[i]?=some x):∃y,rs[i]?=some y/\y∈rs/\x=.ref y.1:=by
 unfold refs at h
 rw[Agz] at h
 obtain⟨y,e,rfl⟩:=Ahc.mp h
 exact⟨y,e,Ah8 e,rfl⟩
theorem RowOk.up {H H':Hp}{rs:List RA}(h:RowOk H rs)(s:Same H H'):RowOk H' rs:=λx hx=>s _ _ (h x hx)
theorem RowOk.nil {H:Hp}:RowOk H []:=λ_ h=>nomatch h
theorem Zx (rs:List RA):(refs rs).length=rs.length:=Agd ..
theorem Sf (rs:List RA):(sps rs).length=rs.length:=Agd ..
section
variable {X:Cx}
end
def SameX (F:Addr)(H H':Hp):Prop:=∀b o,b≠F->H b=some o->H' b=some o
theorem SameX.refl (F:Addr)(H:Hp):SameX F H H:=λ_ _ _ e=>e
theorem SameX.put {F t:Addr}{H H':Hp}{o:HO}{xs:List V}(x:SameX F H H')(ht:H' t=none):SameX F H (upd (upd H' t o) F (.lst xs)):=λb u hb e=>by
 rw[Ak hb]
 exact Ah ht _ _ (x b u hb e)
section
variable {X:Cx}
end
end L2
namespace L2
open PySem PySem.Spec PySem.Calls PyProof.Rows Builtin Builtin.Str
section
variable {X:Cx}
end
end L2
namespace L2
open PySem PySem.Spec PySem.Calls PyProof.Rows
section
variable {X:Cx}{m:Str}{apos pos:Pos}{o e:Expr}{es:List Expr}{ta:TE}{t:TA}
structure Ans (X:Cx)(m:Str)(n:Nat)(C:Addr)(R:V->List V->Hp->VK->Prop):Prop where
 cls:Cls X.K C
 run:∃(f:Addr)(fd:FuncData)(ps:List Str)(ds:List Value)(dvs:List V)(CX:CXT)(cm:Bool)(k:Nat)(sp:Sp)(E:XK),Meth X.K C m f/\FnOk X.prog X.w X.K X.mg X.base CX cm k f fd ps sp/\Room cm k X.A/\Binds X.K fd ps ds/\Vals dvs ds/\Passes CX X E/\
  ∀x vs H Q,vs.length=n->R x vs H Q->sp (x::(vs++dvs)) H Q E
def Ac8 (m:Str)(n:Nat)(D:Addr->(V->List V->Hp->VK->Prop)->Prop)(ta:TE)(t:TA):TE:=λσ H Q=>ta σ H λx H1=>∃a C dx fs R,x=.ref a/\H1 a=some (.ins C dx fs)/\fs.lookup m=none/\D C R/\
 t σ H1 λvs H2=>vs.length=n/\R x vs H2 Q
theorem Bw {pl:Sem Bool}{n:Nat}{D:Addr->(V->List V->Hp->VK->Prop)->Prop}(he:PE X o ta)(hD:∀C R,D C R->Ans X m n C R)(ha:PA X (e::es) t)
  (hst:starEach (e::es) X.env=(false,eval e X.env)::starEach es X.env:=by rfl) (hpl:(backTo pos (starEach es X.env)).any (·.1)=false:=by rfl)
  (ht:eval (.Call (.Attribute o m apos) (e::es) [] pos) X.env=(do
   let ov ←eval o X.env
   standAt apos.atName
   let (f,first) ←holding [ov] (getMethod ov m pl)
   callWith pos f first (backTo pos (starEach (e::es) X.env)) (backToKw pos (keywordEach [] X.env))):=by rfl):
  PE X (.Call (.Attribute o m apos) (e::es) [] pos) (Ac8 m n D ta t):=by
 intro pins s σ H Q I h
 refine W.methodCall_KW (pl:=pl) (thn (he pins s σ H _ I h) λu s1 ⟨x,H1,I1,rx,a,C,dx,fs,R,ex,ea,l,d,q⟩=>?_) ht
 subst ex
 obtain rfl:u=Value.ref a:=rx
 obtain⟨c,f,fd,ps,ds,dvs,CX,cm,k,sp,E,hm,F,hr,hb,hd,hx,hR⟩:=hD C R d
 refine Sl I1 ea c hm l ?_
 refine W.callWith_K (first:=[.ref a]) (h₀:=X.base) I.ok.mod.kin hm.kp (thn (ha pos pins s1 σ H1 _ I1 q) λus s2 ⟨vs,H2,I2,r,hn,q2⟩=>⟨I2.kIn,?_⟩) hst hpl
 exact vm (us:=.ref a::us) (vs:=.ref a::vs) F hr hb hd hx I2 (.cons rfl r) (hR _ _ _ _ hn q2)
end
section
variable {X:Cx}{K:W.Frag}{o e value:Expr}{f:Str}{pos pos':Pos}{ta tv:TE}(hK:X.K=K)
include hK
theorem As (he:PE X e ta)(hb:attributeBase e f X.env (eval e X.env)=eval e X.env:=by rfl):PE X (.Attribute e f pos) (Afe K ta f):=by subst hK;exact Ac2 he hb
theorem Dn (ha:PE X o ta)(hv:PE X value tv)(hs:swapsWith value (some (.Attribute o f pos')) pos.line X.env=pure false:=by rfl):PS X (.Assign [.Attribute o f pos'] value pos) (Aev K ta tv f):=by subst hK;exact Ac1 ha hv hs
end
section
variable {X:Cx}{CX:CXT}{cm:Bool}{k:Nat}{f C:Addr}{fd:FuncData}{ps:List Str}{sp:Sp}{dvs:List V}{ds:List Value}{E:XK}{x m:Str}{p pos apos:Pos}{e:Expr}{es:List Expr}{t:TA}
end
end L2
namespace L2
open PySem PySem.Spec PyProof.Rows
theorem og {X:Cx}{K:W.Frag}{es:List Expr}{k:Nat}{t:TGs}{n:Nat}{pos:Pos}(hK:X.K=K)(hc:X.calm=true)(h:PGs X es t)
 (hn:(assignEach es X.env).length=n:=by rfl) (hst:(assignEach es X.env).findIdx? (·.1)=none:=by rfl):PG X (.Tuple es k pos) (Ad5 K n t):=by subst hK;exact Adm hc h hn hst
theorem d9 {K:W.Frag}{J:It}{cap:List (Option Nat)}{tt:TT}{te:TE}{σ:St}{H1:Hp}{Q:VK}{rs:List RA}(hJ:Seq J H1 (refs rs))(ok:RowOk H1 rs)(p:Int×Int->Bool)(f:Int×Int->V)(hsz:rs.length<=100000)
  (hp:∀y∈rs,∀H',Same H1 H'->∀R:Bool->Hp->Prop,(∀H'',Same H' H''->R (p y.2) H'')->tt (((Uk cap σ).set 0 (some (.int y.2.1))).set 1 (some (.int y.2.2))) H' R)
  (he:∀y∈rs,p y.2=true->∀H',Same H1 H'->∀R:VK,(∀H'',Same H' H''->R (f y.2) H'')->te (((Uk cap σ).set 0 (some (.int y.2.1))).set 1 (some (.int y.2.2))) H' R)
  (k:∀D H',Same H1 H'->H1 D=none->H' D=some (.lst (((sps rs).filter p).map f))->Q (.ref D) H'):
  Ro J H1 cap (Ad5 K 2 (Aak (dq 0) (Aak (dq 1) Aew))) tt te σ Q:=by
 intro D hD
 refine⟨λi m ys σ' H'=>m=rs.length-i/\i<=rs.length/\(∀v w,(σ'.set 0 v).set 1 w=((Uk cap σ).set 0 v).set 1 w)/\H' D=some (.lst ys)/\Same H1 H'/\ys=(((sps rs).take i).filter p).map f,
  ⟨rs.length,by simp,Ahn _,λ_ _=>rfl,Ac,Ah hD,by simp⟩,?_⟩
 rintro i m ys σ' H' ⟨rfl,hi,hσ,hl,sm,hys⟩
 refine⟨hl,?_⟩
 obtain⟨q1,q2⟩:=hJ H' sm
 by_cases hlt:i<rs.length
 ·
  have e:(refs rs)[i]?=some (.ref (rs[i]).1):=by unfold refs;simp[hlt]
  have es:(sps rs)[i]?=some (rs[i]).2:=by unfold sps;simp[hlt]
  obtain⟨go,y⟩:=q1 i _ e
  refine .inr ⟨go,λx H2 hy=>?_⟩
  obtain⟨rfl,rfl⟩:=y x H2 hy
  have hm:rs[i]∈rs:=Aia hlt
  have etake:(sps rs).take (i+1)=(sps rs).take i++[(rs[i]).2]:=by rw[Akr,es];rfl
  refine⟨(rs[i]).1,_,rfl,SqT.of (sm _ _ (ok _ hm)),rfl,_,_,rfl,_,_,rfl,rfl,?_⟩
  show tt ((σ'.set 0 (some (.int (rs[i]).2.1))).set 1 (some (.int (rs[i]).2.2))) _ _
  rw[hσ]
  refine hp _ hm _ sm _ λH4 s4=>?_
  have hss:∀v w,((((Uk cap σ).set 0 (some (.int (rs[i]).2.1))).set 1 (some (.int (rs[i]).2.2))).set 0 v).set 1 w=((Uk cap σ).set 0 v).set 1 w:=λv w=>by
   rw[List.set_comm _ _ (by decide:(1:Nat)≠0),Al3,Al3]
  cases hb:p (rs[i]).2 with
  |
   false=>
   refine M0 ⟨rs.length-(i+1),by lia,rfl,hlt,hss,s4 _ _ hl,sm.trans s4,?_⟩
   rw[etake,Ai1,hys]
   simp[hb]
  |
   true=>
   refine Nw ?_
   refine he _ hm hb _ (sm.trans s4) _ λH5 s5=>?_
   have hl5:=s5 _ _ (s4 _ _ hl)
   refine⟨hl5,?_,rs.length-(i+1),by lia,rfl,hlt,hss,Ac,λb o eb=>?_,?_⟩
   ·
    have h1:ys.length<=rs.length:=by
     rw[hys,Agd]
     refine Ag1 (Ah2 _ _) ?_
     rw[Ahk,Sf]
     exact Nat.min_le_right _ _
    have h2:(100000:Nat)<sizeLine:=by decide
    lia
   ·
    rw[Ak (Au eb hD)]
    exact s5 _ _ (s4 _ _ (sm _ _ eb))
   ·
    rw[etake,Ai1,hys]
    simp[hb]
 ·
  have e:i=rs.length:=by lia
  subst e
  have e2:(refs rs).length=rs.length:=Zx rs
  refine .inl ⟨e2▸q2,k D _ sm hD ?_⟩
  rw[hl,hys,←Sf rs,Aim]
end L2
namespace L2
open PySem PySem.Spec PyProof.Rows PySem.SeqAt
section
variable {X:Cx}
end
section
variable {X:Cx}
end
end L2
namespace L2
open PySem PySem.Spec PyProof.Rows
section
variable {X:Cx}
theorem Aba:OpR X (binaryOp .Add) (λx y H Q=>∃a b xs ys,x=.ref a/\y=.ref b/\H a=some (.tup xs)/\H b=some (.tup ys)/\xs.length+ys.length<=sizeLine/\
  ∀p H',Same H H'->H' p=some (.tup (xs++ys))->Q (.ref p) H'):=by
 intro pins s σ H x y v u Q I rx ry h
 obtain⟨a,b,xs,ys,rfl,rfl,ha,hb,hz,q⟩:=h
 by_cases hx:xs=[]
 ·
  cases rx
  cases ry
  obtain⟨its,r1,p1,_⟩:=I.tuple (SqT.of (K:=X.K) ha)
  obtain⟨its2,r2,p2,_⟩:=I.tuple (SqT.of (K:=X.K) hb)
  obtain⟨⟨cls,dd,data,sl⟩,ho,hc,n,hd⟩:=id p1
  obtain⟨⟨cls2,dd2,data2,sl2⟩,ho2,hc2,n2,hd2⟩:=id p2
  simp only at hc hd hc2 hd2
  subst hc hd hc2 hd2
  have hv:its=[]:=r1.nil_iff.mpr hx
  have q0:=q b H (Same.refl _) (by rw[hx];exact hb)
  exact concat_meets ⟨_,ho,rfl⟩ ⟨_,ho2,rfl⟩ noFill_tuple_add seq_tuple_add Ak1 Akv (Akp _ _)
   (tuple_addW0 a b its.toArray its2.toArray n n2 dd dd2 sl sl2 (by simp[hv])) ⟨ho,ho2,⟨.ref b,H,I,rfl,q0⟩⟩
 ·
  refine Aa5 pins s σ H _ _ v u Q I rx ry ⟨a,b,xs,ys,rfl,rfl,SqT.of ha,SqT.of hb,hx,hz,λe=>?_,λ_ p hp=>q p _ (Ah hp) Ac⟩
  exact q a H (Same.refl _) (by rw[e,Ahh];exact ha)
end
def Ae8 (t u:TS):TS:=λD σ H=>∃P:St->Hp->Prop,t {D with nx:=P} σ H/\∀σ' H',P σ' H'->u D σ' H'
section
variable {X:Cx}{st:Stmt}{rest:List Stmt}{t u:TS}
theorem Sh (h1:PS X st t)(h2:PSs X rest u):PSs X (st::rest) (Ae8 t u):=by
 intro pins s σ H D I h
 obtain⟨P,ha,hb⟩:=h
 refine wpAny_execs_cons (thn (h1 pins s σ H {D with nx:=P} I ha) λf s1 q=>?_)
 cases f with
 |
  next=>
  obtain⟨σ',H',I',q⟩:=q
  exact h2 pins s1 σ' H' D I' (hb σ' H' q)
 | ret v=>exact q
 | brk=>exact q
 | cont=>exact q
end
end L2
namespace L2
section
variable {α:Type}{R:α->α->Prop}
end
section
variable {α:Type}{R:α->α->Prop}
end
end L2
namespace L2
open PySem PyProof.Rows
section
variable {M:Model}{A:Around}{E:Value->Shared->Prop}{s:Shared}
end
section
variable {prog:Program}{w:World}{A:Around}{E:Value->Shared->Prop}{s:Shared}{O:KeyOrd}{key:Keyed->O.α}{D:Keyed->Prop}{κ:SortKind}
end
section lo
variable {prog:Program}{w:World}{A:Around}{E:Value->Shared->Prop}{s:Shared}{O:KeyOrd}{key:Keyed->O.α}{D:Keyed->Prop}{κ:SortKind}{a b:Array Keyed}
end lo
section hi
variable {prog:Program}{w:World}{A:Around}{E:Value->Shared->Prop}{s:Shared}{O:KeyOrd}{key:Keyed->O.α}{D:Keyed->Prop}{κ:SortKind}{a b:Array Keyed}
end hi
section
variable {prog:Program}{w:World}{A:Around}{E:Value->Shared->Prop}{s:Shared}{O:KeyOrd}{key:Keyed->O.α}{D:Keyed->Prop}{κ:SortKind}
end
section
variable {prog:Program}{w:World}{A:Around}{E:Value->Shared->Prop}{s:Shared}{O:KeyOrd}{key:Keyed->O.α}{D:Keyed->Prop}{κ:SortKind}{a₀:Array Keyed}{pd:Array (Nat×Nat×Nat)}{lo:Nat}
def kb {O:KeyOrd}(key:Keyed->O.α)(p:Array Keyed)(i:Nat):O.α:=key (p.getD i (Value.none,Value.none))
end
section
variable {prog:Program}{w:World}{A:Around}{E:Value->Shared->Prop}{s:Shared}{O:KeyOrd}{key:Keyed->O.α}{D:Keyed->Prop}{κ:SortKind}{a₀:Array Keyed}{pd:Array (Nat×Nat×Nat)}{lo:Nat}
end
end L2
namespace L2
open PySem PySem.W PyProof.Rows
section
variable {prog:Program}{w:World}{A:Around}{E:Value->Shared->Prop}{s:Shared}{vs:List Value}{O:KeyOrd}{key:Value->O.α}{κ:SortKind}
end
theorem V5 {α β:Type}{f:α->β}{us l:List β}(h:us.Perm l):∀rs:List α,l=rs.map f->∃qs:List α,qs.Perm rs/\us=qs.map f:=by
 induction h with
 | nil=>intro rs e;exact⟨rs,.refl _,e⟩
 |
  cons x h ih=>
  intro rs e
  cases rs with
  | nil=>cases e
  |
   cons r rs=>
   injection e with e1 e2
   obtain⟨qs,p,rfl⟩:=ih rs e2
   exact⟨r::qs,p.cons r,by rw[e1];rfl⟩
 |
  swap x y l=>
  intro rs e
  match rs,e with
  |
   a::b::rs,e=>
   injection e with e1 e2
   injection e2 with e2 e3
   exact⟨b::a::rs,List.Perm.swap ..,by rw[e1,e2,e3];rfl⟩
 |
  trans h1 h2 ih1 ih2=>
  intro rs e
  obtain⟨qs,p,rfl⟩:=ih2 rs e
  obtain⟨ps,p',rfl⟩:=ih1 qs rfl
  exact⟨ps,p'.trans p,rfl⟩
section
variable {X:Cx}
end
end L2
namespace L2
open PySem PySem.Spec PyProof.Rows
section
variable (P:Program)(w:World)
end
section
variable {P:Program}{w:World}{H H':Hp}{h h':Heap}{a:Addr}{o:HO}
end
section
variable {P:Program}{w:World}{H:Hp}{h h':Heap}{x e:Addr}{o':HO}
end
section
variable {fs fs' ex ex':List Addr}{H H1 H2:Hp}{h h1 h2 h':Heap}{a x e:Addr}{o:HO}
end
section
variable {X:Cx}{pins:List (Addr×Obj)}{σ:List (Option V)}{H H':Hp}{s:Shared}{h':Heap}
end
section
variable {X:Cx}
variable {a b:Expr}{ta tb:TE}{pos:Pos}
variable {tA tB':TT}{rest:List Expr}
end
section
variable {X:Cx}{pins:List (Addr×Obj)}{σ:St}{H:Hp}{s:Shared}{a:Addr}{xs ys:List V}
end
section
variable {X:Cx}{pins:List (Addr×Obj)}{σ:St}{H:Hp}{s:Shared}{E:Value->Shared->Prop}
end
section
variable {X:Cx}{st:Stmt}{rest:List Stmt}{t u:TS}{e:Expr}{te:TE}{pos:Pos}
end
section
variable {X:Cx}{pos:Pos}
end
section
variable {X:Cx}{pos:Pos}
end
section
variable {X:Cx}{tg:Expr}
end
section
variable {X:Cx}{a b c:Expr}{ta tb tc:TE}{pos:Pos}
end
section
variable {X:Cx}{a b c:Expr}{ta tb tc:TE}{pos:Pos}
end
section
variable {prog:Program}{w:World}{A:Around}{E:Value->Shared->Prop}{s:Shared}{K:W.Frag}{x dx C f:Addr}{mA:Str->Option Value}{name:Str}{v:Value}
end
section
variable {P:Program}{w:World}{H H':Hp}{h h':Heap}{a C dx:Addr}{fs fs':List (Str×V)}
end
section
variable {X:Cx}{pins:List (Addr×Obj)}{σ:St}{H:Hp}{s:Shared}{a C dx:Addr}{fs:List (Str×V)}{f:Str}{v:V}{A:Around}{E:Value->Shared->Prop}
end
section
variable {X:Cx}{o e value:Expr}{f:Str}{pos pos' tpos:Pos}{ta tv:TE}
end
section
variable {X:Cx}{pins:List (Addr×Obj)}{σ:St}{H:Hp}{s:Shared}{A:Around}{E:Value->Shared->Prop}{Q:Value->Shared->Prop}{c:Value}{b:Bool}
end
section
variable {X:Cx}{e:Expr}{es:List Expr}{te:TE}{t:TA}{pos:Pos}
end
section
variable {X:Cx}{pins:List (Addr×Obj)}{σ:St}{H:Hp}{s s':Shared}
end
section
variable {X:Cx}{CX:CXT}{cm:Bool}{k:Nat}{f C:Addr}{fd:FuncData}{ps:List Str}{sp:Sp}{dvs:List V}{ds:List Value}{E:XK}{x m:Str}{p pos apos:Pos}{e o:Expr}{es:List Expr}{ta:TE}{t:TA}
end
section
variable {X:Cx}{CX:CXT}{cm:Bool}{k:Nat}{f C:Addr}{fd:FuncData}{ps ks:List Str}{sp:Sp}{E:XK}{x m:Str}{p pos apos kpos:Pos}{e o:Expr}{es:List Expr}{kws:List Keyword}{te ta:TE}{t tk:TA}{nm:Option Str}
variable {g:List Value->List Value->List Value}{gV:List V->List V->List V}
end
section
variable {X:Cx}{x:Str}{p pos:Pos}{e:Expr}{es:List Expr}{t:TA}{id T:String}{r:List V->Hp->VK->Prop}
end
section
variable {κ:Type}[DecidableEq κ]
def Nl (kvs:List (κ×V))(k:κ):Option V:=(kvs.find? λkv=>decide (kv.1=k)).map (·.2)
def putK (kvs:List (κ×V))(k:κ)(v:V):List (κ×V):=
 if(kvs.any λkv=>decide (kv.1=k))=true then kvs.map (λkv=>if kv.1=k then(kv.1,v) else kv) else kvs++[(k,v)]
def Z2 (kvs:List (κ×V))(k:κ):List (κ×V):=kvs.filter λkv=>decide (kv.1≠k)
theorem Fo {p:κ×V}{r:List (κ×V)}{k:κ}(e:p.1=k):Nl (p::r) k=some p.2:=by simp[Nl,Ajo,e]
theorem Fz {p:κ×V}{r:List (κ×V)}{k:κ}(e:¬p.1=k):Nl (p::r) k=Nl r k:=by simp[Nl,Ajo,e]
theorem Pg (k:κ):∀kvs:List (κ×V),(kvs.any λkv=>decide (kv.1=k))=(Nl kvs k).isSome
 | []=>rfl
 |
  p::r=>by
  rw[Aj9]
  by_cases e:p.1=k
  · simp only[Fo e,Age e,Bool.true_or,Option.isSome_some]
  · rw[Fz e,Agp e,Bool.false_or];exact Pg k r
theorem j6 (k j:κ)(y:V):∀kvs:List (κ×V),Nl (kvs.map λkv=>if kv.1=k then(kv.1,y) else kv) j=(Nl kvs j).map λx=>if j=k then y else x
 | []=>rfl
 |
  p::r=>by
  have ih:=j6 k j y r
  rw[Agy]
  by_cases h:p.1=k
  ·
   rw[if_pos h]
   by_cases e:p.1=j
   · rw[Fo (p:=(p.1,y)) e,Fo e,Ala,if_pos (e.symm.trans h)]
   · rw[Fz (p:=(p.1,y)) e,Fz e,ih]
  ·
   rw[if_neg h]
   by_cases e:p.1=j
   · rw[Fo (p:=p) e,Fo e,Ala,if_neg (λz=>h (e.trans z))]
   · rw[Fz (p:=p) e,Fz e,ih]
theorem Z6 (k j:κ)(y:V):∀kvs:List (κ×V),Nl kvs k=none->Nl (kvs++[(k,y)]) j=if j=k then some y else Nl kvs j
 |
  [],_=>by
  by_cases e:k=j
  · rw[if_pos e.symm];exact Fo (p:=(k,y)) e
  · rw[if_neg (λz=>e z.symm)];exact Fz (p:=(k,y)) e
 |
  p::r,hn=>by
  rw[List.cons_append]
  have hk:¬p.1=k:=λz=>by rw[Fo z] at hn;cases hn
  rw[Fz hk] at hn
  have ih:=Z6 k j y r hn
  by_cases e:p.1=j
  · rw[Fo e,Fo e,if_neg (λz=>hk (e.trans z))]
  · rw[Fz e,Fz e,ih]
theorem yc (kvs:List (κ×V))(k j:κ)(y:V):Nl (putK kvs k y) j=if j=k then some y else Nl kvs j:=by
 unfold putK
 by_cases a:(kvs.any λkv=>decide (kv.1=k))=true
 ·
  rw[if_pos a,j6]
  rw[Pg] at a
  by_cases e:j=k
  ·
   obtain⟨x,hx⟩:=Ajg.mp a
   rw[if_pos e,e,hx,Ala,if_pos rfl]
  ·
   rw[if_neg e]
   cases Nl kvs j with
   | none=>rfl
   | some x=>rw[Ala,if_neg e]
 ·
  rw[if_neg a]
  refine Z6 k j y kvs ?_
  rw[Pg] at a
  cases q:Nl kvs k with
  | none=>rfl
  | some x=>rw[q] at a;exact(a rfl).elim
theorem Wi (kvs:List (κ×V))(k:κ)(v:V):(putK kvs k v).length<=kvs.length+1:=by
 unfold putK
 split
 · rw[Agd];lia
 · rw[Agw,Agr,List.length_nil];lia
theorem vz {kvs:List (κ×V)}{k:κ}(v:V)(h:Nl kvs k=none):putK kvs k v=kvs++[(k,v)]:=by
 unfold putK
 rw[Pg,h]
 exact if_neg (by decide)
theorem RelO.isSome_eq {o:Option V}{u:Option Value}(r:RelO o u):o.isSome=u.isSome:=by
 cases o with
 |
  none=>cases u with
  | none=>rfl
  | some _=>exact(show False from r).elim
 |
  some _=>cases u with
  | none=>exact(show False from r).elim
  | some _=>rfl
theorem RelO.getD {o:Option V}{u:Option Value}{d:V}{d':Value}(r:RelO o u)(rd:RelV d d'):RelV (o.getD d) (u.getD d'):=by
 cases o with
 |
  none=>cases u with
  | none=>exact rd
  | some _=>exact(show False from r).elim
 |
  some _=>cases u with
  | none=>exact(show False from r).elim
  | some _=>exact r
theorem KV.val {kvs:List (κ×V)}{vs:List (κ×Value)}(r:KV kvs vs)(k:κ):RelO (Nl kvs k) (valueAt vs k):=by
 unfold KV at r
 induction r with
 | nil=>exact True.intro
 |
  @cons p q ps qs h t ih=>
  obtain⟨h1,h2⟩:=h
  by_cases e:p.1=k
  ·
   have e':q.1=k:=h1.symm.trans e
   have b:valueAt (q::qs) k=some q.2:=by simp[valueAt,Ajo,e']
   rw[Fo e,b];exact h2
  ·
   have e':¬q.1=k:=λz=>e (h1.trans z)
   have b:valueAt (q::qs) k=valueAt qs k:=by simp[valueAt,Ajo,e']
   rw[Fz e,b];exact ih
theorem KV.any {kvs:List (κ×V)}{vs:List (κ×Value)}(r:KV kvs vs)(k:κ):(kvs.any λkv=>decide (kv.1=k))=vs.any λkv=>decide (kv.1=k):=by
 unfold KV at r
 induction r with
 | nil=>rfl
 | cons h t ih=>rw[Aj9,Aj9,ih,h.1]
theorem KV.repl {kvs:List (κ×V)}{vs:List (κ×Value)}(r:KV kvs vs)(k:κ){y:V}{u:Value}(ry:RelV y u):
  KV (kvs.map λkv=>if kv.1=k then(kv.1,y) else kv) (vs.map λkv=>if kv.1=k then(kv.1,u) else kv):=by
 unfold KV at r ⊢
 induction r with
 | nil=>exact .nil
 |
  @cons p q ps qs h t ih=>
  rw[Agy,Agy]
  refine .cons ?_ ih
  obtain⟨h1,h2⟩:=h
  by_cases e:p.1=k
  · rw[if_pos e,if_pos (h1.symm.trans e)];exact⟨h1,ry⟩
  · rw[if_neg e,if_neg (λz=>e (h1.trans z))];exact⟨h1,h2⟩
theorem KV.put {kvs:List (κ×V)}{vs:List (κ×Value)}(r:KV kvs vs)(k:κ){y:V}{u:Value}(ry:RelV y u):KV (putK kvs k y) (stored vs k u):=by
 unfold putK stored
 rw[r.any k]
 by_cases e:(vs.any λkv=>decide (kv.1=k))=true
 · rw[if_pos e,if_pos e];exact r.repl k ry
 · rw[if_neg e,if_neg e];exact Al4 r ⟨rfl,ry⟩
theorem KV.drop {kvs:List (κ×V)}{vs:List (κ×Value)}(r:KV kvs vs)(k:κ):KV (Z2 kvs k) (without vs k):=by
 unfold KV at r ⊢
 unfold Z2 without
 induction r with
 | nil=>exact .nil
 |
  @cons p q ps qs h t ih=>
  obtain⟨h1,h2⟩:=h
  rw[Aje,Aje]
  by_cases e:p.1=k
  ·
   have a:¬decide (p.1≠k)=true:=by simp[e]
   have b:¬decide (q.1≠k)=true:=by simp[h1.symm.trans e]
   rw[if_neg a,if_neg b];exact ih
  ·
   have e':¬q.1=k:=λz=>e (h1.trans z)
   have a:decide (p.1≠k)=true:=by simp[e]
   have b:decide (q.1≠k)=true:=by simp[e']
   rw[if_pos a,if_pos b];exact .cons ⟨h1,h2⟩ ih
theorem KV.keys {kvs:List (κ×V)}{vs:List (κ×Value)}(r:KV kvs vs):kvs.map (·.1)=vs.map (·.1):=by
 unfold KV at r
 induction r with
 | nil=>rfl
 | cons h t ih=>rw[Agy,Agy,ih,h.1]
theorem KV.length {kvs:List (κ×V)}{vs:List (κ×Value)}(r:KV kvs vs):kvs.length=vs.length:=Ald r
theorem wk (kvs:List (κ×V))(k:κ):(Z2 kvs k).length<=kvs.length:=Ah2 _ _
end
theorem Yj {P:Program}{w:World}{k:Key}{u:Value}(r:RelV (kV k) u):(A4 P w).is k u=true:=by
 cases k with
 | inl i=>obtain⟨t,e⟩:=(show ∃t,u=Value.int i t from r);subst e;exact ij P w i t
 | inr x=>obtain⟨t,e⟩:=(show ∃t,u=Value.str x t from r);subst e;exact gz P w x t
theorem Acm {a b:Key}(e:kV a=kV b):a=b:=by
 cases a with
 |
  inl i=>cases b with
  | inl j=>have e':V.int i=V.int j:=e;injection e' with e';rw[e']
  | inr y=>exact nomatch (show V.int i=V.str y from e)
 |
  inr x=>cases b with
  | inl j=>exact nomatch (show V.str x=V.int j from e)
  | inr y=>have e':V.str x=V.str y:=e;injection e' with e';rw[e']
theorem rq:∀{a b:List Key},a.map kV=b.map kV->a=b
 | [],[],_=>rfl
 | [],_::_,e=>by simp at e
 | _::_,[],e=>by simp at e
 |
  x::xs,y::ys,e=>by
  rw[Agy,Agy] at e
  injection e with e1 e2
  rw[Acm e1,rq e2]
theorem Z0 {P:Program}{w:World}:∀{ks:List Key}{us:List Value},Vals (ks.map kV) us->ItemsAre (A4 P w) ks us
 | [],_,r=>by rw[Aj0] at r;cases r;exact .nil
 |
  k::ks,_,r=>by
  rw[Agy] at r
  cases r with
  | cons h t=>exact .cons (Yj h) (Z0 t)
abbrev KT (H:Hp):List (List Key×V)->List (List Key×Addr×Value)->Prop:=Paired λp q=>p.1=q.1/\H q.2.1=some (.tup (p.1.map kV))/\RelV p.2 q.2.2
theorem KT.val {H:Hp}{kvs:List (List Key×V)}{xs:List (List Key×Addr×Value)}(r:KT H kvs xs)(k:List Key):RelO (Nl kvs k) ((atKey xs k).map (·.2)):=by
 induction r with
 | nil=>exact True.intro
 |
  @cons p q ps qs h t ih=>
  obtain⟨h1,_,h2⟩:=h
  by_cases e:p.1=k
  ·
   have e':q.1=k:=h1.symm.trans e
   have b:atKey (q::qs) k=some q.2:=by simp[atKey,Ajo,e']
   rw[Fo e,b];exact h2
  ·
   have e':¬q.1=k:=λz=>e (h1.trans z)
   have b:atKey (q::qs) k=atKey qs k:=by simp[atKey,Ajo,e']
   rw[Fz e,b];exact ih
theorem KT.repl {H:Hp}{kvs:List (List Key×V)}{xs:List (List Key×Addr×Value)}(r:KT H kvs xs)(k:List Key){y:V}{u:Value}(ry:RelV y u):
  KT H (kvs.map λkv=>if kv.1=k then(kv.1,y) else kv) (xs.map (putAt k u)):=by
 induction r with
 | nil=>exact .nil
 |
  @cons p q ps qs h t ih=>
  rw[Agy,Agy]
  refine .cons ?_ ih
  obtain⟨h1,h2,h3⟩:=h
  unfold putAt
  by_cases e:p.1=k
  · rw[if_pos e,if_pos (h1.symm.trans e)];exact⟨h1,h2,ry⟩
  · rw[if_neg e,if_neg (λz=>e (h1.trans z))];exact⟨h1,h2,h3⟩
theorem KT.put {H:Hp}{kvs:List (List Key×V)}{xs:List (List Key×Addr×Value)}(r:KT H kvs xs)(k:List Key){b:Addr}{y:V}{u:Value}(hb:H b=some (.tup (k.map kV)))(ry:RelV y u):
  KT H (putK kvs k y) (storedH xs k b u):=by
 have e:(kvs.any λkv=>decide (kv.1=k))=(atKey xs k).isSome:=by
  rw[Pg,(r.val k).isSome_eq,Als]
 unfold putK storedH
 rw[e]
 by_cases q:(atKey xs k).isSome=true
 · rw[if_pos q,if_pos q];exact r.repl k ry
 · rw[if_neg q,if_neg q];exact Al4 r ⟨rfl,hb,ry⟩
theorem KT.keeps {H H':Hp}{kvs:List (List Key×V)}{xs:List (List Key×Addr×Value)}(r:KT H kvs xs)(ht:∀b ys,H b=some (.tup ys)->H' b=some (.tup ys)):KT H' kvs xs:=
 Paired.mapP r λ_ _ z=>⟨z.1,ht _ _ z.2.1,z.2.2⟩
section
variable {P:Program}{w:World}{H:Hp}{h:Heap}{a:Addr}
theorem Acn {u:HO}(ok:HOk P w H h)(e:Rd H a u):ObjOk P w H h a u:=e.ok ok
theorem X3 {kvs:List (Key×V)}(ok:HOk P w H h)(e:Rd H a (.dK kvs)):kvs.length<=sizeLine/\(a==sysModules)=false/\∃vs,KV kvs vs/\h.DictOf (A4 P w) a vs:=
 show ObjOk P w H h a (.dK kvs) from Acn ok e
theorem o4 {kvs:List (Key×V)}(ok:HOk P w H h)(e:H a=some (.dK kvs)):kvs.length<=sizeLine/\(a==sysModules)=false/\∃vs,KV kvs vs/\h.DictOf (A4 P w) a vs:=X3 ok (.inl e)
theorem Tv {ks:List Key}(ok:HOk P w H h)(e:H a=some (.tup (ks.map kV))):(tupleKind (A4 P w)).is h ks a:=by
 obtain⟨_,its,r,o,h1,h2,n,h3⟩:=(show ObjOk P w H h a (.tup (ks.map kV)) from ok a _ e)
 exact⟨o,its.toArray,n,h1,h2,h3,by simpa using Z0 r⟩
theorem c8 {kvs:List (List Key×V)}(ok:HOk P w H h)(e:Rd H a (.dT kvs)):kvs.length<=sizeLine/\(a==sysModules)=false/\
  ∃xs,KT H kvs xs/\h.DictOfH (tupleKind (A4 P w)) a xs:=by
 obtain⟨z,y,xs,r,o,es,ep,h1,h2,h3,h4,h5⟩:=(show ObjOk P w H h a (.dT kvs) from Acn ok e)
 refine⟨z,y,xs,r,o,es,ep,h1,h2,h3,h4,λx hx=>?_,h5⟩
 have all:∀{l:List (List Key×V)}{m:List (List Key×Addr×Value)},KT H l m->∀x∈m,(tupleKind (A4 P w)).is h x.1 x.2.1:=by
  intro l m q
  induction q with
  | nil=>intro x hx;exact nomatch hx
  |
   @cons p q ps qs hq t ih=>
   intro x hx
   rcases Agx.mp hx with e|hx
   ·
    subst e
    exact Tv ok (by rw[←hq.1];exact hq.2.1)
   · exact ih x hx
 exact all r x hx
theorem Ael {kvs:List (List Key×V)}(ok:HOk P w H h)(e:H a=some (.dT kvs)):kvs.length<=sizeLine/\(a==sysModules)=false/\
 ∃xs,KT H kvs xs/\h.DictOfH (tupleKind (A4 P w)) a xs:=c8 ok (.inl e)
end
def DGet (H:Hp)(a:Addr)(y:V)(r:Option V):Prop:=
 (∃kvs k,Rd H a (.dK kvs)/\y=kV k/\r=Nl kvs k)∨∃kvs k b,Rd H a (.dT kvs)/\y=.ref b/\H b=some (.tup (k.map kV))/\r=Nl kvs k
def DPut (H:Hp)(a:Addr)(y v:V)(H':Hp):Prop:=
 (∃kvs k,H a=some (.dK kvs)/\y=kV k/\kvs.length<sizeLine/\H'=upd H a (.dK (putK kvs k v)))∨
 ∃kvs k b,H a=some (.dT kvs)/\y=.ref b/\H b=some (.tup (k.map kV))/\kvs.length<sizeLine/\H'=upd H a (.dT (putK kvs k v))
theorem DGet.k {H:Hp}{a:Addr}{kvs:List (Key×V)}{k:Key}(e:H a=some (.dK kvs)):DGet H a (kV k) (Nl kvs k):=.inl ⟨kvs,k,.inl e,rfl,rfl⟩
theorem DPut.k {H:Hp}{a:Addr}{kvs:List (Key×V)}{k:Key}{v:V}(e:H a=some (.dK kvs))(hl:kvs.length<sizeLine):DPut H a (kV k) v (upd H a (.dK (putK kvs k v))):=.inl ⟨kvs,k,e,rfl,hl,rfl⟩
section
variable {X:Cx}{pins:List (Addr×Obj)}{σ:St}{H:Hp}{s:Shared}{a:Addr}{y v:V}{u r:Value}{o:Option V}{A:Around}{E:Value->Shared->Prop}
theorem Inv.big (I:Inv X pins σ H s):sysModules<s.heap.objs.size:=by
 have h:mainGlobals<s.heap.objs.size:=(I.mod.glob.keeps I.bk).lt
 exact Nat.lt_trans (by decide) h
theorem pj {Q:Value->Shared->Prop}(hu:A.units+1<cLine)(I:Inv X pins σ H s)(g:DGet H a y (some v))(ry:RelV y u)(h:∀w' s',Inv X pins σ H s'->RelV v w'->Q w' s'):
  wpAny (model X.prog X.w) A (getItem (.ref a) u) Q E s:=by
 rcases g with⟨kvs,k,e,ey,l⟩|⟨kvs,k,b,e,ey,eb,l⟩
 ·
  subst ey
  obtain⟨z,hd,vs,rel,dd⟩:=X3 I.hok e
  obtain⟨w',hw,rw'⟩:=RelO.some_of (v:=v) (o:=valueAt vs k) (by rw[l];exact rel.val k)
  exact wpAny_getItem_of (Yj ry) dd.mapOf hw (h w' _ (I.tok _) rw')
 ·
  subst ey
  cases (show u=Value.ref b from ry)
  obtain⟨z,hd,xs,rel,dd⟩:=c8 I.hok e
  obtain⟨w',hw,rw'⟩:=RelO.some_of (v:=v) (o:=(atKey xs k).map (·.2)) (by rw[l];exact rel.val k)
  obtain⟨p,hp,hp2⟩:=Ahc.mp hw
  refine wpAny_getItem_heap (Ai6 hu) (Tv I.hok eb) dd hp ?_
  rw[hp2]
  exact h w' _ (I.tok _) rw'
theorem Afy {Q:Value->Shared->Prop}(hu:A.units+1<cLine)(I:Inv X pins σ H s)(g:DGet H a y o)(ry:RelV y u)(h:∀s',Inv X pins σ H s'->Q (.bool o.isSome) s'):
  wpAny (model X.prog X.w) A (compareOp .In u (.ref a)) Q E s:=by
 rcases g with⟨kvs,k,e,ey,l⟩|⟨kvs,k,b,e,ey,eb,l⟩
 ·
  subst ey
  obtain⟨z,hd,vs,rel,dd⟩:=X3 I.hok e
  refine wpAny_in_of (Yj ry) hd dd.mapOf ?_
  rw[←(rel.val k).isSome_eq,←l]
  exact h _ (I.tok _)
 ·
  subst ey
  cases (show u=Value.ref b from ry)
  obtain⟨z,hd,xs,rel,dd⟩:=c8 I.hok e
  refine wpAny_in_heap (Ai6 hu) (Tv I.hok eb) hd dd ?_
  have q:=(rel.val k).isSome_eq
  rw[Als] at q
  rw[←q,←l]
  exact h _ (I.tok _)
theorem Aaz {Q:Value->Shared->Prop}(hu:A.units+1<cLine)(I:Inv X pins σ H s)(g:DGet H a y o)(ry:RelV y u)(h:∀s',Inv X pins σ H s'->Q (.bool (!o.isSome)) s'):
  wpAny (model X.prog X.w) A (compareOp .NotIn u (.ref a)) Q E s:=by
 rcases g with⟨kvs,k,e,ey,l⟩|⟨kvs,k,b,e,ey,eb,l⟩
 ·
  subst ey
  obtain⟨z,hd,vs,rel,dd⟩:=X3 I.hok e
  refine wpAny_notIn_of (Yj ry) hd dd.mapOf ?_
  rw[←(rel.val k).isSome_eq,←l]
  exact h _ (I.tok _)
 ·
  subst ey
  cases (show u=Value.ref b from ry)
  obtain⟨z,hd,xs,rel,dd⟩:=c8 I.hok e
  refine wpAny_notIn_heap (Ai6 hu) (Tv I.hok eb) hd dd ?_
  have q:=(rel.val k).isSome_eq
  rw[Als] at q
  rw[←q,←l]
  exact h _ (I.tok _)
theorem ig {h':Heap}{t':Nat}{ob:HO}(I:Inv X pins σ H s)(mu:Mut (H a))(hs:Heap.SameBut a s.heap h')(he:∃q,h'.get? a=some q)(new:ObjOk X.prog X.w (upd H a ob) h' a ob):
  Inv X pins σ (upd H a ob) {s with heap:=h',toks:=t'}:=
 I.write (x:=a) (e:=a) mu (.inl rfl) (λb q hb z=>(hs.2 b hb).trans z) he new
theorem zb {P:Program}{w:World}{H':Hp}{h':Heap}{kvs:List (Key×V)}{vs:List (Key×Value)}(z:kvs.length<=sizeLine)(hd:(a==sysModules)=false)(rel:KV kvs vs)(dd:h'.DictOf (A4 P w) a vs):
 ObjOk P w H' h' a (.dK kvs):=⟨z,hd,vs,rel,dd⟩
theorem oy {H':Hp}{Q:Unit->Shared->Prop}(hu:A.units+1<cLine)(I:Inv X pins σ H s)(g:DPut H a y v H')(ry:RelV y u)(rv:RelV v r)(h:∀s',Inv X pins σ H' s'->Q () s'):
  wpAny (model X.prog X.w) A (setItem (.ref a) u r) Q E s:=by
 rcases g with⟨kvs,k,e,ey,l,eH⟩|⟨kvs,k,b,e,ey,eb,l,eH⟩
 ·
  subst ey eH
  obtain⟨z,hd,vs,rel,dd⟩:=o4 I.hok e
  have hz:vs.length<=sizeLine:=by rw[←rel.length];exact z
  have hl:(putK kvs k v).length<=sizeLine:=by have:=Wi kvs k v;lia
  refine wpAny_setItem_pairs (hsz:=hz) (Yj ry) dd λh' dd' hs=>h _ ?_
  have he:∃q,h'.get? a=some q:=let ⟨q,_,_,hq,_⟩:=dd';⟨q,hq⟩
  exact ig I (by rw[e];exact True.intro) hs he (zb hl hd (rel.put k rv) dd')
 ·
  subst ey eH
  cases (show u=Value.ref b from ry)
  obtain⟨z,hd,xs,rel,dd⟩:=Ael I.hok e
  have hz:xs.length<=sizeLine:=by rw[←Ald rel];exact z
  have hl:(putK kvs k v).length<=sizeLine:=by have:=Wi kvs k v;lia
  refine wpAny_setItem_heap (hsz:=hz) (Ai6 hu) (Tv I.hok eb) dd λh' dd' hs=>h _ ?_
  obtain⟨q,es,ep,hq,h2,h3,h4,_,h5⟩:=dd'
  refine ig I (by rw[e];exact True.intro) hs ⟨q,hq⟩ ⟨hl,hd,_,(rel.put k eb rv).keeps λc ys ec=>?_,q,es,ep,hq,h2,h3,h4,h5⟩
  rw[Ak (xm ec e (λz=>nomatch z))]
  exact ec
end
section
variable {X:Cx}{pins:List (Addr×Obj)}{σ:St}{H:Hp}{s:Shared}{a:Addr}{kvs:List (Key×V)}{k:Key}{u:Value}{A:Around}{E:Value->Shared->Prop}
theorem Ad3 {v:V}{more:List Value}{Q:Value->Shared->Prop}(I:Inv X pins σ H s)(e:H a=some (.dK kvs))(ry:RelV (kV k) u)(l:Nl kvs k=some v)(hm:more=[]∨∃x,more=[x])
  (h:∀w' s',Inv X pins σ (upd H a (.dK (Z2 kvs k))) s'->RelV v w'->Q w' s'):wpAny (model X.prog X.w) A (call (.builtin "dict.pop") (.ref a::u::more)) Q E s:=by
 obtain⟨z,hd,vs,rel,dd⟩:=o4 I.hok e
 obtain⟨w',hw,rw'⟩:=RelO.some_of (v:=v) (o:=valueAt vs k) (by rw[←l];exact rel.val k)
 have hp:(keyPart u).isSome=true:=by
  cases k with
  | inl i=>obtain⟨t,q⟩:=(show ∃t,u=Value.int i t from ry);subst q;rfl
  | inr x=>obtain⟨t,q⟩:=(show ∃t,u=Value.str x t from ry);subst q;rfl
 have ha:argsOk "dict.pop" ⟨.ref a::u::more,[]⟩:=by
  rcases hm with q|⟨x,q⟩
  · subst q;exact PySem.F.args_dict_pop_2 _ _
  · subst q;exact PySem.F.args_dict_pop_3 _ _ _
 refine Aln PySem.F.slot_dict_pop dd.typeIs PySem.F.entry_dict_pop ha (meets_dict_pop_there (A4 X.prog X.w) a (Yj ry) more hm hp)
  ⟨vs,w',dd,by rw[←rel.length];exact z,hw,λh' dd' hs=>h w' _ ?_ rw'⟩
 have he:∃q,h'.get? a=some q:=let ⟨q,_,_,hq,_⟩:=dd';⟨q,hq⟩
 exact ig I (by rw[e];exact True.intro) hs he (zb (Ag1 (wk kvs k) z) hd (rel.drop k) dd')
theorem Aec {Q:Value->Shared->Prop}(I:Inv X pins σ H s)(e:Rd H a (.dK kvs))(h:∀t s',Inv X pins σ H s'->Q (.int kvs.length t) s'):wpAny (model X.prog X.w) A (call (.builtin "len") [.ref a]) Q E s:=by
 obtain⟨z,hd,vs,rel,dd⟩:=X3 I.hok e
 refine call_len_dict hd dd (by rw[←rel.length];rw[Ahr] at z;lia) ?_
 rw[←rel.length]
 exact h _ _ (I.tok _)
end
def Aet (i:Expr):Prop:=∀ov iv,subscripted i false ov iv=operate [ov,iv] (getItem ov iv)
theorem Aai {prog:Program}{w:World}{A:Around}{E:Value->Shared->Prop}{s:Shared}{env:Env}{value slice:Expr}{pos:Pos}{T id:String}{Q:Value->Shared->Prop}
  (hl:typeLookup (.type T) "__getitem__"=pure (some (.builtin id))) (hs:Aet slice)
  (h:wpAny (model prog w) A (eval value env) (λo s₁=>wpAny (model prog w) A (eval slice env) (λi s₂=>s₂.TypeIs o T/\wpAny (model prog w) A (getItem o i) Q E s₂) E s₁) E s):
  wpAny (model prog w) A (eval (.Subscript value slice pos) env) Q E s:=by
 refine Subscript_ (Aid h (λo s₁ h₁=>Aid h₁ (λi s₂ h₂=>?_) λ_ _ x=>x) λ_ _ x=>x)
 obtain⟨hT,h₂⟩:=h₂
 unfold subscriptTail
 refine Aga ?_
 rw[getitemInPython_of_ne hT.not_modules]
 refine Aga (Aiy hT hl ?_)
 have fin:wpAny (model prog w) A (subscripted slice false o i) (λr s₃=>wpAny (model prog w) A (letTemporaryGo value o r>>= λ_=>pure r) Q E s₃) E s₂:=by
  rw[hs o i]
  exact wpAny_operating (Aid h₂ (λr s₃ h₃=>Aga (wpAny_letTemporaryGo (Agb h₃))) λ_ _ x=>x)
 first
  | exact Agb (Aga fin)
  | exact Aga (Agb (Aga fin))
  | exact Aga fin
theorem ip {X:Cx}{pins:List (Addr×Obj)}{σ:St}{H:Hp}{s:Shared}{a:Addr}{y:V}{o:Option V}(I:Inv X pins σ H s)(g:DGet H a y o):s.TypeIs (.ref a) "dict":=by
 rcases g with⟨kvs,k,e,_,_⟩|⟨kvs,k,b,e,_,_,_⟩
 ·
  obtain⟨_,_,vs,_,dd⟩:=X3 I.hok e
  exact dd.typeIs
 ·
  obtain⟨_,_,xs,_,dd⟩:=c8 I.hok e
  exact dd.typeIs
def Aek (td ty:TE):TE:=λσ H Q=>td σ H λx H1=>ty σ H1 λy H2=>∃a v,x=.ref a/\DGet H2 a y (some v)/\Q v H2
def Afs (ty td:TE):TE:=λσ H Q=>ty σ H λy H1=>td σ H1 λx H2=>∃a o,x=.ref a/\DGet H2 a y o/\Q (.bl o.isSome) H2
def Abd (ty td:TE):TE:=λσ H Q=>ty σ H λy H1=>td σ H1 λx H2=>∃a o,x=.ref a/\DGet H2 a y o/\Q (.bl (!o.isSome)) H2
def Ad4 (td ty tv:TE):TS:=λD σ H=>tv σ H λv H1=>td σ H1 λx H2=>ty σ H2 λy H3=>∃a H4,x=.ref a/\DPut H3 a y v H4/\D.nx σ H4
section
variable {X:Cx}{o i e value:Expr}{pos pos' tpos:Pos}{td ty tv:TE}
theorem gd (hu:X.A.units+1<cLine)(ho:PE X o td)(hi:PE X i ty)(hs:Aet i):PE X (.Subscript o i pos) (Aek td ty):=by
 intro pins s σ H Q I h
 refine Aai PySem.F.slot_dict_getitem.lookup hs (thn (ho pins s σ H _ I h) λu s1 ⟨x,H1,I1,rx,q1⟩=>thn (hi pins s1 σ H1 _ I1 q1) λiv s2 hz=>?_)
 obtain⟨y,H2,I2,ry,a,v,ex,g,q2⟩:=hz
 subst ex
 obtain rfl:u=Value.ref a:=rx
 exact⟨ip I2 g,pj hu I2 g ry λw' s3 I3 rw'=>⟨v,H2,I3,rw',q2⟩⟩
theorem jb (hu:X.A.units+1<cLine)(hi:PE X i ty)(ho:PE X o td):PC X .In i o (Afs ty td):=by
 intro pins s σ H Q I h
 refine thn (hi pins s σ H _ I h) λiv s1 ⟨y,H1,I1,ry,q1⟩=>thn (ho pins s1 σ H1 _ I1 q1) λu s2 hz=>?_
 obtain⟨x,H2,I2,rx,a,ov,ex,g,q2⟩:=hz
 subst ex
 obtain rfl:u=Value.ref a:=rx
 exact Afy hu I2 g ry λs3 I3=>⟨.bl ov.isSome,H2,I3,rfl,q2⟩
theorem V8 (hu:X.A.units+1<cLine)(hi:PE X i ty)(ho:PE X o td):PC X .NotIn i o (Abd ty td):=by
 intro pins s σ H Q I h
 refine thn (hi pins s σ H _ I h) λiv s1 ⟨y,H1,I1,ry,q1⟩=>thn (ho pins s1 σ H1 _ I1 q1) λu s2 hz=>?_
 obtain⟨x,H2,I2,rx,a,ov,ex,g,q2⟩:=hz
 subst ex
 obtain rfl:u=Value.ref a:=rx
 exact Aaz hu I2 g ry λs3 I3=>⟨.bl (!ov.isSome),H2,I3,rfl,q2⟩
theorem Mx (hu:X.A.units+1<cLine)(ho:PE X o td)(hi:PE X i ty)(hv:PE X value tv)(hs:swapsWith value (some (.Subscript o i pos')) pos.line X.env=pure false):
  PS X (.Assign [.Subscript o i pos'] value pos) (Ad4 td ty tv):=by
 intro pins s σ H D I h
 refine wpAny_Assign_Subscript (thn (hv pins s σ H _ I h) λr s1 ⟨v,H1,I1,rv,q1⟩=>thn (ho pins s1 σ H1 _ I1 q1) λu s2 ⟨x,H2,I2,rx,q2⟩=>thn (hi pins s2 σ H2 _ I2 q2) λiv s3 ⟨y,H3,I3,ry,a,H4,ex,g,q3⟩=>?_) hs
 subst ex
 obtain rfl:u=Value.ref a:=rx
 exact oy hu I3 g ry rv λs4 I4=>⟨σ,H4,I4,q3⟩
end
theorem ya {P:Program}{w:World}{H:Hp}(h:Heap)(hb:sysModules<h.objs.size):ObjOk P w H (h.push {cls:=.type "dict",data:=.dict #[]}) h.objs.size (.dK []):=
 ⟨Ahn _,Aij.mpr (Aj3 (Agv hb)),[],.nil,Heap.DictOf.new h⟩
def Ab2:TE:=λ_ H Q=>∀p,H p=none->Q (.ref p) (upd H p (.dK []))
section
variable {X:Cx}{pos:Pos}
theorem Ye:PE X (.Dict [] [] pos) Ab2:=λpins s σ H Q I h=>
 wpAny_Dict_empty ⟨.ref s.heap.objs.size,_,I.laid (a:=s.heap.objs.size) (o:=.dK []) (t':=s.toks) (λ_ _ q=>Agc _ q) (Agi _) (ya s.heap I.big),rfl,h _ (I.hok.fresh (Agi _))⟩
end
structure M1 (X:Cx)(o:Expr)(m:Str)(apos:Pos)(e:Expr)(cpos:Pos):Prop where
 base:attributeBase o m X.env (eval o X.env)=eval o X.env
 few:((backTo cpos (starEach [e] X.env)).all (λx=>!x.1)&&(backToKw cpos (keywordEach [] X.env)).all (λx=>x.1.isSome)
  &&decide (([e]:List Expr).length+([]:List Keyword).length+(if([]:List Keyword).isEmpty then 0 else 1)<30))=true
 line:(apos.endLine==cpos.line)=true
 trees:backTo cpos (starEach [e] X.env)=[(false,eval e X.env)]
structure M2 (X:Cx)(o:Expr)(m:Str)(apos:Pos)(e f:Expr)(cpos:Pos):Prop where
 base:attributeBase o m X.env (eval o X.env)=eval o X.env
 few:((backTo cpos (starEach [e,f] X.env)).all (λx=>!x.1)&&(backToKw cpos (keywordEach [] X.env)).all (λx=>x.1.isSome)
  &&decide (([e,f]:List Expr).length+([]:List Keyword).length+(if([]:List Keyword).isEmpty then 0 else 1)<30))=true
 line:(apos.endLine==cpos.line)=true
 trees:backTo cpos (starEach [e,f] X.env)=[(false,eval e X.env),(false,eval f X.env)]
def IsD (H:Hp)(a:Addr):Prop:=(∃kvs,Rd H a (.dK kvs))∨∃kvs,Rd H a (.dT kvs)
theorem ue {X:Cx}{pins:List (Addr×Obj)}{σ:St}{H:Hp}{s:Shared}{a:Addr}(I:Inv X pins σ H s)(d:IsD H a):
  s.TypeIs (.ref a) "dict"/\(∀b,Value.ref a=.ref b->∃ob,s.heap.get? b=some ob/\ob.dict=none)/\(a==sysModules)=false:=by
 rcases d with⟨kvs,e⟩|⟨kvs,e⟩
 ·
  obtain⟨_,hd,vs,_,dd⟩:=X3 I.hok e
  refine⟨dd.typeIs,λb q=>?_,hd⟩
  cases q
  obtain⟨ob,_,_,h1,h2,_⟩:=dd
  exact⟨ob,h1,h2.2.1⟩
 ·
  obtain⟨_,hd,xs,_,dd⟩:=c8 I.hok e
  refine⟨dd.typeIs,λb q=>?_,hd⟩
  cases q
  obtain⟨ob,_,_,h1,h2,_⟩:=dd
  exact⟨ob,h1,h2.2.1⟩
section
variable {X:Cx}{pins:List (Addr×Obj)}{σ:St}{H:Hp}{s:Shared}{a:Addr}{y d:V}{u r:Value}{o:Option V}{A:Around}{E:Value->Shared->Prop}
theorem Ab6 {Q:Value->Shared->Prop}(hu:A.units+1<cLine)(I:Inv X pins σ H s)(g:DGet H a y o)(ry:RelV y u)(h:∀w' s',Inv X pins σ H s'->RelV (o.getD .non) w'->Q w' s'):
  wpAny (model X.prog X.w) A (call (.builtin "dict.get") [.ref a,u]) Q E s:=by
 rcases g with⟨kvs,k,e,ey,l⟩|⟨kvs,k,b,e,ey,eb,l⟩
 ·
  subst ey
  obtain⟨z,hd,vs,rel,dd⟩:=X3 I.hok e
  refine Aln Aio dd.typeIs Ajs (PySem.F.args_dict_get_2 _ _) (meets_dict_get (A4 X.prog X.w) a (Yj ry) hd) ⟨_,dd.mapOf,h _ _ (I.tok _) ?_⟩
  rw[l]
  exact(rel.val k).getD rfl
 ·
  subst ey
  cases (show u=Value.ref b from ry)
  obtain⟨z,hd,xs,rel,dd⟩:=c8 I.hok e
  refine Aln Aio dd.typeIs Ajs (PySem.F.args_dict_get_2 _ _) (meetsH_dict_get (tupleKind (A4 X.prog X.w)) a b hd) ⟨Ai6 hu,k,xs,Tv I.hok eb,dd,h _ _ (I.tok _) ?_⟩
  rw[l]
  exact(rel.val k).getD rfl
theorem Adj {Q:Value->Shared->Prop}(hu:A.units+1<cLine)(I:Inv X pins σ H s)(g:DGet H a y o)(ry:RelV y u)(rd:RelV d r)(h:∀w' s',Inv X pins σ H s'->RelV (o.getD d) w'->Q w' s'):
  wpAny (model X.prog X.w) A (call (.builtin "dict.get") [.ref a,u,r]) Q E s:=by
 rcases g with⟨kvs,k,e,ey,l⟩|⟨kvs,k,b,e,ey,eb,l⟩
 ·
  subst ey
  obtain⟨z,hd,vs,rel,dd⟩:=X3 I.hok e
  refine Aln Aio dd.typeIs Ajs (PySem.F.args_dict_get_3 _ _ _) (meets_dict_get_default (A4 X.prog X.w) a (Yj ry) hd r) ⟨_,dd.mapOf,h _ _ (I.tok _) ?_⟩
  rw[l]
  exact(rel.val k).getD rd
 ·
  subst ey
  cases (show u=Value.ref b from ry)
  obtain⟨z,hd,xs,rel,dd⟩:=c8 I.hok e
  refine Aln Aio dd.typeIs Ajs (PySem.F.args_dict_get_3 _ _ _) (meetsH_dict_get_default (tupleKind (A4 X.prog X.w)) a b hd r) ⟨Ai6 hu,k,xs,Tv I.hok eb,dd,h _ _ (I.tok _) ?_⟩
  rw[l]
  exact(rel.val k).getD rd
end
def Adk (td ty:TE):TE:=λσ H Q=>td σ H λx H1=>∃a,x=.ref a/\IsD H1 a/\ty σ H1 λy H2=>∃o,DGet H2 a y o/\Q (o.getD .non) H2
def Ab8 (td ty tx:TE):TE:=λσ H Q=>td σ H λx H1=>∃a,x=.ref a/\IsD H1 a/\ty σ H1 λy H2=>tx σ H2 λz H3=>∃o,DGet H3 a y o/\Q (o.getD z) H3
def Acf (td ty:TE):TE:=λσ H Q=>td σ H λx H1=>∃a,x=.ref a/\IsD H1 a/\ty σ H1 λy H2=>∃kvs k v,H2 a=some (.dK kvs)/\y=kV k/\Nl kvs k=some v/\Q v (upd H2 a (.dK (Z2 kvs k)))
section
variable {X:Cx}{o e f:Expr}{apos cpos:Pos}{td ty tx:TE}
theorem xf (hu:X.A.units+1<cLine)(ho:PE X o td)(he:PE X e ty)(m:M1 X o "get" apos e cpos):PE X (.Call (.Attribute o "get" apos) [e] [] cpos) (Adk td ty):=by
 intro pins s σ H Q I h
 refine wpAny_Call_method m.base m.few m.line Aku Aio PySem.F.type_dict_get (thn (ho pins s σ H _ I h) λu s1 hz=>?_)
 obtain⟨x,H1,I1,rx,a,ex,d,q1⟩:=hz
 subst ex
 obtain rfl:u=Value.ref a:=rx
 obtain⟨t1,t2,_⟩:=ue I1 d
 refine⟨t1,t2,?_⟩
 rw[m.trees]
 refine Aj5 rfl (Ajj (Ajy (thn (he pins s1 σ H1 _ I1 q1) λiv s2 ⟨y,H2,I2,ry,ov,g,q2⟩=>Ak9 ?_)))
 exact Ab6 hu I2 g ry λw' s3 I3 rw'=>⟨_,H2,I3,rw',q2⟩
theorem wb (hu:X.A.units+1<cLine)(ho:PE X o td)(he:PE X e ty)(hf:PE X f tx)(m:M2 X o "get" apos e f cpos):PE X (.Call (.Attribute o "get" apos) [e,f] [] cpos) (Ab8 td ty tx):=by
 intro pins s σ H Q I h
 refine wpAny_Call_method m.base m.few m.line Aku Aio PySem.F.type_dict_get (thn (ho pins s σ H _ I h) λu s1 hz=>?_)
 obtain⟨x,H1,I1,rx,a,ex,d,q1⟩:=hz
 subst ex
 obtain rfl:u=Value.ref a:=rx
 obtain⟨t1,t2,_⟩:=ue I1 d
 refine⟨t1,t2,?_⟩
 rw[m.trees]
 refine Aj5 rfl (Ajj (Ajy (thn (he pins s1 σ H1 _ I1 q1) λiv s2 ⟨y,H2,I2,ry,q2⟩=>
  Ajy (thn (hf pins s2 σ H2 _ I2 q2) λfv s3 ⟨z,H3,I3,rz,ov,g,q3⟩=>Ak9 ?_))))
 exact Adj hu I3 g ry rz λw' s4 I4 rw'=>⟨_,H3,I4,rw',q3⟩
theorem iw (ho:PE X o td)(he:PE X e ty)(m:M1 X o "pop" apos e cpos):PE X (.Call (.Attribute o "pop" apos) [e] [] cpos) (Acf td ty):=by
 intro pins s σ H Q I h
 refine wpAny_Call_method m.base m.few m.line Aku PySem.F.slot_dict_pop PySem.F.type_dict_pop (thn (ho pins s σ H _ I h) λu s1 hz=>?_)
 obtain⟨x,H1,I1,rx,a,ex,d,q1⟩:=hz
 subst ex
 obtain rfl:u=Value.ref a:=rx
 obtain⟨t1,t2,_⟩:=ue I1 d
 refine⟨t1,t2,?_⟩
 rw[m.trees]
 refine Aj5 rfl (Ajj (Ajy (thn (he pins s1 σ H1 _ I1 q1) λiv s2 ⟨y,H2,I2,ry,kvs,k,v,ea,ey,l,q2⟩=>Ak9 ?_)))
 subst ey
 exact Ad3 I2 ea ry l (.inl rfl) λw' s3 I3 rw'=>⟨v,_,I3,rw',q2⟩
end
section
variable {X:Cx}{pins:List (Addr×Obj)}{σ:St}{H:Hp}{s:Shared}{a:Addr}{kvs:List (Key×V)}{A:Around}{E:Value->Shared->Prop}
end
section
variable {X:Cx}{pins:List (Addr×Obj)}{σ:St}{H:Hp}{s:Shared}{a:Addr}{y:V}{u:Value}{A:Around}{E:Value->Shared->Prop}
end
end L2
namespace Att
open PySem PySem.W PySem.Calls PyProof.Rows
section
variable {prog:Program}{w:World}{A:Around}{E:Value->Shared->Prop}{s:Shared}{K:Frag}
end
end Att
namespace L2
open PySem PySem.Spec PyProof.Rows
section
variable {P:Program}{w:World}{K:W.Frag}{mg:Str->Option Value}{base:Heap}
end
section
variable {X:Cx}
theorem ae:Jp X (.builtin "len") (λxs H Q=>∃a kvs,xs=[V.ref a]/\H a=some (.dK kvs)/\Q (.int kvs.length) H):=by
 intro pins s σ H xs us Q I r h
 obtain⟨a,kvs,rfl,ha,q⟩:=h
 obtain⟨u,rfl,ru⟩:=vals1 r
 cases ru
 exact Aec I (.inl ha) λt s' I'=>⟨.int kvs.length,H,I',⟨t,rfl⟩,q⟩
end
section
variable {κ:Type}[DecidableEq κ]
end
end L2
namespace L2
open PySem PySem.W PyProof.Rows
section
variable {prog:Program}{w:World}{A:Around}{E:Value->Shared->Prop}{s:Shared}
theorem V1 {T:String}{r d:Addr}{n:Nat}{P:Nat->Value->Prop}{OK:Heap->Prop}{Q:List Value->Shared->Prop}(S:KdlSrc prog w T r d n P OK)(hh:A.handled=none)(hok:OK s.heap)(hn:n<=sizeLine)
  (h:∀h' tk(acc:Array Value),(∀b o,s.heap.get? b=some o->h'.get? b=some o)->s.heap.objs.size<=h'.objs.size->ItemsOf P acc n->Q acc.toList {s with heap:=h',toks:=tk}):wpAny (model prog w) A (collect (.ref r)) Q E s:=by
 unfold collect
 refine Aga (Al0 (Ah1 entry_proto_collect' ?_))
 show wpAny _ _ (do again (.builtin "list.__iadd__" ⟨[←newList [],.ref r],[]⟩)) _ _ s
 refine Aga (Akj (Agb ⟨Ajx _ (by decide+kernel),Ah1 entry_list_iadd' ?_⟩))
 show wpAny _ _ (Builtin.List.listExtendWith (.ref s.heap.objs.size) (.ref r) (.ref s.heap.objs.size)) _ _ {s with heap:=s.heap.push (seqObj "list" #[] 0)}
 have hS:(s.heap.push (seqObj "list" #[] 0)).get? s.heap.objs.size=some {cls:=.type "list",data:=.seq #[] 0}:=Ago _ rfl
 rw[Aik PySem.F.plain_list_iadd _]
 refine kdl_extend (A:=A) (R:=λr s'=>match r with
   |
    Except.ok (Flow.ret v)=>wpAny (model prog w) A (match v with
    |
     .ref a=>do match (←load a).data with
     | .seq xs _=>pure xs.toList
     | _=>unsupported "internal:collect"
    | _=>unsupported "internal:collect") Q E s'
   | Except.ok _=>False
   | Except.error e=>E e s') (s:={s with heap:=s.heap.push (seqObj "list" #[] 0)}) S hh (S.keep _ _ hok λb _ o e=>Agc _ e) s.heap.objs.size (Aip (S.there _ hok).1) (Aip (S.there _ hok).2) (.ref s.heap.objs.size) 0 hS (λh' tk acc c' hk hS' hacc=>?_) hn
 show wpAny (model prog w) A (do
   let o ←load s.heap.objs.size
   match o.data with
   | .seq xs _=>pure xs.toList
   | _=>unsupported "internal:collect") Q E {s with heap:=h',toks:=tk}
 refine Aga (wpAny_load hS' ?_)
 exact Agb (h h' tk acc (λb o e=>hk b o (Agv (Agk e)) (Agc _ e)) (Ajz (Agk hS')) hacc)
end
def Afb:Value->Int
 | .int i _=>i
 | _=>0
section
variable {X:Cx}
end
end L2
namespace L2
open PySem
theorem exS {us:List Value}{n:Nat}(h:us.length=n+1):∃a l,us=a::l/\l.length=n:=by
 cases us with
 | nil=>cases h
 | cons a l=>exact⟨a,l,rfl,Nat.succ.inj h⟩
theorem ex1 {us:List Value}(h:us.length=1):∃a,us=[a]:=by
 obtain⟨a,l,rfl,k⟩:=exS h
 obtain rfl:=List.eq_nil_of_length_eq_zero k
 exact⟨a,rfl⟩
theorem ex2 {us:List Value}(h:us.length=2):∃a b,us=[a,b]:=by
 obtain⟨a,l,rfl,k⟩:=exS h
 obtain⟨b,rfl⟩:=ex1 k
 exact⟨a,b,rfl⟩
theorem ex3 {us:List Value}(h:us.length=3):∃a b c,us=[a,b,c]:=by
 obtain⟨a,l,rfl,k⟩:=exS h
 obtain⟨b,c,rfl⟩:=ex2 k
 exact⟨a,b,c,rfl⟩
theorem ex4 {us:List Value}(h:us.length=4):∃a b c d,us=[a,b,c,d]:=by
 obtain⟨a,l,rfl,k⟩:=exS h
 obtain⟨b,c,d,rfl⟩:=ex3 k
 exact⟨a,b,c,d,rfl⟩
theorem ex5 {us:List Value}(h:us.length=5):∃a b c d e,us=[a,b,c,d,e]:=by
 obtain⟨a,l,rfl,k⟩:=exS h
 obtain⟨b,c,d,e,rfl⟩:=ex4 k
 exact⟨a,b,c,d,e,rfl⟩
theorem ex6 {us:List Value}(h:us.length=6):∃a b c d e f,us=[a,b,c,d,e,f]:=by
 obtain⟨a,l,rfl,k⟩:=exS h
 obtain⟨b,c,d,e,f,rfl⟩:=ex5 k
 exact⟨a,b,c,d,e,f,rfl⟩
end L2
namespace L2
open PySem PySem.W PyProof.Rows
section
variable {X:Cx}
end
end L2
namespace L2
open PySem PySem.Spec PyProof.Rows PySem.SeqAt
abbrev LA:=Addr×List RA
def tot (ls:List LA):List (Int×Int):=ls.flatMap λx=>sps x.2
section
variable {X:Cx}
end
section
variable {X:Cx}
end
section
variable {cm:Bool}{P:Program}{w:World}{K:W.Frag}{mg:Str->Option Value}{base:Heap}{CX:CXT}{k:Nat}{f:Addr}{fd:FuncData}{ps:List Str}{sp sp':Sp}
end
section
variable {X:Cx}
end
section
variable {X:Cx}{K:W.Frag}
end
end L2
namespace L2
open PySem PySem.Spec PyProof.Rows
section
variable {X:Cx}{tg:Expr}
end
section
variable {X:Cx}
end
end L2
namespace L2
open PySem PySem.Spec PyProof.Rows PySem.Calls
theorem Ph {i0:Nat}{x0:Str}{X:Cx}{elt tgt iter:Expr}{ifs:List Expr}{scope:Scope}{pos pos' spos:Pos}{N:List Str}{cap:List (Option Nat)}{wi:TI}{g:TG}{tt:TT}{te:TE}(hN0:X.N.Nodup)(hi0:X.N[i0]?=some x0)(hx0:X.env.scope.names.lookup x0=some .local)
  (S:F9 X.env.scope scope X.N N cap) (hc:X.calm=true) (hi:PI X tgt iter wi)
  (hb:∀(C:Addr)(s:Shared)(H:Hp)(fp:List Addr),PG (E9 X N scope C s H fp) tgt g/\Ado (E9 X N scope C s H fp) ifs tt/\PE (E9 X N scope C s H fp) elt te)
  (hclos:closureFor scope X.env=pure (e7 X.env scope.names []):=by with_unfolding_all rfl) (hs:∀x,foldedSetIterable iter X.env x=pure x:=by intro _;rfl)
  (hsw:swapsWith (.ListComp elt [⟨tgt,iter,ifs,0⟩] scope pos) (some (.Name x0 pos')) spos.line X.env=pure true:=by with_unfolding_all rfl):
  PS X (.Assign [.Name x0 pos'] (.ListComp elt [⟨tgt,iter,ifs,0⟩] scope pos) spos) (Aes (Adc wi cap g tt te) (dq i0)):=by
 intro pins s σ H D0 I h
 rw[exec_Assign_Name_used _ _ _ _ hsw]
 refine Aga (wpAny_standAt (Aga ?_))
 show wpAny (model X.prog X.w) X.A (comprehension (.ListComp elt [⟨tgt,iter,ifs,0⟩] scope pos) scope X.env (firstIterPos [⟨tgt,iter,ifs,0⟩] pos) (newList []) (firstAsync [⟨tgt,iter,ifs,0⟩]) (firstIter [⟨tgt,iter,ifs,0⟩] X.env) (some (assign (.Name x0 pos') X.env))>>= λ_=>pure ()) _ _ _
 refine Aga (Aid (Q:=λ_ s'=>SP X pins D0 .next s') ?main (λ_ s' z=>Agb (Agb z)) λ_ _ z=>z)
 refine wpAny_comprehension_free (use:=some (assign (.Name x0 pos') X.env)) (cl:=e7 X.env scope.names []) rfl hs hclos S.kind S.names ?_
 refine thn (hi pins s σ H _ I h) λv s1 h1=>thn h1 λitv s2 h2=>?_
 obtain⟨it,fp,tn,J,H2,e,I2,T,st2,f2,k⟩:=h2
 subst e
 refine Ah5 (wpAny_newFunctionEnv S.cell (by intro y hy;simp at hy) (λh₁ hns₁ hsb₁=>?_) S.kind)
 dsimp only at hns₁ hsb₁ ⊢
 have I3:Inv X pins σ (upd H2 s2.heap.objs.size (.lst [])) {s2 with heap:=s2.heap.push {cls:=.type "list",dict:=none,data:=.seq ([]:List Value).toArray}}:=I2.lnew (t':=s2.toks) .nil (Ahn _)
 obtain⟨W,⟨m0,w0⟩,turn⟩:=k s2.heap.objs.size I2.fresh
 generalize hD:s2.heap.objs.size=D at*
 generalize hsD:({s2 with heap:=s2.heap.push {cls:=.type "list",dict:=none,data:=.seq ([]:List Value).toArray}}:Shared)=sD at*
 have hsz:sD.heap.objs.size=D+1:=by rw[←hsD,←hD];exact Ahv ..
 have hheap:s2.heap.push {cls:=.type "list",dict:=none,data:=.seq ([]:List Value).toArray}=sD.heap:=by rw[←hsD]
 rw[hheap] at hns₁ hsb₁ ⊢
 have up:∀b o,s2.heap.get? b=some o->sD.heap.get? b=some o:=λb o e=>by rw[←hheap];exact Agc _ e
 have keep:∀b o,sD.heap.get? b=some o->h₁.get? b=some o:=λb o e=>hsb₁.extBut b o (Agv (Agk e)) (Agc _ e)
 have hfD:D∉fp:=λhm=>by
  obtain⟨o,e,_⟩:=T.obj _ _ st2 D hm
  have:=Agk e
  rw[hD] at this
  exact Ahp _ this
 have f3:∀b∈fp,n6 X pins (upd H2 D (.lst [])) b:=λb hb=>⟨by rw[Ak (λz=>hfD (by rw[←z];exact hb))];exact(f2 b hb).1,(f2 b hb).2⟩
 have hlt:∀b∈fp,b<sD.heap.objs.size:=λb hb=>by
  obtain⟨o,e,_⟩:=T.obj _ _ st2 b hb
  exact Agk (up b o e)
 have I4:=Xk (t':=s2.toks+([]:List (Str×Value)).length) S I3 f3 hlt hns₁ keep
 obtain⟨hg,hif,hel⟩:=hb sD.heap.objs.size sD (upd H2 D (.lst [])) fp
 have st4:tn 0 h₁:=T.keep _ _ _ st2 λb hb o e=>keep b o (up b o e)
 have stat:∀{H':Hp},(∀b∈fp,H' b=none)->∀b∈fp,n6 (E9 X N scope sD.heap.objs.size sD (upd H2 D (.lst [])) fp) [] H' b:=λhn b hb=>
  ⟨hn b hb,(I4.ok.exf b hb).1,I4.ok.exfs b hb,.inl hb,λx c h z=>(I4.ok.exf b hb).2 x c h z,λp hp=>(by simp[E9] at hp)⟩
 have loop:codeAny (model X.prog X.w) X.A (.compLoop (.ListComp elt [⟨tgt,iter,ifs,0⟩] scope pos) 0 (.ref it) (.ref D) (compEnvC scope (e7 X.env scope.names []) sD.heap.objs.size X.env))
   (compPost (model X.prog X.w) X.A X.xe (some (assign (.Name x0 pos') X.env)) (λ_ s'=>SP X pins D0 .next s') (.ref D) sD.heap.objs.size) {sD with heap:=h₁,toks:=s2.toks+([]:List (Str×Value)).length}:=by
  refine Tq (λn s'=>∃i ys σ' H',Inv (E9 X N scope sD.heap.objs.size sD (upd H2 D (.lst [])) fp) [] σ' H' s'/\tn i s'.heap/\(∀b∈fp,H' b=none)/\W i n ys σ' H') ?_ m0
   ⟨0,[],Uk cap σ,_,I4,st4,λb hb=>(f3 b hb).1,w0⟩
  rintro n s5 ⟨i,ys,σ5,H5,I5,st5,fr5,w5⟩
  obtain⟨hD5,way⟩:=turn i n ys σ5 H5 w5
  rcases way with⟨stop,q⟩|⟨go,step⟩
  ·
   refine thn (T.done (E9 X N scope sD.heap.objs.size sD (upd H2 D (.lst [])) fp) rfl rfl rfl hc i [] s5 σ5 H5 (λ_ _=>False) I5 (stat fr5) st5 stop) λr s6 hz=>?_
   obtain⟨hr,I6⟩:=hz
   subst hr
   obtain⟨m,hn,_⟩:=I6.loc
   have hn':s6.heap.Ns sD.heap.objs.size m:=hn
   have J6:Inv X pins σ H5 s6:=jq I3 f3 I6 (Heap.SameBut.refl _ _)
   have cellNe:∀x c,X.env.cells.lookup x=some c->c≠sD.heap.objs.size:=λx c h z=>by
    obtain⟨v,q⟩:=I3.cell x c h
    have:=q.lt
    rw[z] at this
    exact Ahp _ this
   refine wpAny_assign_Name (aq J6 hN0 hi0 (.inl hx0) (v:=.ref D) rfl (λs7 I7 ⟨a7,sb7,ha7⟩=>⟨m,hn'.sameBut sb7 (λz=>?_),λh' sb=>?_⟩) (.inr hx0))
   ·
    rcases ha7 with e|e
    · exact absurd (z.trans e) (Aip I3.lt)
    · exact cellNe _ _ e z.symm
   ·
    refine⟨_,H5,I7.turned (t':=s7.toks) (it:=sD.heap.objs.size) (λb o hb e=>(sb.2 b hb).trans e) I6.free (Aip I3.lt) (.inr I3.sz) cellNe λp hp z=>?_,q⟩
    have:=Agk (I3.pin p hp).1
    rw[z] at this
    exact Ahp _ this
  ·
   refine thn (T.item (E9 X N scope sD.heap.objs.size sD (upd H2 D (.lst [])) fp) rfl rfl rfl hc i [] s5 σ5 H5 (λ_ _=>False) I5 (stat fr5) st5 go) λr s6 hz=>?_
   obtain⟨u,hr,h6⟩:=hz
   subst hr
   refine thn h6 λ_ s7 hz=>?_
   obtain⟨x,H7,I7,r7,y7,st7,fr7⟩:=hz
   have I7':=I7.pinned (stat fr7) (T.obj _ _ st7)
   refine thn (hg _ s7 σ5 H7 x u _ I7' r7 (step x H7 y7)) λ_ s8 hz=>?_
   obtain⟨σ8,H8,I8,q8⟩:=hz
   refine thn (hif _ s8 σ8 H8 _ I8 q8) λb s9 hz=>?_
   obtain⟨H9,I9,q9⟩:=hz
   have back:∀{σ':St}{H':Hp}{s':Shared},Inv (E9 X N scope sD.heap.objs.size sD (upd H2 D (.lst [])) fp) ([]++Xz fp s7.heap) σ' H' s'->tn (i+1) s'.heap/\∀b∈fp,H' b=none:=λ{σ' H' s'}J'=>
    ⟨T.keep _ _ _ st7 λb hb o e=>(J'.pin (b,o) (Ag5 _ (Ag5 _ (Lq hb e)))).1,λb hb=>by
     obtain⟨o,e,d⟩:=T.obj _ _ st7 b hb
     exact(J'.pin (b,o) (Ag5 _ (Ag5 _ (Lq hb e)))).2.1⟩
   cases b with
   |
    false=>
    obtain⟨m',hm,w9⟩:=(show ∃m',m'<n/\W (i+1) m' ys σ8 H9 from q9)
    exact⟨m',hm,i+1,ys,σ8,H9,I9.unpinned,(back I9).1,(back I9).2,w9⟩
   |
    true=>
    refine thn (hel _ s9 σ8 H9 _ I9 (show te σ8 H9 _ from q9)) λy s10 hz=>?_
    obtain⟨v10,H10,I10,r10,q10⟩:=hz
    obtain⟨hD10,hz,m',hm,w10⟩:=q10
    refine thn (Qy (X:=E9 X N scope sD.heap.objs.size sD (upd H2 D (.lst [])) fp) _ s10 σ8 H10 (.ref D) [v10] (.ref D) [y] (λ_ H'=>H'=upd H10 D (.lst (ys++[v10]))) I10 rfl (.cons r10 .nil) ⟨D,ys,v10,rfl,rfl,hD10,hz,rfl⟩) λ_ s11 hz=>?_
    obtain⟨v11,H11,I11,_,e11⟩:=hz
    subst e11
    exact⟨m',hm,i+1,ys++[v10],σ8,_,I11.unpinned,(back I11).1,(back I11).2,w10⟩
 subst hsD
 subst hD
 exact codeAny_compStart_list loop (T.self _ 0 _ _ _ st4 loop)
end L2
namespace L2
open PySem PySem.Spec PyProof.Rows PySem.Calls PySem.SeqAt
section
variable {X:Cx}
end
end L2
namespace L2
open PySem PySem.Spec PyProof.Rows
section
variable {X:Cx}{CX:CXT}{cm:Bool}{k:Nat}{f:Addr}{fd:FuncData}{ps:List Str}{sp:Sp}{dvs:List V}{ds:List Value}{E:St->XK}{x:Str}{p pos:Pos}{e:Expr}{es:List Expr}{t:TA}{tf:TE}
end
end L2
namespace L2
open PySem PySem.Spec PySem.Calls PyProof.Rows
section
variable {X:Cx}{C:Addr}{x:Str}{p pos:Pos}
end
section
variable {X:Cx}{m:Str}{apos pos:Pos}{o e:Expr}{es:List Expr}{ta:TE}{t:TA}{E:St->XK}
structure Afw (X:Cx)(m:Str)(n:Nat)(C:Addr)(R:V->List V->Hp->VK->XK->Prop):Prop where
 cls:Cls X.K C
 run:∃(f:Addr)(fd:FuncData)(ps:List Str)(ds:List Value)(dvs:List V)(cm:Bool)(k:Nat)(sp:Sp),Meth X.K C m f/\FnOk X.prog X.w X.K X.mg X.base (CXe X.prog X.w) cm k f fd ps sp/\Room cm k X.A/\Binds X.K fd ps ds/\Vals dvs ds/\
  ∀x vs H Q E,vs.length=n->R x vs H Q E->sp (x::(vs++dvs)) H Q E
def Adg (m:Str)(n:Nat)(D:Addr->(V->List V->Hp->VK->XK->Prop)->Prop)(E:St->XK)(ta:TE)(t:TA):TE:=λσ H Q=>ta σ H λx H1=>∃a C dx fs R,x=.ref a/\H1 a=some (.ins C dx fs)/\fs.lookup m=none/\D C R/\
 t σ H1 λvs H2=>vs.length=n/\R x vs H2 Q (E σ)
theorem Pq {pl:Sem Bool}{n:Nat}{D:Addr->(V->List V->Hp->VK->XK->Prop)->Prop}(hx:∀σ,Zw (CXe X.prog X.w) X σ (E σ))(he:PE X o ta)(hD:∀C R,D C R->Afw X m n C R)(ha:PA X (e::es) t)
  (hst:starEach (e::es) X.env=(false,eval e X.env)::starEach es X.env:=by rfl) (hpl:(backTo pos (starEach es X.env)).any (·.1)=false:=by rfl)
  (ht:eval (.Call (.Attribute o m apos) (e::es) [] pos) X.env=(do
   let ov ←eval o X.env
   standAt apos.atName
   let (f,first) ←holding [ov] (getMethod ov m pl)
   callWith pos f first (backTo pos (starEach (e::es) X.env)) (backToKw pos (keywordEach [] X.env))):=by rfl):
  PE X (.Call (.Attribute o m apos) (e::es) [] pos) (Adg m n D E ta t):=by
 intro pins s σ H Q I h
 refine W.methodCall_KW (pl:=pl) (thn (he pins s σ H _ I h) λu s1 ⟨x,H1,I1,rx,a,C,dx,fs,R,ex,ea,l,d,q⟩=>?_) ht
 subst ex
 obtain rfl:u=Value.ref a:=rx
 obtain⟨c,f,fd,ps,ds,dvs,cm,k,sp,hm,F,hr,hb,hd,hR⟩:=hD C R d
 refine Sl I1 ea c hm l ?_
 refine W.callWith_K (first:=[.ref a]) (h₀:=X.base) I.ok.mod.kin hm.kp (thn (ha pos pins s1 σ H1 _ I1 q) λus s2 ⟨vs,H2,I2,r,hn,q2⟩=>⟨I2.kIn,?_⟩) hst hpl
 have q3:=hR _ _ _ _ (E σ) hn q2
 have r2:Vals ((V.ref a::vs)++dvs) ((Value.ref a::us)++ds):=Vals.append (.cons rfl r) hd
 have hl:((Value.ref a::us)++ds).length=ps.length:=by rw[←r2.length];exact F.len _ _ _ _ q3
 refine Alr (Ajc (F.run X.A X.stack s2 H2 ⟨Value.ref a::us,[]⟩ ((Value.ref a::us)++ds) ((V.ref a::vs)++dvs) Q (E σ) hr I2.env0 (hb s2 (Value.ref a::us) I2.kIn hl) r2 q3) λfl s' hq=>?_)
 rcases fl with ev|fl
 · exact hx σ pins H2 s2 ev s' I2 hq
 ·
  cases fl with
  | ret u=>exact I2.after hq
  | next=>exact hq.elim
  | brk=>exact hq.elim
  | cont=>exact hq.elim
end
end L2
namespace L2
open PySem PySem.Spec PyProof.Rows
section
variable {X:Cx}{CX:CXT}{cm:Bool}{k:Nat}{f C:Addr}{fd:FuncData}{ps:List Str}{sp:Sp}{dvs:List V}{ds:List Value}{E:St->XK}{x:Str}{p pos:Pos}{e:Expr}{es:List Expr}{t:TA}
end
end L2
namespace L2
open PySem
def lcg (m i:Nat):Nat:=(i*5+1)%(m+1)
def lit (m:Nat):Nat->Nat->Nat
 | 0,i=>i
 | n+1,i=>lit m n (lcg m i)
theorem Zm (m:Nat):∀(n k i:Nat),lit m (n+k) i=lit m k (lit m n i)
 | 0,k,i=>by rw[Akh];rfl
 | n+1,k,i=>by rw[Alo];exact Zm m n k (lcg m i)
def Cyc (m:Nat):Prop:=∀i j,i<=m->j<=m->∃n,n<=m/\lit m n i=j
def orb (m:Nat):Nat->Nat->List Nat
 | 0,_=>[]
 | n+1,i=>i::orb m n (lcg m i)
theorem ox {m:Nat}:∀{n i j:Nat},j∈orb m n i->∃k,k<n/\lit m k i=j
 | 0,_,_,h=>nomatch h
 |
  n+1,i,j,h=>by
  rcases Agx.mp h with rfl|h
  · exact⟨0,Ajh _,rfl⟩
  ·
   obtain⟨k,hk,e⟩:=ox h
   exact⟨k+1,Al6 hk,e⟩
theorem kc {m:Nat}(h1:((List.range (m+1)).all λj=>(orb m (m+1) 0).contains j)=true)(h2:lit m (m+1) 0=0):Cyc m:=λi j hi hj=>by
 have at_:∀j,j<=m->∃k,k<m+1/\lit m k 0=j:=λj hj=>ox (List.contains_iff_mem.mp (List.all_eq_true.mp h1 j (Ahm.mpr (by lia))))
 obtain⟨a,ha,rfl⟩:=at_ i hi
 obtain⟨b,hb,rfl⟩:=at_ j hj
 by_cases h:a<=b
 · exact⟨b-a,by lia,by rw[←Zm,Nat.add_sub_cancel' h]⟩
 ·
  refine⟨m+1-a+b,by lia,?_⟩
  rw[←Zm,show a+(m+1-a+b)=(m+1)+b by lia,Zm,h2]
theorem Af8:Cyc 7:=kc (by decide+kernel) (by decide+kernel)
theorem Aeh:Cyc 31:=kc (by decide+kernel) (by decide+kernel)
theorem Adb:Cyc 127:=kc (by decide+kernel) (by decide+kernel)
theorem Ac3:Cyc 511:=kc (by decide+kernel) (by decide+kernel)
def lps (m:Nat):Nat->Nat×Nat->Nat×Nat
 | 0,x=>x
 | n+1,x=>lps m n (SetTable.leap m x.1 x.2)
theorem j8 (m:Nat):∀(n i:Nat),lps m n (i,0)=(lit m n i,0)
 | 0,i=>rfl
 |
  n+1,i=>by
  show lps m n ((i*5+1+0/32)%(m+1),0/32)=_
  rw[show 0/32=0 from rfl,Nat.add_zero]
  exact j8 m n (lcg m i)
theorem uz (m:Nat):∀(n i p:Nat),(lps m n (i,p)).2=p/32 ^ n
 | 0,i,p=>by rw[Nat.pow_zero,Nat.div_one];rfl
 |
  n+1,i,p=>by
  show(lps m n ((i*5+1+p/32)%(m+1),p/32)).2=_
  rw[uz m n,Nat.div_div_eq_div_mul,Nat.pow_succ,Nat.mul_comm]
theorem vg (m:Nat):∀(n k:Nat)(x:Nat×Nat),lps m (n+k) x=lps m k (lps m n x)
 | 0,k,x=>by rw[Akh];rfl
 | n+1,k,x=>by rw[Alo];exact vg m n k _
theorem ze {m:Nat}:∀(n:Nat){x:Nat×Nat},x.1<=m->(lps m n x).1<=m
 | 0,_,h=>h
 | n+1,x,h=>ze n (x:=SetTable.leap m x.1 x.2) (Aii (Akq _ (Ajh _)))
theorem qb {m i p j:Nat}(hc:Cyc m)(hi:i<=m)(hp:p<2 ^ 64)(hj:j<=m):∃n,n<=m+13/\(lps m n (i,p)).1=j:=by
 have h2:(lps m 13 (i,p)).2=0:=by rw[uz];exact Nat.div_eq_of_lt (Ag4 hp (by decide))
 have h1:(lps m 13 (i,p)).1<=m:=ze 13 (x:=(i,p)) hi
 obtain⟨n,hn,e⟩:=hc _ j h1 hj
 refine⟨13+n,by lia,?_⟩
 rw[vg,show lps m 13 (i,p)=((lps m 13 (i,p)).1,0) from Prod.ext rfl h2,j8]
 exact e
end L2
namespace L2
open PySem
open PySem.SetTable (Probe Met)
def adv (t:SetTable):Nat->Probe->Probe
 | 0,p=>p
 | n+1,p=>adv t n (t.advance p)
theorem O4 (t:SetTable):∀(n k:Nat)(p:Probe),adv t (n+k) p=adv t k (adv t n p)
 | 0,k,p=>by rw[Akh];rfl
 | n+1,k,p=>by rw[Alo];exact O4 t n k _
theorem Yf (t:SetTable):∀(k:Nat)(p:Probe),k<=p.more->adv t k p={p with j:=p.j+k,more:=p.more-k}
 | 0,p,_=>rfl
 |
  k+1,p,h=>by
  show adv t k (t.advance p)=_
  have e:t.advance p={p with j:=p.j+1,more:=p.more-1}:=by
   unfold SetTable.advance
   rw[if_pos (by lia)]
  rw[e,Yf t k _ (by show k<=p.more-1;lia)]
  show({p with j:=p.j+1+k,more:=p.more-1-k}:Probe)=_
  rw[show p.j+1+k=p.j+(k+1) by lia,show p.more-1-k=p.more-(k+1) by lia]
theorem yj (m i:Nat):SetTable.runEnd m i-i<=9:=by
 unfold SetTable.runEnd
 split<;>lia
def Rs (m:Nat)(p:Probe):Prop:=p.j=p.i/\p.more=SetTable.runEnd m p.i-p.i
theorem j4 {t:SetTable}{p:Probe}(h:Rs t.mask p):∃k,k<=10/\Rs t.mask (adv t k p)/\((adv t k p).i,(adv t k p).perturb)=SetTable.leap t.mask p.i p.perturb:=by
 have hl:p.more<=9:=by rw[h.2];exact yj _ _
 refine⟨p.more+1,by lia,?_⟩
 rw[O4,Yf t _ _ (Agi _)]
 show Rs t.mask (t.advance _)/\_
 have e:t.advance {p with j:=p.j+p.more,more:=p.more-p.more}={p with j:=(SetTable.leap t.mask p.i p.perturb).1,more:=SetTable.runEnd t.mask (SetTable.leap t.mask p.i p.perturb).1-(SetTable.leap t.mask p.i p.perturb).1,i:=(SetTable.leap t.mask p.i p.perturb).1,perturb:=(SetTable.leap t.mask p.i p.perturb).2}:=by
  unfold SetTable.advance
  rw[if_neg (by show ¬p.more-p.more>0;lia)]
 refine⟨by rw[e];exact⟨rfl,rfl⟩,?_⟩
 show((t.advance _).i,(t.advance _).perturb)=_
 rw[e]
theorem ud {t:SetTable}:∀(n:Nat){p:Probe},Rs t.mask p->∃k,k<=10*n/\Rs t.mask (adv t k p)/\((adv t k p).i,(adv t k p).perturb)=lps t.mask n (p.i,p.perturb)
 | 0,p,h=>⟨0,Ahn _,h,rfl⟩
 |
  n+1,p,h=>by
  obtain⟨k1,l1,r1,e1⟩:=j4 h
  obtain⟨k2,l2,r2,e2⟩:=ud n r1
  refine⟨k1+k2,by lia,by rw[O4];exact r2,?_⟩
  rw[O4,e2,e1]
  rfl
theorem Abj {t:SetTable}{h:Int}{j:Nat}(hc:Cyc t.mask)(hj:j<=t.mask):∃k,k<=10*(t.mask+13)/\(adv t k (t.probeStart h)).j=j:=by
 have r:Rs t.mask (t.probeStart h):=⟨rfl,rfl⟩
 have hb:SetTable.bits h<2 ^ 64:=by
  unfold SetTable.bits
  have h0:=Aie h (show(2 ^ 64:Int)≠0 by decide)
  have h1:=Ah7 h (show(0:Int)<2 ^ 64 by decide)
  lia
 obtain⟨n,hn,e⟩:=qb (i:=(t.probeStart h).i) (p:=(t.probeStart h).perturb) hc (Aii (Akq _ (Ajh _))) hb hj
 obtain⟨k,hk,r2,e2⟩:=ud n r
 refine⟨k,by lia,?_⟩
 rw[r2.1]
 have:=Ahb Prod.fst e2
 exact this.trans e
def Pi (m:Nat)(p:Probe):Prop:=p.i<=m/\p.j+p.more<=m
theorem yt {m i:Nat}(h:i<=m):i+(SetTable.runEnd m i-i)<=m:=by
 unfold SetTable.runEnd
 split<;>lia
theorem Aca {t:SetTable}{p:Probe}(h:Pi t.mask p):Pi t.mask (t.advance p):=by
 unfold SetTable.advance
 split
 · exact⟨h.1,by show p.j+1+(p.more-1)<=t.mask;have:=h.2;lia⟩
 ·
  have hl:(SetTable.leap t.mask p.i p.perturb).1<=t.mask:=Aii (Akq _ (Ajh _))
  exact⟨hl,yt hl⟩
theorem jh (t:SetTable)(h:Int):Pi t.mask (t.probeStart h):=by
 have hl:SetTable.bits h%(t.mask+1)<=t.mask:=Aii (Akq _ (Ajh _))
 exact⟨hl,yt hl⟩
theorem ic {t:SetTable}:∀(n:Nat){p:Probe},Pi t.mask p->Pi t.mask (adv t n p)
 | 0,_,h=>h
 | n+1,_,h=>ic n (Aca h)
theorem bf (t:SetTable):∀(n:Nat)(p:Probe),(adv t n p).dummy=p.dummy
 | 0,_=>rfl
 |
  n+1,p=>by
  have pd:(t.advance p).dummy=p.dummy:=by unfold SetTable.advance;split<;>rfl
  exact(bf t n (t.advance p)).trans pd
end L2
namespace L2
open PySem
theorem uh {m:Nat}{ow:Array (Option Nat)}:∀(n fuel:Nat)(x:Nat×Nat),n<fuel->(ow.getD (lps m n x).1 (some 0)).isNone=true->∃j,SetTable.layClean.free m ow fuel x.1 x.2=some j/\(ow.getD j (some 0)).isNone=true
 | n,0,x,h,_=>absurd h (Aho _)
 |
  n,fuel+1,x,h,he=>by
  unfold SetTable.layClean.free
  cases hf:(List.range (SetTable.runEnd m x.1+1-x.1)).find? λk=>(ow.getD (x.1+k) (some 0)).isNone with
  |
   some k=>
   have hp:=List.find?_some (p:=λk=>(ow.getD (x.1+k) (some 0)).isNone) hf
   exact⟨x.1+k,rfl,hp⟩
  |
   none=>
   cases n with
   |
    zero=>
    have h0:=List.find?_eq_none.mp hf 0 (Ahm.mpr (by unfold SetTable.runEnd;split<;>lia))
    exact absurd he h0
   | succ n=>exact uh n fuel (SetTable.leap m x.1 x.2) (Nat.lt_of_succ_lt_succ h) he
theorem Aax (h:Int):SetTable.bits h<2 ^ 64:=by
 unfold SetTable.bits
 have h0:=Aie h (show(2 ^ 64:Int)≠0 by decide)
 have h1:=Ah7 h (show(0:Int)<2 ^ 64 by decide)
 lia
theorem t9 {m:Nat}{ow:Array (Option Nat)}{h:Int}{j:Nat}(hc:Cyc m)(hj:j<=m)(he:(ow.getD j (some 0)).isNone=true):∃j',SetTable.layClean.free m ow (SetTable.turns m) (SetTable.bits h%(m+1)) (SetTable.bits h)=some j'/\(ow.getD j' (some 0)).isNone=true:=by
 obtain⟨n,hn,e⟩:=qb (i:=SetTable.bits h%(m+1)) (p:=SetTable.bits h) hc (Aii (Akq _ (Ajh _))) (Aax h) hj
 exact uh n (SetTable.turns m) (SetTable.bits h%(m+1),SetTable.bits h) (by unfold SetTable.turns;lia) (by rw[e];exact he)
def occ (m:Nat)(ow:Array (Option Nat)):List Nat:=(List.range (m+1)).filterMap λj=>ow.getD j none
theorem Aav {ow:Array (Option Nat)}{j:Nat}(h:(ow.getD j (some 0)).isNone=true):j<ow.size/\ow.getD j none=none:=by
 by_cases hj:j<ow.size
 ·
  refine⟨hj,?_⟩
  rw[Agu,Agq hj] at h ⊢
  exact Option.isNone_iff_eq_none.mp h
 ·
  rw[Agu,Aic (by lia)] at h
  cases h
theorem zw {m j k:Nat}{ow:Array (Option Nat)}(hz:ow.size=m+1)(hj:j<ow.size)(he:ow.getD j none=none):(occ m (ow.setIfInBounds j (some k))).Perm (k::occ m ow):=by
 have hm:j∈List.range (m+1):=Ahm.mpr (by lia)
 obtain⟨l1,l2,e⟩:=List.append_of_mem hm
 have nd:(l1++j::l2).Nodup:=e▸List.nodup_range
 rw[List.nodup_append,List.nodup_cons] at nd
 have g:∀{i:Nat}{b:Option Nat},i≠j->(ow.setIfInBounds j b).getD i none=ow.getD i none:=λ{i b}hi=>by
  rw[Agu,Agu,Array.getElem?_setIfInBounds_ne (Aj3 hi)]
 have gj:(ow.setIfInBounds j (some k)).getD j none=some k:=by
  rw[Agu,Array.getElem?_setIfInBounds_self_of_lt hj]
  rfl
 have f:∀l:List Nat,j∉l->l.filterMap (λi=>(ow.setIfInBounds j (some k)).getD i none)=l.filterMap λi=>ow.getD i none:=λl hl=>by
  induction l with
  | nil=>rfl
  |
   cons i l ih=>
   rw[Ah0,Ah0,g λz=>hl (z▸Agj),ih λz=>hl (Agh _ z)]
 have n1:j∉l1:=λz=>nd.2.2 j z j Agj rfl
 have n2:j∉l2:=nd.2.1.1
 unfold occ
 rw[e,List.filterMap_append,List.filterMap_append,Ah0,Ah0,gj,he,f _ n1,f _ n2]
 exact List.perm_middle
theorem wq {m k:Nat}{ow:Array (Option Nat)}(hz:ow.size=m+1)(hk:k<=m)(h:(occ m ow).length=k):∃j,j<=m/\(ow.getD j (some 0)).isNone=true:=by
 by_cases hx:∃j,j<=m/\(ow.getD j (some 0)).isNone=true
 · exact hx
 ·
  have:∀(l:List Nat),(∀j∈l,j<=m)->(l.filterMap λj=>ow.getD j none).length=l.length:=λl=>by
   induction l with
   | nil=>intro _;rfl
   |
    cons j l ih=>
    intro hl
    have hj:=hl j Agj
    have hs:(ow.getD j none).isSome=true:=by
     have h1:j<ow.size:=by lia
     cases e:ow.getD j none with
     | some v=>rfl
     |
      none=>
      refine absurd ⟨j,hj,?_⟩ hx
      rw[Agu,Agq h1] at e ⊢
      have e:ow[j]=none:=e
      show(ow[j]).isNone=true
      rw[e]
      rfl
    obtain⟨v,hv⟩:=Ajg.mp hs
    rw[Ah0,hv,Agr,Agr,ih λi hi=>hl i (Agh _ hi)]
  have:=this (List.range (m+1)) λj hj=>Aii (Ahm.mp hj)
  rw[Ahl] at this
  unfold occ at h
  lia
end L2
namespace L2
open PySem PySem.W PyProof.Rows
def Rises (xs:List Nat):Prop:=xs.Pairwise (· < ·)
theorem Rises.le {xs:Array Nat}(h:Rises xs.toList){i k x y:Nat}(hi:xs[i]?=some x)(hk:xs[k]?=some y)(l:i<=k):x<=y:=by
 rcases Aiq i k with l'|l'
 ·
  rw[←Agt] at hi hk
  obtain⟨a,rfl⟩:=Agl.mp hi
  obtain⟨b,rfl⟩:=Agl.mp hk
  exact Ajz (Aiu.mp h i k a b l')
 ·
  have e:i=k:=by lia
  subst e
  rw[hi] at hk
  have:=Agn hk
  lia
theorem yh {xs:Array Nat}(hx:Rises xs.toList){j:Nat}:∀(f lo hi:Nat),lo<=hi->hi<=xs.size->hi-lo<=f->(∀i x,i<lo->xs[i]?=some x->x<j)->(∀i x,hi<=i->xs[i]?=some x->j<=x)->
  (SetTable.below.go xs j f lo hi)<=xs.size/\(∀i x,i<SetTable.below.go xs j f lo hi->xs[i]?=some x->x<j)/\(∀i x,SetTable.below.go xs j f lo hi<=i->xs[i]?=some x->j<=x):=by
 intro f
 induction f with
 |
  zero=>
  intro lo hi h1 h2 h3 a b
  have e:lo=hi:=by lia
  subst e
  exact⟨h2,a,b⟩
 |
  succ f ih=>
  intro lo hi h1 h2 h3 a b
  unfold SetTable.below.go
  split
  ·
   rename_i hl
   have hm:(lo+hi)/2<xs.size:=by lia
   have em:xs[(lo+hi)/2]?=some (xs[(lo+hi)/2]):=Agq hm
   have eg:xs.getD ((lo+hi)/2) j=xs[(lo+hi)/2]:=by unfold Array.getD;rw[dif_pos hm];rfl
   dsimp only
   rw[eg]
   split
   ·
    rename_i hj
    refine ih _ _ (by lia) h2 (by lia) (λi x hi' hxx=>?_) b
    exact Ag2 (hx.le hxx em (by lia)) hj
   ·
    rename_i hj
    refine ih _ _ (by lia) (by lia) (by lia) a (λi x hi' hxx=>?_)
    have:=hx.le em hxx hi'
    lia
  ·
   have e:lo=hi:=by lia
   subst e
   exact⟨h2,a,b⟩
theorem below_at {xs:Array Nat}(hx:Rises xs.toList)(j:Nat):SetTable.below xs j<=xs.size/\(∀i x,i<SetTable.below xs j->xs[i]?=some x->x<j)/\(∀i x,SetTable.below xs j<=i->xs[i]?=some x->j<=x):=by
 unfold SetTable.below
 refine yh hx _ _ _ (Ahn _) (Agi _) (Agi _) (λi x h=>absurd h (Aho _)) (λi x h e=>?_)
 rw[Aic h] at e
 cases e
theorem mh {xs:Array Nat}(hx:Rises xs.toList){i p:Nat}(h:xs[i]?=some p):SetTable.below xs (p+1)=i+1:=by
 obtain⟨b0,b1,b2⟩:=below_at hx (p+1)
 rcases Alu (SetTable.below xs (p+1)) (i+1) with l|l|l
 ·
  have:=b2 i p (by lia) h
  lia
 · exact l
 ·
  have hs:i+1<xs.size:=by lia
  have e1:=Agq hs
  have:=b1 (i+1) _ l e1
  have hi:i<xs.size:=by lia
  have e0:=Agq hi
  rw[e0] at h
  have hp:=Agn h
  have hlt:xs[i]<xs[i+1]:=by
   have:=Aiu.mp hx i (i+1) (by simpa using hi) (by simpa using hs) (Ah9 _)
   simpa using this
  lia
theorem md {xs:Array Nat}(hx:Rises xs.toList):SetTable.below xs 0=0:=by
 obtain⟨b0,b1,b2⟩:=below_at hx 0
 rcases Nat.eq_zero_or_pos (SetTable.below xs 0) with e|e
 · exact e
 ·
  have hs:0<xs.size:=by lia
  exact absurd (b1 0 _ e (Agq hs)) (Aho _)
theorem Vh {t:SetTable}(ht:Rises t.place.toList){j:Nat}(h:∀i,t.slot j≠ .live i):j∉t.place.toList:=by
 intro hm
 obtain⟨i,hi⟩:=Ahw hm
 rw[Agt] at hi
 obtain⟨b0,b1,b2⟩:=below_at ht j
 have hbi:SetTable.below t.place j<=i:=by
  rcases Aiq i (SetTable.below t.place j) with l|l
  · exact absurd (b1 i j l hi) (Ahp _)
  · exact l
 have his:i<t.place.size:=by
  rcases Aiq i t.place.size with l|l
  · exact l
  · rw[Aic l] at hi;cases hi
 have eb:=Agq (show SetTable.below t.place j<t.place.size by lia)
 have e1:=b2 _ _ (Agi _) eb
 have e2:=ht.le eb hi hbi
 refine h (SetTable.below t.place j) ?_
 unfold SetTable.slot
 dsimp only
 rw[eb,show t.place[SetTable.below t.place j]=j from by lia]
 simp
theorem yu {t:SetTable}(ht:Rises t.place.toList){j:Nat}(h:j∉t.place.toList):Rises (t.put j).1.place.toList:=by
 show Rises (SetTable.insertAt t.place (SetTable.below t.place j) j).toList
 rw[Ak7]
 obtain⟨b0,b1,b2⟩:=below_at ht j
 have lo:∀x∈t.place.toList.take (SetTable.below t.place j),x<j:=λx hx=>by
  obtain⟨i,hi⟩:=Ahw hx
  rw[Aki] at hi
  split at hi
  ·
   rename_i hl
   rw[Agt] at hi
   exact b1 i x hl hi
  · cases hi
 have hi:∀x∈t.place.toList.drop (SetTable.below t.place j),j<x:=λx hx=>by
  have hm:=List.mem_of_mem_drop hx
  obtain⟨i,hi⟩:=Ahw hx
  rw[Ajn,Agt] at hi
  have:=b2 _ x (Akz _ _) hi
  rcases Aiq j x with l|l
  · exact l
  · exact absurd (show j=x by lia) (λz=>h (by rw[z];exact hm))
 have e:Rises (t.place.toList.take (SetTable.below t.place j)++t.place.toList.drop (SetTable.below t.place j)):=by rw[Ai3];exact ht
 obtain⟨e1,e2,_⟩:=List.pairwise_append.mp e
 refine List.pairwise_append.mpr ⟨e1,List.pairwise_cons.mpr ⟨hi,e2⟩,λa ha b hb=>?_⟩
 rcases Agx.mp hb with rfl|hb
 · exact lo a ha
 · exact Nat.lt_trans (lo a ha) (hi b hb)
theorem mz {t:SetTable}{h:Int}:∀(f:Nat)(p:SetTable.Probe),(∀d,p.dummy=some d->t.slot d=.dummy)->∀j dm,SetTable.probe.go t (λ_=>h+1) h f p=some (.empty j dm)->t.slot j=.empty/\∀d,dm=some d->t.slot d=.dummy:=by
 intro f
 induction f with
 | zero=>intro p _ j dm e;cases e
 |
  succ f ih=>
  intro p hp j dm e
  have adv:∀(q:SetTable.Probe),(t.advance q).dummy=q.dummy:=λq=>by unfold SetTable.advance;split<;>rfl
  unfold SetTable.probe.go at e
  split at e
  ·
   rename_i hs
   injection e with e
   injection e with e1 e2
   subst e1;subst e2
   exact⟨hs,hp⟩
  ·
   rename_i hs
   refine ih _ (λd hd=>?_) j dm e
   rw[adv] at hd
   injection hd with hd
   rw[←hd]
   exact hs
  ·
   rw[if_neg (by simp;lia)] at e
   refine ih _ (λd hd=>?_) j dm e
   rw[adv] at hd
   exact hp d hd
theorem Y5 {t:SetTable}(ht:Rises t.place.toList){h:Int}{j:Nat}{b:Bool}(e:t.freeSlot h=some (j,b)):j∉t.place.toList:=by
 unfold SetTable.freeSlot at e
 split at e
 ·
  rename_i j0 dm hp
  injection e with e
  obtain⟨s1,s2⟩:=mz _ _ (λd hd=>by cases hd) _ _ hp
  injection e with e1 e2
  cases dm with
  |
   none=>
   have e1':j0=j:=e1
   subst e1'
   exact Vh ht λi z=>by rw[s1] at z;cases z
  |
   some d=>
   have e1':d=j:=e1
   subst e1'
   exact Vh ht λi z=>by rw[s2 d rfl] at z;cases z
 · cases e
def vt (b:Bool)(t:SetTable):Prop:=Rises t.place.toList/\t.led=b
theorem x9:∀n,Rises (Array.range n).toList:=λn=>by
 rw[Array.toList_range]
 exact Ak3
theorem Mb {b:Bool}{t:SetTable}(n:Nat)(h:vt b t):vt b (t.standIn n):=⟨x9 n,h.2⟩
theorem W9 {b:Bool}{t:SetTable}(n:Nat)(h:vt b t):vt b (t.orStandIn n):=by
 unfold SetTable.orStandIn
 split
 · exact h
 · exact Mb n h
theorem g4 {b:Bool}{t:SetTable}(h:vt b t)(es:Array (Int×Value))(k:Int)(x:Value):vt b (layNew t es k x).2.1:=by
 unfold layNew
 split
 ·
  rename_i j wd hf
  exact W9 _ ⟨yu h.1 (Y5 h.1 hf),h.2⟩
 · exact Mb _ h
theorem uu {f:Nat->Option Nat}:∀(n:Nat),Rises (((List.range n).filterMap λj=>(f j).map (j,·)).map (·.1)):=by
 intro n
 have hr:(List.range n).Pairwise (· < ·):=Ak3
 generalize List.range n=l at hr
 induction l with
 | nil=>exact .nil
 |
  cons a l ih=>
  obtain⟨h1,h2⟩:=Ajl.mp hr
  cases hf:f a with
  | none=>rw[Aks (by rw[hf];rfl)];exact ih h2
  |
   some v=>
   rw[Aji (b:=(a,v)) (by rw[hf];rfl),Agy]
   refine List.pairwise_cons.mpr ⟨λx hx=>?_,ih h2⟩
   obtain⟨⟨y,z⟩,hy,rfl⟩:=Ag7.mp hx
   obtain⟨c,hc,e⟩:=Aif.mp hy
   obtain⟨_,_,e⟩:=Ahc.mp e
   injection e with e1 e2
   subst e1
   exact h1 _ hc
theorem X4 {b:Bool}{t:SetTable}(h:vt b t)(es:Array (Int×Value))(k:Nat):vt b (relayAll t es k).2.1:=by
 unfold relayAll
 split
 ·
  rename_i t' order hr
  dsimp only
  split
  ·
   unfold SetTable.relaid SetTable.laid at hr
   obtain⟨ow,_,e⟩:=Akx.mp hr
   have e':=Agn e
   have e1:=Ahb Prod.fst e'
   dsimp only at e1
   rw[←e1]
   exact⟨uu _,h.2⟩
  · exact Mb _ h
 · exact Mb _ h
def Ti (w:World):Bool:=!w.params.followText "set-order"
section
variable (prog:Program)(w:World)
structure SetP (es:Array (Int×Value))(t:SetTable)(ds:List Int):Prop where
 el:ElemsOf (intKind prog w) es.toList
 ks:(es.toList.map λe=>Afb e.2).Perm ds
 nd:ds.Nodup
 sz:es.size<scanBound
 ft:t.fits es.size=true
 tb:vt (Ti w) t
def Br (es:Array (Int×Value))(ep:Nat)(t:SetTable):Obj:={cls:=.type "set",dict:=none,data:=.set es ep t}
def SetI (a:Addr)(ds:List Int)(h:Heap):Prop:=∃es ep t,h.get? a=some (Br es ep t)/\SetP prog w es t ds
end
section
variable {prog:Program}{w:World}{A:Around}{E:Value->Shared->Prop}{s:Shared}{es:Array (Int×Value)}{t:SetTable}{ds:List Int}{a:Addr}
theorem SetP.len (h:SetP prog w es t ds):ds.length=es.size:=by rw[←h.ks.length_eq,Agd,Agg]
theorem SetP.ints (h:SetP prog w es t ds):∀e∈es.toList,∃k u,e.2=.int k u:=λe he=>by
 obtain⟨⟨k,hk,_⟩,_⟩:=h.el e he
 obtain⟨u,e⟩:=Ahz (show Value.isInt k e.2=true from hk)
 exact⟨k,u,e⟩
theorem SetP.has (h:SetP prog w es t ds)(k:Int):(∃e∈es.toList,(intKind prog w).is k e.2=true)↔k∈ds:=by
 rw[←h.ks.mem_iff,List.mem_map]
 constructor
 ·
  rintro⟨e,he,hk⟩
  refine⟨e,he,?_⟩
  obtain⟨u,e'⟩:=Ahz (show Value.isInt k e.2=true from hk)
  rw[e'];rfl
 ·
  rintro⟨e,he,hk⟩
  refine⟨e,he,?_⟩
  obtain⟨m,u,e'⟩:=h.ints e he
  rw[e'] at hk ⊢
  have hk':m=k:=hk
  rw[hk']
  exact intKind_is prog w k u
theorem SetP.more (h:SetP prog w es t ds){k:Int}(u:Tok)(hk:k∉ds)(hr:ds.length+1<scanBound):SetP prog w (layNew t es (hashInt k) (.int k u)).1 (layNew t es (hashInt k) (.int k u)).2.1 (ds++[k]):=by
 have hp:=layNew_perm t es (hashInt k) (.int k u)
 rw[Array.toList_push] at hp
 have hl:=h.len
 refine⟨(h.el.push (k:=k) (intKind_is prog w k u) rfl).perm hp,?_,?_,?_,layNew_fits ..,g4 h.tb ..⟩
 ·
  refine(hp.map _).trans ?_
  rw[Ahg]
  exact h.ks.append_right _
 ·
  refine Alw.mpr ⟨h.nd,Ai4.mpr ⟨Ain,.nil⟩,λx hx y hy=>?_⟩
  rw[Ag3] at hy
  subst hy
  exact λz=>hk (by rw[←z];exact hx)
 ·
  rw[←Agg,hp.length_eq,Agw,Agg]
  show es.size+1<scanBound
  lia
theorem SetP.relay (h:SetP prog w es t ds)(n:Nat):SetP prog w (relayAll t es n).1 (relayAll t es n).2.1 ds:=by
 have hp:=relayAll_perm t es n
 refine⟨h.el.perm hp,(hp.map _).trans h.ks,h.nd,?_,relayAll_fits ..,X4 h.tb ..⟩
 rw[←Agg,hp.length_eq,Agg]
 exact h.sz
theorem SetP.fresh:SetP prog w #[] (.fresh 0 0 (Ti w)) []:=by
 refine⟨λe z=>by simp at z,List.Perm.nil,List.Pairwise.nil,by decide,rfl,List.Pairwise.nil,rfl⟩
theorem stored {h:Heap}{ep:Nat}{es':Array (Int×Value)}{t':SetTable}(ho:h.get? a=some (Br es ep t)):(h.update a (Obj.putSet es' t')).get? a=some (Br es' (ep+1) t'):=
 Ah6 (Obj.putSet es' t') ho rfl
theorem kx {k:Int}{u:Tok}{Q:Bool->Shared->Prop}(hS:SetI prog w a ds s.heap)(hr:ds.length+1<scanBound)
  (h:∀h',Heap.SameBut a s.heap h'->SetI prog w a (if k∈ds then ds else ds++[k]) h'->Q (decide (k∉ds)) {s with heap:=h'}):
  wpAny (model prog w) A (setAddHashed a (.int k u) (hashInt k)) Q E s:=by
 obtain⟨es,ep,t,ho,P⟩:=hS
 have hk:(intKind prog w).is k (.int k u)=true:=intKind_is prog w k u
 unfold setAddHashed setAddHashedIn
 refine Ahd (Aga (Ahy ho rfl P.ft ?_))
 dsimp only
 rw[if_pos (byScan_of (knd:=intKind prog w) rfl P.sz P.el)]
 unfold setAddByScan
 refine Aga (Aga (Aj7 (Aga (wpAny_setScan_of (knd:=intKind prog w) hk ho rfl P.ft P.el ?_))))
 cases hf:es.toList.findIdx? (λe=>(intKind prog w).is k e.2) with
 |
  some j=>
  obtain⟨hj,hpj,_⟩:=List.findIdx?_eq_some_iff_getElem.mp hf
  have hm:k∈ds:=(P.has k).mp ⟨_,Aia hj,hpj⟩
  refine Agb (Agb ?_)
  have z:=h s.heap (Heap.SameBut.refl a s.heap) ⟨es,ep,t,ho,by rw[if_pos hm];exact P⟩
  rw[Agp (λc=>c hm)] at z
  exact z
 |
  none=>
  have hm:k∉ds:=λz=>by
   obtain⟨e,he,w'⟩:=(P.has k).mpr z
   have:=List.findIdx?_eq_none_iff.mp hf e he
   rw[w'] at this
   cases this
  have P1:=P.more u hm hr
  dsimp only
  generalize layNew t es (hashInt k) (.int k u)=L at P1 ⊢
  obtain⟨es1,t1,wd,gv⟩:=L
  dsimp only at P1 ⊢
  have fin:∀h',Heap.SameBut a s.heap h'->SetI prog w a (ds++[k]) h'->Q true {s with heap:=h'}:=λh' sb S'=>by
   have z:=h h' sb (by rw[if_neg hm];exact S')
   rw[Age hm] at z
   exact z
  refine Aga (Aid (Q:=λ_ s'=>s'=s) (E:=E) (by cases gv<;>first|exact Agb rfl|exact Aj7 rfl) (λ_ s' e=>?_) λ_ _ z=>z)
  subst e
  refine Aib (λ_=>Aga (Agb ?_)) (λ_=>Aga (Agb ?_))
  all_goals
   simp only[↓reduceIte]
   refine Aga (Ak5 ho rfl ?_ (Aj8 P1.sz))
   have o1:=stored (es':=es1) (t':=t1) ho
   have sb1:=Ah4 s'.heap a (Obj.putSet es1 t1)
   split
   ·
    have P2:=P1.relay (SetTable.grown es1.size)
    generalize relayAll t1 es1 (SetTable.grown es1.size)=L at P2 ⊢
    obtain⟨es2,t2,gv2⟩:=L
    dsimp only at P2 ⊢
    refine Aga (Aid (Q:=λ_ s2=>s2={s' with heap:=s'.heap.update a (Obj.putSet es1 t1)}) (E:=E) (by cases gv2<;>first|exact Agb rfl|exact Aj7 rfl) (λ_ s2 e=>?_) λ_ _ z=>z)
    subst e
    refine Aga (Ak5 o1 rfl ?_ (Aj8 P2.sz))
    refine Agb (Agb ?_)
    exact fin _ (sb1.trans (Ah4 _ a _)) ⟨_,_,_,stored o1,P2⟩
   ·
    refine Agb (Agb ?_)
    exact fin _ sb1 ⟨_,_,_,o1,P1⟩
end
end L2
namespace L2
open PySem PySem.Spec PyProof.Rows PySem.SeqAt
abbrev NK:=Sum Key (List Key)
section
variable {prog:Program}{w:World}
def NItem (prog:Program)(w:World)(h:Heap):NK->Value->Prop
 | .inl k,v=>(A4 prog w).is k v=true
 | .inr ks,v=>∃a,v=.ref a/\IsTupleKey (A4 prog w) h ks a
inductive NItems (prog:Program)(w:World)(h:Heap):List NK->List Value->Prop
 | nil:NItems prog w h [] []
 | cons {k:NK} {v:Value} {ks:List NK} {vs:List Value}:NItem prog w h k v->NItems prog w h ks vs->NItems prog w h (k::ks) (v::vs)
def IsNest (prog:Program)(w:World)(h:Heap)(ks:List NK)(a:Addr):Prop:=∃o items n,h.get? a=some o/\o.cls=.type "tuple"/\o.data=.seq items n/\NItems prog w h ks items.toList
theorem NItem.inj {h:Heap}{x y:NK}{v:Value}(hx:NItem prog w h x v)(hy:NItem prog w h y v):x=y:=by
 cases x with
 |
  inl x=>
  cases y with
  | inl y=>rw[(A4 prog w).inj _ _ _ hx hy]
  |
   inr y=>
   obtain⟨a,rfl,_⟩:=hy
   exact absurd ((A4 prog w).byValue _ _ hx) (by simp[carriedByValue])
 |
  inr x=>
  obtain⟨a,rfl,p⟩:=hx
  cases y with
  | inl y=>exact absurd ((A4 prog w).byValue _ _ hy) (by simp[carriedByValue])
  |
   inr y=>
   obtain⟨b,e,q⟩:=hy
   cases e
   rw[p.inj q]
theorem NItems.inj {h:Heap}{x y:List NK}{vs:List Value}(hx:NItems prog w h x vs)(hy:NItems prog w h y vs):x=y:=by
 induction hx generalizing y with
 | nil=>cases hy;rfl
 |
  cons h1 _ ih=>
  cases hy with
  | cons h2 t2=>rw[h1.inj h2,ih t2]
theorem IsNest.typeIs {s:Shared}{ks:List NK}{a:Addr}(x:IsNest prog w s.heap ks a):s.TypeIs (.ref a) "tuple":=let ⟨o,_,_,ho,hc,_⟩:=x;⟨o,ho,hc⟩
theorem IsNest.inj {h:Heap}{a:Addr}{x y:List NK}(hx:IsNest prog w h x a)(hy:IsNest prog w h y a):x=y:=by
 obtain⟨o,items,n,ho,_,hd,hi⟩:=hx
 obtain⟨o',items',n',ho',_,hd',hi'⟩:=hy
 obtain rfl:o=o':=Agn (ho.symm.trans ho')
 rw[hd] at hd'
 injection hd' with h1 _
 subst h1
 exact hi.inj hi'
def f9 (prog:Program)(w:World):NK->Int
 | .inl k=>(A4 prog w).hash k
 | .inr ks=>tupleKeyHash (A4 prog w) ks
def oq:NK->Nat
 | .inl _=>1
 | .inr ks=>ks.length+1
def C3 (prog:Program)(w:World)(ks:List NK):Int:=reduceHash (Builtin.Tuple.tupleHashOf (ks.map (f9 prog w)))
def Wk (ks:List NK):Nat:=(ks.map oq).sum+1
variable {A:Around}{E:Value->Shared->Prop}{s:Shared}
theorem rp {k:NK}{v:Value}{Q:Int->Shared->Prop}(hu:A.units<cLine)(hk:NItem prog w s.heap k v)(h:Q (f9 prog w k) {s with toks:=s.toks+oq k}):wpAny (model prog w) A (pyHash v) Q E s:=by
 cases k with
 | inl k=>exact(A4 prog w).pyHash hk h
 | inr ks=>obtain⟨a,rfl,p⟩:=hk;exact wpAny_pyHash_tuple hu p h
theorem fh {ks:List NK}{a:Addr}{Q:Int->Shared->Prop}(hu:A.units+1<cLine)(hk:IsNest prog w s.heap ks a)(h:Q (C3 prog w ks) {s with toks:=s.toks+Wk ks}):
  wpAny (model prog w) A (pyHash (.ref a)) Q E s:=by
 have hT:=hk.typeIs
 obtain⟨o,items,n,ho,_,hd,hi⟩:=hk
 unfold pyHash
 first|unfold pyHashByItsType|skip
 first|refine Aga (wpAny_cRoomFor_or (.inr (by lia)) ?_)|skip
 refine Aga (Aiy hT Ak8.lookup ?_)
 show wpAny _ _ (if(some (Value.builtin "tuple.__hash__")==some Value.none)=true then _ else _) Q E s
 rw[if_neg (by rw[beq_builtin_none];exact Ags)]
 refine Aga (Aiy hT Ak8.lookup ?_)
 show wpAny _ _ (callSpecialIfBoundUnlessNone? (.ref a) "__hash__" _>>=_) Q E s
 refine Aga (wpAny_callSpecialIfBoundUnlessNone?_slot hT F.slot_tuple_hash (Ahj F.slot_tuple_hash hT F.entry_tuple_hash ?_ (F.args_tuple_hash_1 _)))
 show wpAny _ _ (Builtin.Tuple.tupleItemsOf (.ref a)>>=_) _ _ s
 refine Aga (Aiw ho hd ?_)
 refine Aga ?_
 rw[←Ait]
 refine Ah3 _
  (λrest(b:Array Int)s'=>∃done left,ks=done++left/\NItems prog w s.heap left rest/\b.toList=done.map (f9 prog w)/\s'={s with toks:=s.toks+(done.map oq).sum})
  _ ?_ ?_ _ _ ⟨[],ks,rfl,hi,rfl,rfl⟩
 ·
  rintro x rest b s' ⟨done,left,rfl,hl,hb,rfl⟩
  cases hl with
  |
   @cons k _ ks' _ h1 hl'=>
   refine Aga (rp hu h1 ?_)
   first
    | exact Agb ⟨done++[k],ks',by simp,hl',by simp[hb],by simp[Alp]⟩
    | exact Aga (Agb (Agb ⟨done++[k],ks',by simp,hl',by simp[hb],by simp[Alp]⟩))
 ·
  rintro b s' ⟨done,left,rfl,hl,hb,rfl⟩
  cases hl
  rw[Ahh] at h
  show wpAny _ _ (retInt (Builtin.Tuple.tupleHashOf b.toList)) _ _ _
  rw[hb]
  refine wpAny_ret_mkInt ?_
  show wpAny _ _ (if(decide (-(2:Int) ^ 63<=Builtin.Tuple.tupleHashOf (done.map (f9 prog w)))&&decide (Builtin.Tuple.tupleHashOf (done.map (f9 prog w))<2 ^ 63))=true then _ else _) Q E _
  unfold C3 Wk reduceHash at h
  by_cases hr:(decide (-(2:Int) ^ 63<=Builtin.Tuple.tupleHashOf (done.map (f9 prog w)))&&decide (Builtin.Tuple.tupleHashOf (done.map (f9 prog w))<2 ^ 63))=true
  ·
   rw[if_pos hr]
   rw[if_pos hr] at h
   exact Agb (by simpa[Alp] using h)
  ·
   rw[if_neg hr]
   rw[if_neg hr] at h
   exact Aga (Aj7 (Agb (by simpa[Alp] using h)))
theorem Y3 {x y:NK}{u v:Value}(hu:A.units<cLine)(hx:NItem prog w s.heap x u)(hy:NItem prog w s.heap y v){Q:Bool->Shared->Prop}(h:Q (decide (x=y)) s):wpAny (model prog w) A (eqBool u v) Q E s:=by
 cases x with
 |
  inl x=>
  cases y with
  | inl y=>refine(A4 prog w).eqBool (a:=x) (b:=y) hx hy ?_;simpa using h
  |
   inr y=>
   obtain⟨b,rfl,o,its,n,ho,hc,hd,_⟩:=hy
   have ht:s.heap.IsTuple b its:=⟨o,ho,hc,n,hd⟩
   rw[Agp (λz=>nomatch z)] at h
   cases x with
   |
    inl i=>
    obtain⟨t,rfl⟩:=Ahz (k:=i) (v:=u) hx
    exact EqAt.int_tuple i t ht hu prog w E Q h
   |
    inr z=>
    obtain⟨t,rfl⟩:=Ahs (x:=z) (v:=u) hx
    exact EqAt.str_tuple z t ht hu prog w E Q h
 |
  inr x=>
  obtain⟨a,rfl,p⟩:=hx
  cases y with
  |
   inl y=>
   obtain⟨o,its,n,ho,hc,hd,_⟩:=p
   have ht:s.heap.IsTuple a its:=⟨o,ho,hc,n,hd⟩
   rw[Agp (λz=>nomatch z)] at h
   cases y with
   |
    inl i=>
    obtain⟨t,rfl⟩:=Ahz (k:=i) (v:=v) hy
    exact EqAt.tuple_int i t ht hu prog w E Q h
   |
    inr z=>
    obtain⟨t,rfl⟩:=Ahs (x:=z) (v:=v) hy
    exact EqAt.tuple_str z t ht hu prog w E Q h
  |
   inr y=>
   obtain⟨b,rfl,q⟩:=hy
   exact wpAny_eqBool_tuple hu p q (by simpa using h)
theorem d6 {x y:List NK}{a b:Addr}{P:PySem.Fin->Shared->Prop}(hu:A.units<cLine)(hx:IsNest prog w s.heap x a)(hy:IsNest prog w s.heap y b)(h:P (.done (.ret (.bool (decide (x=y))))) s):
  wpAny (model prog w) A (Builtin.«tuple.__eq__» ⟨[.ref a,.ref b],[]⟩) P E s:=by
 have hTb:=hy.typeIs
 obtain⟨oa,xs,na,hoa,_,hda,hia⟩:=hx
 obtain⟨ob,ys,nb,hob,_,hdb,hib⟩:=hy
 show wpAny _ _ (isInstance (.ref b) (.type "tuple")>>=_) _ _ s
 refine Aga (Ai2 hTb Ajb ?_)
 simp only[Ais,Ahi,Aiz]
 refine Aga (Aiw hoa hda ?_)
 refine Aga (Aiw hob hdb ?_)
 refine Aga ?_
 refine Ah3 _
  (λrest r s'=>r.1=none/\s'=s/\∃x' y' xs' ys',rest=List.zip xs' ys'/\NItems prog w s.heap x' xs'/\NItems prog w s.heap y' ys'/\decide (x'=y')=decide (x=y)/\(xs'.length==ys'.length)=(xs.size==ys.size))
  _ ?_ ?_ _ _ ⟨rfl,rfl,x,y,xs.toList,ys.toList,rfl,hia,hib,rfl,by simp⟩
 ·
  rintro⟨u,v⟩ rest r s' ⟨hr,rfl,x',y',xs',ys',hz,hx',hy',hdec,hlen⟩
  cases hx' with
  | nil=>simp at hz
  |
   @cons k1 u' x'' xs'' h1 hx''=>
   cases hy' with
   | nil=>simp at hz
   |
    @cons k2 v' y'' ys'' h2 hy''=>
    simp only[Air,Ake,Akw] at hz
    obtain⟨⟨rfl,rfl⟩,rfl⟩:=hz
    refine Aga (Y3 hu h1 h2 ?_)
    by_cases hk:k1=k2
    ·
     subst hk
     rw[Age rfl]
     simp only[Ais,Ahi,Aiz]
     refine Agb ⟨rfl,rfl,x'',y'',xs'',ys'',rfl,hx'',hy'',?_,by simpa using hlen⟩
     rw[←hdec]
     by_cases hxy:x''=y''
     · simp[hxy]
     · simp[hxy]
    ·
     rw[Agp hk]
     simp only[Bool.not_false,Alh]
     have hf:decide (x=y)=false:=by rw[←hdec];simp[hk]
     rw[hf] at h
     exact Aga (Agb (Agb (Agb h)))
 ·
  rintro⟨r1,r2⟩ s' ⟨hr,rfl,x',y',xs',ys',hz,hx',hy',hdec,hlen⟩
  simp only at hr
  subst hr
  refine Agb ?_
  have hfin:(xs.size==ys.size)=decide (x=y):=by
   rw[←hdec,←hlen]
   cases hx' with
   |
    nil=>
    cases hy' with
    | nil=>simp
    | cons _ _=>simp
   |
    cons _ _=>
    cases hy' with
    | nil=>simp
    | cons _ _=>simp at hz
  show P (.done (.ret (.bool (xs.size==ys.size)))) s'
  rw[hfin];exact h
theorem gg {x y:List NK}{a b:Addr}{Q:Bool->Shared->Prop}(hu:A.units+1<cLine)(hx:IsNest prog w s.heap x a)(hy:IsNest prog w s.heap y b)(h:Q (decide (x=y)) s):
  wpAny (model prog w) A (eqBool (.ref a) (.ref b)) Q E s:=by
 unfold eqBool
 try with_reducible refine Ahd ?_
 show wpAny _ _ (if(Value.ref a==Value.ref b)=true then _ else _) Q E s
 by_cases hab:(Value.ref a==Value.ref b)=true
 ·
  rw[if_pos hab]
  have e:a=b:=by have:=eq_of_beq hab;injection this
  subst e
  obtain rfl:=hx.inj hy
  exact Aga (Aj7 (Agb (by simpa using h)))
 ·
  rw[if_neg hab]
  exact Aga (Akn (op:=.Eq) hx.typeIs hy.typeIs F.slot_tuple_eq
   (Ahj F.slot_tuple_eq hx.typeIs F.entry_tuple_eq (d6 hu hx hy ⟨_,rfl,(λe=>nomatch e),Ahx h⟩) (F.args_tuple_eq_2 _ _)) (by lia))
theorem Abu {ks:List Key}{a:Addr}{n:Nat}{Q:Bool->Shared->Prop}(hk:IsTupleKey (A4 prog w) s.heap ks a)(h:Q true s):wpAny (model prog w) A (eqIsQuiet (n+1) (.ref a)) Q E s:=by
 have hT:=hk.typeIs
 obtain⟨o,items,n,ho,_,hd,hi⟩:=hk
 unfold eqIsQuiet
 refine Aga (Aiy hT F.slot_tuple_eq.lookup ?_)
 show wpAny _ _ (isInstance (.ref a) (.type "tuple")>>=_) _ _ s
 refine Aga (Ai2 hT Ajb ?_)
 simp only[Ais,Ahi,Aiz]
 refine Aga (Alz ho hd ?_)
 refine Aga ?_
 show wpAny _ _ (forIn items _ _) _ _ s
 rw[←Ait]
 refine Ah3 _ (λrest r s'=>r.1=none/\s'=s/\∀v∈rest,carriedByValue v=true) _ ?_ ?_ _ _ ⟨rfl,rfl,hi.byValue⟩
 ·
  rintro v rest r s' ⟨hr,rfl,hall⟩
  rw[eqIsQuiet_byValue _ (hall v Agj)]
  refine Aga (Agb ?_)
  simp only[Ais,Ahi,Aiz]
  exact Agb ⟨rfl,rfl,λu hu'=>hall u (Agh _ hu')⟩
 ·
  rintro⟨r1,r2⟩ s' ⟨hr,rfl,_⟩
  simp only at hr
  subst hr
  exact Agb h
theorem yp {ks:List NK}{a:Addr}{n:Nat}{Q:Bool->Shared->Prop}(hk:IsNest prog w s.heap ks a)(h:Q true s):wpAny (model prog w) A (eqIsQuiet (n+2) (.ref a)) Q E s:=by
 have hT:=hk.typeIs
 obtain⟨o,items,m,ho,_,hd,hi⟩:=hk
 unfold eqIsQuiet
 refine Aga (Aiy hT F.slot_tuple_eq.lookup ?_)
 show wpAny _ _ (isInstance (.ref a) (.type "tuple")>>=_) _ _ s
 refine Aga (Ai2 hT Ajb ?_)
 simp only[Ais,Ahi,Aiz]
 refine Aga (Alz ho hd ?_)
 refine Aga ?_
 show wpAny _ _ (forIn items _ _) _ _ s
 rw[←Ait]
 refine Ah3 _ (λrest r s'=>r.1=none/\s'=s/\∃left,NItems prog w s.heap left rest) _ ?_ ?_ _ _ ⟨rfl,rfl,ks,hi⟩
 ·
  rintro v rest r s' ⟨hr,rfl,left,hl⟩
  cases hl with
  |
   @cons k _ ks' _ h1 hl'=>
   have go:∀{R:Bool->Shared->Prop},R true s'->wpAny (model prog w) A (eqIsQuiet (n+1) v) R E s':=λhR=>by
    cases k with
    | inl k=>rw[eqIsQuiet_byValue _ ((A4 prog w).byValue _ _ h1)];exact Agb hR
    | inr ks=>obtain⟨b,rfl,p⟩:=h1;exact Abu p hR
   refine Aga (go ?_)
   simp only[Ais,Ahi,Aiz]
   exact Agb ⟨rfl,rfl,ks',hl'⟩
 ·
  rintro⟨r1,r2⟩ s' ⟨hr,rfl,_⟩
  simp only at hr
  subst hr
  exact Agb h
end
end L2
namespace L2
open PySem PySem.W PyProof.Rows
structure TabN (b:Bool)(t:SetTable)(n:Nat):Prop where
 sz:t.place.size=n
 ri:Rises t.place.toList
 nd:t.dummies=#[]
 le:∀j∈t.place.toList,j<=t.mask
 cy:Cyc t.mask
 od:t.mask%2=1
 sm:t.mask<=2047
 fl:n*5<t.mask*3
 led:t.led=b
section
variable {b:Bool}{t:SetTable}{n:Nat}
theorem TabN.fits (T:TabN b t n):t.fits n=true:=by
 unfold SetTable.fits SetTable.fill
 rw[T.sz,T.nd,Aky]
 have:=T.fl
 exact Age (by show n+0<=t.mask;lia)
theorem TabN.noDummy (T:TabN b t n)(j:Nat):t.slot j≠ .dummy:=by
 unfold SetTable.slot
 dsimp only
 split
 · exact λz=>nomatch z
 ·
  rw[T.nd,if_neg (by unfold SetTable.has;simp)]
  exact λz=>nomatch z
theorem TabN.free_at (T:TabN b t n){j:Nat}(h:j∉t.place.toList):t.slot j=.empty:=by
 unfold SetTable.slot
 dsimp only
 rw[if_neg ?_,T.nd,if_neg (by unfold SetTable.has;simp)]
 intro z
 have z:=eq_of_beq z
 exact h (Ai9.mpr (Array.mem_of_getElem? z))
theorem az {j i:Nat}(h:t.slot j=.live i):t.place[i]?=some j:=by
 unfold SetTable.slot at h
 dsimp only at h
 split at h
 ·
  injection h with h
  subst h
  rename_i z
  exact eq_of_beq z
 · split at h<;>cases h
theorem ku {j:Nat}(ht:Rises t.place.toList)(h:t.slot j=.empty):j∉t.place.toList:=Vh ht λi z=>by rw[h] at z;cases z
theorem TabN.room (T:TabN b t n):∃j,j<=t.mask/\t.slot j=.empty:=by
 by_cases hx:∃j,j<=t.mask/\j∉t.place.toList
 ·
  obtain⟨j,h1,h2⟩:=hx
  exact⟨j,h1,T.free_at h2⟩
 ·
  have hs:∀j∈List.range (t.mask+1),j∈t.place.toList:=λj hj=>by
   by_cases h:j∈t.place.toList
   · exact h
   · exact absurd ⟨j,Aii (Ahm.mp hj),h⟩ hx
  have hl:=(List.nodup_range (n:=t.mask+1)).length_le_of_subset hs
  rw[Ahl,Agg,T.sz] at hl
  have:=T.fl
  lia
end
section
variable {prog:Program}{w:World}{A:Around}{E:Value->Shared->Prop}{s:Shared}{es:Array (Int×Value)}{ep:Nat}{t:SetTable}{a:Addr}
theorem wpSeq? {c:Addr}{o:Obj}{items:Array Value}{n:Nat}{Q:Option (Array Value)->Shared->Prop}(ho:s.heap.get? c=some o)(hd:o.data=.seq items n)(h:Q (some items) s):wpAny (model prog w) A (seqItems? (.ref c)) Q E s:=by
 unfold seqItems?
 refine Aga (wpAny_load ho ?_)
 rw[hd]
 exact Agb h
theorem qc {k:NK}{v:Value}{n:Nat}{Q:Bool->Shared->Prop}(hk:NItem prog w s.heap k v)(h:Q false s):wpAny (model prog w) A (ofAClassStatement (n+1) v) Q E s:=by
 have byV:∀{m:Nat}{v:Value}{R:Bool->Shared->Prop},carriedByValue v=true->R false s->wpAny (model prog w) A (ofAClassStatement m v) R E s:=λ{m v R}hv hR=>by
  cases v<;>first|(unfold ofAClassStatement;exact Agb hR)|(simp[carriedByValue] at hv)
 cases k with
 | inl k=>exact byV ((A4 prog w).byValue _ _ hk) h
 |
  inr ks=>
  obtain⟨c,rfl,p⟩:=hk
  have hT:=p.typeIs
  obtain⟨o,items,n',ho,hc,hd,hi⟩:=p
  unfold ofAClassStatement
  refine Aga (Aka hT ?_)
  dsimp only
  rw[if_pos (by decide)]
  refine Aga (Agb ?_)
  rw[if_neg (by decide)]
  refine Aga (wpSeq? ho hd ?_)
  dsimp only
  refine Aga ?_
  rw[←Ait]
  refine Ah3 _ (λrest r s'=>r.1=none/\s'=s/\∀v∈rest,carriedByValue v=true) _ ?_ ?_ _ _ ⟨rfl,rfl,hi.byValue⟩
  ·
   rintro v rest r s' ⟨hr,rfl,hall⟩
   refine Aga (byV (hall v Agj) ?_)
   rw[if_neg (by decide)]
   exact Agb ⟨rfl,rfl,λu hu'=>hall u (Agh _ hu')⟩
  ·
   rintro⟨r1,r2⟩ s' ⟨hr,rfl,_⟩
   simp only at hr
   subst hr
   exact Agb h
theorem jy {ks:List NK}{c:Addr}{n:Nat}{Q:Bool->Shared->Prop}(hk:IsNest prog w s.heap ks c)(h:Q false s):wpAny (model prog w) A (ofAClassStatement (n+2) (.ref c)) Q E s:=by
 have hT:=hk.typeIs
 obtain⟨o,items,n',ho,hc,hd,hi⟩:=hk
 unfold ofAClassStatement
 refine Aga (Aka hT ?_)
 dsimp only
 rw[if_pos (by decide)]
 refine Aga (Agb ?_)
 rw[if_neg (by decide)]
 refine Aga (wpSeq? ho hd ?_)
 dsimp only
 refine Aga ?_
 rw[←Ait]
 refine Ah3 _ (λrest r s'=>r.1=none/\s'=s/\∃left,NItems prog w s.heap left rest) _ ?_ ?_ _ _ ⟨rfl,rfl,ks,hi⟩
 ·
  rintro v rest r s' ⟨hr,rfl,left,hl⟩
  cases hl with
  |
   @cons k _ ks' _ h1 hl'=>
   refine Aga (qc h1 ?_)
   rw[if_neg (by decide)]
   exact Agb ⟨rfl,rfl,ks',hl'⟩
 ·
  rintro⟨r1,r2⟩ s' ⟨hr,rfl,_⟩
  simp only at hr
  subst hr
  exact Agb h
theorem Aee {k:List NK}{c:Addr}{ys:List Value}{Q:Bool->Shared->Prop}(hx:IsNest prog w s.heap k c)(hy:∀y∈ys,∃k' d,y=.ref d/\IsNest prog w s.heap k' d)(h:Q false s):wpAny (model prog w) A (searchCouldBeSeen (.ref c) ys) Q E s:=by
 unfold searchCouldBeSeen
 refine Aga ?_
 refine Ah3 _ (λrest r s'=>r.1=none/\s'=s/\∀v∈rest,v∈ys) _ ?_ ?_ _ _ ⟨rfl,rfl,λv hv=>hv⟩
 ·
  rintro v rest r s' ⟨hr,rfl,hall⟩
  have keep:∀u∈rest,u∈ys:=λu hu=>hall u (Agh _ hu)
  obtain⟨k',d,rfl,hd⟩:=hy v (hall _ Agj)
  dsimp only
  refine Aib (λ_=>Agb ⟨rfl,rfl,keep⟩) (λ_=>?_)
  refine Aga (yp (n:=6) hx ?_)
  rw[if_neg (by decide)]
  refine Aga (yp (n:=6) hd ?_)
  rw[if_neg (by decide)]
  refine Aga (jy (n:=6) hx ?_)
  rw[if_neg (by decide)]
  refine Aga (jy (n:=6) hd ?_)
  rw[if_neg (by decide)]
  exact Agb ⟨rfl,rfl,keep⟩
 ·
  rintro⟨r1,r2⟩ s' ⟨hr,rfl,_⟩
  simp only at hr
  subst hr
  exact Agb h
end
end L2
namespace L2
open PySem PySem.W PyProof.Rows
open PySem.SetTable (Probe Met)
theorem vc {t:SetTable}(ht:Rises t.place.toList){i j:Nat}(h:t.place[i]?=some j):t.slot j=.live i:=by
 obtain⟨b0,b1,b2⟩:=below_at ht j
 have e:SetTable.below t.place j=i:=by
  rcases Alu (SetTable.below t.place j) i with l|l|l
  ·
   have hi:=(Ai8.mp h).1
   have eb:=Agq (show SetTable.below t.place j<t.place.size by lia)
   have h1:=b2 _ _ (Agi _) eb
   rw[←Agt] at h eb
   obtain⟨p1,q1⟩:=Agl.mp h
   obtain⟨p2,q2⟩:=Agl.mp eb
   have:=Aiu.mp ht _ _ p2 p1 l
   rw[q1,q2] at this
   lia
  · exact l
  · exact absurd (b1 i j l h) (Ahp _)
 unfold SetTable.slot
 dsimp only
 rw[e,h,if_pos (by simp)]
theorem Abf {t:SetTable}(ht:Rises t.place.toList){j:Nat}(h:j∈t.place.toList):∃i,t.slot j=.live i:=by
 obtain⟨i,hi⟩:=Ahw h
 rw[Agt] at hi
 exact⟨i,vc ht hi⟩
theorem gr {t:SetTable}{i j:Nat}(h:t.slot j=.live i):j∈t.place.toList:=Ai9.mpr (Array.mem_of_getElem? (az h))
theorem Uz {t t':SetTable}(e:t'.mask=t.mask):∀(n:Nat)(p:Probe),adv t' n p=adv t n p
 | 0,_=>rfl
 |
  n+1,p=>by
  show adv t' n (t'.advance p)=adv t n (t.advance p)
  rw[Uz e n,show t'.advance p=t.advance p by unfold SetTable.advance;rw[e]]
theorem Xt {t t':SetTable}(e:t'.mask=t.mask)(h:Int):t'.probeStart h=t.probeStart h:=by unfold SetTable.probeStart;rw[e]
def Way (t:SetTable)(h:Int)(j:Nat):Prop:=∃K,K<10*SetTable.turns t.mask/\(adv t K (t.probeStart h)).j=j/\∀k,k<K->(adv t k (t.probeStart h)).j∈t.place.toList
theorem Way.up {t t':SetTable}{h:Int}{j:Nat}(x:Way t h j)(e:t'.mask=t.mask)(s:∀i∈t.place.toList,i∈t'.place.toList):Way t' h j:=by
 obtain⟨K,a,b,c⟩:=x
 refine⟨K,by rw[e];exact a,by rw[Uz e,Xt e];exact b,λk hk=>?_⟩
 rw[Uz e,Xt e]
 exact s _ (c k hk)
theorem ym {t:SetTable}{ha:Nat->Int}{h:Int}(nd:∀j,t.slot j≠ .dummy):∀(fuel:Nat)(p:Probe),
  (∀k,k<fuel->∃i,t.slot (adv t k p).j=.live i/\ha i≠h)∨
  (∃k,k<fuel/\SetTable.probe.go t ha h fuel p=some (.empty (adv t k p).j p.dummy)/\t.slot (adv t k p).j=.empty/\∀k',k'<k->∃i,t.slot (adv t k' p).j=.live i/\ha i≠h)∨
  (∃k i,k<fuel/\SetTable.probe.go t ha h fuel p=some (.candidate (adv t k p).j i (adv t (k+1) p))/\t.slot (adv t k p).j=.live i/\ha i=h/\∀k',k'<k->∃i,t.slot (adv t k' p).j=.live i/\ha i≠h)
 | 0,p=>.inl λk hk=>absurd hk (Aho _)
 |
  fuel+1,p=>by
  unfold SetTable.probe.go
  cases hs:t.slot p.j with
  | empty=>exact .inr (.inl ⟨0,Ajh _,rfl,hs,λk hk=>absurd hk (Aho _)⟩)
  | dummy=>exact absurd hs (nd _)
  |
   live i=>
   by_cases hh:ha i=h
   ·
    refine .inr (.inr ⟨0,i,Ajh _,?_,hs,hh,λk hk=>absurd hk (Aho _)⟩)
    dsimp only
    rw[if_pos (by rw[hh];exact Aky _)]
    rfl
   ·
    dsimp only
    rw[if_neg (by rw[beq_iff_eq];exact hh)]
    have pd:(t.advance p).dummy=p.dummy:=by unfold SetTable.advance;split<;>rfl
    have step:∀{N:Nat},(∀k,k<N->∃i,t.slot (adv t k (t.advance p)).j=.live i/\ha i≠h)->∀k,k<N+1->∃i,t.slot (adv t k p).j=.live i/\ha i≠h:=λ{N}z k hk=>by
     cases k with
     | zero=>exact⟨i,hs,hh⟩
     | succ k=>exact z k (Nat.lt_of_succ_lt_succ hk)
    rcases ym nd fuel (t.advance p) with z|⟨k,hk,e,a,b⟩|⟨k,i',hk,e,a,b,c⟩
    · exact .inl (step z)
    · exact .inr (.inl ⟨k+1,Al6 hk,by rw[e,pd];rfl,a,step b⟩)
    · exact .inr (.inr ⟨k+1,i',Al6 hk,e,a,b,step c⟩)
section
variable {prog:Program}{w:World}{A:Around}{E:Value->Shared->Prop}{s:Shared}{es:Array (Int×Value)}{ep:Nat}{t:SetTable}{a:Addr}
def EnAt (prog:Program)(w:World)(h:Heap)(e:Int×Value)(k:List NK):Prop:=∃d,e.2=.ref d/\IsNest prog w h k d/\e.1=C3 prog w k
theorem EnAt.inj {h:Heap}{e:Int×Value}{k k':List NK}(x:EnAt prog w h e k)(y:EnAt prog w h e k'):k=k':=by
 obtain⟨d,e1,h1,_⟩:=x
 obtain⟨d',e2,h2,_⟩:=y
 rw[e1] at e2
 injection e2 with e2
 subst e2
 exact h1.inj h2
theorem Afh {k:List NK}{c:Addr}{h:Int}{j i:Nat}{d:Addr}{k':List NK}{Q:SetFound->Shared->Prop}{R:Sem SetFound}(ho:s.heap.get? a=some (Br es ep t))(T:TabN (Ti w) t es.size)(hu:A.units+1<cLine)(hx:IsNest prog w s.heap k c)
  (hj:t.slot j=.live i) (il:i<es.size) (ed:es[i].2=.ref d) (hk':IsNest prog w s.heap k' d) (hy:∀e∈es.toList,∃k' d,e.2=.ref d/\IsNest prog w s.heap k' d)
  (q1:k'=k->Q (.there none) s) (q2:k'≠k->wpAny (model prog w) A R Q E s) (R2:Sem SetFound):
  wpAny (model prog w) A (do
   if !t.led then
    if ←searchCouldBeSeen (.ref c) ((es.filter (·.1==h)).toList.map (·.2)) then unsupported "set:the-search-would-show-the-table"
   let some (_,y):=es[i]? |unsupported "internal:set-entry"
   let equal ←holding [y] (eqBool y (.ref c))
   let (es',_,t') ←setState a
   if true&&equal then return .there none
   let some same:=t'.sameMemory t.moves t.mask|unsupported "set.changed-during-lookup:is-the-new-block-at-the-old-address"
   let still ←match (if same then t'.slot j else .empty) with
    |
     .live i'=>match es'[i']? with
     | some (_,y')=>do pure (if ←isSame y' y then some i' else none)
     | none=>pure none
    | _=>pure none
   match still with
   | none=>rule "set.search.anew";R2
   | some i'=>if equal then return .there (some i') else R) Q E s:=by
 have rest:wpAny (model prog w) A (do
   let some (_,y):=es[i]? |unsupported "internal:set-entry"
   let equal ←holding [y] (eqBool y (.ref c))
   let (es',_,t') ←setState a
   if true&&equal then return .there none
   let some same:=t'.sameMemory t.moves t.mask|unsupported "set.changed-during-lookup:is-the-new-block-at-the-old-address"
   let still ←match (if same then t'.slot j else .empty) with
    |
     .live i'=>match es'[i']? with
     | some (_,y')=>do pure (if ←isSame y' y then some i' else none)
     | none=>pure none
    | _=>pure none
   match still with
   | none=>rule "set.search.anew";R2
   | some i'=>if equal then return .there (some i') else R) Q E s:=by
  rw[Agq il]
  dsimp only
  rw[ed]
  refine Aga (Ahd (gg hu hk' hx ?_))
  refine Aga (Ahy ho rfl T.fits ?_)
  dsimp only
  by_cases e:k'=k
  ·
   rw[if_pos (by rw[Age e];rfl)]
   exact Agb (q1 e)
  ·
   rw[if_neg (by rw[Agp e];decide)]
   rw[show t.sameMemory t.moves t.mask=some true by unfold SetTable.sameMemory;rw[if_pos (by simp)]]
   dsimp only
   rw[if_pos rfl,hj]
   dsimp only
   rw[Agq il]
   dsimp only
   rw[ed]
   refine Aga (wpAny_isSame_ref_self ?_)
   refine Aga (Agb ?_)
   rw[if_pos rfl]
   dsimp only
   rw[if_neg (by rw[Agp e];decide)]
   exact q2 e
 refine Aib (λ_=>Aga (Aee hx (λy hy'=>?_) ?_)) (λ_=>rest)
 ·
  obtain⟨e',he',rfl⟩:=Ag7.mp hy'
  have hm:=(Array.mem_filter.mp (Array.mem_toList_iff.mp he')).1
  obtain⟨k2,d2,e2,h2⟩:=hy e' (Ai9.mpr hm)
  exact⟨k2,d2,e2,h2⟩
 ·
  rw[if_neg (by decide)]
  exact rest
theorem nz {k:List NK}{c:Addr}{Q:SetFound->Shared->Prop}(ho:s.heap.get? a=some (Br es ep t))(T:TabN (Ti w) t es.size)(hu:A.units+1<cLine)(hx:IsNest prog w s.heap k c)
  (hy:∀e∈es.toList,∃k',EnAt prog w s.heap e k') (hw:∀(i:Nat)(e:Int×Value)(j:Nat),es[i]?=some e->t.place[i]?=some j->Way t e.1 j)
  (q1:(∃e∈es.toList,EnAt prog w s.heap e k)->Q (.there none) s)
  (q2:(¬ ∃e∈es.toList,EnAt prog w s.heap e k)->∀j,t.slot j=.empty->j<=t.mask->Way t (C3 prog w k) j->Q (.free j false) s):wpAny (model prog w) A (setSearch a (.ref c) (C3 prog w k) true) Q E s:=by
 generalize eH:C3 prog w k=h at q2 ⊢
 have at_:∀{j i:Nat},t.slot j=.live i->i<es.size:=λ{j i}hj=>by
  have:=(Ai8.mp (az hj)).1
  rw[T.sz] at this
  exact this
 have stop:∃K,K<10*SetTable.turns t.mask/\(((¬ ∃e∈es.toList,EnAt prog w s.heap e k)/\t.slot (adv t K (t.probeStart h)).j=.empty)∨((∃e∈es.toList,EnAt prog w s.heap e k)/\(∀k',k'<K->∃i,t.slot (adv t k' (t.probeStart h)).j=.live i)/\∃i e,t.slot (adv t K (t.probeStart h)).j=.live i/\es[i]?=some e/\EnAt prog w s.heap e k)):=by
  by_cases hin:∃e∈es.toList,EnAt prog w s.heap e k
  ·
   obtain⟨e,he,hk⟩:=hin
   obtain⟨i,hi⟩:=Ahw he
   rw[Agt] at hi
   have hs:=(Ai8.mp hi).1
   have hp:=Agq (show i<t.place.size by rw[T.sz];exact hs)
   obtain⟨K,a1,a2,a3⟩:=hw i e _ hi hp
   obtain⟨d,e1,e2,e3⟩:=hk
   rw[e3,eH] at a2 a3
   refine⟨K,a1,.inr ⟨⟨e,he,d,e1,e2,e3⟩,λk' hk'=>Abf T.ri (a3 k' hk'),i,e,?_,hi,d,e1,e2,e3⟩⟩
   rw[a2]
   exact vc T.ri hp
  ·
   obtain⟨j0,hj0,he0⟩:=T.room
   obtain⟨K,hK,eK⟩:=Abj (t:=t) (h:=h) T.cy hj0
   exact⟨K,by unfold SetTable.turns;lia,.inl ⟨hin,by rw[eK];exact he0⟩⟩
 obtain⟨K,hK,hS⟩:=stop
 have hm:=T.sm
 have go:∀(M n0 fuel:Nat)(st:Option Probe),n0+M=K->M<fuel->st.getD (t.probeStart h)=adv t n0 (t.probeStart h)->(∀k',k'<n0->(adv t k' (t.probeStart h)).j∈t.place.toList)->wpAny (model prog w) A (setSearchFrom a (.ref c) h true fuel st) Q E s:=by
  intro M
  induction M using Nat.strongRecOn with
  | _ M ih=>
  intro n0 fuel st hM hf hst hl
  cases fuel with
  | zero=>exact absurd hf (Aho _)
  | succ fuel=>
  have av:∀n,adv t n (adv t n0 (t.probeStart h))=adv t (n0+n) (t.probeStart h):=λn=>(O4 t n0 n _).symm
  unfold setSearchFrom
  refine Aga (Ahy ho rfl T.fits ?_)
  dsimp only
  rw[if_neg (by unfold SetTable.gaveWay;rw[T.od];decide)]
  unfold SetTable.probe
  rw[hst]
  generalize hha:SetTable.probe.go t _ h (10*SetTable.turns t.mask) (adv t n0 (t.probeStart h))=G
  have noH:∀{i:Nat}{e:Int×Value},es[i]?=some e->EnAt prog w s.heap e k->((es[i]?.map (·.1)).getD 0)=h:=λ{i e}hi hk=>by
   obtain⟨d,e1,e2,e3⟩:=hk
   rw[hi]
   exact e3.trans eH
  have hdm:(adv t n0 (t.probeStart h)).dummy=none:=bf t n0 _
  rcases ym (t:=t) (ha:=λi=>(es[i]?.map (·.1)).getD 0) (h:=h) T.noDummy (10*SetTable.turns t.mask) (adv t n0 (t.probeStart h)) with z|⟨n,hn,e,a1,a2⟩|⟨n,i,hn,e,a1,a2,a3⟩
  ·
   exfalso
   obtain⟨i,z1,z2⟩:=z M (by lia)
   rw[av,hM] at z1
   rcases hS with⟨_,hS⟩|⟨_,_,i',e',y1,y2,y3⟩
   · rw[hS] at z1;cases z1
   · rw[y1] at z1;injection z1 with z1;subst z1;exact z2 (noH y2 y3)
  ·
   have hG:=hha.symm.trans e
   rw[hG]
   rw[hdm]
   rw[av] at a1 ⊢
   have le:n<=M:=by
    rcases Aiq M n with l|l
    ·
     exfalso
     obtain⟨i,z1,z2⟩:=a2 M l
     rw[av,hM] at z1
     rcases hS with⟨_,hS⟩|⟨_,_,i',e',y1,y2,y3⟩
     · rw[hS] at z1;cases z1
     · rw[y1] at z1;injection z1 with z1;subst z1;exact z2 (noH y2 y3)
    · exact l
   rcases hS with⟨hno,_⟩|⟨_,y0,i',e',y1,_⟩
   ·
    refine Agb (q2 hno _ a1 ?_ ⟨n0+n,by lia,rfl,λk' hk'=>?_⟩)
    ·
     have:=(ic (t:=t) (n0+n) (jh t h)).2
     lia
    ·
     by_cases hk:k'<n0
     · exact hl k' hk
     ·
      obtain⟨i,z1,_⟩:=a2 (k'-n0) (by lia)
      rw[av,show n0+(k'-n0)=k' by lia] at z1
      exact gr z1
   ·
    exfalso
    by_cases hk:n0+n<K
    ·
     obtain⟨i,z⟩:=y0 _ hk
     rw[a1] at z;cases z
    · rw[show n0+n=K by lia,y1] at a1;cases a1
  ·
   have hG:=hha.symm.trans e
   rw[hG]
   dsimp only
   have le:n<=M:=by
    rcases Aiq M n with l|l
    ·
     exfalso
     obtain⟨i,z1,z2⟩:=a3 M l
     rw[av,hM] at z1
     rcases hS with⟨_,hS⟩|⟨_,_,i',e',y1,y2,y3⟩
     · rw[hS] at z1;cases z1
     · rw[y1] at z1;injection z1 with z1;subst z1;exact z2 (noH y2 y3)
    · exact l
   have il:=at_ a1
   obtain⟨k',d,ed,hk',hh'⟩:=hy es[i] (Ai9.mpr (Array.getElem_mem il))
   refine Afh (k':=k') ho T hu hx a1 il ed hk' (λe he=>let ⟨k2,d2,x1,x2,_⟩:=hy e he;⟨k2,d2,x1,x2⟩) (λz=>q1 ⟨es[i],Ai9.mpr (Array.getElem_mem il),d,ed,by rw[←z];exact hk',by rw[←z];exact hh'⟩) (λz=>?_) _
   have lt:n<M:=by
    rcases Aiq n M with l|l
    · exact l
    ·
     exfalso
     rw[av,show n0+n=K by lia] at a1
     rcases hS with⟨_,hS⟩|⟨_,_,i',e',y1,y2,y3⟩
     · rw[hS] at a1;cases a1
     ·
      rw[y1] at a1;injection a1 with a1;subst a1
      rw[Agq il] at y2
      injection y2 with y2
      subst y2
      exact z (EnAt.inj ⟨d,ed,hk',hh'⟩ y3)
   refine ih (M-(n+1)) (by lia) (n0+(n+1)) fuel _ (by lia) (by lia) (by show adv t (n+1) _=_;rw[av]) λk2 hk2=>?_
   by_cases c1:k2<n0
   · exact hl k2 c1
   ·
    by_cases c2:k2=n0+n
    ·
     rw[c2,←av]
     exact gr a1
    ·
     obtain⟨i,z1,_⟩:=a3 (k2-n0) (by lia)
     rw[av,show n0+(k2-n0)=k2 by lia] at z1
     exact gr z1
 exact go K 0 100000 none (by lia) (by unfold SetTable.turns at hK;lia) rfl λk' hk'=>absurd hk' (Aho _)
end
end L2
namespace L2
open PySem PySem.W PyProof.Rows
def ins (ds:List Int)(k:Int):List Int:=if k∈ds then ds else ds++[k]
theorem Aaj (ds:List Int)(k:Int):(ins ds k).length<=ds.length+1:=by
 unfold ins
 split
 · exact Aju _
 · rw[Agw];exact Agi _
theorem Aa2 {ds:List Int}{k x:Int}:x∈ins ds k↔x∈ds∨x=k:=by
 unfold ins
 split
 ·
  rename_i h
  exact⟨.inl,λz=>z.elim id λe=>by rw[e];exact h⟩
 · rw[Ahf,Ag3]
theorem ck {x:Int}:∀(ns ds:List Int),x∈ns.foldl ins ds↔x∈ds∨x∈ns
 | [],ds=>by simp
 |
  n::ns,ds=>by
  rw[List.foldl_cons,ck ns,Aa2,Agx]
  constructor
  ·
   rintro((h|h)|h)
   · exact .inl h
   · exact .inr (.inl h)
   · exact .inr (.inr h)
  ·
   rintro(h|h|h)
   · exact .inl (.inl h)
   · exact .inl (.inr h)
   · exact .inr h
theorem SetI.at' {prog:Program}{w:World}{a:Addr}{ds:List Int}{h h':Heap}(x:SetI prog w a ds h)(k:∀o,h.get? a=some o->h'.get? a=some o):SetI prog w a ds h':=
 let ⟨es,ep,t,ho,P⟩:=x
 ⟨es,ep,t,k _ ho,P⟩
section
variable {prog:Program}{w:World}{A:Around}{R:Result->Shared->Prop}{I:Addr}{fp wr:List Addr}{G:Array GenState->Array GenState->Prop}{n:Nat}{P:Nat->Value->Prop}{St:Nat->Shared->Prop}
theorem tj (W:WalksS prog w A.in1 I fp wr G n P St)(S:Addr)(hSf:S∉fp):∀(rest:List Int)(i:Nat)(ds:List Int)(s:Shared),i+rest.length=n->(∀j k,rest[j]?=some k->∀v,P (i+j) v->∃t,v=.int k t)->ds.length+rest.length<scanBound->St i s->SetI prog w S ds s.heap->
  (∀s',Moved (S::wr) G s s'->SetI prog w S (rest.foldl ins ds) s'.heap->R (.ok (.ret .none)) s')->codeAny (model prog w) A (.builtin "set.update.loop" ⟨[.ref S,.ref I],[]⟩) R s:=by
 have off:S∉wr:=λz=>hSf (W.sub _ z)
 have sub:∀b∈wr,b∈S::wr:=λb hb=>Agh _ hb
 intro rest
 induction rest with
 |
  nil=>
  intro i ds s hi _ _ st hS hR
  have e:i=n:=hi
  subst e
  refine Ah1 Akf ?_
  rw[Aik Aiv _]
  show wpAny _ A.in1 (pyNext (.ref I)>>=_) _ _ s
  refine Aga (W.done s _ _ st λs' m=>?_)
  exact Agb (hR s' (m.mono sub) (hS.at' λo e=>m.heap S o off e))
 |
  cons k rest ih=>
  intro i ds s hi hv hz st hS hR
  have hlt:i<n:=by simp at hi;lia
  refine Ah1 Akf ?_
  rw[Aik Aiv _]
  show wpAny _ A.in1 (pyNext (.ref I)>>=_) _ _ s
  refine Aga (W.item i s _ _ hlt st λv s' hP st' m=>?_)
  obtain⟨t,rfl⟩:=hv 0 k rfl v hP
  have S1:SetI prog w S ds s'.heap:=hS.at' λo e=>m.heap S o off e
  show wpAny _ A.in1 (holding [Value.int k t] (setAdd S (.int k t))>>=_) _ _ s'
  refine Aga (Ahd ?_)
  unfold setAdd
  refine Ahd (Aga ((intKind prog w).pyHash (k:=k) (intKind_is _ _ _ _) ?_))
  refine kx (s:={s' with toks:=s'.toks+1}) S1 (by rw[Agr] at hz;lia) λh' sb S2=>?_
  refine Agb ⟨Alc Aiv _,ih (i+1) (ins ds k) _ (by rw[Agr] at hi;lia) (λj k' hj v' hp=>hv (j+1) k' hj v' (by rw[show i+(j+1)=i+1+j by lia];exact hp)) (by have:=Aaj ds k;rw[Agr] at hz;lia) (W.frame _ s' _ _ st' (Aju _) λb hb o e=>?_) S2 λs'' m2 S3=>?_⟩
  · rw[sb.2 b (λz=>hSf (by rw[←z];exact hb))];exact e
  ·
   refine hR s'' (Moved.trans W.gtrans ((m.mono sub).then_heap (Aju _) λb o hb e=>?_) m2) S3
   rw[sb.2 b (λz=>hb (by rw[z];exact Agj))];exact e
end
section
variable {prog:Program}{w:World}{A:Around}{E:Value->Shared->Prop}{s:Shared}
theorem ua (a:Value){Q₁:Value->Shared->Prop}(h:Q₁ (.ref s.heap.objs.size) {s with heap:=s.heap.push (Br #[] 0 (.fresh 0 0 (Ti w)))}):
  codeAny (model prog w) A (.call (.builtin "set.__new__") ⟨[.type "set",a],[]⟩) (wants Q₁ E) s:=by
 refine codeAny_of_tree ?_
 show wpAny _ A.in1 (do checkBuiltinCall "set.__new__" ⟨[.type "set",a],[]⟩;again (.builtin "set.__new__" ⟨[.type "set",a],[]⟩)) _ _ s
 refine Aga (wpAny_of_eq (F.newCall_set_1 a) (Agb ⟨Alc F.plain_set_new _,Ah1 F.entry_set_new ?_⟩))
 rw[Aik F.plain_set_new _]
 unfold Builtin.«set.__new__» Builtin.Frozenset.newClass
 have hsub:=sub_set_self
 obtain⟨hp,g,d,tk,os⟩:=s
 dsimp only
 wp_walk
 refine Ajp (Agb ?_)
 dsimp only
 simp only[newObj]
 refine Aga (wpAny_alloc (Agb ?_))
 exact Agb h
end
section
variable {prog:Program}{w:World}{A:Around}{E:Value->Shared->Prop}{s:Shared}
theorem xu {l:Addr}{items:Array Value}{ns:List Int}{Q:Value->Shared->Prop}(hh:A.handled=none)(hl:s.heap.IsList l items)(hi:IntsAre items.toList ns)(hb:ns.length<scanBound)
  (h:∀h' tk,SetI prog w s.heap.objs.size (ns.foldl ins []) h'->(∀b o,s.heap.get? b=some o->h'.get? b=some o)->Q (.ref s.heap.objs.size) {s with heap:=h',toks:=tk}):
  wpAny (model prog w) A (call (.type "set") [.ref l]) Q E s:=by
 obtain⟨c,tl,hmro⟩:=F.called_set.mro
 have m1:=F.called_set.made
 have m2:=F.called_set.sub
 have m3:=F.called_set.notType
 have m4:=F.called_set.canCreate
 have m5:=F.typeCall_set_1 (.ref l)
 refine Alr (codeAny_of_tree ?_)
 show wpAny _ _ (callAny (.type "set") _) _ _ _
 refine Agb ⟨Ajx _ (by decide+kernel),Ah1 F.entry_type_call ?_⟩
 rw[Around.under_plain (weight_type_call_type "set" [.ref l] []) rfl]
 repeat (any_goals (first|assumption|wp_step))
 refine Ajc (ua (.ref l) (E:=E) (Q₁:=λv s1=>v=.ref s.heap.objs.size/\s1={s with heap:=s.heap.push (Br #[] 0 (.fresh 0 0 (Ti w)))}) ⟨rfl,rfl⟩) λr s1 hr=>?_
 rcases r with e|f
 · exact hr
 cases f with
 |
  ret v=>
  obtain⟨rfl,rfl⟩:=hr
  have hS:(s.heap.push (Br #[] 0 (.fresh 0 0 (Ti w)))).get? s.heap.objs.size=some (Br #[] 0 (.fresh 0 0 (Ti w))):=Ago _ rfl
  have hT:Shared.TypeIs {s with heap:=s.heap.push (Br #[] 0 (.fresh 0 0 (Ti w)))} (.ref s.heap.objs.size) "set":=⟨_,hS,rfl⟩
  have i1:=F.called_set.init.lookup
  have i2:=F.called_set.init.bind (.ref s.heap.objs.size)
  repeat (any_goals (first|assumption|wp_step))
  refine Ajc (Akg (R:=wants (λr s2=>r=.none/\∃h' tk,s2={s with heap:=h',toks:=tk}/\SetI prog w s.heap.objs.size (ns.foldl ins []) h'/\∀b o,s.heap.get? b=some o->h'.get? b=some o) E) F.called_set.init.plain F.entry_set_init (check_set_init_1 hT ?_)) λr2 s2 h2=>?_
  ·
   obtain⟨ol,e1,e2,k,e3⟩:=hl
   obtain⟨oc,od,oda,osl⟩:=ol
   simp only at e2 e3
   subst e2;subst e3
   have e1':=Agc (Br #[] 0 (.fresh 0 0 (Ti w))) e1
   have j1:=F.sub_list_set
   have j2:=F.sub_list_frozenset
   have j3:(Value.type "list"==Value.type "dict")=false:=by decide
   have hl1:(s.heap.push (Br #[] 0 (.fresh 0 0 (Ti w)))).IsList l items:=⟨_,e1',rfl,k,rfl⟩
   unfold Br at*
   unfold Builtin.«set.__init__» noKeywords Builtin.Frozenset.updateFrom
   generalize hPI:pyIter=PI
   wp_walk
   subst hPI
   refine Ak6 hl1 (Aga (Al0 ?_))
   have hlS:l<s.heap.objs.size:=Agk e1
   have hn:items.size=ns.length:=by rw[←IntsAre.length hi,Agg]
   refine tj (G:=_) ((Walks.list (by simp[hh]) _ l (by rw[Ahv];exact Agv (Aih hlS)) items).toS) s.heap.objs.size (by rw[Ahv];simp only[Agx,Ain,or_false,not_or];exact⟨Agv (Ah9 _),Aip hlS⟩) ns 0 [] _ (by rw[hn];lia) (λj x hj v hv=>?_) (by simpa using hb) ⟨⟨_,Ago _ rfl,rfl,rfl⟩,hl1.push _⟩ ⟨#[],0,_,Agc _ hS,SetP.fresh⟩ λs' m S'=>?_
   ·
    obtain⟨t,e⟩:=IntsAre.int_at hi j v (by rw[Agt];have:=hv;rw[Akh] at this;exact this)
    refine⟨t,?_⟩
    rw[e,List.getD_eq_getElem?_getD,hj]
    rfl
   ·
    obtain⟨h',g',d',tk',os'⟩:=s'
    have q1:g'=s.gens:=m.gens
    have q2:d'=s.drawn:=m.drawn
    have q3:os'=s.os:=m.os
    subst q1;subst q2;subst q3
    show wpAny _ _ _ _ _ _
    refine Agb ?_
    show wpAny _ _ (ret Value.none) _ _ _
    refine Agb ⟨rfl,h',tk',rfl,S',λb o e=>?_⟩
    have hb0:=Agk e
    refine m.heap b o ?_ (Agc _ (Agc _ e))
    rw[Ahv]
    simp only[Agx,Ain,or_false,not_or]
    exact⟨Agv hb0,Agv (Aih hb0)⟩
  ·
   rcases r2 with e|f2
   · exact h2
   cases f2 with
   |
    ret r=>
    obtain⟨rfl,h',tk,rfl,S',kp⟩:=h2
    repeat (any_goals (first|assumption|wp_step))
    exact h _ _ S' kp
   | _=>exact h2.elim
 | _=>exact hr.elim
end
theorem yk:Manifest.owners.lookup (String.ofList ['r','o','t','a','r','e','t','i','_','t','e','s'].reverse)=some Manifest.sig_set_iterator:=by kernel_rfl
theorem Hv:Slot "set_iterator" "__next__" "set_iterator.__next__":=
 .of (owner:="set_iterator") (n:="__next__") (by rw[typeLookup_type,builtinLookup_eq_fast];kernel_rfl) (by decide+kernel) (by decide+kernel) (by decide+kernel) (.inl (by decide+kernel)) (by rw[isSubtype_type];kernel_rfl)
theorem Rf:entryFor table "set_iterator.__next__"=some Builtin.«set_iterator.__next__»:=entryFor_of_tree (by kernel_rfl)
theorem my:entryFor table "set.__iter__"=some Builtin.«frozenset.__iter__»:=entryFor_alias (id':="frozenset.__iter__") (by kernel_rfl) rfl (by decide+kernel) (by kernel_rfl)
theorem Uy (a:Value):argsOk "set_iterator.__next__" ⟨[a],[]⟩:=by
 unfold argsOk
 rw[signature?_of (id:="set_iterator.__next__") (n:=['_','_','t','x','e','n','_','_']) (o:=['r','o','t','a','r','e','t','i','_','t','e','s']) (by kernel_rfl) yk]
 kernel_rfl
theorem jn {α:Type}{l:List α}{i:Nat}(h:i<l.length):l.Perm (l[i]::l.eraseIdx i):=by
 rw[List.eraseIdx_eq_take_drop_succ]
 refine List.Perm.trans ?_ List.perm_middle
 rw[←List.drop_eq_getElem_cons h,Ai3]
theorem ux {α:Type}(f:Nat->Nat):∀(n k:Nat)(l:List α)(out:Array α),l.length=n->(pickOrder.go f n k l out).toList.Perm (out.toList++l)
 |
  0,k,l,out,h=>by
  cases l with
  | nil=>unfold pickOrder.go;rw[Ahh]
  | cons _ _=>cases h
 |
  n+1,k,l,out,h=>by
  have hl:f k%l.length<l.length:=Akq _ (by lia)
  unfold pickOrder.go
  rw[Ag0 hl]
  dsimp only
  refine(ux f n (k+1) _ _ (by rw[List.length_eraseIdx_of_lt hl];lia)).trans ?_
  rw[Array.toList_push,Alx]
  refine List.Perm.append_left _ ?_
  exact(jn hl).symm
theorem aw {α:Type}(f:Nat->Nat)(xs:Array α):(pickOrder f xs).toList.Perm xs.toList:=by
 unfold pickOrder
 have:=ux f xs.size 0 xs.toList #[] (by rw[Agg])
 simpa using this
section
variable {prog:Program}{w:World}{A:Around}{E:Value->Shared->Prop}
theorem wp_choose {src:Source}{n:Nat}{s:Shared}{Q:Nat->Shared->Prop}(hn:n≠0)(h:∀i dr,i<n->Q i {s with drawn:=dr}):wpAny (model prog w) A (choose src n) Q E s:=
 λ_ _ _=>⟨hn,h _ _ (Akq _ (Nat.pos_of_ne_zero hn))⟩
theorem vb {α:Type}:∀(n:Nat)(xs:List α)(s:Shared){Q:List α->Shared->Prop},xs.length=n->(∀ys dr,ys.Perm xs->Q ys {s with drawn:=dr})->wpAny (model prog w) A (drawOrder n xs) Q E s
 | 0,[],s,Q,_,h=>Agb (h [] s.drawn (.refl _))
 |
  n+1,x::xs,s,Q,hl,h=>by
  unfold drawOrder
  refine Aga (wp_choose (by simp) λi dr hi=>?_)
  have hi':i<(x::xs).length:=hi
  rw[Ag0 hi']
  dsimp only
  refine Aga (vb n _ _ (by rw[List.length_eraseIdx_of_lt hi'];lia) λys dr2 hp=>Agb ?_)
  exact h _ dr2 ((hp.cons _).trans (jn hi').symm)
 | 0,_::_,_,_,hl,_=>nomatch hl
 | _+1,[],_,_,hl,_=>nomatch hl
structure ki (w:World)(es:Array (Int×Value))(t:SetTable):Prop where
 ft:t.fits es.size=true
 tb:vt (Ti w) t
 sz:es.size<scanBound
theorem SetP.b {prog:Program}{w:World}{es:Array (Int×Value)}{t:SetTable}{ds:List Int}(P:SetP prog w es t ds):ki w es t:=⟨P.ft,P.tb,P.sz⟩
def Jz (f:Value)(i:Nat)(a:Addr)(n ep:Nat):Obj:={cls:=.type "set_iterator",data:=.fields #[f,.int i 0,.ref a,.int n 0,.int ep 0]}
variable {s:Shared}{a it:Addr}{es:Array (Int×Value)}{ep:Nat}{t:SetTable}{ds:List Int}
theorem we {slot given ep':Nat}{Q:Option (Value×Nat)->Shared->Prop}(ho:s.heap.get? a=some (Br es ep t))(P:ki w es t)(hb:Ti w=true)(hd:¬(t.plain=false/\1<es.size))
  (h:Q (match es[SetTable.below t.place slot]?,t.place[SetTable.below t.place slot]? with|some (_,x),some j=>some (x,j+1)|_,_=>none) s):wpAny (model prog w) A (setNext a slot given ep') Q E s:=by
 have hb':w.params.followText "set-order"=false:=by unfold Ti at hb;simpa using hb
 unfold setNext
 refine Aga (Ahy ho rfl P.ft ?_)
 dsimp only
 unfold setsByText
 refine Aga (Aga (Ajp (Agb ?_)))
 show wpAny _ _ (if w.params.followText "set-order"=true then _ else _) _ _ _
 rw[if_neg (by rw[hb'];decide)]
 show wpAny _ _ (if(!t.plain&&decide (es.size>1))=true then _ else _) _ _ _
 rw[if_neg (by intro z;simp at z;exact hd z)]
 refine Aga ?_
 show wpAny _ _ (if(!t.led&&!es.isEmpty)=true then _ else pure ()) _ _ _
 rw[if_neg (by rw[P.tb.2,hb];simp)]
 exact Agb (Agb h)
theorem xx {slot given:Nat}{Q:Option (Value×Nat)->Shared->Prop}(ho:s.heap.get? a=some (Br es ep t))(P:ki w es t)(hb:Ti w=false)
  (h:Q (((pickOrder (w.params.setOrder a ep) es)[given]?).map λe=>(e.2,slot)) s):wpAny (model prog w) A (setNext a slot given ep) Q E s:=by
 have hb':w.params.followText "set-order"=true:=by unfold Ti at hb;simpa using hb
 unfold setNext
 refine Aga (Ahy ho rfl P.ft ?_)
 dsimp only
 unfold setsByText
 refine Aga (Aga (Ajp (Agb ?_)))
 show wpAny _ _ (if w.params.followText "set-order"=true then _ else _) _ _ _
 rw[if_pos hb',if_neg (by simp)]
 refine Aga ?_
 unfold setWalk
 refine Aga (Ahy ho rfl P.ft ?_)
 dsimp only
 unfold setsByText
 refine Aga (Aga (Ajp (Agb ?_)))
 show wpAny _ _ (if w.params.followText "set-order"=true then _ else _) _ _ _
 rw[if_pos hb']
 refine Aga (Ajp (Agb (Agb h)))
theorem siT {f:Value}{i n:Nat}(hit:s.heap.get? it=some (Jz f i a n ep)):s.TypeIs (.ref it) "set_iterator":=⟨_,hit,rfl⟩
theorem yg {slot i nx:Nat}{x:Value}{Q:Option Value->Shared->Prop}(hit:s.heap.get? it=some (Jz (.int slot 0) i a es.size ep))(ho:s.heap.get? a=some (Br es ep t))(P:ki w es t)
  (hx:∀(A':Around)(Q':Option (Value×Nat)->Shared->Prop)(E':Value->Shared->Prop),Q' (some (x,nx)) s->wpAny (model prog w) A' (setNext a slot i ep) Q' E' s)
  (hQ:∀h',h'.get? it=some (Jz (.int nx 0) (i+1) a es.size ep)->Heap.SameBut it s.heap h'->Q (some x) {s with heap:=h'}):wpAny (model prog w) A (pyNext (.ref it)) Q E s:=by
 unfold pyNext
 refine Aga (Akk (wpAny_callSpecial?_slot (name:=Str.ofString "__next__") (siT hit) Hv (Ahj Hv (siT hit) Rf ?_ (Uy _))))
 unfold Builtin.«set_iterator.__next__»
 refine Aga (Agb ?_)
 refine Aga (Al1 hit rfl ?_)
 dsimp only
 refine Aga (Ajq ho rfl P.ft ?_)
 rw[if_neg (by simp)]
 rw[Ahq,Ahq,Ahq]
 refine Aga (hx _ _ _ ?_)
 dsimp only
 refine Aga (Ak0 hit rfl (by simp) ?_)
 have g1:(s.heap.update it (Obj.mapFields (·.setIfInBounds 0 (rawInt (nx:Int))))).get? it=some (Jz (.int nx 0) i a es.size ep):=Ah6 _ hit rfl
 refine Aga (Ak0 g1 rfl (by simp) ?_)
 have g2:((s.heap.update it (Obj.mapFields (·.setIfInBounds 0 (rawInt (nx:Int))))).update it (Obj.mapFields (·.setIfInBounds 1 (rawInt ((i:Int)+1))))).get? it=some (Jz (.int nx 0) (i+1) a es.size ep):=Ah6 _ g1 rfl
 exact Agb ⟨_,rfl,Agb (hQ _ g2 ((Ah4 ..).trans (Ah4 ..)))⟩
theorem c6 {f:Value}{i n k:Nat}{v:Value}{Q:Option Value->Shared->Prop}(hh:A.handled=none)(hit:s.heap.get? it=some (Jz f i a n ep))(hk:k<5)
  (hQ:∀h',Heap.ExtBut it s.heap h'->Q none {s with heap:=h'}):
  wpAny (model prog w) A.in1 (do setField (.ref it) k v;raiseNew (←newExc (.type "StopIteration") [])) (λfin s'=>∃u,fin=Fin.done (Flow.ret u)/\wpAny (model prog w) A (pure (some u)) Q E s')
   (λe s'=>wpAny (model prog w) A (do if ←isInstance e (.type "StopIteration") then pure none else throw e) Q E s') s:=by
 refine Aga (Ak0 hit rfl (by simpa using hk) ?_)
 refine Aga ?_
 simp only[newExc,newTuple]
 refine Aga (Ah5 ?_ (by size_fits))
 refine Aga (m:=firstArgMember _ _) (wpAny_of_eq (a:=Value.none) (by first|rfl|(simp only[firstArgMember];rfl)) ?_)
 refine Ah5 ?_ (by size_fits)
 simp only[raiseNew]
 refine Aga (wpAny_handled ?_)
 rw[show A.in1.handled=none from hh]
 refine Aga (Agb (wpAny_throw ?_))
 refine Aga (Ai2 (T:="StopIteration") (b:=true) ⟨_,Ago _ rfl,rfl⟩ isSubtype_stop ?_)
 exact Agb (hQ _ (((Ah4 ..).extBut.push _).push _))
theorem qg {slot i:Nat}{Q:Option Value->Shared->Prop}(hh:A.handled=none)(hit:s.heap.get? it=some (Jz (.int slot 0) i a es.size ep))(ho:s.heap.get? a=some (Br es ep t))(P:ki w es t)
  (hx:∀(A':Around)(Q':Option (Value×Nat)->Shared->Prop)(E':Value->Shared->Prop),Q' none s->wpAny (model prog w) A' (setNext a slot i ep) Q' E' s)
  (hQ:∀h',Heap.ExtBut it s.heap h'->Q none {s with heap:=h'}):wpAny (model prog w) A (pyNext (.ref it)) Q E s:=by
 unfold pyNext
 refine Aga (Akk (wpAny_callSpecial?_slot (name:=Str.ofString "__next__") (siT hit) Hv (Ahj Hv (siT hit) Rf ?_ (Uy _))))
 unfold Builtin.«set_iterator.__next__»
 refine Aga (Agb (Aga (Al1 hit rfl ?_)))
 dsimp only
 refine Aga (Ajq ho rfl P.ft ?_)
 rw[if_neg (by simp),Ahq,Ahq,Ahq]
 refine Aga (hx _ _ _ ?_)
 exact c6 hh hit (by decide) hQ
theorem wt {T:Addr}{js:Array Value}{i j:Nat}{x:Value}{hsh:Int}{Q:Option Value->Shared->Prop}(hit:s.heap.get? it=some (Jz (.ref T) i a es.size ep))(ho:s.heap.get? a=some (Br es ep t))(P:ki w es t)
  (hT:∀(A':Around)(Q':Option (Array Value)->Shared->Prop)(E':Value->Shared->Prop),Q' (some js) s->wpAny (model prog w) A' (seqItems? (.ref T)) Q' E' s) (hj:js[i]?=some (.int j 0)) (hx:es[j]?=some (hsh,x))
  (hQ:∀h',h'.get? it=some (Jz (.ref T) (i+1) a es.size ep)->Heap.SameBut it s.heap h'->Q (some x) {s with heap:=h'}):wpAny (model prog w) A (pyNext (.ref it)) Q E s:=by
 unfold pyNext
 refine Aga (Akk (wpAny_callSpecial?_slot (name:=Str.ofString "__next__") (siT hit) Hv (Ahj Hv (siT hit) Rf ?_ (Uy _))))
 unfold Builtin.«set_iterator.__next__»
 refine Aga (Agb (Aga (Al1 hit rfl ?_)))
 dsimp only
 refine Aga (Ajq ho rfl P.ft ?_)
 rw[if_neg (by simp)]
 refine Aga (hT _ _ _ ?_)
 dsimp only
 rw[Ahq,hj]
 dsimp only
 unfold setNextDrawn
 rw[Ahq,Ahq]
 refine Aga (Aga (Ahy ho rfl P.ft ?_))
 dsimp only
 rw[if_neg (by simp),hx]
 dsimp only
 refine Agb (Aga (Ak0 hit rfl (by simp) ?_))
 have g1:(s.heap.update it (Obj.mapFields (·.setIfInBounds 1 (rawInt ((i:Int)+1))))).get? it=some (Jz (.ref T) (i+1) a es.size ep):=Ah6 _ hit rfl
 exact Agb ⟨_,rfl,Agb (hQ _ g1 (Ah4 ..))⟩
theorem sv {T:Addr}{js:Array Value}{i:Nat}{Q:Option Value->Shared->Prop}(hh:A.handled=none)(hit:s.heap.get? it=some (Jz (.ref T) i a es.size ep))(ho:s.heap.get? a=some (Br es ep t))(P:ki w es t)
  (hT:∀(A':Around)(Q':Option (Array Value)->Shared->Prop)(E':Value->Shared->Prop),Q' (some js) s->wpAny (model prog w) A' (seqItems? (.ref T)) Q' E' s) (hj:js[i]?=none)
  (hQ:∀h',Heap.ExtBut it s.heap h'->Q none {s with heap:=h'}):wpAny (model prog w) A (pyNext (.ref it)) Q E s:=by
 unfold pyNext
 refine Aga (Akk (wpAny_callSpecial?_slot (name:=Str.ofString "__next__") (siT hit) Hv (Ahj Hv (siT hit) Rf ?_ (Uy _))))
 unfold Builtin.«set_iterator.__next__»
 refine Aga (Agb (Aga (Al1 hit rfl ?_)))
 dsimp only
 refine Aga (Ajq ho rfl P.ft ?_)
 rw[if_neg (by simp)]
 refine Aga (hT _ _ _ ?_)
 dsimp only
 rw[Ahq,hj]
 dsimp only
 refine Aga (Ak0 hit rfl (by simp) ?_)
 have g1:(s.heap.update it (Obj.mapFields (·.setIfInBounds 0 (rawInt 0)))).get? it=some (Jz (rawInt 0) i a es.size ep):=Ah6 _ hit rfl
 exact c6 (s:={s with heap:=s.heap.update it (Obj.mapFields (·.setIfInBounds 0 (rawInt 0)))}) hh g1 (by decide) λh' x=>hQ h' λb o hb e=>x b o hb ((Ah4 ..).extBut b o hb e)
end
theorem ju:Slot "set_iterator" "__iter__" "set_iterator.__iter__":=
 .of (owner:="set_iterator") (n:="__iter__") (by rw[typeLookup_type,builtinLookup_eq_fast];kernel_rfl) (by decide+kernel) (by decide+kernel) (by decide+kernel) (.inl (by decide+kernel)) (by rw[isSubtype_type];kernel_rfl)
theorem o3:entryFor table "set_iterator.__iter__"=some Builtin.«dict_keyiterator.__iter__»:=entryFor_alias (id':="dict_keyiterator.__iter__") (by kernel_rfl) rfl (by decide+kernel) (by kernel_rfl)
theorem wa (a:Value):argsOk "set_iterator.__iter__" ⟨[a],[]⟩:=by
 unfold argsOk
 rw[signature?_of (id:="set_iterator.__iter__") (n:=['_','_','r','e','t','i','_','_']) (o:=['r','o','t','a','r','e','t','i','_','t','e','s']) (by kernel_rfl) yk]
 kernel_rfl
section
variable {prog:Program}{w:World}{A:Around}{E:Value->Shared->Prop}{s:Shared}{a it:Addr}{es:Array (Int×Value)}{ep:Nat}{t:SetTable}{ds:List Int}
theorem ui {f:Value}{i n:Nat}{Q:Value->Shared->Prop}(hit:s.heap.get? it=some (Jz f i a n ep))(h:Q (.ref it) s):wpAny (model prog w) A (pyIter (.ref it)) Q E s:=by
 refine wpAny_pyIter_slot (siT hit) ju (Ahj ju (siT hit) o3 ?_ (wa _))
 show wpAny _ _ (ret (.ref it)) _ _ s
 exact Agb ⟨_,rfl,"set_iterator",_,siT hit,Hv.lookup,h⟩
theorem Adn (ho:s.heap.get? a=some (Br es ep t)):s.TypeIs (.ref a) "set":=⟨_,ho,rfl⟩
theorem jj {Q:Bool->Shared->Prop}(hT:s.TypeIs (.ref a) "set")(h:Q false s):wpAny (model prog w) A (Builtin.List.listLengthHint (.ref a)) Q E s:=by
 unfold Builtin.List.listLengthHint
 refine Aga (Aiy hT PySem.F.slot_set_len.lookup ?_)
 generalize hid:("set.__len__":String)=id0
 wp_delta
 rw[show splitId id0=some ("set","__len__") from by subst hid;decide+kernel]
 subst hid
 refine Aga (Ai2 (T:="set") (b:=true) hT (by rw[isSubtype_type];kernel_rfl) ?_)
 refine Aib (λz=>absurd z (by decide)) (λ_=>?_)
 refine Aib (λ_=>?_) (λz=>absurd (by decide+kernel) z)
 refine Aga (Aka hT ?_)
 exact Agb h
def Drawn (w:World)(es:Array (Int×Value))(t:SetTable):Prop:=Ti w=true/\t.plain=false/\1<es.size
theorem jc {Q:Value->Shared->Prop}(ho:s.heap.get? a=some (Br es ep t))(P:ki w es t)
  (h1:¬Drawn w es t->Q (.ref s.heap.objs.size) {s with heap:=s.heap.push (Jz (.int 0 0) 0 a es.size ep)})
  (h2:Drawn w es t->∀(js:List Nat)dr,js.Perm (List.range es.size)->Q (.ref (s.heap.objs.size+1)) {s with heap:=(s.heap.push {cls:=.type "tuple",data:=.seq (js.map λ(i:Nat)=>rawInt i).toArray}).push (Jz (.ref s.heap.objs.size) 0 a es.size ep),drawn:=dr}):
  wpAny (model prog w) A (pyIter (.ref a)) Q E s:=by
 refine wpAny_pyIter_slot (Adn ho) PySem.F.slot_set_iter (Ahj PySem.F.slot_set_iter (Adn ho) my ?_ (PySem.F.args_set_iter_1 _))
 unfold Builtin.«frozenset.__iter__»
 refine Aga (Agb ?_)
 refine Aga (Aga (Ajq ho rfl P.ft (Agb ?_)))
 refine Aga ?_
 unfold setDrawn
 refine Aga (Ahy ho rfl P.ft ?_)
 dsimp only
 unfold setsByText
 refine Aga (Aga (Ajp (Agb (Agb ?_))))
 show wpAny _ _ (if(!w.params.followText "set-order"&&(!t.plain&&decide (es.size>1)))=true then _ else _) _ _ _
 refine Aib (λz=>?_) (λz=>?_)
 ·
  rw[Ag6,Ag6] at z
  have hD:Drawn w es t:=⟨z.1,by simpa using z.2.1,Agf z.2.2⟩
  refine Aga (vb es.size _ _ Ahl λjs dr hp=>Aga (wpAny_newTuple ?_ ?_))
  ·
   refine Aga (wpAny_setEpoch_of (Agc _ ho) rfl P.ft ?_)
   have hs:(s.heap.push {cls:=.type "tuple",data:=.seq (js.map λ(i:Nat)=>rawInt i).toArray}).objs.size=s.heap.objs.size+1:=Ahv ..
   refine Aga (Ah5 (Agb ⟨_,rfl,"set_iterator",_,⟨_,Ago _ rfl,rfl⟩,Hv.lookup,?_⟩))
   have q:=h2 hD js dr hp
   rw[←hs] at q
   exact q
  ·
   rw[Agd,hp.length_eq,Ahl]
   exact Aj8 P.sz
 ·
  refine Aga (Agb ?_)
  refine Aga (wpAny_setEpoch_of ho rfl P.ft ?_)
  refine Aga (Ah5 (Agb ⟨_,rfl,"set_iterator",_,⟨_,Ago _ rfl,rfl⟩,Hv.lookup,?_⟩))
  refine h1 λhD=>z ?_
  rw[Ag6,Ag6]
  exact⟨hD.1,by rw[hD.2.1];rfl,Age hD.2.2⟩
theorem xy (hh:A.handled=none)(I:Addr)(hne:a≠I)(P:ki w es t)(xs:Array (Int×Value))(sl:Nat->Nat)(hz:xs.size=es.size)
  (hnx:∀(s':Shared)(i:Nat),s'.heap.get? a=some (Br es ep t)->i<=es.size->∀(A':Around)(Q':Option (Value×Nat)->Shared->Prop)(E':Value->Shared->Prop),Q' ((xs[i]?).map λe=>(e.2,sl (i+1))) s'->wpAny (model prog w) A' (setNext a (sl i) i ep) Q' E' s'):
  Walks prog w A I [I,a] [I] es.size (λi v=>∃e,xs[i]?=some e/\v=e.2) (λi h=>h.get? I=some (Jz (.int (sl i) 0) i a es.size ep)/\h.get? a=some (Br es ep t)) where
 sub:=λb hb=>by simp at hb;simp[hb]
 frame:=λ_ _ _ st hk=>⟨hk I (by simp) _ st.1,hk a (by simp) _ st.2⟩
 item:=λi s Q E hi st hQ=>by
  have hx:xs[i]?=some (xs[i]'(by lia)):=Agq (by lia)
  refine yg (x:=(xs[i]'(by lia)).2) (nx:=sl (i+1)) st.1 st.2 P (λA' Q' E' q=>hnx s i st.2 (by lia) A' Q' E' (by rw[hx];exact q)) λh' g sb=>?_
  exact hQ _ h' s.toks ⟨_,hx,rfl⟩ ⟨g,(sb.2 a hne).trans st.2⟩ λb o hb e=>(sb.2 b (λz=>hb (by simp[z]))).trans e
 done:=λs Q E st hQ=>qg hh st.1 st.2 P (λA' Q' E' q=>hnx s es.size st.2 (Agi _) A' Q' E' (by rw[Aic (by lia)];exact q)) λh' x=>hQ h' s.toks λb o hb e=>x b o (λz=>hb (by simp[z])) e
 self:=λ_ _ _ _ st hQ=>ui st.1 hQ
def Aex (t:SetTable):Nat->Nat
 | 0=>0
 | k+1=>t.place.getD k 0+1
theorem Aae (P:ki w es t)(hD:¬Drawn w es t):∃xs:Array (Int×Value),xs.toList.Perm es.toList/\KdlSrc prog w "set" a a es.size (λi v=>∃e,xs[i]?=some e/\v=e.2) (λh=>h.get? a=some (Br es ep t)):=by
 have mk:∀(xs:Array (Int×Value))(sl:Nat->Nat),sl 0=0->xs.toList.Perm es.toList->
   (∀(s':Shared)(i:Nat),s'.heap.get? a=some (Br es ep t)->i<=es.size->∀(A':Around)(Q':Option (Value×Nat)->Shared->Prop)(E':Value->Shared->Prop),Q' ((xs[i]?).map λe=>(e.2,sl (i+1))) s'->wpAny (model prog w) A' (setNext a (sl i) i ep) Q' E' s')->
   KdlSrc prog w "set" a a es.size (λi v=>∃e,xs[i]?=some e/\v=e.2) (λh=>h.get? a=some (Br es ep t)):=λxs sl h0 hp hnx=>
  {
   type:=λs h=>Adn h
   there:=λh e=>⟨Agk e,Agk e⟩
   keep:=λh h' e k=>k a (.inl rfl) _ e
   notList:=by decide
   notTuple:=by decide
   hint:=λA E s Q h q=>jj (Adn h) q
   iter:=λA s hh h=>⟨Jz (.int 0 0) 0 a es.size ep,_,λE Q q=>jc h P (λ_=>q) (λz=>absurd z hD),xy hh _ (Agv (Agk h)) P xs sl (by rw[←Agg,hp.length_eq,Agg]) hnx,by rw[h0];exact Ago _ rfl,Agc _ h⟩}
 cases hb:Ti w with
 |
  false=>
  refine⟨_,aw (w.params.setOrder a ep) es,mk _ (λ_=>0) rfl (aw _ es) λs' i ho hi A' Q' E' q=>xx ho P hb q⟩
 |
  true=>
  have hf:=P.ft
  simp only[SetTable.fits,Ag6,beq_iff_eq,Ajt] at hf
  refine⟨es,.refl _,mk es (Aex t) rfl (.refl _) λs' i ho hi A' Q' E' q=>we ho P hb (λz=>hD ⟨hb,z⟩) ?_⟩
  have hbl:SetTable.below t.place (Aex t i)=i:=by
   cases i with
   | zero=>exact md P.tb.1
   |
    succ k=>
    have hk:k<t.place.size:=by lia
    have e:t.place[k]?=some (t.place[k]):=Agq hk
    have eg:t.place.getD k 0=t.place[k]:=by unfold Array.getD;rw[dif_pos hk];rfl
    show SetTable.below t.place (t.place.getD k 0+1)=k+1
    rw[eg]
    exact mh P.tb.1 e
  rw[hbl]
  rcases Aiq i es.size with hl|hl
  ·
   have hk:i<t.place.size:=by lia
   have eg:t.place.getD i 0=t.place[i]:=by unfold Array.getD;rw[dif_pos hk];rfl
   rw[Agq hl] at q ⊢
   rw[Agq hk]
   have q':Q' (some ((es[i]).2,t.place.getD i 0+1)) s':=q
   rw[eg] at q'
   exact q'
  ·
   rw[Aic hl] at q ⊢
   exact q
end
def Ol (js:List Nat):Obj:={cls:=.type "tuple",data:=.seq (js.map λ(i:Nat)=>rawInt i).toArray}
section
variable {prog:Program}{w:World}{A:Around}{E:Value->Shared->Prop}{s:Shared}{a it:Addr}{es:Array (Int×Value)}{ep:Nat}{t:SetTable}{ds:List Int}
theorem wo (hh:A.handled=none)(I T:Addr)(hne:a≠I)(hnT:T≠I)(P:ki w es t){js:List Nat}(hp:js.Perm (List.range es.size)):
  Walks prog w A I [I,a,T] [I] es.size (λi v=>∃j e,js[i]?=some j/\es[j]?=some e/\v=e.2) (λi h=>h.get? I=some (Jz (.ref T) i a es.size ep)/\h.get? a=some (Br es ep t)/\h.get? T=some (Ol js)) where
 sub:=λb hb=>by simp at hb;simp[hb]
 frame:=λ_ _ _ st hk=>⟨hk I (by simp) _ st.1,hk a (by simp) _ st.2.1,hk T (by simp) _ st.2.2⟩
 item:=λi s Q E hi st hQ=>by
  have hl:js.length=es.size:=by rw[hp.length_eq,Ahl]
  have hj:js[i]?=some (js[i]'(by lia)):=Ag0 (by lia)
  have hm:js[i]'(by lia)<es.size:=Ahm.mp (hp.mem_iff.mp (Aia _))
  have hx:es[js[i]'(by lia)]?=some (es[js[i]'(by lia)]):=Agq hm
  refine wt (js:=(js.map λ(i:Nat)=>rawInt i).toArray) (j:=js[i]'(by lia)) (x:=(es[js[i]'(by lia)]).2) (hsh:=(es[js[i]'(by lia)]).1) st.1 st.2.1 P (λA' Q' E' q=>Alz st.2.2 rfl q) ?_ hx λh' g sb=>?_
  ·
   rw[Aj1,Agz,hj]
   rfl
  · exact hQ _ h' s.toks ⟨_,_,hj,hx,rfl⟩ ⟨g,(sb.2 a hne).trans st.2.1,(sb.2 T hnT).trans st.2.2⟩ λb o hb e=>(sb.2 b (λz=>hb (by simp[z]))).trans e
 done:=λs Q E st hQ=>by
  have hl:js.length=es.size:=by rw[hp.length_eq,Ahl]
  refine sv (js:=(js.map λ(i:Nat)=>rawInt i).toArray) hh st.1 st.2.1 P (λA' Q' E' q=>Alz st.2.2 rfl q) ?_ λh' x=>hQ h' s.toks λb o hb e=>x b o (λz=>hb (by simp[z])) e
  rw[Aj1,Agz,Aj2 (by lia)]
  rfl
 self:=λ_ _ _ _ st hQ=>ui st.1 hQ
theorem Abn {xs:List (Int×Value)}(h:∀e∈xs,∃k u,e.2=.int k u):IntsAre (xs.map (·.2)) (xs.map λe=>Afb e.2):=by
 induction xs with
 | nil=>exact .nil
 |
  cons e xs ih=>
  obtain⟨k,u,hk⟩:=h e (Agj ..)
  rw[Agy,Agy,hk]
  exact .cons k u (ih λe he=>h e (Agh _ he))
theorem um {acc:Array Value}{n:Nat}{xs:List (Int×Value)}(hn:xs.length=n)(h:ItemsOf (λi v=>∃e,xs[i]?=some e/\v=e.2) acc n):acc.toList=xs.map (·.2):=by
 apply List.ext_getElem?
 intro i
 rw[Agz]
 have hz:acc.toList.length=n:=by rw[Agg];exact h.1
 rcases Aiq i n with hi|hi
 ·
  have e1:acc.toList[i]?=some (acc.toList[i]'(by lia)):=Ag0 (by lia)
  obtain⟨e,he,hv⟩:=h.2 i _ (by rw[←Agt];exact e1)
  rw[e1,he,hv]
  rfl
 ·
  rw[Aj2 (by lia),Aj2 (by lia)]
  rfl
theorem fw {es:Array (Int×Value)}:∀{js:List Nat},(∀j∈js,j<es.size)->∃xs:List (Int×Value),xs=js.filterMap (λj=>es[j]?)/\xs.length=js.length/\∀(i j:Nat),js[i]?=some j->xs[i]?=es[j]?
 | [],_=>⟨[],rfl,rfl,λi j h=>by cases h⟩
 |
  k::js,h=>by
  obtain⟨xs,e,hl,hx⟩:=fw (js:=js) λj hj=>h j (Agh _ hj)
  have hk:es[k]?=some (es[k]'(h k (Agj ..))):=Agq _
  refine⟨es[k]'(h k (Agj ..))::xs,by rw[Aji hk,e],by rw[Agr,Agr,hl],λi j hj=>?_⟩
  cases i with
  |
   zero=>
   have:k=j:=Agn hj
   subst this
   exact hk.symm
  | succ i=>exact hx i j hj
theorem Vy {Q:List Value->Shared->Prop}(ho:s.heap.get? a=some (Br es ep t))(P:ki w es t)(hh:A.handled=none)
  (h:∀h' tk dr(xs:List (Int×Value)),(∀b o,s.heap.get? b=some o->h'.get? b=some o)->s.heap.objs.size<=h'.objs.size->xs.Perm es.toList->Q (xs.map (·.2)) {s with heap:=h',toks:=tk,drawn:=dr}):wpAny (model prog w) A (collect (.ref a)) Q E s:=by
 have hz:es.size<=sizeLine:=Aj8 P.sz
 by_cases hD:Drawn w es t
 ·
  unfold collect
  refine Aga (Al0 (Ah1 entry_proto_collect' ?_))
  show wpAny _ _ (do again (.builtin "list.__iadd__" ⟨[←newList [],.ref a],[]⟩)) _ _ s
  refine Aga (Akj (Agb ⟨Ajx _ (by decide+kernel),Ah1 entry_list_iadd' ?_⟩))
  show wpAny _ _ (Builtin.List.listExtendWith (.ref s.heap.objs.size) (.ref a) (.ref s.heap.objs.size)) _ _ {s with heap:=s.heap.push (seqObj "list" #[] 0)}
  have hS0:(s.heap.push (seqObj "list" #[] 0)).get? s.heap.objs.size=some {cls:=.type "list",data:=.seq #[] 0}:=Ago _ rfl
  have ho1:(s.heap.push (seqObj "list" #[] 0)).get? a=some (Br es ep t):=Agc _ ho
  have haS:s.heap.objs.size≠a:=Aip (Agk ho)
  rw[Aik PySem.F.plain_list_iadd _]
  unfold Builtin.List.listExtendWith
  refine Aga (Aka (T:="set") ⟨_,ho1,rfl⟩ ?_)
  have e1:Builtin.List.listSameRef (.ref s.heap.objs.size) (.ref a)=false:=by simp[Builtin.List.listSameRef,haS]
  have e2:(Value.type "set"==Value.type "list")=false:=by decide
  have e3:(Value.type "set"==Value.type "tuple")=false:=by decide
  simp only[e1,e2,e3,Bool.or_false,Ahi,Aiz]
  refine Aga (jc ho1 P (λz=>absurd hD z) λ_ js dr hp=>?_)
  have hsz:(s.heap.push (seqObj "list" #[] 0)).objs.size=s.heap.objs.size+1:=Ahv ..
  rw[hsz]
  have hI:s.heap.objs.size+1+1=s.heap.objs.size+2:=rfl
  have hT1:((s.heap.push (seqObj "list" #[] 0)).push (Ol js)).get? (s.heap.objs.size+1)=some (Ol js):=by rw[←hsz];exact Ago _ rfl
  have hsz2:((s.heap.push (seqObj "list" #[] 0)).push (Ol js)).objs.size=s.heap.objs.size+1+1:=by rw[Ahv,hsz]
  have hI1:(((s.heap.push (seqObj "list" #[] 0)).push (Ol js)).push (Jz (.ref (s.heap.objs.size+1)) 0 a es.size ep)).get? (s.heap.objs.size+1+1)=some (Jz (.ref (s.heap.objs.size+1)) 0 a es.size ep):=by rw[←hsz2];exact Ago _ rfl
  have hla:=Agk ho
  have W:=wo (prog:=prog) (w:=w) (A:=A.in1) (ep:=ep) hh (s.heap.objs.size+1+1) (s.heap.objs.size+1) (a:=a) (Agv (Aih (Aih hla))) (Agv (Ah9 _)) P hp
  have hSf:s.heap.objs.size∉[s.heap.objs.size+1+1,a,s.heap.objs.size+1]:=by
   simp only[Agx,Ain,or_false,not_or]
   exact⟨Agv (Aih (Ah9 _)),haS,Agv (Ah9 _)⟩
  have key:∀(R:Result->Shared->Prop),(∀h' tk(acc:Array Value)c',(∀b o,s.heap.get? b=some o->h'.get? b=some o)->h'.get? s.heap.objs.size=some {cls:=.type "list",dict:=none,data:=.seq acc c',slots:=#[]}->ItemsOf (λi v=>∃j e,js[i]?=some j/\es[j]?=some e/\v=e.2) acc es.size->R (.ok (.ret (.ref s.heap.objs.size))) {s with heap:=h',toks:=tk,drawn:=dr})->
    ∀(hp':Heap)(c₁ tk:Nat),(hp'.get? (s.heap.objs.size+1+1)=some (Jz (.ref (s.heap.objs.size+1)) 0 a es.size ep)/\hp'.get? a=some (Br es ep t)/\hp'.get? (s.heap.objs.size+1)=some (Ol js))->(∀b o,s.heap.get? b=some o->hp'.get? b=some o)->
    hp'.get? s.heap.objs.size=some {cls:=.type "list",data:=.seq #[] c₁}->codeAny (model prog w) A (.builtin "list.extend.loop" ⟨[.ref s.heap.objs.size,.ref (s.heap.objs.size+1+1),.ref s.heap.objs.size],[]⟩) R {s with heap:=hp',toks:=tk,drawn:=dr}:=by
   intro R hR hp' c₁ tk st kp hS₁
   refine codeAny_extend_loopS W.toS hz s.heap.objs.size hSf _ es.size 0 _ #[] c₁ rfl (Ahn _) st hS₁ (ItemsOf.nil _) λs' acc' c' hm hS' hacc=>?_
   rw[Moved.eq_with hm]
   refine hR s'.heap s'.toks acc' c' (λb o e=>hm.heap b o (λhmem=>?_) (kp b o e)) hS' hacc
   have hb:=Agk e
   rcases Agx.mp hmem with e'|hmem
   · exact absurd hb (by rw[e'];exact Ahp _)
   · exact absurd hb (by rw[Ag3.mp hmem];exact Nat.not_lt.mpr (Nat.le_succ_of_le (Aju _)))
  have fin:∀h' tk(acc:Array Value)c',(∀b o,s.heap.get? b=some o->h'.get? b=some o)->h'.get? s.heap.objs.size=some {cls:=.type "list",dict:=none,data:=.seq acc c',slots:=#[]}->ItemsOf (λi v=>∃j e,js[i]?=some j/\es[j]?=some e/\v=e.2) acc es.size->Q acc.toList {s with heap:=h',toks:=tk,drawn:=dr}:=by
   intro h' tk acc c' kp hS' ia
   obtain⟨xs,e,hl,hx⟩:=fw (es:=es) (js:=js) λj hj=>Ahm.mp (hp.mem_iff.mp hj)
   have hjl:js.length=es.size:=by rw[hp.length_eq,Ahl]
   have hpx:xs.Perm es.toList:=by
    rw[e]
    refine(hp.filterMap _).trans ?_
    rw[filterMap_getElem?_range]
   have ea:=um (hl.trans hjl) ⟨ia.1,λi v hv=>by obtain⟨j,e,hj,he,z⟩:=ia.2 i v hv;exact⟨e,by rw[hx i j hj];exact he,z⟩⟩
   rw[ea]
   exact h h' tk dr xs kp (Ajz (Agk hS')) hpx
  have kp2:∀b o,s.heap.get? b=some o->(((s.heap.push (seqObj "list" #[] 0)).push (Ol js)).push (Jz (.ref (s.heap.objs.size+1)) 0 a es.size ep)).get? b=some o:=λb o e=>Agc _ (Agc _ (Agc _ e))
  have hS2:(((s.heap.push (seqObj "list" #[] 0)).push (Ol js)).push (Jz (.ref (s.heap.objs.size+1)) 0 a es.size ep)).get? s.heap.objs.size=some {cls:=.type "list",data:=.seq #[] 0}:=Agc _ (Agc _ hS0)
  show wpAny (model prog w) A.in1 _ _ _ {s with heap:=((s.heap.push (seqObj "list" #[] 0)).push (Ol js)).push (Jz (.ref (s.heap.objs.size+1)) 0 a es.size ep),drawn:=dr}
  refine Aga (Ahd (jj ⟨_,kp2 _ _ ho,rfl⟩ ?_))
  have all:∀(
        hp':Heap) (c₁ tk:Nat),(hp'.get? (s.heap.objs.size+1+1)=some (Jz (.ref (s.heap.objs.size+1)) 0 a es.size ep)/\hp'.get? a=some (Br es ep t)/\hp'.get? (s.heap.objs.size+1)=some (Ol js))->(∀b o,s.heap.get? b=some o->hp'.get? b=some o)->
    hp'.get? s.heap.objs.size=some {cls:=.type "list",data:=.seq #[] c₁}->codeAny (model prog w) A (.builtin "list.extend.loop" ⟨[.ref s.heap.objs.size,.ref (s.heap.objs.size+1+1),.ref s.heap.objs.size],[]⟩) (λr s'=>
      match r with
      |
       Except.ok (Flow.ret v)=>
       wpAny (model prog w) A (match v with
        |
         .ref a=>do match (←load a).data with
         | .seq xs _=>pure xs.toList
         | _=>unsupported "internal:collect"
        | _=>unsupported "internal:collect") Q E s'
      | Except.ok _=>False
      | Except.error e=>E e s') {s with heap:=hp',toks:=tk,drawn:=dr}:=key _ λh' tk acc c' kp hS' ia=>by
    show wpAny (model prog w) A (do
     let o ←load s.heap.objs.size
     match o.data with
     | .seq xs _=>pure xs.toList
     | _=>unsupported "internal:collect") Q E {s with heap:=h',toks:=tk,drawn:=dr}
    exact Aga (wpAny_load hS' (Agb (fin h' tk acc c' kp hS' ia)))
  refine Aib (λ_=>?_) (λ_=>Agb ⟨Alc PySem.F.plain_extend_loop _,all _ 0 s.toks ⟨hI1,kp2 _ _ ho,Agc _ hT1⟩ kp2 hS2⟩)
  refine Aga (Aj7 (Aga ?_))
  show wpAny _ _ (updateSeq s.heap.objs.size (·.push .none)>>= λ_=>updateSeq s.heap.objs.size (·.pop)) _ _ _
  refine Aga (wpAny_updateSeq hS2 rfl ?_)
  have g2:=Ah6 (Obj.mapSeq (·.push Value.none)) hS2 rfl
  refine wpAny_updateSeq (hz:=by seq_fits) g2 rfl ?_
  have g3:=Ah6 (Obj.mapSeq (·.pop)) g2 rfl
  have oth:∀b o,b≠s.heap.objs.size->(((s.heap.push (seqObj "list" #[] 0)).push (Ol js)).push (Jz (.ref (s.heap.objs.size+1)) 0 a es.size ep)).get? b=some o->(((((s.heap.push (seqObj "list" #[] 0)).push (Ol js)).push (Jz (.ref (s.heap.objs.size+1)) 0 a es.size ep)).update s.heap.objs.size (Obj.mapSeq (·.push Value.none))).update s.heap.objs.size (Obj.mapSeq (·.pop))).get? b=some o:=
   λb o hb e=>(Aj4 _ _ (Aj3 hb)).trans ((Aj4 _ _ (Aj3 hb)).trans e)
  refine Agb ⟨Alc PySem.F.plain_extend_loop _,all _ _ s.toks ⟨oth _ _ (Aip (Aih (Ah9 _))) hI1,oth _ _ haS.symm (kp2 _ _ ho),oth _ _ (Aip (Ah9 _)) (Agc _ hT1)⟩ (λb o e=>oth b o (Agv (Agk e)) (kp2 b o e)) g3⟩
 ·
  obtain⟨xs,hp,K⟩:=Aae (a:=a) (ep:=ep) P hD
  refine V1 K hh ho hz λh' tk acc kp hge ia=>?_
  have hl:xs.toList.length=es.size:=by rw[hp.length_eq,Agg]
  have e:=um hl ⟨ia.1,λi v hv=>by obtain⟨e,he,z⟩:=ia.2 i v hv;exact⟨e,by rw[Agt];exact he,z⟩⟩
  rw[e]
  have q:=h h' tk s.drawn xs.toList kp hge hp
  exact q
theorem iq {Q:List Value->Shared->Prop}(hS:SetI prog w a ds s.heap)(hh:A.handled=none)
  (h:∀h' tk dr(vs:List Value)(ns:List Int),(∀b o,s.heap.get? b=some o->h'.get? b=some o)->s.heap.objs.size<=h'.objs.size->IntsAre vs ns->ns.Perm ds->Q vs {s with heap:=h',toks:=tk,drawn:=dr}):wpAny (model prog w) A (collect (.ref a)) Q E s:=by
 obtain⟨es,ep,t,ho,P⟩:=hS
 exact Vy ho P.b hh λh' tk dr xs kp hge hp=>h h' tk dr _ _ kp hge (Abn λx hx=>P.ints x (hp.mem_iff.mp hx)) ((hp.map _).trans P.ks)
end
end L2
namespace L2
open PySem PySem.W PyProof.Rows
open PySem.SetTable (Probe Met)
def tm (m:Nat):SetTable:={mask:=m,place:=#[],dummies:=#[],finger:=0,led:=false,moves:=0,plain:=false}
theorem jw {m:Nat}{ow:Array (Option Nat)}:∀(fuel:Nat)(x:Nat×Nat)(p:Probe)(j:Nat),Rs m p->p.i=x.1->p.perturb=x.2->SetTable.layClean.free m ow fuel x.1 x.2=some j->
  ∃K,K<10*fuel/\(adv (tm m) K p).j=j/\∀k,k<K->(ow.getD (adv (tm m) k p).j (some 0)).isNone=false
 | 0,x,p,j,_,_,_,h=>nomatch h
 |
  fuel+1,x,p,j,hr,h1,h2,h=>by
  unfold SetTable.layClean.free at h
  have hl:p.more<=9:=by rw[hr.2];exact yj _ _
  have rn:SetTable.runEnd m x.1+1-x.1=p.more+1:=by rw[hr.2,h1];unfold SetTable.runEnd;split<;>lia
  have ra:∀k,k<=p.more->(adv (tm m) k p).j=x.1+k:=λk hk=>by
   rw[Yf _ _ _ hk]
   show p.j+k=_
   rw[hr.1,h1]
  rw[rn] at h
  cases hf:(List.range (p.more+1)).find? λk=>(ow.getD (x.1+k) (some 0)).isNone with
  |
   some k=>
   rw[hf] at h
   have h:=Agn h
   have hm:=Ahm.mp (List.mem_of_find?_eq_some hf)
   obtain⟨_,as,bs,e1,e2⟩:=List.find?_eq_some_iff_append.mp hf
   refine⟨k,by lia,by rw[ra k (by lia)];exact h,λk' hk'=>?_⟩
   rw[ra k' (by lia)]
   have hk'm:k'∈as:=by
    have z:k'∈List.range (p.more+1):=Ahm.mpr (by lia)
    rw[e1] at z
    rcases Ahf.mp z with z|z
    · exact z
    ·
     exfalso
     have pw:(as++k::bs).Pairwise (· < ·):=e1▸Ak3
     have pw:=(List.pairwise_append.mp pw).2.1
     rcases Agx.mp z with z|z
     · lia
     ·
      have:=(Ajl.mp pw).1 _ z
      lia
   have:=e2 k' hk'm
   simpa using this
  |
   none=>
   rw[hf] at h
   have hn:=List.find?_eq_none.mp hf
   obtain⟨n1,n2,n3,n4⟩:=j4 (t:=tm m) hr
   have en:adv (tm m) (p.more+1) p=(tm m).advance {p with j:=p.j+p.more,more:=p.more-p.more}:=by
    rw[O4,Yf _ _ _ (Agi _)];rfl
   have ea:(tm m).advance {p with j:=p.j+p.more,more:=p.more-p.more}={p with j:=(SetTable.leap m p.i p.perturb).1,more:=SetTable.runEnd m (SetTable.leap m p.i p.perturb).1-(SetTable.leap m p.i p.perturb).1,i:=(SetTable.leap m p.i p.perturb).1,perturb:=(SetTable.leap m p.i p.perturb).2}:=by
    unfold SetTable.advance
    rw[if_neg (by show ¬p.more-p.more>0;lia)]
    rfl
   rw[ea] at en
   have h:SetTable.layClean.free m ow fuel (SetTable.leap m x.1 x.2).1 (SetTable.leap m x.1 x.2).2=some j:=h
   rw[←h1,←h2] at h
   obtain⟨K,k1,k2,k3⟩:=jw fuel (SetTable.leap m p.i p.perturb) ({p with j:=(SetTable.leap m p.i p.perturb).1,more:=SetTable.runEnd m (SetTable.leap m p.i p.perturb).1-(SetTable.leap m p.i p.perturb).1,i:=(SetTable.leap m p.i p.perturb).1,perturb:=(SetTable.leap m p.i p.perturb).2}) j ⟨rfl,rfl⟩ rfl rfl h
   refine⟨p.more+1+K,by lia,by rw[O4,en];exact k2,λk hk=>?_⟩
   by_cases hk':k<p.more+1
   ·
    rw[ra k (by lia)]
    exact Akt.mpr (hn k (Ahm.mpr hk'))
   ·
    rw[show k=p.more+1+(k-(p.more+1)) by lia,O4,en]
    exact k3 _ (by lia)
def Adt (m:Nat)(ow:Array (Option Nat))(h:Int)(j:Nat):Prop:=∃K,K<10*SetTable.turns m/\(adv (tm m) K ((tm m).probeStart h)).j=j/\∀k,k<K->ow.getD (adv (tm m) k ((tm m).probeStart h)).j none≠none
theorem Aaw {m:Nat}(hc:Cyc m)(hashes:Array Int)(hn:hashes.size<=m):∃ow:Array (Option Nat),SetTable.layClean m hashes=some ow/\ow.size=m+1/\(occ m ow).Perm (List.range hashes.size)/\∀j k h,ow.getD j none=some k->hashes[k]?=some h->Adt m ow h j:=by
 have go:∀(l done:List Int)(ow:Array (Option Nat))(k:Nat),done.length=k->ow.size=m+1->(occ m ow).Perm (List.range k)->k+l.length<=m->(∀j k h,ow.getD j none=some k->done[k]?=some h->Adt m ow h j)->
   ∃ow',l.foldl (λacc h=>do
    let (owner,k) ←acc
    let j ←SetTable.layClean.free m owner (SetTable.turns m) (SetTable.bits h%(m+1)) (SetTable.bits h)
    pure (owner.setIfInBounds j (some k),k+1)) (some (ow,k))=some (ow',k+l.length)/\ow'.size=m+1/\(occ m ow').Perm (List.range (k+l.length))/\∀j k h,ow'.getD j none=some k->(done++l)[k]?=some h->Adt m ow' h j:=by
  intro l
  induction l with
  | nil=>intro done ow k _ h1 h2 _ h4;exact⟨ow,rfl,h1,h2,by rw[Ahh];exact h4⟩
  |
   cons h l ih=>
   intro done ow k h0 h1 h2 h3 h4
   rw[Agr] at h3
   obtain⟨j0,hj0,he0⟩:=wq h1 (show k<=m by lia) (by rw[h2.length_eq,Ahl])
   obtain⟨j,ej,he⟩:=t9 (h:=h) hc hj0 he0
   obtain⟨hs,hg⟩:=Aav he
   have p2:(occ m (ow.setIfInBounds j (some k))).Perm (List.range (k+1)):=by
    refine(zw h1 hs hg).trans ?_
    rw[List.range_succ]
    exact(List.Perm.cons k h2).trans (List.perm_append_singleton k _).symm
   have gj:(ow.setIfInBounds j (some k)).getD j none=some k:=by
    rw[Agu,Array.getElem?_setIfInBounds_self_of_lt hs]
    rfl
   have gn:∀{i:Nat},i≠j->(ow.setIfInBounds j (some k)).getD i none=ow.getD i none:=λ{i}hi=>by
    rw[Agu,Agu,Array.getElem?_setIfInBounds_ne (Aj3 hi)]
   have up:∀{i:Nat},ow.getD i none≠none->(ow.setIfInBounds j (some k)).getD i none≠none:=λ{i}z=>by
    by_cases e:i=j
    · rw[e,gj];exact λy=>nomatch y
    · rw[gn e];exact z
   have w4:∀j' k' h',(ow.setIfInBounds j (some k)).getD j' none=some k'->(done++[h])[k']?=some h'->Adt m (ow.setIfInBounds j (some k)) h' j':=λj' k' h' z1 z2=>by
    by_cases e:j'=j
    ·
     subst e
     rw[gj] at z1
     injection z1 with z1
     subst z1
     rw[Ai7 (by lia),h0,Nat.sub_self] at z2
     have z2:h=h':=Agn z2
     subst z2
     obtain⟨K,a1,a2,a3⟩:=jw (m:=m) (SetTable.turns m) (SetTable.bits h%(m+1),SetTable.bits h) ((tm m).probeStart h) j' ⟨rfl,rfl⟩ rfl rfl ej
     refine⟨K,a1,a2,λk hk=>up ?_⟩
     have z:=a3 k hk
     have hi:(adv (tm m) k ((tm m).probeStart h)).j<=m:=by
      have:=(ic (t:=tm m) k (jh (tm m) h)).2
      have e:(tm m).mask=m:=rfl
      lia
     rw[Agu,Agq (by lia)] at z ⊢
     intro y
     have y:ow[(adv (tm m) k ((tm m).probeStart h)).j]=none:=y
     rw[show(some (ow[(adv (tm m) k ((tm m).probeStart h)).j]'(by lia))).getD (some 0)=ow[(adv (tm m) k ((tm m).probeStart h)).j]'(by lia) from rfl,y] at z
     cases z
    ·
     rw[gn e] at z1
     have hk:k'<k:=by
      have hm:k'∈occ m ow:=by
       refine Aif.mpr ⟨j',Ahm.mpr ?_,z1⟩
       rcases Aiq j' (m+1) with l|l
       · exact l
       ·
        rw[Agu,Aic (by lia)] at z1
        cases z1
      exact Ahm.mp (h2.mem_iff.mp hm)
     rw[Akl (by lia)] at z2
     obtain⟨K,a1,a2,a3⟩:=h4 j' k' h' z1 z2
     exact⟨K,a1,a2,λk hk=>up (a3 k hk)⟩
   obtain⟨ow',e,a,b,c⟩:=ih (done++[h]) (ow.setIfInBounds j (some k)) (k+1) (by rw[Agw,h0];rfl) (by rw[Array.size_setIfInBounds];exact h1) p2 (by lia) w4
   refine⟨ow',?_,a,by rw[Agr,show k+(l.length+1)=k+1+l.length by lia];exact b,by rw[show done++h::l=done++[h]++l by simp];exact c⟩
   rw[List.foldl_cons,Agr,show k+(l.length+1)=k+1+l.length by lia,←e]
   congr 1
   show(SetTable.layClean.free m ow (SetTable.turns m) (SetTable.bits h%(m+1)) (SetTable.bits h)).bind _=_
   rw[ej]
   rfl
 have z0:∀j,(Array.replicate (m+1) (none:Option Nat)).getD j none=none:=λj=>by
  rw[Agu,Array.getElem?_replicate]
  split<;>rfl
 have h0:(occ m (Array.replicate (m+1) none)).Perm (List.range 0):=by
  have:occ m (Array.replicate (m+1) none)=[]:=by
   unfold occ
   exact List.filterMap_eq_nil_iff.mpr λj hj=>z0 j
  rw[this]
  exact .nil
 obtain⟨ow,e,a,b,c⟩:=go hashes.toList [] (Array.replicate (m+1) none) 0 rfl (by rw[Array.size_replicate]) h0 (by rw[Agg];lia) (λj k h z=>by rw[z0] at z;cases z)
 rw[Akh,Agg] at e b
 refine⟨ow,?_,a,b,λj k h z1 z2=>c j k h z1 (by rw[List.nil_append,Agt];exact z2)⟩
 unfold SetTable.layClean
 rw[←Array.foldl_toList,e]
 rfl
theorem U0 {f:Nat->Option Nat}:∀(l:List Nat),((l.filterMap λj=>(f j).map (j,·)).map (·.2))=l.filterMap f
 | []=>rfl
 |
  a::l=>by
  have ih:=U0 (f:=f) l
  cases hf:f a with
  | none=>rw[Aks (by rw[hf];rfl),Aks hf];exact ih
  | some v=>rw[Aji (b:=(a,v)) (by rw[hf];rfl),Aji hf,Agy,ih]
theorem uv {t:SetTable}{es:Array (Int×Value)}{m wanted:Nat}(hc:Cyc m)(hm:SetTable.sizeAbove wanted-1=m)(hn:es.size<=m):∃t' order,t.relaid (es.map (·.1)) wanted=some (t',order)/\
  (order.filterMap (es[·]?)).toList.Perm es.toList/\t'.mask=m/\t'.led=t.led/\t'.dummies=#[]/\t'.place.size=es.size/\Rises t'.place.toList/\(∀j∈t'.place.toList,j<=m)/\
  ∀(i:Nat)(e:Int×Value)(j:Nat),(order.filterMap (es[·]?))[i]?=some e->t'.place[i]?=some j->Way t' e.1 j:=by
 obtain⟨ow,e,hz,hp,hw⟩:=Aaw hc (es.map (·.1)) (by rw[Array.size_map];exact hn)
 rw[Array.size_map] at hp
 refine⟨{mask:=m,place:=(((List.range (m+1)).filterMap λj=>(ow.getD j none).map (j,·)).map (·.1)).toArray,dummies:=#[],finger:=t.finger,led:=t.led,moves:=t.movedTo m,plain:=t.plain},(((List.range (m+1)).filterMap λj=>(ow.getD j none).map (j,·)).map (·.2)).toArray,?_,?_,rfl,rfl,rfl,?_,?_,?_,?_⟩
 ·
  unfold SetTable.relaid SetTable.laid
  rw[hm,e]
  rfl
 ·
  rw[List.filterMap_toArray]
  show(List.filterMap _ _).Perm _
  rw[U0]
  refine(hp.filterMap _).trans ?_
  rw[filterMap_getElem?_range]
 ·
  rw[Agm,Agd]
  have:=hp.length_eq
  rw[Ahl] at this
  rw[←this]
  unfold occ
  rw[←U0,Agd]
 · exact uu _
 ·
  intro j hj
  obtain⟨⟨a,b⟩,h1,rfl⟩:=Ag7.mp hj
  obtain⟨c,h2,h3⟩:=Aif.mp h1
  obtain⟨v,h4,h5⟩:=Ahc.mp h3
  injection h5 with h5
  subst h5
  exact Aii (Ahm.mp h2)
 ·
  intro i e' j h1 h2
  rw[List.filterMap_toArray] at h1
  generalize hL:((List.range (m+1)).filterMap λj=>(ow.getD j none).map (j,·))=L at h1 h2 ⊢
  have hk:∀k∈L.map (·.2),k<es.size:=λk hk=>by
   rw[←hL,U0] at hk
   exact Ahm.mp (hp.mem_iff.mp hk)
  obtain⟨xs,ex,hl,hx⟩:=fw (es:=es) (js:=L.map (·.2)) hk
  rw[Aj1,←ex] at h1
  rw[Aj1,Agz] at h2
  obtain⟨⟨j',k⟩,h3,rfl⟩:=Ahc.mp h2
  have h4:=hx i k (by rw[Agz,h3];rfl)
  rw[h1] at h4
  have hin:(j',k)∈L:=Ah8 h3
  rw[←hL] at hin
  obtain⟨c,c1,c2⟩:=Aif.mp hin
  obtain⟨v,c3,c4⟩:=Ahc.mp c2
  injection c4 with c4 c5
  subst c4;subst c5
  obtain⟨K,a1,a2,a3⟩:=hw _ _ e'.1 c3 (by rw[Array.getElem?_map,←h4];rfl)
  have ea:=λ(T:SetTable)(hT:T.mask=m)(n:Nat)(p:Probe)=>Uz (t':=T) (t:=tm m) hT n p
  refine⟨K,a1,?_,λk hk=>?_⟩
  · exact(Ahb Probe.j (ea _ rfl _ _)).trans a2
  ·
   refine(show ∀q q',q'=q->q∈L.map (·.1)->q'∈L.map (·.1) from λq q' e h=>by rw[e];exact h) _ _ (Ahb Probe.j (ea _ rfl _ _)) ?_
   have z:=a3 k hk
   show(adv (tm m) k ((tm m).probeStart e'.1)).j∈_
   generalize (adv (tm m) k ((tm m).probeStart e'.1)).j=q at z ⊢
   obtain⟨v,hv⟩:=Option.ne_none_iff_exists'.mp z
   show q∈L.map (·.1)
   rw[←hL]
   refine List.mem_map.mpr ⟨(q,v),Aif.mpr ⟨q,Ahm.mpr ?_,by rw[hv];rfl⟩,rfl⟩
   rcases Aiq q (m+1) with l|l
   · exact l
   ·
    rw[Agu,Aic (by lia)] at hv
    cases hv
end L2
namespace DX
structure Lin {α:Type}(lt:α->α->Bool):Prop where
 irr:∀a,lt a a=false
 tr:∀a b c,lt a b=true->lt b c=true->lt a c=true
 tot:∀a b,lt a b=false->lt b a=false->a=b
theorem Lin.neg {α:Type}{lt:α->α->Bool}(L:Lin lt){a b c:α}(h:lt a c=true):lt a b=true∨lt b c=true:=by
 cases e:lt a b with
 | true=>exact .inl rfl
 |
  false=>
  refine .inr ?_
  cases f:lt b a with
  | true=>exact L.tr b a c f h
  | false=>rw[←L.tot a b e f];exact h
def Sx {α:Type}[DecidableEq α](lt:α->α->Bool):List α->List α->Bool
 | [],[]=>false
 | [],_::_=>true
 | _::_,[]=>false
 | x::xs,y::ys=>if x=y then Sx lt xs ys else lt x y
theorem gh {α:Type}[DecidableEq α]{lt:α->α->Bool}(L:Lin lt):Lin (Sx lt) where
 irr:=λa=>by
  induction a with
  | nil=>rfl
  | cons x xs ih=>unfold Sx;rw[if_pos rfl];exact ih
 tr:=λa=>by
  induction a with
  |
   nil=>
   intro b c h1 h2
   cases b with
   | nil=>cases h1
   |
    cons y ys=>
    cases c with
    | nil=>cases h2
    | cons z zs=>rfl
  |
   cons x xs ih=>
   intro b c h1 h2
   cases b with
   | nil=>cases h1
   |
    cons y ys=>
    cases c with
    | nil=>cases h2
    |
     cons z zs=>
     unfold Sx at h1 h2 ⊢
     by_cases e1:x=y
     ·
      subst e1
      rw[if_pos rfl] at h1
      by_cases e2:x=z
      ·
       rw[if_pos e2] at h2 ⊢
       exact ih ys zs h1 h2
      ·
       rw[if_neg e2] at h2 ⊢
       exact h2
     ·
      rw[if_neg e1] at h1
      by_cases e2:y=z
      ·
       subst e2
       rw[if_neg e1]
       exact h1
      ·
       rw[if_neg e2] at h2
       have h3:=L.tr _ _ _ h1 h2
       rw[if_neg (λe=>by subst e;rw[L.irr] at h3;cases h3)]
       exact h3
 tot:=λa=>by
  induction a with
  |
   nil=>
   intro b h1 h2
   cases b with
   | nil=>rfl
   | cons y ys=>cases h1
  |
   cons x xs ih=>
   intro b h1 h2
   cases b with
   | nil=>cases h2
   |
    cons y ys=>
    unfold Sx at h1 h2
    by_cases e:x=y
    ·
     subst e
     rw[if_pos rfl] at h1 h2
     rw[ih ys h1 h2]
    ·
     rw[if_neg e] at h1
     rw[if_neg (λz=>e z.symm)] at h2
     exact absurd (L.tot _ _ h1 h2) e
def Adx {α β:Type}(l:α->α->Bool)(r:β->β->Bool):Sum α β->Sum α β->Bool
 | .inl a,.inl b=>l a b
 | .inr a,.inr b=>r a b
 | .inl _,.inr _=>true
 | .inr _,.inl _=>false
theorem rk {α β:Type}{l:α->α->Bool}{r:β->β->Bool}(L:Lin l)(R:Lin r):Lin (Adx l r) where
 irr:=λa=>by cases a with
  | inl a=>exact L.irr a
  | inr a=>exact R.irr a
 tr:=λa b c h1 h2=>by
  cases a<;>cases b<;>cases c<;>first|exact L.tr _ _ _ h1 h2|exact R.tr _ _ _ h1 h2|rfl|exact absurd h1 Ags|exact absurd h2 Ags
 tot:=λa b h1 h2=>by
  cases a with
  |
   inl a=>cases b with
   | inl b=>rw[L.tot a b h1 h2]
   | inr b=>cases h1
  |
   inr a=>cases b with
   | inl b=>cases h2
   | inr b=>rw[R.tot a b h1 h2]
theorem zq:Lin (λa b:Int=>decide (a<b)) where
 irr:=λa=>Agp (by lia)
 tr:=λa b c h1 h2=>by rw[Ajt] at h1 h2 ⊢;lia
 tot:=λa b h1 h2=>by rw[decide_eq_false_iff_not] at h1 h2;lia
theorem zh:Lin (λa b:Nat=>decide (a<b)) where
 irr:=λa=>Agp (by lia)
 tr:=λa b c h1 h2=>by rw[Ajt] at h1 h2 ⊢;lia
 tot:=λa b h1 h2=>by rw[decide_eq_false_iff_not] at h1 h2;lia
end DX
namespace L2
open PySem PySem.Spec PyProof.Rows PySem.SeqAt
def CmpAt (op:CmpOp)(A:Around)(s:Shared)(u v:Value)(b:Bool):Prop:=∀(prog:Program)(w:World)(E:Value->Shared->Prop)(Q:Value->Shared->Prop),Q (.bool b) s->wpAny (model prog w) A (richCompare op u v) Q E s
def szB:CmpOp->Nat->Nat->Bool
 | .Lt,m,n=>decide (m<n)
 | _,m,n=>decide (n<m)
inductive Uu (op:CmpOp)(A:Around)(s:Shared):List Value->List Value->Bool->Prop
 | fin {xs ys:List Value} (h:xs=[]∨ys=[]):Uu op A s xs ys (szB op xs.length ys.length)
 | eq {x y:Value} {xs ys:List Value} {b:Bool} (h:EqAt A s x y true) (r:Uu op A s xs ys b):Uu op A s (x::xs) (y::ys) b
 | ne {x y:Value} {xs ys:List Value} {b:Bool} (h:EqAt A s x y false) (r:CmpAt op A s x y b):Uu op A s (x::xs) (y::ys) b
section
variable {prog:Program}{w:World}{A:Around}{E:Value->Shared->Prop}{s:Shared}
theorem zm {a b:Addr}{xs ys:Array Value}{r:Bool}{P:PySem.Fin->Shared->Prop}(hx:s.heap.IsTuple a xs)(hy:s.heap.IsTuple b ys)(hl:Uu .Lt A s xs.toList ys.toList r)(h:P (.done (.ret (.bool r))) s):
  wpAny (model prog w) A (Builtin.«tuple.__lt__» ⟨[.ref a,.ref b],[]⟩) P E s:=by
 obtain⟨oa,hoa,hca,na,hda⟩:=hx
 obtain⟨ob,hob,hcb,nb,hdb⟩:=hy
 show wpAny _ _ (isInstance (.ref b) (.type "tuple")>>=_) _ _ s
 refine Aga (Ai2 ⟨ob,hob,hcb⟩ Ajb ?_)
 simp only[Ais,Ahi,Aiz]
 refine Aga (Aiw hoa hda ?_)
 refine Aga (Aiw hob hdb ?_)
 refine Aga ?_
 refine Ah3 _
  (λrest q s'=>q.1=none/\s'=s/\∃xs' ys' k,rest=List.zip xs' ys'/\Uu .Lt A s xs' ys' r/\xs.size=xs'.length+k/\ys.size=ys'.length+k)
  _ ?_ ?_ _ _ ⟨rfl,rfl,xs.toList,ys.toList,0,rfl,hl,by simp,by simp⟩
 ·
  rintro⟨u,v⟩ rest q s' ⟨hr,rfl,xs',ys',k,hz,hl',e1,e2⟩
  cases hl' with
  | fin hf=>rcases hf with rfl|rfl<;>simp at hz
  |
   @eq x y xs'' ys'' _ he hr'=>
   simp only[Air,Ake,Akw] at hz
   obtain⟨⟨rfl,rfl⟩,rfl⟩:=hz
   refine Aga (he prog w _ _ ?_)
   simp only[Ais,Ahi,Aiz]
   exact Agb ⟨rfl,rfl,xs'',ys'',k+1,rfl,hr',by simp only[Agr] at e1;lia,by simp only[Agr] at e2;lia⟩
  |
   @ne x y xs'' ys'' _ he hc=>
   simp only[Air,Ake,Akw] at hz
   obtain⟨⟨rfl,rfl⟩,rfl⟩:=hz
   refine Aga (he prog w _ _ ?_)
   simp only[Bool.not_false,Alh]
   refine Aga (Aj7 (Aga (hc prog w _ _ ?_)))
   exact Aga (Agb (Agb (Agb h)))
 ·
  rintro⟨q1,q2⟩ s' ⟨hr,rfl,xs',ys',k,hz,hl',e1,e2⟩
  simp only at hr
  subst hr
  refine Agb ?_
  cases hl' with
  |
   fin h'=>
   show P (.done (.ret (.bool (decide (xs.size<ys.size))))) s'
   have e:decide (xs.size<ys.size)=szB .Lt xs'.length ys'.length:=by
    show _=decide (xs'.length<ys'.length)
    rw[e1,e2]
    exact Ahe.mpr (by lia)
   rw[e]
   exact h
  | eq _ _=>simp at hz
  | ne _ _=>simp at hz
theorem zu {a b:Addr}{xs ys:Array Value}{r:Bool}{P:PySem.Fin->Shared->Prop}(hx:s.heap.IsTuple a xs)(hy:s.heap.IsTuple b ys)(hl:Uu .Gt A s xs.toList ys.toList r)(h:P (.done (.ret (.bool r))) s):
  wpAny (model prog w) A (Builtin.«tuple.__gt__» ⟨[.ref a,.ref b],[]⟩) P E s:=by
 obtain⟨oa,hoa,hca,na,hda⟩:=hx
 obtain⟨ob,hob,hcb,nb,hdb⟩:=hy
 show wpAny _ _ (isInstance (.ref b) (.type "tuple")>>=_) _ _ s
 refine Aga (Ai2 ⟨ob,hob,hcb⟩ Ajb ?_)
 simp only[Ais,Ahi,Aiz]
 refine Aga (Aiw hoa hda ?_)
 refine Aga (Aiw hob hdb ?_)
 refine Aga ?_
 refine Ah3 _
  (λrest q s'=>q.1=none/\s'=s/\∃xs' ys' k,rest=List.zip xs' ys'/\Uu .Gt A s xs' ys' r/\xs.size=xs'.length+k/\ys.size=ys'.length+k)
  _ ?_ ?_ _ _ ⟨rfl,rfl,xs.toList,ys.toList,0,rfl,hl,by simp,by simp⟩
 ·
  rintro⟨u,v⟩ rest q s' ⟨hr,rfl,xs',ys',k,hz,hl',e1,e2⟩
  cases hl' with
  | fin hf=>rcases hf with rfl|rfl<;>simp at hz
  |
   @eq x y xs'' ys'' _ he hr'=>
   simp only[Air,Ake,Akw] at hz
   obtain⟨⟨rfl,rfl⟩,rfl⟩:=hz
   refine Aga (he prog w _ _ ?_)
   simp only[Ais,Ahi,Aiz]
   exact Agb ⟨rfl,rfl,xs'',ys'',k+1,rfl,hr',by simp only[Agr] at e1;lia,by simp only[Agr] at e2;lia⟩
  |
   @ne x y xs'' ys'' _ he hc=>
   simp only[Air,Ake,Akw] at hz
   obtain⟨⟨rfl,rfl⟩,rfl⟩:=hz
   refine Aga (he prog w _ _ ?_)
   simp only[Bool.not_false,Alh]
   refine Aga (Aj7 (Aga (hc prog w _ _ ?_)))
   exact Aga (Agb (Agb (Agb h)))
 ·
  rintro⟨q1,q2⟩ s' ⟨hr,rfl,xs',ys',k,hz,hl',e1,e2⟩
  simp only at hr
  subst hr
  refine Agb ?_
  cases hl' with
  |
   fin h'=>
   show P (.done (.ret (.bool (decide (xs.size>ys.size))))) s'
   have e:decide (xs.size>ys.size)=szB .Gt xs'.length ys'.length:=by
    show _=decide (ys'.length<xs'.length)
    rw[e1,e2]
    exact Ahe.mpr (by lia)
   rw[e]
   exact h
  | eq _ _=>simp at hz
  | ne _ _=>simp at hz
theorem CmpAt.ltT {a b:Addr}{xs ys:Array Value}{r:Bool}(hx:s.heap.IsTuple a xs)(hy:s.heap.IsTuple b ys)(hu:A.units<cLine)(hl:Uu .Lt A.in1 s xs.toList ys.toList r):CmpAt .Lt A s (.ref a) (.ref b) r:=λprog w E Q h=>
 have hxT:s.TypeIs (.ref a) "tuple":=let ⟨o,ho,hc,_⟩:=hx;⟨o,ho,hc⟩
 have hyT:s.TypeIs (.ref b) "tuple":=let ⟨o,ho,hc,_⟩:=hy;⟨o,ho,hc⟩
 Akn (op:=.Lt) hxT hyT F.slot_tuple_lt (Ahj F.slot_tuple_lt hxT F.entry_tuple_lt (zm hx hy hl ⟨_,rfl,(λe=>nomatch e),h⟩) (F.args_tuple_lt_2 _ _)) hu
theorem CmpAt.gtT {a b:Addr}{xs ys:Array Value}{r:Bool}(hx:s.heap.IsTuple a xs)(hy:s.heap.IsTuple b ys)(hu:A.units<cLine)(hl:Uu .Gt A.in1 s xs.toList ys.toList r):CmpAt .Gt A s (.ref a) (.ref b) r:=λprog w E Q h=>
 have hxT:s.TypeIs (.ref a) "tuple":=let ⟨o,ho,hc,_⟩:=hx;⟨o,ho,hc⟩
 have hyT:s.TypeIs (.ref b) "tuple":=let ⟨o,ho,hc,_⟩:=hy;⟨o,ho,hc⟩
 Akn (op:=.Gt) hxT hyT F.slot_tuple_gt (Ahj F.slot_tuple_gt hxT F.entry_tuple_gt (zu hx hy hl ⟨_,rfl,(λe=>nomatch e),h⟩) (F.args_tuple_gt_2 _ _)) hu
end
section
variable {X:Cx}{pins:List (Addr×Obj)}{σ:St}{H:Hp}{it S:Addr}{xs:List V}{key:Value}{G:V->Hp->V->Prop}{gt:V->V->Bool}{R:Result->Shared->Prop}
end
section
variable {X:Cx}{pins:List (Addr×Obj)}{σ:St}{H:Hp}{it S:Addr}{xs:List V}{key:Value}{G:V->Hp->V->Prop}{gt:V->V->Bool}{R:Result->Shared->Prop}
end
end L2
namespace L2
open PySem PySem.W PyProof.Rows
structure SortsV (prog:Program)(w:World)(A:Around)(s:Shared)(κ:SortKind){O:KeyOrd}(key:Value->O.α)(vs:List Value):Prop where
 kind:∀(E:Value->Shared->Prop)(Q:SortKind->Shared->Prop),Q κ s->wpAny (model prog w) A (keyKind' vs.toArray) Q E s
 cmp:∀x∈vs,∀y∈vs,∀C:Bool->Shared->Prop,C (O.blt (key x) (key y)) s->wpAny (model prog w) A (keyLt' κ x y) C (λ_ _=>False) s
def Xa (vs:List Value)(p:Array Nat):List Value:=p.toList.map λi=>vs.getD i Value.none
section
variable {prog:Program}{w:World}{A:Around}{E:Value->Shared->Prop}{s:Shared}{vs:List Value}{O:KeyOrd}{key:Value->O.α}{κ:SortKind}
theorem getD_in {i:Nat}(hi:i<vs.length):vs.getD i Value.none∈vs:=by
 have e:vs.getD i Value.none=vs[i]:=by simp[hi]
 rw[e]
 exact Aia hi
theorem SortsV.asks (S:SortsV prog w A s κ key vs):vx (O:=O) (λi=>key (vs.getD i Value.none)) vs.length (kas_ask prog w A κ vs) s:=by
 intro i j C hi hj h
 unfold kas_ask
 exact S.cmp _ (getD_in hi) _ (getD_in hj) C h
theorem Xy {p:Array Nat}(hp:Rg vs.length p):(Xa vs p).Perm vs:=by
 have h:=(Array.perm_iff_toList_perm.mp hp).map λi=>vs.getD i Value.none
 have e:(List.range vs.length).map (λi=>vs.getD i Value.none)=vs:=by
  apply List.ext_getElem
  · simp
  ·
   intro i h1 h2
   simp[h2]
 rw[List.toList_toArray,e] at h
 exact h
theorem vy {p:Array Nat}(hp:Rg vs.length p)(hu:Up (O:=O) (λi=>key (vs.getD i Value.none)) p vs.length):(Xa vs p).Pairwise λx y=>O.kle (key x) (key y):=by
 rw[List.pairwise_iff_getElem]
 intro i j hi hj hij
 have hz:=hp.size
 have hl:(Xa vs p).length=vs.length:=by unfold Xa;rw[Agd,Agg,hz]
 have h:=hu i j (by lia) (by lia)
 have gi:∀k(hk:k<(Xa vs p).length),(Xa vs p)[k]=vs.getD (p.getD k 0) Value.none:=by
  intro k hk
  have hk':k<p.size:=by lia
  have e:(Xa vs p)[k]?=some (vs.getD (p.getD k 0) Value.none):=by
   unfold Xa
   rw[Agz,Agt,Agq hk',Array.getD,dif_pos hk']
   rfl
  rw[Ag0 hk] at e
  exact Agn e
 rw[gi i hi,gi j hj]
 exact h
theorem Vv {a:Addr}{k:Nat}{P:PySem.Fin->Shared->Prop}(ho:s.heap.get? a=some (seqObj "list" vs.toArray k))(h64:vs.length<64)
  (hS:2<=vs.length->∀h':Heap,(∀b o,b≠a->s.heap.get? b=some o->h'.get? b=some o)->SortsV prog w A {s with heap:=h'} κ key vs)
  (h:∀us:List Value,us.Perm vs->us.Pairwise (λx y=>O.kle (key x) (key y))->P (.done (.ret .none)) {s with heap:=sortedHeap s.heap a vs us.toArray}):wpAny (model prog w) A (Builtin.«list.sort» ⟨[.ref a],[]⟩) P E s:=by
 obtain⟨c1,g1⟩:∃c,(s.heap.update a (Obj.mapSeq λ_=>(#[]:Array Value))).get? a=some (seqObj "list" #[] c):=⟨_,get?_update_seq ho λ_=>#[]⟩
 have g2:(((s.heap.update a (Obj.mapSeq λ_=>(#[]:Array Value))).push (seqObj "tuple" vs.toArray 0)).push (seqObj "list" #[] 0)).get? a=some (seqObj "list" #[] c1):=Agc _ (Agc _ g1)
 have kp:∀b o,b≠a->s.heap.get? b=some o->(((s.heap.update a (Obj.mapSeq λ_=>(#[]:Array Value))).push (seqObj "tuple" vs.toArray 0)).push (seqObj "list" #[] 0)).get? b=some o:=λb o hb e=>
  Agc _ (Agc _ (by rw[Heap.get?_update_ne _ _ _ _ hb];exact e))
 rw[list_sort_plain]
 refine Aga (listItems_at ho rfl (Aga (listUpdate_at ho rfl (Aga (seqEpoch_at g1 rfl (Aga (wpAny_newTuple (Aga (Akj (Ahd ?_) (Ahn _))) (by rw[Ahr];show vs.length<=_;lia))))) (by rw[Agm,Ahr];lia) (Ahn _))))
 show wpAny (model prog w) A _ P E {s with heap:=((s.heap.update a (Obj.mapSeq λ_=>(#[]:Array Value))).push (seqObj "tuple" vs.toArray 0)).push (seqObj "list" #[] 0)}
 dsimp only
 by_cases h2:vs.toArray.size<2
 ·
  have hl2:vs.length<2:=by rw[Agm] at h2;exact h2
  rw[if_pos h2,if_pos h2]
  refine Aga (Agb ?_)
  rw[StateT.run_pure]
  refine Aga (Agb ?_)
  dsimp only
  have e:(arrOf (SortSt.mk' general' (vs.toArray.zip vs.toArray) #[] 7 none)).map (·.2)=vs.toArray:=by
   show(vs.toArray.zip vs.toArray).map (·.2)=_
   apply Array.toList_inj.mp
   simp
   rw[List.map_snd_zip]
   simp
  rw[e]
  refine Aga (seqEpoch_at g2 rfl (Aga (listUpdate_at g2 rfl ?_ (Ahn _) (by rw[Agm,Ahr];lia))))
  simp only[bne_self_eq_false,Ahi,Aiz]
  refine Agb (h vs (.refl _) ?_)
  match vs,hl2 with
  | [],_=>exact .nil
  | [_],_=>exact List.pairwise_singleton _ _
 ·
  have hl2:2<=vs.length:=by rw[Agm] at h2;lia
  rw[if_neg h2,if_neg h2]
  have S:=hS hl2 _ kp
  refine Aga (S.kind _ _ ?_)
  have run:=kat_run (prog:=prog) (w:=w) (A:=A) (E:=E) (κ:=κ) (ks:=vs) (vs:=vs) (s:={s with heap:=((s.heap.update a (Obj.mapSeq λ_=>(#[]:Array Value))).push (seqObj "tuple" vs.toArray 0)).push (seqObj "list" #[] 0)})
   (Q:=λst' s'=>s'={s with heap:=((s.heap.update a (Obj.mapSeq λ_=>(#[]:Array Value))).push (seqObj "tuple" vs.toArray 0)).push (seqObj "list" #[] 0)}/\failedOf st'=none/\∃p,Rg vs.length p/\Up (O:=O) (λi=>key (vs.getD i Value.none)) p vs.length/\arrOf st'=p.map (kas_item (vs.toArray.zip vs.toArray)))
   (G:=λp s'=>s'={s with heap:=((s.heap.update a (Obj.mapSeq λ_=>(#[]:Array Value))).push (seqObj "tuple" vs.toArray 0)).push (seqObj "list" #[] 0)}/\Rg vs.length p/\Up (O:=O) (λi=>key (vs.getD i Value.none)) p vs.length)
   rfl hl2 h64 (λp st' s' a1 a2 a3 a4=>⟨a4.1,a3,p,a4.2.1,a4.2.2,a2⟩) (Aah S.asks (by lia) λp hp hu=>⟨rfl,hp,hu⟩)
  refine Aga (Aid run ?_ λ_ _ z=>z)
  rintro⟨⟨⟩,st'⟩ s' ⟨rfl,hf,p,hp,hu,har⟩
  dsimp only
  rw[kat_snds rfl har]
  have hz:(Xa vs p).length=vs.length:=(Xy hp).length_eq
  refine Aga (seqEpoch_at g2 rfl (Aga (listUpdate_at g2 rfl ?_ (Ahn _) (by rw[Agm];show(Xa vs p).length<=_;rw[hz,Ahr];lia))))
  rw[hf]
  simp only[bne_self_eq_false,Ahi,Aiz]
  exact Agb (h _ (Xy hp) (vy hp hu))
theorem Qw {c:Value}{Q:Value->Shared->Prop}{G:List Value->Prop}
  (hcol:∀(E':Value->Shared->Prop)(Q':List Value->Shared->Prop),(∀h' tk vs,(∀b o,s.heap.get? b=some o->h'.get? b=some o)->s.heap.objs.size<=h'.objs.size->G vs->Q' vs {s with heap:=h',toks:=tk})->wpAny (model prog w) A.in1 (collect c) Q' E' s)
  (hz:∀vs,G vs->vs.length<64) (hS:∀vs,G vs->2<=vs.length->∀(s':Shared),(∀b o,s.heap.get? b=some o->s'.heap.get? b=some o)->SortsV prog w A.in1.in1 s' κ key vs)
  (h:∀(D:Addr)h' tk(vs us:List Value)(e:Nat),G vs->us.Perm vs->us.Pairwise (λx y=>O.kle (key x) (key y))->(∀b o,s.heap.get? b=some o->h'.get? b=some o)->s.heap.objs.size<=D->h'.get? D=some (seqObj "list" us.toArray e)->Q (.ref D) {s with heap:=h',toks:=tk}):
  wpAny (model prog w) A (call (.builtin "sorted") [c]) Q E s:=by
 refine Ak2 kind_sorted plain_sorted entry_sorted (args_sorted1 _) ?_
 unfold Builtin.«sorted»
 refine Aga (m:=checkCount "sorted" 1 1 _) (Agb (Aga (hcol _ _ λh1 tk vs kp hge hg=>?_)))
 have h64:=hz vs hg
 refine Aga (Akj ?_ (by rw[Ahr];lia))
 have hoL:(h1.push (seqObj "list" vs.toArray 0)).get? h1.objs.size=some (seqObj "list" vs.toArray 0):=Ago _ rfl
 have keep:∀b o,s.heap.get? b=some o->(h1.push (seqObj "list" vs.toArray 0)).get? b=some o:=λb o q=>Agc _ (kp b o q)
 have ne:∀b o,s.heap.get? b=some o->b≠h1.objs.size:=λb o q=>Agv (Agk (kp b o q))
 show wpAny _ _ _ _ _ {s with heap:=h1.push (seqObj "list" vs.toArray 0),toks:=tk}
 refine Aga (Ahd (Ahj slot_list_sort ⟨_,hoL,rfl⟩ entry_list_sort (Vv (κ:=κ) (key:=key) hoL h64 (λh2 h' kp'=>hS vs hg h2 _ λb o q=>kp' b o (ne b o q) (keep b o q)) λus a1 a2=>⟨_,rfl,Agb ⟨_,rfl,?_⟩⟩) (args_list_sort _)))
 obtain⟨e,he⟩:=sortedHeap_at (out:=us.toArray) hoL
 refine h h1.objs.size _ tk vs us e hg a1 a2 (λb o q=>?_) hge he
 rw[sortedHeap_old (ne b o q) (Agk (keep b o q))]
 exact keep b o q
end
end L2
namespace L2
open PySem PySem.Spec PyProof.Rows PySem.SeqAt DX
def ltS (x y:Str):Bool:=decide (x.cps.toList<y.cps.toList)
theorem tw:∀(a b:List Nat),decide (a<b)=Sx (λx y:Nat=>decide (x<y)) a b
 | [],[]=>by simp[Sx]
 | [],_::_=>by simp[Sx]
 | _::_,[]=>by simp[Sx]
 |
  x::xs,y::ys=>by
  unfold Sx
  rw[←tw xs ys]
  by_cases e:x=y
  ·
   subst e
   rw[if_pos rfl]
   exact Ahe.mpr (by rw[List.cons_lt_cons_iff];simp)
  ·
   rw[if_neg e]
   exact Ahe.mpr (by rw[List.cons_lt_cons_iff];simp[e])
theorem zf {a b:Str}(h:a.cps.toList=b.cps.toList):a=b:=by
 obtain⟨⟨a⟩⟩:=a
 obtain⟨⟨b⟩⟩:=b
 simp at h
 rw[h]
theorem Td:Lin ltS:=by
 have L:=gh zh
 have e:∀x y:Str,ltS x y=Sx (λx y:Nat=>decide (x<y)) x.cps.toList y.cps.toList:=λx y=>tw _ _
 exact⟨λa=>by rw[e];exact L.irr _,λa b c h1 h2=>by rw[e] at h1 h2 ⊢;exact L.tr _ _ _ h1 h2,λa b h1 h2=>by rw[e] at h1 h2;exact zf (L.tot _ _ h1 h2)⟩
def ltK:Key->Key->Bool:=Adx (λa b:Int=>decide (a<b)) ltS
def ltN:NK->NK->Bool:=Adx ltK (Sx ltK)
def ltL:List NK->List NK->Bool:=Sx ltN
theorem se:Lin ltK:=rk zq Td
theorem Vl:Lin ltL:=gh (rk se (gh se))
def okK:Key->Key->Bool
 | .inl _,.inl _=>true
 | .inr _,.inr _=>true
 | _,_=>false
def okT:List Key->List Key->Bool
 | x::xs,y::ys=>if x=y then okT xs ys else okK x y
 | _,_=>true
def okN:NK->NK->Bool
 | .inl a,.inl b=>okK a b
 | .inr a,.inr b=>okT a b
 | _,_=>false
def okL:List NK->List NK->Bool
 | x::xs,y::ys=>if x=y then okL xs ys else okN x y
 | _,_=>true
def fl {α:Type}(op:CmpOp)(lt:α->α->Bool)(x y:α):Bool:=
 match op with
 | .Lt=>lt x y
 | _=>lt y x
abbrev Two (op:CmpOp):Prop:=op=.Lt∨op=.Gt
theorem Ade {α:Type}[DecidableEq α]{op:CmpOp}(hop:Two op){lt:α->α->Bool}{x y:α}{xs ys:List α}:fl op (Sx lt) (x::xs) (y::ys)=if x=y then fl op (Sx lt) xs ys else fl op lt x y:=by
 rcases hop with rfl|rfl
 · rfl
 ·
  show Sx lt (y::ys) (x::xs)=if x=y then Sx lt ys xs else lt y x
  show(if y=x then Sx lt ys xs else lt y x)=_
  by_cases e:x=y
  · rw[if_pos e,if_pos e.symm]
  · rw[if_neg e,if_neg λz=>e z.symm]
theorem iz {α:Type}[DecidableEq α]{op:CmpOp}(hop:Two op){lt:α->α->Bool}{xs ys:List α}(h:xs=[]∨ys=[]):szB op xs.length ys.length=fl op (Sx lt) xs ys:=by
 rcases hop with rfl|rfl<;>rcases h with rfl|rfl
 · cases ys<;>simp[szB,fl,Sx]
 · cases xs<;>simp[szB,fl,Sx]
 · cases ys<;>simp[szB,fl,Sx]
 · cases xs<;>simp[szB,fl,Sx]
section
variable {prog:Program}{w:World}{A:Around}{s:Shared}{op:CmpOp}
theorem CmpAt.tup (hop:Two op){a b:Addr}{xs ys:Array Value}{r:Bool}(hx:s.heap.IsTuple a xs)(hy:s.heap.IsTuple b ys)(hu:A.units<cLine)(hl:Uu op A.in1 s xs.toList ys.toList r):CmpAt op A s (.ref a) (.ref b) r:=by
 rcases hop with rfl|rfl
 · exact .ltT hx hy hu hl
 · exact .gtT hx hy hu hl
theorem Acv {k k':Key}{u u':Value}(h:Xf k u=true)(h':Xf k' u'=true):EqAt A s u u' (decide (k=k')):=λprog w E Q q=>(A4 prog w).eqBool (a:=k) (b:=k') h h' q
theorem vk (hop:Two op){k k':Key}{u u':Value}(h:Xf k u=true)(h':Xf k' u'=true)(ok:okK k k'=true):CmpAt op A s u u' (fl op ltK k k'):=by
 intro prog w E Q q
 cases k with
 |
  inl i=>
  obtain⟨t,rfl⟩:=Ahz (k:=i) (v:=u) h
  cases k' with
  |
   inl j=>
   obtain⟨t',rfl⟩:=Ahz (k:=j) (v:=u') h'
   rcases hop with rfl|rfl
   · exact PySem.P.lt_int q
   · exact PySem.P.gt_int q
  | inr y=>cases ok
 |
  inr x=>
  obtain⟨t,rfl⟩:=Ahs (x:=x) (v:=u) h
  cases k' with
  | inl j=>cases ok
  |
   inr y=>
   obtain⟨t',rfl⟩:=Ahs (x:=y) (v:=u') h'
   rcases hop with rfl|rfl
   · exact PySem.P.lt_str q
   · exact PySem.P.gt_str q
theorem ji (hop:Two op):∀{ks ks':List Key}{us us':List Value},ItemsAre (A4 prog w) ks us->ItemsAre (A4 prog w) ks' us'->okT ks ks'=true->Uu op A s us us' (fl op (Sx ltK) ks ks')
 |
  [],ks',_,us',.nil,h',_=>by
  have e:szB op ([]:List Value).length us'.length=fl op (Sx ltK) [] ks':=by rw[←h'.length];exact iz hop (xs:=([]:List Key)) (.inl rfl)
  rw[←e]
  exact .fin (.inl rfl)
 |
  k::ks,[],us,_,h,.nil,_=>by
  have e:szB op us.length ([]:List Value).length=fl op (Sx ltK) (k::ks) []:=by rw[←h.length];exact iz hop (ys:=([]:List Key)) (.inr rfl)
  rw[←e]
  exact .fin (.inr rfl)
 |
  k::ks,k'::ks',_,_,.cons h1 h2,.cons h1' h2',ok=>by
  rw[Ade hop]
  unfold okT at ok
  have he:=Acv (A:=A) (s:=s) h1 h1'
  by_cases e:k=k'
  ·
   rw[if_pos e] at ok ⊢
   rw[Age e] at he
   exact .eq he (ji hop h2 h2' ok)
  ·
   rw[if_neg e] at ok ⊢
   rw[Agp e] at he
   exact .ne he (vk hop h1 h1' ok)
theorem vf {ks:List Key}{a:Addr}{h:Heap}(x:IsTupleKey (A4 prog w) h ks a):∃its,h.IsTuple a its/\ItemsAre (A4 prog w) ks its.toList:=let ⟨o,its,n,ho,hc,hd,hi⟩:=x;⟨its,⟨o,ho,hc,n,hd⟩,hi⟩
theorem Aad {prog':Program}{w':World}{ks:List Key}{a:Addr}{h:Heap}(x:IsTupleKey (A4 prog w) h ks a):IsTupleKey (A4 prog' w') h ks a:=by
 obtain⟨o,its,n,ho,hc,hd,hi⟩:=x
 refine⟨o,its,n,ho,hc,hd,?_⟩
 generalize its.toList=vs at hi
 induction hi with
 | nil=>exact .nil
 | cons h1 _ ih=>exact .cons h1 ih
theorem NItem.any {prog':Program}{w':World}{k:NK}{v:Value}{h:Heap}(x:NItem prog w h k v):NItem prog' w' h k v:=by
 cases k with
 | inl k=>exact x
 | inr ks=>obtain⟨a,e,p⟩:=x;exact⟨a,e,Aad p⟩
theorem pz {k k':NK}{u u':Value}(hu:A.units<cLine)(h:NItem prog w s.heap k u)(h':NItem prog w s.heap k' u'):EqAt A s u u' (decide (k=k')):=λprog' w' E Q q=>Y3 hu h.any h'.any q
theorem xh (hop:Two op){k k':NK}{u u':Value}(hu:A.units<cLine)(h:NItem prog w s.heap k u)(h':NItem prog w s.heap k' u')(ok:okN k k'=true):CmpAt op A s u u' (fl op ltN k k'):=by
 cases k with
 |
  inl k=>
  cases k' with
  |
   inl k'=>
   have e:fl op ltN (.inl k) (.inl k')=fl op ltK k k':=by rcases hop with rfl|rfl<;>rfl
   rw[e]
   exact vk hop h h' ok
  | inr _=>cases ok
 |
  inr ks=>
  cases k' with
  | inl _=>cases ok
  |
   inr ks'=>
   obtain⟨a,rfl,p⟩:=h
   obtain⟨b,rfl,p'⟩:=h'
   obtain⟨xs,t1,i1⟩:=vf p
   obtain⟨ys,t2,i2⟩:=vf p'
   have e:fl op ltN (.inr ks) (.inr ks')=fl op (Sx ltK) ks ks':=by rcases hop with rfl|rfl<;>rfl
   rw[e]
   exact .tup hop t1 t2 hu (ji hop i1 i2 ok)
theorem NItems.length {ks:List NK}{us:List Value}{h:Heap}(x:NItems prog w h ks us):ks.length=us.length:=by
 induction x with
 | nil=>rfl
 | cons _ _ ih=>simp[ih]
end
end L2
namespace L2
open PySem PySem.Spec PyProof.Rows PySem.SeqAt
section
variable {X:Cx}{pins:List (Addr×Obj)}{σ:St}{H:Hp}{key:Value}{G:V->Hp->V->Prop}{gt:V->V->Bool}
end
def NkV (H:Hp):NK->V->Prop
 | .inl k,v=>v=kV k
 | .inr ks,v=>∃q,v=.ref q/\H q=some (.tup (ks.map kV))
inductive NkVs (H:Hp):List NK->List V->Prop
 | nil:NkVs H [] []
 | cons {k:NK} {v:V} {ks:List NK} {vs:List V}:NkV H k v->NkVs H ks vs->NkVs H (k::ks) (v::vs)
def Aco (H:Hp)(ks:List NK)(p:Addr):Prop:=∃vs,H p=some (.tup vs)/\NkVs H ks vs
theorem NkV.up {H H':Hp}{k:NK}{v:V}(h:NkV H k v)(ht:∀b xs,H b=some (.tup xs)->H' b=some (.tup xs)):NkV H' k v:=by
 cases k with
 | inl k=>exact h
 | inr ks=>obtain⟨q,e,h⟩:=h;exact⟨q,e,ht _ _ h⟩
theorem NkVs.up {H H':Hp}{ks:List NK}{vs:List V}(h:NkVs H ks vs)(ht:∀b xs,H b=some (.tup xs)->H' b=some (.tup xs)):NkVs H' ks vs:=by
 induction h with
 | nil=>exact .nil
 | cons h1 _ ih=>exact .cons (h1.up ht) ih
section
variable {X:Cx}{pins:List (Addr×Obj)}{σ:St}{H:Hp}{s:Shared}
theorem Rc {P:Program}{w:World}{h:Heap}(ok:HOk P w H h){ks:List NK}{vs:List V}(r:NkVs H ks vs):∀{us:List Value},Vals vs us->NItems P w h ks us:=by
 induction r with
 | nil=>intro us v;cases v;exact .nil
 |
  @cons k v ks vs h1 _ ih=>
  intro us v
  cases v with
  |
   cons v1 v2=>
   refine .cons ?_ (ih v2)
   cases k with
   | inl k=>cases (show _=kV k from h1);exact Yj v1
   |
    inr ks=>
    obtain⟨q,rfl,hq⟩:=h1
    cases v1
    exact⟨q,rfl,Tv ok hq⟩
theorem pe {P:Program}{w:World}{h:Heap}(ok:HOk P w H h){ks:List NK}{p:Addr}(x:Aco H ks p):IsNest P w h ks p:=by
 obtain⟨vs,hp,r⟩:=x
 obtain⟨_,its,rv,o,h1,h2,n,h3⟩:=(show ObjOk P w H h p (.tup vs) from ok p _ hp)
 exact⟨o,its.toArray,n,h1,h2,h3,by simpa using Rc ok r rv⟩
end
abbrev keysOf (xs:List (List NK×Addr)):List (List NK):=xs.map (·.1)
def Ac4 (xs:List (List NK×Addr))(ks:List NK):Bool:=xs.any λx=>decide (x.1=ks)
section
variable {P:Program}{w:World}{H:Hp}{h:Heap}{a:Addr}{xs:List (List NK×Addr)}
end
section
variable {X:Cx}
end
end L2
namespace L2
open PySem PySem.W PyProof.Rows
section
variable (prog:Program)(w:World)
structure SetPN (es:Array (Int×Value))(t:SetTable)(xs:List (List NK×Addr)):Prop where
 el:es.toList.Perm (xs.map λx=>(C3 prog w x.1,Value.ref x.2))
 nd:(xs.map (·.1)).Nodup
 T:TabN (Ti w) t es.size
 msk:t.mask=7∨t.mask=31∨t.mask=127∨t.mask=511
 way:∀(i:Nat)(e:Int×Value)(j:Nat),es[i]?=some e->t.place[i]?=some j->Way t e.1 j
def SetN (a:Addr)(xs:List (List NK×Addr))(h:Heap):Prop:=∃es ep t,h.get? a=some (Br es ep t)/\SetPN prog w es t xs
end
def Zz (xs:List (List NK×Addr))(x:List NK×Addr):List (List NK×Addr):=if Ac4 xs x.1=true then xs else xs++[x]
section
variable {prog:Program}{w:World}{A:Around}{E:Value->Shared->Prop}{s:Shared}{es:Array (Int×Value)}{t:SetTable}{xs:List (List NK×Addr)}{a:Addr}
theorem SetPN.len (P:SetPN prog w es t xs):es.size=xs.length:=by rw[←Agg,P.el.length_eq,Agd]
theorem SetPN.fresh:SetPN prog w #[] (.fresh 0 0 (Ti w)) []:=
 ⟨List.Perm.nil,List.Pairwise.nil,⟨rfl,List.Pairwise.nil,rfl,(λj h=>nomatch h),Af8,show 7%2=1 from rfl,show 7<=2047 by decide,show 0*5<7*3 by decide,rfl⟩,.inl rfl,λi e j h=>by simp at h⟩
theorem SetN.at' {h h':Heap}(x:SetN prog w a xs h)(k:∀o,h.get? a=some o->h'.get? a=some o):SetN prog w a xs h':=
 let ⟨es,ep,t,ho,P⟩:=x
 ⟨es,ep,t,k _ ho,P⟩
theorem za {α:Type}{xs:List α}{p i:Nat}{x y:α}(hp:p<=xs.length)(h:(xs.take p++x::xs.drop p)[i]?=some y):(i<p/\xs[i]?=some y)∨(i=p/\y=x)∨(p<i/\xs[i-1]?=some y):=by
 have hl:(xs.take p).length=p:=by rw[Ahk];lia
 rcases Alu i p with l|l|l
 ·
  rw[Akl (by lia),Aki,if_pos l] at h
  exact .inl ⟨l,h⟩
 ·
  rw[Ai7 (by lia),hl,l,Nat.sub_self] at h
  exact .inr (.inl ⟨l,(Agn h).symm⟩)
 ·
  rw[Ai7 (by lia),hl,show i-p=(i-p-1)+1 by lia,List.getElem?_cons_succ,Ajn,show p+(i-p-1)=i-1 by lia] at h
  exact .inr (.inr ⟨l,h⟩)
theorem Aft {k:NK}{v:Value}{n:Nat}{Q:Bool->Shared->Prop}(hk:NItem prog w s.heap k v)(h:∀b,Q b s):wpAny (model prog w) A (hashByValue (n+1) v) Q E s:=by
 have byV:∀{m:Nat}{v:Value},carriedByValue v=true->wpAny (model prog w) A (hashByValue m v) Q E s:=λ{m v}hv=>by
  cases v<;>cases m<;>first|(unfold hashByValue;exact Agb (h _))|(simp[carriedByValue] at hv)
 have byV':∀{m:Nat}{v:Value}{R:Bool->Shared->Prop},(∀b,R b s)->carriedByValue v=true->wpAny (model prog w) A (hashByValue m v) R E s:=λ{m v R}hR hv=>by
  cases v<;>cases m<;>first|(unfold hashByValue;exact Agb (hR _))|(simp[carriedByValue] at hv)
 cases k with
 | inl k=>exact byV ((A4 prog w).byValue _ _ hk)
 |
  inr ks=>
  obtain⟨c,rfl,p⟩:=hk
  have hT:=p.typeIs
  obtain⟨o,items,n',ho,hc,hd,hi⟩:=p
  unfold hashByValue
  refine Aga (Aiy hT Ak8.lookup ?_)
  dsimp only
  refine Aga (wpSeq? ho hd ?_)
  refine Aga ?_
  show wpAny _ _ (forIn items _ _) _ _ _
  rw[←Ait]
  refine Ah3 _ (λrest r s'=>s'=s/\∀v∈rest,carriedByValue v=true) _ ?_ ?_ _ _ ⟨rfl,hi.byValue⟩
  ·
   rintro v rest r s' ⟨rfl,hall⟩
   refine Aga (byV' (λb=>?_) (hall v Agj))
   refine Aib (λ_=>Agb (Agb (h _))) (λ_=>Agb ⟨rfl,λu hu'=>hall u (Agh _ hu')⟩)
  ·
   rintro⟨r1,r2⟩ s' ⟨rfl,_⟩
   cases r1<;>exact Agb (h _)
theorem hbv {ks:List NK}{c:Addr}{n:Nat}{Q:Bool->Shared->Prop}(hk:IsNest prog w s.heap ks c)(h:∀b,Q b s):wpAny (model prog w) A (hashByValue (n+2) (.ref c)) Q E s:=by
 have hT:=hk.typeIs
 obtain⟨o,items,n',ho,hc,hd,hi⟩:=hk
 unfold hashByValue
 refine Aga (Aiy hT Ak8.lookup ?_)
 dsimp only
 refine Aga (wpSeq? ho hd ?_)
 refine Aga ?_
 show wpAny _ _ (forIn items _ _) _ _ _
 rw[←Ait]
 refine Ah3 _ (λrest r s'=>s'=s/\∃left,NItems prog w s.heap left rest) _ ?_ ?_ _ _ ⟨rfl,ks,hi⟩
 ·
  rintro v rest r s' ⟨rfl,left,hl⟩
  cases hl with
  |
   @cons k _ ks' _ h1 hl'=>
   refine Aga (Aft h1 λb=>?_)
   refine Aib (λ_=>Agb (Agb (h _))) (λ_=>Agb ⟨rfl,ks',hl'⟩)
 ·
  rintro⟨r1,r2⟩ s' ⟨rfl,_⟩
  cases r1<;>exact Agb (h _)
theorem g8 {k:List NK}:Ac4 xs k=true↔ ∃x∈xs,x.1=k:=by
 unfold Ac4
 rw[List.any_eq_true]
 constructor
 ·
  rintro⟨x,hx,e⟩
  exact⟨x,hx,Agf e⟩
 ·
  rintro⟨x,hx,e⟩
  exact⟨x,hx,Age e⟩
theorem ni {k:List NK}{c:Addr}{Q:Bool->Shared->Prop}(hS:SetN prog w a xs s.heap)(hx:IsNest prog w s.heap k c)(hy:∀x∈xs,IsNest prog w s.heap x.1 x.2)(hr:xs.length<300)(hu:A.units+1<cLine)
  (h:∀h' b,Heap.SameBut a s.heap h'->SetN prog w a (Zz xs (k,c)) h'->Q b {s with heap:=h'}):
  wpAny (model prog w) A (setAddHashed a (.ref c) (C3 prog w k)) Q E s:=by
 obtain⟨es,ep,t,ho,P⟩:=hS
 have hl:=P.len
 have en:∀e∈es.toList,∃x∈xs,e=(C3 prog w x.1,Value.ref x.2):=λe he=>by
  obtain⟨x,hx,e⟩:=Ag7.mp (P.el.mem_iff.mp he)
  exact⟨x,hx,e.symm⟩
 have hin:(∃e∈es.toList,EnAt prog w s.heap e k)↔Ac4 xs k=true:=by
  rw[g8]
  constructor
  ·
   rintro⟨e,he,hk⟩
   obtain⟨x,hx,rfl⟩:=en e he
   exact⟨x,hx,EnAt.inj ⟨x.2,rfl,hy x hx,rfl⟩ hk⟩
  ·
   rintro⟨x,hx',rfl⟩
   exact⟨_,P.el.mem_iff.mpr (Ag8 hx'),x.2,rfl,hy x hx',rfl⟩
 unfold setAddHashed setAddHashedIn
 refine Ahd (Aga (Ahy ho rfl P.T.fits ?_))
 dsimp only
 rw[if_neg (by unfold byScan;simp[Value.scannable])]
 refine Aga (nz ho P.T hu hx (λe he=>let ⟨x,h1,h2⟩:=en e he;⟨x.1,x.2,by rw[h2],hy x h1,by rw[h2]⟩) P.way (λz=>?_) (λz j hj hm hway=>?_))
 ·
  refine Agb (h s.heap false (Heap.SameBut.refl a s.heap) ⟨es,ep,t,ho,?_⟩)
  unfold Zz
  rw[if_pos (hin.mp z)]
  exact P
 have hno:¬Ac4 xs k=true:=λy=>z (hin.mpr y)
 have hjp:j∉t.place.toList:=ku P.T.ri hj
 dsimp only
 refine Aga (Ahy ho rfl P.T.fits ?_)
 dsimp only
 have pb:SetTable.below t.place j<=es.size:=by have:=(below_at P.T.ri j).1;rw[P.T.sz] at this;exact this
 have pp:(t.put j).1.place=SetTable.insertAt t.place (SetTable.below t.place j) j:=rfl
 have pd:(t.put j).1.dummies=#[]:=by
  show(if SetTable.has t.dummies j then _ else t.dummies)=_
  rw[P.T.nd,if_neg (by unfold SetTable.has;simp)]
 have pn:(t.put j).2=SetTable.below t.place j:=rfl
 have t1l:(SetTable.insertAt es (SetTable.below t.place j) (C3 prog w k,Value.ref c)).toList=es.toList.take (SetTable.below t.place j)++(C3 prog w k,Value.ref c)::es.toList.drop (SetTable.below t.place j):=Ak7 ..
 have t2l:(t.put j).1.place.toList=t.place.toList.take (SetTable.below t.place j)++j::t.place.toList.drop (SetTable.below t.place j):=Ak7 ..
 have sz1:(SetTable.insertAt es (SetTable.below t.place j) (C3 prog w k,Value.ref c)).size=es.size+1:=by
  rw[←Agg,t1l,Agw,Agr,Ahk,Ajd,Agg]
  lia
 have pl1:(SetTable.insertAt es (SetTable.below t.place j) (C3 prog w k,Value.ref c)).toList.Perm ((xs++[(k,c)]).map λx=>(C3 prog w x.1,Value.ref x.2)):=by
  rw[t1l,Ahg]
  refine List.perm_middle.trans ?_
  rw[Ai3]
  exact(List.Perm.cons _ P.el).trans (List.perm_append_singleton _ _).symm
 have nd1:((xs++[(k,c)]).map (·.1)).Nodup:=by
  rw[Ahg]
  refine Alw.mpr ⟨P.nd,Ai4.mpr ⟨Ain,.nil⟩,λx hx y hy=>?_⟩
  obtain⟨x',hx',rfl⟩:=Ag7.mp hx
  rw[Alq,Ag3] at hy
  subst hy
  exact λe=>hno (g8.mpr ⟨x',hx',e⟩)
 have ri1:Rises (t.put j).1.place.toList:=yu P.T.ri hjp
 have mem1:∀i∈t.place.toList,i∈(t.put j).1.place.toList:=λi hi=>by
  rw[t2l]
  rw[←Ai3 (SetTable.below t.place j) t.place.toList] at hi
  rcases Ahf.mp hi with hi|hi
  · exact Aj6 _ hi
  · exact Ag5 _ (Agh _ hi)
 have way1:∀(i:Nat)(e:Int×Value)(j':Nat),(SetTable.insertAt es (SetTable.below t.place j) (C3 prog w k,Value.ref c))[i]?=some e->(t.put j).1.place[i]?=some j'->Way (t.put j).1 e.1 j':=λi e j' z1 z2=>by
  rw[←Agt,t1l] at z1
  rw[←Agt,t2l] at z2
  have l1:SetTable.below t.place j<=es.toList.length:=by rw[Agg];exact pb
  have l2:SetTable.below t.place j<=t.place.toList.length:=by rw[Agg];exact(below_at P.T.ri j).1
  rcases za l1 z1 with⟨a1,a2⟩|⟨a1,a2⟩|⟨a1,a2⟩<;>rcases za l2 z2 with⟨b1,b2⟩|⟨b1,b2⟩|⟨b1,b2⟩<;>try (exfalso;lia)
  ·
   rw[Agt] at a2 b2
   exact(P.way _ _ _ a2 b2).up rfl mem1
  ·
   subst a2;subst b2
   exact hway.up rfl mem1
  ·
   rw[Agt] at a2 b2
   exact(P.way _ _ _ a2 b2).up rfl mem1
 have le1:∀i∈(t.put j).1.place.toList,i<=t.mask:=λi hi=>by
  rw[t2l] at hi
  rcases Ahf.mp hi with hi|hi
  · exact P.T.le i (List.mem_of_mem_take hi)
  ·
   rcases Agx.mp hi with rfl|hi
   · exact hm
   · exact P.T.le i (List.mem_of_mem_drop hi)
 have sz2:(t.put j).1.place.size=es.size+1:=by
  rw[←Agg,t2l,Agw,Agr,Ahk,Ajd,Agg,P.T.sz]
  lia
 rw[pn]
 generalize SetTable.insertAt es (SetTable.below t.place j) (C3 prog w k,Value.ref c)=es1 at sz1 pl1 way1 t1l ⊢
 have sl:∀n,n<=300->n<=sizeLine:=λn hn=>by rw[Ahr];lia
 have fin:∀t2:SetTable,t2.mask=t.mask->t2.place=(t.put j).1.place->t2.dummies=#[]->t2.led=t.led->wpAny (model prog w) A (do
   storeSet a es1 t2
   if !false&&t2.tooFull then setRelay a (SetTable.grown (es.size+1))
   return true) Q E s:=by
  intro t2 e1 e2 e3 e4
  refine Aga (Ak5 ho rfl ?_ (sl _ (by lia)))
  have o1:=stored (es':=es1) (t':=t2) ho
  have sb1:=Ah4 s.heap a (Obj.putSet es1 t2)
  have fl:t2.fill=es.size+1:=by unfold SetTable.fill;rw[e2,e3,sz2];rfl
  have pf:=P.T.fl
  have ft:t2.fits es1.size=true:=by
   unfold SetTable.fits
   rw[fl,e2,sz2,sz1,e1,Aky]
   exact Age (by lia)
  have way2:∀(i:Nat)(e:Int×Value)(j':Nat),es1[i]?=some e->t2.place[i]?=some j'->Way t2 e.1 j':=λi e j' z1 z2=>by
   rw[e2] at z2
   exact(way1 i e j' z1 z2).up e1 λi hi=>by rw[e2];exact hi
  refine Aib (λhf=>?_) (λhf=>Agb ?_)
  ·
   have hf:(es.size+1)*5≥t.mask*3:=by
    have hf:t2.tooFull=true:=hf
    unfold SetTable.tooFull at hf
    rw[fl,e1] at hf
    exact Agf hf
   have big:∃m,Cyc m/\m%2=1/\m<=2047/\(es.size+1)*5<m*3/\(m=7∨m=31∨m=127∨m=511)/\SetTable.sizeAbove (SetTable.grown (es.size+1))-1=m/\¬SetTable.sizeAbove (SetTable.grown (es.size+1))>sizeLine:=by
    rcases P.msk with z|z|z|z
    ·
     rw[z] at hf pf
     rw[show es.size+1=5 by lia]
     exact⟨31,Aeh,rfl,by decide,by decide,.inr (.inl rfl),by decide,by rw[Ahr];decide⟩
    ·
     rw[z] at hf pf
     rw[show es.size+1=19 by lia]
     exact⟨127,Adb,rfl,by decide,by decide,.inr (.inr (.inl rfl)),by decide,by rw[Ahr];decide⟩
    ·
     rw[z] at hf pf
     rw[show es.size+1=77 by lia]
     exact⟨511,Ac3,rfl,by decide,by decide,.inr (.inr (.inr rfl)),by decide,by rw[Ahr];decide⟩
    · lia
   obtain⟨m,m1,m2,m3,m4,m5,m6,m7⟩:=big
   obtain⟨t',order,r1,r2,r3,r4,r5,r6,r7,r8,r9⟩:=uv (t:=t2) (es:=es1) m1 m6 (by lia)
   unfold setRelay
   refine Aga (Aga (Ahy o1 rfl ft ?_))
   dsimp only
   rw[if_neg m7]
   have zz:(order.filterMap (es1[·]?)).size=es1.size:=by rw[←Agg,r2.length_eq,Agg]
   show wpAny _ _ ((do
    let some (t,order):=t2.relaid (es1.map (·.1)) (SetTable.grown (es.size+1))|unsupported "internal:set-table-without-room"
    let es':=order.filterMap (es1[·]?)
    if es'.size != es1.size then unsupported "internal:set-table-lost-an-element"
    pure (es',t))>>=_) _ _ _
   rw[r1]
   dsimp only
   rw[if_neg (by rw[zz];simp)]
   refine Aga (Agb ?_)
   dsimp only
   refine Ak5 o1 rfl (Agb ?_) (sl _ (by lia))
   refine h _ true (sb1.trans (Ah4 _ a _)) ⟨_,_,_,stored o1,?_⟩
   unfold Zz
   rw[if_neg hno]
   refine⟨r2.trans pl1,nd1,⟨by rw[r6,zz],r7,r5,by rw[r3];exact r8,by rw[r3];exact m1,by rw[r3];exact m2,by rw[r3];exact m3,by rw[r3,zz,sz1];exact m4,by rw[r4,e4];exact P.T.led⟩,by rw[r3];exact m5,r9⟩
  ·
   have hf:¬(es.size+1)*5≥t.mask*3:=λy=>hf (by
    show t2.tooFull=true
    unfold SetTable.tooFull
    rw[fl,e1]
    exact Age y)
   refine h _ true sb1 ⟨_,_,_,o1,?_⟩
   unfold Zz
   rw[if_neg hno]
   exact⟨pl1,nd1,⟨by rw[e2,sz2,sz1],by rw[e2];exact ri1,e3,by rw[e2,e1];exact le1,by rw[e1];exact P.T.cy,by rw[e1];exact P.T.od,by rw[e1];exact P.T.sm,by rw[e1,sz1];lia,by rw[e4];exact P.T.led⟩,by rw[e1];exact P.msk,way2⟩
 have tail:∀b:Bool,wpAny (model prog w) A (do
   storeSet a es1 (if b then(t.put j).1 else{(t.put j).1 with plain:=false})
   if !false&&(if b then(t.put j).1 else{(t.put j).1 with plain:=false}).tooFull then setRelay a (SetTable.grown (es.size+1))
   return true) Q E s:=λb=>by
  cases b
  · exact fin _ rfl rfl pd rfl
  · exact fin _ rfl rfl pd rfl
 exact Aib (λ_=>Aga (hbv hx λb=>tail b)) (λ_=>Aga (Agb (tail true)))
end
section
variable {prog:Program}{w:World}{A:Around}{E:Value->Shared->Prop}{s:Shared}
end
section
variable {X:Cx}
theorem Inv.drew {pins:List (Addr×Obj)}{σ:St}{H:Hp}{s:Shared}(I:Inv X pins σ H s)(dr:PySem.Drawn):Inv X pins σ H {s with drawn:=dr}:=
 ⟨I.ok,I.os,I.bare,I.base,I.loc,I.cell,I.free,I.freeC,I.pin,I.hok,I.len⟩
theorem dt (hc:X.calm=true):Jp X (.type "set") (λxs H Q=>∃(p:Addr)(ns:List Int),xs=[.ref p]/\H p=some (.lst (ns.map V.int))/\ns.length<4096/\
  ∀(D:Addr)(ds:List Int),H D=none->(∀x,x∈ds↔x∈ns)->ds.Nodup->Q (.ref D) (upd H D (.ext (SetI X.prog X.w D ds)))):=by
 intro pins s σ H xs us Q I r h
 obtain⟨p,ns,rfl,hp,hz,q⟩:=h
 obtain⟨u,rfl,ru⟩:=vals1 r
 cases ru
 obtain⟨its,rv,pl,hl⟩:=I.list (SqL.of (K:=X.K) hp)
 have hi:=intsAre_of rv
 refine xu (I.ok.hd hc) pl.isList hi hz λh' tk S kp=>?_
 have hD:H s.heap.objs.size=none:=I.hok.fresh (Agi _)
 have nd:(ns.foldl ins []).Nodup:=by obtain⟨_,_,_,_,P⟩:=S;exact P.nd
 refine⟨.ref s.heap.objs.size,_,I.laid (t':=tk) (o:=.ext (SetI X.prog X.w s.heap.objs.size (ns.foldl ins []))) kp (Agi _) ?_,rfl,q _ _ hD (λx=>by rw[ck];simp) nd⟩
 refine⟨S,?_,λh1 h2 a b=>a.at' b⟩
 obtain⟨es,ep,t,ho,_⟩:=S
 exact⟨_,ho⟩
end
section
variable {prog:Program}{w:World}{A:Around}{E:Value->Shared->Prop}{s:Shared}{d it:Addr}{es:Array DictEntry}{ep i:Nat}
end
end L2
namespace L2
open PySem PySem.W PyProof.Rows PySem.SeqAt DX
def nkO:KeyOrd where
 α:=List NK
 blt:=ltL
 irrefl:=Vl.irr
 trans:=Vl.tr
 negTrans:=λa b c h=>Vl.neg h
 total:=Vl.tot
section
variable {prog:Program}{w:World}{A:Around}{s:Shared}
theorem Wd {C:Bool->Shared->Prop}{fin:Bool}(hu:A.units<cLine):∀{ks ks':List NK}{us us':List Value}(i:Nat),NItems prog w s.heap ks us->NItems prog w s.heap ks' us'->okL ks ks'=true->fin=decide (ks.length<ks'.length)->
  (i=0->∃t r t' r',ks=.inl (.inr t)::r/\ks'=.inl (.inr t')::r')->C (ltL ks ks') s->KatLex prog w A true fin C (us.zip us') i s
 |
  [],ks',_,us',i,.nil,h',_,hf,_,hC=>by
  have e:ltL [] ks'=fin:=by rw[hf];exact(iz (op:=.Lt) (.inl rfl) (lt:=ltN) (xs:=[]) (.inl rfl)).symm
  rw[e] at hC
  exact kat_nil hC
 |
  k::ks,[],us,_,i,h,.nil,_,hf,_,hC=>by
  have e:ltL (k::ks) []=fin:=by rw[hf];exact(iz (op:=.Lt) (.inl rfl) (lt:=ltN) (ys:=[]) (.inr rfl)).symm
  rw[e] at hC
  rw[List.zip_nil_right]
  exact kat_nil hC
 |
  k::ks,k'::ks',_,_,i,.cons (v:=u) (vs:=us) h1 h2,.cons (v:=u') (vs:=us') h1' h2',ok,hf,h0,hC=>by
  have e:ltL (k::ks) (k'::ks')=if k=k' then ltL ks ks' else ltN k k':=rfl
  rw[e] at hC
  unfold okL at ok
  rw[Air]
  refine kat_cons (Y3 hu h1 h1' ?_)
  by_cases ek:k=k'
  ·
   rw[if_pos ek] at ok hC
   rw[Age ek]
   exact kat_yes (Wd hu (i+1) h2 h2' ok (by rw[hf];exact Ahe.mpr (by simp only[Agr];lia)) (λz=>absurd z (Nat.succ_ne_zero _)) hC)
  ·
   rw[if_neg ek] at ok hC
   rw[Agp ek]
   refine kat_no ?_
   by_cases hi:i=0
   ·
    subst hi
    obtain⟨t,r,t',r',e1,e2⟩:=h0 rfl
    injection e1 with e1 _
    injection e2 with e2 _
    subst e1 e2
    obtain⟨tk,rfl⟩:=Ahs (x:=t) (v:=u) h1
    obtain⟨tk',rfl⟩:=Ahs (x:=t') (v:=u') h1'
    exact oneLt_str hC
   ·
    have ei:(true&&i==0)=false:=by rw[Bool.true_and];exact Aij.mpr hi
    rw[ei]
    exact kat_one _ _ (xh (op:=.Lt) (.inl rfl) hu h1 h1' ok prog w _ _ hC)
abbrev qv (ks:List NK):Prop:=∃t r,ks=.inl (.inr t)::r
theorem i9 {h:Heap}:∀{ms:List (List NK×Addr)},(∀x∈ms,IsNest prog w h x.1 x.2/\qv x.1)->∃fs,KatTups h (ms.map λx=>Value.ref x.2) fs/\fs.length=ms.length/\∀v∈fs,∃(t:Str)(k:Tok),v=.str t k
 | [],_=>⟨[],trivial,rfl,λ_ z=>nomatch z⟩
 |
  x::ms,H=>by
  obtain⟨fs,k,e,hv⟩:=i9 (ms:=ms) λy hy=>H y (Agh _ hy)
  obtain⟨⟨o,its,n,ho,hc,hd,hi⟩,t,r,ex⟩:=H x (Agj ..)
  rw[ex] at hi
  generalize hl:its.toList=l at hi
  cases hi with
  |
   cons h1 h2=>
   obtain⟨tk,rfl⟩:=Ahs (x:=t) h1
   refine⟨.str t tk::fs,KatTups.cons ho hc hd (by rw[←Agt,hl];rfl) k,by rw[Agr,Agr,e],λv hm=>?_⟩
   rcases Agx.mp hm with rfl|hm
   · exact⟨_,_,rfl⟩
   · exact hv v hm
open Classical in
noncomputable def ve (prog:Program)(w:World)(h:Heap):Value->List NK
 | .ref a=>if x:∃ks,IsNest prog w h ks a then x.choose else[]
 | _=>[]
open Classical in
theorem Sn {h:Heap}{ks:List NK}{a:Addr}(x:IsNest prog w h ks a):ve prog w h (.ref a)=ks:=by
 unfold ve
 have y:∃ks,IsNest prog w h ks a:=⟨ks,x⟩
 show(if x:∃ks,IsNest prog w h ks a then x.choose else[])=ks
 rw[dif_pos y]
 exact y.choose_spec.inj x
theorem IsNest.kept {h h':Heap}{ks:List NK}{a:Addr}(x:IsNest prog w h ks a)(kp:∀b o,h.get? b=some o->h'.get? b=some o):IsNest prog w h' ks a:=by
 obtain⟨o,its,n,ho,hc,hd,hi⟩:=x
 refine⟨o,its,n,kp _ _ ho,hc,hd,?_⟩
 generalize its.toList=vs at hi
 induction hi with
 | nil=>exact .nil
 |
  @cons k v ks vs h1 _ ih=>
  refine .cons ?_ ih
  cases k with
  | inl k=>exact h1
  | inr ks=>obtain⟨b,e,o,its,n,ho,r⟩:=h1;exact⟨b,e,o,its,n,kp _ _ ho,r⟩
theorem lq {h₀:Heap}{ms:List (List NK×Addr)}(hu:A.units<cLine)(h1:1<=ms.length)(kp:∀b o,h₀.get? b=some o->s.heap.get? b=some o)(H:∀x∈ms,IsNest prog w h₀ x.1 x.2/\qv x.1)(ok:∀x∈ms,∀y∈ms,okL x.1 y.1=true):
  SortsV prog w A s (tuples' true) (O:=nkO) (ve prog w h₀) (ms.map λx=>Value.ref x.2) where
 kind:=λE Q hq=>by
  obtain⟨fs,k,e,hv⟩:=i9 (h:=s.heap) (ms:=ms) λx hx=>⟨(H x hx).1.kept kp,(H x hx).2⟩
  refine kat_kind (T:=.type "str") k (by lia) (λv hm=>?_) rfl hq
  obtain⟨i,t,rfl⟩:=hv v hm
  exact W.Looks.now
 cmp:=λu hu' v hv C hC=>by
  obtain⟨x,hx,rfl⟩:=Ag7.mp hu'
  obtain⟨y,hy,rfl⟩:=Ag7.mp hv
  have ax:=H x hx
  have ay:=H y hy
  have hC':C (ltL (ve prog w h₀ (.ref x.2)) (ve prog w h₀ (.ref y.2))) s:=hC
  rw[Sn ax.1,Sn ay.1] at hC'
  obtain⟨o,its,n,ho,hc,hd,hi⟩:=ax.1.kept kp
  obtain⟨o',its',n',ho',hc',hd',hi'⟩:=ay.1.kept kp
  refine kat_lt ho hd ho' hd' (Wd hu 0 hi hi' (ok x hx y hy) ?_ (λ_=>?_) hC')
  · rw[hi.length,hi'.length,Agg,Agg]
  ·
   obtain⟨t,r,e⟩:=ax.2
   obtain⟨t',r',e'⟩:=ay.2
   exact⟨t,r,t',r',e,e'⟩
end
section
variable {X:Cx}
end
end L2
namespace L2
open PySem PySem.Spec PySem.Calls PyProof.Rows
section
variable {X:Cx}{m:Str}{apos pos:Pos}{o:Expr}{ta:TE}
def Ab9 (m:Str)(D:Addr->(V->List V->Hp->VK->Prop)->Prop)(ta:TE):TE:=λσ H Q=>ta σ H λx H1=>∃a C dx fs R,x=.ref a/\H1 a=some (.ins C dx fs)/\fs.lookup m=none/\D C R/\R x [] H1 Q
theorem Pb {pl:Sem Bool}{D:Addr->(V->List V->Hp->VK->Prop)->Prop}(he:PE X o ta)(hD:∀C R,D C R->Ans X m 0 C R)
  (ht:eval (.Call (.Attribute o m apos) [] [] pos) X.env=(do
   let ov ←eval o X.env
   standAt apos.atName
   let (f,first) ←holding [ov] (getMethod ov m pl)
   callWith pos f first (backTo pos (starEach [] X.env)) (backToKw pos (keywordEach [] X.env))):=by rfl):
  PE X (.Call (.Attribute o m apos) [] [] pos) (Ab9 m D ta):=by
 intro pins s σ H Q I h
 refine W.methodCall_KW (pl:=pl) (thn (he pins s σ H _ I h) λu s1 ⟨x,H1,I1,rx,a,C,dx,fs,R,ex,ea,l,d,q⟩=>?_) ht
 subst ex
 obtain rfl:u=Value.ref a:=rx
 obtain⟨c,f,fd,ps,ds,dvs,CX,cm,k,sp,E,hm,F,hr,hb,hd,hx,hR⟩:=hD C R d
 refine Sl I1 ea c hm l ?_
 refine W.callWith_K0 (first:=[.ref a]) (Inv.kIn (I1.tok _)) hm.kp ?_
 exact vm (us:=[.ref a]) (vs:=[.ref a]) F hr hb hd hx (I1.tok _) (.cons rfl .nil) (hR _ _ _ _ rfl q)
end
noncomputable def slot (σ:St)(i:Nat):Option (Option V):=List.rec (motive:=λ_=>Nat->Option (Option V)) (λ_=>none) (λa _ ih i=>Nat.rec (some a) (λj _=>ih j) i) σ i
section
variable {X:Cx}{a b c e:Expr}{ta tb tc te:TE}{pos:Pos}
variable {rest es:List Expr}{t:TA}{K:W.Frag}{f m:Str}{o value:Expr}{tv:TE}{pos' apos:Pos}
end
section
variable {X:Cx}{K:W.Frag}{a b e value:Expr}{es:List Expr}{ta tb tv te:TE}{t:TA}{pos p pos':Pos}{x f':Str}
end
section
variable {X:Cx}{e:Expr}{es:List Expr}{t:TA}{pos p:Pos}{x m:Str}{n j k:Nat}{cm:Bool}{C f:Addr}{fd:FuncData}{ps:List Str}{sp:Sp}
end
end L2
namespace L2
open PySem PySem.Spec PyProof.Rows PySem.SeqAt
section
variable {X:Cx}{cm:Bool}{k:Nat}{f:Addr}{fd:FuncData}{pn x fx:Str}{sp:Sp}{e:Expr}{te:TE}{p p2 kpos pos:Pos}
end
theorem c7:∀{ts:List Str}{us:List Value},Vals (ts.map V.str) us->StrsAre us ts
 | [],_,.nil=>.nil
 |
  _::_,_,.cons r1 r2=>by
  obtain⟨t,rfl⟩:=r1
  exact .cons _ t (c7 r2)
theorem Sb:∀{ts:List Str}{us:List Value},StrsAre us ts->Vals (ts.map V.str) us
 | _,_,.nil=>.nil
 | _,_,.cons y t h=>.cons ⟨t,rfl⟩ (Sb h)
section
variable {X:Cx}
end
end L2
namespace HT
open PySem PySem.Spec PyProof.Rows
section
variable {prog:Program}{w:World}{A:Around}{E:Value->Shared->Prop}{s:Shared}
theorem Qo {t sl:Addr}{items:Array Value}{vl vu:Value}{lo hi:Option Int}{Q:Value->Shared->Prop}(ht:IsTup s.heap t items)(hs:s.heap.IsSliceOf sl vl vu .none)(pl:IsPart vl lo)(pu:IsPart vu hi)
  (hw:sIx items.size 0 lo=0/\sIx items.size items.size hi=items.size) (h:Q (.ref t) s):wpAny (model prog w) A (getItem (.ref t) (.ref sl)) Q E s:=by
 obtain⟨os,hos,hcs,hds⟩:=id hs
 have hTs:s.TypeIs (.ref sl) "slice":=⟨os,hos,hcs⟩
 unfold getItem
 try with_reducible refine Ahd ?_
 first|refine Aga (Agb ?_)|skip
 refine Aga (wpAny_sequenceKey ht.typeIs (by decide) ?_)
 refine Aga (wpAny_callSpecial?_slot (name:=Str.ofString "__getitem__") ht.typeIs Aix
  (Ahj Aix ht.typeIs entry_tuple_getitem ?_ (args_tuple_getitem _ _)))
 show wpAny _ _ (Builtin.Tuple.tupleItemsOf (.ref t)>>=_) _ _ s
 refine Aga (tupleItemsOf_ ht ?_)
 refine Aga (Aka hTs ?_)
 rw[if_pos (by decide)]
 refine Aga (Oi hs pl pu ?_)
 have hyes:(((sIx items.size 0 lo:Nat):Int)==0&&(1:Int)==1&&(sIx items.size items.size hi-sIx items.size 0 lo)==items.size)=true:=by
  rw[hw.1,hw.2,Nat.sub_zero]
  simp
 show wpAny _ _ (if(((sIx items.size 0 lo:Nat):Int)==0&&(1:Int)==1&&(sIx items.size items.size hi-sIx items.size 0 lo)==items.size)=true then _ else _) _ _ s
 rw[if_pos hyes]
 unfold Builtin.Tuple.tupleIsExact
 refine Aga (Aga (Aka ht.typeIs (Agb ?_)))
 rw[if_pos (by decide)]
 first
  | exact Aga (Agb (Agb ⟨_,rfl,Agb h⟩))
  | exact Aga (Aj7 (Agb ⟨_,rfl,Agb h⟩))
  | exact Agb ⟨_,rfl,Agb h⟩
end
end HT
namespace L2
open PySem PySem.Spec PyProof.Rows PySem.SeqAt
theorem xk {xs:List V}{lo hi:Option Int}(hw:HT.sIx xs.length 0 lo=0/\HT.sIx xs.length xs.length hi=xs.length):kz xs lo hi=xs:=by
 unfold kz
 rw[hw.1,hw.2,List.drop_zero,Nat.sub_zero,Aim]
section
variable {X:Cx}
theorem zr:SlR X (λx lo hi H Q=>∃(a:Addr)(xs:List V),x=.ref a/\H a=some (.tup xs)/\∀p H',Same H H'->H' p=some (.tup (kz xs lo hi))->Q (.ref p) H'):=by
 intro pins s σ H x v vl vu lo hi sl Q I rx hs pl pu h
 obtain⟨a,xs,rfl,ha,q⟩:=h
 by_cases hw:HT.sIx xs.length 0 lo=0/\HT.sIx xs.length xs.length hi=xs.length
 ·
  cases rx
  obtain⟨its,r,ht,hz⟩:=I.tuple (SqT.of (K:=X.K) ha)
  have hlen:its.toArray.size=xs.length:=by rw[Agm];exact r.length.symm
  refine⟨"tuple",_,PyProof.Rows.slot_tuple_getitem.lookup,ht.typeIs,?_⟩
  refine HT.Qo ht hs pl pu (by rw[hlen];exact hw) ⟨.ref a,H,I,rfl,q a H (Same.refl _) ?_⟩
  rw[xk hw]
  exact ha
 · exact Ab1 pins s σ H _ v vl vu lo hi sl Q I rx hs pl pu ⟨a,xs,rfl,SqT.of ha,hw,λp hp=>q p _ (Ah hp) Ac⟩
end
end L2
namespace HT
open PySem PySem.Spec PyProof.Rows
section
variable {prog:Program}{w:World}{A:Around}{E:Value->Shared->Prop}{s:Shared}
end
end HT
namespace L2
open PySem PySem.Spec PyProof.Rows PySem.SeqAt
section
variable {X:Cx}
end
end L2
namespace L2
open PySem PySem.Spec PyProof.Rows
end L2
namespace DW
open PySem PySem.Spec L2
inductive W where
 | n
 | b (x:Bool)
 | i (z:Int)
 | s (t:Str)
 | ts (l:List Str)
 | ti (z:Int)
section
variable (nm:Str->Bool)
def at_ (ws:List W)(j:Nat):W:=ws.getD j .n
end
section
variable {nm:Str->Bool}{ws:List W}
end
abbrev PW_:=V×W
def ws (ps:List PW_):List W:=ps.map (·.2)
def vs (ps:List PW_):List V:=ps.map (·.1)
def TS (H:Hp)(r:Addr):Prop:=∃l:List Str,H r=some (.tup (l.map V.str))/\l.length<=100/\∀t∈l,t.length<=10000
end DW
namespace L2
open PySem PySem.Spec PyProof.Rows PySem.SeqAt DX DW
inductive Lt where
 | bid (a:Str) (n t b e:Int) (hs:List Str)
 | off (a:Str) (n t:Int)
 | close (a:Str) (n t:Int) (hs:List Str)
 | ans (a:Str) (n t:Int) (h:Str) (g:Int) (w:Str)
theorem dz:∀{ms:List (List NK×Addr)}{us:List Value},Vals (ms.map λx=>V.ref x.2) us->us=ms.map λx=>Value.ref x.2
 | [],_,.nil=>rfl
 | _::_,_,.cons r1 r2=>by rw[show _=Value.ref _ from r1,dz r2];rfl
section
variable {X:Cx}
end
end L2
namespace L2
open PySem PySem.W PyProof.Rows PySem.SeqAt DX
abbrev Z9 (ks:List NK):Prop:=∃i r,ks=.inl (.inl i)::r
section
variable {prog:Program}{w:World}{A:Around}{s:Shared}
theorem n5 {C:Bool->Shared->Prop}{fin:Bool}(hu:A.units<cLine){ks ks':List NK}{us us':List Value}(h:NItems prog w s.heap ks us)(h':NItems prog w s.heap ks' us')(ok:okL ks ks'=true)(hf:fin=decide (ks.length<ks'.length))
  (i1:Z9 ks) (i2:Z9 ks') (hC:C (ltL ks ks') s):KatLex prog w A true fin C (us.zip us') 0 s:=by
 obtain⟨i,r,rfl⟩:=i1
 obtain⟨j,r',rfl⟩:=i2
 cases h with
 | @cons _ u _ us h1 h2=>
 cases h' with
 | @cons _ u' _ us' h1' h2'=>
 have e:ltL (.inl (.inl i)::r) (.inl (.inl j)::r')=if(Sum.inl (Sum.inl i):NK)=.inl (.inl j) then ltL r r' else ltN (.inl (.inl i)) (.inl (.inl j)):=rfl
 rw[e] at hC
 unfold okL at ok
 rw[Air]
 refine kat_cons (Y3 hu h1 h1' ?_)
 by_cases ek:(Sum.inl (Sum.inl i):NK)=.inl (.inl j)
 ·
  rw[if_pos ek] at ok hC
  rw[Age ek]
  exact kat_yes (Wd hu 1 h2 h2' ok (by rw[hf];exact Ahe.mpr (by simp only[Agr];lia)) (λz=>absurd z (by decide)) hC)
 ·
  rw[if_neg ek] at ok hC
  rw[Agp ek]
  refine kat_no ?_
  obtain⟨tk,rfl⟩:=Ahz (k:=i) (v:=u) h1
  obtain⟨tk',rfl⟩:=Ahz (k:=j) (v:=u') h1'
  exact oneLt_int hC
theorem au {h:Heap}:∀{ms:List (List NK×Addr)},(∀x∈ms,IsNest prog w h x.1 x.2/\Z9 x.1)->∃fs,KatTups h (ms.map λx=>Value.ref x.2) fs/\fs.length=ms.length/\∀v∈fs,∃(t:Int)(k:Tok),v=.int t k
 | [],_=>⟨[],trivial,rfl,λ_ z=>nomatch z⟩
 |
  x::ms,H=>by
  obtain⟨fs,k,e,hv⟩:=au (ms:=ms) λy hy=>H y (Agh _ hy)
  obtain⟨⟨o,its,n,ho,hc,hd,hi⟩,t,r,ex⟩:=H x (Agj ..)
  rw[ex] at hi
  generalize hl:its.toList=l at hi
  cases hi with
  |
   cons h1 h2=>
   obtain⟨tk,rfl⟩:=Ahz (k:=t) h1
   refine⟨.int t tk::fs,KatTups.cons ho hc hd (by rw[←Agt,hl];rfl) k,by rw[Agr,Agr,e],λv hm=>?_⟩
   rcases Agx.mp hm with rfl|hm
   · exact⟨_,_,rfl⟩
   · exact hv v hm
theorem g7 {h₀:Heap}{ms:List (List NK×Addr)}(hu:A.units<cLine)(h1:1<=ms.length)(kp:∀b o,h₀.get? b=some o->s.heap.get? b=some o)(H:∀x∈ms,IsNest prog w h₀ x.1 x.2/\Z9 x.1)(ok:∀x∈ms,∀y∈ms,okL x.1 y.1=true):
  SortsV prog w A s (tuples' true) (O:=nkO) (ve prog w h₀) (ms.map λx=>Value.ref x.2) where
 kind:=λE Q hq=>by
  obtain⟨fs,k,e,hv⟩:=au (h:=s.heap) (ms:=ms) λx hx=>⟨(H x hx).1.kept kp,(H x hx).2⟩
  refine kat_kind (T:=.type "int") k (by lia) (λv hm=>?_) rfl hq
  obtain⟨i,t,rfl⟩:=hv v hm
  exact W.Looks.now
 cmp:=λu hu' v hv C hC=>by
  obtain⟨x,hx,rfl⟩:=Ag7.mp hu'
  obtain⟨y,hy,rfl⟩:=Ag7.mp hv
  have ax:=H x hx
  have ay:=H y hy
  have hC':C (ltL (ve prog w h₀ (.ref x.2)) (ve prog w h₀ (.ref y.2))) s:=hC
  rw[Sn ax.1,Sn ay.1] at hC'
  obtain⟨o,its,n,ho,hc,hd,hi⟩:=ax.1.kept kp
  obtain⟨o',its',n',ho',hc',hd',hi'⟩:=ay.1.kept kp
  refine kat_lt ho hd ho' hd' (n5 hu hi hi' (ok x hx y hy) ?_ ax.2 ay.2 hC')
  rw[hi.length,hi'.length,Agg,Agg]
end
section
variable {X:Cx}
theorem NItems.get {prog:Program}{w:World}{h:Heap}:∀{ks:List NK}{us:List Value},NItems prog w h ks us->∀(j:Nat)(hj:j<us.length),∃k,ks[j]?=some k/\NItem prog w h k us[j]
 | _,_,.nil,j,hj=>absurd hj (Aho _)
 | _,_,.cons h1 _,0,_=>⟨_,rfl,h1⟩
 |
  _,_,.cons _ h2,j+1,hj=>by
  obtain⟨k,e,q⟩:=NItems.get h2 j (by simpa using hj)
  exact⟨k,by simpa using e,by simpa using q⟩
end
theorem vj {H:Hp}{p:Addr}:∀{ks:List Key}{vs:List V},vs=ks.map kV->NkVs H (ks.map Sum.inl) vs
 | [],_,rfl=>.nil
 | _::_,_,rfl=>.cons rfl (vj (p:=p) rfl)
theorem Acz {H:Hp}{p:Addr}{ks:List Key}(h:H p=some (.tup (ks.map kV))):Aco H (ks.map Sum.inl) p:=⟨_,h,vj (p:=p) rfl⟩
section
variable {X:Cx}
end
section
variable {prog:Program}{w:World}{A:Around}{E:Value->Shared->Prop}{s:Shared}{O:KeyOrd}{key:Value->O.α}{κ:SortKind}
end
section
variable {X:Cx}
end
theorem xq (xs:List (List NK×Addr))(x:List NK×Addr):(Zz xs x).length<=xs.length+1:=by
 unfold Zz
 split
 · exact Aju _
 · rw[Agw];exact Agi _
theorem jz {xs:List (List NK×Addr)}{x y:List NK×Addr}(h:y∈Zz xs x):y∈xs∨y=x:=by
 unfold Zz at h
 split at h
 · exact .inl h
 ·
  rcases Ahf.mp h with h|h
  · exact .inl h
  · exact .inr (Ag3.mp h)
theorem wg {xs:List (List NK×Addr)}{x:List NK×Addr}{k:List NK}:k∈(Zz xs x).map (·.1)↔k∈xs.map (·.1)∨k=x.1:=by
 unfold Zz
 split
 ·
  rename_i h
  refine⟨.inl,λz=>z.elim id λe=>?_⟩
  obtain⟨y,hy,e'⟩:=g8.mp h
  rw[e,←e']
  exact Ag8 hy
 · rw[Ahg,Ahf,Alq,Ag3]
theorem Xo {k:List NK}:∀(ns ds:List (List NK×Addr)),k∈(ns.foldl Zz ds).map (·.1)↔k∈ds.map (·.1)∨k∈ns.map (·.1)
 | [],ds=>by simp
 |
  n::ns,ds=>by
  rw[List.foldl_cons,Xo ns,wg,Agy,Agx,or_assoc]
theorem Xl {y:List NK×Addr}:∀(ns ds:List (List NK×Addr)),y∈ns.foldl Zz ds->y∈ds∨y∈ns
 | [],ds,h=>.inl h
 |
  n::ns,ds,h=>by
  rcases Xl ns _ h with h|h
  ·
   rcases jz h with h|h
   · exact .inl h
   · exact .inr (by rw[h];exact Agj)
  · exact .inr (Agh _ h)
section
variable {prog:Program}{w:World}{A:Around}{R:Result->Shared->Prop}{I:Addr}{fp wr:List Addr}{G:Array GenState->Array GenState->Prop}{n:Nat}{P:Nat->Value->Prop}{St:Nat->Shared->Prop}
theorem qi (W:WalksS prog w A.in1 I fp wr G n P St)(S:Addr)(hSf:S∉fp)(hu:A.units+9<cLine){h0:Heap}(hS0:h0.get? S=none)(hw0:∀b∈wr,h0.get? b=none):
  ∀(rest:List (List NK×Addr))(i:Nat)(ds:List (List NK×Addr))(s:Shared),i+rest.length=n->(∀j x,rest[j]?=some x->∀v,P (i+j) v->v=.ref x.2)->ds.length+rest.length<=300->(∀x∈ds,IsNest prog w h0 x.1 x.2)->(∀x∈rest,IsNest prog w h0 x.1 x.2)->(∀b o,h0.get? b=some o->s.heap.get? b=some o)->St i s->SetN prog w S ds s.heap->
  (∀s',Moved (S::wr) G s s'->SetN prog w S (rest.foldl Zz ds) s'.heap->R (.ok (.ret .none)) s')->codeAny (model prog w) A (.builtin "set.update.loop" ⟨[.ref S,.ref I],[]⟩) R s:=by
 have off:S∉wr:=λz=>hSf (W.sub _ z)
 have sub:∀b∈wr,b∈S::wr:=λb hb=>Agh _ hb
 intro rest
 induction rest with
 |
  nil=>
  intro i ds s hi _ _ _ _ _ st hS hR
  have e:i=n:=hi
  subst e
  refine Ah1 Akf ?_
  rw[Aik Aiv _]
  show wpAny _ A.in1 (pyNext (.ref I)>>=_) _ _ s
  refine Aga (W.done s _ _ st λs' m=>?_)
  exact Agb (hR s' (m.mono sub) (hS.at' λo e=>m.heap S o off e))
 |
  cons k rest ih=>
  intro i ds s hi hv hz n1 n2 kp st hS hR
  have hlt:i<n:=by simp at hi;lia
  refine Ah1 Akf ?_
  rw[Aik Aiv _]
  show wpAny _ A.in1 (pyNext (.ref I)>>=_) _ _ s
  refine Aga (W.item i s _ _ hlt st λv s' hP st' m=>?_)
  have ev:=hv 0 k rfl v hP
  subst ev
  have S1:SetN prog w S ds s'.heap:=hS.at' λo e=>m.heap S o off e
  have kp1:∀b o,h0.get? b=some o->s'.heap.get? b=some o:=λb o e=>m.heap b o (λz=>by rw[hw0 b z] at e;cases e) (kp b o e)
  show wpAny _ A.in1 (holding [Value.ref k.2] (setAdd S (.ref k.2))>>=_) _ _ s'
  refine Aga (Ahd ?_)
  unfold setAdd
  refine Ahd (Aga (fh (by show A.units+1+1<cLine;lia) ((n2 k Agj).kept kp1) ?_))
  refine ni (s:={s' with toks:=s'.toks+Wk k.1}) S1 ((n2 k Agj).kept kp1) (λx hx=>(n1 x hx).kept kp1) (by rw[Agr] at hz;lia) (by show A.units+1+1<cLine;lia) λh' b sb S2=>?_
  have kp2:∀b o,h0.get? b=some o->h'.get? b=some o:=λb o e=>by
   rw[sb.2 b (λz=>by rw[z,hS0] at e;cases e)]
   exact kp1 b o e
  refine Agb ⟨Alc Aiv _,ih (i+1) (Zz ds k) _ (by rw[Agr] at hi;lia) (λj k' hj v' hp=>hv (j+1) k' hj v' (by rw[show i+(j+1)=i+1+j by lia];exact hp)) (by have:=xq ds k;rw[Agr] at hz;lia) (λx hx=>?_) (λx hx=>n2 x (Agh _ hx)) kp2 (W.frame _ s' _ _ st' (Akz _ _) λb hb o e=>?_) S2 λs'' m2 S3=>?_⟩
  ·
   rcases jz hx with hx|rfl
   · exact n1 x hx
   · exact n2 x Agj
  · rw[sb.2 b (λz=>hSf (by rw[←z];exact hb))];exact e
  ·
   refine hR s'' (Moved.trans W.gtrans ((m.mono sub).then_heap (Akz _ _) λb o hb e=>?_) m2) S3
   rw[sb.2 b (λz=>hb (by rw[z];exact Agj))];exact e
end
section
variable {prog:Program}{w:World}{A:Around}{E:Value->Shared->Prop}{s:Shared}
theorem vd {l:Addr}{items:Array Value}{ns:List (List NK×Addr)}{Q:Value->Shared->Prop}(hh:A.handled=none)(hu:A.units+40<cLine)(hl:s.heap.IsList l items)(hi:items.toList=ns.map λx=>Value.ref x.2)(hk:∀x∈ns,IsNest prog w s.heap x.1 x.2)(hb:ns.length<=300)
  (h:∀h' tk,SetN prog w s.heap.objs.size (ns.foldl Zz []) h'->(∀b o,s.heap.get? b=some o->h'.get? b=some o)->Q (.ref s.heap.objs.size) {s with heap:=h',toks:=tk}):
  wpAny (model prog w) A (call (.type "set") [.ref l]) Q E s:=by
 obtain⟨c,tl,hmro⟩:=F.called_set.mro
 have m1:=F.called_set.made
 have m2:=F.called_set.sub
 have m3:=F.called_set.notType
 have m4:=F.called_set.canCreate
 have m5:=F.typeCall_set_1 (.ref l)
 refine Alr (codeAny_of_tree ?_)
 show wpAny _ _ (callAny (.type "set") _) _ _ _
 refine Agb ⟨Ajx _ (by decide+kernel),Ah1 F.entry_type_call ?_⟩
 rw[Around.under_plain (weight_type_call_type "set" [.ref l] []) rfl]
 repeat (any_goals (first|assumption|wp_step))
 refine Ajc (ua (.ref l) (E:=E) (Q₁:=λv s1=>v=.ref s.heap.objs.size/\s1={s with heap:=s.heap.push (Br #[] 0 (.fresh 0 0 (Ti w)))}) ⟨rfl,rfl⟩) λr s1 hr=>?_
 rcases r with e|f
 · exact hr
 cases f with
 |
  ret v=>
  obtain⟨rfl,rfl⟩:=hr
  have hS:(s.heap.push (Br #[] 0 (.fresh 0 0 (Ti w)))).get? s.heap.objs.size=some (Br #[] 0 (.fresh 0 0 (Ti w))):=Ago _ rfl
  have hT:Shared.TypeIs {s with heap:=s.heap.push (Br #[] 0 (.fresh 0 0 (Ti w)))} (.ref s.heap.objs.size) "set":=⟨_,hS,rfl⟩
  have i1:=F.called_set.init.lookup
  have i2:=F.called_set.init.bind (.ref s.heap.objs.size)
  repeat (any_goals (first|assumption|wp_step))
  refine Ajc (Akg (R:=wants (λr s2=>r=.none/\∃h' tk,s2={s with heap:=h',toks:=tk}/\SetN prog w s.heap.objs.size (ns.foldl Zz []) h'/\∀b o,s.heap.get? b=some o->h'.get? b=some o) E) F.called_set.init.plain F.entry_set_init (check_set_init_1 hT ?_)) λr2 s2 h2=>?_
  ·
   obtain⟨ol,e1,e2,k,e3⟩:=hl
   obtain⟨oc,od,oda,osl⟩:=ol
   simp only at e2 e3
   subst e2;subst e3
   have e1':=Agc (Br #[] 0 (.fresh 0 0 (Ti w))) e1
   have j1:=F.sub_list_set
   have j2:=F.sub_list_frozenset
   have j3:(Value.type "list"==Value.type "dict")=false:=by decide
   have hl1:(s.heap.push (Br #[] 0 (.fresh 0 0 (Ti w)))).IsList l items:=⟨_,e1',rfl,k,rfl⟩
   unfold Br at*
   unfold Builtin.«set.__init__» noKeywords Builtin.Frozenset.updateFrom
   generalize hPI:pyIter=PI
   wp_walk
   subst hPI
   refine Ak6 hl1 (Aga (Al0 ?_))
   have hlS:l<s.heap.objs.size:=Agk e1
   have hn:items.size=ns.length:=by rw[←Agg,hi,Agd]
   have g0:∀b,s.heap.objs.size<=b->s.heap.get? b=none:=λb hb=>by
    cases e:s.heap.get? b with
    | none=>rfl
    | some o=>exact absurd (Agk e) (Nat.not_lt.mpr hb)
   refine qi (G:=_) ((Walks.list (by simp[hh]) _ l (by rw[Ahv];exact Agv (Aih hlS)) items).toS) s.heap.objs.size (by rw[Ahv];simp only[Agx,Ain,or_false,not_or];exact⟨Agv (Ah9 _),Aip hlS⟩) (by show A.units+1+1+9<cLine;lia) (h0:=s.heap) (g0 _ (Agi _)) (λb hb=>?_) ns 0 [] _ (by rw[hn];lia) (λj x hj v hv=>?_) (by simpa using hb) (λx hx=>nomatch hx) hk (λb o e=>Agc _ (Agc _ e)) ⟨⟨_,Ago _ rfl,rfl,rfl⟩,hl1.push _⟩ ⟨#[],0,_,Agc _ hS,SetPN.fresh⟩ λs' m S'=>?_
   ·
    rw[Ag3] at hb
    rw[hb,Ahv]
    exact g0 _ (Aju _)
   ·
    have hv:items[0+j]?=some v:=hv
    rw[Akh,←Agt,hi,Agz,hj] at hv
    exact(Agn hv).symm
   ·
    obtain⟨h',g',d',tk',os'⟩:=s'
    have q1:g'=s.gens:=m.gens
    have q2:d'=s.drawn:=m.drawn
    have q3:os'=s.os:=m.os
    subst q1;subst q2;subst q3
    show wpAny _ _ _ _ _ _
    refine Agb ?_
    show wpAny _ _ (ret Value.none) _ _ _
    refine Agb ⟨rfl,h',tk',rfl,S',λb o e=>?_⟩
    have hb0:=Agk e
    refine m.heap b o ?_ (Agc _ (Agc _ e))
    rw[Ahv]
    simp only[Agx,Ain,or_false,not_or]
    exact⟨Agv hb0,Agv (Aih hb0)⟩
  ·
   rcases r2 with e|f2
   · exact h2
   cases f2 with
   |
    ret r=>
    obtain⟨rfl,h',tk,rfl,S',kp⟩:=h2
    repeat (any_goals (first|assumption|wp_step))
    exact h _ _ S' kp
   | _=>exact h2.elim
 | _=>exact hr.elim
end
section
variable {prog:Program}{w:World}{A:Around}{E:Value->Shared->Prop}{s:Shared}{O:KeyOrd}{key:Value->O.α}{κ:SortKind}
theorem Zn {c:Value}{Q:Value->Shared->Prop}{G:List Value->Prop}(hh:A.handled=none)
  (hcol:∀(A':Around),A'.handled=none->∀(E':Value->Shared->Prop)(Q':List Value->Shared->Prop),(∀h' tk dr vs,(∀b o,s.heap.get? b=some o->h'.get? b=some o)->s.heap.objs.size<=h'.objs.size->G vs->Q' vs {s with heap:=h',toks:=tk,drawn:=dr})->wpAny (model prog w) A' (collect c) Q' E' s)
  (hz:∀vs,G vs->vs.length<64) (hS:∀vs,G vs->2<=vs.length->∀(s':Shared),(∀b o,s.heap.get? b=some o->s'.heap.get? b=some o)->SortsV prog w A.in1.in1 s' κ key vs)
  (h:∀(D:Addr)h' tk dr(vs us:List Value)(e:Nat),G vs->us.Perm vs->us.Pairwise (λx y=>O.kle (key x) (key y))->(∀b o,s.heap.get? b=some o->h'.get? b=some o)->s.heap.objs.size<=D->h'.get? D=some (seqObj "list" us.toArray e)->Q (.ref D) {s with heap:=h',toks:=tk,drawn:=dr}):
  wpAny (model prog w) A (call (.builtin "sorted") [c]) Q E s:=by
 refine Ak2 kind_sorted plain_sorted entry_sorted (args_sorted1 _) ?_
 unfold Builtin.«sorted»
 refine Aga (m:=checkCount "sorted" 1 1 _) (Agb (Aga (hcol A.in1 hh _ _ λh1 tk dr vs kp hge hg=>?_)))
 have h64:=hz vs hg
 refine Aga (Akj ?_ (by rw[Ahr];lia))
 have hoL:(h1.push (seqObj "list" vs.toArray 0)).get? h1.objs.size=some (seqObj "list" vs.toArray 0):=Ago _ rfl
 have keep:∀b o,s.heap.get? b=some o->(h1.push (seqObj "list" vs.toArray 0)).get? b=some o:=λb o q=>Agc _ (kp b o q)
 have ne:∀b o,s.heap.get? b=some o->b≠h1.objs.size:=λb o q=>Agv (Agk (kp b o q))
 show wpAny _ _ _ _ _ {s with heap:=h1.push (seqObj "list" vs.toArray 0),toks:=tk,drawn:=dr}
 refine Aga (Ahd (Ahj slot_list_sort ⟨_,hoL,rfl⟩ entry_list_sort (Vv (κ:=κ) (key:=key) hoL h64 (λh2 h' kp'=>hS vs hg h2 _ λb o q=>kp' b o (ne b o q) (keep b o q)) λus a1 a2=>⟨_,rfl,Agb ⟨_,rfl,?_⟩⟩) (args_list_sort _)))
 obtain⟨e,he⟩:=sortedHeap_at (out:=us.toArray) hoL
 refine h h1.objs.size _ tk dr vs us e hg a1 a2 (λb o q=>?_) hge he
 rw[sortedHeap_old (ne b o q) (Agk (keep b o q))]
 exact keep b o q
end
section
variable {X:Cx}
theorem fj (hc:X.calm=true)(hu:X.A.units+40<cLine):Jp X (.type "set") (λxs H Q=>∃(p:Addr)(ms:List (List NK×Addr)),xs=[.ref p]/\H p=some (.lst (ms.map λx=>V.ref x.2))/\(∀x∈ms,Aco H x.1 x.2)/\ms.length<=300/\
  ∀(D:Addr)(ds:List (List NK×Addr)),H D=none->(∀k,k∈ds.map (·.1)↔k∈ms.map (·.1))->(∀x∈ds,x∈ms)->(ds.map (·.1)).Nodup->Q (.ref D) (upd H D (.ext (SetN X.prog X.w D ds)))):=by
 intro pins s σ H xs us Q I r h
 obtain⟨p,ms,rfl,hp,hk,hz,q⟩:=h
 obtain⟨u,rfl,ru⟩:=vals1 r
 cases ru
 obtain⟨its,rv,pl,hl⟩:=I.list (SqL.of (K:=X.K) hp)
 have e:=dz rv
 subst e
 refine vd (I.ok.hd hc) hu pl.isList (by simp) (λx hx=>pe I.hok (hk x hx)) hz λh' tk S kp=>?_
 have hD:H s.heap.objs.size=none:=I.hok.fresh (Agi _)
 have nd:((ms.foldl Zz []).map (·.1)).Nodup:=by obtain⟨_,_,_,_,P⟩:=S;exact P.nd
 refine⟨.ref s.heap.objs.size,_,I.laid (t':=tk) (o:=.ext (SetN X.prog X.w s.heap.objs.size (ms.foldl Zz []))) kp (Agi _) ?_,rfl,q _ _ hD (λk=>by rw[Xo];simp) (λx hx=>(Xl ms [] hx).resolve_left (λz=>nomatch z)) nd⟩
 refine⟨S,?_,λh1 h2 a b=>a.at' b⟩
 obtain⟨es,ep,t,ho,_⟩:=S
 exact⟨_,ho⟩
theorem W4 (hc:X.calm=true)(hu:X.A.units+2<cLine):Jp X (.builtin "sorted") (λxs H Q=>∃(p:Addr)(ms:List (List NK×Addr)),xs=[.ref p]/\H p=some (.ext (SetN X.prog X.w p ms))/\(∀x∈ms,Aco H x.1 x.2)/\ms.length<64/\((∀x∈ms,qv x.1)∨(∀x∈ms,Z9 x.1))/\(∀x∈ms,∀y∈ms,okL x.1 y.1=true)/\
  ∀(D:Addr)(qs:List (List NK×Addr)),H D=none->qs.Perm ms->(keysOf qs).Pairwise (λx y=>ltL y x=false)->Q (.ref D) (upd H D (.lst (qs.map λx=>V.ref x.2)))):=by
 intro pins s σ H xs us Q I r h
 obtain⟨p,ms,rfl,hp,hk,h64,hs,ok,q⟩:=h
 obtain⟨u,rfl,ru⟩:=vals1 r
 cases ru
 have hn:∀x∈ms,IsNest X.prog X.w s.heap x.1 x.2:=λx hx=>pe I.hok (hk x hx)
 have S:SetN X.prog X.w p ms s.heap:=(I.hok _ _ hp).1
 obtain⟨es,ep,t,ho,P⟩:=S
 have hlen:=P.len
 have hb:es.size<scanBound:=by
  have h1:=P.T.fl
  have h2:=P.T.sm
  have:(2047:Nat)<scanBound:=by decide
  lia
 have hzz:es.size<=sizeLine:=Aj8 hb
 have B:ki X.w es t:=⟨P.T.fits,⟨P.T.ri,P.T.led⟩,hb⟩
 refine Zn (G:=λvs=>∃qs:List (List NK×Addr),qs.Perm ms/\vs=qs.map λx=>Value.ref x.2) (O:=nkO) (key:=ve X.prog X.w s.heap) (κ:=tuples' true) (I.ok.hd hc) (λA' hh E' Q' hq=>Vy ho B hh λh' tk dr xs kp hge hpm=>hq h' tk dr _ kp hge ?_) ?_ (λvs hg h2 s' kp=>?_) λD h' tk dr vs us e hg a1 a2 kp hge he=>?_
 ·
  obtain⟨qs,p1,e1⟩:=V5 (f:=λ(x:List NK×Addr)=>(C3 X.prog X.w x.1,Value.ref x.2)) (hpm.trans P.el) ms rfl
  refine⟨qs,p1,?_⟩
  rw[e1,Aha]
  rfl
 ·
  rintro vs ⟨qs,p1,rfl⟩
  rw[Agd,p1.length_eq]
  exact h64
 ·
  obtain⟨qs,p1,rfl⟩:=hg
  rw[Agd] at h2
  rcases hs with hs|hs
  · exact lq (A:=X.A.in1.in1) hu (by lia) kp (λx hx=>⟨hn x (p1.mem_iff.mp hx),hs x (p1.mem_iff.mp hx)⟩) λx hx y hy=>ok x (p1.mem_iff.mp hx) y (p1.mem_iff.mp hy)
  · exact g7 (A:=X.A.in1.in1) hu (by lia) kp (λx hx=>⟨hn x (p1.mem_iff.mp hx),hs x (p1.mem_iff.mp hx)⟩) λx hx y hy=>ok x (p1.mem_iff.mp hx) y (p1.mem_iff.mp hy)
 ·
  obtain⟨qs0,p0,rfl⟩:=hg
  obtain⟨qs,p1,rfl⟩:=V5 (f:=λ(x:List NK×Addr)=>Value.ref x.2) a1 qs0 rfl
  have p2:=p1.trans p0
  refine⟨.ref D,_,(I.drew dr).laid (t':=tk) (o:=.lst (qs.map λx=>V.ref x.2)) kp hge ?_,rfl,q _ qs (I.hok.fresh hge) p2 ?_⟩
  ·
   refine⟨by rw[Agd,p2.length_eq];lia,_,e,?_,he⟩
   clear a1 a2 p1 p2 he
   induction qs with
   | nil=>exact .nil
   | cons x qs ih=>exact .cons rfl ih
  ·
   rw[Ajv] at a2 ⊢
   refine a2.imp_of_mem λ{x y}hx hy z=>?_
   have z':ltL (ve X.prog X.w s.heap (.ref y.2)) (ve X.prog X.w s.heap (.ref x.2))=false:=z
   rw[Sn (hn _ (p2.mem_iff.mp hx)),Sn (hn _ (p2.mem_iff.mp hy))] at z'
   exact z'
end
end L2
namespace L2
open PySem PySem.W PyProof.Rows
section
variable {X:Cx}{pins:List (Addr×Obj)}{σ:St}{H:Hp}{s:Shared}{a:Addr}{kvs:List (Key×V)}
theorem Inv.swap {u v:HO}(I:Inv X pins σ H s)(ha:H a=some u)(ht:∀xs,u≠ .tup xs)(ho:∀x,u≠ .own x)(hb:∀ps,u≠ .tbl ps)(hf:∀o u',X.H₀ a≠some (.frz o u'))(new:ObjOk X.prog X.w (upd H a v) s.heap a v):Inv X pins σ (upd H a v) s:=by
 have na:∀b,H b=none->b≠a:=λb n z=>by rw[z,ha] at n;cases n
 have nt:∀b xs,H b=some (.tup xs)->b≠a:=λb xs n z=>by rw[z,ha] at n;exact ht xs (Agn n)
 have no:∀b x,H b=some (.own x)->b≠a:=λb x n z=>by rw[z,ha] at n;exact ho x (Agn n)
 refine⟨I.ok,I.os,I.bare,⟨I.base.keep,I.base.slot,λb o e n hx=>?_,I.base.there,λb xs e=>?_,λb o u' e=>?_,λb ps e=>?_⟩,I.loc,I.cell,?_,λx c e=>?_,λp hp=>?_,λb o e=>?_,I.len⟩
 ·
  have:=I.base.free b o e n hx
  rw[Ak (na b this)]
  exact this
 ·
  have:=I.base.tups b xs e
  rw[Ak (nt b xs this)]
  exact this
 ·
  by_cases z:b=a
  · rw[z] at e;exact absurd e (hf o u')
  · rw[Ak z];exact I.base.frzs b o u' e
 ·
  obtain⟨more,q⟩:=I.base.tbls b ps e
  refine⟨more,?_⟩
  rw[Ak (λz=>by rw[z,ha] at q;exact hb _ (Agn q))]
  exact q
 · rw[Ak (na _ I.free)];exact I.free
 · rw[Ak (na _ (I.freeC x c e))];exact I.freeC x c e
 ·
  obtain⟨p1,p2,p3⟩:=I.pin p hp
  exact⟨p1,by rw[Ak (na _ p2)];exact p2,p3⟩
 ·
  by_cases z:b=a
  ·
   subst z
   rw[Ac] at e
   have e:=Agn e
   subst e
   exact new
  ·
   rw[Ak z] at e
   exact(I.hok b o e).stay (λc w _ q=>q) (λc q=>by rw[Ak (no c b q)];exact q) λc xs q=>by rw[Ak (nt c xs q)];exact q
theorem Inv.notFrz (I:Inv X pins σ H s){u:HO}(ha:H a=some u)(hu:∀o u',u≠ .frz o u'):∀o u',X.H₀ a≠some (.frz o u'):=λo u' e=>by
 have:=I.base.frzs a o u' e
 rw[ha] at this
 exact hu o u' (Agn this)
theorem Inv.freeze {o:Obj}(I:Inv X pins σ H s)(ha:H a=some (.dK kvs))(ho:s.heap.get? a=some o):Inv X pins σ (upd H a (.frz o (.dK kvs))) s:=
 I.swap ha (λ_ z=>nomatch z) (λ_ z=>nomatch z) (λ_ z=>nomatch z) (I.notFrz ha λ_ _ z=>nomatch z) ⟨ho,I.hok a _ ha⟩
theorem Inv.thaw {o:Obj}(I:Inv X pins σ H s)(ha:H a=some (.frz o (.dK kvs)))(hf:∀o u',X.H₀ a≠some (.frz o u')):Inv X pins σ (upd H a (.dK kvs)) s:=
 I.swap ha (λ_ z=>nomatch z) (λ_ z=>nomatch z) (λ_ z=>nomatch z) hf (I.hok a _ ha).2
end
def Itd (a:Addr)(o:Obj):It:=
 ⟨λi H=>∃kvs k,H a=some (.frz o (.dK kvs))/\kvs[i]?=some k,λi H x H'=>H'=H/\∀kvs,H a=some (.frz o (.dK kvs))->∃k,kvs[i]?=some k/\x=kV k.1,λi H=>∃kvs,H a=some (.frz o (.dK kvs))/\kvs.length<=i⟩
theorem yd {H:Hp}{a:Addr}{o:Obj}{kvs:List (Key×V)}(h:H a=some (.frz o (.dK kvs))):Seq (Itd a o) H (kvs.map λkv=>kV kv.1):=λH' s=>by
 have h':=s _ _ h
 refine⟨λi x e=>?_,⟨kvs,h',by rw[Agd];exact Agi _⟩⟩
 rw[Agz] at e
 obtain⟨kv,e1,e2⟩:=Ahc.mp e
 refine⟨⟨kvs,kv,h',e1⟩,λx' H2 hy=>?_⟩
 obtain⟨e3,e4⟩:=hy
 obtain⟨k,e5,e6⟩:=e4 kvs h'
 rw[e1] at e5
 have e5:=Agn e5
 subst e5
 exact⟨e6.trans e2,e3⟩
theorem Aan {P:Program}{w:World}{k:Key}{u:Value}(h:(A4 P w).is k u=true):RelV (kV k) u:=by
 cases k with
 | inl i=>obtain⟨t,rfl⟩:=Ahz (k:=i) (v:=u) h;exact⟨t,rfl⟩
 | inr z=>obtain⟨t,rfl⟩:=Ahs (x:=z) (v:=u) h;exact⟨t,rfl⟩
theorem ug {P:Program}{w:World}{K:W.Frag}{tg:Expr}(a it:Addr)(o:Obj)(es:Array DictEntry)(ep n:Nat)(hd:o.data=.dict es ep)(hn:es.size=n):Turn P w K tg (Itd a o) [it] it (λi h=>h.IsKeyIter it a i n ep) where
 mem:=by simp
 obj:=λi h st b hb=>by
  have e:b=it:=by simpa using hb
  subst e
  obtain⟨o,e,c,d⟩:=st
  exact⟨o,e,λv z=>by rw[d] at z;cases z⟩
 keep:=λi h h' st k=>st.at λo e=>k it (by simp) o e
 item:=by
  intro X hP hw hK hc i pins s σ H E I hf st hg
  subst hP hw hK
  obtain⟨kvs,kv,hq,hx⟩:=hg
  obtain⟨ho,_,lo,vs,rel,o',es',ep',h1,h2,h3,h4,h5,h6⟩:=(show ObjOk X.prog X.w H s.heap a (.frz o (.dK kvs)) from I.hok a _ hq)
  have e1:o'=o:=Agn (h1.symm.trans ho)
  subst e1
  rw[hd] at h3
  injection h3 with e2 e3
  subst e2;subst e3
  have hl:vs.length=n:=by rw[←hn,←Agg,←h5.length]
  have dd:s.heap.DictAt (A4 X.prog X.w) a vs ep:=⟨_,_,ho,h2,hd,h4,h5,h6⟩
  obtain⟨⟨k,v⟩,hv⟩:∃kv',vs[i]?=some kv':=by
   have:=rel.length
   have hi:=(Agl.mp hx).1
   exact⟨_,Ag0 (by lia)⟩
  have ek:kv.1=k:=by
   have:=Ahb (λl=>l[i]?) rel.keys
   simp only[Agz,hx,hv] at this
   exact Agn this
  obtain⟨f0,f1,f2,f3,f4,f5⟩:=hf it (by simp)
  subst hl
  refine wpAny_pyNext_dict_item st dd hv λkey h' hkey st' sb=>?_
  have I1:Inv X pins σ H {s with heap:=h'}:=I.turned (t':=s.toks) (λb o hb e=>(sb.2 b hb).trans e) f0 f1 f3 f4 f5
  obtain⟨oi,e,c,d⟩:=id st'
  refine⟨key,rfl,p6 (s:={s with heap:=h'}) e c d (by decide) ⟨kV k,H,I1,Aan hkey,⟨rfl,λys hy=>?_⟩,st',λb hb=>(hf b hb).1⟩⟩
  rw[hq] at hy
  cases hy
  exact⟨kv,hx,by rw[ek]⟩
 done:=by
  intro X hP hw hK hc i pins s σ H E I hf st hg
  subst hP hw hK
  obtain⟨kvs,hq,hx⟩:=hg
  obtain⟨ho,_,lo,vs,rel,o',es',ep',h1,h2,h3,h4,h5,h6⟩:=(show ObjOk X.prog X.w H s.heap a (.frz o (.dK kvs)) from I.hok a _ hq)
  have e1:o'=o:=Agn (h1.symm.trans ho)
  subst e1
  rw[hd] at h3
  injection h3 with e2 e3
  subst e2;subst e3
  have hl:vs.length=n:=by rw[←hn,←Agg,←h5.length]
  have dd:s.heap.DictAt (A4 X.prog X.w) a vs ep:=⟨_,_,ho,h2,hd,h4,h5,h6⟩
  obtain⟨f0,f1,f2,f3,f4,f5⟩:=hf it (by simp)
  subst hl
  exact wpAny_pyNext_dict_end (I.ok.hd hc) st dd (Aj2 (by have:=rel.length;lia)) λh' eb=>⟨rfl,I.turned (t':=s.toks) (λb o hb e=>eb b o hb e) f0 f1 f3 f4 f5⟩
 self:=λ_ _ _ _ _ st h=>wpAny_pyIter_keyiter st h
def Ad1 (tl:TE):TI:=λσ H R=>tl σ H λx H1=>∃a kvs,x=.ref a/\H1 a=some (.dK kvs)/\∀o,R (Itd a o) (upd H1 a (.frz o (.dK kvs)))
section
variable {X:Cx}{tg:Expr}
theorem Abb {l:Expr}{tl:TE}(hl:PE X l tl):PI X tg l (Ad1 tl):=by
 intro pins s σ H R I h
 refine thn (hl pins s σ H _ I h) λv s1 hz=>?_
 obtain⟨x,H1,I1,r1,q1⟩:=hz
 obtain⟨a,kvs,e,hq,q⟩:=q1
 subst e
 cases r1
 obtain⟨_,lo,vs,rel,o,es,ep,h1,h2,h3,h4,h5,h6⟩:=o4 I1.hok hq
 have dd:s1.heap.DictAt (A4 X.prog X.w) a vs ep:=⟨_,_,h1,h2,h3,h4,h5,h6⟩
 have I2:=I1.freeze hq h1
 refine wpAny_pyIter_dict lo dd ?_
 refine⟨s1.heap.objs.size,[s1.heap.objs.size],_,_,_,rfl,I2.kept (t':=s1.toks) λb o e=>Agc _ e,ug a _ o es ep vs.length h3 (by rw[←Agg,←h5.length]),⟨_,Ago _ rfl,rfl,rfl⟩,λb hb=>?_,q o⟩
 have e:b=s1.heap.objs.size:=by simpa using hb
 subst e
 exact I2.fpOk (Agi _) (I2.hok.fresh (Agi _))
def Adv (t:TS):TS:=λD σ H=>∃(a:Addr)(kvs:List (Key×V)),H a=some (.dK kvs)/\
 t ⟨λσ' H'=>∃o,H' a=some (.frz o (.dK kvs))/\D.nx σ' (upd H' a (.dK kvs)),λσ' v H'=>∃o,H' a=some (.frz o (.dK kvs))/\D.rt σ' v (upd H' a (.dK kvs)),λ_ _=>False,λ_ _=>False⟩ σ H
theorem zp {st:Stmt}{t:TS}(h:PS X st t):PS X st (Adv t):=by
 intro pins s σ H D I hq
 obtain⟨a,kvs,ha,q⟩:=hq
 have hf:=I.notFrz ha λ_ _ z=>nomatch z
 refine thn (h pins s σ H _ I q) λf s' hz=>?_
 cases f with
 | next=>obtain⟨σ',H',I',o,e,q'⟩:=hz;exact⟨σ',_,I'.thaw e hf,q'⟩
 | ret u=>obtain⟨v,σ',H',I',r,o,e,q'⟩:=hz;exact⟨v,σ',_,I'.thaw e hf,r,q'⟩
 | brk=>obtain⟨_,_,_,z⟩:=hz;exact z.elim
 | cont=>obtain⟨_,_,_,z⟩:=hz;exact z.elim
end
end L2
namespace L2
open PySem PySem.W PyProof.Rows PySem.SeqAt DX
def Adw:KeyOrd where
 α:=Str
 blt:=ltS
 irrefl:=Td.irr
 trans:=Td.tr
 negTrans:=λa b c h=>Td.neg h
 total:=Td.tot
theorem Xm {prog:Program}{w:World}{A:Around}{s:Shared}{vs:List Value}{ns:List Str}(h2:2<=vs.length)(hi:StrsAre vs ns):SortsV prog w A s oneType' (O:=Adw) strOf vs where
 kind:=λE Q h=>by
  cases vs with
  | nil=>simp at h2
  |
   cons v₁ vs=>
   cases vs with
   | nil=>simp at h2
   | cons v₂ vs=>rw[keyKind_strs hi];exact Agb h
 cmp:=by
  intro x hx y hy C hC
  obtain⟨i,t,rfl⟩:=hi.all x hx
  obtain⟨j,u,rfl⟩:=hi.all y hy
  rw[keyLt'_oneType]
  exact oneLt_str hC
theorem di {us vs:List Value}{ns:List Str}(hi:StrsAre vs ns)(h:us.Perm vs):StrsAre us (us.map strOf)/\(us.map strOf).Perm ns:=by
 refine⟨strsAre_map us λv hv=>hi.all v (h.mem_iff.mp hv),?_⟩
 have:=h.map strOf
 rw[hi.strs] at this
 exact this
theorem Wt {prog:Program}{w:World}:∀{kvs:List (Key×Value)}{ns:List Str}{vs:List Value},kvs.map (·.1)=ns.map Sum.inr->vs.length=kvs.length->(∀(j:Nat)v,vs[j]?=some v->∃k x,kvs[j]?=some (k,x)/\(A4 prog w).is k v=true)->StrsAre vs ns
 |
  [],ns,[],e,_,_=>by
  cases ns with
  | nil=>exact .nil
  | cons _ _=>cases e
 | [],ns,_::_,_,hl,_=>by simp at hl
 | _::_,ns,[],_,hl,_=>by simp at hl
 |
  (k,x)::kvs,ns,v::vs,e,hl,h=>by
  cases ns with
  | nil=>cases e
  |
   cons n ns=>
   injection e with e1 e2
   obtain⟨k',x',g,i⟩:=h 0 v rfl
   have g':some (k,x)=some (k',x'):=g
   cases g'
   have e1':k=Sum.inr n:=e1
   subst e1'
   obtain⟨t,rfl⟩:=Ahs (x:=n) (v:=v) i
   exact .cons n t (Wt e2 (by simpa using hl) λj v' hv=>h (j+1) v' hv)
theorem j7 {α:Type}{R:α->α->Prop}(anti:∀a b,R a b->R b a->a=b):∀{xs ys:List α},xs.Perm ys->xs.Pairwise R->ys.Pairwise R->xs=ys:=λ{xs ys}h h1 h2=>h.eq_of_pairwise (λa b _ _=>anti a b) h1 h2
theorem jv {xs ys:List Str}(h:xs.Perm ys)(h1:xs.Pairwise λx y=>ltS y x=false)(h2:ys.Pairwise λx y=>ltS y x=false):xs=ys:=j7 (λa b x y=>Td.tot _ _ y x) h h1 h2
section
variable {X:Cx}
theorem Y7:Jp X (.builtin "sorted") (λxs H Q=>∃(p:Addr)(ts:List Str),xs=[.ref p]/\H p=some (.lst (ts.map V.str))/\ts.length<64/\
  ∀(D:Addr)(ms:List Str),H D=none->ms.Perm ts->(ms.Pairwise λx y=>ltS y x=false)->Q (.ref D) (upd H D (.lst (ms.map V.str)))):=by
 intro pins s σ H xs us Q I r h
 obtain⟨p,ts,rfl,hp,h64,q⟩:=h
 obtain⟨u,rfl,ru⟩:=vals1 r
 cases ru
 obtain⟨its,rv,pl,hz⟩:=I.list (SqL.of (K:=X.K) hp)
 have hi:=c7 rv
 have hl:=rv.length
 rw[Agd] at hl
 refine Qw (G:=λvs=>vs=its) (O:=Adw) (key:=strOf) (κ:=oneType')
  (λE' Q' hq=>collect_list pl.isList (hq _ s.toks _ (λb o q=>by rw[Heap.get?_update_ne _ _ _ _ (Agv (Agk q)),Heap.get?_push_ne _ _ _ (Agv (Agk q))];exact q) (by rw[Heap.size_update,size_push'];exact Aju _) rfl) (by rw[Ahr];lia)) ?_ (λvs e h2 s' kp=>?_) λD h' tk vs us e hg a1 a2 kp hge he=>?_
 ·
  rintro vs rfl
  lia
 ·
  subst e
  exact Xm h2 hi
 ·
  subst hg
  obtain⟨j1,j2⟩:=di hi a1
  refine⟨.ref D,_,I.laid (t':=tk) (o:=.lst ((us.map strOf).map V.str)) kp hge ?_,rfl,q _ _ (I.hok.fresh hge) j2 ?_⟩
  · exact⟨by rw[Agd,j2.length_eq,Ahr];lia,us,e,Sb j1,he⟩
  ·
   rw[Ajv]
   exact a2
theorem Zp (hc:X.calm=true):Jp X (.builtin "sorted") (λxs H Q=>∃(p:Addr)(kvs:List (Key×V))(ns:List Str),xs=[.ref p]/\H p=some (.dK kvs)/\kvs.map (·.1)=ns.map Sum.inr/\ns.length<64/\
  ∀(D:Addr)(ms:List Str),H D=none->ms.Perm ns->(ms.Pairwise λx y=>ltS y x=false)->Q (.ref D) (upd H D (.lst (ms.map V.str)))):=by
 intro pins s σ H xs us Q I r h
 obtain⟨p,kvs,ns,rfl,hp,hk,h64,q⟩:=h
 obtain⟨u,rfl,ru⟩:=vals1 r
 cases ru
 obtain⟨hz,lo,vs,kv,hd⟩:=o4 I.hok hp
 obtain⟨ep,hd⟩:=hd.dictAt
 have hlen:kvs.length=vs.length:=kv.length
 have hkey:vs.map (·.1)=ns.map Sum.inr:=by rw[←hk];exact kv.keys.symm
 have l2:=Ahb List.length hkey
 rw[Agd,Agd] at l2
 refine Qw (G:=λus=>StrsAre us ns) (O:=Adw) (key:=strOf) (κ:=oneType') (λE' Q' hq=>V1 (kdl_dict (ep:=ep) lo) (I.ok.hd hc) hd (by lia) λh' tk acc kp hge ia=>hq h' tk _ kp hge ?_) ?_ (λus hi h2 s' _=>Xm h2 hi) λD h' tk vs' us e hg a1 a2 kp hge he=>?_
 · exact Wt hkey (by rw[Agg];exact ia.1) λj v hv=>ia.2 j v (by rw[←Agt];exact hv)
 ·
  intro us hi
  have:=Ahb List.length hi.strs
  rw[Agd] at this
  lia
 obtain⟨j1,j2⟩:=di hg a1
 refine⟨.ref D,_,I.laid (t':=tk) (o:=.lst ((us.map strOf).map V.str)) kp hge ?_,rfl,q _ _ (I.hok.fresh hge) j2 ?_⟩
 · exact⟨by rw[Agd,j2.length_eq,Ahr];lia,us,e,Sb j1,he⟩
 ·
  rw[Ajv]
  exact a2
theorem gx (hc:X.calm=true):Jp X (.type "list") (λxs H Q=>∃(p:Addr)(kvs:List (Key×V))(ns:List Str),xs=[.ref p]/\H p=some (.dK kvs)/\kvs.map (·.1)=ns.map Sum.inr/\
  ∀(D:Addr),H D=none->Q (.ref D) (upd H D (.lst (ns.map V.str)))):=by
 intro pins s σ H xs us Q I r h
 obtain⟨p,kvs,ns,rfl,hp,hk,q⟩:=h
 obtain⟨u,rfl,ru⟩:=vals1 r
 cases ru
 obtain⟨hz,lo,vs,kv,hd⟩:=o4 I.hok hp
 obtain⟨ep,hd⟩:=hd.dictAt
 have hlen:kvs.length=vs.length:=kv.length
 have hkey:vs.map (·.1)=ns.map Sum.inr:=by rw[←hk];exact kv.keys.symm
 have l2:=Ahb List.length hkey
 rw[Agd,Agd] at l2
 refine kdl_call (kdl_dict (ep:=ep) lo) (I.ok.hd hc) hd (by lia) λh' tk acc c kp hD ia=>?_
 have j1:StrsAre acc.toList ns:=Wt hkey (by rw[Agg];exact ia.1) λj v hv=>ia.2 j v (by rw[←Agt];exact hv)
 refine⟨.ref s.heap.objs.size,_,I.laid (t':=tk) (o:=.lst (ns.map V.str)) kp (Agi _) ?_,rfl,q _ (I.hok.fresh (Agi _))⟩
 exact⟨by rw[Agd];lia,acc.toList,c,Sb j1,by rw[Alf];exact hD⟩
end
def LsAt (H:Hp)(l:Addr)(ks:List NK):Prop:=∃vs,H l=some (.lst vs)/\NkVs H ks vs
theorem LsAt.upT {H H':Hp}{l:Addr}{ks:List NK}(h:LsAt H l ks)(hl:∀xs,H l=some (.lst xs)->H' l=some (.lst xs))(ht:∀b xs,H b=some (.tup xs)->H' b=some (.tup xs)):LsAt H' l ks:=by
 obtain⟨vs,h1,h2⟩:=h
 exact⟨vs,hl _ h1,h2.up ht⟩
theorem LsAt.up {H H':Hp}{l:Addr}{ks:List NK}(h:LsAt H l ks)(s:Same H H'):LsAt H' l ks:=h.upT (λ_ e=>s _ _ e) λ_ _ e=>s _ _ e
theorem Vx {H:Hp}:∀(ts:List Str),NkVs H (ts.map λt=>.inl (.inr t)) (ts.map V.str)
 | []=>.nil
 | _::ts=>.cons rfl (Vx ts)
theorem qu {H:Hp}:∀{ms:List (List Key×Addr)},(∀x∈ms,H x.2=some (.tup (x.1.map kV)))->NkVs H (ms.map λx=>.inr x.1) (ms.map λx=>V.ref x.2)
 | [],_=>.nil
 | x::ms,h=>.cons ⟨x.2,rfl,h x Agj⟩ (qu λy hy=>h y (Agh _ hy))
section
variable {X:Cx}
theorem Aas (hu:X.A.units+2<cLine):OpR X (compareOp .NotEq) (λx y H Q=>∃(p q:Addr)(ks:List NK),x=.ref p/\y=.ref q/\LsAt H p ks/\LsAt H q ks/\Q (.bl false) H):=by
 intro pins s σ H x y v u Q I rx ry h
 obtain⟨p,q0,ks,rfl,rfl,⟨vs,hp,n1⟩,⟨vs',hq,n2⟩,q⟩:=h
 cases rx
 cases ry
 obtain⟨its,rv,pl,hz⟩:=I.list (SqL.of (K:=X.K) hp)
 obtain⟨its2,rv2,pl2,hz2⟩:=I.list (SqL.of (K:=X.K) hq)
 have i1:=Rc I.hok n1 rv
 have i2:=Rc I.hok n2 rv2
 have l1:=i1.length
 have l2:=i2.length
 refine RcNeAt.lists (e:=λ_=>true) pl.isList pl2.isList (by simp;lia) (by lia) (λj h1 h2=>?_) X.prog X.w X.xe _ ?_
 ·
  obtain⟨k,e1,m1⟩:=i1.get j (by simpa using h1)
  obtain⟨k',e2,m2⟩:=i2.get j (by simpa using h2)
  rw[e1] at e2
  have e2:=Agn e2
  subst e2
  have:=pz (A:=X.A.in1) (s:=s) (by show X.A.units+1<cLine;lia) m1 m2
  rw[Age rfl] at this
  simpa using this
 ·
  have es:(List.range its.toArray.size).all (λ_=>true)=true:=by rw[List.all_eq_true];intros;rfl
  rw[es]
  exact⟨.bl _,H,I,rfl,q⟩
end
section
variable {X:Cx}
theorem Aby {pins:List (Addr×Obj)}{σ:St}{H:Hp}{s:Shared}{A:Around}{l b:Addr}{ks:List NK}(I:Inv X pins σ H s)(hu:A.units+2<cLine)(h1:LsAt H l ks)(h2:LsAt H b ks):EqAt A s (.ref l) (.ref b) true:=by
 by_cases e:l=b
 · subst e;exact EqAt.same _
 obtain⟨vs,hp,n1⟩:=h1
 obtain⟨vs',hq,n2⟩:=h2
 obtain⟨its,rv,pl,hz⟩:=I.list (SqL.of (K:=X.K) hp)
 obtain⟨its2,rv2,pl2,hz2⟩:=I.list (SqL.of (K:=X.K) hq)
 have i1:=Rc I.hok n1 rv
 have i2:=Rc I.hok n2 rv2
 have l1:=i1.length
 have l2:=i2.length
 have:=RcAt.lists (A:=A) (s:=s) (e:=λ_=>true) pl.isList pl2.isList (by simp;lia) (by lia) (λj h1 h2=>by
  obtain⟨k,e1,m1⟩:=i1.get j (by simpa using h1)
  obtain⟨k',e2,m2⟩:=i2.get j (by simpa using h2)
  rw[e1] at e2
  have e2:=Agn e2
  subst e2
  have:=pz (A:=A.in1) (s:=s) (by show A.units+1<cLine;lia) m1 m2
  rw[Age rfl] at this
  simpa using this)
 have es:(List.range its.toArray.size).all (λ_=>true)=true:=by rw[List.all_eq_true];intros;rfl
 rw[es] at this
 exact EqAt.of_refs e this
theorem Aao (hu:X.A.units+4<cLine):OpR X (compareOp .NotEq) (λx y H Q=>∃(p q a1 a2 b1 b2:Addr)(k1 k2:List NK),x=.ref p/\y=.ref q/\H p=some (.lst [.ref a1,.ref a2])/\H q=some (.lst [.ref b1,.ref b2])/\LsAt H a1 k1/\LsAt H b1 k1/\LsAt H a2 k2/\LsAt H b2 k2/\Q (.bl false) H):=by
 intro pins s σ H x y v u Q I rx ry h
 obtain⟨p,q0,a1,a2,b1,b2,k1,k2,rfl,rfl,hp,hq,ha1,hb1,ha2,hb2,q⟩:=h
 cases rx
 cases ry
 obtain⟨its,rv,pl,hz⟩:=I.list (SqL.of (K:=X.K) hp)
 obtain⟨its2,rv2,pl2,hz2⟩:=I.list (SqL.of (K:=X.K) hq)
 obtain⟨u1,u2,rfl,r1,r2⟩:=rv.two
 cases r1
 cases r2
 obtain⟨u1,u2,rfl,r1,r2⟩:=rv2.two
 cases r1
 cases r2
 refine RcNeAt.lists (e:=λ_=>true) pl.isList pl2.isList rfl (by lia) (λj h1 h2=>?_) X.prog X.w X.xe _ ?_
 ·
  have hj:j<2:=by simpa using h1
  rcases(show j=0∨j=1 by lia) with rfl|rfl
  · exact Aby I (by show X.A.units+1+2<cLine;lia) ha1 hb1
  · exact Aby I (by show X.A.units+1+2<cLine;lia) ha2 hb2
 · exact⟨.bl _,H,I,rfl,q⟩
end
end L2
namespace L2
open PySem PySem.Spec PyProof.Rows
theorem Al4 {α β:Type}{F:α->β->Prop}:∀{l:List α}{m:List β},Paired F l m->∀{x:α}{y:β},F x y->Paired F (l++[x]) (m++[y])
 | _,_,.nil,_,_,h=>.cons h .nil
 | _,_,.cons r t,_,_,h=>.cons r (Al4 t h)
theorem wy {J:It}{cap:List (Option Nat)}{tt:TT}{te:TE}{σ:St}{H1:Hp}{Q:VK}{xs:List V}(hJ:Seq J H1 xs)(p:V->Bool)(Rl:Hp->V->V->Prop)(hup:∀H H' x y,(∀b ys,H b=some (.tup ys)->H' b=some (.tup ys))->Rl H x y->Rl H' x y)(hsz:xs.length<=100000)
  (hp:∀x∈xs,∀H',Same H1 H'->∀R:Bool->Hp->Prop,(∀H'',Same H' H''->R (p x) H'')->tt ((Uk cap σ).set 0 (some x)) H' R)
  (he:∀x∈xs,p x=true->∀H',Same H1 H'->∀R:VK,(∀y H'',Same H' H''->Rl H'' x y->R y H'')->te ((Uk cap σ).set 0 (some x)) H' R)
  (k:∀D H' ys,Same H1 H'->H1 D=none->H' D=some (.lst ys)->Paired (Rl H') (xs.filter p) ys->Q (.ref D) H'):
  Ro J H1 cap (dq 0) tt te σ Q:=by
 intro D hD
 refine⟨λi m ys σ' H'=>m=xs.length-i/\i<=xs.length/\(∀v,σ'.set 0 v=(Uk cap σ).set 0 v)/\H' D=some (.lst ys)/\Same H1 H'/\Paired (Rl H') ((xs.take i).filter p) ys,
  ⟨xs.length,by simp,Ahn _,λ_=>rfl,Ac,Ah hD,by rw[List.take_zero];exact .nil⟩,?_⟩
 rintro i m ys σ' H' ⟨rfl,hi,hσ,hl,sm,hG⟩
 refine⟨hl,?_⟩
 obtain⟨q1,q2⟩:=hJ H' sm
 have hle:ys.length<=i:=by
  rw[←Ald hG]
  exact Ag1 (Ah2 _ _) (by rw[Ahk];lia)
 by_cases hlt:i<xs.length
 ·
  have e:xs[i]?=some xs[i]:=by simp[hlt]
  obtain⟨go,y⟩:=q1 i _ e
  refine .inr ⟨go,λx H2 hy=>?_⟩
  obtain⟨rfl,rfl⟩:=y x H2 hy
  have hm:xs[i]∈xs:=Aia hlt
  have hss:∀v,((Uk cap σ).set 0 (some xs[i])).set 0 v=(Uk cap σ).set 0 v:=λv=>by rw[Al3]
  have et:xs.take (i+1)=xs.take i++[xs[i]]:=by rw[Akr,e];rfl
  show tt (σ'.set 0 (some xs[i])) _ _
  rw[hσ]
  refine hp _ hm _ sm _ λH3 s3=>?_
  cases hb:p xs[i] with
  |
   true=>
   refine Nw ?_
   refine he _ hm hb _ (sm.trans s3) _ λy H4 s4 hy=>?_
   have hl4:=s4 _ _ (s3 _ _ hl)
   have tp:∀b zs,H4 b=some (.tup zs)->(upd H4 D (.lst (ys++[y]))) b=some (.tup zs):=λb zs eb=>by rw[Ak (xm eb hl4 (λz=>nomatch z))];exact eb
   refine⟨hl4,Ag2 (by lia:ys.length<=100000) (by decide),xs.length-(i+1),by lia,rfl,hlt,hss,Ac,λc o ec=>?_,?_⟩
   ·
    rw[Ak (Au ec hD)]
    exact s4 _ _ (s3 _ _ (sm _ _ ec))
   ·
    rw[et,Ai1,Aje,if_pos hb]
    exact Al4 (Paired.mapP hG λa b h=>hup _ _ a b (λc zs ec=>tp _ _ (s4 _ _ (s3 _ _ ec))) h) (hup _ _ _ _ tp hy)
  |
   false=>
   refine M0 ?_
   refine⟨xs.length-(i+1),by lia,rfl,hlt,hss,s3 _ _ hl,sm.trans s3,?_⟩
   rw[et,Ai1,Aje,if_neg (by rw[hb];exact Ags),List.filter_nil,Ahh]
   exact Paired.mapP hG λa b h=>hup _ _ a b (λc zs ec=>s3 _ _ ec) h
 ·
  have e:i=xs.length:=by lia
  subst e
  rw[Aim] at hG
  exact .inl ⟨q2,k D _ ys sm hD hl hG⟩
def TupsAt (H:Hp)(l:Addr)(qs:List (List Key×Addr)):Prop:=H l=some (.lst (qs.map λx=>V.ref x.2))/\∀x∈qs,H x.2=some (.tup (x.1.map kV))
theorem TupsAt.up {H H':Hp}{l:Addr}{qs:List (List Key×Addr)}(h:TupsAt H l qs)(s:Same H H'):TupsAt H' l qs:=⟨s _ _ h.1,λx hx=>s _ _ (h.2 x hx)⟩
theorem TupsAt.ls {H:Hp}{l:Addr}{qs:List (List Key×Addr)}(h:TupsAt H l qs):LsAt H l (qs.map λx=>.inr x.1):=⟨_,h.1,qu h.2⟩
theorem TupsAt.one {H:Hp}{l:Addr}{qs:List (List Key×Addr)}(h:TupsAt H l qs):∀x∈qs,∀y∈qs,V.ref x.2=V.ref y.2->x.1=y.1:=λx hx y hy e=>by
 injection e with e
 have h1:=h.2 x hx
 have h2:=h.2 y hy
 rw[e,h2] at h1
 injection h1 with h1
 injection h1 with h1
 exact(rq h1).symm
section
variable {α:Type}{us:List α}
noncomputable def onV (us:List α)(val:α->V)(p:α->Bool)(v:V):Bool:=@decide (∃x∈us,val x=v/\p x=true) (Classical.propDecidable _)
theorem qd {val:α->V}{p:α->Bool}(hv:∀x∈us,∀y∈us,val x=val y->p x=p y){x:α}(hx:x∈us):onV us val p (val x)=p x:=by
 unfold onV
 cases h:p x with
 | true=>exact @Age _ (Classical.propDecidable _) ⟨x,hx,rfl,h⟩
 |
  false=>
  refine @Agp _ (Classical.propDecidable _) ?_
  rintro⟨y,hy,e,q⟩
  rw[hv y hy x hx e,h] at q
  cases q
theorem m8 {val:α->V}{p:α->Bool}(hv:∀x∈us,∀y∈us,val x=val y->p x=p y):(us.map val).filter (onV us val p)=(us.filter p).map val:=by
 rw[Akd]
 congr 1
 exact List.filter_congr λx hx=>qd hv hx
theorem Vo {H:Hp}{val:α->V}{F:α->List Key}(hv:∀x∈us,∀y∈us,val x=val y->F x=F y):∀{ws:List α}{ys:List V},(∀x∈ws,x∈us)->Paired (λv y=>∃x∈us,val x=v/\∃q,y=.ref q/\H q=some (.tup ((F x).map kV))) (ws.map val) ys->
  ∃rs:List (List Key×Addr),ys=rs.map (λx=>V.ref x.2)/\(∀x∈rs,H x.2=some (.tup (x.1.map kV)))/\rs.map (·.1)=ws.map F
 | [],_,_,.nil=>⟨[],rfl,(λ_ z=>nomatch z),rfl⟩
 |
  w::ws,_,hw,.cons r t=>by
  obtain⟨rs,e1,h1,e2⟩:=Vo hv (λx hx=>hw x (Agh _ hx)) t
  obtain⟨x,hx,ex,q,rfl,hq⟩:=r
  have eF:=hv x hx w (hw w Agj) ex
  refine⟨(F w,q)::rs,by rw[Agy,e1],λy hy=>?_,by rw[Agy,Agy,e2]⟩
  rcases Agx.mp hy with rfl|hy
  · rw[←eF];exact hq
  · exact h1 y hy
theorem iy {J:It}{cap:List (Option Nat)}{tt:TT}{te:TE}{σ:St}{H1:Hp}{Q:VK}(val:α->V)(p:α->Bool)(F:α->List Key)(hJ:Seq J H1 (us.map val))(hv:∀x∈us,∀y∈us,val x=val y->p x=p y/\F x=F y)(hsz:us.length<=100000)
  (hp:∀x∈us,∀H',Same H1 H'->∀R:Bool->Hp->Prop,(∀H'',Same H' H''->R (p x) H'')->tt ((Uk cap σ).set 0 (some (val x))) H' R)
  (he:∀x∈us,p x=true->∀H',Same H1 H'->∀R:VK,(∀q H'',Same H' H''->H'' q=some (.tup ((F x).map kV))->R (.ref q) H'')->te ((Uk cap σ).set 0 (some (val x))) H' R)
  (k:∀D H'(rs:List (List Key×Addr)),Same H1 H'->H1 D=none->TupsAt H' D rs->rs.map (·.1)=(us.filter p).map F->Q (.ref D) H'):Ro J H1 cap (dq 0) tt te σ Q:=by
 have hv1:∀x∈us,∀y∈us,val x=val y->p x=p y:=λx hx y hy e=>(hv x hx y hy e).1
 refine wy hJ (onV us val p) (λH v y=>∃x∈us,val x=v/\∃q,y=.ref q/\H q=some (.tup ((F x).map kV))) (λH H' v y ht h=>?_) (by rw[Agd];exact hsz) (λv hx H' sm R hR=>?_) (λv hx hpv H' sm R hR=>?_) (λD H' ys sm hD hl hP=>?_)
 ·
  obtain⟨x,hx,e,q,ey,hq⟩:=h
  exact⟨x,hx,e,q,ey,ht _ _ hq⟩
 ·
  obtain⟨x,hx',rfl⟩:=Ag7.mp hx
  refine hp x hx' H' sm R λH'' s''=>?_
  have:=hR H'' s''
  rw[qd hv1 hx'] at this
  exact this
 ·
  obtain⟨x,hx',rfl⟩:=Ag7.mp hx
  rw[qd hv1 hx'] at hpv
  exact he x hx' hpv H' sm R λq H'' s'' hq=>hR _ H'' s'' ⟨x,hx',rfl,q,rfl,hq⟩
 ·
  rw[m8 hv1] at hP
  obtain⟨rs,e1,h1,e2⟩:=Vo (λx hx y hy e=>(hv x hx y hy e).2) (λx hx=>(Ajm.mp hx).1) hP
  subst e1
  exact k D H' rs sm hD ⟨hl,h1⟩ e2
end
section
variable {X:Cx}
end
section
variable {X:Cx}
def Adu (r:Addr)(i j c:Int):HO:=.ext λh=>∃t u v,h.get? r=some {cls:=.type "range",data:=.fields #[.int i t,.int j u,.int c v]}
def ot (lo c:Int)(n:Nat):List V:=(List.range n).map λ(i:Nat)=>V.int (lo+(i:Int)*c)
end
theorem p4 {a b c:Int}(h1: -(2 ^ 50)<=a)(h2:a<2 ^ 50)(h3: -(2 ^ 50)<=b)(h4:b<2 ^ 50)(h5:0<c)(h6:c<1000000):Builtin.Range.small a b c=true:=by
 have hd:a<b->0<=(b-a-1)/c/\(b-a-1)/c<=b-a-1:=λh=>⟨Int.ediv_nonneg (by lia) (by lia),Int.ediv_le_self _ (by lia)⟩
 have hm:a<b->(b-a-1)/c*c<=b-a-1:=λh=>Int.ediv_mul_le _ (by lia)
 unfold Builtin.Range.small Builtin.Range.rangeSize
 simp only[Builtin.Range.rangeFitsLong,Ag6,Bool.or_eq_true,Ajt,beq_iff_eq,show c>0 from h5,Alh]
 split
 ·
  rename_i hab
  have:=hd hab
  have:=hm hab
  generalize (b-a-1)/c=q at*
  first|lia|(refine⟨⟨⟨by lia,by lia⟩,by lia⟩,?_⟩;lia)|skip
 · first|lia|skip
section
variable {X:Cx}
theorem cu:Jp X (.type "range") (λxs H Q=>∃i j c:Int,xs=[.int i,.int j,.int c]/\0<c/\c<1000000/\(-(2 ^ 50)<=i/\i<2 ^ 50/\ -(2 ^ 50)<=j/\j<2 ^ 50)/\∀r,H r=none->Q (.ref r) (upd H r (Adu r i j c))):=by
 intro pins s σ H xs us Q I r h
 obtain⟨i,j,c,rfl,c0,c1,⟨q1,q2,q3,q4⟩,q⟩:=h
 cases r with
 |
  cons r rr=>
  cases rr with
  |
   cons r' rr=>
   cases rr with
   |
    cons r'' rr=>
    cases rr
    obtain⟨t,rfl⟩:=r
    obtain⟨t',rfl⟩:=r'
    obtain⟨t'',rfl⟩:=r''
    refine call_range_3 (by lia) ?_ (Or.inl (PyProof.noPylong_small (by lia)))
    refine⟨.ref s.heap.objs.size,_,I.laid (λb u e=>Agc _ e) (Agi _) (show ObjOk X.prog X.w _ _ _ (Adu s.heap.objs.size i j c) from ⟨⟨t,t',t'',Ago _ rfl⟩,⟨_,Ago _ rfl⟩,?_⟩),rfl,q _ (I.hok.fresh (Agi _))⟩
    rintro h1 h2 ⟨a,b,c',e⟩ k
    exact⟨a,b,c',k _ e⟩
theorem Wy (hc:X.calm=true):Jp X (.type "list") (λxs H Q=>∃(p:Addr)(i j c:Int)(n:Nat),xs=[.ref p]/\H p=some (Adu p i j c)/\0<c/\c<1000000/\(-(2 ^ 50)<=i/\i<2 ^ 50/\ -(2 ^ 50)<=j/\j<2 ^ 50)/\Builtin.Range.rangeSize i j c=(n:Int)/\n<=200000/\
  ∀l,H l=none->Q (.ref l) (upd H l (.lst (ot i c n)))):=by
 intro pins s σ H xs us Q I r h
 obtain⟨p,lo,hi,c,n,rfl,hp,c0,c1,⟨b1,b2,b3,b4⟩,hn,hz,q⟩:=h
 obtain⟨u,rfl,ru⟩:=r.one
 cases ru
 obtain⟨⟨t,u,v,hr⟩,_⟩:=(show ObjOk X.prog X.w H s.heap p (Adu p lo hi c) from I.hok p _ hp)
 refine call_list_range (n:=n) (I.ok.hd hc) hr (p4 b1 b2 b3 b4 c0 c1) hn (Ag1 hz (by decide)) λh' tk acc cp hk hS hI=>?_
 refine⟨.ref s.heap.objs.size,_,I.laid (t':=tk) hk (Agi _) (show ObjOk X.prog X.w _ h' _ (.lst (ot lo c n)) from ⟨?_,acc.toList,cp,?_,?_⟩),rfl,q _ (I.hok.fresh (Agi _))⟩
 ·
  unfold ot
  rw[Agd,Ahl]
  exact Ag1 hz (by decide)
 ·
  refine Vals.of_get ?_ λj x u a b=>?_
  ·
   unfold ot
   rw[Agd,Ahl,Agg,hI.1]
  ·
   have b':acc[j]?=some u:=by rw[←b,Agt]
   obtain⟨t,rfl⟩:=hI.2 j u b'
   unfold ot at a
   rw[Agz] at a
   obtain⟨i,a1,rfl⟩:=Ahc.mp a
   have:i=j:=by
    have:=Agl.mp a1
    obtain⟨z,w⟩:=this
    rw[List.getElem_range] at w
    exact w.symm
   subst this
   exact⟨t,rfl⟩
 ·
  rw[Alf]
  exact hS
end
structure IsO (K:W.Frag)(C:Addr):Prop where
 ha:W.findIn K (.ref C) "__class__"=some (some (.builtin "object.__class__"))
 hn:W.specialIn K (.builtin "object.__class__") "__get__"=some (some (.builtin "getset_descriptor.__get__"))
 htk:W.takesIn K (.builtin "object.__class__")=some true
 hm:W.mroIn K C (.type "object")=some true
theorem IsO.ty {K:W.Frag}{C:Addr}{H:Hp}{e dx:Addr}{fs:List (Str×V)}(io:IsO K C)(cl:Cls K C)(he:H e=some (.ins C dx fs)):ef K H (.ref e) (.ref C):=ef.ins he cl io.ha io.hn io.htk io.hm
theorem k6 {X:Cx}{K:W.Frag}(hK:X.K=K):Jp X (.builtin "isinstance") (λxs H Q=>∃(x:V)(t:Value)(D:Addr)(b:Bool),xs=[x,.ref D]/\ef K H x t/\W.kitOne K t (.ref D)=some b/\Q (.bl b) H):=by
 subst hK
 intro pins s σ H xs us Q I r h
 obtain⟨x,t,D,b,rfl,ty,k,q⟩:=h
 obtain⟨u,v,rfl,ru,rv⟩:=r.two
 cases rv
 exact p7 I ru ty k λtk=>⟨.bl b,H,I.tok tk,rfl,q⟩
end L2
namespace DM
def leap (y:Int):Bool:=decide (y%400=0)||(decide (y%4=0)&&!decide (y%100=0))
def year (y:Int):Int:=(y-2000)*365+(y-2000+3)/4-(y-2000+99)/100+(y-2000+399)/400
def len (y m:Int):Int:=if m=2 then(if leap y then 29 else 28) else if m=1∨m=3∨m=5∨m=7∨m=8∨m=10∨m=12 then 31 else 30
def ahead (m:Int):Int:=if m<=1 then 0 else if m=2 then 31 else if m=3 then 59 else if m=4 then 90 else if m=5 then 120 else if m=6 then 151 else if m=7 then 181 else if m=8 then 212 else if m=9 then 243 else if m=10 then 273 else if m=11 then 304 else 334
def mb (n:Int):Int:=year (2000+n/12)+ahead (n%12+1)+(if n%12+1>2/\leap (2000+n/12)=true then 1 else 0)
def near (n:Nat):Bool:=decide (mb n*4800<=(n+1)*146097)&&decide (((n:Int)-1)*146097<=mb n*4800)
set_option maxRecDepth 100000 in
def mo (d:Int):Int:=if mb (d*4800/146097)>d then d*4800/146097-1 else if mb (d*4800/146097+1)<=d then d*4800/146097+1 else d*4800/146097
end DM
namespace DT
open PySem L2
def dg (n:Nat):Nat:=48+n%10
def tt (n:Nat):Str:=⟨#[dg (n/10),dg n]⟩
def tx (y m d:Nat):Str:=⟨#[50,dg (y/100),dg (y/10),dg y,45,dg (m/10),dg m,45,dg (d/10),dg d]⟩
def pd (n:Nat):Str:=if n<10 then("0":Str) else("":Str)
end DT
namespace DK
open PySem PySem.NumText L2
def FG:List Nat:=("0123456789":Str).cps.toList
def Afl (l:List Nat):Bool:=l.all λc=>decide (c∈FG)
section
variable (a b c d s e f r g k:Nat)
end
def J:List (List Nat)->List Nat
 | []=>[]
 | [p]=>p
 | p::q::r=>p++45::J (q::r)
def Aen:List Nat->Bool
 | [a,b,c,d,s,e,f,r,g,h]=>decide (s=45)&&(decide (r=45)&&Afl [a,b,c,d,e,f,g,h])
 | _=>false
def look (t:Str):Bool:=Aen t.cps.toList
end DK
namespace DQ
open PySem PySem.NumText L2 DK
open PySem.Builtin.Str (strSliceIndices)
def both:Option Int->Option Int->Option Int
 | some d,some c=>some (d*1440+c)
 | _,_=>none
open DT (dg tt)
def ml (y m e h n:Nat):List Nat:=[50,dg (y/100),dg (y/10),dg y,45,dg (m/10),dg m,45,dg (e/10),dg e,95,dg (h/10),dg h,58,dg (n/10),dg n]
end DQ
namespace DL
def Tk (r:List (Int×Int))(m:Int):Prop:=∃p∈r,p.1<=m/\m<p.2
instance (r:List (Int×Int)) (m:Int):Decidable (Tk r m):=inferInstanceAs (Decidable (∃p∈r,p.1<=m/\m<p.2))
end DL
namespace DC
def wx (ns:List Int):Prop:=ns.Pairwise (· < ·)
def below (ns:List Int)(x:Int):Nat:=ns.countP (λa=>decide (a<x))
theorem Yw (ns:List Int)(x:Int):below ns x<=ns.length:=List.countP_le_length
theorem below_at {ns:List Int}{x:Int}{k:Nat}(hk:k<=ns.length)(h1:∀(i:Nat)a,i<k->ns[i]?=some a->a<x)(h2:∀(i:Nat)a,k<=i->ns[i]?=some a->¬a<x):below ns x=k:=by
 unfold below
 rw[←Ai3 k ns,List.countP_append]
 have e1:(ns.take k).countP (λa=>decide (a<x))=(ns.take k).length:=by
  rw[List.countP_eq_length]
  intro a ha
  obtain⟨i,hi⟩:=Ahw ha
  have hik:i<k:=by
   obtain⟨z,_⟩:=Agl.mp hi
   rw[Ahk] at z
   lia
  rw[List.getElem?_take_of_lt hik] at hi
  exact Age (h1 i a hik hi)
 have e2:(ns.drop k).countP (λa=>decide (a<x))=0:=by
  rw[Alm]
  intro a ha
  obtain⟨i,hi⟩:=Ahw ha
  rw[Ajn] at hi
  have:=h2 (k+i) a (Akz _ _) hi
  simpa using this
 rw[e1,e2,Ahk]
 lia
theorem Abl {ns:List Int}(h:wx ns){i j:Nat}{a b:Int}(hi:ns[i]?=some a)(hj:ns[j]?=some b)(hij:i<j):a<b:=by
 obtain⟨h1,rfl⟩:=Agl.mp hi
 obtain⟨h2,rfl⟩:=Agl.mp hj
 exact Aiu.mp h i j h1 h2 hij
theorem va {ns:List Int}(h:wx ns){i j:Nat}{a b:Int}(hi:ns[i]?=some a)(hj:ns[j]?=some b)(hij:i<=j):a<=b:=by
 rcases Nat.lt_or_eq_of_le hij with h'|rfl
 · exact Int.le_of_lt (Abl h hi hj h')
 · rw[hi] at hj;cases hj;exact Int.le_refl _
theorem G4 {ns:List Int}(h:wx ns){x:Int}{i:Nat}{a:Int}(hi:ns[i]?=some a):i<below ns x↔a<x:=by
 have hl:i<ns.length:=by obtain⟨z,_⟩:=Agl.mp hi;exact z
 have key:∀(ms:List Int),wx ms->∀(j:Nat)(b:Int),ms[j]?=some b->(j<below ms x↔b<x):=by
  intro ms
  induction ms with
  | nil=>intro _ j b hj;simp at hj
  |
   cons c r ih=>
   intro hr j b hj
   have hr':=(Ajl.mp hr)
   unfold below
   rw[List.countP_cons]
   cases j with
   |
    zero=>
    simp at hj
    subst hj
    have z:¬c<x->r.countP (λa=>decide (a<x))=0:=λhc=>by
     rw[Alm]
     intro a ha
     have:=hr'.1 a ha
     simp
     lia
    by_cases hc:c<x
    · simp[hc]
    ·
     rw[z hc]
     simp[hc]
   |
    succ j=>
    simp at hj
    have:=ih hr'.2 j b hj
    unfold below at this
    by_cases hc:c<x
    ·
     simp[hc]
     lia
    ·
     have hb:¬b<x:=by
      have:=hr'.1 b (Ah8 hj)
      lia
     have:r.countP (λa=>decide (a<x))=0:=by
      rw[Alm]
      intro a ha
      have:=hr'.1 a ha
      simp
      lia
     simp[hc,hb]
     lia
 exact key ns h i a hi
def mom (cs:List (Int×Int)):List Int:=cs.map (·.1)
def cnt (cs:List (Int×Int))(m:Int):Nat:=below (mom cs) (m+1)
def off (own:Int)(cs:List (Int×Int))(k:Nat):Int:=if k=0 then own else(cs.getD (k-1) (0,0)).2
end DC
namespace DR
inductive Rl where
 | nv
 | ev (st fi:Int)
 | dy (ds:List Int)
 | wh (st re:Int)
def fl:Rl->Int->Bool
 | .nv,_=>false
 | .ev st fi,d=>decide (fi<=d)&&decide ((d-fi)%st=0)
 | .dy ds,d=>decide (d∈ds)
 | .wh st re,d=>decide (d%st=re)
def rng (b e:Int):List Int:=(List.range (e-b).toNat).map λ(i:Nat)=>b+(i:Int)
theorem g9 {b e k:Int}:k∈rng b e↔b<=k/\k<e:=by
 unfold rng
 rw[List.mem_map]
 constructor
 ·
  rintro⟨i,hi,rfl⟩
  rw[List.mem_range] at hi
  lia
 ·
  rintro⟨h1,h2⟩
  exact⟨(k-b).toNat,by rw[List.mem_range];lia,by lia⟩
theorem jg (b e:Int):(rng b e).Pairwise (· < ·):=by
 unfold rng
 rw[Ajv]
 exact List.pairwise_lt_range.imp λh=>by lia
theorem U6:∀{xs ys:List Int},xs.Pairwise (· < ·)->ys.Pairwise (· < ·)->(∀k,k∈xs↔k∈ys)->xs=ys
 | [],[],_,_,_=>rfl
 | [],y::ys,_,_,h=>absurd ((h y).mpr (Agj ..)) (by simp)
 | x::xs,[],_,_,h=>absurd ((h x).mp (Agj ..)) (by simp)
 |
  x::xs,y::ys,hx,hy,h=>by
  obtain⟨x1,x2⟩:=Ajl.mp hx
  obtain⟨y1,y2⟩:=Ajl.mp hy
  have e:x=y:=by
   rcases Agx.mp ((h x).mp (Agj ..)) with e|e
   · exact e
   ·
    rcases Agx.mp ((h y).mpr (Agj ..)) with f|f
    · exact f.symm
    · have:=y1 x e;have:=x1 y f;lia
  subst e
  refine Ahb (x:: ·) (U6 x2 y2 λk=>⟨λhk=>?_,λhk=>?_⟩)
  ·
   rcases Agx.mp ((h k).mp (Agh _ hk)) with e|e
   · have:=x1 k hk;lia
   · exact e
  ·
   rcases Agx.mp ((h k).mpr (Agh _ hk)) with e|e
   · have:=y1 k hk;lia
   · exact e
def days (f:Int->Bool)(b e:Int):List Int:=(rng b e).filter f
theorem Pe {f:Int->Bool}{b e k:Int}:k∈days f b e↔b<=k/\k<e/\f k=true:=by
 unfold days
 rw[List.mem_filter,g9,and_assoc]
theorem Ou (f:Int->Bool)(b e:Int):(days f b e).Pairwise (· < ·):=(jg b e).filter _
end DR
namespace DRu
open DR (days Pe Ou U6)
inductive Ru where
 | ev
 | ch (r:Ru) (ls ms:List Int) (mv:List (Int×Int))
def dpR:Ru->Nat
 | .ev=>0
 | .ch r _ _ _=>dpR r+1
def gc (f:Int->Bool)(ls ms:List Int)(mv:List (Int×Int)):List Int:=ms++(mv.filter λz=>!decide (z.1∈ls)&&f z.1).map (·.2)
def Yn (ls:List Int)(mv:List (Int×Int)):List Int:=ls++mv.map (·.1)
def fu:Ru->Int->Bool
 | .ev,d=>decide (0<=d/\d<146097)&&decide (9<=d)
 | .ch r ls ms mv,d=>decide (d∈gc (fu r) ls ms mv)||(!decide (d∈Yn ls mv)&&fu r d)
theorem xc {r:Ru}{ls ms:List Int}{mv:List (Int×Int)}{d:Int}:fu (.ch r ls ms mv) d=(decide (d∈gc (fu r) ls ms mv)||(!decide (d∈Yn ls mv)&&fu r d)):=rfl
theorem qr {d:Int}:fu .ev d=(decide (0<=d/\d<146097)&&decide (9<=d)):=rfl
theorem xi {r:Ru}{ls ms:List Int}{mv:List (Int×Int)}:dpR (.ch r ls ms mv)=dpR r+1:=rfl
def DyI (d:Int):Prop:=9<=d/\d<146097
structure OkC (ls ms:List Int)(mv:List (Int×Int)):Prop where
 l1:ls.length<=2
 l2:ms.length<=2
 l3:mv.length<=2
 d1:∀d∈ls,DyI d
 d2:∀d∈ms,DyI d
 d3:∀z∈mv,DyI z.1/\DyI z.2
def OkR:Ru->Prop
 | .ev=>True
 | .ch r ls ms mv=>OkR r/\OkC ls ms mv
theorem vh {r:Ru}{ls ms:List Int}{mv:List (Int×Int)}:OkR (.ch r ls ms mv)↔OkR r/\OkC ls ms mv:=Iff.rfl
theorem Aaa {f:Int->Bool}{ls ms:List Int}{mv:List (Int×Int)}(ok:OkC ls ms mv){d:Int}(hd:d∈gc f ls ms mv):DyI d:=by
 rcases Ahf.mp hd with h|h
 · exact ok.d2 d h
 ·
  obtain⟨y,hy,rfl⟩:=Ag7.mp h
  exact(ok.d3 y (Ajm.mp hy).1).2
theorem Abv:∀{r:Ru}{d:Int},OkR r->fu r d=true->DyI d
 |
  .ev,d,_,h=>by
  rw[qr,Ag6,Ai0,Ai0] at h
  exact⟨h.2,h.1.2⟩
 |
  .ch r ls ms mv,d,ok,h=>by
  rw[xc,Bool.or_eq_true,Ag6,Ai0] at h
  rcases h with h|h
  · exact Aaa ok.2 h
  · exact Abv ok.1 h.2
theorem zo {r:Ru}{b e z:Int}(ok:OkR r)(h:z∈days (fu r) b e):9<=z/\z<e:=by
 obtain⟨_,h2,h3⟩:=Pe.mp h
 exact⟨(Abv ok h3).1,h2⟩
theorem x3 {qs:List Int}{n:Nat}(hr:qs.Pairwise (· < ·))(h:∀z∈qs,9<=z/\z<9+(n:Int)):qs.length<=n:=by
 have nd:qs.Nodup:=hr.imp λh=>by lia
 have:=nd.length_le_of_subset (l₂:=DR.rng 9 (9+n)) λz hz=>by rw[DR.g9];exact h z hz
 unfold DR.rng at this
 rw[Agd,Ahl] at this
 lia
theorem Yt {r:Ru}{b e:Int}(ok:OkR r)(he:e<=15):(days (fu r) b e).length<=6:=x3 (Ou _ _ _) λz hz=>by have:=zo ok hz;lia
theorem Abg {b e:Int}(hb:0<=b)(he:e<=146097):days (fu .ev) b e=DR.rng (max b 9) e:=by
 refine U6 (Ou _ _ _) (DR.jg _ _) λk=>?_
 rw[Pe,DR.g9,qr,Ag6,Ai0,Ai0]
 lia
theorem si {f:Int->Bool}{b e:Int}(h:∀k,b<=k->k<e->f k=false):days f b e=[]:=by
 refine List.eq_nil_iff_forall_not_mem.mpr λk hk=>?_
 obtain⟨a,b,c⟩:=Pe.mp hk
 rw[h k a b] at c
 cases c
theorem zx {r:Ru}{ls ms:List Int}{mv:List (Int×Int)}{x y:Int}{gs qs:List Int}(h1:qs.Pairwise (· < ·))(hg:∀k,k∈gs↔k∈gc (fu r) ls ms mv)
  (h2:∀k,k∈qs↔k∈(days (fu r) x y).filter (λd=>!decide (d∈Yn ls mv))∨(k∈gs/\x<=k/\k<y)):qs=days (fu (.ch r ls ms mv)) x y:=by
 refine U6 h1 (Ou _ _ _) λk=>?_
 rw[h2,List.mem_filter,Pe,Pe,hg,xc,Bool.or_eq_true,Ag6,Ai0]
 constructor
 ·
  rintro(⟨⟨a1,a2,a3⟩,a4⟩|⟨a1,a2,a3⟩)
  · exact⟨a1,a2,.inr ⟨a4,a3⟩⟩
  · exact⟨a2,a3,.inl a1⟩
 ·
  rintro⟨a1,a2,a3|⟨a3,a4⟩⟩
  · exact .inr ⟨a3,a1,a2⟩
  · exact .inl ⟨⟨a1,a2,a4⟩,a3⟩
theorem xp {gs:List Int}(hr:DC.wx gs){x y:Int}:∀k,k∈(gs.take (DC.below gs y)).drop (DC.below gs x)↔k∈gs/\x<=k/\k<y:=by
 intro k
 rw[List.mem_iff_getElem?]
 constructor
 ·
  rintro⟨i,hi⟩
  rw[Ajn,Aki] at hi
  split at hi
  ·
   rename_i hlt
   have h1:=(DC.G4 hr (x:=y) hi).mp hlt
   have h2:¬k<x:=λw=>by
    have:=(DC.G4 hr (x:=x) hi).mpr w
    lia
   exact⟨Ah8 hi,by lia,h1⟩
  · cases hi
 ·
  rintro⟨hk,h1,h2⟩
  obtain⟨j,hj⟩:=Ahw hk
  have a1:=(DC.G4 hr (x:=y) hj).mpr h2
  have a2:¬j<DC.below gs x:=λw=>by
   have:=(DC.G4 hr (x:=x) hj).mp w
   lia
  refine⟨j-DC.below gs x,?_⟩
  rw[Ajn,Aki,if_pos (by lia),show DC.below gs x+(j-DC.below gs x)=j by lia]
  exact hj
theorem iu {gs:List Int}(hr:DC.wx gs){x:Int}:(∃a,gs[DC.below gs x]?=some a/\a=x)↔x∈gs:=by
 constructor
 ·
  rintro⟨a,h,rfl⟩
  exact Ah8 h
 ·
  intro h
  obtain⟨j,hj⟩:=Ahw h
  have a1:¬j<DC.below gs x:=λw=>by
   have:=(DC.G4 hr (x:=x) hj).mp w
   lia
  have a2:j<DC.below gs (x+1):=(DC.G4 hr (x:=x+1) hj).mpr (by lia)
  by_cases hjb:DC.below gs x=j
  · rw[hjb];exact⟨x,hj,rfl⟩
  ·
   have hlt:DC.below gs x<gs.length:=by have:=(Agl.mp hj).1;lia
   have hb:=Ag0 hlt
   have a3:¬gs[DC.below gs x]<x:=λw=>by
    have:=(DC.G4 hr (x:=x) hb).mpr w
    lia
   have a4:gs[DC.below gs x]<x:=by
    obtain⟨hj2,e⟩:=Agl.mp hj
    have:=Aiu.mp hr (DC.below gs x) j hlt hj2 (by lia)
    lia
   exact absurd a4 a3
end DRu
namespace L2
open PySem PySem.W PyProof.Rows
section
variable {X:Cx}
theorem Rk (hc:X.calm=true):Jp X (.builtin "sorted") (λxs H Q=>∃(p:Addr)(ds:List Int),xs=[.ref p]/\H p=some (.ext (SetI X.prog X.w p ds))/\ds.length<64/\
  ∀(D:Addr)(ms:List Int),H D=none->ms.Perm ds->ms.Pairwise (· < ·)->Q (.ref D) (upd H D (.lst (ms.map V.int)))):=by
 intro pins s σ H xs us Q I r h
 obtain⟨p,ds,rfl,hp,h64,q⟩:=h
 obtain⟨u,rfl,ru⟩:=vals1 r
 cases ru
 have S:SetI X.prog X.w p ds s.heap:=(I.hok _ _ hp).1
 have hds:ds.Nodup:=by
  obtain⟨es,_,_,_,P⟩:=S
  exact P.nd
 refine Ak2 kind_sorted plain_sorted entry_sorted (args_sorted1 _) ?_
 unfold Builtin.«sorted»
 refine Aga (m:=checkCount "sorted" 1 1 _) (Agb (Aga (iq S (I.ok.hd hc) λh1 tk dr vs ns kp hge hi hpm=>?_)))
 have hl:=hi.length
 have hn:vs.length<64:=by rw[hl,hpm.length_eq];exact h64
 refine Aga (Akj ?_ (by rw[Ahr];lia))
 have hoL:(h1.push (seqObj "list" vs.toArray 0)).get? h1.objs.size=some (seqObj "list" vs.toArray 0):=Ago _ rfl
 have keep:∀b o,s.heap.get? b=some o->(h1.push (seqObj "list" vs.toArray 0)).get? b=some o:=λb o q=>Agc _ (kp b o q)
 have ne:∀b o,s.heap.get? b=some o->b≠h1.objs.size:=λb o q=>Agv (Agk (kp b o q))
 show wpAny _ _ _ _ _ {s with heap:=h1.push (seqObj "list" vs.toArray 0),toks:=tk,drawn:=dr}
 refine Aga (Ahd (Ahj slot_list_sort ⟨_,hoL,rfl⟩ entry_list_sort (list_sort_tree hoL hi (by lia) λout ms a1 a2 a3=>⟨_,rfl,Agb ⟨_,rfl,?_⟩⟩) (args_list_sort _)))
 obtain⟨e,he⟩:=sortedHeap_at (out:=out) hoL
 have j3:=a2.trans hpm
 refine⟨.ref h1.objs.size,_,(I.drew dr).laid (t':=tk) (o:=.lst (ms.map V.int)) (λb o q=>by rw[sortedHeap_old (ne b o q) (Agk (keep b o q))];exact keep b o q) hge ?_,rfl,q _ _ (I.hok.fresh hge) j3 ?_⟩
 · exact⟨by rw[Agd,j3.length_eq,Ahr];lia,out.toList,e,Vu a1,by rw[Alf];exact he⟩
 · exact(a3.and (j3.nodup_iff.mpr hds)).imp λ{a b}h=>by have:=h.1;have:=h.2;lia
end
end L2
set_option smartUnfolding false
namespace K54
open PySem L2
def top (i:Nat):Stmt:=PySem.Challenge.pw_hourhouse_k54_things_refused.main.body.getD i (.Pass ⟨0,0,0,0⟩)
abbrev Fb:Stmt:=top 21
abbrev Nk:Stmt:=top 24
abbrev Si:Stmt:=top 26
abbrev Pt:Stmt:=top 29
abbrev Em:Stmt:=top 31
abbrev Fw:Stmt:=top 34
abbrev Bs:Stmt:=inClass (top 36) 2
abbrev Ek:Stmt:=top 41
abbrev Df:Stmt:=top 44
abbrev Pm:Stmt:=top 51
abbrev Bf:Stmt:=inClass (top 53) 1
abbrev B3:Stmt:=inClass (top 53) 2
abbrev Bk:Stmt:=inClass (top 53) 0
abbrev B7:Stmt:=inClass (top 53) 4
abbrev B2:Stmt:=inClass (top 53) 5
abbrev B6:Stmt:=inClass (top 62) 0
abbrev Fj:Stmt:=inClass (top 65) 9
abbrev Jx:Stmt:=inClass (top 65) 5
abbrev Fy:Stmt:=inClass (top 65) 0
abbrev Lp:Stmt:=top 67
abbrev Nh:Stmt:=top 68
abbrev Lr:Stmt:=top 69
abbrev Nj:Stmt:=top 72
abbrev Nf:Stmt:=top 22
abbrev G8:Stmt:=top 25
abbrev Co:Stmt:=top 32
abbrev Dm:Stmt:=inClass (top 36) 3
abbrev Cs:Stmt:=inClass (top 36) 1
abbrev Dg:Stmt:=top 42
abbrev Di:Stmt:=top 45
abbrev Bu:Stmt:=inClass (top 53) 3
abbrev Ca:Stmt:=top 59
abbrev Dl:Stmt:=inClass (top 61) 1
abbrev Bz:Stmt:=inClass (top 65) 2
abbrev Jq:Stmt:=top 70
abbrev B5:Stmt:=inClass (top 36) 0
abbrev Bn:Stmt:=inClass (top 43) 0
abbrev Hj:Stmt:=top 46
abbrev Jw:Stmt:=top 47
abbrev Fn:Stmt:=inClass (top 61) 0
abbrev Ct:Stmt:=inClass (top 65) 1
abbrev D6:Stmt:=top 48
abbrev Js:Stmt:=inClass (top 65) 3
abbrev Hi:Stmt:=inClass (top 65) 4
abbrev Iz:Stmt:=top 55
abbrev B9:Stmt:=inClass (top 62) 1
abbrev Bl:Stmt:=inClass (top 62) 2
abbrev G6:Stmt:=inClass (top 65) 10
abbrev Dj:Stmt:=inClass (top 62) 3
abbrev B8:Stmt:=inClass (top 62) 6
abbrev B4:Stmt:=inClass (top 62) 4
abbrev Cu:Stmt:=inClass (top 62) 5
abbrev G7:Stmt:=inClass (top 65) 6
abbrev G9:Stmt:=inClass (top 65) 8
abbrev Hg:Stmt:=inClass (top 65) 7
abbrev Jv:Stmt:=top 71
abbrev mr:Stmt:=top 73
set_option genInjectivity false
set_option genSizeOf false
structure Adr where
 Mo:Addr
 Mr:FuncData
 Rt:Addr
 Q0:FuncData
 Y0:Addr
 Y1:FuncData
 U4:Addr
 Uw:FuncData
 Kf:Addr
 J3:FuncData
 Lb:Addr
 Lg:FuncData
 Ji:Addr
 Jd:FuncData
 Kj:Addr
 Ka:FuncData
 Jj:Addr
 Hy:FuncData
 U3:Addr
 Ux:FuncData
 Cz:Addr
 Cw:FuncData
 D7:Addr
 Dw:FuncData
 Gq:Addr
 G2:FuncData
 Bt:Addr
 Bq:FuncData
 By:Addr
 B0:FuncData
 Kd:Addr
 F8:FuncData
 Ld:Addr
 Lj:FuncData
 N6:Addr
 Nx:FuncData
 Lc:Addr
 Ln:FuncData
 Pk:Addr
 Pd:FuncData
 Rh:Addr
 Qu:FuncData
 Pj:Addr
 Pf:FuncData
 R8:Addr
 Q2:FuncData
 Q5:Addr
 Rp:FuncData
 Mm:Addr
 L9:FuncData
 Fm:Addr
 Fq:FuncData
 Hu:Addr
 Io:FuncData
 Gv:Addr
 Gm:FuncData
 Iu:Addr
 Ja:FuncData
 Jg:Addr
 Ir:FuncData
 C6:Addr
 C8:FuncData
 Ey:Addr
 Ex:FuncData
 Il:Addr
 Hx:FuncData
 D9:Addr
 Dx:FuncData
 N4:Addr
 Ny:FuncData
 J8:Addr
 J4:FuncData
 Ke:Addr
 F3:FuncData
 Mh:Addr
 Mg:FuncData
 N7:Addr
 N5:FuncData
 Li:Addr
 Lh:FuncData
 Gp:Addr
 Gu:FuncData
 Nq:Addr
 Lw:FuncData
 Nu:Addr
 N1:FuncData
 Mn:Addr
 Md:FuncData
 Rw:Addr
 Rj:FuncData
 E3:Addr
 Er:FuncData
 Gw:Addr
 Gn:FuncData
 Mt:Addr
 Ms:FuncData
 Iq:Addr
 Ik:FuncData
 Ep:Addr
 Et:FuncData
 Dv:Addr
 Dy:FuncData
 Gz:Addr
 Gr:FuncData
 Mc:Addr
 Mf:FuncData
 Ma:Addr
 Ml:FuncData
 Mj:Addr
 Mp:FuncData
 N2:Addr
 Nr:FuncData
 kn:Addr
 e8:FuncData
 Ni:Addr
 Fl:Addr
 Ap:Addr
 Bb:Addr
 Ao:Addr
 Jr:Addr
 Fi:Addr
 Cm:Addr
 Bx:Addr
 Dp:Addr
 Fu:Addr
 Am:Addr
 Fs:Addr
 Ad:Addr
 Fv:Addr
 Aq:Addr
 A3:Addr
 Ai:Addr
 A7:Addr
 Bo:Addr
 A0:Addr
structure Txt (K:W.Frag)(mg:Str->Option Value)(a:Adr):Prop where
 Tu:Fun K "is_made_of" "is_made_of" Fb a.Mo a.Mr
 aa:mg "is_made_of"=some (.ref a.Mo)
 dj:Binds K a.Mr ["text","signs"] []
 ar:Fun K "is_span" "is_span" Nk a.Rt a.Q0
 ou:mg "is_span"=some (.ref a.Rt)
 oz:Binds K a.Q0 ["begin","end"] []
 fg:Fun K "meets" "meets" Si a.Y0 a.Y1
 qo:mg "meets"=some (.ref a.Y0)
 uq:Binds K a.Y1 ["span","begin","end"] []
 U2:Fun K "is_day" "is_day" Pt a.U4 a.Uw
 Yp:mg "is_day"=some (.ref a.U4)
 Yl:Binds K a.Uw ["number"] []
 P6:Fun K "check_bounds" "check_bounds" Em a.Kf a.J3
 W7:mg "check_bounds"=some (.ref a.Kf)
 W6:Binds K a.J3 ["number","least","most"] []
 Jc:Fun K "count_below" "count_below" Fw a.Lb a.Lg
 Lm:mg "count_below"=some (.ref a.Lb)
 Lo:Binds K a.Lg ["days","number"] []
 V9:FunD K "next_in" "Every.next_in" Bs a.Ji a.Jd
 Vd:Binds K a.Jd ["self","day","end"] []
 Mz:Fun K "check_offset" "check_offset" Ek a.Kj a.Ka
 P9:mg "check_offset"=some (.ref a.Kj)
 P8:Binds K a.Ka ["offset"] []
 Je:Fun K "offset_behind" "offset_behind" Df a.Jj a.Hy
 Lv:mg "offset_behind"=some (.ref a.Jj)
 Lu:Binds K a.Hy ["place","many"] []
 i8:Fun K "merged" "merged" Pm a.U3 a.Ux
 xr:mg "merged"=some (.ref a.U3)
 yb:Binds K a.Ux ["one","other"] []
 O8:Fun K "days_gained" "Changed.days_gained" Bf a.Cz a.Cw
 O9:Binds K a.Cw ["self"] []
 Qj:Fun K "days_lost" "Changed.days_lost" B3 a.D7 a.Dw
 Qh:Binds K a.Dw ["self"] []
 Ur:FunD K "__init__" "Changed.__init__" Bk a.Gq a.G2
 Ug:Binds K a.G2 ["self","rule","left","more","moved"] []
 R4:Fun K "falls_on" "Changed.falls_on" B7 a.Bt a.Bq
 Q4:Binds K a.Bq ["self","day"] []
 Sd:Fun K "days_in" "Changed.days_in" B2 a.By a.B0
 S0:Binds K a.B0 ["self","begin","end"] []
 Xh:FunD K "__init__" "Again.__init__" B6 a.Kd a.F8
 Wz:Binds K a.F8 ["self","rule","place","minute","length","exceptions"] []
 Oa:∃ds,Binds K a.F8 ["self","rule","place","minute","length","exceptions"] ds/\Vals [.int 0] ds
 Zo:Fun K "things" "Book.things" Fj a.Ld a.Lj
 Nv:Binds K a.Lj ["self"] []
 gp:Fun K "drop" "Book.drop" Jx a.N6 a.Nx
 ff:Binds K a.Nx ["self","name"] []
 Zi:Fun K "__init__" "Book.__init__" Fy a.Lc a.Ln
 Zh:Binds K a.Ln ["self"] []
 Xn:Fun K "_law_cell" "_law_cell" Lp a.Pk a.Pd
 kl:mg "_law_cell"=some (.ref a.Pk)
 nu:Binds K a.Pd ["_law_script","_law_k"] []
 Ks:Fun K "_law_mix" "_law_mix" Nh a.Rh a.Qu
 Lx:mg "_law_mix"=some (.ref a.Rh)
 L7:Binds K a.Qu ["_law_state","_law_cell_here"] []
 Xx:Fun K "_law_lone" "_law_lone" Lr a.Pj a.Pf
 nj:mg "_law_lone"=some (.ref a.Pj)
 kr:Binds K a.Pf ["_law_e"] []
 cf:Fun K "_law_due" "_law_due" Nj a.R8 a.Q2
 uo:mg "_law_due"=some (.ref a.R8)
 p9:Binds K a.Q2 ["_law_plain","_law_kind","_law_name","_law_minute","_law_length","_law_good"] []
 V2:Fun K "is_name" "is_name" Nf a.Q5 a.Rp
 af:mg "is_name"=some (.ref a.Q5)
 cz:Binds K a.Rp ["text"] []
 Tx:Fun K "check_span" "check_span" G8 a.Mm a.L9
 cq:mg "check_span"=some (.ref a.Mm)
 bq:Binds K a.L9 ["begin","end"] []
 C9:Fun K "check_day" "check_day" Co a.Fm a.Fq
 Fp:mg "check_day_rules"=some (.ref a.Fm)
 Fg:Binds K a.Fq ["number"] []
 Wu:Fun K "days_in" "Every.days_in" Dm a.Hu a.Io
 Wx:Binds K a.Io ["self","begin","end"] []
 Um:Fun K "falls_on" "Every.falls_on" Cs a.Gv a.Gm
 Uj:Binds K a.Gm ["self","day"] []
 Ow:Fun K "check_changes" "check_changes" Dg a.Iu a.Ja
 Vb:mg "check_changes"=some (.ref a.Iu)
 Wl:Binds K a.Ja ["changes"] []
 E5:Fun K "changes_until" "changes_until" Di a.Jg a.Ir
 Hq:mg "changes_until"=some (.ref a.Jg)
 Ij:Binds K a.Ir ["place","moment"] []
 Py:Fun K "has_gained" "Changed.has_gained" Bu a.C6 a.C8
 Pw:Binds K a.C8 ["self","day"] []
 Cv:Fun K "check_day" "check_day" Ca a.Ey a.Ex
 Eu:mg "check_day_things"=some (.ref a.Ey)
 Es:Binds K a.Ex ["day"] []
 Vs:Fun K "spans_in" "Once.spans_in" Dl a.Il a.Hx
 Wj:Binds K a.Hx ["self","begin","end"] []
 Qf:Fun K "coming_again" "Book.coming_again" Bz a.D9 a.Dx
 G3:Binds K a.Dx ["self","name"] []
 Ws:Fun K "_law_class" "_law_class" Jq a.N4 a.Ny
 fc:mg "_law_class"=some (.ref a.N4)
 gk:Binds K a.Ny ["_law_e"] []
 Xc:FunD K "__init__" "Every.__init__" B5 a.J8 a.J4
 W3:Binds K a.J4 ["self","step","first"] []
 W5:FunD K "__init__" "Place.__init__" Bn a.Ke a.F3
 vp:Binds K a.F3 ["self","name","offset","changes"] []
 Of:∃ds,Binds K a.F3 ["self","name","offset","changes"] ds/\Vals [.non] ds
 Tr:Fun K "moments_of" "moments_of" Hj a.Mh a.Mg
 Z8:mg "moments_of"=some (.ref a.Mh)
 dn:Binds K a.Mg ["place","day","minute"] []
 U7:Fun K "leap_over" "leap_over" Jw a.N7 a.N5
 fe:mg "leap_over"=some (.ref a.N7)
 fz:Binds K a.N5 ["place","local"] []
 Yo:Fun K "__init__" "Once.__init__" Fn a.Li a.Lh
 Za:Binds K a.Lh ["self","begin","end"] []
 Ud:Fun K "check_new" "Book.check_new" Ct a.Gp a.Gu
 N9:Binds K a.Gu ["self","name"] []
 Wg:FunD K "moment_of" "moment_of" D6 a.Nq a.Lw
 g5:mg "moment_of"=some (.ref a.Nq)
 Abh:Binds K a.Lw ["place","day","minute","later"] []
 R5:∃ds,Binds K a.Lw ["place","day","minute","later"] ds/\Vals [.bl false] ds
 gm:Fun K "once" "Book.once" Js a.Nu a.N1
 Vk:Binds K a.N1 ["self","name","begin","end"] []
 cx:Fun K "again" "Book.again" Hi a.Mn a.Md
 b7:Binds K a.Md ["self","name","rule","place","minute","length"] []
 bj:FunD K "days_of" "days_of" Iz a.Rw a.Rj
 ub:mg "days_of"=some (.ref a.Rw)
 sk:Binds K a.Rj ["rule","begin","end"] []
 Rn:Fun K "days_about" "Again.days_about" B9 a.E3 a.Er
 Rv:Binds K a.Er ["self","begin","end"] []
 Ua:Fun K "spans_in" "Again.spans_in" Bl a.Gw a.Gn
 T4:Binds K a.Gn ["self","begin","end"] []
 cg:Fun K "spans" "Book.spans" G6 a.Mt a.Ms
 Tt:Binds K a.Ms ["self","begin","end"] []
 Ve:Fun K "changed" "Again.changed" Dj a.Iq a.Ik
 L0:Binds K a.Ik ["self","left","more","moved"] []
 Rb:Fun K "with_moved" "Again.with_moved" B8 a.Ep a.Et
 Ry:Binds K a.Et ["self","day","goal"] []
 Qn:Fun K "without_day" "Again.without_day" B4 a.Dv a.Dy
 Qi:Binds K a.Dy ["self","day"] []
 T7:Fun K "with_day" "Again.with_day" Cu a.Gz a.Gr
 Uo:Binds K a.Gr ["self","day"] []
 df:Fun K "leave" "Book.leave" G7 a.Mc a.Mf
 b5:Binds K a.Mf ["self","name","day"] []
 b8:Fun K "shift" "Book.shift" G9 a.Ma a.Ml
 cc:Binds K a.Ml ["self","name","day","goal"] []
 cj:Fun K "extra" "Book.extra" Hg a.Mj a.Mp
 ba:Binds K a.Mp ["self","name","day"] []
 Wc:Fun K "_law_tried" "_law_tried" Jv a.N2 a.Nr
 gu:mg "_law_tried"=some (.ref a.N2)
 ie:Binds K a.Nr ["_law_book","_law_kind","_law_name","_law_minute","_law_length"] []
 Ad7:Fun K "law" "law" mr a.kn a.e8
 Ad0:mg "law"=some (.ref a.kn)
 Afn:Binds K a.e8 ["_law_script"] []
 Qv:∃t,mg "DAYS"=some (.int 146097 t)
 Cj:∃t,mg "DAY_MINUTES"=some (.int 1440 t)
 O1:∃t,mg "FIGURES"=some (.str "0123456789" t)
 M7:∃t,mg "LETTERS"=some (.str "abcdefghijklmnopqrstuvwxyz" t)
 Gd:∃t,mg "MOST_CHANGES"=some (.int 400 t)
 Dd:∃t,mg "MOST_EXCEPTIONS"=some (.int 8 t)
 Ii:∃t,mg "MOST_LENGTH"=some (.int 10080 t)
 Bp:∃t,mg "MOST_OFFSET"=some (.int 900 t)
 Iw:∃t,mg "MOST_THINGS"=some (.int 40 t)
 Ko:∃t,mg "NAME_SIGNS"=some (.int 8 t)
 de:mg "Busy"=some (.ref a.Ni)
 Sa:mg "Closed"=some (.ref a.Fl)
 Tz:mg "Full"=some (.ref a.Ap)
 Ap:W.excIn K a.Ap vE "ValueError.__new__"=true
 Kl:mg "HouseError"=some (.ref a.Bb)
 bz:Catch K a.Bb
 Ql:mg "Known"=some (.ref a.Ao)
 Ao:W.excIn K a.Ao vE "ValueError.__new__"=true
 U8:mg "NoDay"=some (.ref a.Jr)
 Rr:mg "NoHand"=some (.ref a.Fi)
 Nb:mg "NoLetter"=some (.ref a.Cm)
 Lz:mg "NoMeeting"=some (.ref a.Bx)
 Pc:mg "NoPlace"=some (.ref a.Dp)
 Rm:mg "NoRule"=some (.ref a.Fu)
 Pp:mg "NoSpan"=some (.ref a.Am)
 Am:W.excIn K a.Am vE "ValueError.__new__"=true
 R9:mg "NoText"=some (.ref a.Fs)
 E6:mg "NoThing"=some (.ref a.Ad)
 Ad:W.excIn K a.Ad vE "ValueError.__new__"=true
 Rq:mg "NoWord"=some (.ref a.Fv)
 Dt:W.mroIn K a.Am (.ref a.Bb)=some true
 Ay:W.mroIn K a.Ad (.ref a.Bb)=some true
 Cb:W.mroIn K a.Ao (.ref a.Bb)=some true
 Bg:W.mroIn K a.Ap (.ref a.Bb)=some true
 Adq:ExC K a.Am
 Kc:W.kitOne K (.ref a.Am) (.ref a.Jr)=some false
 Hs:W.kitOne K (.ref a.Am) (.ref a.Fs)=some false
 I0:W.kitOne K (.ref a.Am) (.ref a.Fu)=some false
 G0:W.kitOne K (.ref a.Am) (.ref a.Dp)=some false
 Hr:W.kitOne K (.ref a.Am) (.ref a.Am)=some true
 Gx:W.kitOne K (.ref a.Am) (.ref a.Ad)=some false
 Kh:W.kitOne K (.ref a.Am) (.ref a.Ao)=some false
 La:W.kitOne K (.ref a.Am) (.ref a.Ap)=some false
 Ft:W.kitOne K (.ref a.Am) (.ref a.Cm)=some false
 Ih:W.kitOne K (.ref a.Am) (.ref a.Fi)=some false
 Ht:W.kitOne K (.ref a.Am) (.ref a.Fv)=some false
 Ez:W.kitOne K (.ref a.Am) (.ref a.Bx)=some false
 Ip:W.kitOne K (.ref a.Am) (.ref a.Fl)=some false
 Lk:W.kitOne K (.ref a.Am) (.ref a.Ni)=some false
 Dz:W.kitOne K (.ref a.Am) (.type "ValueError")=some true
 Cg:ExC K a.Ad
 Fc:W.kitOne K (.ref a.Ad) (.ref a.Jr)=some false
 Ee:W.kitOne K (.ref a.Ad) (.ref a.Fs)=some false
 Ea:W.kitOne K (.ref a.Ad) (.ref a.Fu)=some false
 Dc:W.kitOne K (.ref a.Ad) (.ref a.Dp)=some false
 Ef:W.kitOne K (.ref a.Ad) (.ref a.Am)=some false
 Cn:W.kitOne K (.ref a.Ad) (.ref a.Ad)=some true
 E8:W.kitOne K (.ref a.Ad) (.ref a.Ao)=some false
 Gj:W.kitOne K (.ref a.Ad) (.ref a.Ap)=some false
 C0:W.kitOne K (.ref a.Ad) (.ref a.Cm)=some false
 Ei:W.kitOne K (.ref a.Ad) (.ref a.Fi)=some false
 Eg:W.kitOne K (.ref a.Ad) (.ref a.Fv)=some false
 Cq:W.kitOne K (.ref a.Ad) (.ref a.Bx)=some false
 Ed:W.kitOne K (.ref a.Ad) (.ref a.Fl)=some false
 Gh:W.kitOne K (.ref a.Ad) (.ref a.Ni)=some false
 Ci:W.kitOne K (.ref a.Ad) (.type "ValueError")=some true
 Fe:ExC K a.Ao
 Ho:W.kitOne K (.ref a.Ao) (.ref a.Jr)=some false
 F7:W.kitOne K (.ref a.Ao) (.ref a.Fs)=some false
 F4:W.kitOne K (.ref a.Ao) (.ref a.Fu)=some false
 E4:W.kitOne K (.ref a.Ao) (.ref a.Dp)=some false
 Gb:W.kitOne K (.ref a.Ao) (.ref a.Am)=some false
 Dq:W.kitOne K (.ref a.Ao) (.ref a.Ad)=some false
 Fx:W.kitOne K (.ref a.Ao) (.ref a.Ao)=some true
 Kn:W.kitOne K (.ref a.Ao) (.ref a.Ap)=some false
 Ec:W.kitOne K (.ref a.Ao) (.ref a.Cm)=some false
 F6:W.kitOne K (.ref a.Ao) (.ref a.Fi)=some false
 Gk:W.kitOne K (.ref a.Ao) (.ref a.Fv)=some false
 Dk:W.kitOne K (.ref a.Ao) (.ref a.Bx)=some false
 Gf:W.kitOne K (.ref a.Ao) (.ref a.Fl)=some false
 Kp:W.kitOne K (.ref a.Ao) (.ref a.Ni)=some false
 C4:W.kitOne K (.ref a.Ao) (.type "ValueError")=some true
 Jl:ExC K a.Ap
 Kq:W.kitOne K (.ref a.Ap) (.ref a.Jr)=some false
 Jf:W.kitOne K (.ref a.Ap) (.ref a.Fs)=some false
 Hn:W.kitOne K (.ref a.Ap) (.ref a.Fu)=some false
 F5:W.kitOne K (.ref a.Ap) (.ref a.Dp)=some false
 Hm:W.kitOne K (.ref a.Ap) (.ref a.Am)=some false
 En:W.kitOne K (.ref a.Ap) (.ref a.Ad)=some false
 Hh:W.kitOne K (.ref a.Ap) (.ref a.Ao)=some false
 Ju:W.kitOne K (.ref a.Ap) (.ref a.Ap)=some true
 Fd:W.kitOne K (.ref a.Ap) (.ref a.Cm)=some false
 Iv:W.kitOne K (.ref a.Ap) (.ref a.Fi)=some false
 Jh:W.kitOne K (.ref a.Ap) (.ref a.Fv)=some false
 Eh:W.kitOne K (.ref a.Ap) (.ref a.Bx)=some false
 Im:W.kitOne K (.ref a.Ap) (.ref a.Fl)=some false
 L6:W.kitOne K (.ref a.Ap) (.ref a.Ni)=some false
 Dh:W.kitOne K (.ref a.Ap) (.type "ValueError")=some true
 x8:IsO K a.Aq
 Aap:IsO K a.Bo
 Gi:W.kitOne K (.ref a.Aq) (.ref a.Aq)=some true
 Ig:W.kitOne K (.ref a.Bo) (.ref a.Aq)=some false
 Q8:W.kitOne K (.type "NoneType") (.ref a.Aq)=some false
 gy:mg "Again"=some (.ref a.Aq)
 Bi:Cls K a.Aq
 Pl:Mk K a.Aq a.Kd
 O2:NoAttr K a.Aq "rule"
 Nt:NoAttr K a.Aq "place"
 Gg:NoAttr K a.Aq "minute"
 J7:NoAttr K a.Aq "length"
 Iy:NoAttr K a.Aq "exceptions"
 Ky:Meth K a.Aq "changed" a.Iq
 Qk:Meth K a.Aq "days_about" a.E3
 S8:Meth K a.Aq "spans_in" a.Gw
 Tc:Meth K a.Aq "with_day" a.Gz
 Qg:Meth K a.Aq "with_moved" a.Ep
 Pz:Meth K a.Aq "without_day" a.Dv
 Adl:mg "Book"=some (.ref a.A3)
 Bm:Cls K a.A3
 Wv:Mk K a.A3 a.Lc
 A9:NoAttr K a.A3 "by_name"
 Yx:Meth K a.A3 "again" a.Mn
 Nc:Meth K a.A3 "check_new" a.Gp
 F1:Meth K a.A3 "coming_again" a.D9
 dh:Meth K a.A3 "drop" a.N6
 Ys:Meth K a.A3 "extra" a.Mj
 Yk:Meth K a.A3 "leave" a.Mc
 T3:Meth K a.A3 "once" a.Nu
 Zv:Meth K a.A3 "shift" a.Ma
 R0:Meth K a.A3 "spans" a.Mt
 Mw:Meth K a.A3 "things" a.Ld
 rl:mg "Changed"=some (.ref a.Ai)
 Av:Cls K a.Ai
 Ng:Mk K a.Ai a.Gq
 J9:NoAttr K a.Ai "rule"
 Kk:NoAttr K a.Ai "left"
 M6:NoAttr K a.Ai "more"
 Hl:NoAttr K a.Ai "moved"
 Cf:NoAttr K a.Ai "gained"
 Mu:NoAttr K a.Ai "lost"
 Oo:Meth K a.Ai "days_gained" a.Cz
 Q6:Meth K a.Ai "days_in" a.By
 P0:Meth K a.Ai "days_lost" a.D7
 Qa:Meth K a.Ai "falls_on" a.Bt
 O5:Meth K a.Ai "has_gained" a.C6
 Aa4:mg "Every"=some (.ref a.A7)
 Gy:Cls K a.A7
 R3:Mk K a.A7 a.J8
 Mq:NoAttr K a.A7 "step"
 Hw:NoAttr K a.A7 "first"
 Uh:Meth K a.A7 "days_in" a.Hu
 Sv:Meth K a.A7 "falls_on" a.Gv
 T6:Meth K a.A7 "next_in" a.Ji
 Acq:mg "Once"=some (.ref a.Bo)
 Sk:Cls K a.Bo
 V7:Mk K a.Bo a.Li
 T1:NoAttr K a.Bo "begin"
 X1:NoAttr K a.Bo "end"
 Uq:Meth K a.Bo "spans_in" a.Il
 Aa9:mg "Place"=some (.ref a.A0)
 Mi:Cls K a.A0
 Qt:Mk K a.A0 a.Ke
 d7:NoAttr K a.A0 "name"
 P7:NoAttr K a.A0 "offset"
 Ly:NoAttr K a.A0 "changes"
 Ot:NoAttr K a.A0 "moments"
 Kv:mg "ValueError"=none
 ur:mg "all"=none
 Np:mg "int"=none
 Aw:mg "isinstance"=none
 Rx:mg "len"=none
 Tg:mg "list"=none
 g6:mg "max"=none
 cn:mg "min"=none
 Nz:mg "range"=none
 gf:mg "set"=none
 Le:mg "sorted"=none
 My:mg "tuple"=none
def LT:List Nat:=(Str.ofString "abcdefghijklmnopqrstuvwxyz").cps.toList
def FG:List Nat:=(Str.ofString "0123456789").cps.toList
def AL:List Nat:=(Str.ofString "abcdefghijklmnopqrstuvwxyz0123456789").cps.toList
def Jk (l:List Nat):Bool:=if l.length<1∨8<l.length then false else decide (l.headD 0∈LT)&&l.all λc=>decide (c∈AL)
theorem ik {l:List Nat}(h:l.length<1):Jk l=false:=by unfold Jk;rw[if_pos (.inl h)]
theorem nh {l:List Nat}(h:8<l.length):Jk l=false:=by unfold Jk;rw[if_pos (.inr h)]
theorem qx {l:List Nat}{c:Nat}(h1:¬l.length<1)(h2:¬8<l.length)(e:l[0]?=some c):Jk l=(decide (c∈LT)&&l.all λc=>decide (c∈AL)):=by
 unfold Jk
 rw[if_neg (by intro h;rcases h with h|h<;>lia)]
 cases l with
 | nil=>simp at e
 | cons x r=>simp at e;subst e;rfl
theorem Abw:(1000:Nat)<sizeLine:=by decide
def Ym:Sp:=λvs H Q _=>∃t g:Str,vs=[.str t,.str g]/\t.length<=1000/\∀H',Same H H'->Q (.bl (t.cps.toList.all λc=>decide (c∈g.cps.toList))) H'
def mw:Sp:=λvs H Q _=>∃t:Str,vs=[.str t]/\t.length<=1000/\∀H',Same H H'->Q (.bl (Jk t.cps.toList)) H'
def kf:Sp:=λvs H Q _=>∃b e:Int,vs=[.int b,.int e]/\Q (.bl (decide (b<e))) H
def Zc (X:Addr):Sp:=λvs H Q E=>∃b e:Int,vs=[.int b,.int e]/\(b<e->Q .non H)/\(¬b<e->E (.ref X) none H)
theorem Af7 {i j:Int}:decide (V.int i=V.int j)=decide (i=j):=Ahe.mpr (by rw[V.int.injEq])
theorem take_snoc {α:Type}{l:List α}{i:Nat}{y:α}(h:l[i]?=some y):l.take (i+1)=l.take i++[y]:=by rw[Akr,h];rfl
theorem Af0 {cm:Bool}{k:Nat}{A:Around}(hr:Room cm k A):A.units+40<cLine:=Ag2 (Akc (by decide:40<=64) _) hr.units
def W0 (K:W.Frag):Sp:=λvs H Q _=>∃(p:Addr)(ns:List Int)(x:Int),vs=[.ref p,.int x]/\SqT K H p (ns.map V.int)/\DC.wx ns/\ns.length<=1000/\Q (.int (DC.below ns x:Nat)) H
theorem half {lo hi:Nat}:((lo:Int)+(hi:Int))/2=(((lo+hi)/2:Nat):Int):=by lia
theorem Aat {ns:List Int}{i:Nat}{a:Int}(h:ns[i]?=some a):(ns.map V.int)[i]?=some (.int a):=by rw[Agz,h];rfl
theorem zv {ns:List Int}{i:Nat}(h:i<ns.length):∃a,ns[i]?=some a:=⟨ns[i],by simp[h]⟩
def Xg (K:W.Frag):Sp:=λvs H Q _=>∃(p:Addr)(ns:List Int)(k:Int),vs=[.ref p,.int k]/\SqL K H p (ns.map V.int)/\0<=k/\∀v:Int,Q (.int v) H
def wu:Sp:=λvs H Q _=>∃(p:Addr)(b0 e0 b e:Int),vs=[.ref p,.int b,.int e]/\H p=some (.tup [.int b0,.int e0])/\Q (.bl (decide (max b0 b<min e0 e))) H
open DRu (Ru dpR gc Yn fu xc qr xi DyI OkC OkR)
open DR (days)
theorem yx:∀{ms ds:List Int},ms.Nodup->(∀k∈ms,k∈ds)->ms.length<=ds.length:=λh1 h2=>h1.length_le_of_subset h2
theorem Aa8 {k f:Str}{v:V}{fs:List (Str×V)}(h:(k==f)=false):List.lookup k ((f,v)::fs)=List.lookup k fs:=by
 show(match k==f with|true=>_|false=>_)=_
 rw[h]
 rfl
theorem noK {m:Str}:∀{fs:List (Str×V)}{ks:List Str},fs.map (·.1)=ks->(ks.all λk=>!(m==k))=true->fs.lookup m=none
 | [],_,_,_=>rfl
 |
  (k,v)::fs,_,rfl,h=>by
  rw[Agy,List.all_cons,Ag6,Aly] at h
  rw[Aa8 h.1]
  exact noK rfl h.2
structure RAd where
 ev:Addr
 ch:Addr
abbrev rd (a:Adr):RAd:=⟨a.A7,a.Ai⟩
abbrev FE:List (Str×V):=[("step",.int 1),("first",.int 9)]
abbrev FC (y p q o g l:Addr):List (Str×V):=[("rule",.ref y),("left",.ref p),("more",.ref q),("moved",.ref o),("gained",.ref g),("lost",.ref l)]
abbrev FC4 (y p q o:Addr):List (Str×V):=[("rule",.ref y),("left",.ref p),("more",.ref q),("moved",.ref o)]
abbrev FC5 (y p q o g:Addr):List (Str×V):=[("rule",.ref y),("left",.ref p),("more",.ref q),("moved",.ref o),("gained",.ref g)]
def Gs (H:Hp)(g:Addr)(gs:List Int)(f:Int->Bool)(ls ms:List Int)(mv:List (Int×Int)):Prop:=H g=some (.tup (gs.map V.int))/\DC.wx gs/\gs.length<=4/\∀k,k∈gs↔k∈gc f ls ms mv
def RuAt (A:RAd)(X:List Addr)(H:Hp):Ru->Addr->Prop
 | .ev=>λx=>∃dx,H x=some (.ins A.ev dx FE)
 | .ch r ls ms mv=>λx=>∃dx y p q o g l gs kvs,H x=some (.ins A.ch dx (FC y p q o g l))/\RuAt A X H r y/\Gs H g gs (fu r) ls ms mv/\H l=some (.dK kvs)/\(∀k:Int,(Nl kvs (.inl k)).isSome=decide (k∈Yn ls mv))/\l∉X
set_option smartUnfolding true in
theorem RuAt.isCh {A:RAd}{X:List Addr}{H:Hp}{r:Ru}{ls ms:List Int}{mv:List (Int×Int)}{x:Addr}:RuAt A X H (.ch r ls ms mv) x↔ ∃dx y p q o g l gs kvs,H x=some (.ins A.ch dx (FC y p q o g l))/\RuAt A X H r y/\Gs H g gs (fu r) ls ms mv/\H l=some (.dK kvs)/\(∀k:Int,(Nl kvs (.inl k)).isSome=decide (k∈Yn ls mv))/\l∉X:=Iff.rfl
set_option smartUnfolding true in
theorem RuAt.isEv {A:RAd}{X:List Addr}{H:Hp}{x:Addr}:RuAt A X H .ev x↔ ∃dx,H x=some (.ins A.ev dx FE):=Iff.rfl
def SameO (X:List Addr)(H H':Hp):Prop:=∀b o,(∀xs,o≠ .lst xs)->(b∈X->∀kvs,o≠ .dK kvs)->H b=some o->H' b=some o
theorem SameO.of {X:List Addr}{H H':Hp}(s:Same H H'):SameO X H H':=λb o _ _ e=>s b o e
theorem RuAt.upO {A:RAd}{X:List Addr}{H H':Hp}(s:SameO X H H'):∀{r:Ru}{x:Addr},RuAt A X H r x->RuAt A X H' r x:=λ{r}=>by
 induction r with
 | ev=>intro x h;obtain⟨dx,h⟩:=RuAt.isEv.mp h;exact RuAt.isEv.mpr ⟨dx,s _ _ (λ_ z=>nomatch z) (λ_ _ z=>nomatch z) h⟩
 |
  ch r ls ms mv ih=>
  intro x h
  obtain⟨dx,y,p,q,o,g,l,gs,kvs,h,h1,⟨h2,h3⟩,h4,h5,h6⟩:=RuAt.isCh.mp h
  exact RuAt.isCh.mpr ⟨dx,y,p,q,o,g,l,gs,kvs,s _ _ (λ_ z=>nomatch z) (λ_ _ z=>nomatch z) h,ih h1,⟨s _ _ (λ_ z=>nomatch z) (λ_ _ z=>nomatch z) h2,h3⟩,s _ _ (λ_ z=>nomatch z) (λz=>absurd z h6) h4,h5,h6⟩
theorem RuAt.up {A:RAd}{X:List Addr}{H H':Hp}(s:Same H H'){r:Ru}{x:Addr}(h:RuAt A X H r x):RuAt A X H' r x:=h.upO (SameO.of s)
def o2:Sp:=λvs H Q _=>∃d:Int,vs=[.int d]/\Q (.bl (decide (0<=d/\d<146097))) H
def U9:Sp:=λvs H Q _=>∃n l m:Int,vs=[.int n,.int l,.int m]/\l<=n/\n<=m/\Q .non H
def Tw:Sp:=λvs H Q _=>∃n:Int,vs=[.int n]/\DyI n/\Q .non H
def Yz (E:Addr):Sp:=λvs H Q _=>∃(x dx:Addr),vs=[.ref x,.int 1,.int 9]/\H x=some (.ins E dx [])/\Q .non (upd H x (.ins E dx FE))
def Na (E:Addr):Sp:=λvs H Q _=>∃(x dx:Addr)(d:Int),vs=[.ref x,.int d]/\H x=some (.ins E dx FE)/\Q (.bl (fu .ev d)) H
def Oe (E:Addr):Sp:=λvs H Q _=>∃(x dx:Addr)(b e:Int),vs=[.ref x,.int b,.int e]/\H x=some (.ins E dx FE)/\(max b 9<min e 146097->Q (.int (max b 9)) H)/\(¬max b 9<min e 146097->Q .non H)
def DLs (f:Int->Bool)(b e:Int)(Q:VK)(H:Hp):Prop:=∀(D:Addr)H',Same H H'->H' D=some (.lst ((days f b e).map V.int))->Q (.ref D) H'
def Wn (b e:Int):Prop:=0<=b/\e<=15
def Od (E:Addr):Sp:=λvs H Q _=>∃(x dx:Addr)(b e:Int),vs=[.ref x,.int b,.int e]/\H x=some (.ins E dx FE)/\Wn b e/\DLs (fu .ev) b e Q H
def pq:Sp:=λvs H Q _=>∃(p q:Addr)(xs ys:List Int),vs=[.ref p,.ref q]/\H p=some (.lst (xs.map V.int))/\H q=some (.lst (ys.map V.int))/\xs.length<=20/\ys.length<=20/\xs.Pairwise (· < ·)/\ys.Pairwise (· < ·)/\
 ∀(D:Addr)H'(ms:List Int),Same H H'->H' D=some (.lst (ms.map V.int))->ms.Pairwise (· < ·)->(∀k,k∈ms↔k∈xs∨k∈ys)->Q (.ref D) H'
theorem Ac6 (xs:List Int):(xs.map V.int).isEmpty=xs.isEmpty:=by cases xs<;>rfl
def Kt (C:Addr):Sp:=λvs H Q _=>∃(x dx y p q o g l:Addr)(gs:List Int)(d:Int),vs=[.ref x,.int d]/\H x=some (.ins C dx (FC y p q o g l))/\H g=some (.tup (gs.map V.int))/\DC.wx gs/\gs.length<=20/\Q (.bl (decide (d∈gs))) H
def spF (A:RAd)(n:Nat):Sp:=λvs H Q _=>∃(X:List Addr)(x:Addr)(d:Int)(r:Ru)(ls ms:List Int)(mv:List (Int×Int)),vs=[.ref x,.int d]/\dpR r<n/\RuAt A X H (.ch r ls ms mv) x/\Q (.bl (fu (.ch r ls ms mv) d)) H
def dF (a:Adr)(n:Nat):Addr->(V->List V->Hp->VK->Prop)->Prop:=λC R=>(C=a.A7/\R=λx vs H Q=>Na a.A7 (x::(vs++([]:List V))) H Q E0)∨(C=a.Ai/\R=λx vs H Q=>spF (rd a) n (x::(vs++([]:List V))) H Q E0)
theorem jk {a:Adr}{n:Nat}{X:List Addr}{H:Hp}{x:Addr}{r:Ru}{d:Int}(hr:RuAt (rd a) X H r x)(hn:dpR r<=n):
  ∃(C dx:Addr)(fs:List (Str×V))(R':V->List V->Hp->VK->Prop),H x=some (.ins C dx fs)/\fs.lookup ("falls_on":Str)=none/\dF a n C R'/\∀R:VK,R (.bl (fu r d)) H->R' (.ref x) [.int d] H R:=by
 cases r with
 |
  ev=>
  obtain⟨dx,h⟩:=RuAt.isEv.mp hr
  exact⟨_,dx,_,_,h,noK (ks:=["step","first"]) rfl (by decide+kernel),.inl ⟨rfl,rfl⟩,λR k=>⟨x,dx,d,rfl,h,k⟩⟩
 |
  ch r ls ms mv=>
  have h:=hr
  obtain⟨dx,y,p,q,o,g,l,gs,kvs,h,_⟩:=RuAt.isCh.mp h
  exact⟨_,dx,_,_,h,noK (ks:=["rule","left","more","moved","gained","lost"]) rfl (by decide+kernel),.inr ⟨rfl,rfl⟩,λR k=>⟨X,x,d,r,ls,ms,mv,rfl,by rw[xi] at hn;lia,hr,k⟩⟩
def spD (A:RAd)(n:Nat):Sp:=λvs H Q _=>∃(X:List Addr)(x:Addr)(b e:Int)(r:Ru)(ls ms:List Int)(mv:List (Int×Int)),vs=[.ref x,.int b,.int e]/\dpR r<n/\OkR r/\OkC ls ms mv/\RuAt A X H (.ch r ls ms mv) x/\Wn b e/\DLs (fu (.ch r ls ms mv)) b e Q H
def dD (a:Adr)(n:Nat):Addr->(V->List V->Hp->VK->Prop)->Prop:=λC R=>(C=a.A7/\R=λx vs H Q=>Od a.A7 (x::(vs++([]:List V))) H Q E0)∨(C=a.Ai/\R=λx vs H Q=>spD (rd a) n (x::(vs++([]:List V))) H Q E0)
theorem p5 {a:Adr}{n:Nat}{X:List Addr}{H:Hp}{x:Addr}{r:Ru}{b e:Int}(hr:RuAt (rd a) X H r x)(hn:dpR r<=n)(ok:OkR r)(hw:Wn b e):
  ∃(C dx:Addr)(fs:List (Str×V))(R':V->List V->Hp->VK->Prop),H x=some (.ins C dx fs)/\fs.lookup ("days_in":Str)=none/\dD a n C R'/\∀R:VK,DLs (fu r) b e R H->R' (.ref x) [.int b,.int e] H R:=by
 cases r with
 |
  ev=>
  obtain⟨dx,h⟩:=RuAt.isEv.mp hr
  exact⟨_,dx,_,_,h,noK (ks:=["step","first"]) rfl (by decide+kernel),.inl ⟨rfl,rfl⟩,λR k=>⟨x,dx,b,e,rfl,h,hw,k⟩⟩
 |
  ch r ls ms mv=>
  have h:=hr
  obtain⟨dx,y,p,q,o,g,l,gs,kvs,h,_⟩:=RuAt.isCh.mp h
  exact⟨_,dx,_,_,h,noK (ks:=["rule","left","more","moved","gained","lost"]) rfl (by decide+kernel),.inr ⟨rfl,rfl⟩,λR k=>⟨X,x,b,e,r,ls,ms,mv,rfl,by rw[xi] at hn;lia,(DRu.vh.mp ok).1,(DRu.vh.mp ok).2,hr,hw,k⟩⟩
def Afg (p:Int->Bool):V->Bool
 | .int d=>p d
 | _=>false
theorem Afk {p:Int->Bool}{ds:List Int}:(ds.map V.int).filter (Afg p)=(ds.filter p).map V.int:=by
 induction ds with
 | nil=>rfl
 |
  cons d ds ih=>
  rw[Agy,Aje,Aje]
  show(if p d=true then _ else _)=_
  split
  · rw[Agy,ih]
  · exact ih
theorem zj {xs:List V}{i j:Nat}(h:j<=xs.length)(hi:i<=xs.length):kz xs (some (i:Int)) (some (j:Int))=(xs.take j).drop i:=by
 unfold kz
 rw[HT.u6,HT.u6,Nat.min_eq_left h,Nat.min_eq_left hi,List.drop_take]
theorem Aem (ls:List Int):(ls.map V.int).all Yv=true:=by rw[List.all_map];exact List.all_eq_true.mpr λ_ _=>rfl
def MvAt (H:Hp)(o:Addr)(mv:List (Int×Int)):Prop:=∃rs:List RA,H o=some (.tup (refs rs))/\RowOk H rs/\sps rs=mv
theorem MvAt.up {H H':Hp}{o:Addr}{mv:List (Int×Int)}(h:MvAt H o mv)(s:Same H H'):MvAt H' o mv:=by
 obtain⟨rs,h1,h2,h3⟩:=h
 exact⟨rs,s _ _ h1,h2.up s,h3⟩
def P5 (A:RAd)(n:Nat):Sp:=λvs H Q _=>∃(X:List Addr)(x dx y p q o:Addr)(r:Ru)(ls ms:List Int)(mv:List (Int×Int)),vs=[.ref x]/\H x=some (.ins A.ch dx (FC4 y p q o))/\RuAt A X H r y/\dpR r<=n/\H p=some (.tup (ls.map V.int))/\H q=some (.tup (ms.map V.int))/\MvAt H o mv/\OkC ls ms mv/\
 ∀g gs H',Same H H'->Gs H' g gs (fu r) ls ms mv->Q (.ref g) H'
def Ls (H:Hp)(l:Addr)(ls:List Int)(mv:List (Int×Int)):Prop:=∃kvs,H l=some (.dK kvs)/\∀k:Int,(Nl kvs (Sum.inl k)).isSome=decide (k∈Yn ls mv)
def Tf (C:Addr):Sp:=λvs H Q _=>∃(x dx y p q o g:Addr)(ls:List Int)(mv:List (Int×Int)),vs=[.ref x]/\H x=some (.ins C dx (FC5 y p q o g))/\H p=some (.tup (ls.map V.int))/\MvAt H o mv/\ls.length<=2/\mv.length<=2/\
 ∀l H',Same H H'->H l=none->Ls H' l ls mv->Q (.ref l) H'
def Wq (A:RAd)(n:Nat):Sp:=λvs H Q _=>∃(X:List Addr)(x dx y p0 q0 o0:Addr)(r:Ru)(ls ms:List Int)(mv:List (Int×Int))(H0:Hp),vs=[.ref x,.ref y,.ref p0,.ref q0,.ref o0]/\H x=some (.ins A.ch dx [])/\H0 x=none/\Same H0 H/\(∀b∈X,∃o,H0 b=some o)/\RuAt A X H0 r y/\dpR r<=n/\H0 p0=some (.tup (ls.map V.int))/\H0 q0=some (.tup (ms.map V.int))/\MvAt H0 o0 mv/\OkC ls ms mv/\
 ∀H',SameX x H H'->RuAt A X H' (.ch r ls ms mv) x->Q .non H'
theorem zc {kvs:List (Key×V)}{k j:Int}{v:V}:(Nl (putK kvs (Sum.inl k:Key) v) (Sum.inl j)).isSome=(decide (j=k)||(Nl kvs (Sum.inl j)).isSome):=by
 rw[yc]
 by_cases h:j=k
 · rw[if_pos (by rw[h]),Age h];rfl
 · rw[if_neg (λe=>h (Sum.inl.inj e)),Agp h,Bool.false_or]
theorem jm {kvs:List (Key×V)}{k:Key}{v:V}:(putK kvs k v).length<=kvs.length+1:=by
 unfold putK
 split
 · rw[Agd];lia
 · rw[Agw];exact Agi _
theorem sx0 {H0 H H':Hp}{x:Addr}(h0:H0 x=none)(s:Same H0 H)(sx:SameX x H H'):Same H0 H':=λc u e=>sx _ _ (λz=>by rw[z,h0] at e;cases e) (s _ _ e)
theorem Ej {L:Addr}{H:Hp}{o:HO}:SameX L H (upd H L o):=λb u n e=>by rw[Ak n];exact e
theorem _root_.L2.SameX.tr {L:Addr}{H H1 H2:Hp}(a:SameX L H H1)(b:SameX L H1 H2):SameX L H H2:=λc o n e=>b c o n (a c o n e)
theorem _root_.L2.SameX.of {L:Addr}{H H':Hp}(s:Same H H'):SameX L H H':=λb o _ e=>s b o e
def lh (A:RAd):Sp:=λvs H Q _=>∃(X:List Addr)(x:Addr)(b e:Int)(r:Ru),vs=[.ref x,.int b,.int e]/\RuAt A X H r x/\dpR r<=8/\OkR r/\b<=0/\e<=15/\DLs (fu r) 0 e Q H
abbrev FP (c m:Addr):List (Str×V):=[("name",.str "here"),("offset",.int 0),("changes",.ref c),("moments",.ref m)]
def PlAt (C:Addr)(H:Hp)(p:Addr):Prop:=∃dx c m,H p=some (.ins C dx (FP c m))/\H c=some (.tup [])/\H m=some (.tup [])
theorem PlAt.upT {C:Addr}{H H':Hp}{p:Addr}(h:PlAt C H p)(s:∀b o,(∀xs,o≠ .lst xs)->(∀kvs,o≠ .dK kvs)->H b=some o->H' b=some o):PlAt C H' p:=by
 obtain⟨dx,c,m,h1,h2,h3⟩:=h
 exact⟨dx,c,m,s _ _ (λ_ z=>nomatch z) (λ_ z=>nomatch z) h1,s _ _ (λ_ z=>nomatch z) (λ_ z=>nomatch z) h2,s _ _ (λ_ z=>nomatch z) (λ_ z=>nomatch z) h3⟩
theorem PlAt.up {C:Addr}{H H':Hp}{p:Addr}(h:PlAt C H p)(s:Same H H'):PlAt C H' p:=h.upT λb o _ _ e=>s b o e
def Vz:Sp:=λvs H Q _=>∃o:Int,vs=[.int o]/\ -900<=o/\o<=900/\Q .non H
def Us:Sp:=λvs H Q _=>∃p:Addr,vs=[.ref p]/\H p=some (.tup [])/\Q .non H
def Zq (C:Addr):Sp:=λvs H Q _=>∃(x dx:Addr),vs=[.ref x,.str "here",.int 0,.non]/\H x=some (.ins C dx [])/\∀H',SameX x H H'->PlAt C H' x->Q .non H'
def Uc (C:Addr):Sp:=λvs H Q _=>∃p:Addr,vs=[.ref p,.int 0]/\PlAt C H p/\Q (.int 0) H
def Ul (C:Addr):Sp:=λvs H Q _=>∃(p:Addr)(m:Int),vs=[.ref p,.int m]/\PlAt C H p/\Q (.int 0) H
def Zf (C:Addr):Sp:=λvs H Q _=>∃(p:Addr)(d m:Int),vs=[.ref p,.int d,.int m]/\PlAt C H p/\∀l H',Same H H'->H' l=some (.lst [.int (d*1440+m)])->Q (.ref l) H'
def dw (C:Addr):Sp:=λvs H Q _=>∃(p:Addr)(d m:Int),vs=[.ref p,.int d,.int m,.bl false]/\PlAt C H p/\∀H',Same H H'->Q (.int (d*1440+m)) H'
abbrev FA (r p:Addr)(m l n:Int):List (Str×V):=[("rule",.ref r),("place",.ref p),("minute",.int m),("length",.int l),("exceptions",.int n)]
def n9 (m l:Int):Prop:=(0<=m/\m<1440)/\(1<=l/\l<=10080)
structure AAd where
 rs:RAd
 ag:Addr
 pl:Addr
 on:Addr
 bk:Addr
abbrev ad (a:Adr):AAd:=⟨rd a,a.Aq,a.A0,a.Bo,a.A3⟩
def AgAt (A:AAd)(X:List Addr)(H:Hp)(x:Addr)(r:Ru)(m l:Int)(n:Nat):Prop:=∃dx y p,H x=some (.ins A.ag dx (FA y p m l n))/\RuAt A.rs X H r y/\PlAt A.pl H p
theorem AgAt.upO {A:AAd}{X:List Addr}{H H':Hp}{x:Addr}{r:Ru}{m l:Int}{n:Nat}(h:AgAt A X H x r m l n)(s:SameO X H H'):AgAt A X H' x r m l n:=by
 obtain⟨dx,y,p,h1,h2,h3⟩:=h
 exact⟨dx,y,p,s _ _ (λ_ z=>nomatch z) (λ_ _ z=>nomatch z) h1,h2.upO s,h3.upT λb o hl ho e=>s b o hl (λ_=>ho) e⟩
theorem AgAt.up {A:AAd}{X:List Addr}{H H':Hp}{x:Addr}{r:Ru}{m l:Int}{n:Nat}(h:AgAt A X H x r m l n)(s:Same H H'):AgAt A X H' x r m l n:=h.upO (SameO.of s)
structure OkA (r:Ru)(m l:Int)(n:Nat):Prop where
 ml:n9 m l
 ok:OkR r
 dp:dpR r<=n
 n8:n<=8
def bu (m:Int):Int:=(20000-m+900)/1440+1
def k2 (z:Int×Int):List Key:=[.inl z.1,.inl z.2]
def agS (r:Ru)(m l:Int):List (Int×Int):=((days (fu r) 0 (bu m)).map λd=>(d*1440+m,d*1440+m+l)).filter λz=>decide (max z.1 0<min z.2 20000)
def onS (b e:Int):List (Int×Int):=if max b 0<min e 20000 then[(b,e)] else[]
theorem qm {m:Int}(h0:0<=m):bu m<=15:=by unfold bu;lia
theorem zy {r:Ru}{m l:Int}(ok:OkR r)(h0:0<=m):(agS r m l).length<=6:=by
 unfold agS
 refine Ag1 (Ah2 _ _) ?_
 rw[Agd]
 exact DRu.Yt ok (qm h0)
theorem zk (b e:Int):(onS b e).length<=1:=by
 unfold onS
 split
 · exact Agi _
 · exact Ahn _
def d8 (C X:Addr):Sp:=λvs H Q E=>∃(x dx:Addr)(b e:Int),vs=[.ref x,.int b,.int e]/\H x=some (.ins C dx [])/\b<e/\Q .non (upd H x (.ins C dx [("begin",.int b),("end",.int e)]))
def SpL (L:List (Int×Int))(Q:VK)(H:Hp):Prop:=∀(l:Addr)(qs:List (List Key×Addr))H',Same H H'->H l=none->TupsAt H' l qs->qs.map (·.1)=L.map k2->Q (.ref l) H'
def Kx (C:Addr):Sp:=λvs H Q _=>∃(x dx:Addr)(b e:Int),vs=[.ref x,.int 0,.int 20000]/\H x=some (.ins C dx [("begin",.int b),("end",.int e)])/\SpL (onS b e) Q H
def Zd (C X:Addr):Sp:=λvs H Q E=>∃(x dx y p:Addr)(m l n:Int),vs=[.ref x,.ref y,.ref p,.int m,.int l,.int n]/\H x=some (.ins C dx [])/\(n9 m l->Q .non (upd H x (.ins C dx (FA y p m l n))))/\(¬n9 m l->E (.ref X) none H)
def Rz (A:AAd):Sp:=λvs H Q _=>∃(X:List Addr)(x:Addr)(r:Ru)(m l:Int)(n:Nat),vs=[.ref x,.int 0,.int 20000]/\AgAt A X H x r m l n/\OkA r m l n/\DLs (fu r) 0 (bu m) Q H
def J2 (A:AAd):Sp:=λvs H Q _=>∃(X:List Addr)(x:Addr)(r:Ru)(m l:Int)(n:Nat),vs=[.ref x,.int 0,.int 20000]/\AgAt A X H x r m l n/\OkA r m l n/\SpL (agS r m l) Q H
def Pn (A:AAd)(F:Addr):Sp:=λvs H Q E=>∃(X:List Addr)(x p q o:Addr)(r:Ru)(m l:Int)(n:Nat)(ls ms:List Int)(mv:List (Int×Int)),vs=[.ref x,.ref p,.ref q,.ref o]/\AgAt A X H x r m l n/\OkA r m l n/\(∀b∈X,∃o,H b=some o)/\H p=some (.tup (ls.map V.int))/\H q=some (.tup (ms.map V.int))/\MvAt H o mv/\OkC ls ms mv/\
 (n<8->∀y H',Same H H'->AgAt A X H' y (.ch r ls ms mv) m l (n+1)->Q (.ref y) H')/\(¬n<8->E (.ref F) none H)
def AgQ (A:AAd)(F:Addr)(X:List Addr)(H:Hp)(r:Ru)(m l:Int)(n:Nat)(ls ms:List Int)(mv:List (Int×Int))(Q:VK)(E:XK):Prop:=(n<8->∀y H',Same H H'->AgAt A X H' y (.ch r ls ms mv) m l (n+1)->Q (.ref y) H')/\(¬n<8->∀H',Same H H'->E (.ref F) none H')
def Xs (A:AAd)(F:Addr):Sp:=λvs H Q E=>∃(X:List Addr)(x:Addr)(r:Ru)(m l:Int)(n:Nat),vs=[.ref x,.int 9]/\AgAt A X H x r m l n/\OkA r m l n/\(∀b∈X,∃o,H b=some o)/\AgQ A F X H r m l n [9] [] [] Q E
def Vr (A:AAd)(F:Addr):Sp:=λvs H Q E=>∃(X:List Addr)(x:Addr)(r:Ru)(m l:Int)(n:Nat),vs=[.ref x,.int 9]/\AgAt A X H x r m l n/\OkA r m l n/\(∀b∈X,∃o,H b=some o)/\AgQ A F X H r m l n [] [9] [] Q E
def Q3 (A:AAd)(F:Addr):Sp:=λvs H Q E=>∃(X:List Addr)(x:Addr)(r:Ru)(m l:Int)(n:Nat),vs=[.ref x,.int 9,.int 10]/\AgAt A X H x r m l n/\OkA r m l n/\(∀b∈X,∃o,H b=some o)/\AgQ A F X H r m l n [] [] [(9,10)] Q E
theorem ok9:OkC [9] [] []:=⟨by decide,by decide,by decide,λd h=>by rw[Ag3] at h;subst h;exact⟨by decide,by decide⟩,(λ_ z=>nomatch z),(λ_ z=>nomatch z)⟩
theorem Ae1:OkC [] [9] []:=⟨by decide,by decide,by decide,(λ_ z=>nomatch z),λd h=>by rw[Ag3] at h;subst h;exact⟨by decide,by decide⟩,λ_ z=>nomatch z⟩
theorem Aeu:OkC [] [] [(9,10)]:=⟨by decide,by decide,by decide,(λ_ z=>nomatch z),(λ_ z=>nomatch z),λd h=>by rw[Ag3] at h;subst h;exact⟨⟨by decide,by decide⟩,⟨by decide,by decide⟩⟩⟩
theorem OkA.next {r:Ru}{m l:Int}{n:Nat}{ls ms:List Int}{mv:List (Int×Int)}(h:OkA r m l n)(ok:OkC ls ms mv)(h8:n<8):OkA (.ch r ls ms mv) m l (n+1):=⟨h.ml,DRu.vh.mpr ⟨h.ok,ok⟩,by rw[xi];have:=h.dp;lia,h8⟩
def inK:List Key->Bool
 | .inl b:: .inl e::_=>decide (max b 0<min e 20000)
 | _=>false
theorem Aaf {r:Ru}{m l:Int}{rs:List (List Key×Addr)}(er:rs.map (·.1)=((days (fu r) 0 (bu m)).map λd=>d*1440+m).map λu=>k2 (u,u+l)):(rs.filter λz=>inK z.1).map (λz=>z.1)=(agS r m l).map k2:=by
 have e1:(rs.filter λz=>inK z.1).map (λz=>z.1)=(rs.map (·.1)).filter inK:=by rw[Akd];rfl
 rw[e1,er]
 unfold agS
 rw[Aha,Akd,Akd,Aha]
 rfl
inductive Th where
 | on (b e:Int)
 | ag (r:Ru) (m l:Int) (n:Nat)
abbrev TH:=Str×Addr×Th
abbrev thN (x:TH):Str:=x.1
def NM4:List Str:=["me","mee","m","mf"]
def ThAt (A:AAd)(X:List Addr)(H:Hp)(o:Addr):Th->Prop
 | .on b e=>∃dx,H o=some (.ins A.on dx [("begin",.int b),("end",.int e)])
 | .ag r m l n=>AgAt A X H o r m l n
def OkT (nm:Str):Th->Prop
 | .on _ _=>True
 | .ag r m l n=>OkA r m l n/\nm∈NM4
def spT:Th->List (Int×Int)
 | .on b e=>onS b e
 | .ag r m l _=>agS r m l
def cnt:Th->Int
 | .on _ _=>0
 | .ag _ _ _ n=>(n:Int)+1
def isAg:Th->Bool
 | .on _ _=>false
 | .ag _ _ _ _=>true
set_option smartUnfolding true in
theorem ThAt.isOn {A:AAd}{X:List Addr}{H:Hp}{o:Addr}{b e:Int}:ThAt A X H o (.on b e)↔ ∃dx,H o=some (.ins A.on dx [("begin",.int b),("end",.int e)]):=Iff.rfl
set_option smartUnfolding true in
theorem ThAt.isAg {A:AAd}{X:List Addr}{H:Hp}{o:Addr}{r:Ru}{m l:Int}{n:Nat}:ThAt A X H o (.ag r m l n)↔AgAt A X H o r m l n:=Iff.rfl
theorem ThAt.upO {A:AAd}{X:List Addr}{H H':Hp}{o:Addr}{t:Th}(h:ThAt A X H o t)(s:SameO X H H'):ThAt A X H' o t:=by
 cases t with
 | on b e=>obtain⟨dx,h⟩:=ThAt.isOn.mp h;exact ThAt.isOn.mpr ⟨dx,s _ _ (λ_ z=>nomatch z) (λ_ _ z=>nomatch z) h⟩
 | ag r m l n=>exact ThAt.isAg.mpr ((ThAt.isAg.mp h).upO s)
def kvG (f:TH->V)(xs:List TH):List (Key×V):=xs.map λx=>(.inr x.1,f x)
abbrev kvT (xs:List TH):List (Key×V):=kvG (λx=>.ref x.2.1) xs
abbrev kvP (xs:List TH):List (Key×V):=kvG (λx=>.int (cnt x.2.2)) xs
theorem O0 {f:TH->V}(xs:List TH):(kvG f xs).length=xs.length:=by unfold kvG;rw[Agd]
theorem V6 {f:TH->V}{xs:List TH}{nm:Str}:(Nl (kvG f xs) (.inr nm)).isSome=decide (nm∈xs.map thN):=by
 induction xs with
 | nil=>rfl
 |
  cons x xs ih=>
  show(Nl ((Sum.inr x.1,f x)::kvG f xs) (.inr nm)).isSome=_
  by_cases e:x.1=nm
  ·
   subst e
   rw[Fo rfl]
   exact(Age (Ag8 (f:=thN) Agj)).symm
  ·
   rw[Fz (λz=>e (Ali z)),ih]
   exact Ahe.mpr (by rw[Agy,Agx];exact⟨.inr,λz=>z.resolve_left λw=>e w.symm⟩)
theorem ib {f:TH->V}{xs:List TH}{nm:Str}(h:¬nm∈xs.map thN):Nl (kvG f xs) (.inr nm)=none:=by
 cases e:Nl (kvG f xs) (.inr nm) with
 | none=>rfl
 | some v=>have:=V6 (f:=f) (xs:=xs) (nm:=nm);rw[e] at this;exact absurd (Agf this.symm) h
theorem bx {f:TH->V}{xs:List TH}{x:TH}(nd:(xs.map thN).Nodup)(hx:x∈xs):Nl (kvG f xs) (.inr x.1)=some (f x):=by
 induction xs with
 | nil=>cases hx
 |
  cons y xs ih=>
  show Nl ((Sum.inr y.1,f y)::kvG f xs) (.inr x.1)=_
  rw[Agy,List.nodup_cons] at nd
  rcases Agx.mp hx with rfl|hx
  · rw[Fo rfl]
  ·
   rw[Fz (λz=>nd.1 (by rw[show thN y=y.1 from rfl,Ali z];exact Ag8 (f:=thN) hx))]
   exact ih nd.2 hx
theorem vi {f:TH->V}{xs:List TH}{nm:Str}{o:Addr}{t:Th}(h:¬nm∈xs.map thN):putK (kvG f xs) (.inr nm) (f (nm,o,t))=kvG f (xs++[(nm,o,t)]):=by
 rw[vz _ (ib h)]
 unfold kvG;rw[Ahg];rfl
def T8 (xs:List TH)(nm:Str)(o:Addr)(t:Th):List TH:=xs.map λx=>if x.1=nm then(nm,o,t) else x
theorem Yr {f:TH->V}{xs:List TH}{nm:Str}{o:Addr}{t:Th}(h:nm∈xs.map thN):putK (kvG f xs) (.inr nm) (f (nm,o,t))=kvG f (T8 xs nm o t):=by
 unfold putK
 rw[Pg,V6,Age h,if_pos rfl]
 unfold kvG T8
 rw[Aha,Aha]
 refine Alj λx _=>?_
 show(if(Sum.inr x.1:Key)=Sum.inr nm then((Sum.inr x.1:Key),f (nm,o,t)) else(Sum.inr x.1,f x))=(λx:TH=>((Sum.inr x.1:Key),f x)) (if x.1=nm then(nm,o,t) else x)
 by_cases e:x.1=nm
 · rw[if_pos (by rw[e]),if_pos e,e]
 · rw[if_neg (λz=>e (Ali z)),if_neg e]
theorem Abe {xs:List TH}{nm:Str}{o:Addr}{t:Th}:(T8 xs nm o t).map thN=xs.map thN:=by
 unfold T8
 rw[Aha]
 refine Alj λx _=>?_
 show(if x.1=nm then(nm,o,t) else x).1=x.1
 by_cases e:x.1=nm
 · rw[if_pos e,e]
 · rw[if_neg e]
theorem ja {xs:List TH}{nm:Str}{o:Addr}{t:Th}{x:TH}(h:x∈T8 xs nm o t):x=(nm,o,t)∨x∈xs:=by
 unfold T8 at h
 obtain⟨y,hy,e⟩:=Ag7.mp h
 by_cases z:y.1=nm
 · rw[if_pos z] at e;exact .inl e.symm
 · rw[if_neg z] at e;exact .inr (e▸hy)
def Yd (xs:List TH)(nm:Str):List TH:=xs.filter λx=>decide (x.1≠nm)
theorem qq {f:TH->V}{xs:List TH}{nm:Str}:Z2 (kvG f xs) (.inr nm)=kvG f (Yd xs nm):=by
 unfold Z2 kvG Yd
 rw[Akd]
 congr 1
 refine List.filter_congr λx _=>?_
 exact Ahe.mpr ⟨λz w=>z (Ahb Sum.inr w),λz w=>z (Ali w)⟩
theorem sq {f:TH->V}(xs:List TH):(kvG f xs).map (·.1)=(xs.map thN).map Sum.inr:=by unfold kvG;rw[Aha,Aha];rfl
structure BookAt (A:AAd)(X:List Addr)(H:Hp)(b d:Addr)(xs:List TH):Prop where
 ins:∃db,H b=some (.ins A.bk db [("by_name",.ref d)])
 at_:H d=some (.dK (kvT xs))
 ok:∀x∈xs,ThAt A X H x.2.1 x.2.2
 nd:(xs.map thN).Nodup
 good:∀x∈xs,OkT x.1 x.2.2
 few:xs.length<=40
 xd:d∈X
 hX:∀c∈X,∃kvs,H c=some (.dK kvs)
theorem BookAt.upO {A:AAd}{X:List Addr}{H H':Hp}{b d:Addr}{xs:List TH}(h:BookAt A X H b d xs)(s:SameO X H H')(hd:H' d=some (.dK (kvT xs)))(hX:∀c∈X,∃kvs,H' c=some (.dK kvs)):BookAt A X H' b d xs:=
 ⟨let ⟨db,e⟩:=h.ins;⟨db,s _ _ (λ_ z=>nomatch z) (λ_ _ z=>nomatch z) e⟩,hd,λx hx=>(h.ok x hx).upO s,h.nd,h.good,h.few,h.xd,hX⟩
theorem BookAt.up {A:AAd}{X:List Addr}{H H':Hp}{b d:Addr}{xs:List TH}(h:BookAt A X H b d xs)(s:Same H H'):BookAt A X H' b d xs:=h.upO (SameO.of s) (s _ _ h.at_) λc hc=>let ⟨kvs,e⟩:=h.hX c hc;⟨kvs,s _ _ e⟩
theorem BookAt.put {A:AAd}{X:List Addr}{H:Hp}{b d:Addr}{xs xs':List TH}(h:BookAt A X H b d xs)(ok:∀x∈xs',ThAt A X H x.2.1 x.2.2)(nd:(xs'.map thN).Nodup)(good:∀x∈xs',OkT x.1 x.2.2)(few:xs'.length<=40):BookAt A X (upd H d (.dK (kvT xs'))) b d xs':=by
 have s:SameO X H (upd H d (.dK (kvT xs'))):=λc o _ hc e=>by
  by_cases z:c=d
  ·
   subst z
   rw[h.at_] at e
   cases e
   exact absurd rfl (hc h.xd _)
  · rw[Ak z];exact e
 refine⟨let ⟨db,e⟩:=h.ins;⟨db,s _ _ (λ_ z=>nomatch z) (λ_ _ z=>nomatch z) e⟩,Ac,λx hx=>(ok x hx).upO s,nd,good,few,h.xd,λc hc=>?_⟩
 by_cases z:c=d
 · exact⟨_,by rw[z];exact Ac⟩
 · rw[Ak z];exact h.hX c hc
theorem BookAt.drop {A:AAd}{X:List Addr}{H:Hp}{b d:Addr}{xs:List TH}(h:BookAt A X H b d xs)(nm:Str):BookAt A X (upd H d (.dK (kvT (Yd xs nm)))) b d (Yd xs nm):=
 h.put (λx hx=>h.ok x (Ajm.mp hx).1) (h.nd.sublist (List.filter_sublist.map _)) (λx hx=>h.good x (Ajm.mp hx).1) (Ag1 (Ah2 _ _) h.few)
theorem BookAt.add {A:AAd}{X:List Addr}{H:Hp}{b d:Addr}{xs:List TH}{nm:Str}{o:Addr}{t:Th}(h:BookAt A X H b d xs)(ht:ThAt A X H o t)(hk:OkT nm t)(hl:xs.length<40)(hn:¬nm∈xs.map thN):BookAt A X (upd H d (.dK (kvT (xs++[(nm,o,t)])))) b d (xs++[(nm,o,t)]):=by
 refine h.put (λx hx=>?_) ?_ (λx hx=>?_) (by rw[Agw];show xs.length+1<=40;lia)
 ·
  rcases Ahf.mp hx with hx|hx
  · exact h.ok x hx
  · rw[Ag3] at hx;subst hx;exact ht
 ·
  rw[Ahg]
  refine Alw.mpr ⟨h.nd,Ai4.mpr ⟨Ain,.nil⟩,λa ha c hc=>?_⟩
  rw[Alq,Ag3] at hc
  subst hc
  exact λz=>hn (z▸ha)
 ·
  rcases Ahf.mp hx with hx|hx
  · exact h.good x hx
  · rw[Ag3] at hx;subst hx;exact hk
theorem BookAt.repl {A:AAd}{X:List Addr}{H:Hp}{b d:Addr}{xs:List TH}{nm:Str}{o:Addr}{t:Th}(h:BookAt A X H b d xs)(ht:ThAt A X H o t)(hk:OkT nm t):BookAt A X (upd H d (.dK (kvT (T8 xs nm o t)))) b d (T8 xs nm o t):=by
 refine h.put (λx hx=>?_) (by rw[Abe];exact h.nd) (λx hx=>?_) (by unfold T8;rw[Agd];exact h.few)
 ·
  rcases ja hx with rfl|hx
  · exact ht
  · exact h.ok x hx
 ·
  rcases ja hx with rfl|hx
  · exact hk
  · exact h.good x hx
def Tj (xs:List TH)(nm:Str):Nat:=if 40<=xs.length then 1 else if Jk nm.cps.toList=false then 2 else if nm∈xs.map thN then 3 else 0
theorem yq {xs:List TH}{nm:Str}(h:40<=xs.length):Tj xs nm=1:=by unfold Tj;rw[if_pos h]
theorem yn {xs:List TH}{nm:Str}(h:¬40<=xs.length)(h2:Jk nm.cps.toList=false):Tj xs nm=2:=by unfold Tj;rw[if_neg h,if_pos h2]
theorem yo {xs:List TH}{nm:Str}(h:¬40<=xs.length)(h2:Jk nm.cps.toList=true)(h3:nm∈xs.map thN):Tj xs nm=3:=by unfold Tj;rw[if_neg h,if_neg (by rw[h2];decide),if_pos h3]
theorem om {xs:List TH}{nm:Str}(h:¬40<=xs.length)(h2:Jk nm.cps.toList=true)(h3:¬nm∈xs.map thN):Tj xs nm=0:=by unfold Tj;rw[if_neg h,if_neg (by rw[h2];decide),if_neg h3]
theorem xb {xs:List TH}{nm:Str}(h:Tj xs nm=0):xs.length<40/\Jk nm.cps.toList=true/\¬nm∈xs.map thN:=by
 unfold Tj at h
 by_cases h1:40<=xs.length
 · rw[if_pos h1] at h;cases h
 rw[if_neg h1] at h
 by_cases h2:Jk nm.cps.toList=false
 · rw[if_pos h2] at h;cases h
 rw[if_neg h2] at h
 by_cases h3:nm∈xs.map thN
 · rw[if_pos h3] at h;cases h
 exact⟨by lia,by simpa using h2,h3⟩
def ao (C:Addr):Sp:=λvs H Q _=>∃(x dx:Addr),vs=[.ref x]/\H x=some (.ins C dx [])/\∀d,H d=none->Q .non (upd (upd H d (.dK [])) x (.ins C dx [("by_name",.ref d)]))
def Aeg (F N K:Addr)(xs:List TH)(nm:Str)(H:Hp)(E:XK):Prop:=(Tj xs nm=1->∀H',Same H H'->E (.ref F) none H')/\(Tj xs nm=2->∀H',Same H H'->E (.ref N) none H')/\(Tj xs nm=3->∀H',Same H H'->E (.ref K) none H')
def Oy (A:AAd)(F N K:Addr):Sp:=λvs H Q E=>∃(X:List Addr)(b d:Addr)(xs:List TH)(nm:Str),vs=[.ref b,.str nm]/\BookAt A X H b d xs/\nm.length<=1000/\(Tj xs nm=0->∀H',Same H H'->Q .non H')/\Aeg F N K xs nm H E
def Pa (A:AAd)(F N K:Addr):Sp:=λvs H Q E=>∃(X:List Addr)(b d:Addr)(xs:List TH)(nm:Str)(s e:Int),vs=[.ref b,.str nm,.int s,.int e]/\BookAt A X H b d xs/\nm.length<=1000/\s<e/\
 (Tj xs nm=0->∀(o:Addr)H',SameX d H H'->BookAt A X H' b d (xs++[(nm,o,.on s e)])->Q .non H')/\Aeg F N K xs nm H E
def Q7 (A:AAd)(F N K:Addr):Sp:=λvs H Q E=>∃(X:List Addr)(b d y p:Addr)(xs:List TH)(nm:Str)(m l:Int),vs=[.ref b,.str nm,.ref y,.ref p,.int m,.int l]/\BookAt A X H b d xs/\nm.length<=1000/\(Jk nm.cps.toList=true->nm∈NM4)/\RuAt A.rs X H .ev y/\PlAt A.pl H p/\
 (Tj xs nm=0->n9 m l->∀(o:Addr)H',SameX d H H'->BookAt A X H' b d (xs++[(nm,o,.ag .ev m l 0)])->Q .non H')/\(Tj xs nm=0->¬n9 m l->∀H',Same H H'->E (.ref N) none H')/\Aeg F N K xs nm H E
def To (A:AAd)(N:Addr):Sp:=λvs H Q E=>∃(X:List Addr)(b d:Addr)(xs:List TH)(nm:Str),vs=[.ref b,.str nm]/\BookAt A X H b d xs/\
 (nm∈xs.map thN->BookAt A X (upd H d (.dK (kvT (Yd xs nm)))) b d (Yd xs nm)->Q .non (upd H d (.dK (kvT (Yd xs nm)))))/\(¬nm∈xs.map thN->E (.ref N) none H)
def under (xs:List TH)(nm:Str):Option (Addr×Th):=(xs.find? λx=>decide (x.1=nm)).map (·.2)
theorem Ga {xs:List TH}{nm:Str}{o:Addr}{t:Th}(h:under xs nm=some (o,t)):(nm,o,t)∈xs:=by
 unfold under at h
 obtain⟨x,hx,e⟩:=Ahc.mp h
 have h1:=List.mem_of_find?_eq_some hx
 have h2:x.1=nm:=Agf (List.find?_some (p:=λx:TH=>decide (x.1=nm)) hx)
 have:x=(nm,o,t):=Prod.ext h2 e
 rw[←this];exact h1
theorem Sr {xs:List TH}{nm:Str}(h:under xs nm=none):¬nm∈xs.map thN:=by
 unfold under at h
 rw[Option.map_eq_none_iff,List.find?_eq_none] at h
 intro w
 obtain⟨x,hx,rfl⟩:=Ag7.mp w
 exact h x hx (Age rfl)
def Qx (A:AAd)(N:Addr):Sp:=λvs H Q E=>∃(X:List Addr)(b d:Addr)(xs:List TH)(nm:Str),vs=[.ref b,.str nm]/\BookAt A X H b d xs/\
 (∀o r m l n,under xs nm=some (o,.ag r m l n)->Q (.ref o) H)/\((∀o r m l n,under xs nm≠some (o,.ag r m l n))->E (.ref N) none H)
def LvQ (A:AAd)(F N:Addr)(X:List Addr)(b d:Addr)(xs:List TH)(nm:Str)(ls ms:List Int)(mv:List (Int×Int))(H:Hp)(Q:VK)(E:XK):Prop:=
 (∀o r m l n,under xs nm=some (o,.ag r m l n)->n<8->∀(o':Addr)H',SameX d H H'->BookAt A X H' b d (T8 xs nm o' (.ag (.ch r ls ms mv) m l (n+1)))->Q .non H')/\
 (∀o r m l n,under xs nm=some (o,.ag r m l n)->¬n<8->∀H',Same H H'->E (.ref F) none H')/\
 ((∀o r m l n,under xs nm≠some (o,.ag r m l n))->∀H',Same H H'->E (.ref N) none H')
def jx (A:AAd)(F N:Addr):Sp:=λvs H Q E=>∃(X:List Addr)(b d:Addr)(xs:List TH)(nm:Str),vs=[.ref b,.str nm,.int 9]/\BookAt A X H b d xs/\LvQ A F N X b d xs nm [9] [] [] H Q E
def je (A:AAd)(F N:Addr):Sp:=λvs H Q E=>∃(X:List Addr)(b d:Addr)(xs:List TH)(nm:Str),vs=[.ref b,.str nm,.int 9]/\BookAt A X H b d xs/\LvQ A F N X b d xs nm [] [9] [] H Q E
def i5 (A:AAd)(F N:Addr):Sp:=λvs H Q E=>∃(X:List Addr)(b d:Addr)(xs:List TH)(nm:Str),vs=[.ref b,.str nm,.int 9,.int 10]/\BookAt A X H b d xs/\LvQ A F N X b d xs nm [] [] [(9,10)] H Q E
def Ki (A:AAd):Sp:=λvs H Q _=>∃(X:List Addr)(b d:Addr)(xs:List TH),vs=[.ref b]/\BookAt A X H b d xs/\∀(l:Addr)(ms:List Str),H l=none->ms.Perm (xs.map thN)->(ms.Pairwise λx y=>ltS y x=false)->Q (.ref l) (upd H l (.lst (ms.map V.str)))
def k3 (nm:Str)(z:Int×Int):List Key:=[.inl z.1,.inl z.2,.inr nm]
def ma (xs:List TH):List (List Key):=xs.flatMap λx=>(spT x.2.2).map (k3 x.1)
theorem qj {xs:List TH}{i:Nat}{x:TH}(h:xs[i]?=some x):ma (xs.take (i+1))=ma (xs.take i)++(spT x.2.2).map (k3 x.1):=by
 rw[take_snoc h]
 unfold ma
 rw[List.flatMap_append,List.flatMap_singleton]
theorem Aa6 {nm:Str}{t:Th}(h:OkT nm t):(spT t).length<=1+5*(if isAg t=true then 1 else 0):=by
 cases t with
 | on b e=>exact zk b e
 | ag r m l n=>exact zy h.1.ok h.1.ml.1.1
theorem ix:∀{xs:List TH},(∀x∈xs,OkT x.1 x.2.2)->(ma xs).length<=xs.length+5*(xs.filter λx=>isAg x.2.2).length
 | [],_=>Agi _
 |
  x::xs,h=>by
  have ih:=ix (xs:=xs) λy hy=>h y (Agh _ hy)
  have hx:=Aa6 (h x Agj)
  show(((spT x.2.2).map (k3 x.1))++ma xs).length<=_
  rw[Agw,Agd,Agr]
  by_cases z:isAg x.2.2=true
  ·
   rw[List.filter_cons_of_pos (p:=λx:TH=>isAg x.2.2) z,Agr]
   rw[if_pos z] at hx
   lia
  ·
   rw[List.filter_cons_of_neg (p:=λx:TH=>isAg x.2.2) z]
   rw[if_neg z] at hx
   lia
theorem j9 {xs:List TH}(few:xs.length<=40)(nd:(xs.map thN).Nodup)(good:∀x∈xs,OkT x.1 x.2.2):(ma xs).length<=60:=by
 have h1:=ix good
 have h2:((xs.filter λx=>isAg x.2.2).map thN).length<=NM4.length:=by
  refine(nd.sublist (List.filter_sublist.map _)).length_le_of_subset λk hk=>?_
  obtain⟨x,hx,rfl⟩:=Ag7.mp hk
  obtain⟨hx,ha⟩:=Ajm.mp hx
  have hg:=good x hx
  obtain⟨nm,o,t⟩:=x
  cases t with
  | on b e=>cases ha
  | ag r m l n=>exact hg.2
 rw[Agd] at h2
 have h3:NM4.length=4:=rfl
 lia
abbrev nkF (k:List Key):List NK:=k.map Sum.inl
theorem oo {a b:List Key}(h:nkF a=nkF b):a=b:=(List.map_inj_right λx y e=>Sum.inl.inj e).mp h
theorem qk {l:List (List Key)}{c:List Key}:nkF c∈l.map nkF↔c∈l:=⟨λh=>by obtain⟨y,hy,e⟩:=Ag7.mp h;rw[←oo e];exact hy,λh=>Ag8 h⟩
theorem bp {α β:Type}{f:α->β}{l:List α}(h:(l.map f).Nodup):l.Nodup:=(List.pairwise_map.mp h).imp λ{a b}n e=>n (by rw[e])
theorem ok3 (nm nm':Str)(z z':Int×Int):okL (nkF (k3 nm z)) (nkF (k3 nm' z'))=true:=by
 unfold nkF k3
 simp only[Agy,Aj0]
 unfold okL
 split
 ·
  unfold okL
  split
  ·
   unfold okL
   split
   · unfold okL;rfl
   · rfl
  · rfl
 · rfl
theorem rh {α β:Type}{f:α->β}{m:List α}:∀{l:List β},(∀x∈l,∃y∈m,f y=x)->∃l':List α,l=l'.map f/\∀y∈l',y∈m
 | [],_=>⟨[],rfl,λ_ z=>nomatch z⟩
 |
  x::l,h=>by
  obtain⟨y,hy,e⟩:=h x Agj
  obtain⟨l',e',h'⟩:=rh (m:=m) (l:=l) λz hz=>h z (Agh _ hz)
  exact⟨y::l',by rw[Agy,e,e'],λz hz=>by rcases Agx.mp hz with rfl|hz;exact hy;exact h' z hz⟩
def Ads (ks:List (List Key)):Prop:=ks.Pairwise λx y=>ltL (nkF y) (nkF x)=false
def Nn (A:AAd):Sp:=λvs H Q _=>∃(X:List Addr)(b d:Addr)(xs:List TH),vs=[.ref b,.int 0,.int 20000]/\BookAt A X H b d xs/\
 ∀(l:Addr)(qs:List (List Key×Addr))H',Same H H'->H l=none->TupsAt H' l qs->(qs.map (·.1)).Nodup->(∀c,c∈qs.map (·.1)↔c∈ma xs)->Ads (qs.map (·.1))->Q (.ref l) H'
theorem xj {a:Adr}{X:List Addr}{H:Hp}{x:Addr}{t:Th}{nm:Str}(h:ThAt (ad a) X H x t)(ok:OkT nm t):∃(C dx:Addr)(fs:List (Str×V))(R':V->List V->Hp->VK->Prop),H x=some (.ins C dx fs)/\fs.lookup ("spans_in":Str)=none/\((C=a.Bo/\R'=λx vs H Q=>(Kx a.Bo) (x::(vs++([]:List V))) H Q E0)∨(C=a.Aq/\R'=λx vs H Q=>(J2 (ad a)) (x::(vs++([]:List V))) H Q E0))/\∀R:VK,SpL (spT t) R H->R' (.ref x) [.int 0,.int 20000] H R:=by
 cases t with
 |
  on b e=>
  obtain⟨dx,hx⟩:=ThAt.isOn.mp h
  exact⟨_,dx,_,_,hx,noK (ks:=["begin","end"]) rfl (by decide+kernel),.inl ⟨rfl,rfl⟩,λR k=>⟨x,dx,b,e,rfl,hx,k⟩⟩
 |
  ag r m l n=>
  have hA:=ThAt.isAg.mp h
  obtain⟨dx,y,p,hx,_⟩:=id hA
  exact⟨_,dx,_,_,hx,noK (ks:=["rule","place","minute","length","exceptions"]) rfl (by decide+kernel),.inr ⟨rfl,rfl⟩,λR k=>⟨X,x,r,m,l,n,rfl,hA,ok.1,k⟩⟩
theorem hu4 {cm:Bool}{k:Nat}{A:Around}(hr:Room cm k A):A.units+4<cLine:=Ag2 (Akc (by decide:4<=64) _) hr.units
def Rg (s:Int):Prop:=0<=s/\s<2147483647
def kq:Sp:=λvs H Q _=>∃(L:Addr)(s c:Int),vs=[.ref L,.int c]/\H L=some (.lst [.int s])/\Rg s/\∀s' v:Int,Rg s'->0<=v->Q (.int v) (upd H L (.lst [.int s']))
def Ths (a:Adr)(x:Addr)(nm:Str):Prop:=(x=a.Ad/\nm="NoThing")∨(x=a.Ao/\nm="Known")∨(x=a.Ap/\nm="Full")
def gb (a:Adr):Sp:=λvs H Q _=>∃(e x:Addr)(nm:Str),vs=[.ref e]/\H e=some (exo e x)/\Ths a x nm/\Q (.bl true) H
def ai (a:Adr):Sp:=λvs H Q _=>∃(e x:Addr)(nm:Str),vs=[.ref e]/\H e=some (exo e x)/\Ths a x nm/\Q (.str nm) H
instance (m l:Int):Decidable (n9 m l):=by unfold n9;infer_instance
def Xr (xs:List TH)(nm:Str):Int:=((under xs nm).map λz=>cnt z.2).getD 0
theorem Vi {xs:List TH}{nm:Str}(h:under xs nm=none):Xr xs nm=0:=by unfold Xr;rw[h];rfl
theorem Ge {xs:List TH}{nm:Str}{o:Addr}{t:Th}(h:under xs nm=some (o,t)):Xr xs nm=cnt t:=by unfold Xr;rw[h];rfl
theorem yv (b e:Int):cnt (.on b e)=0:=rfl
theorem Oz (r:Ru)(m l:Int)(n:Nat):cnt (.ag r m l n)=(n:Int)+1:=rfl
theorem Ss {xs:List TH}{nm:Str}:(Xr xs nm=0/\∀o r m l n,under xs nm≠some (o,.ag r m l n))∨∃o r m l,∃n:Nat,under xs nm=some (o,.ag r m l n)/\Xr xs nm=(n:Int)+1:=by
 cases e:under xs nm with
 | none=>exact .inl ⟨Vi e,λ_ _ _ _ _ h=>nomatch h⟩
 |
  some z=>
  obtain⟨o,t⟩:=z
  cases t with
  | on b e'=>exact .inl ⟨(Ge e).trans (yv b e'),λ_ _ _ _ _ h=>nomatch h⟩
  | ag r m l n=>exact .inr ⟨o,r,m,l,n,rfl,(Ge e).trans (Oz r m l n)⟩
theorem Aag {xs:List TH}{nm:Str}(nd:(xs.map thN).Nodup):(Nl (kvP xs) (.inr nm)).getD (.int 0)=.int (Xr xs nm):=by
 cases e:under xs nm with
 | none=>rw[ib (Sr e),Vi e];rfl
 |
  some z=>
  have hv:Nl (kvP xs) (.inr nm)=some (.int (cnt z.2)):=bx nd (Ga (o:=z.1) (t:=z.2) e)
  rw[hv,Ge e];rfl
theorem qa {xs:List TH}{nm:Str}(nd:(xs.map thN).Nodup)(h:nm∈xs.map thN):Nl (kvP xs) (.inr nm)=some (.int (Xr xs nm)):=by
 cases e:under xs nm with
 | none=>exact absurd h (Sr e)
 |
  some z=>
  have hv:Nl (kvP xs) (.inr nm)=some (.int (cnt z.2)):=bx nd (Ga (o:=z.1) (t:=z.2) e)
  rw[hv,Ge e]
def lj (xs:List TH)(k:Int)(nm:Str)(m l:Int):Str:=if Tj xs nm=1 then "Full" else if Tj xs nm=2 then "NoThing" else if Tj xs nm=3 then "Known" else if k<3/\¬n9 m l then "NoThing" else ""
def vq (xs:List TH)(k:Int)(nm:Str)(m l:Int):Str:=if k<4 then lj xs k nm m l else if k=4 then(if nm∈xs.map thN then "" else "NoThing") else if 0<Xr xs nm then "" else "NoThing"
def Te (xs:List TH)(k:Int)(nm:Str)(m l:Int):Str:=if 8<Xr xs nm/\4<k then "Full" else vq xs k nm m l
theorem zt {xs:List TH}{k m l:Int}{nm:Str}(h:Tj xs nm=1):lj xs k nm m l="Full":=by unfold lj;rw[if_pos h]
theorem zl {xs:List TH}{k m l:Int}{nm:Str}(h:Tj xs nm=2):lj xs k nm m l="NoThing":=by unfold lj;rw[h,if_neg (by decide),if_pos rfl]
theorem Abm {xs:List TH}{k m l:Int}{nm:Str}(h:Tj xs nm=3):lj xs k nm m l="Known":=by unfold lj;rw[h,if_neg (by decide),if_neg (by decide),if_pos rfl]
theorem Acj {xs:List TH}{k m l:Int}{nm:Str}(h:Tj xs nm=0)(hk:k<3/\¬n9 m l):lj xs k nm m l="NoThing":=by unfold lj;rw[h,if_neg (by decide),if_neg (by decide),if_neg (by decide),if_pos hk]
theorem Aa3 {xs:List TH}{k m l:Int}{nm:Str}(h:Tj xs nm=0)(hk:¬(k<3/\¬n9 m l)):lj xs k nm m l="":=by unfold lj;rw[h,if_neg (by decide),if_neg (by decide),if_neg (by decide),if_neg hk]
theorem Ac7 {xs:List TH}{k m l:Int}{nm:Str}(h:k<4):vq xs k nm m l=lj xs k nm m l:=by unfold vq;rw[if_pos h]
theorem Ace {xs:List TH}{m l:Int}{nm:Str}:vq xs 4 nm m l=(if nm∈xs.map thN then("":Str) else("NoThing":Str)):=by unfold vq;rw[if_neg (by decide),if_pos rfl]
theorem Aam {xs:List TH}{k m l:Int}{nm:Str}(h:4<k):vq xs k nm m l=(if 0<Xr xs nm then("":Str) else("NoThing":Str)):=by unfold vq;rw[if_neg (by lia),if_neg (by lia)]
theorem Acb {xs:List TH}{k m l:Int}{nm:Str}(h:k<4):Te xs k nm m l=lj xs k nm m l:=by unfold Te;rw[if_neg (by lia),Ac7 h]
theorem Aer {xs:List TH}{m l:Int}{nm:Str}:Te xs 4 nm m l=(if nm∈xs.map thN then("":Str) else("NoThing":Str)):=by unfold Te;rw[if_neg (by lia),Ace]
theorem i4 {xs:List TH}{k m l:Int}{nm:Str}(h:4<k)(hc:8<Xr xs nm):Te xs k nm m l="Full":=by unfold Te;rw[if_pos ⟨hc,h⟩]
theorem uj {xs:List TH}{k m l:Int}{nm:Str}(h:4<k)(hc:¬8<Xr xs nm)(h0:0<Xr xs nm):Te xs k nm m l="":=by unfold Te;rw[if_neg (λw=>hc w.1),Aam h,if_pos h0]
theorem tq {xs:List TH}{k m l:Int}{nm:Str}(h:4<k)(h0:¬0<Xr xs nm):Te xs k nm m l="NoThing":=by unfold Te;rw[if_neg (λw=>h0 (by lia)),Aam h,if_neg h0]
def Nxt (xs:List TH)(k:Int)(nm:Str)(xs':List TH):Prop:=(k<4/\¬nm∈xs.map thN/\xs.length<40/\∃o t,xs'=xs++[(nm,o,t)]/\cnt t=if k<3 then 1 else 0)∨(k=4/\nm∈xs.map thN/\xs'=Yd xs nm)∨(4<k/\nm∈xs.map thN/\∃o t,xs'=T8 xs nm o t/\cnt t=Xr xs nm+1)
def kg:Sp:=λvs H Q _=>∃(p:Addr)(xs:List TH)(k:Int)(nm:Str)(m l:Int)(g:Bool),vs=[.ref p,.int k,.str nm,.int m,.int l,.bl g]/\H p=some (.dK (kvP xs))/\(xs.map thN).Nodup/\g=Jk nm.cps.toList/\Q (.str (vq xs k nm m l)) H
def Z1 (A:AAd):Sp:=λvs H Q _=>∃(X:List Addr)(b d:Addr)(xs:List TH)(k:Int)(nm:Str)(m l:Int),vs=[.ref b,.int k,.str nm,.int m,.int l]/\BookAt A X H b d xs/\nm.length<=1000/\(Jk nm.cps.toList=true->nm∈NM4)/\
 (Te xs k nm m l≠""->∀H',Same H H'->Q (.str (Te xs k nm m l)) H')/\
 (Te xs k nm m l=""->∀xs' H',SameX d H H'->BookAt A X H' b d xs'->Nxt xs k nm xs'->Q (.str "") H')
structure LI (A:AAd)(H:Hp)(b d p L:Addr)(xs:List TH)(s:Int):Prop where
 bk:BookAt A [d,p] H b d xs
 pl:H p=some (.dK (kvP xs))
 st:H L=some (.lst [.int s])
 rg:Rg s
 dp:d≠p
theorem LI.up {A:AAd}{H H':Hp}{b d p L:Addr}{xs:List TH}{s:Int}(h:LI A H b d p L xs s)(f:Same H H'):LI A H' b d p L xs s:=⟨h.bk.up f,f _ _ h.pl,f _ _ h.st,h.rg,h.dp⟩
theorem LI.stt {A:AAd}{H H':Hp}{b d p L:Addr}{xs:List TH}{s s':Int}(h:LI A H b d p L xs s)(f:SameX L H H')(hL:H' L=some (.lst [.int s']))(hr:Rg s'):LI A H' b d p L xs s':=by
 have nl:∀{c:Addr}{kvs:List (Key×V)},H c=some (.dK kvs)->c≠L:=λe z=>by rw[z,h.st] at e;cases e
 refine⟨h.bk.upO (λc o ho _ e=>f _ _ (λz=>?_) e) (f _ _ (nl h.bk.at_) h.bk.at_) (λc hc=>let ⟨kvs,e⟩:=h.bk.hX c hc;⟨kvs,f _ _ (nl e) e⟩),f _ _ (nl h.pl) h.pl,hL,hr,h.dp⟩
 rw[z,h.st] at e
 cases e
 exact ho _ rfl
theorem LI.put {A:AAd}{H H9:Hp}{b d p L:Addr}{xs xs':List TH}{s:Int}(h:LI A H b d p L xs s)(sx:SameX d H H9)(hB:BookAt A [d,p] H9 b d xs'):LI A (upd H9 p (.dK (kvP xs'))) b d p L xs' s:=by
 have hp9:=sx _ _ h.dp.symm h.pl
 refine⟨hB.upO (λc o _ hc e=>?_) (by rw[Ak h.dp];exact hB.at_) (λc hc=>?_),Ac,?_,h.rg,h.dp⟩
 ·
  by_cases z:c=p
  ·
   subst z
   rw[hp9] at e
   cases e
   exact absurd rfl (hc (Agh _ Agj) _)
  · rw[Ak z];exact e
 ·
  by_cases z:c=p
  · exact⟨_,by rw[z];exact Ac⟩
  · rw[Ak z];exact hB.hX c hc
 ·
  have hL9:=sx _ _ (λz=>by have e:=h.bk.at_;rw[←z,h.st] at e;cases e) h.st
  rw[Ak (λz=>by rw[←z,hL9] at hp9;cases hp9)]
  exact hL9
theorem yf {l m:List (List Key)}(n1:l.Nodup)(n2:m.Nodup)(h:∀c,c∈l↔c∈m)(h1:Ads l)(h2:Ads m):l=m:=j7 (λa b x y=>oo (Vl.tot _ _ y x)) ((List.perm_ext_iff_of_nodup n1 n2).mpr h) h1 h2
theorem sr {xs:List TH}{nm:Str}{o:Addr}{t:Th}{v:Int}(h:¬nm∈xs.map thN)(e:v=cnt t):putK (kvP xs) (.inr nm) (.int v)=kvP (xs++[(nm,o,t)]):=by
 rw[e];exact vi (f:=λx=>.int (cnt x.2.2)) (o:=o) (t:=t) h
theorem ye {xs:List TH}{nm:Str}{o:Addr}{t:Th}{v:Int}(h:nm∈xs.map thN)(e:v=cnt t):putK (kvP xs) (.inr nm) (.int v)=kvP (T8 xs nm o t):=by
 rw[e];exact Yr (f:=λx=>.int (cnt x.2.2)) (o:=o) (t:=t) h
def nmK (i:Nat):Str:=(("t":Str)++⟨#[97+i/10]⟩)++⟨#[97+i%10]⟩
theorem zd:∀i,i<38->Jk (nmK i).cps.toList=true/\(nmK i).length<=1000:=by decide+kernel
theorem Acg:((List.range 38).map nmK).Nodup:=by decide+kernel
theorem Afd:∀j,j<10->atI ("abcdefghij":Str).cps.toList ((j:Nat):Int)=some (97+j):=by decide+kernel
def BAD:List Str:=["","Me","4me","memememem","m e","m_","m-e","me "]
theorem Acd:∀t∈NM4,Jk t.cps.toList=true/\t.length<=1000:=by decide+kernel
theorem Adi:∀t∈BAD,Jk t.cps.toList=false/\t.length<=1000:=by decide+kernel
theorem Acy {α:Type}(f:α->V)(l:List α)(lo hi:Option Int):∃l':List α,kz (l.map f) lo hi=l'.map f/\l'.length<=l.length:=by
 unfold kz
 rw[←List.map_drop,←List.map_take]
 exact⟨_,rfl,by rw[Ahk,Ajd];lia⟩
theorem v3 {A:AAd}{H:Hp}{b db d p:Addr}(nb:H b=none)(ndb:H db=none)(ne:db≠b)(hd:(upd (upd H db (.own b)) b (.ins A.bk db [])) d=none)(hp:(upd (upd (upd (upd H db (.own b)) b (.ins A.bk db [])) d (.dK [])) b (.ins A.bk db [("by_name",.ref d)])) p=none):
  Same H (upd (upd (upd (upd (upd H db (.own b)) b (.ins A.bk db [])) d (.dK [])) b (.ins A.bk db [("by_name",.ref d)])) p (.dK []))/\BookAt A [d,p] (upd (upd (upd (upd (upd H db (.own b)) b (.ins A.bk db [])) d (.dK [])) b (.ins A.bk db [("by_name",.ref d)])) p (.dK [])) b d []/\d≠p/\H d=none/\H p=none:=by
 have nd:d≠b:=λz=>by rw[z,Ac] at hd;cases hd
 rw[Ak nd] at hd
 have nd2:d≠db:=λz=>by rw[z,Ac] at hd;cases hd
 rw[Ak nd2] at hd
 have S:Same H (upd (upd (upd (upd H db (.own b)) b (.ins A.bk db [])) d (.dK [])) b (.ins A.bk db [("by_name",.ref d)])):=λc o e=>by
  rw[Ak (Au e nb),Ak (Au e hd),Ak (Au e nb),Ak (Au e ndb)]
  exact e
 have hdA:(upd (upd (upd (upd H db (.own b)) b (.ins A.bk db [])) d (.dK [])) b (.ins A.bk db [("by_name",.ref d)])) d=some (.dK []):=by rw[Ak nd];exact Ac
 have hbA:(upd (upd (upd (upd H db (.own b)) b (.ins A.bk db [])) d (.dK [])) b (.ins A.bk db [("by_name",.ref d)])) b=some (.ins A.bk db [("by_name",.ref d)]):=Ac
 generalize upd (upd (upd (upd H db (.own b)) b (.ins A.bk db [])) d (.dK [])) b (.ins A.bk db [("by_name",.ref d)])=HA at S hdA hbA hp
 have ndp:d≠p:=λz=>by rw[z,hp] at hdA;cases hdA
 have u:=Ah (o:=.dK []) hp
 refine⟨S.trans u,⟨⟨db,u _ _ hbA⟩,u _ _ hdA,(λ_ z=>nomatch z),.nil,(λ_ z=>nomatch z),Ahn _,Agj,λc hc=>?_⟩,ndp,hd,S.free hp⟩
 rcases Agx.mp hc with rfl|hc
 · exact⟨_,u _ _ hdA⟩
 · rw[Ag3.mp hc];exact⟨_,Ac⟩
def jf (K:W.Frag):Sp:=λvs H Q _=>∃(a:Addr)(ns:List Int),vs=[.ref a]/\SqL K H a (ns.map V.int)/\ns.length<=63/\∀H',Q (.bl true) H'
end K54
namespace K54
open PySem L2 DRu
section
variable {P:Program}{w:World}{K:W.Frag}{mg:Str->Option Value}{base:Heap}{a:Adr}
theorem Y2:Ar ["text","signs"] ["text","signs"] (Ab Fb):=⟨rfl,rfl,rfl,by decide+kernel,rfl,by decide+kernel,by decide+kernel⟩
theorem Y6 (T:Txt K mg a):FnOk P w K mg base CX0 true 1 a.Mo a.Mr ["text","signs"] (Ym):=by
 refine T.Tu.ok Y2 (λvs H Q E h=>?_) (λcdv A outer s H vs Q E hr h=>?_)
 · obtain⟨t,g,rfl,_⟩:=h;rfl
 ·
  obtain⟨t,g,rfl,hl,k⟩:=h
  refine⟨_,(Ag (A8 (Ax (t8 (K:=K) rfl rfl) rfl T.ur (by decide+kernel) (Aa (fm (N:=["sign","signs"]) (cap:=[none,some 1]) (by show F9 (Ab Fb) _ ["text","signs"] _ _;exact⟨rfl,by decide+kernel,by decide+kernel,by decide+kernel,by decide+kernel,rfl,by decide+kernel⟩) rfl (Ab5 (pv 0)) (λC s H fp=>⟨(C5 (i:=0) (by show(["sign","signs"]:List Str).Nodup;decide+kernel) rfl (Or.inl rfl) (.inr rfl)),Yi,(L5 bg (pv 0) (pv 1) (by with_unfolding_all rfl))⟩)) Ae)))),?_⟩
  refine⟨_,rfl,t,rfl,?_⟩
  refine Wr (Abo t H) (λ_=>true) (λv=>V.bl (match v with| .str y=>decide (y.cps.toList.headD 0∈g.cps.toList)|_=>false)) ?_ ?_ ?_ ?_
  ·
   rw[Agd,Agg]
   exact Ag1 hl (by decide)
  · exact λx _ H' _ R hR=>hR H' (Same.refl _)
  ·
   intro x hx _ H' _ R hR
   obtain⟨c,_,rfl⟩:=Ag7.mp hx
   exact⟨_,rfl,_,rfl,c,g,rfl,rfl,hR H' (Same.refl _)⟩
  ·
   intro D H' sm _ hD
   refine⟨D,t.cps.toList.map λc=>decide (c∈g.cps.toList),rfl,SqL.of ?_,?_⟩
   ·
    rw[hD,Alk.mpr (λ_ _=>rfl),Aha,Aha]
    rfl
   ·
    have:=k H' sm
    rw[List.all_map]
    exact this
theorem mj:Ar ["begin","end"] ["begin","end"] (Ab Nk):=⟨rfl,rfl,rfl,by decide+kernel,rfl,by decide+kernel,by decide+kernel⟩
theorem kj (T:Txt K mg a):FnOk P w K mg base CX0 true 1 a.Rt a.Q0 ["begin","end"] (kf):=by
 refine T.ar.ok mj (λvs H Q E h=>?_) (λcdv A outer s H vs Q E hr h=>?_)
 · obtain⟨b,e,rfl,_⟩:=h;rfl
 ·
  obtain⟨b,e,rfl,k⟩:=h
  refine⟨_,(Ag (A8 (L5 Vm (pv 1) (pv 0) (A6 _)))),?_⟩
  exact⟨_,rfl,_,rfl,_,_,rfl,rfl,k⟩
theorem x4:Ar ["span","begin","end"] ["span","begin","end"] (Ab Si):=⟨rfl,rfl,rfl,by decide+kernel,rfl,by decide+kernel,by decide+kernel⟩
theorem i6 (T:Txt K mg a):FnOk P w K mg base CX0 true 1 a.Y0 a.Y1 ["span","begin","end"] (wu):=by
 refine T.fg.ok x4 (λvs H Q E h=>?_) (λcdv A outer s H vs Q E hr h=>?_)
 · obtain⟨p,b0,e0,b,e,rfl,_⟩:=h;rfl
 ·
  obtain⟨p,b0,e0,b,e,rfl,hp,k⟩:=h
  refine⟨_,(Ag (A8 (L5 M5 (Ax (V4 rfl) rfl T.g6 (by decide+kernel) (Aa (Hk (Ff (K:=K) rfl) (pv 0) Aj (λ_ _=>rfl)) (Aa (pv 1) Ae))) (Ax (R6 rfl) rfl T.cn (by decide+kernel) (Aa (Hk (Ff (K:=K) rfl) (pv 0) Aj (λ_ _=>rfl)) (Aa (pv 2) Ae))) (A6 _)))),?_⟩
  refine⟨_,rfl,p,_,_,_,rfl,rfl,SqT.of hp,rfl,_,rfl,_,_,rfl,?_⟩
  refine⟨_,rfl,p,_,_,_,rfl,rfl,SqT.of hp,rfl,_,rfl,_,_,rfl,_,_,rfl,rfl,?_⟩
  show Q (.bl (decide ((if b>b0 then b else b0)<if e<e0 then e else e0))) H
  rw[show(if b>b0 then b else b0)=max b0 b by split<;>lia,show(if e<e0 then e else e0)=min e0 e by split<;>lia]
  exact k
theorem uw:Ar ["number"] ["number"] (Ab Pt):=⟨rfl,rfl,rfl,by decide+kernel,rfl,by decide+kernel,by decide+kernel⟩
theorem Vj (T:Txt K mg a):FnOk P w K mg base CX0 true 1 a.U4 a.Uw ["number"] (o2):=by
 refine T.U2.ok uw (λvs H Q E h=>?_) (λcdv A outer s H vs Q E hr h=>?_)
 · obtain⟨d,rfl,_⟩:=h;rfl
 ·
  obtain⟨d,rfl,k⟩:=h
  refine⟨_,(Ag (A8 (xn tu M5 Aj (pv 0) (Bv rfl T.Qv)))),?_⟩
  replace k:Q (.bl (decide (0<=d/\d<146097))) H:=k
  refine⟨_,rfl,_,_,rfl,rfl,_,rfl,?_⟩
  refine Jn (λe=>?_) (λe=>?_)
  ·
   have e':0<=d:=Agf e
   rw[show decide (0<=d/\d<146097)=decide (d<146097) from Ahe.mpr ⟨λz=>z.2,λz=>⟨e',z⟩⟩] at k
   exact⟨_,_,rfl,rfl,k⟩
  ·
   rw[Agp (λz=>e (Age z.1))] at k
   exact k
theorem Wb:Ar ["number","least","most"] ["number","least","most"] (Ab Em):=⟨rfl,rfl,rfl,by decide+kernel,rfl,by decide+kernel,by decide+kernel⟩
theorem Vg (T:Txt K mg a):FnOk P w K mg base CX0 true 1 a.Kf a.J3 ["number","least","most"] (U9):=by
 refine T.P6.ok Wb (λvs H Q E h=>?_) (λcdv A outer s H vs Q E hr h=>?_)
 · obtain⟨n,l,m,rfl,_⟩:=h;rfl
 ·
  obtain⟨n,l,m,rfl,h0,h1,k⟩:=h
  refine⟨_,(Ag (Cy (PW.pt (ke (A2 M5 (pv 0) (pv 1) (A6 _)) (Xp (A2 Vm (pv 0) (pv 2) (A6 _))))) (Ag N3) Bd)),?_⟩
  refine⟨_,rfl,_,rfl,_,_,rfl,rfl,_,rfl,?_⟩
  refine Jn (λz=>absurd (Agf z) (by lia)) (λ_=>?_)
  refine⟨_,rfl,_,rfl,_,_,rfl,rfl,_,rfl,?_⟩
  exact Jn (λz=>absurd (Agf z) (by lia)) (λ_=>k)
theorem Eo:Ar ["days","number","low","high","middle"] ["days","number"] (Ab Fw):=⟨rfl,rfl,rfl,by decide+kernel,rfl,by decide+kernel,by decide+kernel⟩
theorem Kb (T:Txt K mg a):FnOk P w K mg base CX0 true 1 a.Lb a.Lg ["days","number"] (W0 K):=by
 refine T.Jc.ok Eo (λvs H Q E h=>?_) (λcdv A outer s H vs Q E hr h=>?_)
 · obtain⟨p,ns,x,rfl,_⟩:=h;rfl
 ·
  obtain⟨p,ns,x,rfl,hS,hr1,hz,k⟩:=h
  refine⟨_,(Af (Be (i:=2) Eo.nd rfl (Or.inl rfl) Aj)
   (Af (Be (i:=3) Eo.nd rfl (Or.inl rfl) (Ax (F0 (K:=K) rfl) rfl T.Rx (by decide+kernel) (Aa (pv 0) Ae)))
   (Af (x5 Aht (A2 M5 (pv 2) (pv 3) (A6 _)) (Af (Be (i:=4) Eo.nd rfl (Or.inl rfl) (Ba Vp (Ba Cd (pv 2) (pv 3)) Aj))
   (Ag (Cy (A2 M5 (Hk (Ff (K:=K) rfl) (pv 0) (pv 4) (λ_ _=>rfl)) (pv 1) (A6 _)) (Ag (Be (i:=2) Eo.nd rfl (Or.inl rfl) (Ba Cd (pv 4) Aj))) (Ag (Be (i:=3) Eo.nd rfl (Or.inl rfl) (pv 4)))))))
   (Ag (A8 (pv 2)))))),?_⟩
  refine⟨_,rfl,p,_,rfl,.inr hS,?_⟩
  rw[Agd]
  refine⟨λm σ H'=>H'=H/\∃(lo hi:Nat)(y:Option V),m=hi-lo/\lo<=hi/\hi<=ns.length/\(∀(i:Nat)a,i<lo->ns[i]?=some a->a<x)/\(∀(i:Nat)a,hi<=i->ns[i]?=some a->¬a<x)/\σ=[some (.ref p),some (.int x),some (.int (lo:Int)),some (.int (hi:Int)),y],
   ⟨_,rfl,0,ns.length,none,rfl,Ahn _,Agi _,λi _ h=>absurd h (Aho _),λi a h e=>by obtain⟨z,_⟩:=Agl.mp e;lia,rfl⟩,?_⟩
  rintro m σ H1 ⟨rfl,lo,hi,y,rfl,h1,h2,h3,h4,rfl⟩
  refine⟨_,rfl,_,rfl,_,_,rfl,rfl,_,rfl,?_⟩
  refine Jn (λe=>?_) (λe=>?_)
  ·
   have e':lo<hi:=by have:=Agf e;lia
   obtain⟨a,ha⟩:=zv (ns:=ns) (i:=(lo+hi)/2) (by lia)
   refine⟨λσ' H'=>H'=H1/\∃(lo' hi':Nat)(y:Option V),hi'-lo'<hi-lo/\lo'<=hi'/\hi'<=ns.length/\(∀(i:Nat)a,i<lo'->ns[i]?=some a->a<x)/\(∀(i:Nat)a,hi'<=i->ns[i]?=some a->¬a<x)/\σ'=[some (.ref p),some (.int x),some (.int (lo':Int)),some (.int (hi':Int)),y],?_,?_⟩
   ·
    rintro σ' H' ⟨rfl,lo',hi',y,l1,l2,l3,l4,l5,rfl⟩
    exact⟨hi'-lo',l1,rfl,lo',hi',y,rfl,l2,l3,l4,l5,rfl⟩
   refine⟨_,rfl,_,rfl,_,_,rfl,rfl,_,_,rfl,rfl,⟨by decide,by decide⟩,?_⟩
   have A1:atI (ns.map V.int) (((lo:Int)+(hi:Int))/2)=some (.int a):=by rw[half];exact Y4 (Aat ha)
   have E1:((lo:Int)+(hi:Int))/2=(((lo+hi)/2:Nat):Int):=half
   have E2:((lo:Int)+(hi:Int))/2+1=(((lo+hi)/2+1:Nat):Int):=by lia
   refine⟨_,rfl,_,rfl,p,_,_,_,rfl,rfl,hS,A1,_,rfl,_,_,rfl,rfl,_,rfl,?_⟩
   refine Jn (λz=>?_) (λz=>?_)
   ·
    have z':=Agf z
    refine⟨_,rfl,_,_,rfl,rfl,rfl,(lo+hi)/2+1,hi,some (.int (((lo:Int)+(hi:Int))/2)),by lia,by lia,h2,λi b hi' hb=>?_,h4,Ahb (λ(z:Int)=>([some (.ref p),some (.int x),some (.int z),some (.int (hi:Int)),some (.int (((lo:Int)+(hi:Int))/2))]:St)) E2⟩
    have:=DC.va hr1 hb ha (by lia)
    lia
   ·
    have z':¬a<x:=λw=>z (Age w)
    refine⟨_,rfl,rfl,lo,(lo+hi)/2,some (.int (((lo:Int)+(hi:Int))/2)),by lia,by lia,by lia,h3,λi b hi' hb=>?_,Ahb (λ(z:Int)=>([some (.ref p),some (.int x),some (.int (lo:Int)),some (.int z),some (.int (((lo:Int)+(hi:Int))/2))]:St)) E1⟩
    have:=DC.va hr1 ha hb hi'
    lia
  ·
   have e':lo=hi:=by
    have:¬(lo:Int)<(hi:Int):=λw=>e (Age w)
    lia
   subst e'
   rw[DC.below_at h2 h3 h4] at k
   exact⟨_,rfl,k⟩
theorem Kz:Ar ["self","day","end","begin","found"] ["self","day","end"] (Ab Bs):=⟨rfl,rfl,rfl,by decide+kernel,rfl,by decide+kernel,by decide+kernel⟩
theorem T9 (T:Txt K mg a):FnOk P w K mg base CX0 true 1 a.Ji a.Jd ["self","day","end"] (Oe a.A7):=by
 refine T.V9.ok Kz (λvs H Q E h=>?_) (λcdv A outer s H vs Q E hr h=>?_)
 · obtain⟨x,dx,b,e,rfl,_⟩:=h;rfl
 ·
  obtain⟨x,dx,b,e,rfl,hx,k1,k2⟩:=h
  refine⟨_,(Af (Be (i:=3) Kz.nd rfl (Or.inl rfl) (Ax (V4 rfl) rfl T.g6 (by decide+kernel) (Aa (pv 1) (Aa (As (K:=K) rfl (pv 0)) Ae))))
   (Af (Be (i:=4) Kz.nd rfl (Or.inl rfl) (Ba Cd (pv 3) (Ba M8 (Ba Nd (As (K:=K) rfl (pv 0)) (pv 3)) (As (K:=K) rfl (pv 0)))))
   (Ag (A8 (D8 (A2 M5 (pv 4) (Ax (R6 rfl) rfl T.cn (by decide+kernel) (Aa (pv 2) (Aa (Bv rfl T.Qv) Ae))) (A6 _)) (pv 4) Ra))))),?_⟩
  refine⟨_,rfl,_,rfl,x,_,dx,_,_,rfl,hx,T.Gy,T.Hw,rfl,_,_,rfl,?_⟩
  refine⟨_,rfl,_,rfl,x,_,dx,_,_,rfl,hx,T.Gy,T.Hw,rfl,_,rfl,_,_,rfl,rfl,_,rfl,x,_,dx,_,_,rfl,hx,T.Gy,T.Mq,rfl,_,_,rfl,rfl,(by show(0:Int)<1;decide),_,_,rfl,rfl,?_⟩
  have e1:(if 9>b then 9 else b)+(9-if 9>b then 9 else b)%1=max b 9:=by
   rw[Int.emod_one]
   split<;>lia
  have e2:(if 146097<e then 146097 else e)=min e 146097:=by split<;>lia
  refine⟨_,rfl,_,rfl,_,_,rfl,_,_,rfl,rfl,_,rfl,Jn (λz=>⟨_,rfl,?_⟩) (λz=>?_)⟩
  ·
   have z':=Agf z
   rw[e1,e2] at z'
   show Q (.int ((if 9>b then 9 else b)+(9-if 9>b then 9 else b)%1)) H
   rw[e1]
   exact k1 z'
  · exact k2 λw=>z (Age (by rw[e1,e2];exact w))
theorem Vc:Ar ["offset"] ["offset"] (Ab Ek):=⟨rfl,rfl,rfl,by decide+kernel,rfl,by decide+kernel,by decide+kernel⟩
theorem Ov (T:Txt K mg a):FnOk P w K mg base CX0 true 1 a.Kj a.Ka ["offset"] (Vz):=by
 refine T.Mz.ok Vc (λvs H Q E h=>?_) (λcdv A outer s H vs Q E hr h=>?_)
 · obtain⟨o,rfl,_⟩:=h;rfl
 ·
  obtain⟨o,rfl,h1,h2,k⟩:=h
  refine⟨_,(Ag (Cy (PW.pt (ke (A2 M5 (pv 0) (Abp vn (Bv rfl T.Bp)) (A6 _)) (Xp (A2 Vm (pv 0) (Bv rfl T.Bp) (A6 _))))) (Ag N3) Bd)),?_⟩
  refine⟨_,rfl,_,rfl,_,_,rfl,rfl,_,rfl,?_⟩
  refine Jn (λz=>absurd (Agf z) (by lia)) (λ_=>?_)
  refine⟨_,rfl,_,_,rfl,rfl,_,rfl,?_⟩
  exact Jn (λz=>absurd (Agf z) (by lia)) (λ_=>k)
theorem Ui:Ar ["place","many"] ["place","many"] (Ab Df):=⟨rfl,rfl,rfl,by decide+kernel,rfl,by decide+kernel,by decide+kernel⟩
theorem K6 (T:Txt K mg a):FnOk P w K mg base CX0 true 1 a.Jj a.Hy ["place","many"] (Uc a.A0):=by
 refine T.Je.ok Ui (λvs H Q E h=>?_) (λcdv A outer s H vs Q E hr h=>?_)
 · obtain⟨p,rfl,_⟩:=h;rfl
 ·
  obtain⟨p,rfl,pl,k⟩:=h
  refine⟨_,(Ag (A8 (D8 (A2 Vm (pv 1) Aj (A6 _)) (Hk (Ff (K:=K) rfl) (Hk (Ff (K:=K) rfl) (As (K:=K) rfl (pv 0)) (Ba Nd (pv 1) Aj) (λ_ _=>rfl)) Aj (λ_ _=>rfl)) (As (K:=K) rfl (pv 0))))),?_⟩
  obtain⟨dx,c,mm,hx,hc,hm⟩:=id pl
  refine⟨_,rfl,_,_,rfl,rfl,_,rfl,?_⟩
  exact M0 ⟨_,rfl,p,_,dx,_,_,rfl,hx,T.Mi,T.P7,rfl,k⟩
theorem uc:Ar ["one","other"] ["one","other"] (Ab Pm):=⟨rfl,rfl,rfl,by decide+kernel,rfl,by decide+kernel,by decide+kernel⟩
theorem qe (T:Txt K mg a):FnOk P w K mg base CX0 true 1 a.U3 a.Ux ["one","other"] (pq):=by
 refine T.i8.ok uc (λvs H Q E h=>?_) (λcdv A outer s H vs Q E hr h=>?_)
 · obtain⟨p,q,xs,ys,rfl,_⟩:=h;rfl
 ·
  obtain⟨p,q,xs,ys,rfl,hp,hq,lx,ly,px,py,k⟩:=h
  refine⟨_,(Ag (A8 (D8 (PW.pt (Ts (U1 (pv 0) (λ_=>rfl)) (Ox (U1 (pv 1) (λ_=>rfl))))) (Ax (Rk rfl) rfl T.Le (by decide+kernel) (Aa (A5 (dt rfl) rfl T.gf (by decide+kernel) (Aa (Ba qz (pv 0) (pv 1)) Ae)) Ae)) (Ba qz (pv 0) (pv 1))))),?_⟩
  have hcat:(xs.map V.int).length+(ys.map V.int).length<=sizeLine:=by
   rw[Agd,Agd]
   exact Ag1 (by lia:_<=4000) (by decide)
  refine⟨_,rfl,!xs.isEmpty,.inl ⟨_,SqL.of hp,by rw[Ac6]⟩,?_⟩
  cases xs with
  |
   nil=>
   refine M0 (M0 ⟨_,rfl,_,rfl,p,q,_,_,rfl,rfl,hp,hq,hcat,λl hl=>?_⟩)
   refine k l _ ys (Ah hl) (by rw[Ac];rfl) py λz=>?_
   exact⟨λh=>.inr h,λh=>h.elim (λw=>nomatch w) id⟩
  | cons x0 xs0=>
  refine Nw ⟨_,rfl,!ys.isEmpty,.inl ⟨_,SqL.of hq,by rw[Ac6]⟩,?_⟩
  cases ys with
  |
   nil=>
   refine M0 ⟨_,rfl,_,rfl,p,q,_,_,rfl,rfl,hp,hq,hcat,λl hl=>?_⟩
   refine k l _ (x0::xs0) (Ah hl) (by rw[Ac,Aj0,Ahh]) px λz=>?_
   exact⟨λh=>.inl h,λh=>h.elim id (λw=>nomatch w)⟩
  | cons y0 ys0=>
  refine Nw ⟨_,rfl,_,rfl,p,q,_,_,rfl,rfl,hp,hq,hcat,λl hl=>?_⟩
  have hl1:(upd H l (.lst ((x0::xs0).map V.int++(y0::ys0).map V.int))) l=some (.lst ((x0::xs0++y0::ys0).map V.int)):=by rw[Ac,Ahg]
  refine⟨l,_,rfl,hl1,?_,λD qs hD hmem hnd=>?_⟩
  ·
   rw[Agw]
   lia
  have hql:=yx hnd λz hz=>(hmem z).mp hz
  rw[Agw] at hql
  refine⟨D,qs,rfl,Ac,(by lia),λD2 ms hD2 hpm hlt=>?_⟩
  refine k D2 _ ms (((Ah hl).trans (Ah hD)).trans (Ah hD2)) Ac hlt λz=>?_
  rw[hpm.mem_iff,hmem,Ahf]
theorem Se:Ar ["self","day"] ["self","day"] (Ab Cs):=⟨rfl,rfl,rfl,by decide+kernel,rfl,by decide+kernel,by decide+kernel⟩
theorem Ta (T:Txt K mg a):FnOk P w K mg base CX0 true 2 a.Gv a.Gm ["self","day"] (Na a.A7):=by
 refine T.Um.ok Se (λvs H Q E h=>?_) (λcdv A outer s H vs Q E hr h=>?_)
 · obtain⟨x,dx,d,rfl,_⟩:=h;rfl
 ·
  obtain⟨x,dx,d,rfl,hx,k⟩:=h
  refine⟨_,(Ag (A8 (Xv (Az ((Vj T).mono (by decide)) hr rfl T.Yp T.U2.kp T.Yl .nil Bh (Aa (pv 1) Ae)) (Xv (L5 p8 (pv 1) (As (K:=K) rfl (pv 0)) (A6 _)) (X0 (L5 So (Ba M8 (Ba Nd (pv 1) (As (K:=K) rfl (pv 0))) (As (K:=K) rfl (pv 0))) Aj (A6 _))))))),?_⟩
  rw[qr] at k
  refine⟨_,rfl,d,rfl,_,rfl,?_⟩
  cases e1:decide (0<=d/\d<146097) with
  | false=>rw[e1] at k;exact M0 k
  | true=>
  rw[e1,Bool.true_and] at k
  refine Nw ⟨_,rfl,_,rfl,x,_,dx,_,_,rfl,hx,T.Gy,T.Hw,rfl,_,_,rfl,rfl,_,rfl,?_⟩
  cases e2:decide (9<=d) with
  | false=>rw[e2] at k;exact M0 k
  | true=>
  rw[e2] at k
  refine Nw ⟨_,rfl,_,rfl,x,_,dx,_,_,rfl,hx,T.Gy,T.Hw,rfl,_,_,rfl,rfl,_,rfl,x,_,dx,_,_,rfl,hx,T.Gy,T.Mq,rfl,_,_,rfl,rfl,(by show(0:Int)<1;decide),rfl,?_⟩
  show Q (.bl (decide (V.int ((d-9)%1)=V.int 0))) H
  rw[Int.emod_one,Age rfl]
  exact k
theorem Ae2 {X:Cx}{n kk:Nat}(T:Txt K mg a)(IH:FnOk P w K mg base CX0 true (20+n) a.Bt a.Bq ["self","day"] (spF (rd a) n))(e1:X.prog=P)(e2:X.w=w)(e3:X.K=K)(e4:X.mg=mg)(e5:X.base=base)(hr:Room true kk X.A)(hk:20+n<=kk):∀C R,dF a n C R->Ans X "falls_on" 1 C R:=by
 subst e1 e2 e3 e4 e5
 rintro C R (⟨rfl,rfl⟩|⟨rfl,rfl⟩)
 · exact⟨T.Gy,_,_,_,_,_,_,_,_,_,_,T.Sv,(Ta T).mono (Ag1 (by lia) hk),hr,T.Uj,.nil,Bh,λ_ _ _ _ _ h=>h⟩
 · exact⟨T.Av,_,_,_,_,_,_,_,_,_,_,T.Qa,IH.mono hk,hr,T.Q4,.nil,Bh,λ_ _ _ _ _ h=>h⟩
theorem Kr:Ar ["self","day","place"] ["self","day"] (Ab Bu):=⟨rfl,rfl,rfl,by decide+kernel,rfl,by decide+kernel,by decide+kernel⟩
theorem Oq (T:Txt K mg a):FnOk P w K mg base CX0 true 2 a.C6 a.C8 ["self","day"] (Kt a.Ai):=by
 refine T.Py.ok Kr (λvs H Q E h=>?_) (λcdv A outer s H vs Q E hr h=>?_)
 · obtain⟨x,dx,y,p,q,o,g,l,gs,d,rfl,_⟩:=h;rfl
 ·
  obtain⟨x,dx,y,p,q,o,g,l,gs,d,rfl,hx,hg,hr1,hl,k⟩:=h
  refine⟨_,(Af (Be (i:=2) Kr.nd rfl (Or.inl rfl) (Az ((Kb T).mono (by decide)) hr rfl T.Lm T.Jc.kp T.Lo .nil Bh (Aa (As (K:=K) rfl (pv 0)) (Aa (pv 1) Ae))))
   (Ag (A8 (Xv (L5 M5 (pv 2) (Ax (F0 (K:=K) rfl) rfl T.Rx (by decide+kernel) (Aa (As (K:=K) rfl (pv 0)) Ae)) (A6 _)) (X0 (L5 So (Hk (Ff (K:=K) rfl) (As (K:=K) rfl (pv 0)) (pv 2) (λ_ _=>rfl)) (pv 1) (A6 _))))))),?_⟩
  refine⟨_,rfl,x,_,dx,_,_,rfl,hx,T.Av,T.Cf,rfl,_,rfl,g,gs,d,rfl,SqT.of hg,hr1,by lia,?_⟩
  refine⟨_,rfl,_,rfl,x,_,dx,_,_,rfl,hx,T.Av,T.Cf,rfl,g,_,rfl,.inr (SqT.of hg),_,_,rfl,rfl,_,rfl,?_⟩
  have hb:=DC.Yw gs d
  rw[Agd]
  by_cases hlt:DC.below gs d<gs.length
  ·
   rw[Age (by lia:((DC.below gs d:Nat):Int)<(gs.length:Nat))]
   have hget:(gs.map V.int)[DC.below gs d]?=some (.int gs[DC.below gs d]):=by rw[Agz,Ag0 hlt];rfl
   refine Nw ⟨_,rfl,x,_,dx,_,_,rfl,hx,T.Av,T.Cf,rfl,_,rfl,g,_,_,_,rfl,rfl,SqT.of hg,Y4 hget,_,rfl,rfl,?_⟩
   rw[Af7]
   have e:decide (gs[DC.below gs d]=d)=decide (d∈gs):=by
    rw[Ahe,←DRu.iu hr1]
    exact⟨λe=>⟨_,Ag0 hlt,e⟩,λ⟨a,h1,h2⟩=>by rw[Ag0 hlt] at h1;cases h1;exact h2⟩
   rw[e]
   exact k
  ·
   rw[Agp (by lia:¬((DC.below gs d:Nat):Int)<(gs.length:Nat))]
   refine M0 ?_
   have e:decide (d∈gs)=false:=Agp λw=>by
    obtain⟨a,h1,_⟩:=(DRu.iu hr1).mpr w
    exact hlt (Agl.mp h1).1
   rw[e] at k
   exact k
theorem Qp:Ar ["self","day"] ["self","day"] (Ab B7):=⟨rfl,rfl,rfl,by decide+kernel,rfl,by decide+kernel,by decide+kernel⟩
theorem Qe (T:Txt K mg a)(n:Nat)(IH:FnOk P w K mg base CX0 true (20+n) a.Bt a.Bq ["self","day"] (spF (rd a) n)):FnOk P w K mg base CX0 true (20+n+1) a.Bt a.Bq ["self","day"] (spF (rd a) (n+1)):=by
 refine T.R4.ok Qp (λvs H Q E h=>?_) (λcdv A outer s H vs Q E hr h=>?_)
 · obtain⟨X,x,d,r,ls,ms,mv,rfl,_⟩:=h;rfl
 ·
  obtain⟨X,x,d,r,ls,ms,mv,rfl,hn,hr0,k⟩:=h
  refine⟨_,(Ag (A8 (Aei (Bw (n:=1) (D:=λC R=>(C=a.Ai/\R=λx vs H Q=>(Kt a.Ai) (x::(vs++([]:List V))) H Q E0)) (pv 0) (by rintro C R ⟨rfl,rfl⟩<;>first|exact⟨T.Av,_,_,_,_,_,_,_,_,_,_,T.O5,(Oq T).mono (by lia),hr,T.Pw,.nil,Bh,λ_ _ _ _ _ h=>h⟩) (Aa (pv 1) Ae)) (X0 (Xv (Abt (V8 (L8 hr) (pv 1) (As (K:=K) rfl (pv 0))) (by with_unfolding_all rfl)) (X0 (Bw (n:=1) (D:=dF a n) (As (K:=K) rfl (pv 0)) (Ae2 T IH rfl rfl rfl rfl rfl hr (by lia)) (Aa (pv 1) Ae)))))))),?_⟩
  obtain⟨dx,y,p,q,o,g,l,gs,kvs,hx,h1,⟨hg,hr1,hgl,hgm⟩,hl,hlm,_⟩:=RuAt.isCh.mp hr0
  obtain⟨C1,dx1,fs1,R1,ea1,eb1,ec1,ed1⟩:=jk (a:=a) (n:=n) (d:=d) h1 (by lia)
  rw[xc] at k
  have eg:decide (d∈gs)=decide (d∈gc (fu r) ls ms mv):=by rw[Ahe];exact hgm d
  rw[←eg] at k
  refine⟨_,rfl,x,_,dx,_,_,rfl,hx,noK (ks:=["rule","left","more","moved","gained","lost"]) rfl (by decide+kernel),⟨rfl,rfl⟩,_,rfl,rfl,x,dx,y,p,q,o,g,l,gs,d,rfl,hx,hg,hr1,by lia,_,rfl,?_⟩
  cases e1:decide (d∈gs) with
  | true=>rw[e1] at k;exact Nw k
  |
   false=>
   rw[e1,Bool.false_or] at k
   refine M0 ⟨_,rfl,_,rfl,x,_,dx,_,_,rfl,hx,T.Av,T.Mu,rfl,l,_,rfl,DGet.k (k:=Sum.inl d) hl,_,rfl,?_⟩
   rw[hlm d]
   cases e2:decide (d∈Yn ls mv) with
   | true=>rw[e2] at k;exact M0 k
   |
    false=>
    rw[e2] at k
    exact Nw ⟨_,rfl,x,_,dx,_,_,rfl,hx,T.Av,T.J9,rfl,y,C1,dx1,fs1,R1,rfl,ea1,eb1,ec1,_,rfl,rfl,ed1 _ k⟩
theorem okF (T:Txt K mg a):∀n,FnOk P w K mg base CX0 true (20+n) a.Bt a.Bq ["self","day"] (spF (rd a) n)
 |
  0=>by
  have no:∀{vs:List V}{H:Hp}{Q:VK}{E:XK},spF (rd a) 0 vs H Q E->False:=λh=>by
   obtain⟨X,x,d,r,ls,ms,mv,rfl,h,_⟩:=h
   exact absurd h (Aho _)
  exact⟨λvs H Q E h=>(no h).elim,λA outer s H args us vs Q E _ _ _ _ h=>(no h).elim⟩
 | n+1=>Qe T n (okF T n)
theorem Jm:Ar ["self","goals"] ["self"] (Ab Bf):=⟨rfl,rfl,rfl,by decide+kernel,rfl,by decide+kernel,by decide+kernel⟩
theorem Om (T:Txt K mg a)(n:Nat):FnOk P w K mg base CX0 true (20+n+1) a.Cz a.Cw ["self"] (P5 (rd a) n):=by
 refine T.O8.ok Jm (λvs H Q E h=>?_) (λcdv A outer s H vs Q E hr h=>?_)
 · obtain⟨X,x,dx,y,p,q,o,r,ls,ms,mv,rfl,_⟩:=h;rfl
 ·
  obtain⟨X,x,dx,y,p,q,o,r,ls,ms,mv,rfl,hx,hr0,hn,hp,hq,⟨rs,ho,hok,rfl⟩,ok,k⟩:=h
  refine⟨_,(Af (Ph (i0:=1) Jm.nd rfl rfl (N:=["day","goal","self"]) (cap:=[none,none,some 0]) (by show F9 (Ab Bf) _ ["self","goals"] _ _;exact⟨rfl,by decide+kernel,by decide+kernel,by decide+kernel,by decide+kernel,rfl,by decide+kernel⟩) rfl (Qr (K:=K) rfl (As (K:=K) rfl (pv 0))) (λC s H fp=>⟨(og (K:=K) (n:=2) rfl rfl (Uv (C5 (i:=0) (by show(["day","goal","self"]:List Str).Nodup;decide+kernel) rfl (Or.inl rfl) (.inr rfl)) (Uv (C5 (i:=1) (by show(["day","goal","self"]:List Str).Nodup;decide+kernel) rfl (Or.inl rfl) (.inr rfl)) rj))),(oh (PW.pt (Ts (A2 (X8 (K:=K) rfl) (pv 0) (As (K:=K) rfl (pv 2)) (by with_unfolding_all rfl)) (Ox (L1 (Bw (n:=1) (D:=dF a n) (As (K:=K) rfl (pv 2)) (Ae2 T (okF T n) rfl rfl rfl rfl rfl hr (by lia)) (Aa (pv 0) Ae))))))),(pv 1)⟩))
   (Ag (A8 (A5 (El (K:=K) rfl) rfl T.My (by decide+kernel) (Aa (Ax (Rk rfl) rfl T.Le (by decide+kernel) (Aa (A5 (dt rfl) rfl T.gf (by decide+kernel) (Aa (Ba qz (A5 (Ri (K:=K) rfl) rfl T.Tg (by decide+kernel) (Aa (As (K:=K) rfl (pv 0)) Ae)) (pv 1)) Ae)) Ae)) Ae))))),?_⟩
  have l3:=ok.l3
  have l2:=ok.l2
  have l4:rs.length<=2:=by rw[←Sf];exact l3
  refine⟨_,rfl,x,_,dx,_,_,rfl,hx,T.Av,T.Hl,rfl,o,rfl,⟨_,SqT.of ho⟩,?_⟩
  refine d9 (K:=K) (Qs (SqT.of ho)) hok (λz=>!decide (z.1∈ls)&&fu r z.1) (λz=>.int z.2) (by lia) ?_ (λz hz _ H' _ R hR=>⟨_,rfl,hR H' (Same.refl _)⟩) (λD H1 s1 _ hD=>?_)
  ·
   intro z hz H' sm R hR
   obtain⟨C1,dx1,fs1,R1,ea1,eb1,ec1,ed1⟩:=jk (a:=a) (n:=n) (d:=z.2.1) (hr0.up sm) hn
   refine⟨_,rfl,_,rfl,x,_,dx,_,_,rfl,(sm _ _ hx),T.Av,T.Kk,rfl,p,_,rfl,.inr (SqT.of (sm _ _ hp)),rfl,Aem _,_,rfl,?_⟩
   rw[if_pos rfl,jr]
   have hR0:∀H'',Same H' H''->R (!decide (z.2.1∈ls)&&fu r z.2.1) H'':=hR
   cases e1:decide (z.2.1∈ls) with
   |
    true=>
    rw[e1] at hR0
    exact M0 (hR0 H' (Same.refl _))
   |
    false=>
    rw[e1] at hR0
    exact Nw ⟨_,rfl,x,_,dx,_,_,rfl,(sm _ _ hx),T.Av,T.J9,rfl,y,C1,dx1,fs1,R1,rfl,ea1,eb1,ec1,_,rfl,rfl,ed1 _ ⟨_,rfl,hR0 H' (Same.refl _)⟩⟩
  have hD':H1 D=some (.lst ((((sps rs).filter λz=>!decide (z.1∈ls)&&fu r z.1).map (·.2)).map V.int)):=by
   rw[hD,Aha]
   rfl
  generalize hgo:((sps rs).filter λz=>!decide (z.1∈ls)&&fu r z.1).map (·.2)=go at hD'
  have hgl:go.length<=2:=by
   rw[←hgo,Agd]
   exact Ag1 (Ah2 _ _) l3
  refine⟨_,rfl,x,_,dx,_,_,rfl,(s1 _ _ hx),T.Av,T.M6,rfl,q,_,rfl,.inr (SqT.of (s1 _ _ hq)),λL hL=>?_⟩
  have s2:=s1.trans (Ah (o:=.lst (ms.map V.int)) hL)
  refine⟨_,rfl,L,D,_,_,rfl,rfl,Ac,(Ah hL) _ _ hD',(by rw[Agd,Agd];exact Ag1 (by lia:_<=20) (by decide)),λL2 hL2=>?_⟩
  have s3:=s2.trans (Ah (o:=.lst (ms.map V.int++go.map V.int)) hL2)
  refine⟨L2,ms++go,rfl,(by rw[Ac,Ahg]),(by rw[Agw];lia),λS qs hS hmem hnd=>?_⟩
  have s4:=s3.trans (Ah (o:=.ext (SetI P w S qs)) hS)
  have hlen:=yx hnd λz hz=>(hmem z).mp hz
  rw[Agw] at hlen
  refine⟨S,qs,rfl,Ac,(by lia),λD2 ts hD2 hpm hlt=>?_⟩
  have s5:=s4.trans (Ah (o:=.lst (ts.map V.int)) hD2)
  refine⟨D2,_,rfl,.inl ⟨SqL.of Ac,λg hg=>?_⟩⟩
  refine k g ts _ (s5.trans (Ah hg)) ⟨Ac,hlt,(by rw[hpm.length_eq];lia),λz=>?_⟩
  rw[hpm.mem_iff,hmem,←hgo]
  exact Iff.rfl
theorem C7:Ar ["self","lost","day","pair"] ["self"] (Ab B3):=⟨rfl,rfl,rfl,by decide+kernel,rfl,by decide+kernel,by decide+kernel⟩
theorem Px (T:Txt K mg a):FnOk P w K mg base CX0 true 1 a.D7 a.Dw ["self"] (Tf a.Ai):=by
 refine T.Qj.ok C7 (λvs H Q E h=>?_) (λcdv A outer s H vs Q E hr h=>?_)
 · obtain⟨x,dx,y,p,q,o,g,ls,mv,rfl,_⟩:=h;rfl
 ·
  obtain⟨x,dx,y,p,q,o,g,ls,mv,rfl,hx,hp,⟨rs,ho,hok,rfl⟩,l1,l3,k⟩:=h
  refine⟨_,(Af (Be (i:=1) C7.nd rfl (Or.inl rfl) Ye)
   (Af (Og Aht rfl (Qr (K:=K) rfl (As (K:=K) rfl (pv 0))) (C5 (i:=2) C7.nd rfl (Or.inl rfl)) (Ag (Mx (L8 hr) (pv 1) (pv 2) Z3 rfl)))
   (Af (Og Aht rfl (Qr (K:=K) rfl (As (K:=K) rfl (pv 0))) (C5 (i:=3) C7.nd rfl (Or.inl rfl)) (Ag (Mx (L8 hr) (pv 1) (Hk (Ff (K:=K) rfl) (pv 3) Aj (λ_ _=>rfl)) Z3 rfl)))
   (Ag (A8 (pv 1)))))),?_⟩
  have l4:rs.length<=2:=by rw[←Sf];exact l3
  refine λL hL=>?_
  have s0:=Ah (o:=.dK []) hL
  refine⟨_,rfl,x,_,dx,_,_,rfl,(s0 _ _ hx),T.Av,T.Kk,rfl,p,rfl,⟨_,SqT.of (s0 _ _ hp)⟩,?_⟩
  have keep:∀{H1:Hp}{kvs:List (Key×V)},Same H H1->Same H (upd H1 L (.dK kvs)):=λs c u e=>by
   rw[Ak (Au e hL)]
   exact s _ _ e
  refine O7 (H0:=H) (Qs (SqT.of hp)) (λi σ H'=>∃kvs,H' L=some (.dK kvs)/\kvs.length<=i/\Same H H'/\(∀z:Int,(Nl kvs (Sum.inl z)).isSome=decide (z∈ls.take i))/\∃y1 y2,σ=[some (.ref x),some (.ref L),y1,y2]) ⟨[],Ac,Agi _,s0,(λz=>rfl),_,_,rfl⟩ (λ_ _ _ _ ⟨_,_,_,s,_⟩=>s) ?_ ?_
  ·
   rintro i v σ H1 hv ⟨kvs,hL1,hk,s1,hv1,y1,y2,rfl⟩
   have hi:i<ls.length:=by have:=(Agl.mp hv).1;rwa[Agd] at this
   rw[Agz,Ag0 hi] at hv
   cases hv
   refine⟨_,rfl,_,rfl,L,_,rfl,DPut.k (k:=Sum.inl ls[i]) hL1 (Ag2 (by lia:_<=10) (by decide)),_,Ac,(Ag1 jm (by lia)),keep s1,λz=>?_,_,_,rfl⟩
   rw[zc,hv1 z,Ajr hi,←Bool.decide_or,Ahe,Ahf,Ag3]
   exact Or.comm
  rintro σ H1 ⟨kvs0,hL1,hk0,s1,hv1,y1,y2,rfl⟩
  rw[Agd] at hk0
  rw[Agd,Aim] at hv1
  refine⟨_,rfl,x,_,dx,_,_,rfl,(s1 _ _ hx),T.Av,T.Hl,rfl,o,rfl,⟨_,SqT.of (s1 _ _ ho)⟩,?_⟩
  refine O7 (H0:=H) (Qs (SqT.of ho)) (λi σ H'=>∃kvs,H' L=some (.dK kvs)/\kvs.length<=10+i/\Same H H'/\(∀z:Int,(Nl kvs (Sum.inl z)).isSome=decide (z∈ls++((sps rs).take i).map (·.1)))/\∃y1 y2,σ=[some (.ref x),some (.ref L),y1,y2]) ⟨kvs0,hL1,by lia,s1,(λz=>by rw[hv1 z,List.take_zero,Aj0,Ahh]),_,_,rfl⟩ (λ_ _ _ _ ⟨_,_,_,s,_⟩=>s) ?_ ?_
  ·
   rintro i v σ H2 hv ⟨kvs,hL2,hk,s2,hv2,z1,z2,rfl⟩
   have hi:i<rs.length:=by have:=(Agl.mp hv).1;rwa[Zx] at this
   have hv':(refs rs)[i]?=some (.ref rs[i].1):=by show(rs.map _)[i]?=_;rw[Agz,Ag0 hi];rfl
   rw[hv'] at hv
   cases hv
   have hz:=s2 _ _ (hok _ (Aia hi))
   refine⟨_,rfl,_,rfl,rs[i].1,_,_,_,rfl,rfl,SqT.of hz,rfl,L,_,rfl,DPut.k (k:=Sum.inl rs[i].2.1) hL2 (Ag2 (by lia:_<=20) (by decide)),_,Ac,(Ag1 jm (by lia)),keep s2,λz=>?_,_,_,rfl⟩
   have hi2:i<(sps rs).length:=by rw[Sf];exact hi
   have e2:(sps rs)[i]=rs[i].2:=by unfold sps;exact List.getElem_map _
   rw[zc,hv2 z,Ajr hi2,←Bool.decide_or,Ahe,Ahg,←Alx,Ahf (s:=ls++_),e2]
   show _↔_∨z∈[rs[i].2.1]
   rw[Ag3]
   exact Or.comm
  rintro σ H2 ⟨kvs,hL2,hk,s2,hv2,z1,z2,rfl⟩
  refine⟨_,rfl,k L H2 s2 hL ⟨kvs,hL2,λz=>?_⟩⟩
  rw[hv2 z,Zx,←Sf,Aim]
  rfl
theorem Q9:Ar ["number"] ["number"] (Ab Co):=⟨rfl,rfl,rfl,by decide+kernel,rfl,by decide+kernel,by decide+kernel⟩
theorem Ew (T:Txt K mg a):FnOk P w K mg base CX0 true 2 a.Fm a.Fq ["number"] (Tw):=by
 refine T.C9.ok Q9 (λvs H Q E h=>?_) (λcdv A outer s H vs Q E hr h=>?_)
 · obtain⟨n,rfl,_⟩:=h;rfl
 ·
  obtain⟨n,rfl,hn,k⟩:=h
  refine⟨_,(Ag (Cy (N8 (L1 (Az ((Vj T).mono (by decide)) hr rfl T.Yp T.U2.kp T.Yl .nil Bh (Aa (pv 0) Ae)))) (Ag N3) Bd)),?_⟩
  refine⟨_,rfl,n,rfl,_,rfl,?_⟩
  rw[Age (show 0<=n/\n<146097 from ⟨by have:=hn.1;lia,hn.2⟩)]
  exact M0 k
theorem Jt:Ar ["self","rule","left","more","moved","day","pair"] ["self","rule","left","more","moved"] (Ab Bk):=⟨rfl,rfl,rfl,by decide+kernel,rfl,by decide+kernel,by decide+kernel⟩
theorem Su (T:Txt K mg a)(n:Nat):FnOk P w K mg base CX0 true (24+n+1) a.Gq a.G2 ["self","rule","left","more","moved"] (Wq (rd a) n):=by
 refine T.Ur.ok Jt (λvs H Q E h=>?_) (λcdv A outer s H vs Q E hr h=>?_)
 · obtain⟨X,x,dx,y,p0,q0,o0,r,ls,ms,mv,H0,rfl,_⟩:=h;rfl
 ·
  obtain⟨X,x,dx,y,p0,q0,o0,r,ls,ms,mv,H0,rfl,hx,h0,s0,hX,hr0,hn,hp,hq,ho,ok,k⟩:=h
  refine⟨_,(Af (Dn (K:=K) rfl (pv 0) (pv 1))
   (Af (Dn (K:=K) rfl (pv 0) (D8 (A2 Xw (pv 2) Ra (A6 _)) (Ku Ae) (A5 (El (K:=K) rfl) rfl T.My (by decide+kernel) (Aa (pv 2) Ae))))
   (Af (Dn (K:=K) rfl (pv 0) (D8 (A2 Xw (pv 3) Ra (A6 _)) (Ku Ae) (A5 (El (K:=K) rfl) rfl T.My (by decide+kernel) (Aa (pv 3) Ae))))
   (Af (Dn (K:=K) rfl (pv 0) (D8 (A2 Xw (pv 4) Ra (A6 _)) (Ku Ae) (A5 (El (K:=K) rfl) rfl T.My (by decide+kernel) (Aa (pv 4) Ae))))
   (Af (Og Aht rfl (Qr (K:=K) rfl (Ba Aba (As (K:=K) rfl (pv 0)) (As (K:=K) rfl (pv 0)))) (C5 (i:=5) Jt.nd rfl (Or.inl rfl)) (Ag (De (Az ((Ew T).mono (by lia)) hr rfl T.Fp T.C9.kp T.Fg .nil Bh (Aa (pv 5) Ae)))))
   (Af (Og Aht rfl (Qr (K:=K) rfl (As (K:=K) rfl (pv 0))) (C5 (i:=6) Jt.nd rfl (Or.inl rfl)) (Af (De (Az ((Ew T).mono (by lia)) hr rfl T.Fp T.C9.kp T.Fg .nil Bh (Aa (Hk (Ff (K:=K) rfl) (pv 6) Aj (λ_ _=>rfl)) Ae)))
   (Ag (De (Az ((Ew T).mono (by lia)) hr rfl T.Fp T.C9.kp T.Fg .nil Bh (Aa (Hk (Ff (K:=K) rfl) (pv 6) Aj (λ_ _=>rfl)) Ae))))))
   (Af (Dn (K:=K) rfl (pv 0) (Pb (D:=λC R=>(C=a.Ai/\R=λx vs H Q=>P5 (rd a) n (x::(vs++([]:List V))) H Q E0)) (pv 0) (by rintro C R ⟨rfl,rfl⟩;exact⟨T.Av,_,_,_,_,_,_,_,_,_,_,T.Oo,(Om T n).mono (by lia),hr,T.O9,.nil,Bh,λ_ _ _ _ _ h=>h⟩)))
   (Ag (Dn (K:=K) rfl (pv 0) (Pb (D:=λC R=>(C=a.Ai/\R=λx vs H Q=>(Tf a.Ai) (x::(vs++([]:List V))) H Q E0)) (pv 0) (by rintro C R ⟨rfl,rfl⟩<;>first|exact⟨T.Av,_,_,_,_,_,_,_,_,_,_,T.P0,(Px T).mono (by lia),hr,T.Qh,.nil,Bh,λ_ _ _ _ _ h=>h⟩))))))))))),?_⟩
  have nx0:∀{b:Addr}{ho:HO},H0 b=some ho->b≠x:=λh e=>by rw[e,h0] at h;cases h
  refine⟨_,rfl,_,rfl,x,_,dx,_,rfl,hx,T.Av,T.J9,(by show 0<1000;decide),?_⟩
  have sXH1:SameX x H (upd H x (.ins a.Ai dx [("rule",V.ref y)])):=λc u hc e=>by rw[Ak hc];exact e
  have hxH1:(upd H x (.ins a.Ai dx [("rule",V.ref y)])) x=some (.ins a.Ai dx [("rule",V.ref y)]):=Ac
  show vv _ _ _ _ (upd H x (.ins a.Ai dx [("rule",V.ref y)]))
  generalize upd H x (.ins a.Ai dx [("rule",V.ref y)])=H1 at sXH1 hxH1 ⊢
  refine⟨_,rfl,rfl,_,rfl,Jn (λz=>absurd (Agf z) (λe=>nomatch e)) (λ_=>?_)⟩
  refine⟨_,rfl,p0,_,rfl,.inr ⟨SqT.of (sXH1 _ _ (nx0 hp) (s0 _ _ hp)),?_⟩⟩
  refine⟨_,rfl,x,_,dx,_,rfl,hxH1,T.Av,T.Kk,(by show 1<1000;decide),?_⟩
  have sXH2:SameX x H1 (upd H1 x (.ins a.Ai dx [("rule",V.ref y),("left",V.ref p0)])):=λc u hc e=>by rw[Ak hc];exact e
  have hxH2:(upd H1 x (.ins a.Ai dx [("rule",V.ref y),("left",V.ref p0)])) x=some (.ins a.Ai dx [("rule",V.ref y),("left",V.ref p0)]):=Ac
  show vv _ _ _ _ (upd H1 x (.ins a.Ai dx [("rule",V.ref y),("left",V.ref p0)]))
  generalize upd H1 x (.ins a.Ai dx [("rule",V.ref y),("left",V.ref p0)])=H2 at sXH2 hxH2 ⊢
  have S2:SameX x H H2:=sXH1.tr sXH2
  refine⟨_,rfl,rfl,_,rfl,Jn (λz=>absurd (Agf z) (λe=>nomatch e)) (λ_=>?_)⟩
  refine⟨_,rfl,q0,_,rfl,.inr ⟨SqT.of (S2 _ _ (nx0 hq) (s0 _ _ hq)),?_⟩⟩
  refine⟨_,rfl,x,_,dx,_,rfl,hxH2,T.Av,T.M6,(by show 2<1000;decide),?_⟩
  have sXH3:SameX x H2 (upd H2 x (.ins a.Ai dx [("rule",V.ref y),("left",V.ref p0),("more",V.ref q0)])):=λc u hc e=>by rw[Ak hc];exact e
  have hxH3:(upd H2 x (.ins a.Ai dx [("rule",V.ref y),("left",V.ref p0),("more",V.ref q0)])) x=some (.ins a.Ai dx [("rule",V.ref y),("left",V.ref p0),("more",V.ref q0)]):=Ac
  show vv _ _ _ _ (upd H2 x (.ins a.Ai dx [("rule",V.ref y),("left",V.ref p0),("more",V.ref q0)]))
  generalize upd H2 x (.ins a.Ai dx [("rule",V.ref y),("left",V.ref p0),("more",V.ref q0)])=H3 at sXH3 hxH3 ⊢
  have S3:SameX x H H3:=S2.tr sXH3
  obtain⟨rs,hor0,hok0,hrs⟩:=id ho
  refine⟨_,rfl,rfl,_,rfl,Jn (λz=>absurd (Agf z) (λe=>nomatch e)) (λ_=>?_)⟩
  refine⟨_,rfl,o0,_,rfl,.inr ⟨SqT.of (S3 _ _ (nx0 hor0) (s0 _ _ hor0)),?_⟩⟩
  refine⟨_,rfl,x,_,dx,_,rfl,hxH3,T.Av,T.Hl,(by show 3<1000;decide),?_⟩
  have sXH4:SameX x H3 (upd H3 x (.ins a.Ai dx [("rule",V.ref y),("left",V.ref p0),("more",V.ref q0),("moved",V.ref o0)])):=λc u hc e=>by rw[Ak hc];exact e
  have hxH4:(upd H3 x (.ins a.Ai dx [("rule",V.ref y),("left",V.ref p0),("more",V.ref q0),("moved",V.ref o0)])) x=some (.ins a.Ai dx [("rule",V.ref y),("left",V.ref p0),("more",V.ref q0),("moved",V.ref o0)]):=Ac
  show vv _ _ _ _ (upd H3 x (.ins a.Ai dx [("rule",V.ref y),("left",V.ref p0),("more",V.ref q0),("moved",V.ref o0)]))
  generalize upd H3 x (.ins a.Ai dx [("rule",V.ref y),("left",V.ref p0),("more",V.ref q0),("moved",V.ref o0)])=H4 at sXH4 hxH4 ⊢
  have S4:SameX x H H4:=S3.tr sXH4
  have Z4:=sx0 h0 s0 S4
  have hp4:=Z4 _ _ hp
  have hq4:=Z4 _ _ hq
  refine⟨_,rfl,x,_,dx,_,_,rfl,hxH4,T.Av,T.Kk,rfl,_,rfl,x,_,dx,_,_,rfl,hxH4,T.Av,T.M6,rfl,p0,q0,_,_,rfl,rfl,hp4,hq4,?_,λc H5 s5 hcc=>⟨c,rfl,⟨_,SqT.of hcc⟩,?_⟩⟩
  ·
   rw[Agd,Agd]
   have:=ok.l1
   have:=ok.l2
   exact Ag1 (by lia:_<=20) (by decide)
  rw[←Ahg] at hcc
  refine O7 (H0:=H5) (Qs (SqT.of hcc)) (λi σ H'=>H5=H'/\∃z,σ=[some (.ref x),some (.ref y),some (.ref p0),some (.ref q0),some (.ref o0),z,none]) ⟨rfl,_,rfl⟩ (λ_ _ _ _ h=>h.1▸Same.refl _) ?_ ?_
  ·
   rintro i v σ _ hv ⟨rfl,z,rfl⟩
   obtain⟨b,hb,rfl⟩:=Ag7.mp (Ah8 hv)
   have hd:DyI b:=(Ahf.mp hb).elim (ok.d1 b) (ok.d2 b)
   exact⟨_,rfl,b,rfl,hd,rfl,_,rfl⟩
  rintro σ _ ⟨rfl,z1,rfl⟩
  have hx5:=s5 _ _ hxH4
  have Z5:=Z4.trans s5
  obtain⟨rs,hor,hok,hrs⟩:=id (ho.up Z5)
  refine⟨_,rfl,x,_,dx,_,_,rfl,hx5,T.Av,T.Hl,rfl,o0,rfl,⟨_,SqT.of hor⟩,?_⟩
  refine O7 (H0:=H5) (Qs (SqT.of hor)) (λi σ H'=>H5=H'/\∃z,σ=[some (.ref x),some (.ref y),some (.ref p0),some (.ref q0),some (.ref o0),z1,z]) ⟨rfl,_,rfl⟩ (λ_ _ _ _ h=>h.1▸Same.refl _) ?_ ?_
  ·
   rintro i v σ _ hv ⟨rfl,z,rfl⟩
   obtain⟨u,hu,hum,rfl⟩:=xg hv
   have hu1:=hok u hum
   have hd:=ok.d3 u.2 (hrs▸Ag8 hum)
   exact⟨_,rfl,u.1,_,_,_,rfl,rfl,SqT.of hu1,rfl,u.2.1,rfl,hd.1,_,rfl,u.1,_,_,_,rfl,rfl,SqT.of hu1,rfl,u.2.2,rfl,hd.2,rfl,_,rfl⟩
  rintro σ _ ⟨rfl,z2,rfl⟩
  refine⟨_,rfl,x,_,dx,_,_,rfl,hx5,noK (ks:=["rule","left","more","moved"]) rfl (by decide+kernel),⟨rfl,rfl⟩,X,x,dx,y,p0,q0,o0,r,ls,ms,mv,rfl,hx5,hr0.up Z5,hn,Z5 _ _ hp,Z5 _ _ hq,ho.up Z5,ok,λg gs H6 s6 hg=>?_⟩
  have hx6:=s6 _ _ hx5
  refine⟨_,rfl,x,_,dx,_,rfl,hx6,T.Av,T.Cf,(by show 4<1000;decide),?_⟩
  have sXH7:SameX x H6 (upd H6 x (.ins a.Ai dx [("rule",V.ref y),("left",V.ref p0),("more",V.ref q0),("moved",V.ref o0),("gained",V.ref g)])):=λc u hc e=>by rw[Ak hc];exact e
  have hxH7:(upd H6 x (.ins a.Ai dx [("rule",V.ref y),("left",V.ref p0),("more",V.ref q0),("moved",V.ref o0),("gained",V.ref g)])) x=some (.ins a.Ai dx [("rule",V.ref y),("left",V.ref p0),("more",V.ref q0),("moved",V.ref o0),("gained",V.ref g)]):=Ac
  show vv _ _ _ _ (upd H6 x (.ins a.Ai dx [("rule",V.ref y),("left",V.ref p0),("more",V.ref q0),("moved",V.ref o0),("gained",V.ref g)]))
  generalize upd H6 x (.ins a.Ai dx [("rule",V.ref y),("left",V.ref p0),("more",V.ref q0),("moved",V.ref o0),("gained",V.ref g)])=H7 at sXH7 hxH7 ⊢
  have nx:∀{b:Addr}{xs:List V},H6 b=some (.tup xs)->b≠x:=λh e=>by rw[e,hx6] at h;cases h
  have S6:SameX x H H6:=(S4.tr (SameX.of s5)).tr (SameX.of s6)
  have S7:SameX x H H7:=S6.tr sXH7
  have Z7:=sx0 h0 s0 S7
  have hg7:H7 g=some (.tup (gs.map V.int)):=sXH7 _ _ (nx hg.1) hg.1
  refine⟨_,rfl,x,_,dx,_,_,rfl,hxH7,noK (ks:=["rule","left","more","moved","gained"]) rfl (by decide+kernel),⟨rfl,rfl⟩,x,dx,y,p0,q0,o0,g,ls,mv,rfl,hxH7,Z7 _ _ hp,ho.up Z7,ok.l1,ok.l3,λl H8 s8 hl0 hl=>?_⟩
  have hx8:=s8 _ _ hxH7
  have nx8:∀{b:Addr}{ho:HO},H8 b=some ho->(∀C dx fs,ho≠ .ins C dx fs)->b≠x:=λh hh e=>by rw[e,hx8] at h;cases h;exact hh _ _ _ rfl
  refine⟨_,rfl,x,_,dx,_,rfl,hx8,T.Av,T.Mu,(by show 5<1000;decide),?_⟩
  have sXH9:SameX x H8 (upd H8 x (.ins a.Ai dx [("rule",V.ref y),("left",V.ref p0),("more",V.ref q0),("moved",V.ref o0),("gained",V.ref g),("lost",V.ref l)])):=λc u hc e=>by rw[Ak hc];exact e
  have hxH9:(upd H8 x (.ins a.Ai dx [("rule",V.ref y),("left",V.ref p0),("more",V.ref q0),("moved",V.ref o0),("gained",V.ref g),("lost",V.ref l)])) x=some (.ins a.Ai dx [("rule",V.ref y),("left",V.ref p0),("more",V.ref q0),("moved",V.ref o0),("gained",V.ref g),("lost",V.ref l)]):=Ac
  show Q _ (upd H8 x (.ins a.Ai dx [("rule",V.ref y),("left",V.ref p0),("more",V.ref q0),("moved",V.ref o0),("gained",V.ref g),("lost",V.ref l)]))
  generalize upd H8 x (.ins a.Ai dx [("rule",V.ref y),("left",V.ref p0),("more",V.ref q0),("moved",V.ref o0),("gained",V.ref g),("lost",V.ref l)])=H9 at sXH9 hxH9 ⊢
  have S9:SameX x H H9:=(S7.tr (SameX.of s8)).tr sXH9
  obtain⟨kvs,hl1,hl2⟩:=hl
  have hg8:=s8 _ _ hg7
  exact k H9 S9 (RuAt.isCh.mpr ⟨dx,y,p0,q0,o0,g,l,gs,kvs,hxH9,hr0.up (sx0 h0 s0 S9),⟨sXH9 _ _ (nx8 hg8 (λ_ _ _ e=>nomatch e)) hg8,hg.2⟩,sXH9 _ _ (nx8 hl1 (λ_ _ _ e=>nomatch e)) hl1,hl2,λw=>by
   obtain⟨o',e'⟩:=hX l w
   rw[Z7 _ _ e'] at hl0
   cases hl0⟩)
theorem Ob:Ar ["self","begin","end","day"] ["self","begin","end"] (Ab Dm):=⟨rfl,rfl,rfl,by decide+kernel,rfl,by decide+kernel,by decide+kernel⟩
theorem Ut (T:Txt K mg a):FnOk P w K mg base CX0 true 2 a.Hu a.Io ["self","begin","end"] (Od a.A7):=by
 refine T.Wu.ok Ob (λvs H Q E h=>?_) (λcdv A outer s H vs Q E hr h=>?_)
 · obtain⟨x,dx,b,e,rfl,_⟩:=h;rfl
 ·
  obtain⟨x,dx,b,e,rfl,hx,⟨w1,w2⟩,k⟩:=h
  refine⟨_,(Af (Be (i:=3) Ob.nd rfl (Or.inl rfl) (Bw (n:=2) (D:=λC R=>(C=a.A7/\R=λx vs H Q=>(Oe a.A7) (x::(vs++([]:List V))) H Q E0)) (pv 0) (by rintro C R ⟨rfl,rfl⟩<;>first|exact⟨T.Gy,_,_,_,_,_,_,_,_,_,_,T.T6,(T9 T).mono (by decide),hr,T.Vd,.nil,Bh,λ_ _ _ _ _ h=>h⟩) (Aa (pv 1) (Aa (pv 2) Ae))))
   (Ag (A8 (D8 (A2 Xw (pv 3) Ra (A6 _)) (Oh Ae) (A5 (Wy rfl) rfl T.Tg (by decide+kernel) (Aa (A5 cu rfl T.Nz (by decide+kernel) (Aa (pv 3) (Aa (Ax (R6 rfl) rfl T.cn (by decide+kernel) (Aa (pv 2) (Aa (Bv rfl T.Qv) Ae))) (Aa (As (K:=K) rfl (pv 0)) Ae)))) Ae)))))),?_⟩
  refine⟨_,rfl,x,_,dx,_,_,rfl,hx,noK (ks:=["step","first"]) rfl (by decide+kernel),⟨rfl,rfl⟩,_,rfl,_,rfl,rfl,x,dx,b,e,rfl,hx,λh1=>?_,λh1=>?_⟩
  ·
   refine⟨_,rfl,rfl,_,rfl,Jn (λz=>absurd (Agf z) (λw=>nomatch w)) (λ_=>?_)⟩
   refine⟨_,rfl,_,rfl,_,_,rfl,?_⟩
   have he1:(if 146097<e then 146097 else e)=e:=by split<;>lia
   rw[he1]
   have hm:max b 9<e:=by lia
   refine⟨_,rfl,x,_,dx,_,_,rfl,hx,T.Gy,T.Mq,rfl,max b 9,e,1,rfl,by lia,by lia,⟨by lia,by lia,by lia,by lia⟩,λr hr1=>⟨r,max b 9,e,1,(e-max b 9).toNat,rfl,Ac,by lia,by lia,⟨by lia,by lia,by lia,by lia⟩,?_,by lia,λl hl=>?_⟩⟩
   ·
    unfold Builtin.Range.rangeSize
    rw[if_pos (by lia),if_pos hm]
    lia
   ·
    refine k l _ ((Ah hr1).trans (Ah hl)) ?_
    rw[Ac,DRu.Abg w1 (by lia)]
    unfold DR.rng
    rw[Aha]
    congr 2
    refine Alj λi _=>?_
    show V.int (max b 9+(i:Int)*1)=V.int (max b 9+(i:Int))
    rw[Int.mul_one]
  ·
   refine⟨_,rfl,rfl,_,rfl,Jn (λ_=>?_) (λz=>absurd (Age rfl) z)⟩
   refine⟨(by show 0<=sizeLine;decide),λl hl=>k l _ (Ah hl) ?_⟩
   rw[Ac,DRu.si λk h2 h3=>?_]
   · rfl
   ·
    rw[qr,Bool.and_eq_false_iff]
    exact .inr (Agp (by lia))
theorem Ae3 {X:Cx}{n kk:Nat}(T:Txt K mg a)(ID:FnOk P w K mg base CX0 true (20+n) a.By a.B0 ["self","begin","end"] (spD (rd a) n))(e1:X.prog=P)(e2:X.w=w)(e3:X.K=K)(e4:X.mg=mg)(e5:X.base=base)(hr:Room true kk X.A)(hk:20+n<=kk):∀C R,dD a n C R->Ans X "days_in" 2 C R:=by
 subst e1 e2 e3 e4 e5
 rintro C R (⟨rfl,rfl⟩|⟨rfl,rfl⟩)
 · exact⟨T.Gy,_,_,_,_,_,_,_,_,_,_,T.Uh,(Ut T).mono (Ag1 (by lia) hk),hr,T.Wx,.nil,Bh,λ_ _ _ _ _ h=>h⟩
 · exact⟨T.Av,_,_,_,_,_,_,_,_,_,_,T.Q6,ID.mono hk,hr,T.S0,.nil,Bh,λ_ _ _ _ _ h=>h⟩
theorem Jb:Ar ["self","begin","end","kept","gained"] ["self","begin","end"] (Ab B2):=⟨rfl,rfl,rfl,by decide+kernel,rfl,by decide+kernel,by decide+kernel⟩
theorem R7 (T:Txt K mg a)(n:Nat)(ID:FnOk P w K mg base CX0 true (20+n) a.By a.B0 ["self","begin","end"] (spD (rd a) n)):FnOk P w K mg base CX0 true (20+n+1) a.By a.B0 ["self","begin","end"] (spD (rd a) (n+1)):=by
 refine T.Sd.ok Jb (λvs H Q E h=>?_) (λcdv A outer s H vs Q E hr h=>?_)
 · obtain⟨X,x,b,e,r,ls,ms,mv,rfl,_⟩:=h;rfl
 ·
  obtain⟨X,x,b,e,r,ls,ms,mv,rfl,hn,ok,okc,hr0,hw,k⟩:=h
  refine⟨_,(Af (Ph (i0:=3) Jb.nd rfl rfl (N:=["day","self"]) (cap:=[none,some 0]) (by show F9 (Ab B2) _ ["self","begin","end","kept","gained"] _ _;exact⟨rfl,by decide+kernel,by decide+kernel,by decide+kernel,by decide+kernel,rfl,by decide+kernel⟩) rfl (Pr (K:=K) rfl (Bw (n:=2) (D:=dD a n) (As (K:=K) rfl (pv 0)) (Ae3 T ID rfl rfl rfl rfl rfl hr (by lia)) (Aa (pv 1) (Aa (pv 2) Ae)))) (λC s H fp=>⟨(C5 (i:=0) (by show(["day","self"]:List Str).Nodup;decide+kernel) rfl (Or.inl rfl) (.inr rfl)),(oh (Xu (V8 (L8 hr) (pv 0) (As (K:=K) rfl (pv 1))) (by with_unfolding_all rfl))),(pv 0)⟩))
   (Af (Be (i:=4) Jb.nd rfl (Or.inl rfl) (j5 zr (As (K:=K) rfl (pv 0)) (Zr (Az ((Kb T).mono (by lia)) hr rfl T.Lm T.Jc.kp T.Lo .nil Bh (Aa (As (K:=K) rfl (pv 0)) (Aa (pv 1) Ae)))) (Zr (Az ((Kb T).mono (by lia)) hr rfl T.Lm T.Jc.kp T.Lo .nil Bh (Aa (As (K:=K) rfl (pv 0)) (Aa (pv 2) Ae))))))
   (Ag (A8 (Az ((qe T).mono (by lia)) hr rfl T.xr T.i8.kp T.yb .nil Bh (Aa (pv 3) (Aa (A5 (Ri (K:=K) rfl) rfl T.Tg (by decide+kernel) (Aa (pv 4) Ae)) Ae))))))),?_⟩
  obtain⟨dx,y,p,q,o,g,l,gs,kvs,hx,h1,⟨hg,hr1,hgl,hgm⟩,hl,hlm,_⟩:=RuAt.isCh.mp hr0
  have hlen:=DRu.Yt (b:=b) ok hw.2
  obtain⟨C1,dx1,fs1,R1,ea1,eb1,ec1,ed1⟩:=p5 (a:=a) h1 (show dpR r<=n by lia) ok hw
  refine⟨_,rfl,x,_,dx,_,_,rfl,hx,T.Av,T.J9,rfl,y,C1,dx1,fs1,R1,rfl,ea1,eb1,ec1,_,rfl,_,rfl,rfl,ed1 _ λD1 H1 u1 hD1=>⟨D1,rfl,⟨_,SqL.of hD1⟩,?_⟩⟩
  refine Wr (Po (K:=K) (SqL.of hD1)) (Afg (λd=>!decide (d∈Yn ls mv))) id (by rw[Agd];lia) ?_ (λv hv _ H' _ R hR=>⟨_,rfl,hR H' (Same.refl _)⟩) (λD H2 s2 hD0 hD=>?_)
  ·
   intro v hv H' sm R hR
   obtain⟨d,hd,rfl⟩:=Ag7.mp hv
   refine⟨_,rfl,_,rfl,x,_,dx,_,_,rfl,(u1.trans sm) _ _ hx,T.Av,T.Mu,rfl,l,_,rfl,DGet.k (k:=Sum.inl d) ((u1.trans sm) _ _ hl),_,rfl,?_⟩
   rw[hlm d]
   exact hR H' (Same.refl _)
  rw[List.map_id,Afk] at hD
  have S2:=u1.trans s2
  have bl:=DC.Yw gs b
  have el:=DC.Yw gs e
  refine⟨_,rfl,x,_,dx,_,_,rfl,S2 _ _ hx,T.Av,T.Cf,rfl,_,rfl,x,_,dx,_,_,rfl,S2 _ _ hx,T.Av,T.Cf,rfl,_,rfl,g,gs,b,rfl,SqT.of (S2 _ _ hg),hr1,by lia,_,rfl,_,rfl,x,_,dx,_,_,rfl,S2 _ _ hx,T.Av,T.Cf,rfl,_,rfl,g,gs,e,rfl,SqT.of (S2 _ _ hg),hr1,by lia,_,rfl,g,_,rfl,S2 _ _ hg,λp2 H3 s3 hp2=>?_⟩
  rw[zj (by rw[Agd];exact el) (by rw[Agd];exact bl),←List.map_take,←List.map_drop] at hp2
  refine⟨_,rfl,_,rfl,p2,_,rfl,.inr (SqT.of hp2),λl4 hl4=>?_⟩
  have s4:=Ah (o:=.lst (((gs.take (DC.below gs e)).drop (DC.below gs b)).map V.int)) hl4
  refine⟨D,l4,_,_,rfl,s4 _ _ (s3 _ _ hD),Ac,?_,?_,(DR.Ou _ _ _).filter _,(hr1.sublist (Alv _ _)).sublist (List.drop_sublist _ _),λD5 H5 ms5 s5 hD5 hp5 hm5=>?_⟩
  · exact Ag1 (Ah2 _ _) (by lia)
  ·
   rw[Ajd,Ahk]
   lia
  refine k D5 H5 (((S2.trans s3).trans s4).trans s5) ?_
  rw[hD5,DRu.zx hp5 hgm λz=>by rw[hm5,DRu.xp hr1]]
theorem Vw:Ar ["self","rule","place","minute","length","exceptions"] ["self","rule","place","minute","length","exceptions"] (Ab B6):=⟨rfl,rfl,rfl,by decide+kernel,rfl,by decide+kernel,by decide+kernel⟩
theorem O6 (T:Txt K mg a):FnOk P w K mg base (CXe P w) true 1 a.Kd a.F8 ["self","rule","place","minute","length","exceptions"] (Zd a.Aq a.Ad):=by
 refine T.Xh.okE Vw (λvs H Q E h=>?_) (λcdv A outer s H vs Q E hr h=>?_)
 · obtain⟨x,dx,y,p,m,l,n,rfl,_⟩:=h;rfl
 ·
  obtain⟨x,dx,y,p,m,l,n,rfl,hx,k1,k2⟩:=h
  refine⟨_,(Af (Cy (PW.pt (ke (A2 M5 (pv 3) Aj (A6 _)) (Xp (A2 p8 (pv 3) (Bv rfl T.Cj) (A6 _))))) (Ag (Lf Fh rfl rfl T.E6 T.Ad (Aa Ce Ae))) Bd)
   (Af (Cy (PW.pt (ke (A2 M5 (pv 4) Aj (A6 _)) (Xp (A2 Vm (pv 4) (Bv rfl T.Ii) (A6 _))))) (Ag (Lf Fh rfl rfl T.E6 T.Ad (Aa Ce Ae))) Bd)
   (Af (Dn (K:=K) rfl (pv 0) (pv 1))
   (Af (Dn (K:=K) rfl (pv 0) (pv 2))
   (Af (Dn (K:=K) rfl (pv 0) (pv 3))
   (Af (Dn (K:=K) rfl (pv 0) (pv 4))
   (Ag (Dn (K:=K) rfl (pv 0) (pv 5))))))))),?_⟩
  refine⟨_,rfl,_,_,rfl,rfl,_,rfl,?_⟩
  refine Jn (λz=>?_) (λz=>?_)
  ·
   have:=Agf z
   exact⟨(by show 1<=sizeLine;decide),k2 λw=>by have:=w.1;lia⟩
  have z1:¬m<0:=λw=>z (Age w)
  refine⟨_,rfl,_,_,rfl,rfl,_,rfl,?_⟩
  refine Jn (λz=>?_) (λz=>?_)
  ·
   have:=Agf z
   exact⟨(by show 1<=sizeLine;decide),k2 λw=>by have:=w.1;lia⟩
  have z2:¬1440<=m:=λw=>z (Age w)
  refine⟨_,rfl,_,_,rfl,rfl,_,rfl,?_⟩
  refine Jn (λz=>?_) (λz=>?_)
  ·
   have:=Agf z
   exact⟨(by show 1<=sizeLine;decide),k2 λw=>by have:=w.2;lia⟩
  have z3:¬l<1:=λw=>z (Age w)
  refine⟨_,rfl,_,_,rfl,rfl,_,rfl,?_⟩
  refine Jn (λz=>?_) (λz=>?_)
  ·
   have:=Agf z
   exact⟨(by show 1<=sizeLine;decide),k2 λw=>by have:=w.2;lia⟩
  have z4:¬10080<l:=λw=>z (Age w)
  refine⟨_,rfl,_,rfl,x,_,dx,_,rfl,hx,T.Bi,T.O2,(by show 0<1000;decide),?_⟩
  refine⟨_,rfl,_,rfl,x,_,dx,_,rfl,Ac,T.Bi,T.Nt,(by show 1<1000;decide),?_⟩
  refine⟨_,rfl,_,rfl,x,_,dx,_,rfl,Ac,T.Bi,T.Gg,(by show 2<1000;decide),?_⟩
  refine⟨_,rfl,_,rfl,x,_,dx,_,rfl,Ac,T.Bi,T.J7,(by show 3<1000;decide),?_⟩
  refine⟨_,rfl,_,rfl,x,_,dx,_,rfl,Ac,T.Bi,T.Iy,(by show 4<1000;decide),?_⟩
  have k1:=k1 ⟨⟨by lia,by lia⟩,⟨by lia,by lia⟩⟩
  rw[Sz,Sz,Sz,Sz]
  exact k1
theorem W8:Ar ["self"] ["self"] (Ab Fj):=⟨rfl,rfl,rfl,by decide+kernel,rfl,by decide+kernel,by decide+kernel⟩
theorem Mv (T:Txt K mg a):FnOk P w K mg base CX0 true 1 a.Ld a.Lj ["self"] (Ki (ad a)):=by
 refine T.Zo.ok W8 (λvs H Q E h=>?_) (λcdv A outer s H vs Q E hr h=>?_)
 · obtain⟨X,b,d,xs,rfl,_⟩:=h;rfl
 ·
  obtain⟨X,b,d,xs,rfl,hB,k⟩:=h
  refine⟨_,(Ag (A8 (Ax (Zp rfl) rfl T.Le (by decide+kernel) (Aa (As (K:=K) rfl (pv 0)) Ae)))),?_⟩
  obtain⟨db,hb⟩:=hB.ins
  exact⟨_,rfl,b,_,db,_,_,rfl,hb,T.Bm,T.A9,rfl,d,_,xs.map thN,rfl,hB.at_,sq xs,(by rw[Agd];have:=hB.few;lia),λD ms hD hp hs=>k D ms hD hp hs⟩
theorem du:Ar ["self","name"] ["self","name"] (Ab Jx):=⟨rfl,rfl,rfl,by decide+kernel,rfl,by decide+kernel,by decide+kernel⟩
theorem cw (T:Txt K mg a):FnOk P w K mg base (CXe P w) true 1 a.N6 a.Nx ["self","name"] (To (ad a) a.Ad):=by
 refine T.gp.okE du (λvs H Q E h=>?_) (λcdv A outer s H vs Q E hr h=>?_)
 · obtain⟨X,b,d,xs,nm,rfl,_⟩:=h;rfl
 ·
  obtain⟨X,b,d,xs,nm,rfl,hB,k1,k2⟩:=h
  refine⟨_,(Af (Cy (Xu (V8 (L8 hr) (pv 1) (As (K:=K) rfl (pv 0))) (by with_unfolding_all rfl)) (Ag (Lf Fh rfl rfl T.E6 T.Ad (Aa Ce Ae))) Bd)
   (Ag (De (iw (As (K:=K) rfl (pv 0)) (pv 1) ⟨rfl,rfl,rfl,rfl⟩)))),?_⟩
  obtain⟨db,hb⟩:=hB.ins
  refine⟨_,rfl,_,rfl,b,_,db,_,_,rfl,hb,T.Bm,T.A9,rfl,d,_,rfl,DGet.k (k:=Sum.inr nm) hB.at_,_,rfl,?_⟩
  rw[V6]
  by_cases hm:nm∈xs.map thN
  ·
   rw[Age hm]
   refine M0 ?_
   obtain⟨x,hx,rfl⟩:=Ag7.mp hm
   refine⟨_,rfl,b,_,db,_,_,rfl,hb,T.Bm,T.A9,rfl,d,rfl,.inl ⟨_,.inl hB.at_⟩,_,rfl,kvT xs,Sum.inr x.1,_,hB.at_,rfl,bx hB.nd hx,?_⟩
   have:=k1 hm (hB.drop x.1)
   rw[qq]
   exact this
  ·
   rw[Agp hm]
   exact Nw ⟨(by show 1<=sizeLine;decide),k2 hm⟩
theorem Xb:Ar ["self"] ["self"] (Ab Fy):=⟨rfl,rfl,rfl,by decide+kernel,rfl,by decide+kernel,by decide+kernel⟩
theorem W2 (T:Txt K mg a):FnOk P w K mg base CX0 true 1 a.Lc a.Ln ["self"] (ao a.A3):=by
 refine T.Zi.ok Xb (λvs H Q E h=>?_) (λcdv A outer s H vs Q E hr h=>?_)
 · obtain⟨x,dx,rfl,_⟩:=h;rfl
 ·
  obtain⟨x,dx,rfl,hx,k⟩:=h
  refine⟨_,(Ag (Dn (K:=K) rfl (pv 0) Ye)),?_⟩
  refine λd hd=>?_
  have nk:x≠d:=Au hx hd
  refine⟨_,rfl,x,_,dx,_,rfl,(by rw[Ak nk];exact hx),T.Bm,T.A9,(by show 0<1000;decide),?_⟩
  exact k d hd
theorem e9:Ar ["_law_script","_law_k"] ["_law_script","_law_k"] (Ab Lp):=⟨rfl,rfl,rfl,by decide+kernel,rfl,by decide+kernel,by decide+kernel⟩
theorem gq (T:Txt K mg a):FnOk P w K mg base CX0 true 1 a.Pk a.Pd ["_law_script","_law_k"] (Xg K):=by
 refine T.Xn.ok e9 (λvs H Q E h=>?_) (λcdv A outer s H vs Q E hr h=>?_)
 · obtain⟨p,ns,i,rfl,_⟩:=h;rfl
 ·
  obtain⟨p,ns,i,rfl,hS,h0,k⟩:=h
  refine⟨_,(Af (Cy (A2 M5 (pv 1) (Ax (F0 (K:=K) rfl) rfl T.Rx (by decide+kernel) (Aa (pv 0) Ae)) (A6 _)) (Ag (A8 (Hk (Kg (K:=K) rfl) (pv 0) (pv 1) (λ_ _=>rfl)))) Bd)
   (Ag (A8 Aj))),?_⟩
  refine⟨_,rfl,_,rfl,p,_,rfl,.inl hS,_,_,rfl,rfl,_,rfl,?_⟩
  refine Jn (λe1=>?_) (λe1=>k 0)
  have e1':=Agf e1
  rw[Agd] at e1'
  obtain⟨t,_,et⟩:=Yc h0 e1'
  exact⟨_,rfl,_,rfl,p,_,_,_,rfl,rfl,hS,et,k t⟩
theorem mq:Ar ["_law_state","_law_cell_here"] ["_law_state","_law_cell_here"] (Ab Nh):=⟨rfl,rfl,rfl,by decide+kernel,rfl,by decide+kernel,by decide+kernel⟩
theorem Jo (T:Txt K mg a):FnOk P w K mg base CX0 true 1 a.Rh a.Qu ["_law_state","_law_cell_here"] (kq):=by
 refine T.Ks.ok mq (λvs H Q E h=>?_) (λcdv A outer s H vs Q E hr h=>?_)
 · obtain⟨L,s,c,rfl,_⟩:=h;rfl
 ·
  obtain⟨L,s0,c,rfl,hL,hs,k⟩:=h
  refine⟨_,(Af (Ach (Ba M8 (Ba Cd (Ba Cd (Ba dk (Hk (Kg (K:=K) rfl) (pv 0) Aj (λ_ _=>rfl)) Aj) (Ba dk (pv 1) Aj)) Aj) Aj) (Abz (pv 0) Aj set_list))
   (Ag (A8 (Ba Vp (Ba M8 (Ba dk (Hk (Kg (K:=K) rfl) (pv 0) Aj (λ_ _=>rfl)) (Hk (Kg (K:=K) rfl) (pv 0) Aj (λ_ _=>rfl))) Aj) Aj)))),?_⟩
  refine⟨_,rfl,L,_,_,_,rfl,rfl,SqL.of hL,rfl,_,_,rfl,rfl,.inl ⟨by have:=hs.1;lia,by have:=hs.2;lia⟩,_,rfl,_,_,rfl,rfl,.inr ⟨by decide,by decide⟩,_,_,rfl,rfl,_,_,rfl,rfl,_,_,rfl,rfl,(by show(0:Int)<2147483647;decide),?_⟩
  refine⟨_,rfl,L,_,0,0,rfl,rfl,hL,rfl,?_⟩
  have h0:0<=(s0*48271+c*16807+11)%2147483647:=Aie _ (by decide)
  have h1:(s0*48271+c*16807+11)%2147483647<2147483647:=Ah7 _ (by decide)
  refine⟨_,rfl,L,_,_,_,rfl,rfl,SqL.of Ac,rfl,_,rfl,L,_,_,_,rfl,rfl,SqL.of Ac,rfl,_,_,rfl,rfl,.inl ⟨by lia,by lia⟩,_,_,rfl,rfl,(by show(0:Int)<2147483647;decide),_,_,rfl,rfl,⟨by decide,by decide⟩,?_⟩
  exact k _ _ ⟨h0,h1⟩ (Int.ediv_nonneg (Aie _ (by decide)) (by decide))
theorem J0:Ar ["_law_e","_law_found"] ["_law_e"] (Ab Lr):=⟨rfl,rfl,rfl,by decide+kernel,rfl,by decide+kernel,by decide+kernel⟩
theorem fq (T:Txt K mg a):FnOk P w K mg base CX0 false 1 a.Pj a.Pf ["_law_e"] (gb a):=by
 refine T.Xx.ok J0 (λvs H Q E h=>?_) (λcdv A outer s H vs Q E hr h=>?_)
 · obtain⟨e,x,nm,rfl,_⟩:=h;rfl
 ·
  obtain⟨e,x,nm,rfl,he,hx,k⟩:=h
  refine⟨_,(Af (Be (i:=1) J0.nd rfl (Or.inl rfl) (Ba Cd (Ba Cd (A5 Cp rfl T.Np (by decide+kernel) (Aa (Ax (Bj (K:=K) rfl) rfl T.Aw (by decide+kernel) (Aa (pv 0) (Aa (Cr rfl T.U8) Ae))) Ae)) (A5 Cp rfl T.Np (by decide+kernel) (Aa (Ax (Bj (K:=K) rfl) rfl T.Aw (by decide+kernel) (Aa (pv 0) (Aa (Cr rfl T.R9) Ae))) Ae))) (A5 Cp rfl T.Np (by decide+kernel) (Aa (Ax (Bj (K:=K) rfl) rfl T.Aw (by decide+kernel) (Aa (pv 0) (Aa (Cr rfl T.Rm) Ae))) Ae))))
   (Af (Be (i:=1) J0.nd rfl (Or.inl rfl) (Ba Cd (Ba Cd (Ba Cd (pv 1) (A5 Cp rfl T.Np (by decide+kernel) (Aa (Ax (Bj (K:=K) rfl) rfl T.Aw (by decide+kernel) (Aa (pv 0) (Aa (Cr rfl T.Pc) Ae))) Ae))) (A5 Cp rfl T.Np (by decide+kernel) (Aa (Ax (Bj (K:=K) rfl) rfl T.Aw (by decide+kernel) (Aa (pv 0) (Aa (Cr rfl T.Pp) Ae))) Ae))) (A5 Cp rfl T.Np (by decide+kernel) (Aa (Ax (Bj (K:=K) rfl) rfl T.Aw (by decide+kernel) (Aa (pv 0) (Aa (Cr rfl T.E6) Ae))) Ae))))
   (Af (Be (i:=1) J0.nd rfl (Or.inl rfl) (Ba Cd (Ba Cd (Ba Cd (pv 1) (A5 Cp rfl T.Np (by decide+kernel) (Aa (Ax (Bj (K:=K) rfl) rfl T.Aw (by decide+kernel) (Aa (pv 0) (Aa (Cr rfl T.Ql) Ae))) Ae))) (A5 Cp rfl T.Np (by decide+kernel) (Aa (Ax (Bj (K:=K) rfl) rfl T.Aw (by decide+kernel) (Aa (pv 0) (Aa (Cr rfl T.Tz) Ae))) Ae))) (A5 Cp rfl T.Np (by decide+kernel) (Aa (Ax (Bj (K:=K) rfl) rfl T.Aw (by decide+kernel) (Aa (pv 0) (Aa (Cr rfl T.Nb) Ae))) Ae))))
   (Af (Be (i:=1) J0.nd rfl (Or.inl rfl) (Ba Cd (Ba Cd (Ba Cd (pv 1) (A5 Cp rfl T.Np (by decide+kernel) (Aa (Ax (Bj (K:=K) rfl) rfl T.Aw (by decide+kernel) (Aa (pv 0) (Aa (Cr rfl T.Rr) Ae))) Ae))) (A5 Cp rfl T.Np (by decide+kernel) (Aa (Ax (Bj (K:=K) rfl) rfl T.Aw (by decide+kernel) (Aa (pv 0) (Aa (Cr rfl T.Rq) Ae))) Ae))) (A5 Cp rfl T.Np (by decide+kernel) (Aa (Ax (Bj (K:=K) rfl) rfl T.Aw (by decide+kernel) (Aa (pv 0) (Aa (Cr rfl T.Lz) Ae))) Ae))))
   (Af (Be (i:=1) J0.nd rfl (Or.inl rfl) (Ba Cd (Ba Cd (pv 1) (A5 Cp rfl T.Np (by decide+kernel) (Aa (Ax (Bj (K:=K) rfl) rfl T.Aw (by decide+kernel) (Aa (pv 0) (Aa (Cr rfl T.Sa) Ae))) Ae))) (A5 Cp rfl T.Np (by decide+kernel) (Aa (Ax (Bj (K:=K) rfl) rfl T.Aw (by decide+kernel) (Aa (pv 0) (Aa (Cr rfl T.de) Ae))) Ae))))
   (Ag (A8 (Xv (Ax (Bj (K:=K) rfl) rfl T.Aw (by decide+kernel) (Aa (pv 0) (Aa (zi (v:=.ty "ValueError") rfl T.Kv (by decide+kernel) rfl) Ae))) (X0 (L5 So (pv 1) Aj (A6 _))))))))))),?_⟩
  rcases hx with⟨rfl,_⟩|⟨rfl,_⟩|⟨rfl,_⟩
  ·
   refine⟨_,rfl,e,_,_,_,_,rfl,he,T.Cg,.inl ⟨_,rfl,rfl⟩,T.Fc,.inr ⟨_,rfl,_,rfl,e,_,_,_,_,rfl,he,T.Cg,.inl ⟨_,rfl,rfl⟩,T.Ee,.inr ⟨_,rfl,_,_,rfl,rfl,_,rfl,e,_,_,_,_,rfl,he,T.Cg,.inl ⟨_,rfl,rfl⟩,T.Ea,.inr ⟨_,rfl,_,_,rfl,rfl,?_⟩⟩⟩⟩
   refine⟨_,rfl,_,rfl,e,_,_,_,_,rfl,he,T.Cg,.inl ⟨_,rfl,rfl⟩,T.Dc,.inr ⟨_,rfl,_,_,rfl,rfl,_,rfl,e,_,_,_,_,rfl,he,T.Cg,.inl ⟨_,rfl,rfl⟩,T.Ef,.inr ⟨_,rfl,_,_,rfl,rfl,_,rfl,e,_,_,_,_,rfl,he,T.Cg,.inl ⟨_,rfl,rfl⟩,T.Cn,.inr ⟨_,rfl,_,_,rfl,rfl,?_⟩⟩⟩⟩
   refine⟨_,rfl,_,rfl,e,_,_,_,_,rfl,he,T.Cg,.inl ⟨_,rfl,rfl⟩,T.E8,.inr ⟨_,rfl,_,_,rfl,rfl,_,rfl,e,_,_,_,_,rfl,he,T.Cg,.inl ⟨_,rfl,rfl⟩,T.Gj,.inr ⟨_,rfl,_,_,rfl,rfl,_,rfl,e,_,_,_,_,rfl,he,T.Cg,.inl ⟨_,rfl,rfl⟩,T.C0,.inr ⟨_,rfl,_,_,rfl,rfl,?_⟩⟩⟩⟩
   refine⟨_,rfl,_,rfl,e,_,_,_,_,rfl,he,T.Cg,.inl ⟨_,rfl,rfl⟩,T.Ei,.inr ⟨_,rfl,_,_,rfl,rfl,_,rfl,e,_,_,_,_,rfl,he,T.Cg,.inl ⟨_,rfl,rfl⟩,T.Eg,.inr ⟨_,rfl,_,_,rfl,rfl,_,rfl,e,_,_,_,_,rfl,he,T.Cg,.inl ⟨_,rfl,rfl⟩,T.Cq,.inr ⟨_,rfl,_,_,rfl,rfl,?_⟩⟩⟩⟩
   refine⟨_,rfl,_,rfl,e,_,_,_,_,rfl,he,T.Cg,.inl ⟨_,rfl,rfl⟩,T.Ed,.inr ⟨_,rfl,_,_,rfl,rfl,_,rfl,e,_,_,_,_,rfl,he,T.Cg,.inl ⟨_,rfl,rfl⟩,T.Gh,.inr ⟨_,rfl,_,_,rfl,rfl,?_⟩⟩⟩
   refine⟨_,rfl,e,_,_,_,_,rfl,he,T.Cg,.inr ⟨_,rfl,rfl⟩,T.Ci,_,rfl,Nw ?_⟩
   exact⟨_,rfl,rfl,k⟩
  ·
   refine⟨_,rfl,e,_,_,_,_,rfl,he,T.Fe,.inl ⟨_,rfl,rfl⟩,T.Ho,.inr ⟨_,rfl,_,rfl,e,_,_,_,_,rfl,he,T.Fe,.inl ⟨_,rfl,rfl⟩,T.F7,.inr ⟨_,rfl,_,_,rfl,rfl,_,rfl,e,_,_,_,_,rfl,he,T.Fe,.inl ⟨_,rfl,rfl⟩,T.F4,.inr ⟨_,rfl,_,_,rfl,rfl,?_⟩⟩⟩⟩
   refine⟨_,rfl,_,rfl,e,_,_,_,_,rfl,he,T.Fe,.inl ⟨_,rfl,rfl⟩,T.E4,.inr ⟨_,rfl,_,_,rfl,rfl,_,rfl,e,_,_,_,_,rfl,he,T.Fe,.inl ⟨_,rfl,rfl⟩,T.Gb,.inr ⟨_,rfl,_,_,rfl,rfl,_,rfl,e,_,_,_,_,rfl,he,T.Fe,.inl ⟨_,rfl,rfl⟩,T.Dq,.inr ⟨_,rfl,_,_,rfl,rfl,?_⟩⟩⟩⟩
   refine⟨_,rfl,_,rfl,e,_,_,_,_,rfl,he,T.Fe,.inl ⟨_,rfl,rfl⟩,T.Fx,.inr ⟨_,rfl,_,_,rfl,rfl,_,rfl,e,_,_,_,_,rfl,he,T.Fe,.inl ⟨_,rfl,rfl⟩,T.Kn,.inr ⟨_,rfl,_,_,rfl,rfl,_,rfl,e,_,_,_,_,rfl,he,T.Fe,.inl ⟨_,rfl,rfl⟩,T.Ec,.inr ⟨_,rfl,_,_,rfl,rfl,?_⟩⟩⟩⟩
   refine⟨_,rfl,_,rfl,e,_,_,_,_,rfl,he,T.Fe,.inl ⟨_,rfl,rfl⟩,T.F6,.inr ⟨_,rfl,_,_,rfl,rfl,_,rfl,e,_,_,_,_,rfl,he,T.Fe,.inl ⟨_,rfl,rfl⟩,T.Gk,.inr ⟨_,rfl,_,_,rfl,rfl,_,rfl,e,_,_,_,_,rfl,he,T.Fe,.inl ⟨_,rfl,rfl⟩,T.Dk,.inr ⟨_,rfl,_,_,rfl,rfl,?_⟩⟩⟩⟩
   refine⟨_,rfl,_,rfl,e,_,_,_,_,rfl,he,T.Fe,.inl ⟨_,rfl,rfl⟩,T.Gf,.inr ⟨_,rfl,_,_,rfl,rfl,_,rfl,e,_,_,_,_,rfl,he,T.Fe,.inl ⟨_,rfl,rfl⟩,T.Kp,.inr ⟨_,rfl,_,_,rfl,rfl,?_⟩⟩⟩
   refine⟨_,rfl,e,_,_,_,_,rfl,he,T.Fe,.inr ⟨_,rfl,rfl⟩,T.C4,_,rfl,Nw ?_⟩
   exact⟨_,rfl,rfl,k⟩
  ·
   refine⟨_,rfl,e,_,_,_,_,rfl,he,T.Jl,.inl ⟨_,rfl,rfl⟩,T.Kq,.inr ⟨_,rfl,_,rfl,e,_,_,_,_,rfl,he,T.Jl,.inl ⟨_,rfl,rfl⟩,T.Jf,.inr ⟨_,rfl,_,_,rfl,rfl,_,rfl,e,_,_,_,_,rfl,he,T.Jl,.inl ⟨_,rfl,rfl⟩,T.Hn,.inr ⟨_,rfl,_,_,rfl,rfl,?_⟩⟩⟩⟩
   refine⟨_,rfl,_,rfl,e,_,_,_,_,rfl,he,T.Jl,.inl ⟨_,rfl,rfl⟩,T.F5,.inr ⟨_,rfl,_,_,rfl,rfl,_,rfl,e,_,_,_,_,rfl,he,T.Jl,.inl ⟨_,rfl,rfl⟩,T.Hm,.inr ⟨_,rfl,_,_,rfl,rfl,_,rfl,e,_,_,_,_,rfl,he,T.Jl,.inl ⟨_,rfl,rfl⟩,T.En,.inr ⟨_,rfl,_,_,rfl,rfl,?_⟩⟩⟩⟩
   refine⟨_,rfl,_,rfl,e,_,_,_,_,rfl,he,T.Jl,.inl ⟨_,rfl,rfl⟩,T.Hh,.inr ⟨_,rfl,_,_,rfl,rfl,_,rfl,e,_,_,_,_,rfl,he,T.Jl,.inl ⟨_,rfl,rfl⟩,T.Ju,.inr ⟨_,rfl,_,_,rfl,rfl,_,rfl,e,_,_,_,_,rfl,he,T.Jl,.inl ⟨_,rfl,rfl⟩,T.Fd,.inr ⟨_,rfl,_,_,rfl,rfl,?_⟩⟩⟩⟩
   refine⟨_,rfl,_,rfl,e,_,_,_,_,rfl,he,T.Jl,.inl ⟨_,rfl,rfl⟩,T.Iv,.inr ⟨_,rfl,_,_,rfl,rfl,_,rfl,e,_,_,_,_,rfl,he,T.Jl,.inl ⟨_,rfl,rfl⟩,T.Jh,.inr ⟨_,rfl,_,_,rfl,rfl,_,rfl,e,_,_,_,_,rfl,he,T.Jl,.inl ⟨_,rfl,rfl⟩,T.Eh,.inr ⟨_,rfl,_,_,rfl,rfl,?_⟩⟩⟩⟩
   refine⟨_,rfl,_,rfl,e,_,_,_,_,rfl,he,T.Jl,.inl ⟨_,rfl,rfl⟩,T.Im,.inr ⟨_,rfl,_,_,rfl,rfl,_,rfl,e,_,_,_,_,rfl,he,T.Jl,.inl ⟨_,rfl,rfl⟩,T.L6,.inr ⟨_,rfl,_,_,rfl,rfl,?_⟩⟩⟩
   refine⟨_,rfl,e,_,_,_,_,rfl,he,T.Jl,.inr ⟨_,rfl,rfl⟩,T.Dh,_,rfl,Nw ?_⟩
   exact⟨_,rfl,rfl,k⟩
theorem nr:Ar ["_law_plain","_law_kind","_law_name","_law_minute","_law_length","_law_good"] ["_law_plain","_law_kind","_law_name","_law_minute","_law_length","_law_good"] (Ab Nj):=⟨rfl,rfl,rfl,by decide+kernel,rfl,by decide+kernel,by decide+kernel⟩
theorem kh (
      T:Txt K mg a):FnOk P w K mg base CX0 true 1 a.R8 a.Q2 ["_law_plain","_law_kind","_law_name","_law_minute","_law_length","_law_good"] (kg):=by
 refine T.cf.ok nr (λvs H Q E h=>?_) (λcdv A outer s H vs Q E hr h=>?_)
 · obtain⟨p,xs,kd,nm,m,l,g,rfl,_⟩:=h;rfl
 ·
  obtain⟨p,xs,kd,nm,m,l,g,rfl,hp,nd,hg,k⟩:=h
  refine⟨_,(Af (Cy (A2 M5 (pv 1) Aj (A6 _)) (Af (Cy (A2 p8 (Ax ae rfl T.Rx (by decide+kernel) (Aa (pv 0) Ae)) Aj (A6 _)) (Ag (A8 Ce)) Bd)
   (Af (Cy (N8 (L1 (pv 5))) (Ag (A8 Ce)) Bd)
   (Af (Cy (Xu (jb (L8 hr) (pv 2) (pv 0)) (by with_unfolding_all rfl)) (Ag (A8 Ce)) Bd)
   (Ag (A8 (D8 (PW.pt (Ts (A2 M5 (pv 1) Aj (A6 _)) (Ox (PW.pt (ke (N8 (Zy tu M5 Aj (pv 3) Aj)) (Xp (N8 (Zy tu tu Aj (pv 4) Aj)))))))) Ce Ce)))))) Bd)
   (Af (Cy (A2 So (pv 1) Aj (A6 _)) (Ag (A8 (D8 (Xu (jb (L8 hr) (pv 2) (pv 0)) (by with_unfolding_all rfl)) Ce Ce))) Bd)
   (Ag (A8 (D8 (PW.pt (Ts (Xu (jb (L8 hr) (pv 2) (pv 0)) (by with_unfolding_all rfl)) (Ox (A2 Vm (gd (L8 hr) (pv 0) (pv 2) (λ_ _=>rfl)) Aj (A6 _))))) Ce Ce))))),?_⟩
  refine⟨_,rfl,_,_,rfl,rfl,_,rfl,?_⟩
  refine Jn (λz=>?_) (λz=>?_)
  ·
   have hk:=Agf z
   rw[Ac7 hk] at k
   refine⟨_,rfl,p,_,rfl,hp,_,_,rfl,rfl,_,rfl,?_⟩
   have el:=O0 (f:=λx=>.int (cnt x.2.2)) xs
   refine Jn (λz=>?_) (λz=>?_)
   ·
    have hz:40<=xs.length:=by have:=Agf z;rw[el] at this;lia
    rw[zt (yq hz)] at k
    exact k
   have hz:¬40<=xs.length:=λw=>z (Age (by rw[el];lia))
   refine⟨_,rfl,_,rfl,?_⟩
   rw[hg]
   by_cases hn:Jk nm.cps.toList=true
   case neg=>
    have hn':=Akt.mpr hn
    rw[hn']
    rw[zl (yn hz hn')] at k
    exact Nw k
   rw[hn]
   refine M0 ?_
   refine⟨_,rfl,_,rfl,p,_,rfl,DGet.k (k:=Sum.inr nm) hp,_,rfl,?_⟩
   rw[V6]
   by_cases hm:nm∈xs.map thN
   ·
    rw[Age hm]
    rw[Abm (yo hz hn hm)] at k
    exact Nw k
   rw[Agp hm]
   refine M0 ?_
   have r0:=om hz hn hm
   refine⟨_,rfl,_,_,rfl,rfl,_,rfl,?_⟩
   have noT:(¬(kd<3/\¬n9 m l))->Q (.str "") H:=λh=>by rw[Aa3 r0 h] at k;exact k
   have yesT:kd<3/\¬n9 m l->Q (.str "NoThing") H:=λh=>by rw[Acj r0 h] at k;exact k
   refine Jn (λz=>?_) (λz=>noT λw=>z (Age w.1))
   have hk3:=Agf z
   refine⟨_,rfl,_,_,rfl,rfl,_,rfl,?_⟩
   refine Jn (λz=>?_) (λz=>?_)
   ·
    have m0:=Agf z
    refine⟨_,_,rfl,rfl,_,rfl,?_⟩
    by_cases m1:m<1440
    ·
     rw[Age m1]
     refine M0 ⟨_,rfl,_,_,rfl,rfl,_,rfl,?_⟩
     refine Jn (λz=>?_) (λz=>?_)
     ·
      have l0:=Agf z
      refine⟨_,_,rfl,rfl,_,rfl,?_⟩
      by_cases l1:l<=10080
      ·
       rw[Age l1]
       exact M0 (noT λw=>w.2 ⟨⟨m0,m1⟩,l0,l1⟩)
      ·
       rw[Agp l1]
       exact Nw (yesT ⟨hk3,λw=>l1 w.2.2⟩)
     · exact⟨_,rfl,Nw (yesT ⟨hk3,λw=>z (Age w.2.1)⟩)⟩
    ·
     rw[Agp m1]
     exact Nw (yesT ⟨hk3,λw=>m1 w.1.2⟩)
   · exact⟨_,rfl,Nw (yesT ⟨hk3,λw=>z (Age w.1.1)⟩)⟩
  have hk:¬kd<4:=λw=>z (Age w)
  refine⟨_,rfl,rfl,_,rfl,?_⟩
  refine Jn (λz=>?_) (λz=>?_)
  ·
   have e4:kd=4:=V.int.inj (Agf z)
   subst e4
   rw[Ace] at k
   refine⟨_,rfl,_,rfl,p,_,rfl,DGet.k (k:=Sum.inr nm) hp,_,rfl,?_⟩
   rw[V6]
   by_cases hm:nm∈xs.map thN
   ·
    rw[Age hm]
    rw[if_pos hm] at k
    exact Nw k
   ·
    rw[Agp hm]
    rw[if_neg hm] at k
    exact M0 k
  have hk5:4<kd:=by
   have:¬kd=4:=λw=>z (Age (Ahb V.int w))
   lia
  rw[Aam hk5] at k
  refine⟨_,rfl,_,rfl,p,_,rfl,DGet.k (k:=Sum.inr nm) hp,_,rfl,?_⟩
  rw[V6]
  by_cases hm:nm∈xs.map thN
  ·
   rw[Age hm]
   refine Nw ⟨_,rfl,_,rfl,p,_,rfl,.inl ⟨kvP xs,Sum.inr nm,.inl hp,rfl,(qa nd hm).symm⟩,_,_,rfl,rfl,_,rfl,?_⟩
   refine Jn (λz=>?_) (λz=>?_)
   ·
    rw[if_pos (Agf z)] at k
    exact k
   ·
    rw[if_neg λw=>z (Age w)] at k
    exact k
  ·
   rw[Agp hm]
   have h0:Xr xs nm=0:=by
    cases e:under xs nm with
    | none=>exact Vi e
    | some z=>exact absurd (Ag8 (f:=thN) (Ga (o:=z.1) (t:=z.2) e)) hm
   rw[h0,if_neg (by decide)] at k
   exact M0 k
theorem l6:Ar ["text"] ["text"] (Ab Nf):=⟨rfl,rfl,rfl,by decide+kernel,rfl,by decide+kernel,by decide+kernel⟩
theorem Xq (T:Txt K mg a):FnOk P w K mg base CX0 true 2 a.Q5 a.Rp ["text"] (mw):=by
 refine T.V2.ok l6 (λvs H Q E h=>?_) (λcdv A outer s H vs Q E hr h=>?_)
 · obtain⟨t,rfl,_⟩:=h;rfl
 ·
  obtain⟨t,rfl,hl,k⟩:=h
  refine⟨_,(Af (Cy (PW.pt (ke (A2 M5 (Ax Tn rfl T.Rx (by decide+kernel) (Aa (pv 0) Ae)) Aj (A6 _)) (Xp (A2 Vm (Ax Tn rfl T.Rx (by decide+kernel) (Aa (pv 0) Ae)) (Bv rfl T.Ko) (A6 _))))) (Ag (A8 Z3)) Bd)
   (Ag (A8 (Xv (L5 bg (Hk sy (pv 0) Aj (λ_ _=>rfl)) (Ya rfl T.M7) (by with_unfolding_all rfl)) (X0 (Az ((Y6 T).mono (by decide)) hr rfl T.aa T.Tu.kp T.dj .nil Bh (Aa (pv 0) (Aa (Ba Sg (Ya rfl T.M7) (Ya rfl T.O1)) Ae)))))))),?_⟩
  have hz:t.length<=sizeLine:=Ajz (Ag2 hl Abw)
  have el:t.cps.toList.length=t.length:=Agg
  refine⟨_,rfl,t,rfl,hz,_,_,rfl,rfl,_,rfl,?_⟩
  refine Jn (λh1=>?_) (λh1=>?_)
  ·
   refine Nw ?_
   have q:=k H (Same.refl _)
   rw[ik (by rw[el];have:=Agf h1;lia)] at q
   exact q
  ·
   have h1':¬((t.length:Int)<1):=λz=>h1 (Age z)
   refine⟨_,rfl,t,rfl,hz,_,_,rfl,rfl,_,rfl,?_⟩
   refine Jn (λh2=>?_) (λh2=>?_)
   ·
    have q:=k H (Same.refl _)
    rw[nh (by rw[el];have:=Agf h2;lia)] at q
    exact q
   ·
    have h2':¬((8:Int)<t.length):=λz=>h2 (Age z)
    obtain⟨c0,e0⟩:∃c,t.cps.toList[0]?=some c:=⟨t.cps.toList[0]'(by rw[el];lia),by simp⟩
    refine⟨_,rfl,t,0,c0,rfl,rfl,hz,Y4 e0,c0,_,rfl,rfl,_,rfl,?_⟩
    have en:=qx (l:=t.cps.toList) (by rw[el];lia) (by rw[el];lia) e0
    refine Jn (λh3=>?_) (λh3=>?_)
    ·
     refine⟨_,rfl,_,_,rfl,rfl,by decide+kernel,t,_,rfl,hl,λH' sm=>?_⟩
     have q:=k H' sm
     rw[en,show decide (c0∈LT)=true from h3,Bool.true_and] at q
     exact q
    ·
     have q:=k H (Same.refl _)
     rw[en,show decide (c0∈LT)=false from Agp (λz=>h3 (Age z)),Bool.false_and] at q
     exact q
theorem Zj:Ar ["begin","end"] ["begin","end"] (Ab G8):=⟨rfl,rfl,rfl,by decide+kernel,rfl,by decide+kernel,by decide+kernel⟩
theorem Ze (T:Txt K mg a):FnOk P w K mg base (CXe P w) true 2 a.Mm a.L9 ["begin","end"] (Zc a.Am):=by
 refine T.Tx.okE Zj (λvs H Q E h=>?_) (λcdv A outer s H vs Q E hr h=>?_)
 · obtain⟨b,e,rfl,_⟩:=h;rfl
 ·
  obtain⟨b,e,rfl,k1,k2⟩:=h
  refine⟨_,(Ag (Cy (N8 (L1 (Az ((kj T).mono (by decide)) hr rfl T.ou T.ar.kp T.oz .nil Bh (Aa (pv 0) (Aa (pv 1) Ae))))) (Ag (Lf Fh rfl rfl T.Pp T.Am (Aa Ce Ae))) Bd)),?_⟩
  refine⟨_,rfl,_,rfl,b,e,rfl,_,rfl,?_⟩
  by_cases hb:b<e
  ·
   rw[Age hb]
   exact M0 (k1 hb)
  ·
   rw[Agp hb]
   exact Nw ⟨(by show 1<=sizeLine;decide),k2 hb⟩
theorem Kw:Ar ["changes","place","change"] ["changes"] (Ab Dg):=⟨rfl,rfl,rfl,by decide+kernel,rfl,by decide+kernel,by decide+kernel⟩
theorem Ue (T:Txt K mg a):FnOk P w K mg base CX0 true 2 a.Iu a.Ja ["changes"] (Us):=by
 refine T.Ow.ok Kw (λvs H Q E h=>?_) (λcdv A outer s H vs Q E hr h=>?_)
 · obtain⟨p,rfl,_⟩:=h;rfl
 ·
  obtain⟨p,rfl,hp,k⟩:=h
  refine⟨_,(Af (Cy (A2 Vm (Ax (F0 (K:=K) rfl) rfl T.Rx (by decide+kernel) (Aa (pv 0) Ae)) (Bv rfl T.Gd) (A6 _)) (Ag N3) Bd)
   (Af (Og Aht rfl (Va rfl T.Nz (Aa Aj (Aa (Ax (F0 (K:=K) rfl) rfl T.Rx (by decide+kernel) (Aa (pv 0) Ae)) Ae))) (C5 (i:=1) Kw.nd rfl (Or.inl rfl)) (Ag (Cy (A2 tu (Hk (Ff (K:=K) rfl) (Hk (Ff (K:=K) rfl) (pv 0) (pv 1) (λ_ _=>rfl)) Aj (λ_ _=>rfl)) (Hk (Ff (K:=K) rfl) (Hk (Ff (K:=K) rfl) (pv 0) (Ba Nd (pv 1) Aj) (λ_ _=>rfl)) Aj (λ_ _=>rfl)) (A6 _)) (Ag N3) Bd)))
   (Ag (Og Aht rfl (Qr (K:=K) rfl (pv 0)) (C5 (i:=2) Kw.nd rfl (Or.inl rfl)) (Ag (De (Az ((Ov T).mono (by decide)) hr rfl T.P9 T.Mz.kp T.P8 .nil Bh (Aa (Hk (Ff (K:=K) rfl) (pv 2) Aj (λ_ _=>rfl)) Ae)))))))),?_⟩
  refine⟨_,rfl,p,_,rfl,.inr (SqT.of hp),_,_,rfl,rfl,_,rfl,?_⟩
  refine Jn (λz=>absurd (Agf z) (by decide)) (λ_=>?_)
  refine⟨_,rfl,p,_,rfl,.inr (SqT.of hp),_,_,rfl,⟨by decide,by decide,by decide,by decide⟩,?_⟩
  refine Vn (λi σ H'=>H'=H/\∃x y,σ=[some (.ref p),x,y]) ⟨rfl,_,_,rfl⟩ ?_ ?_
  ·
   rintro i σ H1 hi _
   exact absurd hi (Aho _)
  rintro σ H1 ⟨rfl,x1,x2,rfl⟩
  refine⟨_,rfl,p,rfl,⟨_,SqT.of hp⟩,?_⟩
  refine O7 (Qs (SqT.of hp)) (λi σ H'=>H'=H1/\∃x y,σ=[some (.ref p),x,y]) ⟨rfl,_,_,rfl⟩ (λ_ _ _ _ h=>h.1▸Same.refl _) ?_ ?_
  ·
   rintro i x σ H2 hx _
   cases hx
  ·
   rintro σ H2 ⟨rfl,x1,x2,rfl⟩
   exact k
theorem T5:Ar ["place","moment"] ["place","moment"] (Ab Di):=⟨rfl,rfl,rfl,by decide+kernel,rfl,by decide+kernel,by decide+kernel⟩
theorem G1 (T:Txt K mg a):FnOk P w K mg base CX0 true 2 a.Jg a.Ir ["place","moment"] (Ul a.A0):=by
 refine T.E5.ok T5 (λvs H Q E h=>?_) (λcdv A outer s H vs Q E hr h=>?_)
 · obtain⟨p,m,rfl,_⟩:=h;rfl
 ·
  obtain⟨p,m,rfl,pl,k⟩:=h
  refine⟨_,(Ag (A8 (Az ((Kb T).mono (by decide)) hr rfl T.Lm T.Jc.kp T.Lo .nil Bh (Aa (As (K:=K) rfl (pv 0)) (Aa (Ba Cd (pv 1) Aj) Ae))))),?_⟩
  obtain⟨dx,c,mm,hx,hc,hm⟩:=id pl
  exact⟨_,rfl,p,_,dx,_,_,rfl,hx,T.Mi,T.Ot,rfl,_,rfl,_,_,rfl,rfl,mm,[],_,rfl,SqT.of hm,.nil,Ahn _,k⟩
theorem Qd:Ar ["day"] ["day"] (Ab Ca):=⟨rfl,rfl,rfl,by decide+kernel,rfl,by decide+kernel,by decide+kernel⟩
theorem Dr (T:Txt K mg a):FnOk P w K mg base CX0 true 2 a.Ey a.Ex ["day"] (Tw):=by
 refine T.Cv.ok Qd (λvs H Q E h=>?_) (λcdv A outer s H vs Q E hr h=>?_)
 · obtain⟨n,rfl,_⟩:=h;rfl
 ·
  obtain⟨n,rfl,hn,k⟩:=h
  refine⟨_,(Ag (Cy (N8 (L1 (Az ((Vj T).mono (by decide)) hr rfl T.Yp T.U2.kp T.Yl .nil Bh (Aa (pv 0) Ae)))) (Ag N3) Bd)),?_⟩
  refine⟨_,rfl,n,rfl,_,rfl,?_⟩
  rw[Age (show 0<=n/\n<146097 from ⟨by have:=hn.1;lia,hn.2⟩)]
  exact M0 k
theorem Oc:Ar ["self","begin","end","span"] ["self","begin","end"] (Ab Dl):=⟨rfl,rfl,rfl,by decide+kernel,rfl,by decide+kernel,by decide+kernel⟩
theorem Ub (T:Txt K mg a):FnOk P w K mg base CX0 true 2 a.Il a.Hx ["self","begin","end"] (Kx a.Bo):=by
 refine T.Vs.ok Oc (λvs H Q E h=>?_) (λcdv A outer s H vs Q E hr h=>?_)
 · obtain⟨x,dx,b0,e0,rfl,_⟩:=h;rfl
 ·
  obtain⟨x,dx,b0,e0,rfl,hx,k⟩:=h
  refine⟨_,(Af (Be (i:=3) Oc.nd rfl (Or.inl rfl) (Ku (Aa (As (K:=K) rfl (pv 0)) (Aa (As (K:=K) rfl (pv 0)) Ae))))
   (Ag (A8 (D8 (L1 (Az ((i6 T).mono (by decide)) hr rfl T.qo T.fg.kp T.uq .nil Bh (Aa (pv 3) (Aa (pv 1) (Aa (pv 2) Ae))))) (Oh (Aa (pv 3) Ae)) (Oh Ae))))),?_⟩
  refine⟨_,rfl,x,_,dx,_,_,rfl,hx,T.Sk,T.T1,rfl,_,rfl,x,_,dx,_,_,rfl,hx,T.Sk,T.X1,rfl,(by show 2<=sizeLine;decide),λp hp=>?_⟩
  refine⟨_,rfl,_,rfl,_,rfl,p,b0,e0,0,20000,rfl,Ac,_,rfl,?_⟩
  refine Jn (λz=>?_) (λz=>?_)
  ·
   have hm:=Agf z
   refine⟨_,rfl,(by show 1<=sizeLine;decide),λl hl=>k l [(k2 (b0,e0),p)] _ ((Ah hp).trans (Ah hl)) ((Ah hp).free hl) ⟨Ac,λx hx=>?_⟩ (by unfold onS;rw[if_pos hm];rfl)⟩
   rw[Ag3] at hx
   subst hx
   exact Ah hl _ _ Ac
  ·
   have hm:¬max b0 0<min e0 20000:=λw=>z (Age w)
   refine⟨(by show 0<=sizeLine;decide),λl hl=>k l [] _ ((Ah hp).trans (Ah hl)) ((Ah hp).free hl) ⟨Ac,λx hx=>nomatch hx⟩ (by unfold onS;rw[if_neg hm];rfl)⟩
theorem K8:Ar ["self","name","thing"] ["self","name"] (Ab Bz):=⟨rfl,rfl,rfl,by decide+kernel,rfl,by decide+kernel,by decide+kernel⟩
theorem F2 (T:Txt K mg a):FnOk P w K mg base (CXe P w) true 2 a.D9 a.Dx ["self","name"] (Qx (ad a) a.Ad):=by
 refine T.Qf.okE K8 (λvs H Q E h=>?_) (λcdv A outer s H vs Q E hr h=>?_)
 · obtain⟨X,b,d,xs,nm,rfl,_⟩:=h;rfl
 ·
  obtain⟨X,b,d,xs,nm,rfl,hB,k1,k2⟩:=h
  refine⟨_,(Af (Be (i:=2) K8.nd rfl (Or.inl rfl) (xf (L8 hr) (As (K:=K) rfl (pv 0)) (pv 1) ⟨rfl,rfl,rfl,rfl⟩))
   (Af (Cy (N8 (L1 (Ax (k6 (K:=K) rfl) rfl T.Aw (by decide+kernel) (Aa (pv 2) (Aa (Cr rfl T.gy) Ae))))) (Ag (Lf Fh rfl rfl T.E6 T.Ad (Aa Ce Ae))) Bd)
   (Ag (A8 (pv 2))))),?_⟩
  obtain⟨db,hb⟩:=hB.ins
  refine⟨_,rfl,b,_,db,_,_,rfl,hb,T.Bm,T.A9,rfl,d,rfl,.inl ⟨_,.inl hB.at_⟩,_,rfl,_,DGet.k (k:=Sum.inr nm) hB.at_,?_⟩
  cases e:under xs nm with
  |
   none=>
   rw[ib (Sr e)]
   refine⟨_,rfl,_,_,_,_,rfl,ef.non,T.Q8,_,rfl,Nw ⟨(by show 1<=sizeLine;decide),k2 λo r m l n h=>?_⟩⟩
   rw[e] at h
   cases h
  |
   some z=>
   obtain⟨o,t⟩:=z
   have hm:=Ga e
   have hv:Nl (kvT xs) (.inr nm)=some (.ref o):=bx hB.nd hm
   rw[hv]
   have ht:=hB.ok _ hm
   cases t with
   |
    on b0 e0=>
    obtain⟨dx,hx⟩:=ThAt.isOn.mp ht
    refine⟨_,rfl,_,_,_,_,rfl,T.Aap.ty T.Sk hx,T.Ig,_,rfl,Nw ⟨(by show 1<=sizeLine;decide),k2 λo r m l n h=>?_⟩⟩
    rw[e] at h
    cases h
   |
    ag r m l n=>
    obtain⟨dx,y,p,hx,_⟩:=ThAt.isAg.mp ht
    refine⟨_,rfl,_,_,_,_,rfl,T.x8.ty T.Bi hx,T.Gi,_,rfl,M0 ?_⟩
    exact⟨_,rfl,k1 o r m l n e⟩
theorem bo:Ar ["_law_e"] ["_law_e"] (Ab Jq):=⟨rfl,rfl,rfl,by decide+kernel,rfl,by decide+kernel,by decide+kernel⟩
theorem da (T:Txt K mg a):FnOk P w K mg base CX0 false 2 a.N4 a.Ny ["_law_e"] (ai a):=by
 refine T.Ws.ok bo (λvs H Q E h=>?_) (λcdv A outer s H vs Q E hr h=>?_)
 · obtain⟨e,x,nm,rfl,_⟩:=h;rfl
 ·
  obtain⟨e,x,nm,rfl,he,hx,k⟩:=h
  refine⟨_,(Af (Cy (N8 (L1 (Az ((fq T).mono (by decide)) hr rfl T.nj T.Xx.kp T.kr .nil Bh (Aa (pv 0) Ae)))) (Ag (A8 Ce)) Bd)
   (Af (Cy (L1 (Ax (Bj (K:=K) rfl) rfl T.Aw (by decide+kernel) (Aa (pv 0) (Aa (Cr rfl T.E6) Ae)))) (Ag (A8 Ce)) Bd)
   (Af (Cy (L1 (Ax (Bj (K:=K) rfl) rfl T.Aw (by decide+kernel) (Aa (pv 0) (Aa (Cr rfl T.Ql) Ae)))) (Ag (A8 Ce)) Bd)
   (Af (Cy (L1 (Ax (Bj (K:=K) rfl) rfl T.Aw (by decide+kernel) (Aa (pv 0) (Aa (Cr rfl T.Tz) Ae)))) (Ag (A8 Ce)) Bd)
   (Ag (A8 Ce)))))),?_⟩
  rcases hx with⟨rfl,rfl⟩|⟨rfl,rfl⟩|⟨rfl,rfl⟩
  ·
   refine⟨_,rfl,e,a.Ad,_,rfl,he,.inl ⟨rfl,rfl⟩,_,rfl,M0 ?_⟩
   exact⟨_,rfl,e,_,_,_,_,rfl,he,T.Cg,.inl ⟨_,rfl,rfl⟩,T.Cn,_,rfl,Nw k⟩
  ·
   refine⟨_,rfl,e,a.Ao,_,rfl,he,.inr (.inl ⟨rfl,rfl⟩),_,rfl,M0 ?_⟩
   refine⟨_,rfl,e,_,_,_,_,rfl,he,T.Fe,.inl ⟨_,rfl,rfl⟩,T.Dq,_,rfl,M0 ?_⟩
   exact⟨_,rfl,e,_,_,_,_,rfl,he,T.Fe,.inl ⟨_,rfl,rfl⟩,T.Fx,_,rfl,Nw k⟩
  ·
   refine⟨_,rfl,e,a.Ap,_,rfl,he,.inr (.inr ⟨rfl,rfl⟩),_,rfl,M0 ?_⟩
   refine⟨_,rfl,e,_,_,_,_,rfl,he,T.Jl,.inl ⟨_,rfl,rfl⟩,T.En,_,rfl,M0 ?_⟩
   refine⟨_,rfl,e,_,_,_,_,rfl,he,T.Jl,.inl ⟨_,rfl,rfl⟩,T.Hh,_,rfl,M0 ?_⟩
   exact⟨_,rfl,e,_,_,_,_,rfl,he,T.Jl,.inl ⟨_,rfl,rfl⟩,T.Ju,_,rfl,Nw k⟩
theorem We:Ar ["self","step","first"] ["self","step","first"] (Ab B5):=⟨rfl,rfl,rfl,by decide+kernel,rfl,by decide+kernel,by decide+kernel⟩
theorem Wf (T:Txt K mg a):FnOk P w K mg base CX0 true 3 a.J8 a.J4 ["self","step","first"] (Yz a.A7):=by
 refine T.Xc.ok We (λvs H Q E h=>?_) (λcdv A outer s H vs Q E hr h=>?_)
 · obtain⟨x,dx,rfl,_⟩:=h;rfl
 ·
  obtain⟨x,dx,rfl,hx,k⟩:=h
  refine⟨_,(Af (De (Az ((Vg T).mono (by decide)) hr rfl T.W7 T.P6.kp T.W6 .nil Bh (Aa (pv 1) (Aa Aj (Aa (Ba Nd (Bv rfl T.Qv) Aj) Ae)))))
   (Af (De (Az ((Ew T).mono (by decide)) hr rfl T.Fp T.C9.kp T.Fg .nil Bh (Aa (pv 2) Ae)))
   (Af (Dn (K:=K) rfl (pv 0) (pv 1))
   (Ag (Dn (K:=K) rfl (pv 0) (pv 2)))))),?_⟩
  refine⟨_,rfl,_,_,rfl,rfl,1,1,_,rfl,by decide,by decide,?_⟩
  refine⟨_,rfl,9,rfl,⟨by decide,by decide⟩,?_⟩
  refine⟨_,rfl,_,rfl,x,_,dx,_,rfl,hx,T.Gy,T.Mq,(by show 0<1000;decide),?_⟩
  refine⟨_,rfl,_,rfl,x,_,dx,_,rfl,Ac,T.Gy,T.Hw,(by show 1<1000;decide),?_⟩
  exact cast (Ahb (Q V.non) (Sz.symm)) k
theorem Vq:Ar ["self","name","offset","changes"] ["self","name","offset","changes"] (Ab Bn):=⟨rfl,rfl,rfl,by decide+kernel,rfl,by decide+kernel,by decide+kernel⟩
theorem Wo (T:Txt K mg a):FnOk P w K mg base CX0 true 3 a.Ke a.F3 ["self","name","offset","changes"] (Zq a.A0):=by
 refine T.W5.ok Vq (λvs H Q E h=>?_) (λcdv A outer s H vs Q E hr h=>?_)
 · obtain⟨x,dx,rfl,_⟩:=h;rfl
 ·
  obtain⟨x,dx,rfl,hx,k⟩:=h
  refine⟨_,(Af (Cy (N8 (L1 (Az ((Xq T).mono (by decide)) hr rfl T.af T.V2.kp T.cz .nil Bh (Aa (pv 1) Ae)))) (Ag N3) Bd)
   (Af (De (Az ((Ov T).mono (by decide)) hr rfl T.P9 T.Mz.kp T.P8 .nil Bh (Aa (pv 2) Ae)))
   (Af (Dn (K:=K) rfl (pv 0) (pv 1))
   (Af (Dn (K:=K) rfl (pv 0) (pv 2))
   (Af (Dn (K:=K) rfl (pv 0) (D8 (A2 Xw (pv 3) Ra (A6 _)) (Ku Ae) (A5 (El (K:=K) rfl) rfl T.My (by decide+kernel) (Aa (pv 3) Ae))))
   (Af (De (Az ((Ue T).mono (by decide)) hr rfl T.Vb T.Ow.kp T.Wl .nil Bh (Aa (As (K:=K) rfl (pv 0)) Ae)))
   (Ag (Dn (K:=K) rfl (pv 0) (A5 (El (K:=K) rfl) rfl T.My (by decide+kernel) (Aa (fm (N:=["moment","later"]) (cap:=[none,none]) (by show F9 (Ab Bn) _ ["self","name","offset","changes"] _ _;exact⟨rfl,by decide+kernel,by decide+kernel,by decide+kernel,by decide+kernel,rfl,by decide+kernel⟩) rfl (Qr (K:=K) rfl (As (K:=K) rfl (pv 0))) (λC s H fp=>⟨(og (K:=K) (n:=2) rfl rfl (Uv (C5 (i:=0) (by show(["moment","later"]:List Str).Nodup;decide+kernel) rfl (Or.inl rfl) (.inr rfl)) (Uv (C5 (i:=1) (by show(["moment","later"]:List Str).Nodup;decide+kernel) rfl (Or.inl rfl) (.inr rfl)) rj))),Yi,(pv 0)⟩)) Ae)))))))))),?_⟩
  refine⟨_,rfl,"here",rfl,(by decide+kernel),λH1 s1=>⟨_,rfl,?_⟩⟩
  rw[show Jk ("here":Str).cps.toList=true by decide+kernel]
  refine M0 ?_
  refine⟨_,rfl,0,rfl,by decide,by decide,?_⟩
  have hx1:=s1 _ _ hx
  refine⟨_,rfl,_,rfl,x,_,dx,_,rfl,hx1,T.Mi,T.d7,(by show 0<1000;decide),?_⟩
  have sXH2:SameX x H1 (upd H1 x (.ins a.A0 dx [("name",.str "here")])):=Ej
  have hxH2:(upd H1 x (.ins a.A0 dx [("name",.str "here")])) x=some (.ins a.A0 dx [("name",.str "here")]):=Ac
  show vv _ _ _ _ (upd H1 x (.ins a.A0 dx [("name",.str "here")]))
  generalize upd H1 x (.ins a.A0 dx [("name",.str "here")])=H2 at sXH2 hxH2 ⊢
  refine⟨_,rfl,_,rfl,x,_,dx,_,rfl,hxH2,T.Mi,T.P7,(by show 1<1000;decide),?_⟩
  have sXH3:SameX x H2 (upd H2 x (.ins a.A0 dx [("name",.str "here"),("offset",.int 0)])):=Ej
  have hxH3:(upd H2 x (.ins a.A0 dx [("name",.str "here"),("offset",.int 0)])) x=some (.ins a.A0 dx [("name",.str "here"),("offset",.int 0)]):=Ac
  show vv _ _ _ _ (upd H2 x (.ins a.A0 dx [("name",.str "here"),("offset",.int 0)]))
  generalize upd H2 x (.ins a.A0 dx [("name",.str "here"),("offset",.int 0)])=H3 at sXH3 hxH3 ⊢
  refine⟨_,rfl,rfl,_,rfl,?_⟩
  refine Jn (λ_=>?_) (λz=>absurd (Age rfl) z)
  refine⟨by decide,λch hch=>?_⟩
  have u4:=Ah (o:=.tup []) hch
  have hc4:(upd H3 ch (.tup [])) ch=some (.tup []):=Ac
  have hx4:=u4 _ _ hxH3
  generalize upd H3 ch (.tup [])=H4 at u4 hc4 hx4 ⊢
  refine⟨_,rfl,x,_,dx,_,rfl,hx4,T.Mi,T.Ly,(by show 2<1000;decide),?_⟩
  have sXH5:SameX x H4 (upd H4 x (.ins a.A0 dx [("name",.str "here"),("offset",.int 0),("changes",.ref ch)])):=Ej
  have hxH5:(upd H4 x (.ins a.A0 dx [("name",.str "here"),("offset",.int 0),("changes",.ref ch)])) x=some (.ins a.A0 dx [("name",.str "here"),("offset",.int 0),("changes",.ref ch)]):=Ac
  show vv _ _ _ _ (upd H4 x (.ins a.A0 dx [("name",.str "here"),("offset",.int 0),("changes",.ref ch)]))
  generalize upd H4 x (.ins a.A0 dx [("name",.str "here"),("offset",.int 0),("changes",.ref ch)])=H5 at sXH5 hxH5 ⊢
  have nc:ch≠x:=λe=>by rw[e,hx4] at hc4;cases hc4
  have hc5:=sXH5 _ _ nc hc4
  refine⟨_,rfl,x,_,dx,_,_,rfl,hxH5,T.Mi,T.Ly,rfl,ch,rfl,hc5,?_⟩
  refine⟨_,rfl,x,_,dx,_,_,rfl,hxH5,T.Mi,T.Ly,rfl,ch,rfl,⟨_,SqT.of hc5⟩,?_⟩
  refine d9 (K:=K) (rs:=[]) (Qs (SqT.of hc5)) (λ_ z=>nomatch z) (λ_=>true) (λz=>.int z.1) (by decide) (λz hz=>by cases hz) (λz hz=>by cases hz) (λD H6 s6 _ hD=>?_)
  refine⟨D,_,rfl,.inl ⟨SqL.of hD,λm hm=>?_⟩⟩
  have u7:=Ah (o:=.tup []) hm
  have hm7:(upd H6 m (.tup [])) m=some (.tup []):=Ac
  have hx7:=u7 _ _ (s6 _ _ hxH5)
  have hc7:=u7 _ _ (s6 _ _ hc5)
  refine⟨_,rfl,x,_,dx,_,rfl,hx7,T.Mi,T.Ot,(by show 3<1000;decide),?_⟩
  have sXH8:SameX x (upd H6 m (.tup [])) (upd (upd H6 m (.tup [])) x (.ins a.A0 dx (FP ch m))):=Ej
  have hxH8:(upd (upd H6 m (.tup [])) x (.ins a.A0 dx (FP ch m))) x=some (.ins a.A0 dx (FP ch m)):=Ac
  show Q _ (upd (upd H6 m (.tup [])) x (.ins a.A0 dx (FP ch m)))
  generalize upd (upd H6 m (.tup [])) x (.ins a.A0 dx (FP ch m))=H8 at sXH8 hxH8 ⊢
  have nm:m≠x:=(Au (s6 _ _ hxH5) hm).symm
  refine k H8 ?_ ⟨dx,ch,m,hxH8,sXH8 _ _ nc hc7,sXH8 _ _ nm hm7⟩
  exact(((((((SameX.of s1).tr sXH2).tr sXH3).tr (SameX.of u4)).tr sXH5).tr (SameX.of s6)).tr (SameX.of u7)).tr sXH8
theorem Ds:Ar ["place","day","minute","local","first","last","found","many","moment"] ["place","day","minute"] (Ab Hj):=⟨rfl,rfl,rfl,by decide+kernel,rfl,by decide+kernel,by decide+kernel⟩
theorem Zs (T:Txt K mg a):FnOk P w K mg base CX0 true 3 a.Mh a.Mg ["place","day","minute"] (Zf a.A0):=by
 refine T.Tr.ok Ds (λvs H Q E h=>?_) (λcdv A outer s H vs Q E hr h=>?_)
 · obtain⟨p,d,m,rfl,_⟩:=h;rfl
 ·
  obtain⟨p,d,m,rfl,pl,k⟩:=h
  refine⟨_,(Af (Be (i:=3) Ds.nd rfl (Or.inl rfl) (Ba Cd (Ba dk (pv 1) (Bv rfl T.Cj)) (pv 2)))
   (Af (Be (i:=4) Ds.nd rfl (Or.inl rfl) (Az ((G1 T).mono (by decide)) hr rfl T.Hq T.E5.kp T.Ij .nil Bh (Aa (pv 0) (Aa (Ba Nd (pv 3) (Bv rfl T.Bp)) Ae))))
   (Af (Be (i:=5) Ds.nd rfl (Or.inl rfl) (Az ((G1 T).mono (by decide)) hr rfl T.Hq T.E5.kp T.Ij .nil Bh (Aa (pv 0) (Aa (Ba Cd (pv 3) (Bv rfl T.Bp)) Ae))))
   (Af (Be (i:=6) Ds.nd rfl (Or.inl rfl) (Oh Ae))
   (Af (Og Aht rfl (Va rfl T.Nz (Aa (pv 4) (Aa (Ba Cd (pv 5) Aj) Ae))) (C5 (i:=7) Ds.nd rfl (Or.inl rfl)) (Af (Be (i:=8) Ds.nd rfl (Or.inl rfl) (Ba Nd (pv 3) (Az ((K6 T).mono (by decide)) hr rfl T.Lv T.Je.kp T.Lu .nil Bh (Aa (pv 0) (Aa (pv 7) Ae)))))
   (Ag (Cy (A2 So (Az ((G1 T).mono (by decide)) hr rfl T.Hq T.E5.kp T.Ij .nil Bh (Aa (pv 0) (Aa (pv 8) Ae))) (pv 7) (A6 _)) (Ag (De (Acx PySem.F.plainAttrs_list PySem.F.slot_list_append PySem.F.type_list_append Qy (pv 6) (Aa (pv 8) Ae)))) Bd))))
   (Ag (A8 (pv 6)))))))),?_⟩
  refine⟨_,rfl,_,_,rfl,rfl,.inr ⟨by decide,by decide⟩,_,rfl,_,_,rfl,rfl,?_⟩
  refine⟨_,rfl,_,rfl,_,_,rfl,rfl,p,_,rfl,pl,?_⟩
  refine⟨_,rfl,_,rfl,_,_,rfl,rfl,p,_,rfl,pl,?_⟩
  refine⟨by decide,λF hF=>?_⟩
  refine⟨_,rfl,_,rfl,_,_,rfl,rfl,_,_,rfl,⟨by decide,by decide,by decide,by decide⟩,?_⟩
  refine Vn (λi σ H'=>Same H H'/\∃(y z:Option V),H' F=some (.lst (if i=0 then[] else[.int (d*1440+m)]))/\σ=[some (.ref p),some (.int d),some (.int m),some (.int (d*1440+m)),some (.int 0),some (.int 0),some (.ref F),y,z]) ⟨Ah hF,_,_,(by rw[if_pos rfl];exact Ac),rfl⟩ ?_ ?_
  ·
   rintro i σ H1 hi ⟨s1,y,z,hf,rfl⟩
   have hi:i<1:=hi
   obtain rfl:i=0:=by lia
   rw[if_pos rfl] at hf
   have pl1:=pl.up s1
   refine⟨_,rfl,_,rfl,_,rfl,p,rfl,pl1,_,_,rfl,rfl,?_⟩
   refine⟨_,rfl,_,rfl,p,_,rfl,pl1,_,rfl,rfl,_,rfl,?_⟩
   refine Jn (λ_=>?_) (λq=>absurd (Age rfl) q)
   refine⟨_,rfl,.inl ⟨rfl,_,SqL.of hf⟩,_,rfl,F,_,_,rfl,rfl,hf,by decide,?_⟩
   refine⟨λb u e=>by rw[Ak (Au e hF)];exact s1 _ _ e,_,_,?_,rfl⟩
   rw[if_neg (by decide),Ac]
   show some (HO.lst [V.int (d*1440+m-0)])=_
   rw[Int.sub_zero]
  ·
   rintro σ H1 ⟨s1,y,z,hf,rfl⟩
   rw[if_neg (by decide)] at hf
   exact⟨_,rfl,k F H1 s1 hf⟩
theorem Km:Ar ["place","local","first","many","moment","ahead"] ["place","local"] (Ab Jw):=⟨rfl,rfl,rfl,by decide+kernel,rfl,by decide+kernel,by decide+kernel⟩
theorem a8 (T:Txt K mg a):FnOk P w K mg base CX0 true 3 a.N7 a.N5 ["place","local"] (λ_ _ _ _=>False):=by
 refine T.U7.ok Km (λvs H Q E h=>?_) (λcdv A outer s H vs Q E hr h=>?_)
 · exact h.elim
 ·
  skip
  refine⟨_,(Af (Be (i:=2) Km.nd rfl (Or.inl rfl) (Az ((G1 T).mono (by decide)) hr rfl T.Hq T.E5.kp T.Ij .nil Bh (Aa (pv 0) (Aa (Ba Nd (pv 1) (Bv rfl T.Bp)) Ae))))
   (Af (Og Aht rfl (Va rfl T.Nz (Aa (pv 2) (Aa (Ax (F0 (K:=K) rfl) rfl T.Rx (by decide+kernel) (Aa (As (K:=K) rfl (pv 0)) Ae)) Ae))) (C5 (i:=3) Km.nd rfl (Or.inl rfl)) (Af (Be (i:=4) Km.nd rfl (Or.inl rfl) (Hk (Ff (K:=K) rfl) (As (K:=K) rfl (pv 0)) (pv 3) (λ_ _=>rfl)))
   (Af (Be (i:=5) Km.nd rfl (Or.inl rfl) (Ba Cd (Ba Nd (pv 4) Aj) (Az ((K6 T).mono (by decide)) hr rfl T.Lv T.Je.kp T.Lu .nil Bh (Aa (pv 0) (Aa (pv 3) Ae)))))
   (Ag (Cy (Zy M5 M5 (pv 5) (pv 1) (Ba Cd (pv 4) (Az ((K6 T).mono (by decide)) hr rfl T.Lv T.Je.kp T.Lu .nil Bh (Aa (pv 0) (Aa (Ba Cd (pv 3) Aj) Ae))))) (Ag (A8 (pv 4))) Bd)))))
   (Ag (A8 Ra)))),?_⟩
  exact h.elim
theorem Xd:Ar ["self","begin","end"] ["self","begin","end"] (Ab Fn):=⟨rfl,rfl,rfl,by decide+kernel,rfl,by decide+kernel,by decide+kernel⟩
theorem Xe (T:Txt K mg a):FnOk P w K mg base (CXe P w) true 3 a.Li a.Lh ["self","begin","end"] (d8 a.Bo a.Am):=by
 refine T.Yo.okE Xd (λvs H Q E h=>?_) (λcdv A outer s H vs Q E hr h=>?_)
 · obtain⟨x,dx,b,e,rfl,_⟩:=h;rfl
 ·
  obtain⟨x,dx,b,e,rfl,hx,hb,k1⟩:=h
  refine⟨_,(Af (De (Az ((Ze T).mono (by decide)) hr rfl T.cq T.Tx.kp T.bq .nil B1 (Aa (pv 1) (Aa (pv 2) Ae))))
   (Af (Dn (K:=K) rfl (pv 0) (pv 1))
   (Ag (Dn (K:=K) rfl (pv 0) (pv 2))))),?_⟩
  refine⟨_,rfl,_,rfl,b,e,rfl,λhb=>?_,λh=>absurd hb h⟩
  refine⟨_,rfl,_,rfl,x,_,dx,_,rfl,hx,T.Sk,T.T1,by decide,?_⟩
  refine⟨_,rfl,_,rfl,x,_,dx,_,rfl,Ac,T.Sk,T.X1,(by show 1<1000;decide),?_⟩
  exact cast (Ahb (Q V.non) (Sz.symm)) k1
theorem S5:Ar ["self","name"] ["self","name"] (Ab Ct):=⟨rfl,rfl,rfl,by decide+kernel,rfl,by decide+kernel,by decide+kernel⟩
theorem M9 (T:Txt K mg a):FnOk P w K mg base (CXe P w) true 3 a.Gp a.Gu ["self","name"] (Oy (ad a) a.Ap a.Ad a.Ao):=by
 refine T.Ud.okE S5 (λvs H Q E h=>?_) (λcdv A outer s H vs Q E hr h=>?_)
 · obtain⟨X,b,d,xs,nm,rfl,_⟩:=h;rfl
 ·
  obtain⟨X,b,d,xs,nm,rfl,hB,hl,k0,k1,k2,k3⟩:=h
  refine⟨_,(Af (Cy (A2 p8 (Ax ae rfl T.Rx (by decide+kernel) (Aa (As (K:=K) rfl (pv 0)) Ae)) (Bv rfl T.Iw) (A6 _)) (Ag (Lf Fh rfl rfl T.Tz T.Ap (Aa Ce Ae))) Bd)
   (Af (Cy (N8 (L1 (Az ((Xq T).mono (by decide)) hr rfl T.af T.V2.kp T.cz .nil Bh (Aa (pv 1) Ae)))) (Ag (Lf Fh rfl rfl T.E6 T.Ad (Aa Ce Ae))) Bd)
   (Ag (Cy (Xu (jb (L8 hr) (pv 1) (As (K:=K) rfl (pv 0))) (by with_unfolding_all rfl)) (Ag (Lf Fh rfl rfl T.Ql T.Ao (Aa Ce Ae))) Bd)))),?_⟩
  obtain⟨db,hb⟩:=hB.ins
  refine⟨_,rfl,b,_,db,_,_,rfl,hb,T.Bm,T.A9,rfl,d,_,rfl,hB.at_,_,_,rfl,rfl,_,rfl,?_⟩
  have el:=O0 (f:=λx=>.ref x.2.1) xs
  refine Jn (λz=>?_) (λz=>?_)
  ·
   have hz:40<=xs.length:=by have:=Agf z;rw[el] at this;lia
   exact⟨(by show 1<=sizeLine;decide),k1 (yq hz) _ (Same.refl _)⟩
  have hz:¬40<=xs.length:=λw=>z (Age (by rw[el];lia))
  refine⟨_,rfl,nm,rfl,hl,λH1 s1=>⟨_,rfl,?_⟩⟩
  by_cases hn:Jk nm.cps.toList=true
  case neg=>
   have hn':=Akt.mpr hn
   rw[hn']
   exact Nw ⟨(by show 1<=sizeLine;decide),k2 (yn hz hn') H1 s1⟩
  rw[hn]
  refine M0 ?_
  have hB1:=hB.up s1
  refine⟨_,rfl,_,rfl,b,_,db,_,_,rfl,s1 _ _ hb,T.Bm,T.A9,rfl,d,_,rfl,DGet.k (k:=Sum.inr nm) hB1.at_,_,rfl,?_⟩
  rw[V6]
  by_cases hm:nm∈xs.map thN
  ·
   rw[Age hm]
   exact Nw ⟨(by show 1<=sizeLine;decide),k3 (yo hz hn hm) H1 s1⟩
  ·
   rw[Agp hm]
   exact M0 (k0 (om hz hn hm) H1 s1)
theorem Tp:Ar ["place","day","minute","later","found"] ["place","day","minute","later"] (Ab D6):=⟨rfl,rfl,rfl,by decide+kernel,rfl,by decide+kernel,by decide+kernel⟩
theorem d5 (T:Txt K mg a):FnOk P w K mg base CX0 true 4 a.Nq a.Lw ["place","day","minute","later"] (dw a.A0):=by
 refine T.Wg.ok Tp (λvs H Q E h=>?_) (λcdv A outer s H vs Q E hr h=>?_)
 · obtain⟨p,d,m,rfl,_⟩:=h;rfl
 ·
  obtain⟨p,d,m,rfl,pl,k⟩:=h
  refine⟨_,(Af (Be (i:=4) Tp.nd rfl (Or.inl rfl) (Az ((Zs T).mono (by decide)) hr rfl T.Z8 T.Tr.kp T.dn .nil Bh (Aa (pv 0) (Aa (pv 1) (Aa (pv 2) Ae)))))
   (Af (Cy (N8 (U1 (pv 4) (λ_=>rfl))) (Ag (A8 (Az ((a8 T).mono (by decide)) hr rfl T.fe T.U7.kp T.fz .nil Bh (Aa (pv 0) (Aa (Ba Cd (Ba dk (pv 1) (Bv rfl T.Cj)) (pv 2)) Ae))))) Bd)
   (Ag (A8 (D8 (U1 (pv 3) (λ_=>rfl)) (Hk (Kg (K:=K) rfl) (pv 4) (Abp vn Aj) (λ_ _=>rfl)) (Hk (Kg (K:=K) rfl) (pv 4) Aj (λ_ _=>rfl))))))),?_⟩
  refine⟨_,rfl,_,rfl,_,rfl,p,d,m,rfl,pl,λD H1 s1 hD=>?_⟩
  refine⟨_,rfl,_,.inl ⟨_,SqL.of hD,rfl⟩,?_⟩
  refine M0 ?_
  refine⟨_,rfl,_,rfl,M0 ?_⟩
  exact⟨_,rfl,D,_,_,_,rfl,rfl,SqL.of hD,rfl,k H1 s1⟩
theorem ak:Ar ["self","name","begin","end"] ["self","name","begin","end"] (Ab Js):=⟨rfl,rfl,rfl,by decide+kernel,rfl,by decide+kernel,by decide+kernel⟩
theorem T2 (T:Txt K mg a):FnOk P w K mg base (CXe P w) true 5 a.Nu a.N1 ["self","name","begin","end"] (Pa (ad a) a.Ap a.Ad a.Ao):=by
 refine T.gm.okE ak (λvs H Q E h=>?_) (λcdv A outer s H vs Q E hr h=>?_)
 · obtain⟨X,b,d,xs,nm,s,e,rfl,_⟩:=h;rfl
 ·
  obtain⟨X,b,d,xs,nm,s0,e0,rfl,hB,hl,hbe,k0,k1,k2,k3⟩:=h
  refine⟨_,(Af (De (Bw (n:=1) (D:=λC R=>(C=a.A3/\R=λx vs H Q=>(Oy (ad a) a.Ap a.Ad a.Ao) (x::(vs++([]:List V))) H Q E)) (pv 0) (by rintro C R ⟨rfl,rfl⟩<;>first|exact⟨T.Bm,_,_,_,_,_,_,_,_,_,_,T.Nc,(M9 T).mono (by decide),hr,T.N9,.nil,B1,λ_ _ _ _ _ h=>h⟩) (Aa (pv 1) Ae)))
   (Ag (Mx (L8 hr) (As (K:=K) rfl (pv 0)) (pv 1) (Sq T.V7 ((Xe T).mono (by decide)) hr rfl T.Acq T.Za .nil B1 (Aa (pv 2) (Aa (pv 3) Ae))) rfl))),?_⟩
  obtain⟨db,hb0⟩:=hB.ins
  refine⟨_,rfl,b,_,db,_,_,rfl,hb0,rfl,⟨rfl,rfl⟩,_,rfl,rfl,X,b,d,xs,nm,rfl,hB,hl,λh0 H1 s1=>?_,λh=>k1 h,λh H1 s1=>k2 h H1 s1,λh H1 s1=>k3 h H1 s1⟩
  have hB1:=hB.up s1
  refine⟨_,rfl,_,rfl,λx dx nx ndx nex=>⟨x,dx,s0,e0,rfl,Ac,hbe,⟨rfl,?_⟩⟩⟩
  have sX:Same H1 (upd (upd (upd H1 dx (.own x)) x (.ins a.Bo dx [])) x (.ins a.Bo dx [("begin",.int s0),("end",.int e0)])):=λb' o' e'=>by
   rw[Ak (Au e' nx),Ak (Au e' nx),Ak (Au e' ndx)]
   exact e'
  have hx2:(upd (upd (upd H1 dx (.own x)) x (.ins a.Bo dx [])) x (.ins a.Bo dx [("begin",.int s0),("end",.int e0)])) x=some (.ins a.Bo dx [("begin",.int s0),("end",.int e0)]):=Ac
  generalize upd (upd (upd H1 dx (.own x)) x (.ins a.Bo dx [])) x (.ins a.Bo dx [("begin",.int s0),("end",.int e0)])=H2 at sX hx2 ⊢
  have hB2:=hB1.up sX
  refine⟨_,rfl,b,_,db,_,_,rfl,sX _ _ (s1 _ _ hb0),T.Bm,T.A9,rfl,_,rfl,d,_,rfl,DPut.k (k:=Sum.inr nm) hB2.at_ (by rw[O0];exact Ag2 hB.few (by decide)),?_⟩
  obtain⟨r1,r2,r3⟩:=xb h0
  rw[vi (f:=λx=>.ref x.2.1) (o:=x) (t:=.on s0 e0) r3]
  exact k0 h0 x _ (λb' o' nb e'=>by rw[Ak nb];exact sX _ _ (s1 _ _ e')) (hB2.add (ThAt.isOn.mpr ⟨dx,hx2⟩) trivial r1 r3)
theorem Zt:Ar ["self","name","rule","place","minute","length"] ["self","name","rule","place","minute","length"] (Ab Hi):=⟨rfl,rfl,rfl,by decide+kernel,rfl,by decide+kernel,by decide+kernel⟩
theorem X2 (T:Txt K mg a):FnOk P w K mg base (CXe P w) true 5 a.Mn a.Md ["self","name","rule","place","minute","length"] (Q7 (ad a) a.Ap a.Ad a.Ao):=by
 refine T.cx.okE Zt (λvs H Q E h=>?_) (λcdv A outer s H vs Q E hr h=>?_)
 · obtain⟨X,b,d,y,p,xs,nm,m,l,rfl,_⟩:=h;rfl
 ·
  obtain⟨X,b,d,y,p,xs,nm,m,l,rfl,hB,hl,h4,hr0,hp,k0,k4,k1,k2,k3⟩:=h
  refine⟨_,(Af (De (Bw (n:=1) (D:=λC R=>(C=a.A3/\R=λx vs H Q=>(Oy (ad a) a.Ap a.Ad a.Ao) (x::(vs++([]:List V))) H Q E)) (pv 0) (by rintro C R ⟨rfl,rfl⟩<;>first|exact⟨T.Bm,_,_,_,_,_,_,_,_,_,_,T.Nc,(M9 T).mono (by decide),hr,T.N9,.nil,B1,λ_ _ _ _ _ h=>h⟩) (Aa (pv 1) Ae)))
   (Ag (Mx (L8 hr) (As (K:=K) rfl (pv 0)) (pv 1) (Sq T.Pl ((O6 T).mono (by decide)) hr rfl T.gy T.Oa.choose_spec.1 T.Oa.choose_spec.2 B1 (Aa (pv 2) (Aa (pv 3) (Aa (pv 4) (Aa (pv 5) Ae))))) rfl))),?_⟩
  obtain⟨db,hb0⟩:=hB.ins
  refine⟨_,rfl,b,_,db,_,_,rfl,hb0,rfl,⟨rfl,rfl⟩,_,rfl,rfl,X,b,d,xs,nm,rfl,hB,hl,λh0 H1 s1=>?_,λh=>k1 h,λh H1 s1=>k2 h H1 s1,λh H1 s1=>k3 h H1 s1⟩
  have hB1:=hB.up s1
  refine⟨_,rfl,_,rfl,_,rfl,_,rfl,λx dx nx ndx nex=>⟨x,dx,y,p,m,l,0,rfl,Ac,λhML=>⟨rfl,?_⟩,λhML=>k4 h0 hML _ ((s1.trans (Ah ndx)).trans (Ah (by rw[Ak nex.symm];exact nx)))⟩⟩
  have sX:Same H1 (upd (upd (upd H1 dx (.own x)) x (.ins a.Aq dx [])) x (.ins a.Aq dx (FA y p m l 0))):=λb' o' e'=>by
   rw[Ak (Au e' nx),Ak (Au e' nx),Ak (Au e' ndx)]
   exact e'
  have hx2:(upd (upd (upd H1 dx (.own x)) x (.ins a.Aq dx [])) x (.ins a.Aq dx (FA y p m l 0))) x=some (.ins a.Aq dx (FA y p m l 0)):=Ac
  generalize upd (upd (upd H1 dx (.own x)) x (.ins a.Aq dx [])) x (.ins a.Aq dx (FA y p m l 0))=H2 at sX hx2 ⊢
  have hB2:=hB1.up sX
  refine⟨_,rfl,b,_,db,_,_,rfl,sX _ _ (s1 _ _ hb0),T.Bm,T.A9,rfl,_,rfl,d,_,rfl,DPut.k (k:=Sum.inr nm) hB2.at_ (by rw[O0];exact Ag2 hB.few (by decide)),?_⟩
  obtain⟨r1,r2,r3⟩:=xb h0
  rw[vi (f:=λx=>.ref x.2.1) (o:=x) (t:=.ag .ev m l 0) r3]
  exact k0 h0 hML x _ (λb' o' nb e'=>by rw[Ak nb];exact sX _ _ (s1 _ _ e')) (hB2.add (ThAt.isAg.mpr ⟨dx,y,p,hx2,hr0.up (s1.trans sX),hp.up (s1.trans sX)⟩) ⟨⟨hML,trivial,Agi _,by decide⟩,h4 r2⟩ r1 r3)
theorem okD (T:Txt K mg a):∀n,FnOk P w K mg base CX0 true (20+n) a.By a.B0 ["self","begin","end"] (spD (rd a) n)
 |
  0=>by
  have no:∀{vs:List V}{H:Hp}{Q:VK}{E:XK},spD (rd a) 0 vs H Q E->False:=λh=>by
   obtain⟨X,x,b,e,r,ls,ms,mv,rfl,h,_⟩:=h
   exact absurd h (Aho _)
  exact⟨λvs H Q E h=>(no h).elim,λA outer s H args us vs Q E _ _ _ _ h=>(no h).elim⟩
 | n+1=>R7 T n (okD T n)
theorem nq:Ar ["rule","begin","end"] ["rule","begin","end"] (Ab Iz):=⟨rfl,rfl,rfl,by decide+kernel,rfl,by decide+kernel,by decide+kernel⟩
theorem k7 (T:Txt K mg a):FnOk P w K mg base CX0 true 30 a.Rw a.Rj ["rule","begin","end"] (lh (rd a)):=by
 refine T.bj.ok nq (λvs H Q E h=>?_) (λcdv A outer s H vs Q E hr h=>?_)
 · obtain⟨X,x,b,e,r,rfl,_⟩:=h;rfl
 ·
  obtain⟨X,x,b,e,r,rfl,hr0,hn,ok,b0,e0,k⟩:=h
  refine⟨_,(Ag (A8 (Bw (n:=2) (D:=dD a 8) (pv 0) (Ae3 T (okD T 8) rfl rfl rfl rfl rfl hr (by lia)) (Aa (Ax (V4 rfl) rfl T.g6 (by decide+kernel) (Aa (pv 1) (Aa Aj Ae))) (Aa (Ax (R6 rfl) rfl T.cn (by decide+kernel) (Aa (pv 2) (Aa (Bv rfl T.Qv) Ae))) Ae))))),?_⟩
  have eb:(if 0>b then 0 else b)=0:=by split<;>lia
  have ee:(if 146097<e then 146097 else e)=e:=by split<;>lia
  obtain⟨C1,dx1,fs1,R1,ea1,eb1,ec1,ed1⟩:=p5 (a:=a) hr0 hn ok (show Wn 0 e from ⟨by decide,e0⟩)
  refine⟨_,rfl,x,C1,dx1,fs1,R1,rfl,ea1,eb1,ec1,_,rfl,_,_,rfl,_,rfl,_,_,rfl,rfl,?_⟩
  rw[eb,ee]
  exact ed1 _ k
theorem G5:Ar ["self","begin","end","first","last"] ["self","begin","end"] (Ab B9):=⟨rfl,rfl,rfl,by decide+kernel,rfl,by decide+kernel,by decide+kernel⟩
theorem Qq (T:Txt K mg a):FnOk P w K mg base CX0 true 31 a.E3 a.Er ["self","begin","end"] (Rz (ad a)):=by
 refine T.Rn.ok G5 (λvs H Q E h=>?_) (λcdv A outer s H vs Q E hr h=>?_)
 · obtain⟨X,x,r,m,l,n,rfl,_⟩:=h;rfl
 ·
  obtain⟨X,x,r,m,l,n,rfl,⟨dx,y,p,hx,hr0,hp⟩,ok,k⟩:=h
  refine⟨_,(Af (Be (i:=3) G5.nd rfl (Or.inl rfl) (Ba Vp (Ba Nd (Ba Nd (Ba Nd (pv 1) (As (K:=K) rfl (pv 0))) (As (K:=K) rfl (pv 0))) (Bv rfl T.Bp)) (Bv rfl T.Cj)))
   (Af (Be (i:=4) G5.nd rfl (Or.inl rfl) (Ba Vp (Ba Cd (Ba Nd (pv 2) (As (K:=K) rfl (pv 0))) (Bv rfl T.Bp)) (Bv rfl T.Cj)))
   (Ag (A8 (Az ((k7 T).mono (by decide)) hr rfl T.ub T.bj.kp T.sk .nil Bh (Aa (As (K:=K) rfl (pv 0)) (Aa (pv 3) (Aa (Ba Cd (pv 4) Aj) Ae)))))))),?_⟩
  obtain⟨⟨m0,m1⟩,l0,l1⟩:=ok.ml
  refine⟨_,rfl,_,rfl,x,_,dx,_,_,rfl,hx,T.Bi,T.J7,rfl,_,_,rfl,rfl,_,rfl,x,_,dx,_,_,rfl,hx,T.Bi,T.Gg,rfl,_,_,rfl,rfl,_,_,rfl,rfl,_,_,rfl,rfl,⟨by decide,by decide⟩,?_⟩
  refine⟨_,rfl,_,rfl,x,_,dx,_,_,rfl,hx,T.Bi,T.Gg,rfl,_,_,rfl,rfl,_,_,rfl,rfl,_,_,rfl,rfl,⟨by decide,by decide⟩,?_⟩
  refine⟨_,rfl,x,_,dx,_,_,rfl,hx,T.Bi,T.O2,rfl,_,rfl,_,rfl,_,_,rfl,rfl,X,y,(0-l-m-900)/1440,(20000-m+900)/1440+1,r,rfl,hr0,Ag1 ok.dp ok.n8,ok.ok,by lia,qm m0,k⟩
theorem Jy:Ar ["self","begin","end","moments","spans"] ["self","begin","end"] (Ab Bl):=⟨rfl,rfl,rfl,by decide+kernel,rfl,by decide+kernel,by decide+kernel⟩
theorem Sm (T:Txt K mg a):FnOk P w K mg base CX0 true 33 a.Gw a.Gn ["self","begin","end"] (J2 (ad a)):=by
 refine T.Ua.ok Jy (λvs H Q E h=>?_) (λcdv A outer s H vs Q E hr h=>?_)
 · obtain⟨X,x,r,m,l,n,rfl,_⟩:=h;rfl
 ·
  obtain⟨X,x,r,m,l,n,rfl,hA,ok,k⟩:=h
  refine⟨_,(Af (Ph (i0:=3) Jy.nd rfl rfl (N:=["day","self"]) (cap:=[none,some 0]) (by show F9 (Ab Bl) _ ["self","begin","end","moments","spans"] _ _;exact⟨rfl,by decide+kernel,by decide+kernel,by decide+kernel,by decide+kernel,rfl,by decide+kernel⟩) rfl (Pr (K:=K) rfl (Bw (n:=2) (D:=λC R=>(C=a.Aq/\R=λx vs H Q=>(Rz (ad a)) (x::(vs++([]:List V))) H Q E0)) (pv 0) (by rintro C R ⟨rfl,rfl⟩<;>first|exact⟨T.Bi,_,_,_,_,_,_,_,_,_,_,T.Qk,(Qq T).mono (by decide),hr,T.Rv,.nil,Bh,λ_ _ _ _ _ h=>h⟩) (Aa (pv 1) (Aa (pv 2) Ae)))) (λC s H fp=>⟨(C5 (i:=0) (by show(["day","self"]:List Str).Nodup;decide+kernel) rfl (Or.inl rfl) (.inr rfl)),Yi,(Az ((d5 T).mono (by decide)) hr rfl T.g5 T.Wg.kp T.R5.choose_spec.1 T.R5.choose_spec.2 Bh (Aa (As (K:=K) rfl (pv 1)) (Aa (pv 0) (Aa (As (K:=K) rfl (pv 1)) Ae))))⟩))
   (Af (Ph (i0:=4) Jy.nd rfl rfl (N:=["moment","self"]) (cap:=[none,some 0]) (by show F9 (Ab Bl) _ ["self","begin","end","moments","spans"] _ _;exact⟨rfl,by decide+kernel,by decide+kernel,by decide+kernel,by decide+kernel,rfl,by decide+kernel⟩) rfl (Pr (K:=K) rfl (pv 3)) (λC s H fp=>⟨(C5 (i:=0) (by show(["moment","self"]:List Str).Nodup;decide+kernel) rfl (Or.inl rfl) (.inr rfl)),Yi,(Ku (Aa (pv 0) (Aa (Ba Cd (pv 0) (As (K:=K) rfl (pv 1))) Ae)))⟩))
   (Ag (A8 (fm (N:=["span","begin","end"]) (cap:=[none,some 1,some 2]) (by show F9 (Ab Bl) _ ["self","begin","end","moments","spans"] _ _;exact⟨rfl,by decide+kernel,by decide+kernel,by decide+kernel,by decide+kernel,rfl,by decide+kernel⟩) rfl (Pr (K:=K) rfl (pv 4)) (λC s H fp=>⟨(C5 (i:=0) (by show(["span","begin","end"]:List Str).Nodup;decide+kernel) rfl (Or.inl rfl) (.inr rfl)),(oh (L1 (Az ((i6 T).mono (by decide)) hr rfl T.qo T.fg.kp T.uq .nil Bh (Aa (pv 0) (Aa (pv 1) (Aa (pv 2) Ae)))))),(pv 0)⟩)))))),?_⟩
  obtain⟨dx,y,p,hx,hr0,hp⟩:=id hA
  have hlen:=DRu.Yt (b:=0) ok.ok (qm ok.ml.1.1)
  refine⟨_,rfl,x,_,dx,_,_,rfl,hx,noK (ks:=["rule","place","minute","length","exceptions"]) rfl (by decide+kernel),⟨rfl,rfl⟩,_,rfl,_,rfl,rfl,X,x,r,m,l,n,rfl,hA,ok,λD H1 s1 hD=>⟨D,rfl,⟨_,SqL.of hD⟩,?_⟩⟩
  refine Wr (Po (K:=K) (SqL.of hD)) (λ_=>true) (λv=>match v with| .int d=>.int (d*1440+m)|v=>v) (by rw[Agd];lia) (λ_ _ H' _ R hR=>hR H' (Same.refl _)) ?_ (λD2 H2 s2 hD20 hD2=>?_)
  ·
   intro v hv _ H' sm R hR
   obtain⟨d,hd,rfl⟩:=Ag7.mp hv
   have sH:=s1.trans sm
   refine⟨_,rfl,x,_,dx,_,_,rfl,sH _ _ hx,T.Bi,T.Nt,rfl,_,rfl,_,rfl,x,_,dx,_,_,rfl,sH _ _ hx,T.Bi,T.Gg,rfl,p,d,m,rfl,hp.up sH,λH'' s''=>hR H'' s''⟩
  have S2:=s1.trans s2
  have hD2':H2 D2=some (.lst (((DR.days (fu r) 0 (bu m)).map λd=>d*1440+m).map V.int)):=by
   rw[hD2,Alk.mpr (λ_ _=>rfl),Aha,Aha]
   rfl
  refine⟨_,rfl,D2,rfl,⟨_,SqL.of hD2'⟩,?_⟩
  refine iy (us:=(DR.days (fu r) 0 (bu m)).map λd=>d*1440+m) V.int (λ_=>true) (λu=>k2 (u,u+l)) (Po (K:=K) (SqL.of hD2')) (λu _ v _ e=>by rw[V.int.inj e];exact⟨rfl,rfl⟩) (by rw[Agd];lia) (λu _ H' _ R hR=>hR H' (Same.refl _)) (λu _ _ H' sm R hR=>?_) (λD3 H3 rs s3 hD30 hD3 er=>?_)
  · refine⟨_,rfl,_,rfl,_,rfl,x,_,dx,_,_,rfl,sm _ _ (S2 _ _ hx),T.Bi,T.J7,rfl,_,_,rfl,rfl,(by show 2<=sizeLine;decide),λq hq=>hR q _ (Ah hq) Ac⟩
  rw[Alk.mpr (λ_ _=>rfl)] at er
  have hrl:rs.length<=6:=by
   have:=Ahb List.length er
   rw[Agd,Agd,Agd] at this
   lia
  have sh:∀z∈rs,∃u:Int,z.1=k2 (u,u+l):=λz hz=>by
   have hm:z.1∈((DR.days (fu r) 0 (bu m)).map λd=>d*1440+m).map λu=>k2 (u,u+l):=by rw[←er];exact Ag8 hz
   obtain⟨u,_,e⟩:=Ag7.mp hm
   exact⟨u,e.symm⟩
  refine⟨_,rfl,D3,rfl,⟨_,SqL.of hD3.1⟩,?_⟩
  refine iy (us:=rs) (λz=>V.ref z.2) (λz=>inK z.1) (λz=>z.1) (Po (K:=K) (SqL.of hD3.1)) (λz hz w hw e=>by rw[hD3.one z hz w hw e];exact⟨rfl,rfl⟩) (by lia) (λz hz H' sm R hR=>?_) (λz hz _ H' sm R hR=>⟨_,rfl,hR z.2 H' (Same.refl _) (sm _ _ (hD3.2 z hz))⟩) (λD4 H4 qs s4 hD40 hD4 eq=>?_)
  ·
   obtain⟨u,eu⟩:=sh z hz
   have hz2:=sm _ _ (hD3.2 z hz)
   rw[eu] at hz2
   refine⟨_,rfl,_,rfl,_,rfl,z.2,u,u+l,0,20000,rfl,hz2,_,rfl,?_⟩
   have:=hR H' (Same.refl _)
   rw[eu] at this
   exact this
  refine k D4 qs H4 ((S2.trans s3).trans s4) (S2.free (s3.free hD40)) hD4 ?_
  rw[eq,Aaf er]
theorem Ll:Ar ["self","begin","end","found","name","span"] ["self","begin","end"] (Ab G6):=⟨rfl,rfl,rfl,by decide+kernel,rfl,by decide+kernel,by decide+kernel⟩
theorem Q1 (
      T:Txt K mg a):FnOk P w K mg base CX0 true 35 a.Mt a.Ms ["self","begin","end"] (Nn (ad a)):=by
 refine T.cg.ok Ll (λvs H Q E h=>?_) (λcdv A outer s H vs Q E hr h=>?_)
 · obtain⟨X,b,d,xs,rfl,_⟩:=h;rfl
 ·
  obtain⟨X,b,d,xs,rfl,hB,k⟩:=h
  refine⟨_,(Af (Be (i:=3) Ll.nd rfl (Or.inl rfl) (Oh Ae))
   (Af (zp (Og Aht rfl (Abb (As (K:=K) rfl (pv 0))) (C5 (i:=4) Ll.nd rfl (Or.inl rfl)) (Ag (Og Aht rfl (Pr (K:=K) rfl (Bw (n:=2) (D:=λC R=>(C=a.Bo/\R=λx vs H Q=>(Kx a.Bo) (x::(vs++([]:List V))) H Q E0)∨(C=a.Aq/\R=λx vs H Q=>(J2 (ad a)) (x::(vs++([]:List V))) H Q E0)) (gd (L8 hr) (As (K:=K) rfl (pv 0)) (pv 4) (λ_ _=>rfl)) (by rintro C R (⟨rfl,rfl⟩|⟨rfl,rfl⟩)<;>first|exact⟨T.Sk,_,_,_,_,_,_,_,_,_,_,T.Uq,(Ub T).mono (by decide),hr,T.Wj,.nil,Bh,λ_ _ _ _ _ h=>h⟩|exact⟨T.Bi,_,_,_,_,_,_,_,_,_,_,T.S8,(Sm T).mono (by decide),hr,T.T4,.nil,Bh,λ_ _ _ _ _ h=>h⟩) (Aa (pv 1) (Aa (pv 2) Ae)))) (C5 (i:=5) Ll.nd rfl (Or.inl rfl)) (Ag (De (Acx PySem.F.plainAttrs_list PySem.F.slot_list_append PySem.F.type_list_append Qy (pv 3) (Aa (Ku (Aa (Hk (Ff (K:=K) rfl) (pv 5) Aj (λ_ _=>rfl)) (Aa (Hk (Ff (K:=K) rfl) (pv 5) Aj (λ_ _=>rfl)) (Aa (pv 4) Ae)))) Ae))))))))
   (Ag (A8 (Ax (W4 rfl (hu2 hr)) rfl T.Le (by decide+kernel) (Aa (A5 (fj rfl (Af0 hr)) rfl T.gf (by decide+kernel) (Aa (pv 3) Ae)) Ae)))))),?_⟩
  obtain⟨db,hb⟩:=hB.ins
  refine⟨by decide,λF hF=>?_⟩
  have nFd:d≠F:=Au hB.at_ hF
  refine⟨d,kvT xs,by rw[Ak nFd];exact hB.at_,?_⟩
  refine⟨_,rfl,b,_,db,_,_,rfl,Ah hF _ _ hb,T.Bm,T.A9,rfl,d,kvT xs,rfl,Ah hF _ _ hB.at_,λo=>?_⟩
  have nbd:b≠d:=λz=>by rw[z,hB.at_] at hb;cases hb
  have hz:∀b' o',H b'=some o'->b'≠d->(upd (upd H F (.lst [])) d (.frz o (.dK (kvT xs)))) b'=some o':=λb' o' e' n=>by rw[Ak n,Ak (Au e' hF)];exact e'
  have hzF:(upd (upd H F (.lst [])) d (.frz o (.dK (kvT xs)))) F=some (.lst []):=by rw[Ak nFd.symm];exact Ac
  have hzd:(upd (upd H F (.lst [])) d (.frz o (.dK (kvT xs)))) d=some (.frz o (.dK (kvT xs))):=Ac
  generalize upd (upd H F (.lst [])) d (.frz o (.dK (kvT xs)))=Hz at hz hzF hzd ⊢
  have mlen:∀i,(ma (xs.take i)).length<=60:=λi=>j9 (Ag1 (by rw[Ahk];lia) hB.few) (hB.nd.sublist ((Alv i xs).map _)) λx hx=>hB.good x (List.mem_of_mem_take hx)
  refine O7 (H0:=λb'=>if b'=d then some (.frz o (.dK (kvT xs))) else none) (yd (if_pos rfl)) (λi σ H'=>SameX F Hz H'/\∃(qs:List (List Key×Addr))(y z:Option V),TupsAt H' F qs/\qs.map (·.1)=ma (xs.take i)/\σ=[some (.ref b),some (.int 0),some (.int 20000),some (.ref F),y,z]) ⟨SameX.refl _ _,[],_,_,⟨hzF,λ_ z=>nomatch z⟩,rfl,rfl⟩ (λi σ H' _ h b' o' e'=>?_) ?_ ?_
  ·
   by_cases eb:b'=d
   ·
    subst eb
    have e':some (HO.frz o (.dK (kvT xs)))=some o':=by rw[←e'];exact(if_pos rfl).symm
    rw[←e']
    exact h.1 _ _ nFd hzd
   ·
    have e':(none:Option HO)=some o':=by rw[←e'];exact(if_neg eb).symm
    cases e'
  ·
   rintro i x σ H1 hx ⟨sx,qs,y,z,hq,eq,rfl⟩
   unfold kvT kvG at hx
   rw[Aha,Agz] at hx
   obtain⟨t,ht,rfl⟩:=Ahc.mp hx
   have htm:=Ah8 ht
   have nF:∀{b' o'},H b'=some o'->b'≠F:=λ{b' o'}e'=>Au e' hF
   have up1:∀{b' o'},H b'=some o'->b'≠d->H1 b'=some o':=λ{b' o'}e' n=>sx _ _ (nF e') (hz _ _ e' n)
   have upX:SameO X H H1:=λb' o' _ h2 e'=>up1 e' λw=>by
    subst w
    rw[hB.at_] at e'
    cases e'
    exact h2 hB.xd _ rfl
   have hto:=(hB.ok t htm).upO upX
   have hd1:=sx _ _ nFd hzd
   refine⟨_,rfl,b,_,db,_,_,rfl,up1 hb nbd,T.Bm,T.A9,rfl,_,rfl,d,_,rfl,.inl ⟨kvT xs,Sum.inr t.1,.inr ⟨o,hd1⟩,rfl,(bx hB.nd htm).symm⟩,?_⟩
   obtain⟨C1,dx1,fs1,R1,ea1,eb1,ec1,ed1⟩:=xj (a:=a) hto (hB.good t htm)
   refine⟨t.2.1,C1,dx1,fs1,R1,rfl,ea1,eb1,ec1,_,rfl,_,rfl,rfl,ed1 _ λl rs H2 s2 hl0 hT er=>?_⟩
   refine⟨l,rfl,⟨_,SqL.of hT.1⟩,?_⟩
   have nlF:l≠F:=λz=>by rw[z,hq.1] at hl0;cases hl0
   have hq2:TupsAt H2 F qs:=hq.up s2
   have hL60:=mlen (i+1)
   rw[qj ht] at hL60 ⊢
   rw[Agw,Agd] at hL60
   have hrl:rs.length=(spT t.2.2).length:=by
    have:=Ahb List.length er
    rwa[Agd,Agd] at this
   refine O7 (H0:=λb'=>if b'=l then some (.lst (rs.map λx=>V.ref x.2)) else none) (Po (K:=K) (SqL.of (if_pos rfl))) (λj σ H'=>SameX F H2 H'/\∃(qs':List (List Key×Addr))(z:Option V),TupsAt H' F qs'/\qs'.map (·.1)=ma (xs.take i)++((spT t.2.2).take j).map (k3 t.1)/\σ=[some (.ref b),some (.int 0),some (.int 20000),some (.ref F),some (.str t.1),z]) ⟨SameX.refl _ _,qs,_,hq2,by rw[List.take_zero,Aj0,Ahh];exact eq,rfl⟩ (λj σ H' _ h b' o' e'=>?_) ?_ ?_
   ·
    by_cases eb:b'=l
    ·
     subst eb
     have e':some (HO.lst (rs.map λx=>V.ref x.2))=some o':=by rw[←e'];exact(if_pos rfl).symm
     rw[←e']
     exact h.1 _ _ nlF hT.1
    ·
     have e':(none:Option HO)=some o':=by rw[←e'];exact(if_neg eb).symm
     cases e'
   ·
    rintro j x σ H3 hx ⟨sx3,qs3,z3,hq3,eq3,rfl⟩
    have hj:j<rs.length:=by have:=(Agl.mp hx).1;rwa[Agd] at this
    rw[Agz,Ag0 hj] at hx
    have ex:V.ref rs[j].2=x:=Agn hx
    subst ex
    have hj2:j<(spT t.2.2).length:=by lia
    have ek:rs[j].1=k2 (spT t.2.2)[j]:=by
     have:=Ahb (λl=>l[j]?) er
     rw[Agz,Agz,Ag0 hj,Ag0 hj2] at this
     exact Agn this
    have hp3:H3 rs[j].2=some (.tup [.int (spT t.2.2)[j].1,.int (spT t.2.2)[j].2]):=by
     have h0:=hT.2 rs[j] (Aia hj)
     rw[ek] at h0
     exact sx3 _ _ (λz=>by rw[z,hq2.1] at h0;cases h0) h0
    have few3:qs3.length<=60:=by
     have:=Ahb List.length eq3
     rw[Agd,Agw,Agd,Ahk] at this
     lia
    refine⟨_,rfl,.inl ⟨rfl,_,SqL.of hq3.1⟩,_,rfl,rs[j].2,_,_,_,rfl,rfl,SqT.of hp3,rfl,_,rfl,rs[j].2,_,_,_,rfl,rfl,SqT.of hp3,rfl,_,rfl,(by show 3<=sizeLine;decide),λtt htt=>?_⟩
    have nttF:tt≠F:=λz=>by rw[z,hq3.1] at htt;cases htt
    refine⟨F,_,_,rfl,rfl,Ah htt _ _ hq3.1,by rw[Agd];exact Ag2 few3 (by decide),?_⟩
    refine⟨sx3.put htt,qs3++[(k3 t.1 (spT t.2.2)[j],tt)],_,⟨by rw[Ahg];exact Ac,λx hx=>?_⟩,?_,rfl⟩
    ·
     rcases Ahf.mp hx with hx|hx
     ·
      have:=hq3.2 x hx
      rw[Ak (λz=>by rw[z,hq3.1] at this;cases this),Ak (Au this htt)];exact this
     ·
      rw[Ag3] at hx
      subst hx
      rw[Ak nttF];exact Ac
    ·
     rw[Ahg,eq3,Ajr hj2,Ahg,Alx]
     rfl
   ·
    rintro σ H3 ⟨sx3,qs3,z3,hq3,eq3,rfl⟩
    rw[Agd,hrl,Aim] at eq3
    exact⟨λb' o' n e'=>sx3 _ _ n (s2 _ _ (sx _ _ n e')),qs3,_,_,hq3,eq3,rfl⟩
  ·
   rintro σ H1 ⟨sx,qs,y,z,hq,eq,rfl⟩
   have hd1:=sx _ _ nFd hzd
   rw[show((kvT xs).map λkv=>kV kv.1).length=xs.length by rw[Agd,O0],Aim] at eq
   refine⟨o,hd1,?_⟩
   have S1:Same H (upd H1 d (.dK (kvT xs))):=λb' o' e'=>by
    by_cases eb:b'=d
    ·
     subst eb
     rw[hB.at_] at e'
     rw[←e']
     exact Ac
    · rw[Ak eb];exact sx _ _ (Au e' hF) (hz _ _ e' eb)
   have hq1:TupsAt (upd H1 d (.dK (kvT xs))) F qs:=⟨by rw[Ak nFd.symm];exact hq.1,λx hx=>by
    have:=hq.2 x hx
    rw[Ak (λz=>by rw[z,hd1] at this;cases this)]
    exact this⟩
   generalize upd H1 d (.dK (kvT xs))=H2 at S1 hq1 ⊢
   have hfew:qs.length<=60:=by
    have h1:=Ahb List.length eq
    rw[Agd] at h1
    have h2:=j9 hB.few hB.nd hB.good
    lia
   have nk1:∀{H':Hp},Same H2 H'->∀x∈qs.map λx=>((nkF x.1,x.2):List NK×Addr),Aco H' x.1 x.2:=λ{H'}s' x hx=>by
    obtain⟨y,hy,rfl⟩:=Ag7.mp hx
    exact Acz (s' _ _ (hq1.2 y hy))
   have sh:∀x∈qs.map λx=>((nkF x.1,x.2):List NK×Addr),∃nm z,x.1=nkF (k3 nm z):=λx hx=>by
    obtain⟨y,hy,rfl⟩:=Ag7.mp hx
    have hm:y.1∈ma xs:=by rw[←eq];exact Ag8 hy
    unfold ma at hm
    obtain⟨t,_,ht⟩:=List.mem_flatMap.mp hm
    obtain⟨z,_,e⟩:=Ag7.mp ht
    exact⟨_,z,by rw[←e]⟩
   refine⟨_,rfl,F,qs.map (λx=>(nkF x.1,x.2)),rfl,(by rw[Aha];exact hq1.1),nk1 (Same.refl _),(by rw[Agd];lia),λD ds hD hk hsub hnd=>?_⟩
   have hds:ds.length<64:=by
    have h1:=hnd.length_le_of_subset (l₂:=(qs.map λx=>((nkF x.1,x.2):List NK×Addr)).map (·.1)) λk hk'=>(hk k).mp hk'
    rw[Agd,Agd,Agd] at h1
    lia
   refine⟨D,ds,rfl,Ac,λx hx=>nk1 (Ah hD) x (hsub x hx),hds,.inr (λx hx=>?_),(λx hx y hy=>?_),λD2 qs2 hD2 hp hs=>?_⟩
   ·
    obtain⟨nm,z,e⟩:=sh x (hsub x hx)
    exact⟨_,_,e⟩
   ·
    obtain⟨nm,z,e⟩:=sh x (hsub x hx)
    obtain⟨nm',z',e'⟩:=sh y (hsub y hy)
    rw[e,e']
    exact ok3 ..
   ·
    obtain⟨qs3,e3,h3⟩:=rh (f:=λx:List Key×Addr=>((nkF x.1,x.2):List NK×Addr)) (l:=qs2) (m:=qs) λx hx=>Ag7.mp (hsub x (hp.mem_iff.mp hx))
    subst e3
    have kk:(qs3.map λx:List Key×Addr=>((nkF x.1,x.2):List NK×Addr)).map (·.1)=(qs3.map (·.1)).map nkF:=by rw[Aha,Aha];rfl
    have km:(qs.map λx:List Key×Addr=>((nkF x.1,x.2):List NK×Addr)).map (·.1)=(qs.map (·.1)).map nkF:=by rw[Aha,Aha];rfl
    have nd2:=(hp.map (·.1)).nodup_iff.mpr hnd
    rw[kk] at nd2
    have hmem:∀c,c∈qs3.map (·.1)↔c∈ma xs:=λc=>by rw[←qk,←kk,(hp.map (·.1)).mem_iff,hk,km,qk,eq]
    have hs':Ads (qs3.map (·.1)):=by
     have hs:(keysOf (qs3.map λx:List Key×Addr=>((nkF x.1,x.2):List NK×Addr))).Pairwise (λx y=>ltL y x=false):=hs
     unfold keysOf at hs
     rw[kk,Ajv] at hs
     exact hs
    refine k D2 qs3 _ ((S1.trans (Ah hD)).trans (Ah hD2)) (S1.free ((Ah hD).free hD2)) ⟨by rw[show(qs3.map λx=>V.ref x.2)=(qs3.map λx:List Key×Addr=>((nkF x.1,x.2):List NK×Addr)).map λx=>V.ref x.2 by rw[Aha];rfl];exact Ac,λx hx=>Ah hD2 _ _ (Ah hD _ _ (hq1.2 x (h3 x hx)))⟩ (bp nd2) hmem hs'
theorem Oj:Ar ["self","left","more","moved","rule"] ["self","left","more","moved"] (Ab Dj):=⟨rfl,rfl,rfl,by decide+kernel,rfl,by decide+kernel,by decide+kernel⟩
theorem K7 (T:Txt K mg a):FnOk P w K mg base (CXe P w) true 40 a.Iq a.Ik ["self","left","more","moved"] (Pn (ad a) a.Ap):=by
 refine T.Ve.okE Oj (λvs H Q E h=>?_) (λcdv A outer s H vs Q E hr h=>?_)
 · obtain⟨X,x,p,q,o,r,m,l,n,ls,ms,mv,rfl,_⟩:=h;rfl
 ·
  obtain⟨X,x,p,q,o,r,m,l,n,ls,ms,mv,rfl,hA,ok,hX,hp,hq,ho,okc,k1,k2⟩:=h
  refine⟨_,(Af (Cy (A2 p8 (As (K:=K) rfl (pv 0)) (Bv rfl T.Dd) (A6 _)) (Ag (Lf Fh rfl rfl T.Tz T.Ap (Aa Ce Ae))) Bd)
   (Af (Be (i:=4) Oj.nd rfl (Or.inl rfl) (Sq T.Ng ((Su T 8).mono (by decide)) hr rfl T.rl T.Ug .nil Bh (Aa (As (K:=K) rfl (pv 0)) (Aa (pv 1) (Aa (pv 2) (Aa (pv 3) Ae))))))
   (Ag (A8 (Sq T.Pl ((O6 T).mono (by decide)) hr rfl T.gy T.Wz .nil B1 (Aa (pv 4) (Aa (As (K:=K) rfl (pv 0)) (Aa (As (K:=K) rfl (pv 0)) (Aa (As (K:=K) rfl (pv 0)) (Aa (Ba Cd (As (K:=K) rfl (pv 0)) Aj) Ae)))))))))),?_⟩
  obtain⟨dx,y,pl,hx,hr0,hpl⟩:=id hA
  refine⟨_,rfl,x,_,dx,_,_,rfl,hx,T.Bi,T.Iy,rfl,_,_,rfl,rfl,_,rfl,?_⟩
  refine Jn (λz=>?_) (λz=>?_)
  ·
   have:=Agf z
   exact⟨(by show 1<=sizeLine;decide),k2 (by lia)⟩
  have h8:n<8:=by
   have:¬(8:Int)<=(n:Int):=λw=>z (Age w)
   lia
  refine⟨_,rfl,x,_,dx,_,_,rfl,hx,T.Bi,T.O2,rfl,_,rfl,_,rfl,_,rfl,λc dc nc ndc nec=>?_⟩
  have sM:Same H (upd (upd H dc (.own c)) c (.ins a.Ai dc [])):=(Ah ndc).trans (Ah (by rw[Ak nec.symm];exact nc))
  refine⟨X,c,dc,y,p,q,o,r,ls,ms,mv,H,rfl,Ac,nc,sM,hX,hr0,Ag1 ok.dp ok.n8,hp,hq,ho,okc,λH1 sX1 hr1=>⟨rfl,?_⟩⟩
  have S1:=sx0 nc sM sX1
  have hx1:=S1 _ _ hx
  refine⟨_,rfl,_,rfl,x,_,dx,_,_,rfl,hx1,T.Bi,T.Nt,rfl,_,rfl,x,_,dx,_,_,rfl,hx1,T.Bi,T.Gg,rfl,_,rfl,x,_,dx,_,_,rfl,hx1,T.Bi,T.J7,rfl,_,rfl,x,_,dx,_,_,rfl,hx1,T.Bi,T.Iy,rfl,_,_,rfl,rfl,λg dg ng ndg neg=>?_⟩
  have sN:Same H1 (upd (upd H1 dg (.own g)) g (.ins a.Aq dg [])):=(Ah ndg).trans (Ah (by rw[Ak neg.symm];exact ng))
  refine⟨g,dg,c,pl,m,l,(n:Int)+1,rfl,Ac,λ_=>⟨rfl,?_⟩,λh=>absurd ok.ml h⟩
  have sG:Same H1 (upd (upd (upd H1 dg (.own g)) g (.ins a.Aq dg [])) g (.ins a.Aq dg (FA c pl m l ((n:Int)+1)))):=λb' o' e'=>by
   rw[Ak (Au e' ng)]
   exact sN _ _ e'
  exact k1 h8 g _ (S1.trans sG) ⟨dg,c,pl,Ac,hr1.up sG,hpl.up (S1.trans sG)⟩
theorem Qm:Ar ["self","day","goal"] ["self","day","goal"] (Ab B8):=⟨rfl,rfl,rfl,by decide+kernel,rfl,by decide+kernel,by decide+kernel⟩
theorem Qb (T:Txt K mg a):FnOk P w K mg base (CXe P w) true 41 a.Ep a.Et ["self","day","goal"] (Q3 (ad a) a.Ap):=by
 refine T.Rb.okE Qm (λvs H Q E h=>?_) (λcdv A outer s H vs Q E hr h=>?_)
 · obtain⟨X,x,r,m,l,n,rfl,_⟩:=h;rfl
 ·
  obtain⟨X,x,r,m,l,n,rfl,hA,ok,hX,k1,k2⟩:=h
  refine⟨_,(Af (De (Az ((Dr T).mono (by decide)) hr rfl T.Eu T.Cv.kp T.Es .nil Bh (Aa (pv 1) Ae)))
   (Af (De (Az ((Dr T).mono (by decide)) hr rfl T.Eu T.Cv.kp T.Es .nil Bh (Aa (pv 2) Ae)))
   (Ag (A8 (Bw (n:=3) (D:=λC R=>(C=a.Aq/\R=λx vs H Q=>(Pn (ad a) a.Ap) (x::(vs++([]:List V))) H Q E)) (pv 0) (by rintro C R ⟨rfl,rfl⟩<;>first|exact⟨T.Bi,_,_,_,_,_,_,_,_,_,_,T.Ky,(K7 T).mono (by decide),hr,T.L0,.nil,B1,λ_ _ _ _ _ h=>h⟩) (Aa (Ku Ae) (Aa (Ku Ae) (Aa (Ku (Aa (Ku (Aa (pv 1) (Aa (pv 2) Ae))) Ae)) Ae)))))))),?_⟩
  obtain⟨dx,y,pl,hx,hr0,hpl⟩:=id hA
  refine⟨_,rfl,9,rfl,⟨by decide,by decide⟩,?_⟩
  refine⟨_,rfl,10,rfl,⟨by decide,by decide⟩,?_⟩
  refine⟨_,rfl,x,_,dx,_,_,rfl,hx,noK (ks:=["rule","place","minute","length","exceptions"]) rfl (by decide+kernel),⟨rfl,rfl⟩,?_⟩
  refine⟨(by show 0<=sizeLine;decide),λp hp=>⟨(by show 0<=sizeLine;decide),λq hq=>⟨_,rfl,_,rfl,(by show 2<=sizeLine;decide),λt ht=>⟨(by show 1<=sizeLine;decide),λo ho=>⟨rfl,?_⟩⟩⟩⟩⟩
  have s1:=Ah (o:=.tup []) hp
  have s2:=Ah (o:=.tup []) hq
  have s3:=Ah (o:=.tup [.int 9,.int 10]) ht
  have s4:=Ah (o:=.tup [.ref t]) ho
  have S3:=((s1.trans s2).trans s3).trans s4
  refine⟨X,x,p,q,o,r,m,l,n,[],[],[(9,10)],rfl,hA.up S3,ok,λb hb=>let ⟨o',e⟩:=hX b hb;⟨o',S3 _ _ e⟩,s4 _ _ (s3 _ _ (s2 _ _ Ac)),s4 _ _ (s3 _ _ Ac),⟨[(t,9,10)],Ac,λu hu=>?_,rfl⟩,Aeu,λh8 g H' s' hg=>k1 h8 g H' (S3.trans s') hg,λh8=>k2 h8 _ S3⟩
  rw[Ag3] at hu
  subst hu
  exact s4 _ _ Ac
theorem P4:Ar ["self","day"] ["self","day"] (Ab B4):=⟨rfl,rfl,rfl,by decide+kernel,rfl,by decide+kernel,by decide+kernel⟩
theorem Pu (T:Txt K mg a):FnOk P w K mg base (CXe P w) true 41 a.Dv a.Dy ["self","day"] (Xs (ad a) a.Ap):=by
 refine T.Qn.okE P4 (λvs H Q E h=>?_) (λcdv A outer s H vs Q E hr h=>?_)
 · obtain⟨X,x,r,m,l,n,rfl,_⟩:=h;rfl
 ·
  obtain⟨X,x,r,m,l,n,rfl,hA,ok,hX,k1,k2⟩:=h
  refine⟨_,(Af (De (Az ((Dr T).mono (by decide)) hr rfl T.Eu T.Cv.kp T.Es .nil Bh (Aa (pv 1) Ae)))
   (Ag (A8 (Bw (n:=3) (D:=λC R=>(C=a.Aq/\R=λx vs H Q=>(Pn (ad a) a.Ap) (x::(vs++([]:List V))) H Q E)) (pv 0) (by rintro C R ⟨rfl,rfl⟩<;>first|exact⟨T.Bi,_,_,_,_,_,_,_,_,_,_,T.Ky,(K7 T).mono (by decide),hr,T.L0,.nil,B1,λ_ _ _ _ _ h=>h⟩) (Aa (Ku (Aa (pv 1) Ae)) (Aa (Ku Ae) (Aa (Ku Ae) Ae))))))),?_⟩
  obtain⟨dx,y,pl,hx,hr0,hpl⟩:=id hA
  refine⟨_,rfl,9,rfl,⟨by decide,by decide⟩,?_⟩
  refine⟨_,rfl,x,_,dx,_,_,rfl,hx,noK (ks:=["rule","place","minute","length","exceptions"]) rfl (by decide+kernel),⟨rfl,rfl⟩,?_⟩
  refine⟨_,rfl,(by show 1<=sizeLine;decide),λp hp=>⟨(by show 0<=sizeLine;decide),λq hq=>⟨(by show 0<=sizeLine;decide),λo ho=>⟨rfl,?_⟩⟩⟩⟩
  have s1:=Ah (o:=.tup [.int 9]) hp
  have s2:=Ah (o:=.tup []) hq
  have s3:=Ah (o:=.tup []) ho
  have S3:=(s1.trans s2).trans s3
  refine⟨X,x,p,q,o,r,m,l,n,[9],[],[],rfl,hA.up S3,ok,λb hb=>let ⟨o',e⟩:=hX b hb;⟨o',S3 _ _ e⟩,s3 _ _ (s2 _ _ Ac),s3 _ _ Ac,⟨[],Ac,RowOk.nil,rfl⟩,ok9,λh8 g H' s' hg=>k1 h8 g H' (S3.trans s') hg,λh8=>k2 h8 _ S3⟩
theorem Sj:Ar ["self","day"] ["self","day"] (Ab Cu):=⟨rfl,rfl,rfl,by decide+kernel,rfl,by decide+kernel,by decide+kernel⟩
theorem Sw (T:Txt K mg a):FnOk P w K mg base (CXe P w) true 41 a.Gz a.Gr ["self","day"] (Vr (ad a) a.Ap):=by
 refine T.T7.okE Sj (λvs H Q E h=>?_) (λcdv A outer s H vs Q E hr h=>?_)
 · obtain⟨X,x,r,m,l,n,rfl,_⟩:=h;rfl
 ·
  obtain⟨X,x,r,m,l,n,rfl,hA,ok,hX,k1,k2⟩:=h
  refine⟨_,(Af (De (Az ((Dr T).mono (by decide)) hr rfl T.Eu T.Cv.kp T.Es .nil Bh (Aa (pv 1) Ae)))
   (Ag (A8 (Bw (n:=3) (D:=λC R=>(C=a.Aq/\R=λx vs H Q=>(Pn (ad a) a.Ap) (x::(vs++([]:List V))) H Q E)) (pv 0) (by rintro C R ⟨rfl,rfl⟩<;>first|exact⟨T.Bi,_,_,_,_,_,_,_,_,_,_,T.Ky,(K7 T).mono (by decide),hr,T.L0,.nil,B1,λ_ _ _ _ _ h=>h⟩) (Aa (Ku Ae) (Aa (Ku (Aa (pv 1) Ae)) (Aa (Ku Ae) Ae))))))),?_⟩
  obtain⟨dx,y,pl,hx,hr0,hpl⟩:=id hA
  refine⟨_,rfl,9,rfl,⟨by decide,by decide⟩,?_⟩
  refine⟨_,rfl,x,_,dx,_,_,rfl,hx,noK (ks:=["rule","place","minute","length","exceptions"]) rfl (by decide+kernel),⟨rfl,rfl⟩,?_⟩
  refine⟨(by show 0<=sizeLine;decide),λp hp=>⟨_,rfl,(by show 1<=sizeLine;decide),λq hq=>⟨(by show 0<=sizeLine;decide),λo ho=>⟨rfl,?_⟩⟩⟩⟩
  have s1:=Ah (o:=.tup []) hp
  have s2:=Ah (o:=.tup [.int 9]) hq
  have s3:=Ah (o:=.tup []) ho
  have S3:=(s1.trans s2).trans s3
  refine⟨X,x,p,q,o,r,m,l,n,[],[9],[],rfl,hA.up S3,ok,λb hb=>let ⟨o',e⟩:=hX b hb;⟨o',S3 _ _ e⟩,s3 _ _ (s2 _ _ Ac),s3 _ _ Ac,⟨[],Ac,RowOk.nil,rfl⟩,Ae1,λh8 g H' s' hg=>k1 h8 g H' (S3.trans s') hg,λh8=>k2 h8 _ S3⟩
theorem Yq:Ar ["self","name","day"] ["self","name","day"] (Ab G7):=⟨rfl,rfl,rfl,by decide+kernel,rfl,by decide+kernel,by decide+kernel⟩
theorem X7 (T:Txt K mg a):FnOk P w K mg base (CXe P w) true 42 a.Mc a.Mf ["self","name","day"] (jx (ad a) a.Ap a.Ad):=by
 refine T.df.okE Yq (λvs H Q E h=>?_) (λcdv A outer s H vs Q E hr h=>?_)
 · obtain⟨X,b,d,xs,nm,rfl,_⟩:=h;rfl
 ·
  obtain⟨X,b,d,xs,nm,rfl,hB,k1,k2,k3⟩:=h
  refine⟨_,(Ag (Mx (L8 hr) (As (K:=K) rfl (pv 0)) (pv 1) (Bw (n:=1) (D:=λC R=>(C=a.Aq/\R=λx vs H Q=>(Xs (ad a) a.Ap) (x::(vs++([]:List V))) H Q E)) (Bw (n:=1) (D:=λC R=>(C=a.A3/\R=λx vs H Q=>(Qx (ad a) a.Ad) (x::(vs++([]:List V))) H Q E)) (pv 0) (by rintro C R ⟨rfl,rfl⟩<;>first|exact⟨T.Bm,_,_,_,_,_,_,_,_,_,_,T.F1,(F2 T).mono (by decide),hr,T.G3,.nil,B1,λ_ _ _ _ _ h=>h⟩) (Aa (pv 1) Ae)) (by rintro C R ⟨rfl,rfl⟩<;>first|exact⟨T.Bi,_,_,_,_,_,_,_,_,_,_,T.Pz,(Pu T).mono (by decide),hr,T.Qi,.nil,B1,λ_ _ _ _ _ h=>h⟩) (Aa (pv 2) Ae)) rfl)),?_⟩
  obtain⟨db,hb⟩:=hB.ins
  refine⟨_,rfl,b,_,db,_,_,rfl,hb,rfl,⟨rfl,rfl⟩,_,rfl,rfl,X,b,d,xs,nm,rfl,hB,λo r m l n e=>?_,λh=>k3 h _ (Same.refl _)⟩
  have hm:=Ga e
  have hA:=ThAt.isAg.mp (hB.ok _ hm)
  have hG:OkA r m l n/\nm∈NM4:=hB.good _ hm
  obtain⟨dx,y,p,hx,_⟩:=id hA
  refine⟨o,_,dx,_,_,rfl,hx,noK (ks:=["rule","place","minute","length","exceptions"]) rfl (by decide+kernel),⟨rfl,rfl⟩,_,rfl,rfl,X,o,r,m,l,n,rfl,hA,hG.1,λc hc=>let ⟨kvs,e⟩:=hB.hX c hc;⟨_,e⟩,λh8 g H1 s1 hg=>?_,λh8 H1 s1=>k2 o r m l n e h8 H1 s1⟩
  have hB1:=hB.up s1
  refine⟨_,rfl,b,_,db,_,_,rfl,s1 _ _ hb,T.Bm,T.A9,rfl,_,rfl,d,_,rfl,DPut.k (k:=Sum.inr nm) hB1.at_ (by rw[O0];exact Ag2 hB.few (by decide)),?_⟩
  rw[Yr (f:=λx=>.ref x.2.1) (o:=g) (t:=.ag (.ch r [9] [] []) m l (n+1)) (Ag8 (f:=thN) hm)]
  exact k1 o r m l n e h8 g _ (λb' o' nb e'=>by rw[Ak nb];exact s1 _ _ e') (hB1.repl (ThAt.isAg.mpr hg) ⟨hG.1.next ok9 h8,hG.2⟩)
theorem Yg:Ar ["self","name","day","goal"] ["self","name","day","goal"] (Ab G9):=⟨rfl,rfl,rfl,by decide+kernel,rfl,by decide+kernel,by decide+kernel⟩
theorem Y8 (T:Txt K mg a):FnOk P w K mg base (CXe P w) true 42 a.Ma a.Ml ["self","name","day","goal"] (i5 (ad a) a.Ap a.Ad):=by
 refine T.b8.okE Yg (λvs H Q E h=>?_) (λcdv A outer s H vs Q E hr h=>?_)
 · obtain⟨X,b,d,xs,nm,rfl,_⟩:=h;rfl
 ·
  obtain⟨X,b,d,xs,nm,rfl,hB,k1,k2,k3⟩:=h
  refine⟨_,(Ag (Mx (L8 hr) (As (K:=K) rfl (pv 0)) (pv 1) (Bw (n:=2) (D:=λC R=>(C=a.Aq/\R=λx vs H Q=>(Q3 (ad a) a.Ap) (x::(vs++([]:List V))) H Q E)) (Bw (n:=1) (D:=λC R=>(C=a.A3/\R=λx vs H Q=>(Qx (ad a) a.Ad) (x::(vs++([]:List V))) H Q E)) (pv 0) (by rintro C R ⟨rfl,rfl⟩<;>first|exact⟨T.Bm,_,_,_,_,_,_,_,_,_,_,T.F1,(F2 T).mono (by decide),hr,T.G3,.nil,B1,λ_ _ _ _ _ h=>h⟩) (Aa (pv 1) Ae)) (by rintro C R ⟨rfl,rfl⟩<;>first|exact⟨T.Bi,_,_,_,_,_,_,_,_,_,_,T.Qg,(Qb T).mono (by decide),hr,T.Ry,.nil,B1,λ_ _ _ _ _ h=>h⟩) (Aa (pv 2) (Aa (pv 3) Ae))) rfl)),?_⟩
  obtain⟨db,hb⟩:=hB.ins
  refine⟨_,rfl,b,_,db,_,_,rfl,hb,rfl,⟨rfl,rfl⟩,_,rfl,rfl,X,b,d,xs,nm,rfl,hB,λo r m l n e=>?_,λh=>k3 h _ (Same.refl _)⟩
  have hm:=Ga e
  have hA:=ThAt.isAg.mp (hB.ok _ hm)
  have hG:OkA r m l n/\nm∈NM4:=hB.good _ hm
  obtain⟨dx,y,p,hx,_⟩:=id hA
  refine⟨o,_,dx,_,_,rfl,hx,noK (ks:=["rule","place","minute","length","exceptions"]) rfl (by decide+kernel),⟨rfl,rfl⟩,_,rfl,_,rfl,rfl,X,o,r,m,l,n,rfl,hA,hG.1,λc hc=>let ⟨kvs,e⟩:=hB.hX c hc;⟨_,e⟩,λh8 g H1 s1 hg=>?_,λh8 H1 s1=>k2 o r m l n e h8 H1 s1⟩
  have hB1:=hB.up s1
  refine⟨_,rfl,b,_,db,_,_,rfl,s1 _ _ hb,T.Bm,T.A9,rfl,_,rfl,d,_,rfl,DPut.k (k:=Sum.inr nm) hB1.at_ (by rw[O0];exact Ag2 hB.few (by decide)),?_⟩
  rw[Yr (f:=λx=>.ref x.2.1) (o:=g) (t:=.ag (.ch r [] [] [(9,10)]) m l (n+1)) (Ag8 (f:=thN) hm)]
  exact k1 o r m l n e h8 g _ (λb' o' nb e'=>by rw[Ak nb];exact s1 _ _ e') (hB1.repl (ThAt.isAg.mpr hg) ⟨hG.1.next Aeu h8,hG.2⟩)
theorem Yu:Ar ["self","name","day"] ["self","name","day"] (Ab Hg):=⟨rfl,rfl,rfl,by decide+kernel,rfl,by decide+kernel,by decide+kernel⟩
theorem Yy (T:Txt K mg a):FnOk P w K mg base (CXe P w) true 42 a.Mj a.Mp ["self","name","day"] (je (ad a) a.Ap a.Ad):=by
 refine T.cj.okE Yu (λvs H Q E h=>?_) (λcdv A outer s H vs Q E hr h=>?_)
 · obtain⟨X,b,d,xs,nm,rfl,_⟩:=h;rfl
 ·
  obtain⟨X,b,d,xs,nm,rfl,hB,k1,k2,k3⟩:=h
  refine⟨_,(Ag (Mx (L8 hr) (As (K:=K) rfl (pv 0)) (pv 1) (Bw (n:=1) (D:=λC R=>(C=a.Aq/\R=λx vs H Q=>(Vr (ad a) a.Ap) (x::(vs++([]:List V))) H Q E)) (Bw (n:=1) (D:=λC R=>(C=a.A3/\R=λx vs H Q=>(Qx (ad a) a.Ad) (x::(vs++([]:List V))) H Q E)) (pv 0) (by rintro C R ⟨rfl,rfl⟩<;>first|exact⟨T.Bm,_,_,_,_,_,_,_,_,_,_,T.F1,(F2 T).mono (by decide),hr,T.G3,.nil,B1,λ_ _ _ _ _ h=>h⟩) (Aa (pv 1) Ae)) (by rintro C R ⟨rfl,rfl⟩<;>first|exact⟨T.Bi,_,_,_,_,_,_,_,_,_,_,T.Tc,(Sw T).mono (by decide),hr,T.Uo,.nil,B1,λ_ _ _ _ _ h=>h⟩) (Aa (pv 2) Ae)) rfl)),?_⟩
  obtain⟨db,hb⟩:=hB.ins
  refine⟨_,rfl,b,_,db,_,_,rfl,hb,rfl,⟨rfl,rfl⟩,_,rfl,rfl,X,b,d,xs,nm,rfl,hB,λo r m l n e=>?_,λh=>k3 h _ (Same.refl _)⟩
  have hm:=Ga e
  have hA:=ThAt.isAg.mp (hB.ok _ hm)
  have hG:OkA r m l n/\nm∈NM4:=hB.good _ hm
  obtain⟨dx,y,p,hx,_⟩:=id hA
  refine⟨o,_,dx,_,_,rfl,hx,noK (ks:=["rule","place","minute","length","exceptions"]) rfl (by decide+kernel),⟨rfl,rfl⟩,_,rfl,rfl,X,o,r,m,l,n,rfl,hA,hG.1,λc hc=>let ⟨kvs,e⟩:=hB.hX c hc;⟨_,e⟩,λh8 g H1 s1 hg=>?_,λh8 H1 s1=>k2 o r m l n e h8 H1 s1⟩
  have hB1:=hB.up s1
  refine⟨_,rfl,b,_,db,_,_,rfl,s1 _ _ hb,T.Bm,T.A9,rfl,_,rfl,d,_,rfl,DPut.k (k:=Sum.inr nm) hB1.at_ (by rw[O0];exact Ag2 hB.few (by decide)),?_⟩
  rw[Yr (f:=λx=>.ref x.2.1) (o:=g) (t:=.ag (.ch r [] [9] []) m l (n+1)) (Ag8 (f:=thN) hm)]
  exact k1 o r m l n e h8 g _ (λb' o' nb e'=>by rw[Ak nb];exact s1 _ _ e') (hB1.repl (ThAt.isAg.mpr hg) ⟨hG.1.next Ae1 h8,hG.2⟩)
theorem E7:Ar ["_law_book","_law_kind","_law_name","_law_minute","_law_length","_law_told","_law_e"] ["_law_book","_law_kind","_law_name","_law_minute","_law_length"] (Ab Jv):=⟨rfl,rfl,rfl,by decide+kernel,rfl,by decide+kernel,by decide+kernel⟩
theorem bh (
      T:Txt K mg a):FnOk P w K mg base CX0 true 44 a.N2 a.Nr ["_law_book","_law_kind","_law_name","_law_minute","_law_length"] (Z1 (ad a)):=by
 refine T.Wc.ok E7 (λvs H Q E h=>?_) (λcdv A outer s H vs Q E hr h=>?_)
 · obtain⟨X,b,d,xs,kd,nm,m,l,rfl,_⟩:=h;rfl
 ·
  obtain⟨X,b,d,xs,kd,nm,m,l,rfl,hB,hnl,h4,k1,k2⟩:=h
  refine⟨_,(Ag (wc (i:=6) rfl T.Kl T.bz E7.nd rfl rfl rfl (λpins Eb E hx=>(Af (Cy (A2 M5 (pv 1) Aj (A6 _)) (Ag (Be (i:=5) E7.nd rfl (Or.inl rfl) (Pq (n:=5) (D:=λC R=>(C=a.A3/\R=λx vs H Q E=>(Q7 (ad a) a.Ap a.Ad a.Ao) (x::(vs++([]:List V))) H Q E)) hx (pv 0) (by rintro C R ⟨rfl,rfl⟩<;>first|exact⟨T.Bm,_,_,_,_,_,_,_,_,T.Yx,(X2 T).mono (by decide),hr,T.b7,.nil,λ_ _ _ _ _ _ h=>h⟩) (Aa (pv 2) (Aa (Sq T.R3 ((Wf T).mono (by decide)) hr rfl T.Aa4 T.W3 .nil Bh (O3 [.int 1,.int 9] (by decide+kernel))) (Aa (Sq T.Qt ((Wo T).mono (by decide)) hr rfl T.Aa9 T.Of.choose_spec.1 T.Of.choose_spec.2 Bh (O3 [.str "here",.int 0] (by decide+kernel))) (Aa (pv 3) (Aa (pv 4) Ae)))))))) (Ag (Cy (A2 So (pv 1) Aj (A6 _)) (Ag (Be (i:=5) E7.nd rfl (Or.inl rfl) (Pq (n:=3) (D:=λC R=>(C=a.A3/\R=λx vs H Q E=>(Pa (ad a) a.Ap a.Ad a.Ao) (x::(vs++([]:List V))) H Q E)) hx (pv 0) (by rintro C R ⟨rfl,rfl⟩<;>first|exact⟨T.Bm,_,_,_,_,_,_,_,_,T.T3,(T2 T).mono (by decide),hr,T.Vk,.nil,λ_ _ _ _ _ _ h=>h⟩) (Aa (pv 2) (Aa Aj (Aa (Ba Cd Aj Aj) Ae)))))) (Ag (Cy (A2 So (pv 1) Aj (A6 _)) (Ag (Be (i:=5) E7.nd rfl (Or.inl rfl) (Pq (n:=1) (D:=λC R=>(C=a.A3/\R=λx vs H Q E=>(To (ad a) a.Ad) (x::(vs++([]:List V))) H Q E)) hx (pv 0) (by rintro C R ⟨rfl,rfl⟩<;>first|exact⟨T.Bm,_,_,_,_,_,_,_,_,T.dh,(cw T).mono (by decide),hr,T.ff,.nil,λ_ _ _ _ _ _ h=>h⟩) (Aa (pv 2) Ae)))) (Ag (Cy (A2 M5 (pv 1) Aj (A6 _)) (Ag (Be (i:=5) E7.nd rfl (Or.inl rfl) (D8 (A2 So (pv 1) Aj (A6 _)) (Pq (n:=2) (D:=λC R=>(C=a.A3/\R=λx vs H Q E=>(jx (ad a) a.Ap a.Ad) (x::(vs++([]:List V))) H Q E)) hx (pv 0) (by rintro C R ⟨rfl,rfl⟩<;>first|exact⟨T.Bm,_,_,_,_,_,_,_,_,T.Yk,(X7 T).mono (by decide),hr,T.b5,.nil,λ_ _ _ _ _ _ h=>h⟩) (Aa (pv 2) (Aa Aj Ae))) (Pq (n:=2) (D:=λC R=>(C=a.A3/\R=λx vs H Q E=>(je (ad a) a.Ap a.Ad) (x::(vs++([]:List V))) H Q E)) hx (pv 0) (by rintro C R ⟨rfl,rfl⟩<;>first|exact⟨T.Bm,_,_,_,_,_,_,_,_,T.Ys,(Yy T).mono (by decide),hr,T.ba,.nil,λ_ _ _ _ _ _ h=>h⟩) (Aa (pv 2) (Aa Aj Ae)))))) (Ag (Be (i:=5) E7.nd rfl (Or.inl rfl) (Pq (n:=3) (D:=λC R=>(C=a.A3/\R=λx vs H Q E=>(i5 (ad a) a.Ap a.Ad) (x::(vs++([]:List V))) H Q E)) hx (pv 0) (by rintro C R ⟨rfl,rfl⟩<;>first|exact⟨T.Bm,_,_,_,_,_,_,_,_,T.Zv,(Y8 T).mono (by decide),hr,T.cc,.nil,λ_ _ _ _ _ _ h=>h⟩) (Aa (pv 2) (Aa Aj (Aa Aj Ae)))))))))))))
   (Ag (A8 (D8 (A2 Xw (pv 5) Ra (A6 _)) Ce Ce))))) (λe=>(Ag (A8 (Az ((da T).mono (by decide)) (hr.mark _) rfl T.fc T.Ws.kp T.gk .nil Bh (Aa (pv 6) Ae))))))),?_⟩
  obtain⟨db,hb⟩:=hB.ins
  refine⟨_,rfl,_,_,rfl,rfl,_,rfl,?_⟩
  refine Jn (λz=>?_) (λz=>?_)
  ·
   have hk3:=Agf z
   rw[Acb (by lia)] at k1 k2
   refine⟨_,rfl,b,_,db,_,_,rfl,hb,rfl,⟨rfl,rfl⟩,_,rfl,λy dy ny ndy ney=>⟨y,dy,rfl,Ac,⟨rfl,λp dp np ndp nep=>⟨p,dp,rfl,Ac,λH2 sX2 hp2=>⟨rfl,_,rfl,_,rfl,rfl,?_⟩⟩⟩⟩⟩
   have sY:Same H (upd (upd (upd H dy (.own y)) y (.ins a.A7 dy [])) y (.ins a.A7 dy FE)):=λb' o' e'=>by
    rw[Ak (Au e' ny),Ak (Au e' ny),Ak (Au e' ndy)]
    exact e'
   have hy1:(upd (upd (upd H dy (.own y)) y (.ins a.A7 dy [])) y (.ins a.A7 dy FE)) y=some (.ins a.A7 dy FE):=Ac
   generalize upd (upd (upd H dy (.own y)) y (.ins a.A7 dy [])) y (.ins a.A7 dy FE)=H1 at sY hy1 np ndp nep sX2
   have sP:Same H1 (upd (upd H1 dp (.own p)) p (.ins a.A0 dp [])):=(Ah ndp).trans (Ah (by rw[Ak nep.symm];exact np))
   have sP2:=sx0 np sP sX2
   have S2:=sY.trans sP2
   refine⟨X,b,d,y,p,xs,nm,m,l,rfl,hB.up S2,hnl,h4,RuAt.isEv.mpr ⟨dy,sP2 _ _ hy1⟩,hp2,λh0 hML o H9 sx9 hB9=>?_,λh0 hML H9 s9=>?_,λh H9 s9=>?_,λh H9 s9=>?_,λh H9 s9=>?_⟩
   ·
    obtain⟨r1,r2,r3⟩:=xb h0
    refine⟨_,rfl,rfl,_,rfl,Nw ?_⟩
    exact k2 (Aa3 h0 (λw=>w.2 hML)) _ H9 ((SameX.of S2).tr sx9) hB9 (.inl ⟨by lia,r3,r1,o,_,rfl,by rw[if_pos hk3];exact Oz _ _ _ _⟩)
   ·
    rw[Acj h0 ⟨hk3,hML⟩] at k1
    have kk:=k1 (by decide)
    refine⟨a.Ad,rfl,T.Ay,λe he=>?_⟩
    exact⟨_,rfl,e,a.Ad,_,rfl,Ac,.inl ⟨rfl,rfl⟩,kk _ ((S2.trans s9).trans (Ah he))⟩
   ·
    rw[zt h] at k1
    have kk:=k1 (by decide)
    refine⟨a.Ap,rfl,T.Bg,λe he=>?_⟩
    exact⟨_,rfl,e,a.Ap,_,rfl,Ac,.inr (.inr ⟨rfl,rfl⟩),kk _ ((S2.trans s9).trans (Ah he))⟩
   ·
    rw[zl h] at k1
    have kk:=k1 (by decide)
    refine⟨a.Ad,rfl,T.Ay,λe he=>?_⟩
    exact⟨_,rfl,e,a.Ad,_,rfl,Ac,.inl ⟨rfl,rfl⟩,kk _ ((S2.trans s9).trans (Ah he))⟩
   ·
    rw[Abm h] at k1
    have kk:=k1 (by decide)
    refine⟨a.Ao,rfl,T.Cb,λe he=>?_⟩
    exact⟨_,rfl,e,a.Ao,_,rfl,Ac,.inr (.inl ⟨rfl,rfl⟩),kk _ ((S2.trans s9).trans (Ah he))⟩
  have hk3:¬kd<3:=λw=>z (Age w)
  refine⟨_,rfl,rfl,_,rfl,?_⟩
  refine Jn (λz=>?_) (λz=>?_)
  ·
   have e3:kd=3:=V.int.inj (Agf z)
   subst e3
   rw[Acb (by decide)] at k1 k2
   refine⟨_,rfl,b,_,db,_,_,rfl,hb,rfl,⟨rfl,rfl⟩,_,rfl,_,_,rfl,rfl,rfl,X,b,d,xs,nm,13000,13060,rfl,hB,hnl,by decide,λh0 o H9 sx9 hB9=>?_,λh H9 s9=>?_,λh H9 s9=>?_,λh H9 s9=>?_⟩
   ·
    obtain⟨r1,r2,r3⟩:=xb h0
    refine⟨_,rfl,rfl,_,rfl,Nw ?_⟩
    exact k2 (Aa3 h0 (λw=>absurd w.1 (by decide))) _ H9 sx9 hB9 (.inl ⟨by decide,r3,r1,o,_,rfl,rfl⟩)
   ·
    rw[zt h] at k1
    have kk:=k1 (by decide)
    refine⟨a.Ap,rfl,T.Bg,λe he=>?_⟩
    exact⟨_,rfl,e,a.Ap,_,rfl,Ac,.inr (.inr ⟨rfl,rfl⟩),kk _ (s9.trans (Ah he))⟩
   ·
    rw[zl h] at k1
    have kk:=k1 (by decide)
    refine⟨a.Ad,rfl,T.Ay,λe he=>?_⟩
    exact⟨_,rfl,e,a.Ad,_,rfl,Ac,.inl ⟨rfl,rfl⟩,kk _ (s9.trans (Ah he))⟩
   ·
    rw[Abm h] at k1
    have kk:=k1 (by decide)
    refine⟨a.Ao,rfl,T.Cb,λe he=>?_⟩
    exact⟨_,rfl,e,a.Ao,_,rfl,Ac,.inr (.inl ⟨rfl,rfl⟩),kk _ (s9.trans (Ah he))⟩
  have hk3':¬kd=3:=λw=>z (Age (Ahb V.int w))
  refine⟨_,rfl,rfl,_,rfl,?_⟩
  refine Jn (λz=>?_) (λz=>?_)
  ·
   have e4:kd=4:=V.int.inj (Agf z)
   subst e4
   rw[Aer] at k1 k2
   refine⟨_,rfl,b,_,db,_,_,rfl,hb,rfl,⟨rfl,rfl⟩,_,rfl,rfl,X,b,d,xs,nm,rfl,hB,λhm hB1=>?_,λhm=>?_⟩
   ·
    refine⟨_,rfl,rfl,_,rfl,Nw ?_⟩
    exact k2 (if_pos hm) _ _ Ej hB1 (.inr (.inl ⟨rfl,hm,rfl⟩))
   ·
    rw[if_neg hm] at k1
    have kk:=k1 (by decide)
    refine⟨a.Ad,rfl,T.Ay,λe he=>?_⟩
    exact⟨_,rfl,e,a.Ad,_,rfl,Ac,.inl ⟨rfl,rfl⟩,kk _ ((Same.refl H).trans (Ah he))⟩
  have hk5:4<kd:=by
   have:¬kd=4:=λw=>z (Age (Ahb V.int w))
   lia
  refine⟨_,rfl,_,_,rfl,rfl,_,rfl,?_⟩
  refine Jn (λ_=>?_) (λ_=>?_)
  ·
   refine⟨_,rfl,rfl,_,rfl,?_⟩
   refine Jn (λ_=>?_) (λ_=>?_)
   ·
    refine⟨_,rfl,b,_,db,_,_,rfl,hb,rfl,⟨rfl,rfl⟩,_,rfl,rfl,X,b,d,xs,nm,rfl,hB,λo r m' l' n e h8 o' H1 sx1 hB1=>?_,λo r m' l' n e h8 H1 s1=>?_,λhno H1 s1=>?_⟩
    ·
     have ec:=(Ge e).trans (Oz r m' l' n)
     refine⟨_,rfl,rfl,_,rfl,Nw ?_⟩
     exact k2 (uj hk5 (by lia) (by lia)) _ H1 sx1 hB1 (.inr (.inr ⟨hk5,Ag8 (f:=thN) (Ga e),o',_,rfl,by rw[ec,Oz];lia⟩))
    ·
     have ec:=(Ge e).trans (Oz r m' l' n)
     rw[i4 hk5 (by lia)] at k1
     have kk:=k1 (by decide)
     refine⟨a.Ap,rfl,T.Bg,λe he=>?_⟩
     exact⟨_,rfl,e,a.Ap,_,rfl,Ac,.inr (.inr ⟨rfl,rfl⟩),kk _ (s1.trans (Ah he))⟩
    ·
     have h0:Xr xs nm=0:=by
      rcases Ss (xs:=xs) (nm:=nm) with h|⟨o,r,m',l',n,e,_⟩
      · exact h.1
      · exact absurd e (hno o r m' l' n)
     rw[tq hk5 (by lia)] at k1
     have kk:=k1 (by decide)
     refine⟨a.Ad,rfl,T.Ay,λe he=>?_⟩
     exact⟨_,rfl,e,a.Ad,_,rfl,Ac,.inl ⟨rfl,rfl⟩,kk _ (s1.trans (Ah he))⟩
   ·
    refine⟨_,rfl,b,_,db,_,_,rfl,hb,rfl,⟨rfl,rfl⟩,_,rfl,rfl,X,b,d,xs,nm,rfl,hB,λo r m' l' n e h8 o' H1 sx1 hB1=>?_,λo r m' l' n e h8 H1 s1=>?_,λhno H1 s1=>?_⟩
    ·
     have ec:=(Ge e).trans (Oz r m' l' n)
     refine⟨_,rfl,rfl,_,rfl,Nw ?_⟩
     exact k2 (uj hk5 (by lia) (by lia)) _ H1 sx1 hB1 (.inr (.inr ⟨hk5,Ag8 (f:=thN) (Ga e),o',_,rfl,by rw[ec,Oz];lia⟩))
    ·
     have ec:=(Ge e).trans (Oz r m' l' n)
     rw[i4 hk5 (by lia)] at k1
     have kk:=k1 (by decide)
     refine⟨a.Ap,rfl,T.Bg,λe he=>?_⟩
     exact⟨_,rfl,e,a.Ap,_,rfl,Ac,.inr (.inr ⟨rfl,rfl⟩),kk _ (s1.trans (Ah he))⟩
    ·
     have h0:Xr xs nm=0:=by
      rcases Ss (xs:=xs) (nm:=nm) with h|⟨o,r,m',l',n,e,_⟩
      · exact h.1
      · exact absurd e (hno o r m' l' n)
     rw[tq hk5 (by lia)] at k1
     have kk:=k1 (by decide)
     refine⟨a.Ad,rfl,T.Ay,λe he=>?_⟩
     exact⟨_,rfl,e,a.Ad,_,rfl,Ac,.inl ⟨rfl,rfl⟩,kk _ (s1.trans (Ah he))⟩
  ·
   refine⟨_,rfl,b,_,db,_,_,rfl,hb,rfl,⟨rfl,rfl⟩,_,rfl,rfl,X,b,d,xs,nm,rfl,hB,λo r m' l' n e h8 o' H1 sx1 hB1=>?_,λo r m' l' n e h8 H1 s1=>?_,λhno H1 s1=>?_⟩
   ·
    have ec:=(Ge e).trans (Oz r m' l' n)
    refine⟨_,rfl,rfl,_,rfl,Nw ?_⟩
    exact k2 (uj hk5 (by lia) (by lia)) _ H1 sx1 hB1 (.inr (.inr ⟨hk5,Ag8 (f:=thN) (Ga e),o',_,rfl,by rw[ec,Oz];lia⟩))
   ·
    have ec:=(Ge e).trans (Oz r m' l' n)
    rw[i4 hk5 (by lia)] at k1
    have kk:=k1 (by decide)
    refine⟨a.Ap,rfl,T.Bg,λe he=>?_⟩
    exact⟨_,rfl,e,a.Ap,_,rfl,Ac,.inr (.inr ⟨rfl,rfl⟩),kk _ (s1.trans (Ah he))⟩
   ·
    have h0:Xr xs nm=0:=by
     rcases Ss (xs:=xs) (nm:=nm) with h|⟨o,r,m',l',n,e,_⟩
     · exact h.1
     · exact absurd e (hno o r m' l' n)
    rw[tq hk5 (by lia)] at k1
    have kk:=k1 (by decide)
    refine⟨a.Ad,rfl,T.Ay,λe he=>?_⟩
    exact⟨_,rfl,e,a.Ad,_,rfl,Ac,.inl ⟨rfl,rfl⟩,kk _ (s1.trans (Ah he))⟩
theorem K9:Ar ["_law_script","_law_state","_law_book","_law_plain","_law_k","_law_name","_law_cell_here","_law_kind","_law_good","_law_minute","_law_length","_law_due_here","_law_ahead"] ["_law_script"] (Ab mr):=⟨rfl,rfl,rfl,by decide+kernel,rfl,by decide+kernel,by decide+kernel⟩
theorem Ac5 (T:Txt K mg a):FnOk P w K mg base CX0 true 46 a.kn a.e8 ["_law_script"] (jf K):=by
 refine T.Ad7.ok K9 (λvs H Q E h=>?_) (λcdv A outer s H vs Q E hr h=>?_)
 · obtain⟨sa,ns,rfl,_⟩:=h;rfl
 ·
  obtain⟨sa,ns,rfl,hS,hlen,k⟩:=h
  refine⟨_,(Af (Be (i:=1) K9.nd rfl (Or.inl rfl) (Oh (Aa (Ba Cd Aj (Ba M8 (Az ((gq T).mono (by decide)) hr rfl T.kl T.Xn.kp T.nu .nil Bh (Aa (pv 0) (Aa Aj Ae))) Aj)) Ae)))
   (Af (Be (i:=2) K9.nd rfl (Or.inl rfl) (wz T.Wv ((W2 T).mono (by decide)) hr rfl T.Adl T.Zh .nil Bh))
   (Af (Be (i:=3) K9.nd rfl (Or.inl rfl) Ye)
   (Sh (Cy (A2 So (Ba M8 (Az ((Jo T).mono (by decide)) hr rfl T.Lx T.Ks.kp T.L7 .nil Bh (Aa (pv 1) (Aa Aj Ae))) Aj) Aj (A6 _)) (Ag (Og Aht rfl (uk rfl T.Nz (Aa Aj Ae)) (C5 (i:=4) K9.nd rfl (Or.inl rfl)) (Af (Be (i:=5) K9.nd rfl (Or.inl rfl) (Ba Sg (Ba Sg Ce (Hk sy Ce (Ba Vp (pv 4) Aj) (λ_ _=>rfl))) (Hk sy Ce (Ba M8 (pv 4) Aj) (λ_ _=>rfl))))
   (Af (De (Bw (n:=3) (D:=λC R=>(C=a.A3/\R=λx vs H Q=>(Pa (ad a) a.Ap a.Ad a.Ao) (x::(vs++([]:List V))) H Q (λ_ _ _=>False))) (pv 2) (by rintro C R ⟨rfl,rfl⟩<;>first|exact⟨T.Bm,_,_,_,_,_,_,_,_,_,_,T.T3,(T2 T).mono (by decide),hr,T.Vk,.nil,Ad6,λ_ _ _ _ _ h=>h⟩) (Aa (pv 5) (Aa (pv 4) (Aa (Ba Cd (pv 4) Aj) Ae)))))
   (Ag (Mx (L8 hr) (pv 3) (pv 5) Aj rfl)))))) Bd)
   (Af (Og Aht rfl (Pr (K:=K) rfl (j5 (xt (K:=K) rfl) (pv 0) (Zr Aj) (Zr Aj))) (C5 (i:=6) K9.nd rfl (Or.inl rfl)) (Af (Be (i:=7) K9.nd rfl (Or.inl rfl) (Ba M8 (Az ((Jo T).mono (by decide)) hr rfl T.Lx T.Ks.kp T.L7 .nil Bh (Aa (pv 1) (Aa (pv 6) Ae))) Aj))
   (Af (Be (i:=5) K9.nd rfl (Or.inl rfl) (Hk (Kg (K:=K) rfl) (Oh (O3 [.str "me",.str "mee",.str "m",.str "mf"] (by decide+kernel))) (Ba M8 (Az ((Jo T).mono (by decide)) hr rfl T.Lx T.Ks.kp T.L7 .nil Bh (Aa (pv 1) (Aa Aj Ae))) Aj) (λ_ _=>rfl)))
   (Af (Be (i:=8) K9.nd rfl (Or.inl rfl) (L5 Vm (Ba M8 (Az ((Jo T).mono (by decide)) hr rfl T.Lx T.Ks.kp T.L7 .nil Bh (Aa (pv 1) (Aa Aj Ae))) Aj) Aj (A6 _)))
   (Sh (Cy (N8 (L1 (pv 8))) (Ag (Be (i:=5) K9.nd rfl (Or.inl rfl) (Hk (Kg (K:=K) rfl) (Oh (O3 [.str "",.str "Me",.str "4me",.str "memememem",.str "m e",.str "m_",.str "m-e",.str "me "] (by decide+kernel))) (Ba M8 (Az ((Jo T).mono (by decide)) hr rfl T.Lx T.Ks.kp T.L7 .nil Bh (Aa (pv 1) (Aa Aj Ae))) Aj) (λ_ _=>rfl)))) Bd)
   (Af (Be (i:=9) K9.nd rfl (Or.inl rfl) (Hk (Kg (K:=K) rfl) (Oh (O3 [.int 0,.int 1439,.int 1440,.int (-1),.int 600,.int 600] (by decide+kernel))) (Ba M8 (Az ((Jo T).mono (by decide)) hr rfl T.Lx T.Ks.kp T.L7 .nil Bh (Aa (pv 1) (Aa Aj Ae))) Aj) (λ_ _=>rfl)))
   (Af (Be (i:=10) K9.nd rfl (Or.inl rfl) (Hk (Kg (K:=K) rfl) (Oh (O3 [.int 1,.int 10080,.int 10081,.int 0,.int 60,.int 60,.int (-5)] (by decide+kernel))) (Ba M8 (Az ((Jo T).mono (by decide)) hr rfl T.Lx T.Ks.kp T.L7 .nil Bh (Aa (pv 1) (Aa Aj Ae))) Aj) (λ_ _=>rfl)))
   (Af (Be (i:=11) K9.nd rfl (Or.inl rfl) (Az ((kh T).mono (by decide)) hr rfl T.uo T.cf.kp T.p9 .nil Bh (Aa (pv 3) (Aa (pv 7) (Aa (pv 5) (Aa (pv 9) (Aa (pv 10) (Aa (pv 8) Ae))))))))
   (Af (Be (i:=12) K9.nd rfl (Or.inl rfl) (Oh (Aa (Pb (D:=λC R=>(C=a.A3/\R=λx vs H Q=>(Ki (ad a)) (x::(vs++([]:List V))) H Q E0)) (pv 2) (by rintro C R ⟨rfl,rfl⟩<;>first|exact⟨T.Bm,_,_,_,_,_,_,_,_,_,_,T.Mw,(Mv T).mono (by decide),hr,T.Nv,.nil,Bh,λ_ _ _ _ _ h=>h⟩)) (Aa (Bw (n:=2) (D:=λC R=>(C=a.A3/\R=λx vs H Q=>(Nn (ad a)) (x::(vs++([]:List V))) H Q E0)) (pv 2) (by rintro C R ⟨rfl,rfl⟩<;>first|exact⟨T.Bm,_,_,_,_,_,_,_,_,_,_,T.R0,(Q1 T).mono (by decide),hr,T.Tt,.nil,Bh,λ_ _ _ _ _ h=>h⟩) (O3 [.int 0,.int 20000] (by decide+kernel))) Ae))))
   (Sh (Cy (PW.pt (Ts (A2 Vm (wb (L8 hr) (pv 3) (pv 5) Aj ⟨rfl,rfl,rfl,rfl⟩) Aj (A6 _)) (Ox (A2 Vm (pv 7) Aj (A6 _))))) (Ag (Be (i:=11) K9.nd rfl (Or.inl rfl) Ce)) Bd)
   (Sh (Cy (A2 Acr (Az ((bh T).mono (by decide)) hr rfl T.gu T.Wc.kp T.ie .nil Bh (Aa (pv 2) (Aa (pv 7) (Aa (pv 5) (Aa (pv 9) (Aa (pv 10) Ae)))))) (pv 11) (A6 _)) (Ag (A8 Z3)) Bd)
   (Sh (Cy (PW.pt (Ts (A2 Acr (pv 11) Ce (A6 _)) (Ox (A2 (Aao (hu4 hr)) (Oh (Aa (Pb (D:=λC R=>(C=a.A3/\R=λx vs H Q=>(Ki (ad a)) (x::(vs++([]:List V))) H Q E0)) (pv 2) (by rintro C R ⟨rfl,rfl⟩<;>first|exact⟨T.Bm,_,_,_,_,_,_,_,_,_,_,T.Mw,(Mv T).mono (by decide),hr,T.Nv,.nil,Bh,λ_ _ _ _ _ h=>h⟩)) (Aa (Bw (n:=2) (D:=λC R=>(C=a.A3/\R=λx vs H Q=>(Nn (ad a)) (x::(vs++([]:List V))) H Q E0)) (pv 2) (by rintro C R ⟨rfl,rfl⟩<;>first|exact⟨T.Bm,_,_,_,_,_,_,_,_,_,_,T.R0,(Q1 T).mono (by decide),hr,T.Tt,.nil,Bh,λ_ _ _ _ _ h=>h⟩) (O3 [.int 0,.int 20000] (by decide+kernel))) Ae))) (pv 12) (A6 _))))) (Ag (A8 Z3)) Bd)
   (Sh (Cy (PW.pt (Ts (A2 So (pv 11) Ce (A6 _)) (Ox (A2 M5 (pv 7) Aj (A6 _))))) (Ag (Mx (L8 hr) (pv 3) (pv 5) (A5 Cp rfl T.Np (by decide+kernel) (Aa (L5 M5 (pv 7) Aj (A6 _)) Ae)) rfl)) (Ag (Cy (PW.pt (Ts (A2 So (pv 11) Ce (A6 _)) (Ox (A2 So (pv 7) Aj (A6 _))))) (Ag (De (iw (pv 3) (pv 5) ⟨rfl,rfl,rfl,rfl⟩))) (Ag (Cy (A2 So (pv 11) Ce (A6 _)) (Ag (Mx (L8 hr) (pv 3) (pv 5) (Ba Cd (gd (L8 hr) (pv 3) (pv 5) (λ_ _=>rfl)) Aj) rfl)) Bd)))))
   (Ag (Cy (A2 (Aas (hu2 hr)) (Pb (D:=λC R=>(C=a.A3/\R=λx vs H Q=>(Ki (ad a)) (x::(vs++([]:List V))) H Q E0)) (pv 2) (by rintro C R ⟨rfl,rfl⟩<;>first|exact⟨T.Bm,_,_,_,_,_,_,_,_,_,_,T.Mw,(Mv T).mono (by decide),hr,T.Nv,.nil,Bh,λ_ _ _ _ _ h=>h⟩)) (Ax Y7 rfl T.Le (by decide+kernel) (Aa (A5 (gx rfl) rfl T.Tg (by decide+kernel) (Aa (pv 3) Ae)) Ae)) (A6 _)) (Ag (A8 Z3)) Bd)))))))))))))))
   (Ag (A8 Z3))))))),?_⟩
  refine⟨_,rfl,sa,ns,_,rfl,hS,by decide,λv0=>⟨_,_,rfl,rfl,(by show(0:Int)<2147483646;decide),_,_,rfl,rfl,(by show 1<=sizeLine;decide),λL hL=>?_⟩⟩
  have r0:Rg (1+v0%2147483646):=⟨by have:=Aie v0 (show(2147483646:Int)≠0 by decide);lia,by have:=Ah7 v0 (show(0:Int)<2147483646 by decide);lia⟩
  have uL:=Ah (o:=.lst [.int (1+v0%2147483646)]) hL
  have hL1:(upd H L (.lst [.int (1+v0%2147483646)])) L=some (.lst [.int (1+v0%2147483646)]):=Ac
  show vv _ _ _ _ (upd H L (.lst [.int (1+v0%2147483646)]))
  generalize upd H L (.lst [.int (1+v0%2147483646)])=H0 at uL hL1 ⊢
  refine λb db nb ndb neb=>⟨b,db,rfl,Ac,λd hd=>⟨rfl,?_⟩⟩
  refine λp hp=>?_
  obtain⟨S1,hB1,ndp,hd0,hpn⟩:=v3 (A:=ad a) nb ndb neb hd hp
  have hp0:(upd (upd (upd (upd (upd H0 db (.own b)) b (.ins a.A3 db [])) d (.dK [])) b (.ins a.A3 db [("by_name",.ref d)])) p (.dK [])) p=some (.dK []):=Ac
  show Ae8 _ _ _ _ (upd (upd (upd (upd (upd H0 db (.own b)) b (.ins a.A3 db [])) d (.dK [])) b (.ins a.A3 db [("by_name",.ref d)])) p (.dK []))
  generalize upd (upd (upd (upd (upd H0 db (.own b)) b (.ins a.A3 db [])) d (.dK [])) b (.ins a.A3 db [("by_name",.ref d)])) p (.dK [])=H1 at S1 hB1 hp0 ⊢
  have hd1:=uL.free hd0
  have hp1:=uL.free hpn
  have SH1:=uL.trans S1
  have I1:LI (ad a) H1 b d p L [] (1+v0%2147483646):=⟨hB1,hp0,S1 _ _ hL1,r0,ndp⟩
  refine⟨λσ H'=>Same H H'/\∃(xs:List TH)(s':Int),LI (ad a) H' b d p L xs s'/\∃y4 y5,σ=[some (.ref sa),some (.ref L),some (.ref b),some (.ref p),y4,y5,none,none,none,none,none,none,none],?_,?_⟩
  ·
   refine⟨_,rfl,L,_,_,rfl,I1.st,r0,λs1 v1 h1 w1=>⟨_,_,rfl,rfl,(by show(0:Int)<4;decide),rfl,_,rfl,?_⟩⟩
   have sx2:SameX L H1 (upd H1 L (.lst [.int s1])):=Ej
   have I2:=I1.stt sx2 Ac h1
   have SH2:Same H (upd H1 L (.lst [.int s1])):=sx0 hL SH1 sx2
   generalize upd H1 L (.lst [.int s1])=H2 at sx2 I2 SH2
   refine Jn (λ_=>?_) (λ_=>⟨SH2,[],s1,I2,_,_,rfl⟩)
   refine⟨_,rfl,by decide,by decide,?_⟩
   refine Vn (n:=38) (λi σ H'=>Same H H'/\∃(xs:List TH),LI (ad a) H' b d p L xs s1/\xs.map thN=(List.range i).map nmK/\∃y4 y5,σ=[some (.ref sa),some (.ref L),some (.ref b),some (.ref p),y4,y5,none,none,none,none,none,none,none]) ⟨SH2,[],I2,rfl,_,_,rfl⟩ ?_ ?_
   ·
    rintro i σ H3 hi ⟨SH3,xs,I3,hxs,y4,y5,rfl⟩
    have e1:atI ("abcdefghij":Str).cps.toList ((0+(i:Int))/10)=some (97+i/10):=by
     rw[show(0+(i:Int))/10=((i/10:Nat):Int) by lia]
     exact Afd _ (by lia)
    have e2:atI ("abcdefghij":Str).cps.toList ((0+(i:Int))%10)=some (97+i%10):=by
     rw[show(0+(i:Int))%10=((i%10:Nat):Int) by lia]
     exact Afd _ (by lia)
    have nsz:∀i:Nat,i<38->(Str.ofString "t").length+(⟨#[97+i/10]⟩:Str).length<=10/\((Str.ofString "t")++(⟨#[97+i/10]⟩:Str)).length+(⟨#[97+i%10]⟩:Str).length<=10:=by decide+kernel
    refine⟨_,rfl,_,_,rfl,rfl,⟨by decide,by decide⟩,_,_,_,rfl,rfl,by decide+kernel,e1,_,_,rfl,rfl,Ag1 (nsz i hi).1 (by decide),?_⟩
    refine⟨_,rfl,_,_,rfl,rfl,(by show(0:Int)<10;decide),_,_,_,rfl,rfl,by decide+kernel,e2,_,_,rfl,rfl,Ag1 (nsz i hi).2 (by decide),?_⟩
    have nin:¬nmK i∈xs.map thN:=λw=>by
     rw[hxs] at w
     have nd:=Acg.sublist ((List.range_sublist.mpr (show i+1<=38 by lia)).map nmK)
     rw[List.range_succ,Ahg,List.nodup_append] at nd
     exact nd.2.2 _ w _ (List.mem_singleton.mpr rfl) rfl
    have hxl:xs.length=i:=by
     have:=Ahb List.length hxs
     rw[Agd,Agd,Ahl] at this
     exact this
    have q0:Tj xs (nmK i)=0:=om (by lia) (zd i hi).1 nin
    obtain⟨db3,hb3⟩:=I3.bk.ins
    refine⟨_,rfl,b,_,db3,_,_,rfl,hb3,rfl,⟨rfl,rfl⟩,_,rfl,_,rfl,_,rfl,_,_,rfl,rfl,rfl,[d,p],b,d,xs,nmK i,0+i,0+i+1,rfl,I3.bk,(zd i hi).2,by lia,λ_ o H9 sx9 hB9=>?_,λh=>absurd (h.symm.trans q0) (by decide),λh=>absurd (h.symm.trans q0) (by decide),λh=>absurd (h.symm.trans q0) (by decide)⟩
    have hp9:=sx9 _ _ I3.dp.symm I3.pl
    refine⟨_,rfl,_,rfl,p,_,rfl,DPut.k (k:=Sum.inr (nmK i)) hp9 (by rw[O0];exact Ag2 I3.bk.few (by decide)),?_⟩
    rw[sr (o:=o) (t:=.on (0+i) (0+i+1)) nin (yv _ _).symm]
    refine⟨λc o' e'=>?_,_,I3.put sx9 hB9,by rw[Ahg,hxs,List.range_succ,Ahg];rfl,_,_,rfl⟩
    rw[Ak (Au e' hp1)]
    exact sx9 _ _ (Au e' hd1) (SH3 _ _ e')
   ·
    rintro σ H3 ⟨SH3,xs,I3,_,y4,y5,rfl⟩
    exact⟨SH3,xs,s1,I3,_,_,rfl⟩
  rintro _ H2 ⟨S2,xs0,s2,I2,y4,y5,rfl⟩
  refine⟨_,rfl,_,rfl,_,rfl,sa,_,rfl,S2.seq hS,λcl hcl=>⟨cl,rfl,⟨_,SqL.of Ac⟩,?_⟩⟩
  obtain⟨cs,el,hc2⟩:=Acy V.int ns (some 1) (some 30)
  rw[el]
  have hclL:cl≠L:=λz=>by rw[z,I2.st] at hcl;cases hcl
  refine O7 (H0:=λb'=>if b'=cl then some (.lst (cs.map V.int)) else none) (Po (K:=K) (SqL.of (if_pos rfl))) (λi σ H'=>H' cl=some (.lst (cs.map V.int))/\∃(xs:List TH)(s:Int),LI (ad a) H' b d p L xs s/\∃y4 y5 y6 y7 y8 y9 y10 y11 y12,σ=[some (.ref sa),some (.ref L),some (.ref b),some (.ref p),y4,y5,y6,y7,y8,y9,y10,y11,y12]) ⟨Ac,xs0,s2,I2.up (Ah hcl),_,_,_,_,_,_,_,_,_,rfl⟩ (λj σ H' _ h b' o' e'=>?_) ?_ ?_
  ·
   by_cases eb:b'=cl
   ·
    subst eb
    have e':some (HO.lst (cs.map V.int))=some o':=by rw[←e'];exact(if_pos rfl).symm
    rw[←e']
    exact h.1
   ·
    have e':(none:Option HO)=some o':=by rw[←e'];exact(if_neg eb).symm
    cases e'
  ·
   rintro i x σ H3 hx ⟨hc3,xs,s3,I3,z4,z5,z6,z7,z8,z9,z10,z11,z12,rfl⟩
   rw[Agz] at hx
   obtain⟨c,hc,rfl⟩:=Ahc.mp hx
   refine⟨_,rfl,_,rfl,L,s3,_,rfl,I3.st,I3.rg,λs4 v4 h4 w4=>⟨_,_,rfl,rfl,(by show(0:Int)<8;decide),?_⟩⟩
   have sx4:SameX L H3 (upd H3 L (.lst [.int s4])):=Ej
   have I4:=I3.stt sx4 Ac h4
   have hc4:=sx4 _ _ hclL hc3
   generalize upd H3 L (.lst [.int s4])=H4 at sx4 I4 hc4
   refine⟨(by show 4<=sizeLine;decide),λl5 hl5=>⟨_,rfl,L,s4,_,rfl,Ah hl5 _ _ I4.st,I4.rg,λs5 v5 h5 w5=>⟨_,_,rfl,rfl,(by show(0:Int)<4;decide),?_⟩⟩⟩
   have nl5:l5≠L:=λe=>by rw[e,I4.st] at hl5;cases hl5
   obtain⟨nm0,hn5,ea5⟩:=jo (ts:=(["me","mee","m","mf"]:List Str)) (i:=v5%4) (Aie v5 (show(4:Int)≠0 by decide)) (Ah7 v5 (show(0:Int)<4 by decide))
   refine⟨l5,_,_,_,rfl,rfl,SqL.of (by rw[Ak nl5];exact Ac),ea5,?_⟩
   have sxH5:SameX L H4 (upd (upd H4 l5 (.lst [.str "me",.str "mee",.str "m",.str "mf"])) L (.lst [.int s5])):=(SameX.of (Ah hl5)).tr Ej
   have IH5:=I4.stt sxH5 Ac h5
   have hcH5:=sxH5 _ _ hclL hc4
   generalize upd (upd H4 l5 (.lst [.str "me",.str "mee",.str "m",.str "mf"])) L (.lst [.int s5])=H5 at sxH5 IH5 hcH5
   refine⟨_,rfl,L,s5,_,rfl,IH5.st,IH5.rg,λs6 v6 h6 w6=>⟨_,_,rfl,rfl,(by show(0:Int)<9;decide),_,_,rfl,rfl,?_⟩⟩
   have sx6:SameX L H5 (upd H5 L (.lst [.int s6])):=Ej
   have I6:=IH5.stt sx6 Ac h6
   have hc6:=sx6 _ _ hclL hcH5
   generalize upd H5 L (.lst [.int s6])=H6 at sx6 I6 hc6
   refine⟨λσ H'=>H' cl=some (.lst (cs.map V.int))/\∃(nm:Str)(s:Int),nm.length<=1000/\(Jk nm.cps.toList=true->nm∈NM4)/\LI (ad a) H' b d p L xs s/\σ=[some (.ref sa),some (.ref L),some (.ref b),some (.ref p),z4,some (.str nm),some (.int c),some (.int (v4%8)),some (.bl (Jk nm.cps.toList)),z9,z10,z11,z12],?_,?_⟩
   ·
    have ok0:=Acd nm0 hn5
    refine⟨_,rfl,_,rfl,?_⟩
    refine Jn (λz=>?_) (λz=>?_)
    ·
     refine⟨(by show 8<=sizeLine;decide),λl7 hl7=>⟨_,rfl,L,s6,_,rfl,Ah hl7 _ _ I6.st,I6.rg,λs7 v7 h7 w7=>⟨_,_,rfl,rfl,(by show(0:Int)<8;decide),?_⟩⟩⟩
     have nl7:l7≠L:=λe=>by rw[e,I6.st] at hl7;cases hl7
     obtain⟨nm1,hn7,ea7⟩:=jo (ts:=(["","Me","4me","memememem","m e","m_","m-e","me "]:List Str)) (i:=v7%8) (Aie v7 (show(8:Int)≠0 by decide)) (Ah7 v7 (show(0:Int)<8 by decide))
     refine⟨l7,_,_,_,rfl,rfl,SqL.of (by rw[Ak nl7];exact Ac),ea7,?_⟩
     have sxH7:SameX L H6 (upd (upd H6 l7 (.lst [.str "",.str "Me",.str "4me",.str "memememem",.str "m e",.str "m_",.str "m-e",.str "me "])) L (.lst [.int s7])):=(SameX.of (Ah hl7)).tr Ej
     have IH7:=I6.stt sxH7 Ac h7
     have hcH7:=sxH7 _ _ hclL hc6
     generalize upd (upd H6 l7 (.lst [.str "",.str "Me",.str "4me",.str "memememem",.str "m e",.str "m_",.str "m-e",.str "me "])) L (.lst [.int s7])=H7 at sxH7 IH7 hcH7
     have ok1:=Adi nm1 hn7
     refine⟨hcH7,nm1,s7,ok1.2,λe=>absurd (ok1.1.symm.trans e) (by decide),IH7,?_⟩
     have ez:decide ((0:Int)<v6%9)=false:=by
      rw[←Aly]
      exact z
     show[some (V.ref sa),some (V.ref L),some (V.ref b),some (V.ref p),z4,some (V.str nm1),some (V.int c),some (V.int (v4%8)),some (V.bl (decide ((0:Int)<v6%9))),z9,z10,z11,z12]=_
     rw[ez,ok1.1]
    ·
     refine⟨hc6,nm0,s6,ok0.2,λ_=>hn5,I6,?_⟩
     have ez:decide ((0:Int)<v6%9)=true:=by
      cases e:decide ((0:Int)<v6%9)
      · exact absurd (show(!decide ((0:Int)<v6%9))=true by rw[e];rfl) z
      · rfl
     show[some (V.ref sa),some (V.ref L),some (V.ref b),some (V.ref p),z4,some (V.str nm0),some (V.int c),some (V.int (v4%8)),some (V.bl (decide ((0:Int)<v6%9))),z9,z10,z11,z12]=_
     rw[ez,ok0.1]
   rintro _ H7 ⟨hc7,nm,s7,hnl,h4,I7,rfl⟩
   have k8:0<=v4%8/\v4%8<8:=⟨Aie v4 (by decide),Ah7 v4 (by decide)⟩
   generalize v4%8=kd at k8 ⊢
   refine⟨(by show 6<=sizeLine;decide),λl8 hl8=>⟨_,rfl,L,s7,_,rfl,Ah hl8 _ _ I7.st,I7.rg,λs8 v8 h8 w8=>⟨_,_,rfl,rfl,(by show(0:Int)<6;decide),?_⟩⟩⟩
   have nl8:l8≠L:=λe=>by rw[e,I7.st] at hl8;cases hl8
   obtain⟨mi,hn8,ea8⟩:=Yc (ts:=([0,1439,1440,(-1),600,600]:List Int)) (i:=v8%6) (Aie v8 (show(6:Int)≠0 by decide)) (Ah7 v8 (show(0:Int)<6 by decide))
   refine⟨l8,_,_,_,rfl,rfl,SqL.of (by rw[Ak nl8];exact Ac),ea8,?_⟩
   have sxH8:SameX L H7 (upd (upd H7 l8 (.lst [.int 0,.int 1439,.int 1440,.int (-1),.int 600,.int 600])) L (.lst [.int s8])):=(SameX.of (Ah hl8)).tr Ej
   have IH8:=I7.stt sxH8 Ac h8
   have hcH8:=sxH8 _ _ hclL hc7
   generalize upd (upd H7 l8 (.lst [.int 0,.int 1439,.int 1440,.int (-1),.int 600,.int 600])) L (.lst [.int s8])=H8 at sxH8 IH8 hcH8
   refine⟨(by show 7<=sizeLine;decide),λl9 hl9=>⟨_,rfl,L,s8,_,rfl,Ah hl9 _ _ IH8.st,IH8.rg,λs9 v9 h9 w9=>⟨_,_,rfl,rfl,(by show(0:Int)<7;decide),?_⟩⟩⟩
   have nl9:l9≠L:=λe=>by rw[e,IH8.st] at hl9;cases hl9
   obtain⟨le,hn9,ea9⟩:=Yc (ts:=([1,10080,10081,0,60,60,(-5)]:List Int)) (i:=v9%7) (Aie v9 (show(7:Int)≠0 by decide)) (Ah7 v9 (show(0:Int)<7 by decide))
   refine⟨l9,_,_,_,rfl,rfl,SqL.of (by rw[Ak nl9];exact Ac),ea9,?_⟩
   have sxH9:SameX L H8 (upd (upd H8 l9 (.lst [.int 1,.int 10080,.int 10081,.int 0,.int 60,.int 60,.int (-5)])) L (.lst [.int s9])):=(SameX.of (Ah hl9)).tr Ej
   have IH9:=IH8.stt sxH9 Ac h9
   have hcH9:=sxH9 _ _ hclL hcH8
   generalize upd (upd H8 l9 (.lst [.int 1,.int 10080,.int 10081,.int 0,.int 60,.int 60,.int (-5)])) L (.lst [.int s9])=H9 at sxH9 IH9 hcH9
   refine⟨_,rfl,_,rfl,_,rfl,_,rfl,_,rfl,_,rfl,p,xs,kd,nm,mi,le,_,rfl,IH9.pl,IH9.bk.nd,rfl,?_⟩
   obtain⟨db9,hb9⟩:=IH9.bk.ins
   refine⟨_,rfl,b,_,db9,_,_,rfl,hb9,rfl,⟨rfl,rfl⟩,[d,p],b,d,xs,rfl,IH9.bk,λt1 ms1 ht1 hp1 hs1=>?_⟩
   have u1:=Ah (o:=.lst (ms1.map V.str)) ht1
   have hl1:LsAt (upd H9 t1 (.lst (ms1.map V.str))) t1 (ms1.map λm=>.inl (.inr m)):=⟨_,Ac,Vx ms1⟩
   have Ia:=IH9.up u1
   have hca:=u1 _ _ hcH9
   generalize upd H9 t1 (.lst (ms1.map V.str))=Ha at u1 hl1 Ia hca
   obtain⟨dba,hba⟩:=Ia.bk.ins
   refine⟨_,rfl,b,_,dba,_,_,rfl,hba,rfl,⟨rfl,rfl⟩,rfl,[d,p],b,d,xs,rfl,Ia.bk,λt2 qs1 Hb' sb' ht2 hT2 nd2 hm2 hr2=>⟨(by show 2<=sizeLine;decide),λla hla=>?_⟩⟩
   have u2:=sb'.trans (Ah (o:=.lst [.ref t1,.ref t2]) hla)
   have hlb:(upd Hb' la (.lst [.ref t1,.ref t2])) la=some (.lst [.ref t1,.ref t2]):=Ac
   have hl2:LsAt (upd Hb' la (.lst [.ref t1,.ref t2])) t2 (qs1.map λx=>.inr x.1):=(hT2.up (Ah hla)).ls
   have Ib:=Ia.up u2
   have hcb:=u2 _ _ hca
   have hl1:=hl1.up u2
   generalize upd Hb' la (.lst [.ref t1,.ref t2])=Hb at u2 hlb hl2 Ib hcb hl1
   refine⟨λσ H'=>Hb=H'/\σ=[some (.ref sa),some (.ref L),some (.ref b),some (.ref p),z4,some (.str nm),some (.int c),some (.int kd),some (.bl (Jk nm.cps.toList)),some (.int mi),some (.int le),some (.str (Te xs kd nm mi le)),some (.ref la)],?_,?_⟩
   ·
    refine⟨_,rfl,p,rfl,.inl ⟨_,.inl Ib.pl⟩,_,rfl,_,DGet.k (k:=Sum.inr nm) Ib.pl,?_⟩
    rw[Aag Ib.bk.nd]
    refine⟨_,_,rfl,rfl,_,rfl,?_⟩
    refine Jn (λz=>?_) (λz=>?_)
    ·
     refine⟨_,rfl,_,_,rfl,rfl,_,rfl,?_⟩
     refine Jn (λz2=>?_) (λz2=>?_)
     ·
      refine⟨rfl,?_⟩
      rw[i4 (Agf z2) (Agf z)]
      rfl
     ·
      refine⟨rfl,?_⟩
      rw[show Te xs kd nm mi le=vq xs kd nm mi le by unfold Te;rw[if_neg λw=>z2 (Age w.2)]]
      rfl
    ·
     refine M0 ⟨rfl,?_⟩
     rw[show Te xs kd nm mi le=vq xs kd nm mi le by unfold Te;rw[if_neg λw=>z (Age w.1)]]
     rfl
   rintro _ _ ⟨rfl,rfl⟩
   refine⟨λσ H'=>σ=[some (.ref sa),some (.ref L),some (.ref b),some (.ref p),z4,some (.str nm),some (.int c),some (.int kd),some (.bl (Jk nm.cps.toList)),some (.int mi),some (.int le),some (.str (Te xs kd nm mi le)),some (.ref la)]/\((Te xs kd nm mi le≠""/\Same Hb H')∨(Te xs kd nm mi le=""/\SameX d Hb H'/\∃xs',BookAt (ad a) [d,p] H' b d xs'/\Nxt xs kd nm xs')),?_,?_⟩
   ·
    refine⟨_,rfl,_,rfl,_,rfl,_,rfl,_,rfl,[d,p],b,d,xs,kd,nm,mi,le,rfl,Ib.bk,hnl,h4,λhne H' s'=>?_,λheq xs' H' sx' hB' hN=>?_⟩
    ·
     refine⟨_,rfl,rfl,_,rfl,Ada rfl ?_⟩
     exact⟨rfl,.inl ⟨hne,s'⟩⟩
    ·
     refine⟨_,rfl,rfl,_,rfl,Ada (Ahb V.str heq.symm) ?_⟩
     exact⟨rfl,.inr ⟨heq,sx',xs',hB',hN⟩⟩
   rintro _ Hc ⟨rfl,hcase⟩
   refine⟨λσ H'=>σ=[some (.ref sa),some (.ref L),some (.ref b),some (.ref p),z4,some (.str nm),some (.int c),some (.int kd),some (.bl (Jk nm.cps.toList)),some (.int mi),some (.int le),some (.str (Te xs kd nm mi le)),some (.ref la)]/\((Te xs kd nm mi le≠""/\Same Hb H')∨(Te xs kd nm mi le=""/\SameX d Hb H'/\∃xs',BookAt (ad a) [d,p] H' b d xs'/\Nxt xs kd nm xs')),?_,?_⟩
   ·
    refine⟨_,rfl,rfl,_,rfl,?_⟩
    rcases hcase with⟨hne,sc⟩|⟨heq,hcase⟩
    ·
     refine Jn (λ_=>?_) (λz=>absurd (show(!decide ((V.str (Te xs kd nm mi le))=V.str ""))=true by rw[Agp (λe=>hne (V.str.inj e))];rfl) z)
     have Ic:=Ib.up sc
     obtain⟨dbc,hbc⟩:=Ic.bk.ins
     refine⟨_,rfl,b,_,dbc,_,_,rfl,hbc,rfl,⟨rfl,rfl⟩,[d,p],b,d,xs,rfl,Ic.bk,λt3 ms3 ht3 hp3 hs3=>?_⟩
     have u3:=Ah (o:=.lst (ms3.map V.str)) ht3
     have hl3:LsAt (upd Hc t3 (.lst (ms3.map V.str))) t3 (ms3.map λm=>.inl (.inr m)):=⟨_,Ac,Vx ms3⟩
     have Ie:=Ic.up u3
     generalize upd Hc t3 (.lst (ms3.map V.str))=He at u3 hl3 Ie
     obtain⟨dbe,hbe⟩:=Ie.bk.ins
     refine⟨_,rfl,b,_,dbe,_,_,rfl,hbe,rfl,⟨rfl,rfl⟩,rfl,[d,p],b,d,xs,rfl,Ie.bk,λt4 qs3 Hf sf ht4 hT4 nd4 hm4 hr4=>⟨(by show 2<=sizeLine;decide),λlb hlb'=>?_⟩⟩
     have uf:=Ah (o:=.lst [.ref t3,.ref t4]) hlb'
     have em:ms3=ms1:=jv (hp3.trans hp1.symm) hs3 hs1
     have eq:qs3.map (·.1)=qs1.map (·.1):=yf nd4 nd2 (λc'=>(hm4 c').trans (hm2 c').symm) hr4 hr2
     have eqq:(qs3.map λx=>(.inr x.1:NK))=qs1.map λx=>.inr x.1:=by
      have:=Ahb (List.map (Sum.inr:List Key->NK)) eq
      rw[Aha,Aha] at this
      exact this
     have S':=((sc.trans u3).trans sf).trans uf
     have hl4:=(hT4.up uf).ls
     rw[eqq] at hl4
     have hl3:=hl3.up (sf.trans uf)
     rw[em] at hl3
     refine⟨_,rfl,lb,la,t3,t4,t1,t2,_,_,rfl,rfl,Ac,S' _ _ hlb,hl3,hl1.up S',hl4,hl2.up S',_,rfl,M0 ?_⟩
     exact⟨rfl,.inl ⟨hne,S'⟩⟩
    ·
     refine Jn (λz=>?_) (λ_=>M0 ⟨rfl,.inr ⟨heq,hcase⟩⟩)
     rw[heq] at z
     exact absurd z (by decide)
   rintro _ Hd ⟨rfl,hcase⟩
   refine⟨λσ H'=>σ=[some (.ref sa),some (.ref L),some (.ref b),some (.ref p),z4,some (.str nm),some (.int c),some (.int kd),some (.bl (Jk nm.cps.toList)),some (.int mi),some (.int le),some (.str (Te xs kd nm mi le)),some (.ref la)]/\H' cl=some (.lst (cs.map V.int))/\∃xs' s',LI (ad a) H' b d p L xs' s',?_,?_⟩
   ·
    refine⟨_,rfl,rfl,_,rfl,?_⟩
    rcases hcase with⟨hne,sd⟩|⟨heq,sd,xs',hB',hN⟩
    ·
     refine Jn (λz=>absurd (V.str.inj (Agf z)) hne) (λ_=>M0 ?_)
     refine⟨_,rfl,rfl,_,rfl,?_⟩
     refine Jn (λz=>absurd (V.str.inj (Agf z)) hne) (λ_=>M0 ?_)
     refine⟨_,rfl,rfl,_,rfl,?_⟩
     refine Jn (λz=>absurd (V.str.inj (Agf z)) hne) (λ_=>?_)
     exact⟨rfl,sd _ _ hcb,xs,_,Ib.up sd⟩
    ·
     refine Jn (λ_=>?_) (λz=>absurd (Age (Ahb V.str heq)) z)
     have hpd:=sd _ _ Ib.dp.symm Ib.pl
     have ncd:cl≠d:=xm hcb Ib.bk.at_ (λz=>nomatch z)
     have ncp:cl≠p:=xm hcb Ib.pl (λz=>nomatch z)
     refine⟨_,rfl,_,_,rfl,rfl,_,rfl,?_⟩
     rcases hN with⟨hk,nin,hl40,o,t,rfl,ec⟩|⟨rfl,hin,rfl⟩|⟨hk,hin,o,t,rfl,ec⟩
     ·
      refine Jn (λ_=>?_) (λz=>absurd (Age hk) z)
      refine⟨_,rfl,_,_,rfl,rfl,.inr ⟨_,rfl,?_⟩⟩
      refine⟨_,rfl,_,rfl,p,_,rfl,DPut.k (k:=Sum.inr nm) hpd (by rw[O0];exact Ag2 Ib.bk.few (by decide)),?_⟩
      have ev:(if decide (kd<3)=true then(1:Int) else 0)=cnt t:=by
       rw[ec]
       by_cases w:kd<3
       · rw[if_pos w,if_pos (Age w)]
       · rw[if_neg w,if_neg (λx=>w (Agf x))]
      rw[sr (o:=o) (t:=t) nin ev]
      exact⟨rfl,by rw[Ak ncp];exact sd _ _ ncd hcb,_,_,Ib.put sd hB'⟩
     ·
      refine M0 ?_
      refine⟨_,rfl,rfl,_,rfl,?_⟩
      refine Jn (λ_=>?_) (λz=>absurd (Age (Ahb V.str heq)) z)
      refine⟨_,rfl,rfl,_,rfl,Nw ?_⟩
      refine⟨_,rfl,p,rfl,.inl ⟨_,.inl hpd⟩,_,rfl,_,Sum.inr nm,_,hpd,rfl,qa Ib.bk.nd hin,?_⟩
      rw[show Z2 (kvP xs) (.inr nm)=kvP (Yd xs nm) from qq]
      exact⟨rfl,by rw[Ak ncp];exact sd _ _ ncd hcb,_,_,Ib.put sd hB'⟩
     ·
      refine Jn (λz=>absurd (Agf z) (by lia)) (λ_=>?_)
      refine⟨_,rfl,rfl,_,rfl,?_⟩
      refine Jn (λ_=>?_) (λz=>absurd (Age (Ahb V.str heq)) z)
      refine⟨_,rfl,rfl,_,rfl,?_⟩
      refine Jn (λz=>absurd (V.int.inj (Agf z)) (by lia)) (λ_=>?_)
      refine⟨_,rfl,rfl,_,rfl,?_⟩
      refine Jn (λ_=>?_) (λz=>absurd (Age (Ahb V.str heq)) z)
      refine⟨_,rfl,_,rfl,p,_,rfl,qa Ib.bk.nd hin▸DGet.k (k:=Sum.inr nm) hpd,_,_,rfl,rfl,?_⟩
      refine⟨_,rfl,_,rfl,p,_,rfl,DPut.k (k:=Sum.inr nm) hpd (by rw[O0];exact Ag2 Ib.bk.few (by decide)),?_⟩
      rw[ye (o:=o) (t:=t) hin ec.symm]
      exact⟨rfl,by rw[Ak ncp];exact sd _ _ ncd hcb,_,_,Ib.put sd hB'⟩
   rintro _ He ⟨rfl,hce,xs',s',Ie⟩
   obtain⟨dbe,hbe⟩:=Ie.bk.ins
   refine⟨_,rfl,b,_,dbe,_,_,rfl,hbe,rfl,⟨rfl,rfl⟩,[d,p],b,d,xs',rfl,Ie.bk,λt5 ms5 ht5 hp5 hs5=>?_⟩
   have u5:=Ah (o:=.lst (ms5.map V.str)) ht5
   have h5':(upd He t5 (.lst (ms5.map V.str))) t5=some (.lst (ms5.map V.str)):=Ac
   have If:=Ie.up u5
   have hcf:=u5 _ _ hce
   generalize upd He t5 (.lst (ms5.map V.str))=Hf at u5 h5' If hcf
   refine⟨_,rfl,p,_,_,rfl,If.pl,sq xs',λt6 ht6=>?_⟩
   refine⟨t6,_,rfl,Ac,by rw[Agd];exact Ag2 If.bk.few (by decide),λt7 ms7 ht7 hp7 hs7=>?_⟩
   have em:ms7=ms5:=jv (hp7.trans hp5.symm) hs7 hs5
   have u7:=(Ah (o:=.lst ((xs'.map thN).map V.str)) ht6).trans (Ah (o:=.lst (ms7.map V.str)) ht7)
   refine⟨t5,t7,ms5.map λm=>.inl (.inr m),rfl,rfl,⟨_,u7 _ _ h5',Vx ms5⟩,⟨_,Ac,by rw[em];exact Vx ms5⟩,_,rfl,M0 ?_⟩
   exact⟨u7 _ _ hcf,_,_,If.up u7,_,_,_,_,_,_,_,_,_,rfl⟩
  rintro σ H9 ⟨hc9,xs,s9,I9,z4,z5,z6,z7,z8,z9,z10,z11,z12,rfl⟩
  exact k _
end
theorem txt_mk {K:W.Frag}{h:Heap}{mg:Str->Option Value}(X:K.In h)(G:h.Ns mainGlobals mg)
  {Aq:Addr}
  {A3:Addr}
  {Ai:Addr}
  {A7:Addr}
  {Bo:Addr}
  {A0:Addr}
  {fq13:Addr} {ocq13 kVq13 dcq13 pmq13 cdq13 ctq13:Value} {odq13 anq13:Option Addr} {slq13:Array (Option Value)}
  {fq1c:Addr} {ocq1c kVq1c dcq1c pmq1c cdq1c ctq1c:Value} {odq1c anq1c:Option Addr} {slq1c:Array (Option Value)}
  {fq1j:Addr} {ocq1j kVq1j dcq1j pmq1j cdq1j ctq1j:Value} {odq1j anq1j:Option Addr} {slq1j:Array (Option Value)}
  {fq1h:Addr} {ocq1h kVq1h dcq1h pmq1h cdq1h ctq1h:Value} {odq1h anq1h:Option Addr} {slq1h:Array (Option Value)}
  {fqo:Addr} {ocqo kVqo dcqo pmqo cdqo ctqo:Value} {odqo anqo:Option Addr} {slqo:Array (Option Value)}
  {fqs:Addr} {ocqs kVqs dcqs pmqs cdqs ctqs:Value} {odqs anqs:Option Addr} {slqs:Array (Option Value)}
  {fqi:Addr} {ocqi dVqi kVqi dcqi pmqi cdqi ctqi:Value} {odqi anqi:Option Addr} {slqi:Array (Option Value)}
  {tqi:Addr} {otqi:Obj} {uqi_0 uqi_1:Tok} {ntqi:Nat}
  {fqq:Addr} {ocqq kVqq dcqq pmqq cdqq ctqq:Value} {odqq anqq:Option Addr} {slqq:Array (Option Value)}
  {fqj:Addr} {ocqj kVqj dcqj pmqj cdqj ctqj:Value} {odqj anqj:Option Addr} {slqj:Array (Option Value)}
  {fq1i:Addr} {ocq1i kVq1i dcq1i pmq1i cdq1i ctq1i:Value} {odq1i anq1i:Option Addr} {slq1i:Array (Option Value)}
  {fq0:Addr} {ocq0 kVq0 dcq0 pmq0 cdq0 ctq0:Value} {odq0 anq0:Option Addr} {slq0:Array (Option Value)}
  {fq2:Addr} {ocq2 kVq2 dcq2 pmq2 cdq2 ctq2:Value} {odq2 anq2:Option Addr} {slq2:Array (Option Value)}
  {fqd:Addr} {ocqd dVqd kVqd dcqd pmqd cdqd ctqd:Value} {odqd anqd:Option Addr} {slqd:Array (Option Value)}
  {tqd:Addr} {otqd:Obj}  {ntqd:Nat}
  {fq8:Addr} {ocq8 kVq8 dcq8 pmq8 cdq8 ctq8:Value} {odq8 anq8:Option Addr} {slq8:Array (Option Value)}
  {fqa:Addr} {ocqa kVqa dcqa pmqa cdqa ctqa:Value} {odqa anqa:Option Addr} {slqa:Array (Option Value)}
  {fqr:Addr} {ocqr dVqr kVqr dcqr pmqr cdqr ctqr:Value} {odqr anqr:Option Addr} {slqr:Array (Option Value)}
  {tqr:Addr} {otqr:Obj} {uqr_0:Tok} {ntqr:Nat}
  {fqv:Addr} {ocqv kVqv dcqv pmqv cdqv ctqv:Value} {odqv anqv:Option Addr} {slqv:Array (Option Value)}
  {fq14:Addr} {ocq14 kVq14 dcq14 pmq14 cdq14 ctq14:Value} {odq14 anq14:Option Addr} {slq14:Array (Option Value)}
  {fqu:Addr} {ocqu kVqu dcqu pmqu cdqu ctqu:Value} {odqu anqu:Option Addr} {slqu:Array (Option Value)}
  {fq1b:Addr} {ocq1b kVq1b dcq1b pmq1b cdq1b ctq1b:Value} {odq1b anq1b:Option Addr} {slq1b:Array (Option Value)}
  {fq1f:Addr} {ocq1f kVq1f dcq1f pmq1f cdq1f ctq1f:Value} {odq1f anq1f:Option Addr} {slq1f:Array (Option Value)}
  {fq1a:Addr} {ocq1a kVq1a dcq1a pmq1a cdq1a ctq1a:Value} {odq1a anq1a:Option Addr} {slq1a:Array (Option Value)}
  {fq1g:Addr} {ocq1g kVq1g dcq1g pmq1g cdq1g ctq1g:Value} {odq1g anq1g:Option Addr} {slq1g:Array (Option Value)}
  {fq1e:Addr} {ocq1e kVq1e dcq1e pmq1e cdq1e ctq1e:Value} {odq1e anq1e:Option Addr} {slq1e:Array (Option Value)}
  {fq11:Addr} {ocq11 kVq11 dcq11 pmq11 cdq11 ctq11:Value} {odq11 anq11:Option Addr} {slq11:Array (Option Value)}
  {fq9:Addr} {ocq9 kVq9 dcq9 pmq9 cdq9 ctq9:Value} {odq9 anq9:Option Addr} {slq9:Array (Option Value)}
  {fqg:Addr} {ocqg kVqg dcqg pmqg cdqg ctqg:Value} {odqg anqg:Option Addr} {slqg:Array (Option Value)}
  {fqb:Addr} {ocqb kVqb dcqb pmqb cdqb ctqb:Value} {odqb anqb:Option Addr} {slqb:Array (Option Value)}
  {fqh:Addr} {ocqh kVqh dcqh pmqh cdqh ctqh:Value} {odqh anqh:Option Addr} {slqh:Array (Option Value)}
  {fql:Addr} {ocql kVql dcql pmql cdql ctql:Value} {odql anql:Option Addr} {slql:Array (Option Value)}
  {fq1:Addr} {ocq1 kVq1 dcq1 pmq1 cdq1 ctq1:Value} {odq1 anq1:Option Addr} {slq1:Array (Option Value)}
  {fq6:Addr} {ocq6 kVq6 dcq6 pmq6 cdq6 ctq6:Value} {odq6 anq6:Option Addr} {slq6:Array (Option Value)}
  {fqm:Addr} {ocqm kVqm dcqm pmqm cdqm ctqm:Value} {odqm anqm:Option Addr} {slqm:Array (Option Value)}
  {fq3:Addr} {ocq3 kVq3 dcq3 pmq3 cdq3 ctq3:Value} {odq3 anq3:Option Addr} {slq3:Array (Option Value)}
  {fq18:Addr} {ocq18 kVq18 dcq18 pmq18 cdq18 ctq18:Value} {odq18 anq18:Option Addr} {slq18:Array (Option Value)}
  {fqn:Addr} {ocqn dVqn kVqn dcqn pmqn cdqn ctqn:Value} {odqn anqn:Option Addr} {slqn:Array (Option Value)}
  {tqn:Addr} {otqn:Obj} {uqn_0:Tok} {ntqn:Nat}
  {fqp:Addr} {ocqp dVqp kVqp dcqp pmqp cdqp ctqp:Value} {odqp anqp:Option Addr} {slqp:Array (Option Value)}
  {tqp:Addr} {otqp:Obj}  {ntqp:Nat}
  {fqw:Addr} {ocqw kVqw dcqw pmqw cdqw ctqw:Value} {odqw anqw:Option Addr} {slqw:Array (Option Value)}
  {fq15:Addr} {ocq15 kVq15 dcq15 pmq15 cdq15 ctq15:Value} {odq15 anq15:Option Addr} {slq15:Array (Option Value)}
  {fqt:Addr} {ocqt kVqt dcqt pmqt cdqt ctqt:Value} {odqt anqt:Option Addr} {slqt:Array (Option Value)}
  {fqf:Addr} {ocqf kVqf dcqf pmqf cdqf ctqf:Value} {odqf anqf:Option Addr} {slqf:Array (Option Value)}
  {fq17:Addr} {ocq17 dVq17 kVq17 dcq17 pmq17 cdq17 ctq17:Value} {odq17 anq17:Option Addr} {slq17:Array (Option Value)}
  {tq17:Addr} {otq17:Obj}  {ntq17:Nat}
  {fq19:Addr} {ocq19 kVq19 dcq19 pmq19 cdq19 ctq19:Value} {odq19 anq19:Option Addr} {slq19:Array (Option Value)}
  {fqz:Addr} {ocqz kVqz dcqz pmqz cdqz ctqz:Value} {odqz anqz:Option Addr} {slqz:Array (Option Value)}
  {fq1d:Addr} {ocq1d dVq1d kVq1d dcq1d pmq1d cdq1d ctq1d:Value} {odq1d anq1d:Option Addr} {slq1d:Array (Option Value)}
  {tq1d:Addr} {otq1d:Obj} {uq1d_0 uq1d_1:Tok} {ntq1d:Nat}
  {fq7:Addr} {ocq7 kVq7 dcq7 pmq7 cdq7 ctq7:Value} {odq7 anq7:Option Addr} {slq7:Array (Option Value)}
  {fqc:Addr} {ocqc kVqc dcqc pmqc cdqc ctqc:Value} {odqc anqc:Option Addr} {slqc:Array (Option Value)}
  {fq10:Addr} {ocq10 kVq10 dcq10 pmq10 cdq10 ctq10:Value} {odq10 anq10:Option Addr} {slq10:Array (Option Value)}
  {fqk:Addr} {ocqk kVqk dcqk pmqk cdqk ctqk:Value} {odqk anqk:Option Addr} {slqk:Array (Option Value)}
  {fq5:Addr} {ocq5 kVq5 dcq5 pmq5 cdq5 ctq5:Value} {odq5 anq5:Option Addr} {slq5:Array (Option Value)}
  {fq4:Addr} {ocq4 kVq4 dcq4 pmq4 cdq4 ctq4:Value} {odq4 anq4:Option Addr} {slq4:Array (Option Value)}
  {fqe:Addr} {ocqe kVqe dcqe pmqe cdqe ctqe:Value} {odqe anqe:Option Addr} {slqe:Array (Option Value)}
  {fq12:Addr} {ocq12 kVq12 dcq12 pmq12 cdq12 ctq12:Value} {odq12 anq12:Option Addr} {slq12:Array (Option Value)}
  {fqx:Addr} {ocqx kVqx dcqx pmqx cdqx ctqx:Value} {odqx anqx:Option Addr} {slqx:Array (Option Value)}
  {fqy:Addr} {ocqy kVqy dcqy pmqy cdqy ctqy:Value} {odqy anqy:Option Addr} {slqy:Array (Option Value)}
  {fq16:Addr} {ocq16 kVq16 dcq16 pmq16 cdq16 ctq16:Value} {odq16 anq16:Option Addr} {slq16:Array (Option Value)}
  {fq1k:Addr} {ocq1k kVq1k dcq1k pmq1k cdq1k ctq1k:Value} {odq1k anq1k:Option Addr} {slq1k:Array (Option Value)}
  {t_DAYS:Tok}
  {t_DAY_MINUTES:Tok}
  {t_FIGURES:Tok}
  {t_LETTERS:Tok}
  {t_MOST_CHANGES:Tok}
  {t_MOST_EXCEPTIONS:Tok}
  {t_MOST_LENGTH:Tok}
  {t_MOST_OFFSET:Tok}
  {t_MOST_THINGS:Tok}
  {t_NAME_SIGNS:Tok}
  {Ni:Addr}
  {Fl:Addr}
  {Ap:Addr}
  {Bb:Addr}
  {Ao:Addr}
  {Jr:Addr}
  {Fi:Addr}
  {Cm:Addr}
  {Bx:Addr}
  {Dp:Addr}
  {Fu:Addr}
  {Am:Addr}
  {Fs:Addr}
  {Ad:Addr}
  {Fv:Addr}
  (aC_Again:W.nsIn K mainGlobals "Again"=some (some (.ref Aq)))
  (pg_Again:W.plainGet K Aq Str.empty=true)
  (hd_Again:W.hasDictIn K Aq=true)
  (po_Again:W.plainOver K Aq=true)
  (sa_Again:W.findIn K (.ref Aq) "__setattr__"=some (some (.builtin "object.__setattr__")))
  (Pl:W.makesIn K Aq=true)
  (kc_Again:W.keepIn K (.ref Aq)=true)
  (nf_rule_Again:W.findIn K (.ref Aq) "rule"=some none)
  (nf_place_Again:W.findIn K (.ref Aq) "place"=some none)
  (nf_minute_Again:W.findIn K (.ref Aq) "minute"=some none)
  (nf_length_Again:W.findIn K (.ref Aq) "length"=some none)
  (nf_exceptions_Again:W.findIn K (.ref Aq) "exceptions"=some none)
  (aC_Book:W.nsIn K mainGlobals "Book"=some (some (.ref A3)))
  (pg_Book:W.plainGet K A3 Str.empty=true)
  (hd_Book:W.hasDictIn K A3=true)
  (po_Book:W.plainOver K A3=true)
  (sa_Book:W.findIn K (.ref A3) "__setattr__"=some (some (.builtin "object.__setattr__")))
  (Wv:W.makesIn K A3=true)
  (kc_Book:W.keepIn K (.ref A3)=true)
  (nf_by_name_Book:W.findIn K (.ref A3) "by_name"=some none)
  (aC_Changed:W.nsIn K mainGlobals "Changed"=some (some (.ref Ai)))
  (pg_Changed:W.plainGet K Ai Str.empty=true)
  (hd_Changed:W.hasDictIn K Ai=true)
  (po_Changed:W.plainOver K Ai=true)
  (sa_Changed:W.findIn K (.ref Ai) "__setattr__"=some (some (.builtin "object.__setattr__")))
  (Ng:W.makesIn K Ai=true)
  (kc_Changed:W.keepIn K (.ref Ai)=true)
  (nf_rule_Changed:W.findIn K (.ref Ai) "rule"=some none)
  (nf_left_Changed:W.findIn K (.ref Ai) "left"=some none)
  (nf_more_Changed:W.findIn K (.ref Ai) "more"=some none)
  (nf_moved_Changed:W.findIn K (.ref Ai) "moved"=some none)
  (nf_gained_Changed:W.findIn K (.ref Ai) "gained"=some none)
  (nf_lost_Changed:W.findIn K (.ref Ai) "lost"=some none)
  (aC_Every:W.nsIn K mainGlobals "Every"=some (some (.ref A7)))
  (pg_Every:W.plainGet K A7 Str.empty=true)
  (hd_Every:W.hasDictIn K A7=true)
  (po_Every:W.plainOver K A7=true)
  (sa_Every:W.findIn K (.ref A7) "__setattr__"=some (some (.builtin "object.__setattr__")))
  (R3:W.makesIn K A7=true)
  (kc_Every:W.keepIn K (.ref A7)=true)
  (nf_step_Every:W.findIn K (.ref A7) "step"=some none)
  (nf_first_Every:W.findIn K (.ref A7) "first"=some none)
  (aC_Once:W.nsIn K mainGlobals "Once"=some (some (.ref Bo)))
  (pg_Once:W.plainGet K Bo Str.empty=true)
  (hd_Once:W.hasDictIn K Bo=true)
  (po_Once:W.plainOver K Bo=true)
  (sa_Once:W.findIn K (.ref Bo) "__setattr__"=some (some (.builtin "object.__setattr__")))
  (V7:W.makesIn K Bo=true)
  (kc_Once:W.keepIn K (.ref Bo)=true)
  (nf_begin_Once:W.findIn K (.ref Bo) "begin"=some none)
  (nf_end_Once:W.findIn K (.ref Bo) "end"=some none)
  (aC_Place:W.nsIn K mainGlobals "Place"=some (some (.ref A0)))
  (pg_Place:W.plainGet K A0 Str.empty=true)
  (hd_Place:W.hasDictIn K A0=true)
  (po_Place:W.plainOver K A0=true)
  (sa_Place:W.findIn K (.ref A0) "__setattr__"=some (some (.builtin "object.__setattr__")))
  (Qt:W.makesIn K A0=true)
  (kc_Place:W.keepIn K (.ref A0)=true)
  (nf_name_Place:W.findIn K (.ref A0) "name"=some none)
  (nf_offset_Place:W.findIn K (.ref A0) "offset"=some none)
  (nf_changes_Place:W.findIn K (.ref A0) "changes"=some none)
  (nf_moments_Place:W.findIn K (.ref A0) "moments"=some none)
  (aq13:W.nsIn K mainGlobals "is_made_of"=some (some (.ref fq13))) (lq13:K.lookup fq13=some ⟨ocq13,odq13,.func (W.fnOf "is_made_of" "is_made_of" (An Fb) (Al Fb) (Ab Fb) .none kVq13 dcq13 pmq13 anq13 cdq13 ctq13),slq13⟩) (eq13:W.codeIn K cdq13 "is_made_of"=true) (kq13:W.keepIn K (.ref fq13)=true)
  (aq1c:W.nsIn K mainGlobals "is_span"=some (some (.ref fq1c))) (lq1c:K.lookup fq1c=some ⟨ocq1c,odq1c,.func (W.fnOf "is_span" "is_span" (An Nk) (Al Nk) (Ab Nk) .none kVq1c dcq1c pmq1c anq1c cdq1c ctq1c),slq1c⟩) (eq1c:W.codeIn K cdq1c "is_span"=true) (kq1c:W.keepIn K (.ref fq1c)=true)
  (aq1j:W.nsIn K mainGlobals "meets"=some (some (.ref fq1j))) (lq1j:K.lookup fq1j=some ⟨ocq1j,odq1j,.func (W.fnOf "meets" "meets" (An Si) (Al Si) (Ab Si) .none kVq1j dcq1j pmq1j anq1j cdq1j ctq1j),slq1j⟩) (eq1j:W.codeIn K cdq1j "meets"=true) (kq1j:W.keepIn K (.ref fq1j)=true)
  (aq1h:W.nsIn K mainGlobals "is_day"=some (some (.ref fq1h))) (lq1h:K.lookup fq1h=some ⟨ocq1h,odq1h,.func (W.fnOf "is_day" "is_day" (An Pt) (Al Pt) (Ab Pt) .none kVq1h dcq1h pmq1h anq1h cdq1h ctq1h),slq1h⟩) (eq1h:W.codeIn K cdq1h "is_day"=true) (kq1h:W.keepIn K (.ref fq1h)=true)
  (aqo:W.nsIn K mainGlobals "check_bounds"=some (some (.ref fqo))) (lqo:K.lookup fqo=some ⟨ocqo,odqo,.func (W.fnOf "check_bounds" "check_bounds" (An Em) (Al Em) (Ab Em) .none kVqo dcqo pmqo anqo cdqo ctqo),slqo⟩) (eqo:W.codeIn K cdqo "check_bounds"=true) (kqo:W.keepIn K (.ref fqo)=true)
  (aqs:W.nsIn K mainGlobals "count_below"=some (some (.ref fqs))) (lqs:K.lookup fqs=some ⟨ocqs,odqs,.func (W.fnOf "count_below" "count_below" (An Fw) (Al Fw) (Ab Fw) .none kVqs dcqs pmqs anqs cdqs ctqs),slqs⟩) (eqs:W.codeIn K cdqs "count_below"=true) (kqs:W.keepIn K (.ref fqs)=true)
  (aqi:W.findIn K (.ref A7) "next_in"=some (some (.ref fqi))) (lqi:K.lookup fqi=some ⟨ocqi,odqi,.func (W.fnOf "next_in" "Every.next_in" (An Bs) (Al Bs) (Ab Bs) dVqi kVqi dcqi pmqi anqi cdqi ctqi),slqi⟩) (eqi:W.codeIn K cdqi "Every.next_in"=true) (kqi:W.keepIn K (.ref fqi)=true)
  (iqi:W.isFn K (.ref fqi)=true)
  (vqi:dVqi=.ref tqi) (wqi:K.lookup tqi=some otqi) (xqi:otqi.data=.seq #[.int 0 uqi_0,.int 146097 uqi_1] ntqi)
  (aqq:W.nsIn K mainGlobals "check_offset"=some (some (.ref fqq))) (lqq:K.lookup fqq=some ⟨ocqq,odqq,.func (W.fnOf "check_offset" "check_offset" (An Ek) (Al Ek) (Ab Ek) .none kVqq dcqq pmqq anqq cdqq ctqq),slqq⟩) (eqq:W.codeIn K cdqq "check_offset"=true) (kqq:W.keepIn K (.ref fqq)=true)
  (aqj:W.nsIn K mainGlobals "offset_behind"=some (some (.ref fqj))) (lqj:K.lookup fqj=some ⟨ocqj,odqj,.func (W.fnOf "offset_behind" "offset_behind" (An Df) (Al Df) (Ab Df) .none kVqj dcqj pmqj anqj cdqj ctqj),slqj⟩) (eqj:W.codeIn K cdqj "offset_behind"=true) (kqj:W.keepIn K (.ref fqj)=true)
  (aq1i:W.nsIn K mainGlobals "merged"=some (some (.ref fq1i))) (lq1i:K.lookup fq1i=some ⟨ocq1i,odq1i,.func (W.fnOf "merged" "merged" (An Pm) (Al Pm) (Ab Pm) .none kVq1i dcq1i pmq1i anq1i cdq1i ctq1i),slq1i⟩) (eq1i:W.codeIn K cdq1i "merged"=true) (kq1i:W.keepIn K (.ref fq1i)=true)
  (aq0:W.findIn K (.ref Ai) "days_gained"=some (some (.ref fq0))) (lq0:K.lookup fq0=some ⟨ocq0,odq0,.func (W.fnOf "days_gained" "Changed.days_gained" (An Bf) (Al Bf) (Ab Bf) .none kVq0 dcq0 pmq0 anq0 cdq0 ctq0),slq0⟩) (eq0:W.codeIn K cdq0 "Changed.days_gained"=true) (kq0:W.keepIn K (.ref fq0)=true)
  (iq0:W.isFn K (.ref fq0)=true)
  (aq2:W.findIn K (.ref Ai) "days_lost"=some (some (.ref fq2))) (lq2:K.lookup fq2=some ⟨ocq2,odq2,.func (W.fnOf "days_lost" "Changed.days_lost" (An B3) (Al B3) (Ab B3) .none kVq2 dcq2 pmq2 anq2 cdq2 ctq2),slq2⟩) (eq2:W.codeIn K cdq2 "Changed.days_lost"=true) (kq2:W.keepIn K (.ref fq2)=true)
  (iq2:W.isFn K (.ref fq2)=true)
  (aqd:W.findIn K (.ref Ai) "__init__"=some (some (.ref fqd))) (lqd:K.lookup fqd=some ⟨ocqd,odqd,.func (W.fnOf "__init__" "Changed.__init__" (An Bk) (Al Bk) (Ab Bk) dVqd kVqd dcqd pmqd anqd cdqd ctqd),slqd⟩) (eqd:W.codeIn K cdqd "Changed.__init__"=true) (kqd:W.keepIn K (.ref fqd)=true)
  (iqd:W.isFn K (.ref fqd)=true)
  (vqd:dVqd=.ref tqd) (wqd:K.lookup tqd=some otqd) (xqd:otqd.data=.seq #[.none,.none,.none] ntqd)
  (aq8:W.findIn K (.ref Ai) "falls_on"=some (some (.ref fq8))) (lq8:K.lookup fq8=some ⟨ocq8,odq8,.func (W.fnOf "falls_on" "Changed.falls_on" (An B7) (Al B7) (Ab B7) .none kVq8 dcq8 pmq8 anq8 cdq8 ctq8),slq8⟩) (eq8:W.codeIn K cdq8 "Changed.falls_on"=true) (kq8:W.keepIn K (.ref fq8)=true)
  (iq8:W.isFn K (.ref fq8)=true)
  (aqa:W.findIn K (.ref Ai) "days_in"=some (some (.ref fqa))) (lqa:K.lookup fqa=some ⟨ocqa,odqa,.func (W.fnOf "days_in" "Changed.days_in" (An B2) (Al B2) (Ab B2) .none kVqa dcqa pmqa anqa cdqa ctqa),slqa⟩) (eqa:W.codeIn K cdqa "Changed.days_in"=true) (kqa:W.keepIn K (.ref fqa)=true)
  (iqa:W.isFn K (.ref fqa)=true)
  (aqr:W.findIn K (.ref Aq) "__init__"=some (some (.ref fqr))) (lqr:K.lookup fqr=some ⟨ocqr,odqr,.func (W.fnOf "__init__" "Again.__init__" (An B6) (Al B6) (Ab B6) dVqr kVqr dcqr pmqr anqr cdqr ctqr),slqr⟩) (eqr:W.codeIn K cdqr "Again.__init__"=true) (kqr:W.keepIn K (.ref fqr)=true)
  (iqr:W.isFn K (.ref fqr)=true)
  (vqr:dVqr=.ref tqr) (wqr:K.lookup tqr=some otqr) (xqr:otqr.data=.seq #[.int 0 uqr_0] ntqr)
  (aqv:W.findIn K (.ref A3) "things"=some (some (.ref fqv))) (lqv:K.lookup fqv=some ⟨ocqv,odqv,.func (W.fnOf "things" "Book.things" (An Fj) (Al Fj) (Ab Fj) .none kVqv dcqv pmqv anqv cdqv ctqv),slqv⟩) (eqv:W.codeIn K cdqv "Book.things"=true) (kqv:W.keepIn K (.ref fqv)=true)
  (iqv:W.isFn K (.ref fqv)=true)
  (aq14:W.findIn K (.ref A3) "drop"=some (some (.ref fq14))) (lq14:K.lookup fq14=some ⟨ocq14,odq14,.func (W.fnOf "drop" "Book.drop" (An Jx) (Al Jx) (Ab Jx) .none kVq14 dcq14 pmq14 anq14 cdq14 ctq14),slq14⟩) (eq14:W.codeIn K cdq14 "Book.drop"=true) (kq14:W.keepIn K (.ref fq14)=true)
  (iq14:W.isFn K (.ref fq14)=true)
  (aqu:W.findIn K (.ref A3) "__init__"=some (some (.ref fqu))) (lqu:K.lookup fqu=some ⟨ocqu,odqu,.func (W.fnOf "__init__" "Book.__init__" (An Fy) (Al Fy) (Ab Fy) .none kVqu dcqu pmqu anqu cdqu ctqu),slqu⟩) (equ:W.codeIn K cdqu "Book.__init__"=true) (kqu:W.keepIn K (.ref fqu)=true)
  (iqu:W.isFn K (.ref fqu)=true)
  (aq1b:W.nsIn K mainGlobals "_law_cell"=some (some (.ref fq1b))) (lq1b:K.lookup fq1b=some ⟨ocq1b,odq1b,.func (W.fnOf "_law_cell" "_law_cell" (An Lp) (Al Lp) (Ab Lp) .none kVq1b dcq1b pmq1b anq1b cdq1b ctq1b),slq1b⟩) (eq1b:W.codeIn K cdq1b "_law_cell"=true) (kq1b:W.keepIn K (.ref fq1b)=true)
  (aq1f:W.nsIn K mainGlobals "_law_mix"=some (some (.ref fq1f))) (lq1f:K.lookup fq1f=some ⟨ocq1f,odq1f,.func (W.fnOf "_law_mix" "_law_mix" (An Nh) (Al Nh) (Ab Nh) .none kVq1f dcq1f pmq1f anq1f cdq1f ctq1f),slq1f⟩) (eq1f:W.codeIn K cdq1f "_law_mix"=true) (kq1f:W.keepIn K (.ref fq1f)=true)
  (aq1a:W.nsIn K mainGlobals "_law_lone"=some (some (.ref fq1a))) (lq1a:K.lookup fq1a=some ⟨ocq1a,odq1a,.func (W.fnOf "_law_lone" "_law_lone" (An Lr) (Al Lr) (Ab Lr) .none kVq1a dcq1a pmq1a anq1a cdq1a ctq1a),slq1a⟩) (eq1a:W.codeIn K cdq1a "_law_lone"=true) (kq1a:W.keepIn K (.ref fq1a)=true)
  (aq1g:W.nsIn K mainGlobals "_law_due"=some (some (.ref fq1g))) (lq1g:K.lookup fq1g=some ⟨ocq1g,odq1g,.func (W.fnOf "_law_due" "_law_due" (An Nj) (Al Nj) (Ab Nj) .none kVq1g dcq1g pmq1g anq1g cdq1g ctq1g),slq1g⟩) (eq1g:W.codeIn K cdq1g "_law_due"=true) (kq1g:W.keepIn K (.ref fq1g)=true)
  (aq1e:W.nsIn K mainGlobals "is_name"=some (some (.ref fq1e))) (lq1e:K.lookup fq1e=some ⟨ocq1e,odq1e,.func (W.fnOf "is_name" "is_name" (An Nf) (Al Nf) (Ab Nf) .none kVq1e dcq1e pmq1e anq1e cdq1e ctq1e),slq1e⟩) (eq1e:W.codeIn K cdq1e "is_name"=true) (kq1e:W.keepIn K (.ref fq1e)=true)
  (aq11:W.nsIn K mainGlobals "check_span"=some (some (.ref fq11))) (lq11:K.lookup fq11=some ⟨ocq11,odq11,.func (W.fnOf "check_span" "check_span" (An G8) (Al G8) (Ab G8) .none kVq11 dcq11 pmq11 anq11 cdq11 ctq11),slq11⟩) (eq11:W.codeIn K cdq11 "check_span"=true) (kq11:W.keepIn K (.ref fq11)=true)
  (aq9:W.nsIn K mainGlobals "check_day_rules"=some (some (.ref fq9))) (lq9:K.lookup fq9=some ⟨ocq9,odq9,.func (W.fnOf "check_day" "check_day" (An Co) (Al Co) (Ab Co) .none kVq9 dcq9 pmq9 anq9 cdq9 ctq9),slq9⟩) (eq9:W.codeIn K cdq9 "check_day"=true) (kq9:W.keepIn K (.ref fq9)=true)
  (aqg:W.findIn K (.ref A7) "days_in"=some (some (.ref fqg))) (lqg:K.lookup fqg=some ⟨ocqg,odqg,.func (W.fnOf "days_in" "Every.days_in" (An Dm) (Al Dm) (Ab Dm) .none kVqg dcqg pmqg anqg cdqg ctqg),slqg⟩) (eqg:W.codeIn K cdqg "Every.days_in"=true) (kqg:W.keepIn K (.ref fqg)=true)
  (iqg:W.isFn K (.ref fqg)=true)
  (aqb:W.findIn K (.ref A7) "falls_on"=some (some (.ref fqb))) (lqb:K.lookup fqb=some ⟨ocqb,odqb,.func (W.fnOf "falls_on" "Every.falls_on" (An Cs) (Al Cs) (Ab Cs) .none kVqb dcqb pmqb anqb cdqb ctqb),slqb⟩) (eqb:W.codeIn K cdqb "Every.falls_on"=true) (kqb:W.keepIn K (.ref fqb)=true)
  (iqb:W.isFn K (.ref fqb)=true)
  (aqh:W.nsIn K mainGlobals "check_changes"=some (some (.ref fqh))) (lqh:K.lookup fqh=some ⟨ocqh,odqh,.func (W.fnOf "check_changes" "check_changes" (An Dg) (Al Dg) (Ab Dg) .none kVqh dcqh pmqh anqh cdqh ctqh),slqh⟩) (eqh:W.codeIn K cdqh "check_changes"=true) (kqh:W.keepIn K (.ref fqh)=true)
  (aql:W.nsIn K mainGlobals "changes_until"=some (some (.ref fql))) (lql:K.lookup fql=some ⟨ocql,odql,.func (W.fnOf "changes_until" "changes_until" (An Di) (Al Di) (Ab Di) .none kVql dcql pmql anql cdql ctql),slql⟩) (eql:W.codeIn K cdql "changes_until"=true) (kql:W.keepIn K (.ref fql)=true)
  (aq1:W.findIn K (.ref Ai) "has_gained"=some (some (.ref fq1))) (lq1:K.lookup fq1=some ⟨ocq1,odq1,.func (W.fnOf "has_gained" "Changed.has_gained" (An Bu) (Al Bu) (Ab Bu) .none kVq1 dcq1 pmq1 anq1 cdq1 ctq1),slq1⟩) (eq1:W.codeIn K cdq1 "Changed.has_gained"=true) (kq1:W.keepIn K (.ref fq1)=true)
  (iq1:W.isFn K (.ref fq1)=true)
  (aq6:W.nsIn K mainGlobals "check_day_things"=some (some (.ref fq6))) (lq6:K.lookup fq6=some ⟨ocq6,odq6,.func (W.fnOf "check_day" "check_day" (An Ca) (Al Ca) (Ab Ca) .none kVq6 dcq6 pmq6 anq6 cdq6 ctq6),slq6⟩) (eq6:W.codeIn K cdq6 "check_day"=true) (kq6:W.keepIn K (.ref fq6)=true)
  (aqm:W.findIn K (.ref Bo) "spans_in"=some (some (.ref fqm))) (lqm:K.lookup fqm=some ⟨ocqm,odqm,.func (W.fnOf "spans_in" "Once.spans_in" (An Dl) (Al Dl) (Ab Dl) .none kVqm dcqm pmqm anqm cdqm ctqm),slqm⟩) (eqm:W.codeIn K cdqm "Once.spans_in"=true) (kqm:W.keepIn K (.ref fqm)=true)
  (iqm:W.isFn K (.ref fqm)=true)
  (aq3:W.findIn K (.ref A3) "coming_again"=some (some (.ref fq3))) (lq3:K.lookup fq3=some ⟨ocq3,odq3,.func (W.fnOf "coming_again" "Book.coming_again" (An Bz) (Al Bz) (Ab Bz) .none kVq3 dcq3 pmq3 anq3 cdq3 ctq3),slq3⟩) (eq3:W.codeIn K cdq3 "Book.coming_again"=true) (kq3:W.keepIn K (.ref fq3)=true)
  (iq3:W.isFn K (.ref fq3)=true)
  (aq18:W.nsIn K mainGlobals "_law_class"=some (some (.ref fq18))) (lq18:K.lookup fq18=some ⟨ocq18,odq18,.func (W.fnOf "_law_class" "_law_class" (An Jq) (Al Jq) (Ab Jq) .none kVq18 dcq18 pmq18 anq18 cdq18 ctq18),slq18⟩) (eq18:W.codeIn K cdq18 "_law_class"=true) (kq18:W.keepIn K (.ref fq18)=true)
  (aqn:W.findIn K (.ref A7) "__init__"=some (some (.ref fqn))) (lqn:K.lookup fqn=some ⟨ocqn,odqn,.func (W.fnOf "__init__" "Every.__init__" (An B5) (Al B5) (Ab B5) dVqn kVqn dcqn pmqn anqn cdqn ctqn),slqn⟩) (eqn:W.codeIn K cdqn "Every.__init__"=true) (kqn:W.keepIn K (.ref fqn)=true)
  (iqn:W.isFn K (.ref fqn)=true)
  (vqn:dVqn=.ref tqn) (wqn:K.lookup tqn=some otqn) (xqn:otqn.data=.seq #[.int 0 uqn_0] ntqn)
  (aqp:W.findIn K (.ref A0) "__init__"=some (some (.ref fqp))) (lqp:K.lookup fqp=some ⟨ocqp,odqp,.func (W.fnOf "__init__" "Place.__init__" (An Bn) (Al Bn) (Ab Bn) dVqp kVqp dcqp pmqp anqp cdqp ctqp),slqp⟩) (eqp:W.codeIn K cdqp "Place.__init__"=true) (kqp:W.keepIn K (.ref fqp)=true)
  (iqp:W.isFn K (.ref fqp)=true)
  (vqp:dVqp=.ref tqp) (wqp:K.lookup tqp=some otqp) (xqp:otqp.data=.seq #[.none] ntqp)
  (aqw:W.nsIn K mainGlobals "moments_of"=some (some (.ref fqw))) (lqw:K.lookup fqw=some ⟨ocqw,odqw,.func (W.fnOf "moments_of" "moments_of" (An Hj) (Al Hj) (Ab Hj) .none kVqw dcqw pmqw anqw cdqw ctqw),slqw⟩) (eqw:W.codeIn K cdqw "moments_of"=true) (kqw:W.keepIn K (.ref fqw)=true)
  (aq15:W.nsIn K mainGlobals "leap_over"=some (some (.ref fq15))) (lq15:K.lookup fq15=some ⟨ocq15,odq15,.func (W.fnOf "leap_over" "leap_over" (An Jw) (Al Jw) (Ab Jw) .none kVq15 dcq15 pmq15 anq15 cdq15 ctq15),slq15⟩) (eq15:W.codeIn K cdq15 "leap_over"=true) (kq15:W.keepIn K (.ref fq15)=true)
  (aqt:W.findIn K (.ref Bo) "__init__"=some (some (.ref fqt))) (lqt:K.lookup fqt=some ⟨ocqt,odqt,.func (W.fnOf "__init__" "Once.__init__" (An Fn) (Al Fn) (Ab Fn) .none kVqt dcqt pmqt anqt cdqt ctqt),slqt⟩) (eqt:W.codeIn K cdqt "Once.__init__"=true) (kqt:W.keepIn K (.ref fqt)=true)
  (iqt:W.isFn K (.ref fqt)=true)
  (aqf:W.findIn K (.ref A3) "check_new"=some (some (.ref fqf))) (lqf:K.lookup fqf=some ⟨ocqf,odqf,.func (W.fnOf "check_new" "Book.check_new" (An Ct) (Al Ct) (Ab Ct) .none kVqf dcqf pmqf anqf cdqf ctqf),slqf⟩) (eqf:W.codeIn K cdqf "Book.check_new"=true) (kqf:W.keepIn K (.ref fqf)=true)
  (iqf:W.isFn K (.ref fqf)=true)
  (aq17:W.nsIn K mainGlobals "moment_of"=some (some (.ref fq17))) (lq17:K.lookup fq17=some ⟨ocq17,odq17,.func (W.fnOf "moment_of" "moment_of" (An D6) (Al D6) (Ab D6) dVq17 kVq17 dcq17 pmq17 anq17 cdq17 ctq17),slq17⟩) (eq17:W.codeIn K cdq17 "moment_of"=true) (kq17:W.keepIn K (.ref fq17)=true)
  (vq17:dVq17=.ref tq17) (wq17:K.lookup tq17=some otq17) (xq17:otq17.data=.seq #[.bool false] ntq17)
  (aq19:W.findIn K (.ref A3) "once"=some (some (.ref fq19))) (lq19:K.lookup fq19=some ⟨ocq19,odq19,.func (W.fnOf "once" "Book.once" (An Js) (Al Js) (Ab Js) .none kVq19 dcq19 pmq19 anq19 cdq19 ctq19),slq19⟩) (eq19:W.codeIn K cdq19 "Book.once"=true) (kq19:W.keepIn K (.ref fq19)=true)
  (iq19:W.isFn K (.ref fq19)=true)
  (aqz:W.findIn K (.ref A3) "again"=some (some (.ref fqz))) (lqz:K.lookup fqz=some ⟨ocqz,odqz,.func (W.fnOf "again" "Book.again" (An Hi) (Al Hi) (Ab Hi) .none kVqz dcqz pmqz anqz cdqz ctqz),slqz⟩) (eqz:W.codeIn K cdqz "Book.again"=true) (kqz:W.keepIn K (.ref fqz)=true)
  (iqz:W.isFn K (.ref fqz)=true)
  (aq1d:W.nsIn K mainGlobals "days_of"=some (some (.ref fq1d))) (lq1d:K.lookup fq1d=some ⟨ocq1d,odq1d,.func (W.fnOf "days_of" "days_of" (An Iz) (Al Iz) (Ab Iz) dVq1d kVq1d dcq1d pmq1d anq1d cdq1d ctq1d),slq1d⟩) (eq1d:W.codeIn K cdq1d "days_of"=true) (kq1d:W.keepIn K (.ref fq1d)=true)
  (vq1d:dVq1d=.ref tq1d) (wq1d:K.lookup tq1d=some otq1d) (xq1d:otq1d.data=.seq #[.int 0 uq1d_0,.int 146097 uq1d_1] ntq1d)
  (aq7:W.findIn K (.ref Aq) "days_about"=some (some (.ref fq7))) (lq7:K.lookup fq7=some ⟨ocq7,odq7,.func (W.fnOf "days_about" "Again.days_about" (An B9) (Al B9) (Ab B9) .none kVq7 dcq7 pmq7 anq7 cdq7 ctq7),slq7⟩) (eq7:W.codeIn K cdq7 "Again.days_about"=true) (kq7:W.keepIn K (.ref fq7)=true)
  (iq7:W.isFn K (.ref fq7)=true)
  (aqc:W.findIn K (.ref Aq) "spans_in"=some (some (.ref fqc))) (lqc:K.lookup fqc=some ⟨ocqc,odqc,.func (W.fnOf "spans_in" "Again.spans_in" (An Bl) (Al Bl) (Ab Bl) .none kVqc dcqc pmqc anqc cdqc ctqc),slqc⟩) (eqc:W.codeIn K cdqc "Again.spans_in"=true) (kqc:W.keepIn K (.ref fqc)=true)
  (iqc:W.isFn K (.ref fqc)=true)
  (aq10:W.findIn K (.ref A3) "spans"=some (some (.ref fq10))) (lq10:K.lookup fq10=some ⟨ocq10,odq10,.func (W.fnOf "spans" "Book.spans" (An G6) (Al G6) (Ab G6) .none kVq10 dcq10 pmq10 anq10 cdq10 ctq10),slq10⟩) (eq10:W.codeIn K cdq10 "Book.spans"=true) (kq10:W.keepIn K (.ref fq10)=true)
  (iq10:W.isFn K (.ref fq10)=true)
  (aqk:W.findIn K (.ref Aq) "changed"=some (some (.ref fqk))) (lqk:K.lookup fqk=some ⟨ocqk,odqk,.func (W.fnOf "changed" "Again.changed" (An Dj) (Al Dj) (Ab Dj) .none kVqk dcqk pmqk anqk cdqk ctqk),slqk⟩) (eqk:W.codeIn K cdqk "Again.changed"=true) (kqk:W.keepIn K (.ref fqk)=true)
  (iqk:W.isFn K (.ref fqk)=true)
  (aq5:W.findIn K (.ref Aq) "with_moved"=some (some (.ref fq5))) (lq5:K.lookup fq5=some ⟨ocq5,odq5,.func (W.fnOf "with_moved" "Again.with_moved" (An B8) (Al B8) (Ab B8) .none kVq5 dcq5 pmq5 anq5 cdq5 ctq5),slq5⟩) (eq5:W.codeIn K cdq5 "Again.with_moved"=true) (kq5:W.keepIn K (.ref fq5)=true)
  (iq5:W.isFn K (.ref fq5)=true)
  (aq4:W.findIn K (.ref Aq) "without_day"=some (some (.ref fq4))) (lq4:K.lookup fq4=some ⟨ocq4,odq4,.func (W.fnOf "without_day" "Again.without_day" (An B4) (Al B4) (Ab B4) .none kVq4 dcq4 pmq4 anq4 cdq4 ctq4),slq4⟩) (eq4:W.codeIn K cdq4 "Again.without_day"=true) (kq4:W.keepIn K (.ref fq4)=true)
  (iq4:W.isFn K (.ref fq4)=true)
  (aqe:W.findIn K (.ref Aq) "with_day"=some (some (.ref fqe))) (lqe:K.lookup fqe=some ⟨ocqe,odqe,.func (W.fnOf "with_day" "Again.with_day" (An Cu) (Al Cu) (Ab Cu) .none kVqe dcqe pmqe anqe cdqe ctqe),slqe⟩) (eqe:W.codeIn K cdqe "Again.with_day"=true) (kqe:W.keepIn K (.ref fqe)=true)
  (iqe:W.isFn K (.ref fqe)=true)
  (aq12:W.findIn K (.ref A3) "leave"=some (some (.ref fq12))) (lq12:K.lookup fq12=some ⟨ocq12,odq12,.func (W.fnOf "leave" "Book.leave" (An G7) (Al G7) (Ab G7) .none kVq12 dcq12 pmq12 anq12 cdq12 ctq12),slq12⟩) (eq12:W.codeIn K cdq12 "Book.leave"=true) (kq12:W.keepIn K (.ref fq12)=true)
  (iq12:W.isFn K (.ref fq12)=true)
  (aqx:W.findIn K (.ref A3) "shift"=some (some (.ref fqx))) (lqx:K.lookup fqx=some ⟨ocqx,odqx,.func (W.fnOf "shift" "Book.shift" (An G9) (Al G9) (Ab G9) .none kVqx dcqx pmqx anqx cdqx ctqx),slqx⟩) (eqx:W.codeIn K cdqx "Book.shift"=true) (kqx:W.keepIn K (.ref fqx)=true)
  (iqx:W.isFn K (.ref fqx)=true)
  (aqy:W.findIn K (.ref A3) "extra"=some (some (.ref fqy))) (lqy:K.lookup fqy=some ⟨ocqy,odqy,.func (W.fnOf "extra" "Book.extra" (An Hg) (Al Hg) (Ab Hg) .none kVqy dcqy pmqy anqy cdqy ctqy),slqy⟩) (eqy:W.codeIn K cdqy "Book.extra"=true) (kqy:W.keepIn K (.ref fqy)=true)
  (iqy:W.isFn K (.ref fqy)=true)
  (aq16:W.nsIn K mainGlobals "_law_tried"=some (some (.ref fq16))) (lq16:K.lookup fq16=some ⟨ocq16,odq16,.func (W.fnOf "_law_tried" "_law_tried" (An Jv) (Al Jv) (Ab Jv) .none kVq16 dcq16 pmq16 anq16 cdq16 ctq16),slq16⟩) (eq16:W.codeIn K cdq16 "_law_tried"=true) (kq16:W.keepIn K (.ref fq16)=true)
  (aq1k:W.nsIn K mainGlobals "law"=some (some (.ref fq1k))) (lq1k:K.lookup fq1k=some ⟨ocq1k,odq1k,.func (W.fnOf "law" "law" (An mr) (Al mr) (Ab mr) .none kVq1k dcq1k pmq1k anq1k cdq1k ctq1k),slq1k⟩) (eq1k:W.codeIn K cdq1k "law"=true) (kq1k:W.keepIn K (.ref fq1k)=true)
  (Qv:W.nsIn K mainGlobals "DAYS"=some (some (.int 146097 t_DAYS)))
  (Cj:W.nsIn K mainGlobals "DAY_MINUTES"=some (some (.int 1440 t_DAY_MINUTES)))
  (O1:W.nsIn K mainGlobals "FIGURES"=some (some (.str "0123456789" t_FIGURES)))
  (M7:W.nsIn K mainGlobals "LETTERS"=some (some (.str "abcdefghijklmnopqrstuvwxyz" t_LETTERS)))
  (Gd:W.nsIn K mainGlobals "MOST_CHANGES"=some (some (.int 400 t_MOST_CHANGES)))
  (Dd:W.nsIn K mainGlobals "MOST_EXCEPTIONS"=some (some (.int 8 t_MOST_EXCEPTIONS)))
  (Ii:W.nsIn K mainGlobals "MOST_LENGTH"=some (some (.int 10080 t_MOST_LENGTH)))
  (Bp:W.nsIn K mainGlobals "MOST_OFFSET"=some (some (.int 900 t_MOST_OFFSET)))
  (Iw:W.nsIn K mainGlobals "MOST_THINGS"=some (some (.int 40 t_MOST_THINGS)))
  (Ko:W.nsIn K mainGlobals "NAME_SIGNS"=some (some (.int 8 t_NAME_SIGNS)))
  (de:W.nsIn K mainGlobals "Busy"=some (some (.ref Ni)))
  (Sa:W.nsIn K mainGlobals "Closed"=some (some (.ref Fl)))
  (Tz:W.nsIn K mainGlobals "Full"=some (some (.ref Ap)))
  (x_Full':W.excIn K Ap [.type "ValueError",.type "Exception",.type "BaseException",.type "object"] "ValueError.__new__"=true)
  (Kl:W.nsIn K mainGlobals "HouseError"=some (some (.ref Bb)))
  (ct_HouseError:W.typeIn K (.ref Bb)=some (.type "type")) (cb_HouseError:W.mroIn K Bb (.type "BaseException")=some true)
  (Ql:W.nsIn K mainGlobals "Known"=some (some (.ref Ao)))
  (x_Known':W.excIn K Ao [.type "ValueError",.type "Exception",.type "BaseException",.type "object"] "ValueError.__new__"=true)
  (U8:W.nsIn K mainGlobals "NoDay"=some (some (.ref Jr)))
  (Rr:W.nsIn K mainGlobals "NoHand"=some (some (.ref Fi)))
  (Nb:W.nsIn K mainGlobals "NoLetter"=some (some (.ref Cm)))
  (Lz:W.nsIn K mainGlobals "NoMeeting"=some (some (.ref Bx)))
  (Pc:W.nsIn K mainGlobals "NoPlace"=some (some (.ref Dp)))
  (Rm:W.nsIn K mainGlobals "NoRule"=some (some (.ref Fu)))
  (Pp:W.nsIn K mainGlobals "NoSpan"=some (some (.ref Am)))
  (x_NoSpan':W.excIn K Am [.type "ValueError",.type "Exception",.type "BaseException",.type "object"] "ValueError.__new__"=true)
  (R9:W.nsIn K mainGlobals "NoText"=some (some (.ref Fs)))
  (E6:W.nsIn K mainGlobals "NoThing"=some (some (.ref Ad)))
  (x_NoThing':W.excIn K Ad [.type "ValueError",.type "Exception",.type "BaseException",.type "object"] "ValueError.__new__"=true)
  (Rq:W.nsIn K mainGlobals "NoWord"=some (some (.ref Fv)))
  (Dt:W.mroIn K Am (.ref Bb)=some true)
  (Ay:W.mroIn K Ad (.ref Bb)=some true)
  (Cb:W.mroIn K Ao (.ref Bb)=some true)
  (Bg:W.mroIn K Ap (.ref Bb)=some true)
  (e0_NoSpan:W.findIn K (.ref Am) "__getattribute__"=some (some (.builtin "BaseException.__getattribute__")))
  (e1_NoSpan:W.findIn K (.ref Am) "__getattr__"=some none)
  (e2_NoSpan:W.findIn K (.ref Am) "__class__"=some (some (.builtin "object.__class__")))
  (e3_NoSpan:W.specialIn K (.builtin "object.__class__") "__get__"=some (some (.builtin "getset_descriptor.__get__")))
  (e4_NoSpan:W.takesIn K (.builtin "object.__class__")=some true)
  (e5_NoSpan:W.mroIn K Am (.type "object")=some true)
  (e6_NoSpan:W.mroIn K Am (.type "BaseException")=some true)
  (Kc:W.kitOne K (.ref Am) (.ref Jr)=some false)
  (Hs:W.kitOne K (.ref Am) (.ref Fs)=some false)
  (I0:W.kitOne K (.ref Am) (.ref Fu)=some false)
  (G0:W.kitOne K (.ref Am) (.ref Dp)=some false)
  (Hr:W.kitOne K (.ref Am) (.ref Am)=some true)
  (Gx:W.kitOne K (.ref Am) (.ref Ad)=some false)
  (Kh:W.kitOne K (.ref Am) (.ref Ao)=some false)
  (La:W.kitOne K (.ref Am) (.ref Ap)=some false)
  (Ft:W.kitOne K (.ref Am) (.ref Cm)=some false)
  (Ih:W.kitOne K (.ref Am) (.ref Fi)=some false)
  (Ht:W.kitOne K (.ref Am) (.ref Fv)=some false)
  (Ez:W.kitOne K (.ref Am) (.ref Bx)=some false)
  (Ip:W.kitOne K (.ref Am) (.ref Fl)=some false)
  (Lk:W.kitOne K (.ref Am) (.ref Ni)=some false)
  (Dz:W.kitOne K (.ref Am) (.type "ValueError")=some true)
  (e0_NoThing:W.findIn K (.ref Ad) "__getattribute__"=some (some (.builtin "BaseException.__getattribute__")))
  (e1_NoThing:W.findIn K (.ref Ad) "__getattr__"=some none)
  (e2_NoThing:W.findIn K (.ref Ad) "__class__"=some (some (.builtin "object.__class__")))
  (e3_NoThing:W.specialIn K (.builtin "object.__class__") "__get__"=some (some (.builtin "getset_descriptor.__get__")))
  (e4_NoThing:W.takesIn K (.builtin "object.__class__")=some true)
  (e5_NoThing:W.mroIn K Ad (.type "object")=some true)
  (e6_NoThing:W.mroIn K Ad (.type "BaseException")=some true)
  (Fc:W.kitOne K (.ref Ad) (.ref Jr)=some false)
  (Ee:W.kitOne K (.ref Ad) (.ref Fs)=some false)
  (Ea:W.kitOne K (.ref Ad) (.ref Fu)=some false)
  (Dc:W.kitOne K (.ref Ad) (.ref Dp)=some false)
  (Ef:W.kitOne K (.ref Ad) (.ref Am)=some false)
  (Cn:W.kitOne K (.ref Ad) (.ref Ad)=some true)
  (E8:W.kitOne K (.ref Ad) (.ref Ao)=some false)
  (Gj:W.kitOne K (.ref Ad) (.ref Ap)=some false)
  (C0:W.kitOne K (.ref Ad) (.ref Cm)=some false)
  (Ei:W.kitOne K (.ref Ad) (.ref Fi)=some false)
  (Eg:W.kitOne K (.ref Ad) (.ref Fv)=some false)
  (Cq:W.kitOne K (.ref Ad) (.ref Bx)=some false)
  (Ed:W.kitOne K (.ref Ad) (.ref Fl)=some false)
  (Gh:W.kitOne K (.ref Ad) (.ref Ni)=some false)
  (Ci:W.kitOne K (.ref Ad) (.type "ValueError")=some true)
  (e0_Known:W.findIn K (.ref Ao) "__getattribute__"=some (some (.builtin "BaseException.__getattribute__")))
  (e1_Known:W.findIn K (.ref Ao) "__getattr__"=some none)
  (e2_Known:W.findIn K (.ref Ao) "__class__"=some (some (.builtin "object.__class__")))
  (e3_Known:W.specialIn K (.builtin "object.__class__") "__get__"=some (some (.builtin "getset_descriptor.__get__")))
  (e4_Known:W.takesIn K (.builtin "object.__class__")=some true)
  (e5_Known:W.mroIn K Ao (.type "object")=some true)
  (e6_Known:W.mroIn K Ao (.type "BaseException")=some true)
  (Ho:W.kitOne K (.ref Ao) (.ref Jr)=some false)
  (F7:W.kitOne K (.ref Ao) (.ref Fs)=some false)
  (F4:W.kitOne K (.ref Ao) (.ref Fu)=some false)
  (E4:W.kitOne K (.ref Ao) (.ref Dp)=some false)
  (Gb:W.kitOne K (.ref Ao) (.ref Am)=some false)
  (Dq:W.kitOne K (.ref Ao) (.ref Ad)=some false)
  (Fx:W.kitOne K (.ref Ao) (.ref Ao)=some true)
  (Kn:W.kitOne K (.ref Ao) (.ref Ap)=some false)
  (Ec:W.kitOne K (.ref Ao) (.ref Cm)=some false)
  (F6:W.kitOne K (.ref Ao) (.ref Fi)=some false)
  (Gk:W.kitOne K (.ref Ao) (.ref Fv)=some false)
  (Dk:W.kitOne K (.ref Ao) (.ref Bx)=some false)
  (Gf:W.kitOne K (.ref Ao) (.ref Fl)=some false)
  (Kp:W.kitOne K (.ref Ao) (.ref Ni)=some false)
  (C4:W.kitOne K (.ref Ao) (.type "ValueError")=some true)
  (e0_Full:W.findIn K (.ref Ap) "__getattribute__"=some (some (.builtin "BaseException.__getattribute__")))
  (e1_Full:W.findIn K (.ref Ap) "__getattr__"=some none)
  (e2_Full:W.findIn K (.ref Ap) "__class__"=some (some (.builtin "object.__class__")))
  (e3_Full:W.specialIn K (.builtin "object.__class__") "__get__"=some (some (.builtin "getset_descriptor.__get__")))
  (e4_Full:W.takesIn K (.builtin "object.__class__")=some true)
  (e5_Full:W.mroIn K Ap (.type "object")=some true)
  (e6_Full:W.mroIn K Ap (.type "BaseException")=some true)
  (Kq:W.kitOne K (.ref Ap) (.ref Jr)=some false)
  (Jf:W.kitOne K (.ref Ap) (.ref Fs)=some false)
  (Hn:W.kitOne K (.ref Ap) (.ref Fu)=some false)
  (F5:W.kitOne K (.ref Ap) (.ref Dp)=some false)
  (Hm:W.kitOne K (.ref Ap) (.ref Am)=some false)
  (En:W.kitOne K (.ref Ap) (.ref Ad)=some false)
  (Hh:W.kitOne K (.ref Ap) (.ref Ao)=some false)
  (Ju:W.kitOne K (.ref Ap) (.ref Ap)=some true)
  (Fd:W.kitOne K (.ref Ap) (.ref Cm)=some false)
  (Iv:W.kitOne K (.ref Ap) (.ref Fi)=some false)
  (Jh:W.kitOne K (.ref Ap) (.ref Fv)=some false)
  (Eh:W.kitOne K (.ref Ap) (.ref Bx)=some false)
  (Im:W.kitOne K (.ref Ap) (.ref Fl)=some false)
  (L6:W.kitOne K (.ref Ap) (.ref Ni)=some false)
  (Dh:W.kitOne K (.ref Ap) (.type "ValueError")=some true)
  (io0_Again:W.findIn K (.ref Aq) "__class__"=some (some (.builtin "object.__class__")))
  (io1_Again:W.specialIn K (.builtin "object.__class__") "__get__"=some (some (.builtin "getset_descriptor.__get__")))
  (io2_Again:W.takesIn K (.builtin "object.__class__")=some true)
  (io3_Again:W.mroIn K Aq (.type "object")=some true)
  (io0_Once:W.findIn K (.ref Bo) "__class__"=some (some (.builtin "object.__class__")))
  (io1_Once:W.specialIn K (.builtin "object.__class__") "__get__"=some (some (.builtin "getset_descriptor.__get__")))
  (io2_Once:W.takesIn K (.builtin "object.__class__")=some true)
  (io3_Once:W.mroIn K Bo (.type "object")=some true)
  (Gi:W.kitOne K (.ref Aq) (.ref Aq)=some true)
  (Ig:W.kitOne K (.ref Bo) (.ref Aq)=some false)
  (Q8:W.kitOne K (.type "NoneType") (.ref Aq)=some false)
  (Kv:W.nsIn K mainGlobals "ValueError"=some none)
  (ur:W.nsIn K mainGlobals "all"=some none)
  (Np:W.nsIn K mainGlobals "int"=some none)
  (Aw:W.nsIn K mainGlobals "isinstance"=some none)
  (Rx:W.nsIn K mainGlobals "len"=some none)
  (Tg:W.nsIn K mainGlobals "list"=some none)
  (g6:W.nsIn K mainGlobals "max"=some none)
  (cn:W.nsIn K mainGlobals "min"=some none)
  (Nz:W.nsIn K mainGlobals "range"=some none)
  (gf:W.nsIn K mainGlobals "set"=some none)
  (Le:W.nsIn K mainGlobals "sorted"=some none)
  (My:W.nsIn K mainGlobals "tuple"=some none):
  ∃a:Adr,Txt K mg a/\a.kn=fq1k/\∀(s:Shared)(v:Value),BindsTo s a.e8 ⟨[v],[]⟩ [("_law_script",v)]:=by
 have Fq13:=Bc (st:=Fb) lq13 eq13 kq13
 have bq13:=Fq13.binds (ps:=["text","signs"]) λ_ _ _ _ _ _ us hl=>by obtain⟨_,_,rfl⟩:=L2.ex2 hl;exact rfl
 have Fq1c:=Bc (st:=Nk) lq1c eq1c kq1c
 have bq1c:=Fq1c.binds (ps:=["begin","end"]) λ_ _ _ _ _ _ us hl=>by obtain⟨_,_,rfl⟩:=L2.ex2 hl;exact rfl
 have Fq1j:=Bc (st:=Si) lq1j eq1j kq1j
 have bq1j:=Fq1j.binds (ps:=["span","begin","end"]) λ_ _ _ _ _ _ us hl=>by obtain⟨_,_,_,rfl⟩:=L2.ex3 hl;exact rfl
 have Fq1h:=Bc (st:=Pt) lq1h eq1h kq1h
 have bq1h:=Fq1h.binds (ps:=["number"]) λ_ _ _ _ _ _ us hl=>by obtain⟨_,rfl⟩:=L2.ex1 hl;exact rfl
 have Fqo:=Bc (st:=Em) lqo eqo kqo
 have bqo:=Fqo.binds (ps:=["number","least","most"]) λ_ _ _ _ _ _ us hl=>by obtain⟨_,_,_,rfl⟩:=L2.ex3 hl;exact rfl
 have Fqs:=Bc (st:=Fw) lqs eqs kqs
 have bqs:=Fqs.binds (ps:=["days","number"]) λ_ _ _ _ _ _ us hl=>by obtain⟨_,_,rfl⟩:=L2.ex2 hl;exact rfl
 subst vqi
 have Fqi:=Qc (st:=Bs) lqi eqi kqi
 have bqi:Binds K (W.fnOf "next_in" "Every.next_in" (An Bs) (Al Bs) (Ab Bs) (.ref tqi) kVqi dcqi pmqi anqi cdqi ctqi) ["self","day","end"] []:=λs us KX hl=>by obtain⟨_,_,_,rfl⟩:=L2.ex3 (us:=us) (by rw[Ahh] at hl;exact hl);exact Ahu rfl (KX _ _ wqi) xqi rfl rfl
 have Fqq:=Bc (st:=Ek) lqq eqq kqq
 have bqq:=Fqq.binds (ps:=["offset"]) λ_ _ _ _ _ _ us hl=>by obtain⟨_,rfl⟩:=L2.ex1 hl;exact rfl
 have Fqj:=Bc (st:=Df) lqj eqj kqj
 have bqj:=Fqj.binds (ps:=["place","many"]) λ_ _ _ _ _ _ us hl=>by obtain⟨_,_,rfl⟩:=L2.ex2 hl;exact rfl
 have Fq1i:=Bc (st:=Pm) lq1i eq1i kq1i
 have bq1i:=Fq1i.binds (ps:=["one","other"]) λ_ _ _ _ _ _ us hl=>by obtain⟨_,_,rfl⟩:=L2.ex2 hl;exact rfl
 have Fq0:=Bc (st:=Bf) lq0 eq0 kq0
 have bq0:=Fq0.binds (ps:=["self"]) λ_ _ _ _ _ _ us hl=>by obtain⟨_,rfl⟩:=L2.ex1 hl;exact rfl
 have Fq2:=Bc (st:=B3) lq2 eq2 kq2
 have bq2:=Fq2.binds (ps:=["self"]) λ_ _ _ _ _ _ us hl=>by obtain⟨_,rfl⟩:=L2.ex1 hl;exact rfl
 subst vqd
 have Fqd:=Qc (st:=Bk) lqd eqd kqd
 have bqd:Binds K (W.fnOf "__init__" "Changed.__init__" (An Bk) (Al Bk) (Ab Bk) (.ref tqd) kVqd dcqd pmqd anqd cdqd ctqd) ["self","rule","left","more","moved"] []:=λs us KX hl=>by obtain⟨_,_,_,_,_,rfl⟩:=L2.ex5 (us:=us) (by rw[Ahh] at hl;exact hl);exact Ahu rfl (KX _ _ wqd) xqd rfl rfl
 have Fq8:=Bc (st:=B7) lq8 eq8 kq8
 have bq8:=Fq8.binds (ps:=["self","day"]) λ_ _ _ _ _ _ us hl=>by obtain⟨_,_,rfl⟩:=L2.ex2 hl;exact rfl
 have Fqa:=Bc (st:=B2) lqa eqa kqa
 have bqa:=Fqa.binds (ps:=["self","begin","end"]) λ_ _ _ _ _ _ us hl=>by obtain⟨_,_,_,rfl⟩:=L2.ex3 hl;exact rfl
 subst vqr
 have Fqr:=Qc (st:=B6) lqr eqr kqr
 have bqr:Binds K (W.fnOf "__init__" "Again.__init__" (An B6) (Al B6) (Ab B6) (.ref tqr) kVqr dcqr pmqr anqr cdqr ctqr) ["self","rule","place","minute","length","exceptions"] []:=λs us KX hl=>by obtain⟨_,_,_,_,_,_,rfl⟩:=L2.ex6 (us:=us) (by rw[Ahh] at hl;exact hl);exact Ahu rfl (KX _ _ wqr) xqr rfl rfl
 have Fqv:=Bc (st:=Fj) lqv eqv kqv
 have bqv:=Fqv.binds (ps:=["self"]) λ_ _ _ _ _ _ us hl=>by obtain⟨_,rfl⟩:=L2.ex1 hl;exact rfl
 have Fq14:=Bc (st:=Jx) lq14 eq14 kq14
 have bq14:=Fq14.binds (ps:=["self","name"]) λ_ _ _ _ _ _ us hl=>by obtain⟨_,_,rfl⟩:=L2.ex2 hl;exact rfl
 have Fqu:=Bc (st:=Fy) lqu equ kqu
 have bqu:=Fqu.binds (ps:=["self"]) λ_ _ _ _ _ _ us hl=>by obtain⟨_,rfl⟩:=L2.ex1 hl;exact rfl
 have Fq1b:=Bc (st:=Lp) lq1b eq1b kq1b
 have bq1b:=Fq1b.binds (ps:=["_law_script","_law_k"]) λ_ _ _ _ _ _ us hl=>by obtain⟨_,_,rfl⟩:=L2.ex2 hl;exact rfl
 have Fq1f:=Bc (st:=Nh) lq1f eq1f kq1f
 have bq1f:=Fq1f.binds (ps:=["_law_state","_law_cell_here"]) λ_ _ _ _ _ _ us hl=>by obtain⟨_,_,rfl⟩:=L2.ex2 hl;exact rfl
 have Fq1a:=Bc (st:=Lr) lq1a eq1a kq1a
 have bq1a:=Fq1a.binds (ps:=["_law_e"]) λ_ _ _ _ _ _ us hl=>by obtain⟨_,rfl⟩:=L2.ex1 hl;exact rfl
 have Fq1g:=Bc (st:=Nj) lq1g eq1g kq1g
 have bq1g:=Fq1g.binds (ps:=["_law_plain","_law_kind","_law_name","_law_minute","_law_length","_law_good"]) λ_ _ _ _ _ _ us hl=>by obtain⟨_,_,_,_,_,_,rfl⟩:=L2.ex6 hl;exact rfl
 have Fq1e:=Bc (st:=Nf) lq1e eq1e kq1e
 have bq1e:=Fq1e.binds (ps:=["text"]) λ_ _ _ _ _ _ us hl=>by obtain⟨_,rfl⟩:=L2.ex1 hl;exact rfl
 have Fq11:=Bc (st:=G8) lq11 eq11 kq11
 have bq11:=Fq11.binds (ps:=["begin","end"]) λ_ _ _ _ _ _ us hl=>by obtain⟨_,_,rfl⟩:=L2.ex2 hl;exact rfl
 have Fq9:=Bc (st:=Co) lq9 eq9 kq9
 have bq9:=Fq9.binds (ps:=["number"]) λ_ _ _ _ _ _ us hl=>by obtain⟨_,rfl⟩:=L2.ex1 hl;exact rfl
 have Fqg:=Bc (st:=Dm) lqg eqg kqg
 have bqg:=Fqg.binds (ps:=["self","begin","end"]) λ_ _ _ _ _ _ us hl=>by obtain⟨_,_,_,rfl⟩:=L2.ex3 hl;exact rfl
 have Fqb:=Bc (st:=Cs) lqb eqb kqb
 have bqb:=Fqb.binds (ps:=["self","day"]) λ_ _ _ _ _ _ us hl=>by obtain⟨_,_,rfl⟩:=L2.ex2 hl;exact rfl
 have Fqh:=Bc (st:=Dg) lqh eqh kqh
 have bqh:=Fqh.binds (ps:=["changes"]) λ_ _ _ _ _ _ us hl=>by obtain⟨_,rfl⟩:=L2.ex1 hl;exact rfl
 have Fql:=Bc (st:=Di) lql eql kql
 have bql:=Fql.binds (ps:=["place","moment"]) λ_ _ _ _ _ _ us hl=>by obtain⟨_,_,rfl⟩:=L2.ex2 hl;exact rfl
 have Fq1:=Bc (st:=Bu) lq1 eq1 kq1
 have bq1:=Fq1.binds (ps:=["self","day"]) λ_ _ _ _ _ _ us hl=>by obtain⟨_,_,rfl⟩:=L2.ex2 hl;exact rfl
 have Fq6:=Bc (st:=Ca) lq6 eq6 kq6
 have bq6:=Fq6.binds (ps:=["day"]) λ_ _ _ _ _ _ us hl=>by obtain⟨_,rfl⟩:=L2.ex1 hl;exact rfl
 have Fqm:=Bc (st:=Dl) lqm eqm kqm
 have bqm:=Fqm.binds (ps:=["self","begin","end"]) λ_ _ _ _ _ _ us hl=>by obtain⟨_,_,_,rfl⟩:=L2.ex3 hl;exact rfl
 have Fq3:=Bc (st:=Bz) lq3 eq3 kq3
 have bq3:=Fq3.binds (ps:=["self","name"]) λ_ _ _ _ _ _ us hl=>by obtain⟨_,_,rfl⟩:=L2.ex2 hl;exact rfl
 have Fq18:=Bc (st:=Jq) lq18 eq18 kq18
 have bq18:=Fq18.binds (ps:=["_law_e"]) λ_ _ _ _ _ _ us hl=>by obtain⟨_,rfl⟩:=L2.ex1 hl;exact rfl
 subst vqn
 have Fqn:=Qc (st:=B5) lqn eqn kqn
 have bqn:Binds K (W.fnOf "__init__" "Every.__init__" (An B5) (Al B5) (Ab B5) (.ref tqn) kVqn dcqn pmqn anqn cdqn ctqn) ["self","step","first"] []:=λs us KX hl=>by obtain⟨_,_,_,rfl⟩:=L2.ex3 (us:=us) (by rw[Ahh] at hl;exact hl);exact Ahu rfl (KX _ _ wqn) xqn rfl rfl
 subst vqp
 have Fqp:=Qc (st:=Bn) lqp eqp kqp
 have bqp:Binds K (W.fnOf "__init__" "Place.__init__" (An Bn) (Al Bn) (Ab Bn) (.ref tqp) kVqp dcqp pmqp anqp cdqp ctqp) ["self","name","offset","changes"] []:=λs us KX hl=>by obtain⟨_,_,_,_,rfl⟩:=L2.ex4 (us:=us) (by rw[Ahh] at hl;exact hl);exact Ahu rfl (KX _ _ wqp) xqp rfl rfl
 have Fqw:=Bc (st:=Hj) lqw eqw kqw
 have bqw:=Fqw.binds (ps:=["place","day","minute"]) λ_ _ _ _ _ _ us hl=>by obtain⟨_,_,_,rfl⟩:=L2.ex3 hl;exact rfl
 have Fq15:=Bc (st:=Jw) lq15 eq15 kq15
 have bq15:=Fq15.binds (ps:=["place","local"]) λ_ _ _ _ _ _ us hl=>by obtain⟨_,_,rfl⟩:=L2.ex2 hl;exact rfl
 have Fqt:=Bc (st:=Fn) lqt eqt kqt
 have bqt:=Fqt.binds (ps:=["self","begin","end"]) λ_ _ _ _ _ _ us hl=>by obtain⟨_,_,_,rfl⟩:=L2.ex3 hl;exact rfl
 have Fqf:=Bc (st:=Ct) lqf eqf kqf
 have bqf:=Fqf.binds (ps:=["self","name"]) λ_ _ _ _ _ _ us hl=>by obtain⟨_,_,rfl⟩:=L2.ex2 hl;exact rfl
 subst vq17
 have Fq17:=Qc (st:=D6) lq17 eq17 kq17
 have bq17:Binds K (W.fnOf "moment_of" "moment_of" (An D6) (Al D6) (Ab D6) (.ref tq17) kVq17 dcq17 pmq17 anq17 cdq17 ctq17) ["place","day","minute","later"] []:=λs us KX hl=>by obtain⟨_,_,_,_,rfl⟩:=L2.ex4 (us:=us) (by rw[Ahh] at hl;exact hl);exact Ahu rfl (KX _ _ wq17) xq17 rfl rfl
 have Fq19:=Bc (st:=Js) lq19 eq19 kq19
 have bq19:=Fq19.binds (ps:=["self","name","begin","end"]) λ_ _ _ _ _ _ us hl=>by obtain⟨_,_,_,_,rfl⟩:=L2.ex4 hl;exact rfl
 have Fqz:=Bc (st:=Hi) lqz eqz kqz
 have bqz:=Fqz.binds (ps:=["self","name","rule","place","minute","length"]) λ_ _ _ _ _ _ us hl=>by obtain⟨_,_,_,_,_,_,rfl⟩:=L2.ex6 hl;exact rfl
 subst vq1d
 have Fq1d:=Qc (st:=Iz) lq1d eq1d kq1d
 have bq1d:Binds K (W.fnOf "days_of" "days_of" (An Iz) (Al Iz) (Ab Iz) (.ref tq1d) kVq1d dcq1d pmq1d anq1d cdq1d ctq1d) ["rule","begin","end"] []:=λs us KX hl=>by obtain⟨_,_,_,rfl⟩:=L2.ex3 (us:=us) (by rw[Ahh] at hl;exact hl);exact Ahu rfl (KX _ _ wq1d) xq1d rfl rfl
 have Fq7:=Bc (st:=B9) lq7 eq7 kq7
 have bq7:=Fq7.binds (ps:=["self","begin","end"]) λ_ _ _ _ _ _ us hl=>by obtain⟨_,_,_,rfl⟩:=L2.ex3 hl;exact rfl
 have Fqc:=Bc (st:=Bl) lqc eqc kqc
 have bqc:=Fqc.binds (ps:=["self","begin","end"]) λ_ _ _ _ _ _ us hl=>by obtain⟨_,_,_,rfl⟩:=L2.ex3 hl;exact rfl
 have Fq10:=Bc (st:=G6) lq10 eq10 kq10
 have bq10:=Fq10.binds (ps:=["self","begin","end"]) λ_ _ _ _ _ _ us hl=>by obtain⟨_,_,_,rfl⟩:=L2.ex3 hl;exact rfl
 have Fqk:=Bc (st:=Dj) lqk eqk kqk
 have bqk:=Fqk.binds (ps:=["self","left","more","moved"]) λ_ _ _ _ _ _ us hl=>by obtain⟨_,_,_,_,rfl⟩:=L2.ex4 hl;exact rfl
 have Fq5:=Bc (st:=B8) lq5 eq5 kq5
 have bq5:=Fq5.binds (ps:=["self","day","goal"]) λ_ _ _ _ _ _ us hl=>by obtain⟨_,_,_,rfl⟩:=L2.ex3 hl;exact rfl
 have Fq4:=Bc (st:=B4) lq4 eq4 kq4
 have bq4:=Fq4.binds (ps:=["self","day"]) λ_ _ _ _ _ _ us hl=>by obtain⟨_,_,rfl⟩:=L2.ex2 hl;exact rfl
 have Fqe:=Bc (st:=Cu) lqe eqe kqe
 have bqe:=Fqe.binds (ps:=["self","day"]) λ_ _ _ _ _ _ us hl=>by obtain⟨_,_,rfl⟩:=L2.ex2 hl;exact rfl
 have Fq12:=Bc (st:=G7) lq12 eq12 kq12
 have bq12:=Fq12.binds (ps:=["self","name","day"]) λ_ _ _ _ _ _ us hl=>by obtain⟨_,_,_,rfl⟩:=L2.ex3 hl;exact rfl
 have Fqx:=Bc (st:=G9) lqx eqx kqx
 have bqx:=Fqx.binds (ps:=["self","name","day","goal"]) λ_ _ _ _ _ _ us hl=>by obtain⟨_,_,_,_,rfl⟩:=L2.ex4 hl;exact rfl
 have Fqy:=Bc (st:=Hg) lqy eqy kqy
 have bqy:=Fqy.binds (ps:=["self","name","day"]) λ_ _ _ _ _ _ us hl=>by obtain⟨_,_,_,rfl⟩:=L2.ex3 hl;exact rfl
 have Fq16:=Bc (st:=Jv) lq16 eq16 kq16
 have bq16:=Fq16.binds (ps:=["_law_book","_law_kind","_law_name","_law_minute","_law_length"]) λ_ _ _ _ _ _ us hl=>by obtain⟨_,_,_,_,_,rfl⟩:=L2.ex5 hl;exact rfl
 have Fq1k:=Bc (st:=mr) lq1k eq1k kq1k
 have bq1k:=Fq1k.binds (ps:=["_law_script"]) λ_ _ _ _ _ _ us hl=>by obtain⟨_,rfl⟩:=L2.ex1 hl;exact rfl
 exact⟨{Mo:=fq13,Mr:=_,Rt:=fq1c,Q0:=_,Y0:=fq1j,Y1:=_,U4:=fq1h,Uw:=_,Kf:=fqo,J3:=_,Lb:=fqs,Lg:=_,Ji:=fqi,Jd:=_,Kj:=fqq,Ka:=_,Jj:=fqj,Hy:=_,U3:=fq1i,Ux:=_,Cz:=fq0,Cw:=_,D7:=fq2,Dw:=_,Gq:=fqd,G2:=_,Bt:=fq8,Bq:=_,By:=fqa,B0:=_,Kd:=fqr,F8:=_,Ld:=fqv,Lj:=_,N6:=fq14,Nx:=_,Lc:=fqu,Ln:=_,Pk:=fq1b,Pd:=_,Rh:=fq1f,Qu:=_,Pj:=fq1a,Pf:=_,R8:=fq1g,Q2:=_,Q5:=fq1e,Rp:=_,Mm:=fq11,L9:=_,Fm:=fq9,Fq:=_,Hu:=fqg,Io:=_,Gv:=fqb,Gm:=_,Iu:=fqh,Ja:=_,Jg:=fql,Ir:=_,C6:=fq1,C8:=_,Ey:=fq6,Ex:=_,Il:=fqm,Hx:=_,D9:=fq3,Dx:=_,N4:=fq18,Ny:=_,J8:=fqn,J4:=_,Ke:=fqp,F3:=_,Mh:=fqw,Mg:=_,N7:=fq15,N5:=_,Li:=fqt,Lh:=_,Gp:=fqf,Gu:=_,Nq:=fq17,Lw:=_,Nu:=fq19,N1:=_,Mn:=fqz,Md:=_,Rw:=fq1d,Rj:=_,E3:=fq7,Er:=_,Gw:=fqc,Gn:=_,Mt:=fq10,Ms:=_,Iq:=fqk,Ik:=_,Ep:=fq5,Et:=_,Dv:=fq4,Dy:=_,Gz:=fqe,Gr:=_,Mc:=fq12,Mf:=_,Ma:=fqx,Ml:=_,Mj:=fqy,Mp:=_,N2:=fq16,Nr:=_,kn:=fq1k,e8:=_,Ni:=Ni,Fl:=Fl,Ap:=Ap,Bb:=Bb,Ao:=Ao,Jr:=Jr,Fi:=Fi,Cm:=Cm,Bx:=Bx,Dp:=Dp,Fu:=Fu,Am:=Am,Fs:=Fs,Ad:=Ad,Fv:=Fv,Aq:=Aq,A3:=A3,Ai:=Ai,A7:=A7,Bo:=Bo,A0:=A0},⟨Fq13,Ag9 X G aq13,bq13,Fq1c,Ag9 X G aq1c,bq1c,Fq1j,Ag9 X G aq1j,bq1j,Fq1h,Ag9 X G aq1h,bq1h,Fqo,Ag9 X G aqo,bqo,Fqs,Ag9 X G aqs,bqs,Fqi,bqi,Fqq,Ag9 X G aqq,bqq,Fqj,Ag9 X G aqj,bqj,Fq1i,Ag9 X G aq1i,bq1i,Fq0,bq0,Fq2,bq2,Fqd,bqd,Fq8,bq8,Fqa,bqa,Fqr,bqr,⟨[.int 0 uqr_0],(λs us KX hl=>by obtain⟨_,_,_,_,_,rfl⟩:=L2.ex5 (show us.length=5 by rw[Agw] at hl;simpa using hl);exact Ahu rfl (KX _ _ wqr) xqr rfl rfl),(.cons (⟨_,rfl⟩) .nil)⟩,Fqv,bqv,Fq14,bq14,Fqu,bqu,Fq1b,Ag9 X G aq1b,bq1b,Fq1f,Ag9 X G aq1f,bq1f,Fq1a,Ag9 X G aq1a,bq1a,Fq1g,Ag9 X G aq1g,bq1g,Fq1e,Ag9 X G aq1e,bq1e,Fq11,Ag9 X G aq11,bq11,Fq9,Ag9 X G aq9,bq9,Fqg,bqg,Fqb,bqb,Fqh,Ag9 X G aqh,bqh,Fql,Ag9 X G aql,bql,Fq1,bq1,Fq6,Ag9 X G aq6,bq6,Fqm,bqm,Fq3,bq3,Fq18,Ag9 X G aq18,bq18,Fqn,bqn,Fqp,bqp,⟨[.none],(λs us KX hl=>by obtain⟨_,_,_,rfl⟩:=L2.ex3 (show us.length=3 by rw[Agw] at hl;simpa using hl);exact Ahu rfl (KX _ _ wqp) xqp rfl rfl),(.cons (rfl) .nil)⟩,Fqw,Ag9 X G aqw,bqw,Fq15,Ag9 X G aq15,bq15,Fqt,bqt,Fqf,bqf,Fq17,Ag9 X G aq17,bq17,⟨[.bool false],(λs us KX hl=>by obtain⟨_,_,_,rfl⟩:=L2.ex3 (show us.length=3 by rw[Agw] at hl;simpa using hl);exact Ahu rfl (KX _ _ wq17) xq17 rfl rfl),(.cons (rfl) .nil)⟩,Fq19,bq19,Fqz,bqz,Fq1d,Ag9 X G aq1d,bq1d,Fq7,bq7,Fqc,bqc,Fq10,bq10,Fqk,bqk,Fq5,bq5,Fq4,bq4,Fqe,bqe,Fq12,bq12,Fqx,bqx,Fqy,bqy,Fq16,Ag9 X G aq16,bq16,Fq1k,Ag9 X G aq1k,bq1k,⟨_,Ag9 X G Qv⟩,⟨_,Ag9 X G Cj⟩,⟨_,Ag9 X G O1⟩,⟨_,Ag9 X G M7⟩,⟨_,Ag9 X G Gd⟩,⟨_,Ag9 X G Dd⟩,⟨_,Ag9 X G Ii⟩,⟨_,Ag9 X G Bp⟩,⟨_,Ag9 X G Iw⟩,⟨_,Ag9 X G Ko⟩,Ag9 X G de,Ag9 X G Sa,Ag9 X G Tz,x_Full',Ag9 X G Kl,⟨ct_HouseError,cb_HouseError⟩,Ag9 X G Ql,x_Known',Ag9 X G U8,Ag9 X G Rr,Ag9 X G Nb,Ag9 X G Lz,Ag9 X G Pc,Ag9 X G Rm,Ag9 X G Pp,x_NoSpan',Ag9 X G R9,Ag9 X G E6,x_NoThing',Ag9 X G Rq,Dt,Ay,Cb,Bg,⟨jt e5_NoSpan,e0_NoSpan,e1_NoSpan,e2_NoSpan,e3_NoSpan,e4_NoSpan,e5_NoSpan,e6_NoSpan⟩,Kc,Hs,I0,G0,Hr,Gx,Kh,La,Ft,Ih,Ht,Ez,Ip,Lk,Dz,⟨jt e5_NoThing,e0_NoThing,e1_NoThing,e2_NoThing,e3_NoThing,e4_NoThing,e5_NoThing,e6_NoThing⟩,Fc,Ee,Ea,Dc,Ef,Cn,E8,Gj,C0,Ei,Eg,Cq,Ed,Gh,Ci,⟨jt e5_Known,e0_Known,e1_Known,e2_Known,e3_Known,e4_Known,e5_Known,e6_Known⟩,Ho,F7,F4,E4,Gb,Dq,Fx,Kn,Ec,F6,Gk,Dk,Gf,Kp,C4,⟨jt e5_Full,e0_Full,e1_Full,e2_Full,e3_Full,e4_Full,e5_Full,e6_Full⟩,Kq,Jf,Hn,F5,Hm,En,Hh,Ju,Fd,Iv,Jh,Eh,Im,L6,Dh,⟨io0_Again,io1_Again,io2_Again,io3_Again⟩,⟨io0_Once,io1_Once,io2_Once,io3_Once⟩,Gi,Ig,Q8,Ag9 X G aC_Again,⟨pg_Again,hd_Again,po_Again,sa_Again⟩,⟨Pl,aqr,iqr,kc_Again⟩,nf_rule_Again,nf_place_Again,nf_minute_Again,nf_length_Again,nf_exceptions_Again,⟨aqk,iqk,kqk⟩,⟨aq7,iq7,kq7⟩,⟨aqc,iqc,kqc⟩,⟨aqe,iqe,kqe⟩,⟨aq5,iq5,kq5⟩,⟨aq4,iq4,kq4⟩,Ag9 X G aC_Book,⟨pg_Book,hd_Book,po_Book,sa_Book⟩,⟨Wv,aqu,iqu,kc_Book⟩,nf_by_name_Book,⟨aqz,iqz,kqz⟩,⟨aqf,iqf,kqf⟩,⟨aq3,iq3,kq3⟩,⟨aq14,iq14,kq14⟩,⟨aqy,iqy,kqy⟩,⟨aq12,iq12,kq12⟩,⟨aq19,iq19,kq19⟩,⟨aqx,iqx,kqx⟩,⟨aq10,iq10,kq10⟩,⟨aqv,iqv,kqv⟩,Ag9 X G aC_Changed,⟨pg_Changed,hd_Changed,po_Changed,sa_Changed⟩,⟨Ng,aqd,iqd,kc_Changed⟩,nf_rule_Changed,nf_left_Changed,nf_more_Changed,nf_moved_Changed,nf_gained_Changed,nf_lost_Changed,⟨aq0,iq0,kq0⟩,⟨aqa,iqa,kqa⟩,⟨aq2,iq2,kq2⟩,⟨aq8,iq8,kq8⟩,⟨aq1,iq1,kq1⟩,Ag9 X G aC_Every,⟨pg_Every,hd_Every,po_Every,sa_Every⟩,⟨R3,aqn,iqn,kc_Every⟩,nf_step_Every,nf_first_Every,⟨aqg,iqg,kqg⟩,⟨aqb,iqb,kqb⟩,⟨aqi,iqi,kqi⟩,Ag9 X G aC_Once,⟨pg_Once,hd_Once,po_Once,sa_Once⟩,⟨V7,aqt,iqt,kc_Once⟩,nf_begin_Once,nf_end_Once,⟨aqm,iqm,kqm⟩,Ag9 X G aC_Place,⟨pg_Place,hd_Place,po_Place,sa_Place⟩,⟨Qt,aqp,iqp,kc_Place⟩,nf_name_Place,nf_offset_Place,nf_changes_Place,nf_moments_Place,Ail X G Kv,Ail X G ur,Ail X G Np,Ail X G Aw,Ail X G Rx,Ail X G Tg,Ail X G g6,Ail X G cn,Ail X G Nz,Ail X G gf,Ail X G Le,Ail X G My⟩,rfl,λs v=>.of_eq rfl⟩
end K54
namespace K54
open PySem L2
theorem walk {l:W.OpenLaw}{q:Program}{loose:List Str}{XP:(Str->Option Value)->Heap->Prop}{YP:World->Heap->Prop}{d:DefRec}{K:Params->W.Frag}(hn:l.most=some 63)(hdf:d.params.defaults=[])
  (hY:∀(w:World)(h:Heap),YP w h->(K w.params).In h)
  (F:∀(w:World)(mg:Str->Option Value)(fa:Addr)(h:Heap),(K w.params).In h->h.Ns mainGlobals mg->mg d.name=some (.ref fa)->
   ∃fd:FuncData,(∀(s:Shared)(u:Value),BindsTo s fd ⟨[u],[]⟩ [("_law_script",u)])/\∀base:Heap,(K w.params).In base->base.Ns mainGlobals mg->FnOk l.prog w (K w.params) mg base CX0 true 46 fa fd ["_law_script"] (jf (K w.params))):
  W.WalkO q loose XP YP l.row.toRowW d [] (λf vs=>PySem.call f vs):=
 L2.Abq (cm:=true) (n:=63) (k:=46) (x:="_law_script") (CX:=λ_=>CX0) (sp:=λw=>jf (K w.params)) hn (by decide) hdf ⟨λ_=>rfl,by decide,by decide⟩ hY F (λ_ _ a ns hl _ hS=>⟨a,ns,rfl,hS,hl,λ_=>rfl⟩) λ_ _ _ _ _ z=>z
theorem all_ok {l:W.OpenLaw}{w:World}{K:W.Frag}{mg:Str->Option Value}{fa f:Addr}(hfa:mg "law"=some (.ref fa))
  (h:∃a:Adr,Txt K mg a/\a.kn=f/\∀(s:Shared)(v:Value),BindsTo s a.e8 ⟨[v],[]⟩ [("_law_script",v)]):
  ∃fd:FuncData,(∀(s:Shared)(u:Value),BindsTo s fd ⟨[u],[]⟩ [("_law_script",u)])/\∀base:Heap,K.In base->base.Ns mainGlobals mg->FnOk l.prog w K mg base CX0 true 46 fa fd ["_law_script"] (jf K):=by
 obtain⟨a,T,_,hb⟩:=h
 have e:=T.Ad0
 rw[hfa] at e
 cases e
 exact⟨a.e8,hb,λbase _ _=>Ac5 T⟩
end K54
open PySem PySem.W PyProof.Rows
set_option maxRecDepth 100000 in
set_option maxHeartbeats 0 in
theorem PySem.Challenge.cw_hourhouse_k54_things_refused_holds : PySem.Challenge.rw_hourhouse_k54_things_refused.Holds := by
 w_on; o_law; k_head; (case hw => w_witness2)
 k_fill
 refine K54.walk (l := PySem.Challenge.rw_hourhouse_k54_things_refused) rfl rfl (λ w h Y => W.kIn_of Y) ?F
 case F =>
  intro w mg fa h KX G hmg
  refine' K54.all_ok hmg (K54.txt_mk KX G ?aC_Again ?pg_Again ?hd_Again ?po_Again ?sa_Again ?Pl ?kc_Again ?nf_rule_Again ?nf_place_Again ?nf_minute_Again ?nf_length_Again ?nf_exceptions_Again ?aC_Book ?pg_Book ?hd_Book ?po_Book ?sa_Book ?Wv ?kc_Book ?nf_by_name_Book ?aC_Changed ?pg_Changed ?hd_Changed ?po_Changed ?sa_Changed ?Ng ?kc_Changed ?nf_rule_Changed ?nf_left_Changed ?nf_more_Changed ?nf_moved_Changed ?nf_gained_Changed ?nf_lost_Changed ?aC_Every ?pg_Every ?hd_Every ?po_Every ?sa_Every ?R3 ?kc_Every ?nf_step_Every ?nf_first_Every ?aC_Once ?pg_Once ?hd_Once ?po_Once ?sa_Once ?V7 ?kc_Once ?nf_begin_Once ?nf_end_Once ?aC_Place ?pg_Place ?hd_Place ?po_Place ?sa_Place ?Qt ?kc_Place ?nf_name_Place ?nf_offset_Place ?nf_changes_Place ?nf_moments_Place ?aq13 ?lq13 ?eq13 ?kq13 ?aq1c ?lq1c ?eq1c ?kq1c ?aq1j ?lq1j ?eq1j ?kq1j ?aq1h ?lq1h ?eq1h ?kq1h ?aqo ?lqo ?eqo ?kqo ?aqs ?lqs ?eqs ?kqs ?aqi ?lqi ?eqi ?kqi ?iqi ?vqi ?wqi ?xqi ?aqq ?lqq ?eqq ?kqq ?aqj ?lqj ?eqj ?kqj ?aq1i ?lq1i ?eq1i ?kq1i ?aq0 ?lq0 ?eq0 ?kq0 ?iq0 ?aq2 ?lq2 ?eq2 ?kq2 ?iq2 ?aqd ?lqd ?eqd ?kqd ?iqd ?vqd ?wqd ?xqd ?aq8 ?lq8 ?eq8 ?kq8 ?iq8 ?aqa ?lqa ?eqa ?kqa ?iqa ?aqr ?lqr ?eqr ?kqr ?iqr ?vqr ?wqr ?xqr ?aqv ?lqv ?eqv ?kqv ?iqv ?aq14 ?lq14 ?eq14 ?kq14 ?iq14 ?aqu ?lqu ?equ ?kqu ?iqu ?aq1b ?lq1b ?eq1b ?kq1b ?aq1f ?lq1f ?eq1f ?kq1f ?aq1a ?lq1a ?eq1a ?kq1a ?aq1g ?lq1g ?eq1g ?kq1g ?aq1e ?lq1e ?eq1e ?kq1e ?aq11 ?lq11 ?eq11 ?kq11 ?aq9 ?lq9 ?eq9 ?kq9 ?aqg ?lqg ?eqg ?kqg ?iqg ?aqb ?lqb ?eqb ?kqb ?iqb ?aqh ?lqh ?eqh ?kqh ?aql ?lql ?eql ?kql ?aq1 ?lq1 ?eq1 ?kq1 ?iq1 ?aq6 ?lq6 ?eq6 ?kq6 ?aqm ?lqm ?eqm ?kqm ?iqm ?aq3 ?lq3 ?eq3 ?kq3 ?iq3 ?aq18 ?lq18 ?eq18 ?kq18 ?aqn ?lqn ?eqn ?kqn ?iqn ?vqn ?wqn ?xqn ?aqp ?lqp ?eqp ?kqp ?iqp ?vqp ?wqp ?xqp ?aqw ?lqw ?eqw ?kqw ?aq15 ?lq15 ?eq15 ?kq15 ?aqt ?lqt ?eqt ?kqt ?iqt ?aqf ?lqf ?eqf ?kqf ?iqf ?aq17 ?lq17 ?eq17 ?kq17 ?vq17 ?wq17 ?xq17 ?aq19 ?lq19 ?eq19 ?kq19 ?iq19 ?aqz ?lqz ?eqz ?kqz ?iqz ?aq1d ?lq1d ?eq1d ?kq1d ?vq1d ?wq1d ?xq1d ?aq7 ?lq7 ?eq7 ?kq7 ?iq7 ?aqc ?lqc ?eqc ?kqc ?iqc ?aq10 ?lq10 ?eq10 ?kq10 ?iq10 ?aqk ?lqk ?eqk ?kqk ?iqk ?aq5 ?lq5 ?eq5 ?kq5 ?iq5 ?aq4 ?lq4 ?eq4 ?kq4 ?iq4 ?aqe ?lqe ?eqe ?kqe ?iqe ?aq12 ?lq12 ?eq12 ?kq12 ?iq12 ?aqx ?lqx ?eqx ?kqx ?iqx ?aqy ?lqy ?eqy ?kqy ?iqy ?aq16 ?lq16 ?eq16 ?kq16 ?aq1k ?lq1k ?eq1k ?kq1k ?Qv ?Cj ?O1 ?M7 ?Gd ?Dd ?Ii ?Bp ?Iw ?Ko ?de ?Sa ?Tz ?x_Full' ?Kl ?ct_HouseError ?cb_HouseError ?Ql ?x_Known' ?U8 ?Rr ?Nb ?Lz ?Pc ?Rm ?Pp ?x_NoSpan' ?R9 ?E6 ?x_NoThing' ?Rq ?Dt ?Ay ?Cb ?Bg ?e0_NoSpan ?e1_NoSpan ?e2_NoSpan ?e3_NoSpan ?e4_NoSpan ?e5_NoSpan ?e6_NoSpan ?Kc ?Hs ?I0 ?G0 ?Hr ?Gx ?Kh ?La ?Ft ?Ih ?Ht ?Ez ?Ip ?Lk ?Dz ?e0_NoThing ?e1_NoThing ?e2_NoThing ?e3_NoThing ?e4_NoThing ?e5_NoThing ?e6_NoThing ?Fc ?Ee ?Ea ?Dc ?Ef ?Cn ?E8 ?Gj ?C0 ?Ei ?Eg ?Cq ?Ed ?Gh ?Ci ?e0_Known ?e1_Known ?e2_Known ?e3_Known ?e4_Known ?e5_Known ?e6_Known ?Ho ?F7 ?F4 ?E4 ?Gb ?Dq ?Fx ?Kn ?Ec ?F6 ?Gk ?Dk ?Gf ?Kp ?C4 ?e0_Full ?e1_Full ?e2_Full ?e3_Full ?e4_Full ?e5_Full ?e6_Full ?Kq ?Jf ?Hn ?F5 ?Hm ?En ?Hh ?Ju ?Fd ?Iv ?Jh ?Eh ?Im ?L6 ?Dh ?io0_Again ?io1_Again ?io2_Again ?io3_Again ?io0_Once ?io1_Once ?io2_Once ?io3_Once ?Gi ?Ig ?Q8 ?Kv ?ur ?Np ?Aw ?Rx ?Tg ?g6 ?cn ?Nz ?gf ?Le ?My)
  (case aC_Again => k_is)
  (case pg_Again => k_is)
  (case hd_Again => k_is)
  (case po_Again => k_is)
  (case sa_Again => k_is)
  (case Pl => k_is)
  (case kc_Again => k_is)
  (case nf_rule_Again => k_is)
  (case nf_place_Again => k_is)
  (case nf_minute_Again => k_is)
  (case nf_length_Again => k_is)
  (case nf_exceptions_Again => k_is)
  (case aC_Book => k_is)
  (case pg_Book => k_is)
  (case hd_Book => k_is)
  (case po_Book => k_is)
  (case sa_Book => k_is)
  (case Wv => k_is)
  (case kc_Book => k_is)
  (case nf_by_name_Book => k_is)
  (case aC_Changed => k_is)
  (case pg_Changed => k_is)
  (case hd_Changed => k_is)
  (case po_Changed => k_is)
  (case sa_Changed => k_is)
  (case Ng => k_is)
  (case kc_Changed => k_is)
  (case nf_rule_Changed => k_is)
  (case nf_left_Changed => k_is)
  (case nf_more_Changed => k_is)
  (case nf_moved_Changed => k_is)
  (case nf_gained_Changed => k_is)
  (case nf_lost_Changed => k_is)
  (case aC_Every => k_is)
  (case pg_Every => k_is)
  (case hd_Every => k_is)
  (case po_Every => k_is)
  (case sa_Every => k_is)
  (case R3 => k_is)
  (case kc_Every => k_is)
  (case nf_step_Every => k_is)
  (case nf_first_Every => k_is)
  (case aC_Once => k_is)
  (case pg_Once => k_is)
  (case hd_Once => k_is)
  (case po_Once => k_is)
  (case sa_Once => k_is)
  (case V7 => k_is)
  (case kc_Once => k_is)
  (case nf_begin_Once => k_is)
  (case nf_end_Once => k_is)
  (case aC_Place => k_is)
  (case pg_Place => k_is)
  (case hd_Place => k_is)
  (case po_Place => k_is)
  (case sa_Place => k_is)
  (case Qt => k_is)
  (case kc_Place => k_is)
  (case nf_name_Place => k_is)
  (case nf_offset_Place => k_is)
  (case nf_changes_Place => k_is)
  (case nf_moments_Place => k_is)
  (case aq13 => k_is)
  (case lq13 => k_is)
  (case eq13 => k_is)
  (case kq13 => k_is)
  (case aq1c => k_is)
  (case lq1c => k_is)
  (case eq1c => k_is)
  (case kq1c => k_is)
  (case aq1j => k_is)
  (case lq1j => k_is)
  (case eq1j => k_is)
  (case kq1j => k_is)
  (case aq1h => k_is)
  (case lq1h => k_is)
  (case eq1h => k_is)
  (case kq1h => k_is)
  (case aqo => k_is)
  (case lqo => k_is)
  (case eqo => k_is)
  (case kqo => k_is)
  (case aqs => k_is)
  (case lqs => k_is)
  (case eqs => k_is)
  (case kqs => k_is)
  (case aqi => k_is)
  (case lqi => k_is)
  (case eqi => k_is)
  (case kqi => k_is)
  (case iqi => k_is)
  (case vqi => rfl)
  (case wqi => k_is)
  (case xqi => rfl)
  (case aqq => k_is)
  (case lqq => k_is)
  (case eqq => k_is)
  (case kqq => k_is)
  (case aqj => k_is)
  (case lqj => k_is)
  (case eqj => k_is)
  (case kqj => k_is)
  (case aq1i => k_is)
  (case lq1i => k_is)
  (case eq1i => k_is)
  (case kq1i => k_is)
  (case aq0 => k_is)
  (case lq0 => k_is)
  (case eq0 => k_is)
  (case kq0 => k_is)
  (case iq0 => k_is)
  (case aq2 => k_is)
  (case lq2 => k_is)
  (case eq2 => k_is)
  (case kq2 => k_is)
  (case iq2 => k_is)
  (case aqd => k_is)
  (case lqd => k_is)
  (case eqd => k_is)
  (case kqd => k_is)
  (case iqd => k_is)
  (case vqd => rfl)
  (case wqd => k_is)
  (case xqd => rfl)
  (case aq8 => k_is)
  (case lq8 => k_is)
  (case eq8 => k_is)
  (case kq8 => k_is)
  (case iq8 => k_is)
  (case aqa => k_is)
  (case lqa => k_is)
  (case eqa => k_is)
  (case kqa => k_is)
  (case iqa => k_is)
  (case aqr => k_is)
  (case lqr => k_is)
  (case eqr => k_is)
  (case kqr => k_is)
  (case iqr => k_is)
  (case vqr => rfl)
  (case wqr => k_is)
  (case xqr => rfl)
  (case aqv => k_is)
  (case lqv => k_is)
  (case eqv => k_is)
  (case kqv => k_is)
  (case iqv => k_is)
  (case aq14 => k_is)
  (case lq14 => k_is)
  (case eq14 => k_is)
  (case kq14 => k_is)
  (case iq14 => k_is)
  (case aqu => k_is)
  (case lqu => k_is)
  (case equ => k_is)
  (case kqu => k_is)
  (case iqu => k_is)
  (case aq1b => k_is)
  (case lq1b => k_is)
  (case eq1b => k_is)
  (case kq1b => k_is)
  (case aq1f => k_is)
  (case lq1f => k_is)
  (case eq1f => k_is)
  (case kq1f => k_is)
  (case aq1a => k_is)
  (case lq1a => k_is)
  (case eq1a => k_is)
  (case kq1a => k_is)
  (case aq1g => k_is)
  (case lq1g => k_is)
  (case eq1g => k_is)
  (case kq1g => k_is)
  (case aq1e => k_is)
  (case lq1e => k_is)
  (case eq1e => k_is)
  (case kq1e => k_is)
  (case aq11 => k_is)
  (case lq11 => k_is)
  (case eq11 => k_is)
  (case kq11 => k_is)
  (case aq9 => k_is)
  (case lq9 => k_is)
  (case eq9 => k_is)
  (case kq9 => k_is)
  (case aqg => k_is)
  (case lqg => k_is)
  (case eqg => k_is)
  (case kqg => k_is)
  (case iqg => k_is)
  (case aqb => k_is)
  (case lqb => k_is)
  (case eqb => k_is)
  (case kqb => k_is)
  (case iqb => k_is)
  (case aqh => k_is)
  (case lqh => k_is)
  (case eqh => k_is)
  (case kqh => k_is)
  (case aql => k_is)
  (case lql => k_is)
  (case eql => k_is)
  (case kql => k_is)
  (case aq1 => k_is)
  (case lq1 => k_is)
  (case eq1 => k_is)
  (case kq1 => k_is)
  (case iq1 => k_is)
  (case aq6 => k_is)
  (case lq6 => k_is)
  (case eq6 => k_is)
  (case kq6 => k_is)
  (case aqm => k_is)
  (case lqm => k_is)
  (case eqm => k_is)
  (case kqm => k_is)
  (case iqm => k_is)
  (case aq3 => k_is)
  (case lq3 => k_is)
  (case eq3 => k_is)
  (case kq3 => k_is)
  (case iq3 => k_is)
  (case aq18 => k_is)
  (case lq18 => k_is)
  (case eq18 => k_is)
  (case kq18 => k_is)
  (case aqn => k_is)
  (case lqn => k_is)
  (case eqn => k_is)
  (case kqn => k_is)
  (case iqn => k_is)
  (case vqn => rfl)
  (case wqn => k_is)
  (case xqn => rfl)
  (case aqp => k_is)
  (case lqp => k_is)
  (case eqp => k_is)
  (case kqp => k_is)
  (case iqp => k_is)
  (case vqp => rfl)
  (case wqp => k_is)
  (case xqp => rfl)
  (case aqw => k_is)
  (case lqw => k_is)
  (case eqw => k_is)
  (case kqw => k_is)
  (case aq15 => k_is)
  (case lq15 => k_is)
  (case eq15 => k_is)
  (case kq15 => k_is)
  (case aqt => k_is)
  (case lqt => k_is)
  (case eqt => k_is)
  (case kqt => k_is)
  (case iqt => k_is)
  (case aqf => k_is)
  (case lqf => k_is)
  (case eqf => k_is)
  (case kqf => k_is)
  (case iqf => k_is)
  (case aq17 => k_is)
  (case lq17 => k_is)
  (case eq17 => k_is)
  (case kq17 => k_is)
  (case vq17 => rfl)
  (case wq17 => k_is)
  (case xq17 => rfl)
  (case aq19 => k_is)
  (case lq19 => k_is)
  (case eq19 => k_is)
  (case kq19 => k_is)
  (case iq19 => k_is)
  (case aqz => k_is)
  (case lqz => k_is)
  (case eqz => k_is)
  (case kqz => k_is)
  (case iqz => k_is)
  (case aq1d => k_is)
  (case lq1d => k_is)
  (case eq1d => k_is)
  (case kq1d => k_is)
  (case vq1d => rfl)
  (case wq1d => k_is)
  (case xq1d => rfl)
  (case aq7 => k_is)
  (case lq7 => k_is)
  (case eq7 => k_is)
  (case kq7 => k_is)
  (case iq7 => k_is)
  (case aqc => k_is)
  (case lqc => k_is)
  (case eqc => k_is)
  (case kqc => k_is)
  (case iqc => k_is)
  (case aq10 => k_is)
  (case lq10 => k_is)
  (case eq10 => k_is)
  (case kq10 => k_is)
  (case iq10 => k_is)
  (case aqk => k_is)
  (case lqk => k_is)
  (case eqk => k_is)
  (case kqk => k_is)
  (case iqk => k_is)
  (case aq5 => k_is)
  (case lq5 => k_is)
  (case eq5 => k_is)
  (case kq5 => k_is)
  (case iq5 => k_is)
  (case aq4 => k_is)
  (case lq4 => k_is)
  (case eq4 => k_is)
  (case kq4 => k_is)
  (case iq4 => k_is)
  (case aqe => k_is)
  (case lqe => k_is)
  (case eqe => k_is)
  (case kqe => k_is)
  (case iqe => k_is)
  (case aq12 => k_is)
  (case lq12 => k_is)
  (case eq12 => k_is)
  (case kq12 => k_is)
  (case iq12 => k_is)
  (case aqx => k_is)
  (case lqx => k_is)
  (case eqx => k_is)
  (case kqx => k_is)
  (case iqx => k_is)
  (case aqy => k_is)
  (case lqy => k_is)
  (case eqy => k_is)
  (case kqy => k_is)
  (case iqy => k_is)
  (case aq16 => k_is)
  (case lq16 => k_is)
  (case eq16 => k_is)
  (case kq16 => k_is)
  (case aq1k => k_is)
  (case lq1k => k_is)
  (case eq1k => k_is)
  (case kq1k => k_is)
  (case Qv => k_is)
  (case Cj => k_is)
  (case O1 => k_is)
  (case M7 => k_is)
  (case Gd => k_is)
  (case Dd => k_is)
  (case Ii => k_is)
  (case Bp => k_is)
  (case Iw => k_is)
  (case Ko => k_is)
  (case de => k_is)
  (case Sa => k_is)
  (case Tz => k_is)
  (case x_Full' => k_exc)
  (case Kl => k_is)
  (case ct_HouseError => k_is)
  (case cb_HouseError => k_is)
  (case Ql => k_is)
  (case x_Known' => k_exc)
  (case U8 => k_is)
  (case Rr => k_is)
  (case Nb => k_is)
  (case Lz => k_is)
  (case Pc => k_is)
  (case Rm => k_is)
  (case Pp => k_is)
  (case x_NoSpan' => k_exc)
  (case R9 => k_is)
  (case E6 => k_is)
  (case x_NoThing' => k_exc)
  (case Rq => k_is)
  (case Dt => k_is)
  (case Ay => k_is)
  (case Cb => k_is)
  (case Bg => k_is)
  (case e0_NoSpan => k_is)
  (case e1_NoSpan => k_is)
  (case e2_NoSpan => k_is)
  (case e3_NoSpan => k_is)
  (case e4_NoSpan => k_is)
  (case e5_NoSpan => k_is)
  (case e6_NoSpan => k_is)
  (case Kc => kit_is)
  (case Hs => kit_is)
  (case I0 => kit_is)
  (case G0 => kit_is)
  (case Hr => kit_is)
  (case Gx => kit_is)
  (case Kh => kit_is)
  (case La => kit_is)
  (case Ft => kit_is)
  (case Ih => kit_is)
  (case Ht => kit_is)
  (case Ez => kit_is)
  (case Ip => kit_is)
  (case Lk => kit_is)
  (case Dz => kit_is)
  (case e0_NoThing => k_is)
  (case e1_NoThing => k_is)
  (case e2_NoThing => k_is)
  (case e3_NoThing => k_is)
  (case e4_NoThing => k_is)
  (case e5_NoThing => k_is)
  (case e6_NoThing => k_is)
  (case Fc => kit_is)
  (case Ee => kit_is)
  (case Ea => kit_is)
  (case Dc => kit_is)
  (case Ef => kit_is)
  (case Cn => kit_is)
  (case E8 => kit_is)
  (case Gj => kit_is)
  (case C0 => kit_is)
  (case Ei => kit_is)
  (case Eg => kit_is)
  (case Cq => kit_is)
  (case Ed => kit_is)
  (case Gh => kit_is)
  (case Ci => kit_is)
  (case e0_Known => k_is)
  (case e1_Known => k_is)
  (case e2_Known => k_is)
  (case e3_Known => k_is)
  (case e4_Known => k_is)
  (case e5_Known => k_is)
  (case e6_Known => k_is)
  (case Ho => kit_is)
  (case F7 => kit_is)
  (case F4 => kit_is)
  (case E4 => kit_is)
  (case Gb => kit_is)
  (case Dq => kit_is)
  (case Fx => kit_is)
  (case Kn => kit_is)
  (case Ec => kit_is)
  (case F6 => kit_is)
  (case Gk => kit_is)
  (case Dk => kit_is)
  (case Gf => kit_is)
  (case Kp => kit_is)
  (case C4 => kit_is)
  (case e0_Full => k_is)
  (case e1_Full => k_is)
  (case e2_Full => k_is)
  (case e3_Full => k_is)
  (case e4_Full => k_is)
  (case e5_Full => k_is)
  (case e6_Full => k_is)
  (case Kq => kit_is)
  (case Jf => kit_is)
  (case Hn => kit_is)
  (case F5 => kit_is)
  (case Hm => kit_is)
  (case En => kit_is)
  (case Hh => kit_is)
  (case Ju => kit_is)
  (case Fd => kit_is)
  (case Iv => kit_is)
  (case Jh => kit_is)
  (case Eh => kit_is)
  (case Im => kit_is)
  (case L6 => kit_is)
  (case Dh => kit_is)
  (case io0_Again => k_is)
  (case io1_Again => k_is)
  (case io2_Again => k_is)
  (case io3_Again => k_is)
  (case io0_Once => k_is)
  (case io1_Once => k_is)
  (case io2_Once => k_is)
  (case io3_Once => k_is)
  (case Gi => kit_is)
  (case Ig => kit_is)
  (case Q8 => kit_is)
  (case Kv => k_is)
  (case ur => k_is)
  (case Np => k_is)
  (case Aw => k_is)
  (case Rx => k_is)
  (case Tg => k_is)
  (case g6 => k_is)
  (case cn => k_is)
  (case Nz => k_is)
  (case gf => k_is)
  (case Le => k_is)
  (case My => k_is)
