import PyProof.Rows.All
import Wide.All
import OpenK.AllK
import Wide.FinOn
import Lean
import PyProof.EqAt
import PyProof.EqKinds
import PyProof.TupleCall
import PySem.Challenge.RW_hourhouse_k51_things_that_come_once
set_option Elab.async false
set_option linter.all false
set_option maxRecDepth 100000
/-! These names are taken so that the head makes no twins of its heaps, trees and objects: the compiled file would be too big. Nothing refers to them, and they prove nothing. -/
namespace PySem.W.Fast
def tw16243407802973982295 := ()
def tw12621471712205908555 := ()
def tw16133844441654079584 := ()
def tw17519580214674509072 := ()
def tw12446654422499779632 := ()
def tw1618708811908270681 := ()
def tw14869620597456785143 := ()
def tw6933923051616396119 := ()
def tw15804006982456223624 := ()
def tw9103442228439078919 := ()
def tw1463585644196049124 := ()
def tw16207296961071359782 := ()
def tw12767081652649984273 := ()
def tw4161511712591330668 := ()
def tw8361467454938586993 := ()
def tw9782919480567231251 := ()
def tw1779999903371769017 := ()
def tw7247487114603146280 := ()
def tw7416998343115705005 := ()
def tw17507650357872894413 := ()
def tw7478052473843614520 := ()
def tw9939479495629896492 := ()
def tw5563290182124397642 := ()
def tw16345747125891492181 := ()
def tw12653633444526418327 := ()
def tw3837270709167921598 := ()
def tw10499073441686243279 := ()
def tw6224054688133730152 := ()
def tw15466139084824807060 := ()
def tw2908499254394503338 := ()
def tw4627679234251743555 := ()
def tw14473360886190906967 := ()
def tw6956607757878077376 := ()
def tw6800112214676237626 := ()
def tw12918630367937932242 := ()
def tw17596195824982659667 := ()
def tw2896134524812250841 := ()
def tw4751585933545470762 := ()
def tw9669337696929765253 := ()
def tw15123702106737897153 := ()
def tw18255434277659281470 := ()
def tw11879763303167725699 := ()
def tw6530406103652047271 := ()
def tw6375462551444065469 := ()
def tw8177031026582925797 := ()
def tw15381456596602725805 := ()
def tw1272614795316102136 := ()
def tw6674024792748990989 := ()
def tw13084607362972122419 := ()
def tw7922264843347407953 := ()
def tw12396754727145230656 := ()
def tw11822920789249527482 := ()
def tw17223499259548184534 := ()
def tw520402216786986167 := ()
def tw7680379359857663641 := ()
def tw9924743321790428941 := ()
def tw3339962106498168376 := ()
def tw3915417554320803730 := ()
def tw7984091280036803736 := ()
def tw7936118247011988987 := ()
def tw13813450988550722257 := ()
def tw17064377155943340827 := ()
def tw8906672810267228998 := ()
def tw7792567542930382314 := ()
def tw3810737593499746216 := ()
def tw8726616041145149096 := ()
def tw686972870402812578 := ()
def tw15084583041184136251 := ()
def tw7394487277589591868 := ()
def tw8979160821516378976 := ()
def tw10483599642361390317 := ()
def tw2895697548169438496 := ()
def tw3603295200924357769 := ()
def tw10862184849174269110 := ()
def tw17466713679168115486 := ()
def tw7012164683647901921 := ()
def tw7288778242027998052 := ()
def tw562870681938960010 := ()
def tw1584273071170445038 := ()
def tw9624745676353768728 := ()
def tw13576531731308486155 := ()
def tw10910710091199022297 := ()
def tw18010780297015581730 := ()
def tw14014687823801559314 := ()
def tw5098736303127771286 := ()
def tw447961448986768233 := ()
def tw4560438927765998175 := ()
def tw8499747952872828269 := ()
def tw9006723984001951726 := ()
def tw4907061188024162978 := ()
def tw11095131386896387400 := ()
def tw18437528442557992210 := ()
def tw6643343158013430046 := ()
def tw5648658869985924434 := ()
def tw5077603766056140177 := ()
def tw11772489499216302311 := ()
def tw6497902418977177955 := ()
def tw1515899620419213983 := ()
def tw7384233643387833137 := ()
def tw12521660795692121543 := ()
def tw2668071589630590147 := ()
def tw7397747745328201204 := ()
def tw11006239949772915217 := ()
def tw11122628988351129272 := ()
def tw5271738263912256159 := ()
def tw16140096620503734184 := ()
def tw14634744236237915856 := ()
def tw12801033623020776259 := ()
def tw6863028981347364002 := ()
def tw3479734183379741493 := ()
def tw271260283151498205 := ()
def tw4321867354999071284 := ()
def tw8160343670126898624 := ()
def tw7467961220504816203 := ()
def tw6684584094573440658 := ()
def tw4951197038826877152 := ()
def tw9195523623947111044 := ()
def tw5624359173475385202 := ()
def tw16930731699594779526 := ()
def tw16014224727216549339 := ()
def tw11986665374650714619 := ()
def tw13164682540857203194 := ()
def tw16118645856468528491 := ()
def tw17732062185318746761 := ()
def tw241893279388955697 := ()
def tw12561855235799029897 := ()
def tw17529433511361574211 := ()
def tw8609534558338687304 := ()
def tw15681488439714867906 := ()
def tw18132935348064901352 := ()
def tw632651893495863942 := ()
def tw2041147765851034064 := ()
def tw13115040473708285028 := ()
def tw16495779094153302120 := ()
def tw3601300473878684491 := ()
def tw12293950657609781587 := ()
def tw18006758081589956611 := ()
def tw7715485762850627203 := ()
def tw3233581577889079627 := ()
def tw7984387570136203627 := ()
def tw8816868203602012881 := ()
def tw4441395238726626633 := ()
def tw6415452806714997359 := ()
def tw15328580190486725654 := ()
def tw10902033319931084606 := ()
def tw17345936691365922223 := ()
def tw6199403641250238155 := ()
def tw6929567321650127293 := ()
def tw12063260346399738198 := ()
def tw15860815905681653385 := ()
def tw10287774451111604743 := ()
def tw16354640231961950808 := ()
def tw17116868509222539364 := ()
def tw16728119567336343724 := ()
def tw10253868528873093975 := ()
def tw13204828763827284579 := ()
def tw6456385931245186905 := ()
def tw10059327183674532467 := ()
def tw11124027701806666283 := ()
def tw6500374119171460880 := ()
def tw13765217637249689833 := ()
def tw2168461334428137398 := ()
def tw11514954655552732624 := ()
def tw6519695739901336771 := ()
def tw6807151132056020714 := ()
def tw10898938075108299562 := ()
def tw10053730958150875204 := ()
def tw13678386551344170433 := ()
def tw7988688966065360958 := ()
def tw472955095900790539 := ()
def tw201309210247579281 := ()
def tw4526818600567788704 := ()
def tw8252608530264997752 := ()
def tw6351542260421103653 := ()
def tw177943940219093151 := ()
def tw17634976818830171371 := ()
def tw6522473701437491536 := ()
def tw11384777590243085474 := ()
def tw1637781617540477271 := ()
def tw16432415670577937298 := ()
def tw2372708036437386364 := ()
def tw11352232419325303908 := ()
def tw15587365526934365846 := ()
def tw7375973626037306638 := ()
def tw3925140018506681549 := ()
def tw3060143616872895821 := ()
def tw130755958426235765 := ()
def tw2173902401055012903 := ()
def tw17509725159434983931 := ()
def tw11828525554770797578 := ()
def tw15643221540096888409 := ()
def tw4411361411249999564 := ()
def tw3346824619442053937 := ()
def tw14909763703158590629 := ()
def tw4046861509270836081 := ()
def tw14572482324322435559 := ()
def tw15943725119450393108 := ()
def tw11108359528624584603 := ()
def tw3568937902514189762 := ()
def tw13255257027537882384 := ()
def tw11352915241728194690 := ()
def tw10421779567767212694 := ()
def tw14088968201291299581 := ()
def tw8989570368672114304 := ()
def tw12952855392159008299 := ()
def tw16738002048464339115 := ()
def tw4846438473042341498 := ()
def tw13925781224841034606 := ()
def tw1901933826586610573 := ()
def tw17116192975556109773 := ()
def tw12465751492602434665 := ()
def tw16320650952553710351 := ()
def tw8783157499441049328 := ()
def tw7288439552743954752 := ()
def tw135206683851637671 := ()
def tw16266060035962979184 := ()
def tw8436355116675057364 := ()
def tw12806629008640545356 := ()
def tw8152007315224631534 := ()
def tw4722568352325947105 := ()
def tw16812253620860225132 := ()
def tw6431112995685044177 := ()
def tw3068757162198485278 := ()
def tw11925665262126319910 := ()
def tw16130668606470176434 := ()
def tw81791323469657142 := ()
def tw12954824443019651929 := ()
def tw13967549595335233917 := ()
def tw8027084691055335251 := ()
def tw17213635600979896839 := ()
def tw12793659917695974303 := ()
def tw16765176220682147718 := ()
def tw8915013048803052559 := ()
def tw13314839123815231305 := ()
def tw9461166001322494558 := ()
def tw3105551933571410091 := ()
def tw10819583555993869183 := ()
def tw3524604229513575583 := ()
def tw8556359840547024886 := ()
def tw5892156299202796481 := ()
def tw14586791477581655517 := ()
def tw3574189118982354105 := ()
def tw6845327157815430389 := ()
def tw10549212991134693647 := ()
def tw12126238887854122802 := ()
def tw10711765992552178234 := ()
def tw13872964620843843861 := ()
def tw12116630298118090877 := ()
def tw5301544725905954119 := ()
def tw3633569788774813173 := ()
def tw15388072147218162496 := ()
def tw17519837616284582205 := ()
def tw16945725112010163191 := ()
def tw5013179364609370096 := ()
def tw1212706851152509760 := ()
def tw11383593413291639105 := ()
def tw11632056128428091031 := ()
def tw7077250083170802984 := ()
def tw10189837522342475766 := ()
def tw2086697163081598032 := ()
def tw1332564496380414220 := ()
def tw8373087843847861812 := ()
def tw16563162602444693187 := ()
def tw9131681285579595835 := ()
def tw8353435535569381467 := ()
def tw12590799378301304445 := ()
def tw3785340052385307488 := ()
def tw2909497759972287892 := ()
def tw4153246518234189237 := ()
def tw3233316183501864251 := ()
def tw2558896606668023190 := ()
def tw13054999701288807275 := ()
def tw8671369037798473783 := ()
def tw10725551066942449304 := ()
def tw3511970082394529381 := ()
def tw10988854032308343985 := ()
def tw3828753326004693730 := ()
def tw12640282542178377764 := ()
def tw13604780041451444704 := ()
def tw7410357505864193359 := ()
def tw14244845251986836635 := ()
def tw509854087940178712 := ()
def tw8501816240377738972 := ()
def tw17114722438776641341 := ()
def tw9036886533167782318 := ()
def tw8480020477347111094 := ()
def tw6466535899583672628 := ()
def tw17999971389071542243 := ()
def tw3239339732800562978 := ()
def tw1459747508133112250 := ()
def tw7320373058299589751 := ()
def tw12205296674183892610 := ()
def tw10326659947690329339 := ()
def tw6651700557184974411 := ()
def tw11408623611049551238 := ()
def tw11342402521487243010 := ()
def tw13016849754105341014 := ()
def tw1801267313476355110 := ()
def tw14315707725578131853 := ()
def tw11378653651587207563 := ()
def tw1111568812672333851 := ()
def tw4492879685417357418 := ()
def tw1826830936013353562 := ()
def tw6575406807602399198 := ()
def tw393672693773613646 := ()
def tw3571634643424078904 := ()
def tw10299513181084805397 := ()
def tw16587118653887296019 := ()
def tw8192081360020669538 := ()
def tw4936335995451654700 := ()
def tw9570171190920395979 := ()
def tw11803385543519018805 := ()
def tw2736851906066885839 := ()
def tw13625215416797077148 := ()
def tw211729573729552512 := ()
def tw2881027594297576467 := ()
def tw3751952604012030490 := ()
def tw13794271347290044340 := ()
def tw14965942178184289846 := ()
def tw14717716635707252585 := ()
def tw14655377195923745767 := ()
def tw11366240685812456808 := ()
def tw16699587142477778562 := ()
def tw16054538113935059103 := ()
def tw12041595712101855720 := ()
def tw593331482881493785 := ()
def tw12846176534160816257 := ()
def tw1905577272375986548 := ()
def tw10228753040357938644 := ()
def tw7270194744265558326 := ()
def tw10649466453854224380 := ()
def tw5714457851045591207 := ()
def tw15271406957095007851 := ()
def tw8598304198195255936 := ()
def tw722128265485548943 := ()
def tw404048550782822368 := ()
def tw13860984521728683112 := ()
def tw10900569129976389329 := ()
def tw8985666042179855935 := ()
def tw9872634721099813566 := ()
def tw5168702032093991230 := ()
def tw13980473237062020150 := ()
def tw11267952182967723293 := ()
def tw8477418423086025401 := ()
def tw4110946527977865791 := ()
def tw3554205476123941882 := ()
def tw7409654021181941659 := ()
def tw11628777581927613918 := ()
def tw6621601055686489375 := ()
def tw2275747101158274495 := ()
def tw5283286273776178754 := ()
def tw3306266921291018642 := ()
def tw11062117410473538279 := ()
def tw13910673483382324157 := ()
def tw17534121957398053064 := ()
def tw1243500029704589088 := ()
def tw9292899051820981442 := ()
def tw7308690884343996686 := ()
def tw16103624569008222251 := ()
def tw8075228659295148044 := ()
def tw13290129133563734478 := ()
def tw407540472025079235 := ()
def tw12722890794610875391 := ()
def tw15962330082576715591 := ()
def tw14535984998882105313 := ()
def tw12163779154147672524 := ()
def tw2463606463804346259 := ()
def tw15092734529069727785 := ()
def tw11439852164499171484 := ()
def tw3454969673277790298 := ()
def tw2614920861674316286 := ()
def tw18363790458045925505 := ()
def tw14570773502416513707 := ()
def tw12494675680166793872 := ()
def tw1383864498117865290 := ()
def tw2807963336506541845 := ()
def tw371363135660357236 := ()
def tw5905710996838112134 := ()
def tw11011487467144845304 := ()
def tw2592035603156487382 := ()
def tw13915497608131284327 := ()
def tw18114338620202982045 := ()
def tw13585752098423447517 := ()
def tw3955458341634400908 := ()
def tw16728067739847619169 := ()
def tw12950966961787410326 := ()
def tw1372051190464486824 := ()
def tw10233132529059881519 := ()
def tw18155534226928947158 := ()
def tw17956822967750985887 := ()
def tw15940843307965121609 := ()
def tw14103903065129547248 := ()
def tw11795590744092956198 := ()
def tw9951509307434585762 := ()
def tw551553282824040296 := ()
def tw10707858633804144267 := ()
def tw1747337843322898376 := ()
def tw14076987391104764495 := ()
def tw94248611671837541 := ()
def tw12141101026249211023 := ()
def tw3068437625434563130 := ()
def tw6781900197385200236 := ()
def tw2123300370549758170 := ()
def tw18044664423275562922 := ()
def tw9785591413711314530 := ()
def tw299638879555408113 := ()
def tw7986738586648429869 := ()
def tw13220579093571948695 := ()
def tw7761718410807560347 := ()
def tw6644409622990649027 := ()
def tw4065746190008019638 := ()
def tw1402612166160935496 := ()
def tw7208683521210054558 := ()
def tw15647701404005408046 := ()
def tw3836036593368650870 := ()
def tw4679625282802127474 := ()
def tw6014667469608303971 := ()
def tw4683556498666712404 := ()
def tw15964891259202078512 := ()
def tw7275213726959167479 := ()
def tw5653656512725019815 := ()
def tw17668809519793333533 := ()
def tw355158414559176028 := ()
def tw5481359195939647237 := ()
def tw9465794373321448049 := ()
def tw7612979367777258792 := ()
def tw887355890974929002 := ()
def tw14529414222976596683 := ()
def tw883995622821442633 := ()
def tw5638983546855039915 := ()
def tw9993816681802617870 := ()
def tw3593148432948891946 := ()
def tw16453634177821049474 := ()
def tw7637406422868248694 := ()
def tw3886225235685420267 := ()
def tw3569429966167475672 := ()
def tw16701549804054700888 := ()
def tw7238072683551438553 := ()
def tw15547248683041077261 := ()
def tw16017943204191842393 := ()
def tw10908411832800439543 := ()
def tw15978394304630750454 := ()
def tw6962993105994335759 := ()
def tw3331934359189886304 := ()
def tw1018099281903515167 := ()
def tw3485951262898716227 := ()
def tw6046074608264680646 := ()
def tw8353152130897685421 := ()
def tw136812170452836534 := ()
def tw12747578885991307204 := ()
def tw2130582869679994485 := ()
def tw10892711645244011902 := ()
def tw10167555164137585747 := ()
def tw4585187180394408470 := ()
def tw13562866973819216316 := ()
def tw1600837399362057430 := ()
def tw2547554616910629374 := ()
def tw671167340115706129 := ()
def tw6518890929677955022 := ()
def tw13540262388822034010 := ()
def tw8314056385120833315 := ()
def tw7208597791044936327 := ()
def tw12341733455465689076 := ()
def tw14516770377081112187 := ()
def tw4633853450451128951 := ()
def tw15370508100699230694 := ()
def tw2013784791482530984 := ()
def tw14311406712112941230 := ()
def tw579383154158881414 := ()
def tw16125985932980945806 := ()
def tw12080204780288861734 := ()
def tw12107109604846561398 := ()
def tw11191258237303370479 := ()
def tw13361751577035411277 := ()
def tw10301350302028868573 := ()
def tw2685030792394629561 := ()
def tw4183459549546435261 := ()
def tw17095576920164835031 := ()
def tw8653951974357785817 := ()
def tw7445951842432516937 := ()
def tw11867098284833924183 := ()
def tw4601681526730119589 := ()
def tw6728528209001094347 := ()
def tw2608567579504125590 := ()
def tw4591030733471752571 := ()
def tw16719637398378132962 := ()
def tw2503565322267087028 := ()
def tw12951870897980461122 := ()
def tw11689252826536948723 := ()
def tw15991700796824228252 := ()
def tw8134279856783982293 := ()
def tw10925910340610210559 := ()
def tw5514812015803319069 := ()
def tw11265963006406747100 := ()
def tw9407776610156318204 := ()
def tw16710101330377246638 := ()
def tw7679622981818734263 := ()
def tw13858133813531355496 := ()
def tw11452588937273197844 := ()
def tw8985213370308470853 := ()
def tw17191472771325600667 := ()
def tw4767672262558552254 := ()
def tw12804534240296796984 := ()
def tw12227755177579381305 := ()
def tw16519676774446332387 := ()
def tw9951427743024491106 := ()
def tw3409127430513134661 := ()
def tw4520626007683900306 := ()
def tw7821762382301299569 := ()
def tw17933593862463765777 := ()
def tw170192449105973950 := ()
def tw4832895608680500459 := ()
def tw7154218013053567019 := ()
def tw6923118259118505467 := ()
def tw8167317425041355121 := ()
def tw5825789710042061546 := ()
def tw3589869192139772121 := ()
def tw16324066502605874006 := ()
def tw8420258743868802613 := ()
def tw11713232525070248994 := ()
def tw15641077529175470334 := ()
def tw16953715071492959845 := ()
def tw2276198247533070242 := ()
def tw304508527261103532 := ()
def tw3916731105603848785 := ()
def tw11291751474804284833 := ()
def tw11344923179262558743 := ()
def tw13626769879514792265 := ()
def tw9697503041495922030 := ()
def tw14524231567474138143 := ()
def tw6603923915534932525 := ()
def tw17507926073172698471 := ()
def tw16220861611425097437 := ()
def tw17218160085952111150 := ()
def tw1940370820055072838 := ()
def tw18252518341373097161 := ()
def tw2325562750992747173 := ()
def tw3194694349318198865 := ()
def tw13114989737407128548 := ()
def tw3432713951550771986 := ()
def tw11175776609994955688 := ()
def tw12685482077319018331 := ()
def tw4214603684941819900 := ()
def tw6644549490047375861 := ()
def tw16576359968372289889 := ()
def tw2435331902264303061 := ()
def tw17962553352067783295 := ()
def tw12080229588451741653 := ()
def tw3115813323550971334 := ()
def tw13725475513501158333 := ()
def tw8568889701655350521 := ()
def tw18430028553862293076 := ()
def tw9356218769676566312 := ()
def tw12807710959372287239 := ()
def tw7277346839934001438 := ()
def tw1734795763417948069 := ()
def tw2936288061192740362 := ()
def tw677594019353319524 := ()
def tw9373413103290606020 := ()
def tw6235300553557906105 := ()
def tw14634609712749016294 := ()
def tw10977395048535266107 := ()
def tw8367221412754256581 := ()
def tw71412661096106470 := ()
def tw10348035873917349255 := ()
def tw12270813292453721423 := ()
def tw10303919993589886427 := ()
def tw15718053894410815710 := ()
def tw2677741848510478679 := ()
def tw11044538894195552068 := ()
def tw12845783116034194176 := ()
end PySem.W.Fast
abbrev se:=@PySem.wpAny_bind
abbrev sf:=@List.length_map
abbrev si:=@PySem.wpAny_pure
abbrev sj:=@PySem.Heap.get?_push_of_some
abbrev sk:=@List.mem_cons_self
abbrev so:=@decide_eq_true
abbrev sq:=@List.mem_cons_of_mem
abbrev sr:=@PySem.Heap.lt_size
abbrev su:=@List.size_toArray
abbrev sv:=@Array.length_toList
abbrev sy:=@Option.some.inj
abbrev tj:=@List.mem_singleton
abbrev tq:=@Nat.le_refl
abbrev tu:=@Array.getElem?_eq_getElem
abbrev tw:=@of_decide_eq_true
abbrev t4:=@List.mem_append_right
abbrev t5:=@List.length_cons
abbrev t6:=@List.mem_map
abbrev t7:=@Array.getElem?_toList
abbrev t8:=@List.getElem?_eq_some_iff
abbrev t9:=@PySem.Heap.get?_push_size
abbrev ua:=@decide_eq_false
abbrev ue:=@List.length_append
abbrev uf:=@Array.getD_eq_getD_getElem?
abbrev ug:=@Nat.ne_of_lt
abbrev uh:=@List.mem_append
abbrev uk:=@Bool.false_ne_true
abbrev um:=@List.map_cons
abbrev uo:=@List.map_map
abbrev uq:=@List.mem_cons
abbrev ur:=@List.getElem?_map
abbrev uu:=@List.mem_map_of_mem
abbrev uv:=@List.map_append
abbrev uw:=@Nat.lt_of_lt_of_le
abbrev ux:=@List.length_take
abbrev uy:=@Nat.le_trans
abbrev uz:=@List.mem_of_getElem?
abbrev u0:=@Int.emod_lt_of_pos
abbrev u4:=@Bool.false_eq_true
abbrev u5:=@Nat.zero_le
abbrev va:=@List.mem_filter
abbrev vb:=@List.mem_range
abbrev vc:=@List.mem_append_left
abbrev vd:=@PySem.sizeLine_eq
abbrev ve:=@Nat.lt_of_le_of_lt
abbrev vf:=@Int.emod_nonneg
abbrev vg:=@Option.map_eq_some_iff
abbrev vh:=@Bool.and_eq_true
abbrev vi:=@congrArg
abbrev vj:=@PySem.wpAny_call_entry
abbrev vk:=@PySem.W.mg_of
abbrev vm:=@PySem.F.plainAttrs_list
abbrev vn:=@PySem.wpAny_holding
abbrev vo:=@PySem.F.type_list_append
abbrev vp:=@PySem.F.slot_list_append
abbrev vq:=@List.getElem?_eq_getElem
abbrev vt:=@Nat.lt_succ_self
abbrev vv:=@Nat.lt_irrefl
abbrev vw:=@List.length_range
abbrev vx:=@PySem.Value.isStrOf_shape
abbrev vy:=@List.length_drop
abbrev vz:=@List.filterMap_cons
abbrev v9:=@List.length_filter_le
abbrev wa:=@Int.toNat_natCast
abbrev wb:=@PySem.wpAny_forIn_list
abbrev wc:=@PySem.wpAny_setState_of
abbrev wd:=@PySem.wpAny_newObj_type
abbrev we:=@PySem.Heap.get?_update_self
abbrev wg:=@List.pairwise_append
abbrev wj:=@PySem.PassesOwn.never
abbrev wk:=@Array.getElem?_eq_none
abbrev wm:=@beq_eq_false_iff_ne
abbrev wo:=@Nat.lt_succ_of_lt
abbrev wq:=@Nat.not_lt_zero
abbrev wt:=@List.nodup_cons
abbrev wu:=@PySem.wpAny_mono
abbrev wx:=@PySem.Value.isInt_shape
abbrev wy:=@List.mem_filterMap
abbrev wz:=@PySem.Heap.size_push
abbrev w8:=@List.lookup_cons
abbrev xa:=@PySem.wpAny_ite_split
abbrev xc:=@List.getElem?_of_mem
abbrev xf:=@Nat.le_of_lt_succ
abbrev xg:=@List.append_nil
abbrev xh:=@List.take_of_length_le
abbrev xi:=@PySem.W.mg_none_of
abbrev xj:=@decide_eq_decide
abbrev xk:=@List.getElem_mem
abbrev xl:=@PySem.codeAny_builtin
abbrev xm:=@PySem.Heap.SameBut.update
abbrev xn:=@Nat.lt_or_ge
abbrev xo:=@List.zip_cons_cons
abbrev xp:=@List.length_singleton
abbrev xq:=@Bool.not_true
abbrev xr:=@Array.forIn_toList
abbrev xt:=@List.pairwise_iff_getElem
abbrev xu:=@if_false
abbrev xv:=@PySem.wpAny_tupleItemsOf
abbrev xw:=@Nat.ne_of_gt
abbrev xx:=@List.pairwise_singleton
abbrev x5:=@PySem.wpAny_truthy_bool
abbrev x6:=@PySem.wpAny_specialOf
abbrev x8:=@PySem.wpAny_isInstance
abbrev x9:=@List.filter_map
abbrev ya:=@PyProof.Rows.KeyOrd.kle_refl
abbrev yc:=@List.pairwise_map
abbrev yd:=@Bool.eq_false_iff
abbrev ye:=@List.getElem?_append_right
abbrev yf:=@Array.perm_iff_toList_perm
abbrev yg:=@Array.getElem?_eq_some_iff
abbrev yh:=@Array.mem_toList_iff
abbrev yi:=@PySem.wpAny_passesOwn
abbrev yj:=@PySem.isSubtype_tuple_tuple
abbrev yk:=@List.getElem?_append_left
abbrev yl:=@List.take_length
abbrev ym:=@List.not_mem_nil
abbrev yn:=@PySem.mem_of_lookup
abbrev yo:=@Nat.succ_pos
abbrev yp:=@Nat.mod_lt
abbrev yq:=@List.filterMap_cons_some
abbrev yr:=@PySem.Around.under_plainId
abbrev yt:=@PySem.W.kia_one
abbrev yu:=@List.find?_cons
abbrev yv:=@List.filter_append
abbrev yw:=@PySem.wpAny_askSetting
abbrev yx:=@PySem.wpAny_setEntries_of
abbrev yy:=@PySem.Heap.get?_update_ne
abbrev yz:=@List.getElem?_set_self
abbrev y4:=@Nat.lt_trichotomy
abbrev y6:=@Nat.le_succ
abbrev y8:=@Bool.false_and
abbrev y9:=@PySem.wpAny_newList
abbrev za:=@PySem.wpAny_getItem_str_slice
abbrev zb:=@PySem.wpAny_Call_Name_kw
abbrev zc:=@Nat.le_of_lt
abbrev zd:=@List.take_append_drop
abbrev ze:=@List.getElem?_toArray
abbrev zf:=@List.getElem?_eq_none
abbrev zg:=@Ne.symm
abbrev zh:=@PySem.Heap.get?_update_other
abbrev zi:=@List.mem_of_mem_take
abbrev zj:=@List.getElem?_set_ne
abbrev zk:=@Bool.true_and
abbrev zl:=@PySem.codeAny_mono
abbrev zm:=@List.filter_eq_self
abbrev zo:=@List.cons.injEq
abbrev zr:=@Bool.eq_iff_iff
abbrev zt:=@List.pairwise_cons
abbrev zu:=@List.map_singleton
abbrev zw:=@PySem.wpAny_attempt
abbrev zx:=@PyProof.Rows.KeyOrd.kle_of_klt
abbrev zy:=@decide_eq_true_eq
abbrev z7:=@bne_self_eq_false
abbrev z8:=@PySem.wpAny_richCompare_same_room
abbrev z9:=@PySem.wpAny_execs_nil
abbrev Aaa:=@Option.isSome_iff_exists
abbrev Aab:=@List.take_add_one
abbrev Aac:=@List.getElem?_take_of_lt
abbrev Aad:=@List.filterMap_cons_none
abbrev Aae:=@Prod.mk.injEq
abbrev Aaf:=@beq_self_eq_true
abbrev Aag:=@PySem.tupleKind_room_in1
abbrev Aah:=@PySem.Code.quiet_builtin
abbrev Aai:=@List.filter_cons
abbrev Aaj:=@PySem.wpAny_setField
abbrev Aak:=@PySem.Calls.call_function_entry
abbrev Aal:=@List.pairwise_lt_range
abbrev Aam:=@List.drop_eq_nil_of_le
abbrev Aan:=@PyProof.Rows.listUpdate_at
abbrev Aao:=@if_true
abbrev Aap:=@PySem.SetTable.toList_insertAt
abbrev Aaq:=@PySem.Heap.get?_push_ne
abbrev Aar:=@PySem.F.slot_tuple_hash
abbrev Aas:=@Nat.zero_add
abbrev Aat:=@PySem.Paired.length
abbrev Aau:=@List.mem_of_mem_drop
abbrev Aav:=@Sum.inr.inj
abbrev Aaw:=@PySem.Calls.callWith_builtin
abbrev Aax:=@Nat.add_le_add_left
abbrev Aay:=@List.map_congr_left
abbrev Aaz:=@List.filter_sublist
abbrev Aa0:=@decide_eq_true_iff
abbrev Aa1:=@PySem.wpAny_typeOf
abbrev Aa2:=@PySem.post_val_or_str
abbrev Aa3:=@Nat.add_right_comm
abbrev Aa4:=@Nat.add_assoc
abbrev Aa5:=@List.getElem?_take
abbrev Aa6:=@PyProof.Rows.take_snoc
abbrev Aa7:=@beq_iff_eq
abbrev Aa8:=@PySem.codeAny_call_builtin
abbrev Aa9:=@PySem.Calls.evalArgs_plain
abbrev Aba:=@Option.isSome_map
abbrev Abb:=@List.take_sublist
abbrev Abd:=@List.nodup_append
abbrev Abe:=@List.filter_congr
abbrev Abf:=@PySem.wpAny_seqItems
abbrev Abg:=@PySem.wpAny_fieldsOf
abbrev Abh:=@PySem.W.looks_findIn
abbrev Abi:=@PyProof.Rows.seqEpoch_at
abbrev Abj:=@PyProof.Rows.F.plain_set_update_loop
abbrev Abk:=@Nat.sub_self
abbrev Abl:=@PySem.Paired.snoc
abbrev Abm:=@PyProof.Rows.KeyOrd.kle_trans
abbrev Abn:=@Nat.succ_lt_succ
abbrev Abo:=@Nat.min_eq_right
abbrev Abp:=@Nat.le_add_right
namespace L2
open PySem PySem.Spec PyProof.Rows
abbrev Key:=Sum Int Str
def N5:Key->Value->Bool
 | .inl k,v=>Value.isInt k v
 | .inr x,v=>Value.isStrOf x v
def rh (w:World):Key->Int
 | .inl k=>hashInt k
 | .inr x=>hashStr w x
theorem Cp:∀{k:Key}{v:Value},N5 k v=true->(∃i t,k=Sum.inl i/\v=Value.int i t)∨(∃x t,k=Sum.inr x/\v=Value.str x t)
 |
  .inl i,v,h=>by
  obtain⟨t,e⟩:=wx (k:=i) (v:=v) h
  exact .inl ⟨i,t,rfl,e⟩
 |
  .inr x,v,h=>by
  obtain⟨t,e⟩:=vx (x:=x) (v:=v) h
  exact .inr ⟨x,t,rfl,e⟩
theorem Yw (i:Int)(t:Tok):N5 (.inl i) (.int i t)=true:=by simp[N5,Value.isInt]
theorem Zu (x:Str)(t:Tok):N5 (.inr x) (.str x t)=true:=by simp[N5,Value.isStrOf]
theorem ky (a b:Int):decide ((Sum.inl a:Key)=Sum.inl b)=(a==b):=by
 by_cases e:a=b
 · subst e;simp
 ·
  have h:¬(Sum.inl a:Key)=Sum.inl b:=λq=>e (Sum.inl.inj q)
  rw[ua h]
  exact(wm.mpr e).symm
theorem ju (a b:Str):decide ((Sum.inr a:Key)=Sum.inr b)=decide (a=b):=by
 by_cases e:a=b
 · subst e;simp
 ·
  have h:¬(Sum.inr a:Key)=Sum.inr b:=λq=>e (Aav q)
  rw[ua h,ua e]
theorem j5 (a:Int)(b:Str):decide ((Sum.inl a:Key)=Sum.inr b)=false:=ua (λq=>nomatch q)
theorem mh (a:Str)(b:Int):decide ((Sum.inr a:Key)=Sum.inl b)=false:=ua (λq=>nomatch q)
def Ax (prog:Program)(w:World):PySem.KeyKind prog w Key where
 is:=N5
 hash:=rh w
 inj:=λv a b ha hb=>by
  rcases Cp ha with⟨i,t,rfl,rfl⟩|⟨x,t,rfl,rfl⟩
  ·
   rcases Cp hb with⟨j,u,rfl,e⟩|⟨y,u,rfl,e⟩
   · injection e with e1 _;rw[e1]
   · exact nomatch e
  ·
   rcases Cp hb with⟨j,u,rfl,e⟩|⟨y,u,rfl,e⟩
   · exact nomatch e
   · injection e with e1 _;rw[e1]
 byValue:=λk v h=>by
  rcases Cp h with⟨i,t,rfl,rfl⟩|⟨x,t,rfl,rfl⟩<;>rfl
 pyHash:=λhv h=>by
  rcases Cp hv with⟨i,t,rfl,rfl⟩|⟨x,t,rfl,rfl⟩
  · exact wpAny_pyHash_int h
  · exact wpAny_pyHash_str h
 eqBool:=λhu hv h=>by
  rcases Cp hu with⟨i,t,rfl,rfl⟩|⟨x,t,rfl,rfl⟩
  ·
   rcases Cp hv with⟨j,u,rfl,rfl⟩|⟨y,u,rfl,rfl⟩
   · rw[ky] at h;exact wpAny_eqBool_int h
   · rw[j5] at h;exact SeqAt.EqAt.int_str i t y u _ _ _ _ h
  ·
   rcases Cp hv with⟨j,u,rfl,rfl⟩|⟨y,u,rfl,rfl⟩
   · rw[mh] at h;exact SeqAt.EqAt.str_int x t j u _ _ _ _ h
   · rw[ju] at h;exact wpAny_eqBool_str h
 «strs»:=λk x t v h=>by
  rcases Cp h with⟨i,u,rfl,e⟩|⟨y,u,rfl,e⟩
  · exact nomatch e
  ·
   injection e with e1 _
   subst e1
   cases v<;>rfl
theorem Ti (prog:Program)(w:World)(i:Int)(t:Tok):(Ax prog w).is (.inl i) (.int i t)=true:=Yw i t
theorem Ul (prog:Program)(w:World)(x:Str)(t:Tok):(Ax prog w).is (.inr x) (.str x t)=true:=Zu x t
inductive V where
 | non|bl (b:Bool)|int (i:Int)|str (x:Str)|byt (b:Array UInt8)|flt (b:UInt64)|ref (a:Addr)|ty (n:String)
 deriving DecidableEq
def RelV:V->Value->Prop
 | .non,u=>u=Value.none
 | .bl b,u=>u=Value.bool b
 | .int i,u=>∃t,u=Value.int i t
 | .str x,u=>∃t,u=Value.str x t
 | .byt b,u=>∃t,u=Value.bytes b t
 | .flt b,u=>∃t,u=Value.float b t
 | .ref a,u=>u=Value.ref a
 | .ty n,u=>u=Value.type n
abbrev Vals:List V->List Value->Prop:=Paired RelV
theorem Vals.length {xs:List V}{us:List Value}(r:Vals xs us):xs.length=us.length:=Aat r
theorem Vals.get:∀{xs:List V}{us:List Value}{i:Nat}{x:V},Vals xs us->xs[i]?=some x->∃u,us[i]?=some u/\RelV x u
 | _,_,_,_,.nil,e=>by simp at e
 | _,_,0,_,.cons r _,e=>by simp at e;subst e;exact⟨_,rfl,r⟩
 |
  _,_,i+1,x,.cons _ t,e=>by
  obtain⟨u,h1,h2⟩:=Vals.get (i:=i) (x:=x) t (by simpa using e)
  exact⟨u,by simpa using h1,h2⟩
theorem Vals.set {x:V}{u:Value}(r:RelV x u):∀{xs:List V}{us:List Value}(i:Nat),Vals xs us->Vals (xs.set i x) (us.set i u)
 | _,_,_,.nil=>.nil
 | _,_,0,.cons _ t=>.cons r t
 | _,_,i+1,.cons q t=>.cons q (Vals.set r i t)
theorem Vals.append:∀{xs ys:List V}{us ws:List Value},Vals xs us->Vals ys ws->Vals (xs++ys) (us++ws)
 | _,_,_,_,.nil,s=>s
 | _,_,_,_,.cons r t,s=>.cons r (Vals.append t s)
theorem Vals.take:∀{xs:List V}{us:List Value}(n:Nat),Vals xs us->Vals (xs.take n) (us.take n)
 | _,_,0,_=>.nil
 | _,_,_+1,.nil=>.nil
 | _,_,n+1,.cons r t=>.cons r (Vals.take n t)
theorem Vals.drop:∀{xs:List V}{us:List Value}(n:Nat),Vals xs us->Vals (xs.drop n) (us.drop n)
 | _,_,0,r=>r
 | _,_,_+1,.nil=>.nil
 | _,_,n+1,.cons _ t=>Vals.drop n t
def RelO:Option V->Option Value->Prop
 | some v,some u=>RelV v u
 | none,none=>True
 | _,_=>False
def KV {κ:Type}:List (κ×V)->List (κ×Value)->Prop:=Paired λ(p:κ×V)(q:κ×Value)=>p.1=q.1/\RelV p.2 q.2
def kV:Key->V
 | .inl i=>.int i
 | .inr x=>.str x
inductive HO where
 | lst (xs:List V)
 | tup (xs:List V)
 | dK (kvs:List (Key×V))|dT (kvs:List (List Key×V))
 | set (S:Int->Bool) (n:Nat)
 | ins (C dx:Addr) (fs:List (Str×V))
 | own (x:Addr)
 | xd (fs:List (Str×V))
 | met (f x:Addr)
 | rng (lo hi:Int)
 | frz (o:Obj) (u:HO)
 | tbl (ps:Array Value)
 | ext (φ:Heap->Prop)
abbrev Hp:=Addr->Option HO
def upd (H:Hp)(a:Addr)(o:HO):Hp:=λb=>if b=a then some o else H b
theorem Ab {H:Hp}{a:Addr}{o:HO}:upd H a o a=some o:=by unfold upd;rw[if_pos rfl]
theorem Ad {H:Hp}{a b:Addr}{o:HO}(h:b≠a):upd H a o b=H b:=by unfold upd;rw[if_neg h]
theorem Dw {H:Hp}{a:Addr}{o u:HO}:upd (upd H a o) a u=upd H a u:=by
 funext b;unfold upd;split<;>rfl
theorem Bg {H:Hp}{a b:Addr}{o u:HO}(h:H a=some o)(h':H b=some u)(d:o≠u):a≠b:=by
 intro e;subst e;rw[h] at h';exact d (sy h')
theorem Am {H:Hp}{a b:Addr}{o:HO}(h:H a=some o)(h':H b=none):a≠b:=by
 intro e;subst e;rw[h] at h';cases h'
section
variable (P:Program)(w:World)
def ObjOk (H:Hp)(h:Heap)(a:Addr):HO->Prop
 | .lst xs=>xs.length<=sizeLine/\∃(its:List Value)(n:Nat),Vals xs its/\h.get? a=some {cls:=.type "list",data:=.seq its.toArray n}
 | .tup xs=>xs.length<=sizeLine/\∃its:List Value,Vals xs its/\IsTup h a its.toArray
 | .dK kvs=>kvs.length<=sizeLine/\(a==sysModules)=false/\∃vs,KV kvs vs/\h.DictOf (Ax P w) a vs
 | .dT kvs=>kvs.length<=sizeLine/\(a==sysModules)=false/\∃xs:List (List Key×Addr×Value),
  Paired (λ(p:List Key×V)(q:List Key×Addr×Value)=>p.1=q.1/\H q.2.1=some (.tup (p.1.map kV))/\RelV p.2 q.2.2) kvs xs/\
  ∃o es ep,h.get? a=some o/\o.ExactDict/\o.data=.dict es ep/\es.toList=xs.map (entryOfKey (tupleKind (Ax P w)))/\(xs.map (·.1)).Nodup
 | .set S n=>h.SetOf (intKind P w) a S n
 | .ins C dx fs=>H dx=some (.own a)/\fs.length<=1000/\dx≠a/\h.get? a=some (W.instObj C dx)/\
  ∃mA,h.Ns1 dx mA/\(∀f,RelO (fs.lookup f) (mA f))/\PySem.Within mA (fs.map (·.1))
 | .own _=>∃o,h.get? a=some o
 | .xd fs=>∃mA,h.Ns1 a mA/\∀f,RelO (fs.lookup f) (mA f)
 | .rng lo hi=>∃t u v,h.get? a=some {cls:=.type "range",data:=.fields #[.int lo t,.int hi u,.int 1 v]}
 | .frz o u=>h.get? a=some o/\ObjOk H h a u
 | .tbl ps=>h.get? a=some {cls:=.none,data:=.fields ps}
 | .met f x=>h.get? a=some (W.methodObj (.ref f) (.ref x))
 | .ext φ=>φ h/\(∃o,h.get? a=some o)/\∀h1 h2:Heap,φ h1->(∀o,h1.get? a=some o->h2.get? a=some o)->φ h2
def HOk (H:Hp)(h:Heap):Prop:=∀a o,H a=some o->ObjOk P w H h a o
end
section
variable {P:Program}{w:World}{H H':Hp}{h h':Heap}{a:Addr}{o:HO}
theorem ObjOk.lt (x:ObjOk P w H h a o):a<h.objs.size:=by
 cases o with
 | lst xs=>obtain⟨_,_,_,_,e⟩:=x;exact sr e
 | tup xs=>obtain⟨_,_,_,p⟩:=x;exact p.lt
 | dK kvs=>obtain⟨_,_,_,_,o,_,_,e,_⟩:=x;exact sr e
 | dT kvs=>obtain⟨_,_,_,_,o,_,_,e,_⟩:=x;exact sr e
 | set S n=>obtain⟨o,_,_,_,e,_⟩:=x;exact sr e
 | ins C dx fs=>obtain⟨_,_,_,e,_⟩:=x;exact sr e
 | own y=>obtain⟨_,e⟩:=x;exact sr e
 | xd fs=>obtain⟨_,⟨_,_,_,e,_⟩,_⟩:=x;exact sr e
 | rng lo hi=>obtain⟨_,_,_,e⟩:=x;exact sr e
 | frz ob u=>obtain⟨e,_⟩:=x;exact sr e
 | tbl ps=>exact sr (show h.get? a=some _ from x)
 | met f y=>exact sr (show h.get? a=some _ from x)
 | ext φ=>obtain⟨_,⟨_,e⟩,_⟩:=x;exact sr e
theorem Paired.mapP {α β:Type}{F G:α->β->Prop}:∀{l₁:List α}{l₂:List β},Paired F l₁ l₂->(∀a b,F a b->G a b)->Paired G l₁ l₂
 | _,_,.nil,_=>.nil
 | _,_,.cons r t,f=>.cons (f _ _ r) (Paired.mapP t f)
theorem ObjOk.stay (x:ObjOk P w H h a o)(k:∀b u,(b=a∨H b=some (.own a))->h.get? b=some u->h'.get? b=some u)
  (ho:∀b,H b=some (.own a)->H' b=some (.own a)) (ht:∀b xs,H b=some (.tup xs)->H' b=some (.tup xs)):ObjOk P w H' h' a o:=by
 induction o with
 | lst xs=>obtain⟨z,its,n,r,e⟩:=x;exact⟨z,its,n,r,k _ _ (.inl rfl) e⟩
 | tup xs=>obtain⟨z,its,r,ob,e,c⟩:=x;exact⟨z,its,r,ob,k _ _ (.inl rfl) e,c⟩
 | dK kvs=>obtain⟨z,y,vs,r,ob,es,ep,e,c⟩:=x;exact⟨z,y,vs,r,ob,es,ep,k _ _ (.inl rfl) e,c⟩
 |
  dT kvs=>
  obtain⟨z,y,xs,r,ob,es,ep,e,c⟩:=x
  exact⟨z,y,xs,Paired.mapP r λp q z=>⟨z.1,ht _ _ z.2.1,z.2.2⟩,ob,es,ep,k _ _ (.inl rfl) e,c⟩
 | set S n=>obtain⟨ob,es,ep,t,e,c⟩:=x;exact⟨ob,es,ep,t,k _ _ (.inl rfl) e,c⟩
 |
  ins C dx fs=>
  obtain⟨d,z,ne,e,mA,⟨od,es,ep,e2,c⟩,r⟩:=x
  exact⟨ho _ d,z,ne,k _ _ (.inl rfl) e,mA,⟨od,es,ep,k _ _ (.inr d) e2,c⟩,r⟩
 | own y=>obtain⟨ob,e⟩:=x;exact⟨ob,k _ _ (.inl rfl) e⟩
 | xd fs=>obtain⟨mA,⟨od,es,ep,e,c⟩,r⟩:=x;exact⟨mA,⟨od,es,ep,k _ _ (.inl rfl) e,c⟩,r⟩
 | rng lo hi=>obtain⟨t,u,v,e⟩:=x;exact⟨t,u,v,k _ _ (.inl rfl) e⟩
 | frz ob u ih=>obtain⟨e,q⟩:=x;exact⟨k _ _ (.inl rfl) e,ih q⟩
 |
  tbl ps=>
  have e:h.get? a=some {cls:=.none,data:=.fields ps}:=x
  show h'.get? a=some {cls:=.none,data:=.fields ps}
  exact k a _ (.inl rfl) e
 |
  met f y=>
  have e:h.get? a=some (W.methodObj (.ref f) (.ref y)):=x
  show h'.get? a=some (W.methodObj (.ref f) (.ref y))
  exact k a _ (.inl rfl) e
 | ext φ=>obtain⟨p,⟨o,e⟩,st⟩:=x;exact⟨st _ _ p λo q=>k _ _ (.inl rfl) q,⟨o,k _ _ (.inl rfl) e⟩,st⟩
theorem HOk.lt (x:HOk P w H h)(e:H a=some o):a<h.objs.size:=(x a o e).lt
theorem HOk.fresh (x:HOk P w H h)(e:h.objs.size<=a):H a=none:=by
 cases q:H a with
 | none=>rfl
 | some u=>exact absurd (uw (x.lt q) e) (vv _)
theorem HOk.kept (x:HOk P w H h)(k:∀b u,h.get? b=some u->h'.get? b=some u):HOk P w H h':=λa o e=>
 (x a o e).stay (λb u _ q=>k b u q) (λ_ q=>q) λ_ _ q=>q
theorem HOk.laid (x:HOk P w H h)(k:∀b u,h.get? b=some u->h'.get? b=some u)(hp:h.objs.size<=a)(new:ObjOk P w (upd H a o) h' a o):HOk P w (upd H a o) h':=λb u e=>by
 have hn:=x.fresh hp
 by_cases hb:b=a
 · subst hb;rw[Ab] at e;cases e;exact new
 ·
  rw[Ad hb] at e
  exact(x b u e).stay (λc v _ q=>k c v q) (λc q=>by rw[Ad (Am q hn)];exact q) λc xs q=>by rw[Ad (Am q hn)];exact q
end
def Rd (H:Hp)(a:Addr)(u:HO):Prop:=H a=some u∨∃o,H a=some (.frz o u)
theorem Rd.ok {P:Program}{w:World}{H:Hp}{h:Heap}{a:Addr}{u:HO}(r:Rd H a u)(x:HOk P w H h):ObjOk P w H h a u:=by
 rcases r with r|⟨o,r⟩
 · exact x a u r
 ·
  obtain⟨_,q⟩:=x a _ r
  exact q
def Mut:Option HO->Prop
 | some (.lst _)=>True
 | some (.dK _)=>True
 | some (.dT _)=>True
 | some (.set _ _)=>True
 | some (.ins _ _ _)=>True
 | some (.ext _)=>True
 | _=>False
section
variable {P:Program}{w:World}{H:Hp}{h h':Heap}{x e:Addr}{o':HO}
theorem HOk.write (ok:HOk P w H h)(mu:Mut (H x))(he:e=x∨H e=some (.own x))(k:∀b u,b≠e->h.get? b=some u->h'.get? b=some u)(heo:∃u,h'.get? e=some u)
  (new:ObjOk P w (upd H x o') h' x o'):HOk P w (upd H x o') h':=λb u q=>by
 have nown:∀c y,H c=some (.own y)->c≠x:=λc y r z=>by subst z;rw[r] at mu;exact mu
 have ntup:∀c xs,H c=some (.tup xs)->c≠x:=λc xs r z=>by subst z;rw[r] at mu;exact mu
 by_cases hb:b=x
 · subst hb;rw[Ab] at q;cases q;exact new
 ·
  rw[Ad hb] at q
  by_cases hbe:b=e
  ·
   have q':H b=some (.own x):=by
    rcases he with z|z
    · exact absurd (hbe.trans z) hb
    · rw[hbe];exact z
   rw[q] at q';cases q'
   obtain⟨v,hv⟩:=heo
   exact⟨v,by rw[hbe];exact hv⟩
  ·
   refine(ok b u q).stay (λc v hc r=>k c v ?_ r) (λc r=>by rw[Ad (nown c b r)];exact r) λc xs r=>by rw[Ad (ntup c xs r)];exact r
   rcases hc with rfl|hc
   · exact hbe
   ·
    rintro rfl
    rcases he with z|z
    · exact nown c b hc z
    · rw[hc] at z;cases z;exact hb rfl
end
structure Un (fs ex:List Addr)(H H':Hp)(h h':Heap):Prop where
 keep:∀b o,h.get? b=some o->H b=none->b∉fs->b∉ex->h'.get? b=some o
 slot:∀b o,h.get? b=some o->H b=none->b∈fs->b∉ex->∃sl,h'.get? b=some {o with slots:=sl}
 free:∀b o,h.get? b=some o->H b=none->b∉ex->H' b=none
 there:∀b o,h.get? b=some o->b∉ex->∃o',h'.get? b=some o'
 tups:∀b xs,H b=some (.tup xs)->H' b=some (.tup xs)
 frzs:∀b o u,H b=some (.frz o u)->H' b=some (.frz o u)
 tbls:∀b ps,H b=some (.tbl ps)->∃more,H' b=some (.tbl (ps++more))
section
variable {fs fs' ex ex':List Addr}{H H1 H2:Hp}{h h1 h2 h':Heap}{a x e:Addr}{o:HO}
theorem Un.any (u:Un fs ex H H1 h h1){b:Addr}{ob:Obj}(q:h.get? b=some ob)(n:H b=none)(hx:b∉ex):∃sl,h1.get? b=some {ob with slots:=sl}:=by
 by_cases hb:b∈fs
 · exact u.slot b ob q n hb hx
 · exact⟨ob.slots,u.keep b ob q n hb hx⟩
theorem Un.kept (k:∀b u,h.get? b=some u->h'.get? b=some u):Un fs ex H H h h':=
 ⟨λb ob q _ _ _=>k b ob q,λb ob q _ _ _=>⟨ob.slots,k b ob q⟩,λ_ _ _ n _=>n,λb ob q _=>⟨ob,k b ob q⟩,λ_ _ q=>q,λ_ _ _ q=>q,λ_ ps q=>⟨#[],by rw[q];simp⟩⟩
theorem Un.refl:Un fs ex H H h h:=Un.kept λ_ _ q=>q
theorem Un.laid (k:∀b u,h.get? b=some u->h'.get? b=some u)(hp:h.objs.size<=a)(hn:H a=none):Un fs ex H (upd H a o) h h' where
 keep:=λb u q _ _ _=>k b u q
 slot:=λb u q _ _ _=>⟨u.slots,k b u q⟩
 free:=λb u q n _=>by rw[Ad (ug (uw (sr q) hp))];exact n
 there:=λb u q _=>⟨u,k b u q⟩
 tups:=λb xs q=>by rw[Ad (Am q hn)];exact q
 frzs:=λb u xs q=>by rw[Ad (Am q hn)];exact q
 tbls:=λb ps q=>⟨#[],by rw[Ad (Am q hn),q];simp⟩
theorem Un.write (mu:Mut (H x))(he:e=x∨H e=some (.own x))(k:∀b u,b≠e->h.get? b=some u->h'.get? b=some u)(heo:∃u,h'.get? e=some u):Un fs ex H (upd H x o) h h':=by
 have hx:∀b,H b=none->b≠x:=λb n z=>by subst z;rw[n] at mu;exact mu
 have hb:∀b,H b=none->b≠e:=λb n z=>by
  subst z
  rcases he with r|r
  · exact hx b n r
  · rw[n] at r;cases r
 have hm:∀b u,H b=some u->¬Mut (some u)->b≠x:=λb u q nm z=>by subst z;rw[q] at mu;exact nm mu
 refine⟨λb u q n _ _=>k b u (hb b n) q,λb u q n _ _=>⟨u.slots,k b u (hb b n) q⟩,λb u q n _=>by rw[Ad (hx b n)];exact n,λb u q _=>?_,
  λb xs q=>by rw[Ad (hm b _ q λz=>z)];exact q,λb u xs q=>by rw[Ad (hm b _ q λz=>z)];exact q,λb ps q=>⟨#[],by rw[Ad (hm b _ q λz=>z),q];simp⟩⟩
 by_cases hbe:b=e
 · subst hbe;exact heo
 · exact⟨u,k b u hbe q⟩
end
def trk (h:Heap)(H:Hp):List Addr:=(List.range h.objs.size).filter λa=>(H a).isSome
def cu (h:Heap)(H:Hp):Heap:=W.hideAll h (trk h H)
theorem Zw (h:Heap)(H:Hp):(cu h H).objs.size=h.objs.size:=W.hideAll_size _ _
theorem bt {h:Heap}{H:Hp}{b:Addr}{o:Obj}(e:h.get? b=some o)(n:H b=none):(cu h H).get? b=some o:=
 W.hideAll_get _ e λhm=>by
  have q:(H b).isSome=true:=(va.mp hm).2
  rw[n] at q;simp at q
theorem ix {h:Heap}{H:Hp}{b:Addr}{o:Obj}(e:(cu h H).get? b=some o):h.get? b=some o/\H b=none:=by
 have e':h.get? b=some o:=W.of_hideAll (trk h H) e
 refine⟨e',?_⟩
 cases q:H b with
 | none=>rfl
 |
  some x=>
  have hm:b∈trk h H:=va.mpr ⟨vb.mpr (sr e'),by simp[q]⟩
  have z:(cu h H).get? b=none:=W.hideAll_none (trk h H) hm
  rw[z] at e;cases e
def gy (g h:Heap)(L:Addr):List (Addr×Obj):=(List.range h.objs.size).filterMap λa=>if a=L∨(g.get? a).isSome=true then none else(h.get? a).map λo=>(a,o)
def rest (g h:Heap)(L d:Addr):List (Addr×Obj):=(gy g h L).filter λp=>decide (p.1≠d)
structure Mod (K:W.Frag)(mg:Str->Option Value)(base:Heap):Prop where
 kin:K.In base
 glob:base.Ns mainGlobals mg
 blt:∃mb,base.Ns builtinsNs mb/\∀x:Str,x≠"__name__"->mb x=bootBuiltins x
 nolimit:base.NoLimit
structure Cx where
 prog:Program
 w:World
 K:W.Frag
 mg:Str->Option Value
 base:Heap
 A:Around
 N:List Str
 s₀:Shared
 H₀:Hp
 env:Env
 outer:List Env
 stack:List Env
 ex:List Addr
 fn:Str->Bool
 calm:Bool
 pn:List (Addr×Obj)
 xe:Value->Shared->Prop
def frs (l:List Env):List Addr:=l.filterMap (·.frame)
abbrev Cx.fs (X:Cx):List Addr:=frs X.outer
def Vis (sc:Scope)(x:Str):Prop:=sc.names.lookup x=some .local∨sc.names.lookup x=some .cell∨sc.names.lookup x=some .free
def Loc (sc:Scope)(x:Str):Prop:=sc.names.lookup x=some .local∨sc.names.lookup x=some .cell
def Look (env:Env)(h:Heap)(m:Str->Option Value)(x:Str)(u:Value):Prop:=
 (env.kindOf x=some .local/\m x=some u)∨((env.kindOf x=some .cell∨env.kindOf x=some .free)/\∃c,env.cells.lookup x=some c/\h.IsCell c (some u))
structure Cx.Ok (X:Cx):Prop where
 mod:Mod X.K X.mg X.base
 kind:X.env.scope.kind=.function
 glob:X.env.globals=mainGlobals
 blt:X.env.builtins=builtinsNs
 above:X.s₀.heap.objs.size<=X.env.locals
 inj:∀x y c,X.env.cells.lookup x=some c->X.env.cells.lookup y=some c->x=y
 has:∀x,(X.env.kindOf x=some .cell∨X.env.kindOf x=some .free)->∃c,X.env.cells.lookup x=some c
 cab:∀x c,X.fn x=true->X.env.cells.lookup x=some c->X.s₀.heap.objs.size<=c
 hd:X.calm=true->X.A.handled=none
 frames:X.A.frames=some X.stack
 stk:X.stack=X.outer∨(X.stack=X.env::X.outer/\X.env.frame=some X.env.locals)
 exf:∀b∈X.ex,b≠X.env.locals/\∀x c,X.env.cells.lookup x=some c->c≠b
 bs:∀b o,X.base.get? b=some o->X.s₀.heap.get? b=some o/\X.H₀ b=none
 bsz:X.base.objs.size<=X.s₀.heap.objs.size
 noex:∀b o,X.base.get? b=some o->b∉X.ex
 exfs:∀b∈X.ex,b∉X.fs
 funs:X.s₀.heap.FunFrames X.base X.outer
 frf:∀b∈X.fs,X.H₀ b=none
structure Inv (X:Cx)(pins:List (Addr×Obj))(σ:List (Option V))(H:Hp)(s:Shared):Prop where
 ok:X.Ok
 os:s.os=X.s₀.os
 bare:AllBare s.gens
 base:Un X.fs X.ex X.H₀ H X.s₀.heap s.heap
 loc:∃m,s.heap.Ns X.env.locals m/\∀(i:Nat)(x:Str)(v:V),X.N[i]?=some x->σ[i]?=some (some v)->Vis X.env.scope x->∃u,RelV v u/\Look X.env s.heap m x u
 cell:∀x c,X.env.cells.lookup x=some c->∃v,s.heap.IsCell c v
 free:H X.env.locals=none
 freeC:∀x c,X.env.cells.lookup x=some c->H c=none
 pin:∀p∈X.pn++pins,s.heap.get? p.1=some p.2/\H p.1=none/\p.1≠X.env.locals/\p.1∉X.fs/\∀v,p.2.data≠ .cell v
 hok:HOk X.prog X.w H s.heap
 len:σ.length=X.N.length
section
variable {X:Cx}{pins:List (Addr×Obj)}{σ:List (Option V)}{H H':Hp}{s:Shared}{h':Heap}
theorem Cx.Ok.nofr (ok:X.Ok){b:Addr}{o:Obj}(e:X.base.get? b=some o):b∉X.fs:=λhb=>by
 have:=(ok.funs.mem hb).1
 rw[e] at this;cases this
theorem Inv.bs (I:Inv X pins σ H s):∀b o,X.base.get? b=some o->s.heap.get? b=some o/\H b=none:=λb o e=>
 ⟨I.base.keep b o (I.ok.bs b o e).1 (I.ok.bs b o e).2 (I.ok.nofr e) (I.ok.noex b o e),I.base.free b o (I.ok.bs b o e).1 (I.ok.bs b o e).2 (I.ok.noex b o e)⟩
theorem Inv.bk (I:Inv X pins σ H s):∀b o,X.base.get? b=some o->s.heap.get? b=some o:=λb o e=>(I.bs b o e).1
theorem Inv.mod (I:Inv X pins σ H s):Mod X.K X.mg X.base:=I.ok.mod
theorem Inv.kIn (I:Inv X pins σ H s):X.K.In s.heap:=I.ok.mod.kin.keeps I.bk
theorem Inv.lt (I:Inv X pins σ H s):X.env.locals<s.heap.objs.size:=let ⟨_,hn,_⟩:=I.loc;hn.lt
theorem Inv.sz (I:Inv X pins σ H s):X.s₀.heap.objs.size<=s.heap.objs.size:=uy I.ok.above (zc I.lt)
theorem Inv.nofs (I:Inv X pins σ H s){a:Addr}(h:s.heap.objs.size<=a):a∉X.fs:=λhb=>by
 obtain⟨_,o,ho,_⟩:=I.ok.funs.mem hb
 exact absurd (uw (sr ho) (uy I.sz h)) (vv _)
theorem Inv.cne (I:Inv X pins σ H s):∀x c,X.env.cells.lookup x=some c->c≠X.env.locals:=λx c e z=>by
 obtain⟨v,o,ho,hd⟩:=I.cell x c e
 obtain⟨m,⟨o',es,ep,ho',hd',_⟩,_⟩:=I.loc
 rw[z,ho'] at ho;cases ho;rw[hd'] at hd;cases hd
theorem Inv.funs (I:Inv X pins σ H s):s.heap.FunFrames X.base X.outer:=by
 have all:∀(l:List Env),(∀b∈frs l,b∈X.fs)->X.s₀.heap.FunFrames X.base l->s.heap.FunFrames X.base l:=by
  intro l
  induction l with
  | nil=>intro _ _;trivial
  |
   cons env r ih=>
   intro hs hl
   obtain⟨hk,⟨L,o,hf,hn,ho,hd⟩,hr⟩:=hl
   have hL:L∈X.fs:=hs L (by unfold frs;rw[vz,hf];exact sk)
   obtain⟨sl,e⟩:=I.base.slot L o ho (I.ok.frf L hL) hL λz=>I.ok.exfs L z hL
   exact⟨hk,⟨L,_,hf,hn,e,hd⟩,ih (λb hb=>hs b (by unfold frs;rw[vz,hf];exact sq _ hb)) hr⟩
 exact all X.outer (λ_ hb=>hb) I.ok.funs
theorem Inv.stack (I:Inv X pins σ H s):s.heap.FunFrames X.base X.stack:=by
 rcases I.ok.stk with e|⟨e,hf⟩
 · rw[e];exact I.funs
 ·
  rw[e]
  obtain⟨m,hn,_⟩:=I.loc
  refine .cons (by rw[I.ok.kind];decide) hf hn ?_ I.funs
  exact Heap.get?_none_of_le (uy I.ok.bsz I.ok.above)
theorem Inv.stkSub (I:Inv X pins σ H s):∀b∈frs X.stack,b∈X.env.locals::X.fs:=λb hb=>by
 rcases I.ok.stk with e|⟨e,hf⟩
 · rw[e] at hb;exact sq _ hb
 ·
  rw[e] at hb
  unfold frs at hb
  rw[vz,hf] at hb
  exact hb
theorem Inv.stkFree (I:Inv X pins σ H s):∀b∈frs X.stack,H b=none:=λb hb=>by
 rcases uq.mp (I.stkSub b hb) with e|hb
 · rw[e];exact I.free
 ·
  obtain⟨_,o,ho,_⟩:=I.ok.funs.mem hb
  exact I.base.free b o ho (I.ok.frf b hb) λz=>I.ok.exfs b z hb
theorem Inv.step {g':Array GenState}{t':Nat}{d':Drawn}{ch:List Addr}(I:Inv X pins σ H s)
  (hch:∀b∈ch,(b∈X.ex∨X.s₀.heap.objs.size<=b)/\b≠X.env.locals/\(∀x c,X.env.cells.lookup x=some c->c≠b)/\∀p∈X.pn++pins,p.1≠b)
  (keep:∀b o,b≠X.env.locals->b∉X.fs->b∉ch->s.heap.get? b=some o->H b=none->h'.get? b=some o)
  (slot:∀b o,b≠X.env.locals->b∈X.fs->b∉ch->s.heap.get? b=some o->H b=none->∃sl,h'.get? b=some {o with slots:=sl}) (free:∀b o,b∉ch->s.heap.get? b=some o->H b=none->H' b=none)
  (there:∀b o,b∉ch->s.heap.get? b=some o->∃o',h'.get? b=some o')
  (tups:∀b xs,H b=some (.tup xs)->H' b=some (.tup xs)) (frzs:∀b o u,H b=some (.frz o u)->H' b=some (.frz o u)) (tbls:∀b ps,H b=some (.tbl ps)->∃more,H' b=some (.tbl (ps++more)))
  (ns:∀m,s.heap.Ns X.env.locals m->h'.Ns X.env.locals m) (hok:HOk X.prog X.w H' h') (hg:AllBare g'):
  Inv X pins σ H' {s with heap:=h',gens:=g',drawn:=d',toks:=t'}:=by
 have neL:∀b o,X.s₀.heap.get? b=some o->b≠X.env.locals:=λb o e=>ug (uw (sr e) I.ok.above)
 have neC:∀b o,X.s₀.heap.get? b=some o->b∉X.ex->b∉ch:=λb o e hx hb=>by
  rcases(hch b hb).1 with z|z
  · exact hx z
  · exact absurd (uw (sr e) z) (vv _)
 have cellK:∀x c,X.env.cells.lookup x=some c->∀v,s.heap.IsCell c v->h'.IsCell c v:=λx c e v ⟨o,ho,hd⟩=>by
  have nch:c∉ch:=λz=>(hch c z).2.2.1 x c e rfl
  by_cases hc:c∈X.fs
  ·
   obtain⟨sl,q⟩:=slot c o (I.cne x c e) hc nch ho (I.freeC x c e)
   exact⟨_,q,hd⟩
  · exact⟨o,keep c o (I.cne x c e) hc nch ho (I.freeC x c e),hd⟩
 refine⟨I.ok,I.os,hg,⟨λb o e n hb hx=>?_,λb o e n hb hx=>?_,λb o e n hx=>?_,λb o e hx=>?_,λb xs e=>tups b xs (I.base.tups b xs e),λb o xs e=>frzs b o xs (I.base.frzs b o xs e),λb ps e=>?_⟩,?_,λx c e=>?_,?_,λx c e=>?_,λp hp=>?_,hok,I.len⟩
 · exact keep b o (neL b o e) hb (neC b o e hx) (I.base.keep b o e n hb hx) (I.base.free b o e n hx)
 ·
  obtain⟨sl,e1⟩:=I.base.slot b o e n hb hx
  obtain⟨sl',e2⟩:=slot b _ (neL b o e) hb (neC b o e hx) e1 (I.base.free b o e n hx)
  exact⟨sl',e2⟩
 ·
  obtain⟨o',e1⟩:=I.base.there b o e hx
  exact free b o' (neC b o e hx) e1 (I.base.free b o e n hx)
 ·
  obtain⟨o',e1⟩:=I.base.there b o e hx
  exact there b o' (neC b o e hx) e1
 ·
  obtain⟨m1,e1⟩:=I.base.tbls b ps e
  obtain⟨m2,e2⟩:=tbls b _ e1
  exact⟨m1++m2,by rw[e2,Array.append_assoc]⟩
 ·
  obtain⟨m,hn,hl⟩:=I.loc
  refine⟨m,ns m hn,λi x v e1 e2 e3=>?_⟩
  obtain⟨u,r,l⟩:=hl i x v e1 e2 e3
  refine⟨u,r,?_⟩
  rcases l with l|⟨k,c,e,z⟩
  · exact .inl l
  · exact .inr ⟨k,c,e,cellK x c e _ z⟩
 ·
  obtain⟨v,z⟩:=I.cell x c e
  exact⟨v,cellK x c e v z⟩
 ·
  obtain⟨m,⟨o,_,_,ho,_⟩,_⟩:=I.loc
  exact free _ o (λz=>(hch _ z).2.1 rfl) ho I.free
 ·
  obtain⟨v,o,ho,hd⟩:=I.cell x c e
  exact free c o (λz=>(hch c z).2.2.1 x c e rfl) ho (I.freeC x c e)
 ·
  obtain⟨e,n,ne,nf,d⟩:=I.pin p hp
  have nch:p.1∉ch:=λz=>(hch p.1 z).2.2.2 p hp rfl
  exact⟨keep p.1 p.2 ne nf nch e n,free p.1 p.2 nch e n,ne,nf,d⟩
theorem Inv.un {t':Nat}(I:Inv X pins σ H s)(u:Un X.fs [] H H' s.heap h')(hok:HOk X.prog X.w H' h'):Inv X pins σ H' {s with heap:=h',toks:=t'}:=by
 obtain⟨m,⟨o,es,ep,ho,r⟩,_⟩:=id I.loc
 obtain⟨sl,hL⟩:=u.any ho I.free (by simp)
 exact I.step (g':=s.gens) (d':=s.drawn) (ch:=[]) (λ_ z=>nomatch z) (λb o _ hb _ e n=>u.keep b o e n hb (by simp)) (λb o _ hb _ e n=>u.slot b o e n hb (by simp)) (λb o _ e n=>u.free b o e n (by simp)) (λb o _ e=>u.there b o e (by simp)) u.tups u.frzs u.tbls (λm' hm=>by
  obtain⟨o',es',ep',ho',r'⟩:=hm
  rw[ho] at ho';cases ho'
  exact⟨_,es',ep',hL,r'⟩) hok I.bare
theorem Inv.call {g':Array GenState}{t':Nat}{d':Drawn}{ch:List Addr}(I:Inv X pins σ H s)(u:Un (frs X.stack) ch H H' s.heap h')(hok:HOk X.prog X.w H' h')(hg:AllBare g')
  (hch:∀b∈ch,(b∈X.ex∨X.s₀.heap.objs.size<=b)/\b≠X.env.locals/\(∀x c,X.env.cells.lookup x=some c->c≠b)/\∀p∈X.pn++pins,p.1≠b):
  Inv X pins σ H' {s with heap:=h',gens:=g',drawn:=d',toks:=t'}:=by
 obtain⟨m,⟨o,es,ep,ho,r⟩,_⟩:=id I.loc
 obtain⟨sl,hL⟩:=u.any ho I.free λz=>(hch _ z).2.1 rfl
 exact I.step (ch:=ch) hch (λb o hL hb hc e n=>u.keep b o e n (λz=>(uq.mp (I.stkSub b z)).elim hL hb) hc) (λb o _ _ hc e n=>u.any e n hc) (λb o hc e n=>u.free b o e n hc) (λb o hc e=>u.there b o e hc) u.tups u.frzs u.tbls (λm' hm=>by
  obtain⟨o',es',ep',ho',r'⟩:=hm
  rw[ho] at ho';cases ho'
  exact⟨_,es',ep',hL,r'⟩) hok hg
theorem Inv.turned {t':Nat}{it:Addr}(I:Inv X pins σ H s)(k:∀b o,b≠it->s.heap.get? b=some o->h'.get? b=some o)(hn:H it=none)(hL:it≠X.env.locals)
  (h1:it∈X.ex∨X.s₀.heap.objs.size<=it) (h2:∀x c,X.env.cells.lookup x=some c->c≠it) (h3:∀p∈X.pn++pins,p.1≠it):Inv X pins σ H {s with heap:=h',toks:=t'}:=by
 have nit:∀b u,H b=some u->b≠it:=λb u e z=>by rw[z,hn] at e;cases e
 refine I.step (g':=s.gens) (d':=s.drawn) (ch:=[it]) (λb hb=>?_) (λb o _ _ hc e _=>k b o (λz=>hc (by simp[z])) e) (λb o _ _ hc e _=>⟨o.slots,k b o (λz=>hc (by simp[z])) e⟩) (λ_ _ _ _ n=>n)
  (λb o hc e=>⟨o,k b o (λz=>hc (by simp[z])) e⟩) (λ_ _ e=>e) (λ_ _ _ e=>e) (λb ps e=>⟨#[],by rw[e];simp⟩) (λm hm=>?_) (λb u e=>?_) I.bare
 ·
  have e:b=it:=by simpa using hb
  subst e
  exact⟨h1,hL,h2,h3⟩
 ·
  obtain⟨o,es,ep,ho,r⟩:=hm
  exact⟨o,es,ep,k _ o (zg hL) ho,r⟩
 ·
  refine(I.hok b u e).stay (λc v hc q=>k c v ?_ q) (λ_ q=>q) λ_ _ q=>q
  rcases hc with z|z
  · rw[z];exact nit b u e
  · exact nit c _ z
theorem Inv.tok (I:Inv X pins σ H s)(t:Nat):Inv X pins σ H {s with toks:=t}:=I.un (h':=s.heap) (t':=t) Un.refl I.hok
theorem Inv.kept {t':Nat}(I:Inv X pins σ H s)(k:∀b u,s.heap.get? b=some u->h'.get? b=some u):Inv X pins σ H {s with heap:=h',toks:=t'}:=I.un (Un.kept k) (I.hok.kept k)
theorem Inv.laid {a:Addr}{o:HO}{t':Nat}(I:Inv X pins σ H s)(k:∀b u,s.heap.get? b=some u->h'.get? b=some u)(hp:s.heap.objs.size<=a)(new:ObjOk X.prog X.w (upd H a o) h' a o):
 Inv X pins σ (upd H a o) {s with heap:=h',toks:=t'}:=I.un (Un.laid k hp (I.hok.fresh hp)) (I.hok.laid k hp new)
theorem Inv.write {x e:Addr}{o:HO}{t':Nat}(I:Inv X pins σ H s)(mu:Mut (H x))(he:e=x∨H e=some (.own x))(k:∀b u,b≠e->s.heap.get? b=some u->h'.get? b=some u)(heo:∃u,h'.get? e=some u)
 (new:ObjOk X.prog X.w (upd H x o) h' x o):Inv X pins σ (upd H x o) {s with heap:=h',toks:=t'}:=I.un (Un.write mu he k heo) (I.hok.write mu he k heo new)
theorem Inv.pins_of {pins':List (Addr×Obj)}(I:Inv X pins σ H s)(h:∀p∈pins',s.heap.get? p.1=some p.2/\H p.1=none/\p.1≠X.env.locals/\p.1∉X.fs/\∀v,p.2.data≠ .cell v):Inv X pins' σ H s:=
 ⟨I.ok,I.os,I.bare,I.base,I.loc,I.cell,I.free,I.freeC,λp hp=>(uh.mp hp).elim (λz=>I.pin p (vc _ z)) (h p),I.hok,I.len⟩
theorem P5 {N:List Str}(hN:N.Nodup){i j:Nat}{x:Str}(a:N[i]?=some x)(b:N[j]?=some x):i=j:=by
 obtain⟨h1,e1⟩:=t8.mp a
 obtain⟨h2,e2⟩:=t8.mp b
 exact(List.getElem_inj hN).mp (e1.trans e2.symm)
theorem Rr {M:Model}{A:Around}{E:Value->Shared->Prop}{i:Nat}{x:Str}{v:V}{u:Value}{Q:Unit->Shared->Prop}(I:Inv X pins σ H s)(hN:X.N.Nodup)(hi:X.N[i]?=some x)(hx:Loc X.env.scope x)(r:RelV v u)
  (h:∀s',Inv X pins (σ.set i (some v)) H s'->(∃a,Heap.SameBut a s.heap s'.heap/\(a=X.env.locals∨X.env.cells.lookup x=some a))->Q () s') (hf:X.fn x=true∨X.env.scope.names.lookup x=some .local:=by first|exact .inl rfl|exact .inr rfl|assumption):wpAny M A (storeName X.env x u) Q E s:=by
 obtain⟨m,hn,hl⟩:=id I.loc
 have hcls:(X.env.scope.kind== .class||(X.env.scope.kind== .module&&X.env.locals != X.env.globals))=false:=by rw[I.ok.kind];rfl
 have hiσ:i<σ.length:=by rw[I.len];exact(t8.mp hi).1
 have cne:=I.cne
 have tracked:∀{a:Addr}{h':Heap},(∃o,s.heap.get? a=some o/\H a=none)->Heap.SameBut a s.heap h'->HOk X.prog X.w H h':=λ{a h'}ha hs b ob e=>by
  obtain⟨_,_,hfree⟩:=ha
  refine(I.hok b ob e).stay (λc w' hc q=>(hs.2 c ?_).trans q) (λ_ q=>q) λ_ _ q=>q
  rintro rfl
  rcases hc with rfl|hc
  · rw[hfree] at e;cases e
  · rw[hfree] at hc;cases hc
 rcases hx with hk|hk
 ·
  refine wpAny_storeName_local hk hn (λh' hn' hs=>?_) hcls
  obtain⟨oL,_,_,hoL,_⟩:=id hn
  refine h _ ⟨I.ok,I.os,I.bare,⟨λb o e n hb hx=>?_,λb o e n hb hx=>?_,I.base.free,λb o e hx=>?_,I.base.tups,I.base.frzs,I.base.tbls⟩,⟨_,hn',λj y v' e1 e2 e3=>?_⟩,λy c e=>?_,I.free,I.freeC,λp hp=>?_,tracked ⟨oL,hoL,I.free⟩ hs,by simpa using I.len⟩ ⟨_,hs,.inl rfl⟩
  · exact(hs.2 b (ug (uw (sr e) I.ok.above))).trans (I.base.keep b o e n hb hx)
  ·
   obtain⟨sl,e1⟩:=I.base.slot b o e n hb hx
   exact⟨sl,(hs.2 b (ug (uw (sr e) I.ok.above))).trans e1⟩
  ·
   obtain⟨o',e1⟩:=I.base.there b o e hx
   exact⟨o',(hs.2 b (ug (uw (sr e) I.ok.above))).trans e1⟩
  ·
   by_cases hj:j=i
   ·
    subst hj
    rw[hi] at e1;cases e1
    rw[yz hiσ] at e2
    cases e2
    exact⟨u,r,.inl ⟨hk,by simp⟩⟩
   ·
    rw[zj (zg hj)] at e2
    obtain⟨u',r',q⟩:=hl j y v' e1 e2 e3
    refine⟨u',r',?_⟩
    rcases q with⟨k,e⟩|⟨k,c,e,z⟩
    ·
     refine .inl ⟨k,?_⟩
     have:y≠x:=λe=>hj (P5 hN e1 (e▸hi))
     simp[this,e]
    · exact .inr ⟨k,c,e,z.sameBut hs (cne y c e)⟩
  ·
   obtain⟨w',z⟩:=I.cell y c e
   exact⟨w',z.sameBut hs (cne y c e)⟩
  ·
   obtain⟨e,n,ne,nf,d⟩:=I.pin p hp
   exact⟨(hs.2 p.1 ne).trans e,n,ne,nf,d⟩
 ·
  have hfn:X.fn x=true:=by
   rcases hf with z|z
   · exact z
   · rw[z] at hk;cases hk
  obtain⟨c,hc⟩:=I.ok.has x (.inl hk)
  obtain⟨w',z⟩:=I.cell x c hc
  refine wpAny_storeName_cell I.ok.kind hk hc z (λh' hc' hs=>?_)
  obtain⟨oc,hoc,hocd⟩:=id z
  refine h {s with heap:=h'} ⟨I.ok,I.os,I.bare,⟨λb o e n hb hx=>?_,λb o e n hb hx=>?_,I.base.free,λb o e hx=>?_,I.base.tups,I.base.frzs,I.base.tbls⟩,⟨m,hn.sameBut hs (zg (cne x c hc)),λj y v' e1 e2 e3=>?_⟩,λy c' e=>?_,I.free,I.freeC,λp hp=>?_,tracked ⟨oc,hoc,I.freeC x c hc⟩ hs,by simpa using I.len⟩ ⟨c,hs,.inr hc⟩
  · exact(hs.2 b (ug (uw (sr e) (I.ok.cab x c hfn hc)))).trans (I.base.keep b o e n hb hx)
  ·
   obtain⟨sl,e1⟩:=I.base.slot b o e n hb hx
   exact⟨sl,(hs.2 b (ug (uw (sr e) (I.ok.cab x c hfn hc)))).trans e1⟩
  ·
   obtain⟨o',e1⟩:=I.base.there b o e hx
   exact⟨o',(hs.2 b (ug (uw (sr e) (I.ok.cab x c hfn hc)))).trans e1⟩
  ·
   by_cases hj:j=i
   ·
    subst hj
    rw[hi] at e1;cases e1
    rw[yz hiσ] at e2
    cases e2
    exact⟨u,r,.inr ⟨.inl hk,c,hc,hc'⟩⟩
   ·
    rw[zj (zg hj)] at e2
    obtain⟨u',r',q⟩:=hl j y v' e1 e2 e3
    refine⟨u',r',?_⟩
    rcases q with q|⟨k,c',e,z'⟩
    · exact .inl q
    ·
     refine .inr ⟨k,c',e,z'.sameBut hs ?_⟩
     rintro rfl
     exact hj (P5 hN e1 (I.ok.inj _ _ _ e hc▸hi))
  ·
   by_cases hcc:c'=c
   · subst hcc;exact⟨_,hc'⟩
   ·
    obtain⟨w2,z2⟩:=I.cell y c' e
    exact⟨w2,z2.sameBut hs hcc⟩
  ·
   obtain⟨e,n,ne,nf,d⟩:=I.pin p hp
   refine⟨(hs.2 p.1 ?_).trans e,n,ne,nf,d⟩
   intro q
   rw[q,hoc] at e
   have q':oc=p.2:=sy e
   exact d w' (by rw[←q'];exact hocd)
theorem Mi {M:Model}{A:Around}{E:Value->Shared->Prop}{i:Nat}{x:Str}{v:V}{u:Value}{Q:Unit->Shared->Prop}(I:Inv X pins σ H s)(hN:X.N.Nodup)(hi:X.N[i]?=some x)(hx:Loc X.env.scope x)(r:RelV v u)
  (h:∀s',Inv X pins (σ.set i (some v)) H s'->Q () s') (hf:X.fn x=true∨X.env.scope.names.lookup x=some .local:=by first|exact .inl rfl|exact .inr rfl|assumption):wpAny M A (storeName X.env x u) Q E s:=
 Rr I hN hi hx r (λs' I' _=>h s' I') hf
theorem Inv.call' {s':Shared}{ch:List Addr}(I:Inv X pins σ H s)(ho:s'.os=s.os)(u:Un (frs X.stack) ch H H' s.heap s'.heap)(hok:HOk X.prog X.w H' s'.heap)(hg:AllBare s'.gens)
  (hch:∀b∈ch,(b∈X.ex∨X.s₀.heap.objs.size<=b)/\b≠X.env.locals/\(∀x c,X.env.cells.lookup x=some c->c≠b)/\∀p∈X.pn++pins,p.1≠b):Inv X pins σ H' s':=by
 obtain⟨h',g',d',t',o'⟩:=s'
 have e:o'=s.os:=ho
 subst e
 exact I.call (g':=g') (t':=t') (d':=d') u hok hg hch
end
abbrev XK:=Value->Option Addr->Hp->Prop
abbrev St:=List (Option V)
abbrev VK:=V->Hp->Prop
abbrev TE:=St->Hp->VK->Prop
abbrev TT:=St->Hp->(Bool->Hp->Prop)->Prop
abbrev TA:=St->Hp->(List V->Hp->Prop)->Prop
structure Ends where
 nx:St->Hp->Prop
 rt:St->VK
 bk:St->Hp->Prop:=λ_ _=>False
 ct:St->Hp->Prop:=λ_ _=>False
abbrev TS:=Ends->St->Hp->Prop
def EP (X:Cx)(pins:List (Addr×Obj))(σ:St)(Q:VK)(u:Value)(s':Shared):Prop:=∃v H',Inv X pins σ H' s'/\RelV v u/\Q v H'
def TP (X:Cx)(pins:List (Addr×Obj))(σ:St)(Q:Bool->Hp->Prop)(b:Bool)(s':Shared):Prop:=∃H',Inv X pins σ H' s'/\Q b H'
def AP (X:Cx)(pins:List (Addr×Obj))(σ:St)(Q:List V->Hp->Prop)(us:List Value)(s':Shared):Prop:=∃vs H',Inv X pins σ H' s'/\Vals vs us/\Q vs H'
def SP (X:Cx)(pins:List (Addr×Obj))(D:Ends)(f:Flow)(s':Shared):Prop:=
 match f with
 | .next=>∃σ' H',Inv X pins σ' H' s'/\D.nx σ' H'
 | .brk=>∃σ' H',Inv X pins σ' H' s'/\D.bk σ' H'
 | .cont=>∃σ' H',Inv X pins σ' H' s'/\D.ct σ' H'
 | .ret u=>∃v σ' H',Inv X pins σ' H' s'/\RelV v u/\D.rt σ' v H'
def PE (X:Cx)(e:Expr)(t:TE):Prop:=
 ∀(pins:List (Addr×Obj))(s:Shared)(σ:St)(H:Hp)(Q:VK),Inv X pins σ H s->t σ H Q->wpAny (model X.prog X.w) X.A (eval e X.env) (EP X pins σ Q) X.xe s
def PT (X:Cx)(e:Expr)(t:TT):Prop:=
 ∀(pins:List (Addr×Obj))(s:Shared)(σ:St)(H:Hp)(Q:Bool->Hp->Prop),Inv X pins σ H s->t σ H Q->wpAny (model X.prog X.w) X.A (isTrue e X.env (eval e X.env)) (TP X pins σ Q) X.xe s
def PW (X:Cx)(e:Expr)(t:TT):Prop:=
 ∀(whole:Sem Value)(pins:List (Addr×Obj))(s:Shared)(σ:St)(H:Hp)(Q:Bool->Hp->Prop),Inv X pins σ H s->t σ H Q->wpAny (model X.prog X.w) X.A (isTrue e X.env whole) (TP X pins σ Q) X.xe s
theorem PW.pt {X:Cx}{e:Expr}{t:TT}(h:PW X e t):PT X e t:=h _
def PA (X:Cx)(es:List Expr)(t:TA):Prop:=
 ∀(pos:Pos)(pins:List (Addr×Obj))(s:Shared)(σ:St)(H:Hp)(Q:List V->Hp->Prop),Inv X pins σ H s->t σ H Q->wpAny (model X.prog X.w) X.A (spliced (backTo pos (starEach es X.env))) (AP X pins σ Q) X.xe s
def PS (X:Cx)(st:Stmt)(t:TS):Prop:=
 ∀(pins:List (Addr×Obj))(s:Shared)(σ:St)(H:Hp)(D:Ends),Inv X pins σ H s->t D σ H->wpAny (model X.prog X.w) X.A (exec st X.env) (SP X pins D) X.xe s
def PSs (X:Cx)(st:List Stmt)(t:TS):Prop:=
 ∀(pins:List (Addr×Obj))(s:Shared)(σ:St)(H:Hp)(D:Ends),Inv X pins σ H s->t D σ H->wpAny (model X.prog X.w) X.A (execs st X.env) (SP X pins D) X.xe s
theorem thn {α:Type}{t:Sem α}{Q Q':α->Shared->Prop}{M:Model}{A:Around}{E:Value->Shared->Prop}{s:Shared}(h:wpAny M A t Q E s)(hQ:∀a s,Q a s->Q' a s):wpAny M A t Q' E s:=wu h hQ λ_ _ x=>x
section
variable {X:Cx}
def pj (i:Nat):TE:=λσ H Q=>∃v,σ[i]?=some (some v)/\Q v H
def tC (v:V):TE:=λ_ H Q=>Q v H
theorem kc {i:Nat}{x:Str}{pos:Pos}(hN:X.N[i]?=some x)(hv:Vis X.env.scope x)(hd:(x==("__debug__":Str))=false:=by decide)(hcd:(x==("__classdict__":Str))=false:=by decide):PE X (.Name x pos) (pj i):=by
 intro pins s σ H Q I h
 obtain⟨v,e,h⟩:=h
 obtain⟨m,hn,hl⟩:=I.loc
 obtain⟨u,r,l⟩:=hl i x v hN e hv
 have fin:EP X pins σ Q u s:=⟨v,H,I,r,h⟩
 rcases l with⟨hk,hm⟩|⟨hk,c,hc,hcell⟩
 · exact wpAny_Name (wpAny_loadName_local I.ok.kind hk hn hm fin) hd
 ·
  rcases hk with hk|hk
  · exact wpAny_Name (wpAny_loadName_cell I.ok.kind hk hc hcell fin) hd
  · exact wpAny_Name (wpAny_loadName_free I.ok.kind hk hc hcell fin hcd) hd
theorem Ae {i j pos}:PE X (.Constant (.int i) j pos) (tC (.int i)):=λ_ _ _ H _ I h=>wpAny_Constant_int ⟨.int i,H,I.tok _,⟨_,rfl⟩,h⟩
theorem Sn {b j pos}:PE X (.Constant (.bool b) j pos) (tC (.bl b)):=λ_ _ _ H _ I h=>Constant_bool ⟨.bl b,H,I,rfl,h⟩
theorem ef {j pos}:PE X (.Constant .none j pos) (tC .non):=λ_ _ _ H _ I h=>Constant_none ⟨.non,H,I,rfl,h⟩
theorem C1 {x j pos}:PE X (.Constant (.str x) j pos) (tC (.str x)):=λ_ _ _ H _ I h=>Calls.Constant_str ⟨.str x,H,I.tok _,⟨_,rfl⟩,h⟩
def Gl (X:Cx)(x:Str):Prop:=X.env.kindOf x=some .globalImplicit
theorem Lc {E:Value->Shared->Prop}{pins:List (Addr×Obj)}{s:Shared}{σ:St}{H:Hp}{x:Str}{u:Value}{pos:Pos}{Q:Value->Shared->Prop}(I:Inv X pins σ H s)(hg:Gl X x)(hm:X.mg x=some u)(h:Q u s)
  (hd:(x==("__debug__":Str))=false:=by decide):wpAny (model X.prog X.w) X.A (eval (.Name x pos) X.env) Q E s:=
 Calls.Name_function_global I.ok.kind hg (Calls.loadGlobal_global (by rw[I.ok.glob];exact I.mod.glob.keeps I.bk) hm h) hd
theorem U5 {E:Value->Shared->Prop}{pins:List (Addr×Obj)}{s:Shared}{σ:St}{H:Hp}{x:Str}{u:Value}{pos:Pos}{Q:Value->Shared->Prop}(I:Inv X pins σ H s)(hg:Gl X x)(hm:X.mg x=none)(hv:bootBuiltins x=some u)(h:Q u s)
  (hn:x≠"__name__":=by decide) (hd:(x==("__debug__":Str))=false:=by decide):wpAny (model X.prog X.w) X.A (eval (.Name x pos) X.env) Q E s:=by
 obtain⟨mb,h1,h2⟩:=I.mod.blt
 exact Calls.Name_function_global I.ok.kind hg (Calls.loadGlobal_builtin (by rw[I.ok.glob];exact I.mod.glob.keeps I.bk) hm (by rw[I.ok.blt];exact h1.keeps I.bk) ((h2 x hn).trans hv) h) hd
theorem Sx {x:Str}{v:V}{u:Value}{pos:Pos}(hg:Gl X x)(hm:X.mg x=some u)(r:RelV v u)(hd:(x==("__debug__":Str))=false:=by decide):PE X (.Name x pos) (tC v):=
 λ_ _ _ H _ I h=>Lc I hg hm ⟨v,H,I,r,h⟩ hd
theorem Yt {x:Str}{v:V}{u:Value}{pos:Pos}(hg:Gl X x)(hm:X.mg x=none)(hv:bootBuiltins x=some u)(r:RelV v u)(hn:x≠"__name__":=by decide)(hd:(x==("__debug__":Str))=false:=by decide):PE X (.Name x pos) (tC v):=
 λ_ _ _ H _ I h=>U5 I hg hm hv ⟨v,H,I,r,h⟩ hn hd
variable {a b:Expr}{ta tb:TE}{pos:Pos}
def PC (X:Cx)(op:CmpOp)(a b:Expr)(t:TE):Prop:=
 ∀(pins:List (Addr×Obj))(s:Shared)(σ:St)(H:Hp)(Q:VK),Inv X pins σ H s->t σ H Q->
  wpAny (model X.prog X.w) X.A (eval a X.env) (λv s₁=>wpAny (model X.prog X.w) X.A (eval b X.env) (λu s₂=>wpAny (model X.prog X.w) X.A (compareOp op v u) (EP X pins σ Q) X.xe s₂) X.xe s₁) X.xe s
def tB (t:TE):TT:=λσ H Q=>t σ H λx H1=>∃c,x=.bl c/\Q c H1
theorem Ve {op:CmpOp}{t:TE}(h:PC X op a b t)(h1:behindInMarks op b=false:=by first|exact nobehind _ (by decide) (by decide)|rfl):PT X (.Compare a [op] [b] pos) (tB t):=by
 intro pins s σ H Q I hw
 refine wpAny_isTrue_Compare1 (thn (h pins s σ H _ I hw) λv s1 h1=>thn h1 λu s2 h2=>thn h2 λc s3 ⟨x,H1,I1,r1,q1⟩=>?_) h1
 obtain⟨d,rfl,q⟩:=q1
 cases r1
 exact x5 ⟨H1,I1,q⟩
theorem I0 {e:Expr}{t:TE}(h:PE X e t)(he:∀whole,isTrue e X.env whole=(do let v ←whole;standAt e.pos;holding [v] (truthy v)):=by intro _;rfl):PT X e (tB t):=by
 intro pins s σ H Q I hw
 refine isTrue_plain (thn (h pins s σ H _ I hw) λv s1 ⟨x,H1,I1,r1,q1⟩=>?_) (he _)
 obtain⟨d,rfl,q⟩:=q1
 cases r1
 exact x5 ⟨H1,I1,q⟩
variable {tA tB':TT}{rest:List Expr}
def q4 (t u:TT):TT:=λσ H Q=>t σ H λc H1=>if c=true then u σ H1 Q else Q false H1
def tOr (t u:TT):TT:=λσ H Q=>t σ H λc H1=>if c=true then Q true H1 else u σ H1 Q
def q5 (t:TT):TT:=λσ H Q=>t σ H λc H1=>Q (!c) H1
theorem Lm (ha:PT X a tA):PW X (.BoolOp .And [a] pos) tA:=by
 intro wh pins s σ H Q I h
 refine isTrue_and (thn (ha pins s σ H Q I h) λc s1 e=>?_)
 cases c with
 | true=>exact isTrue_and_nil e
 | false=>exact e
theorem Qv (ha:PT X a tA):PW X (.BoolOp .Or [a] pos) tA:=by
 intro wh pins s σ H Q I h
 refine isTrue_or (thn (ha pins s σ H Q I h) λc s1 e=>?_)
 cases c with
 | false=>exact isTrue_or_nil e
 | true=>exact e
theorem Of (ha:PT X a tA)(hb:PW X (.BoolOp .And (b::rest) pos) tB'):PW X (.BoolOp .And (a::b::rest) pos) (q4 tA tB'):=by
 intro wh pins s σ H Q I h
 refine isTrue_and (thn (ha pins s σ H _ I h) λc s1 hz=>?_)
 obtain⟨H1,I1,q1⟩:=hz
 cases c with
 | true=>exact hb wh pins s1 σ H1 Q I1 q1
 | false=>exact⟨H1,I1,q1⟩
theorem Yv (ha:PT X a tA)(hb:PW X (.BoolOp .Or (b::rest) pos) tB'):PW X (.BoolOp .Or (a::b::rest) pos) (tOr tA tB'):=by
 intro wh pins s σ H Q I h
 refine isTrue_or (thn (ha pins s σ H _ I h) λc s1 hz=>?_)
 obtain⟨H1,I1,q1⟩:=hz
 cases c with
 | true=>exact⟨H1,I1,q1⟩
 | false=>exact hb wh pins s1 σ H1 Q I1 q1
theorem L6 (ha:PT X a tA):PT X (.UnaryOp .Not a pos) (q5 tA):=by
 intro pins s σ H Q I h
 exact isTrue_not (ha pins s σ H (λc H1=>Q (!c) H1) I h)
def mv (ta tb:TE):TE:=λσ H Q=>ta σ H λx H1=>∃c,x=.bl c/\if c=true then tb σ H1 Q else Q (.bl false) H1
theorem fb {op}{t:TE}(h:PE X a t):PE X (.BoolOp op [a] pos) t:=λpins s σ H Q I hw=>BoolOp_one (h pins s σ H Q I hw)
theorem e7 (ha:PE X a ta)(hb:PE X (.BoolOp .And (b::rest) pos) tb):PE X (.BoolOp .And (a::b::rest) pos) (mv ta tb):=by
 intro pins s σ H Q I h
 refine BoolOp_and (thn (ha pins s σ H _ I h) λv s1 hz=>?_)
 obtain⟨x,H1,I1,r1,q1⟩:=hz
 obtain⟨c,rfl,q1⟩:=q1
 cases r1
 refine x5 ?_
 cases c with
 | true=>exact hb pins s1 σ H1 Q I1 q1
 | false=>exact⟨.bl false,H1,I1,rfl,q1⟩
def tIf (t:TT)(ta tb:TE):TE:=λσ H Q=>t σ H λc H1=>if c=true then ta σ H1 Q else tb σ H1 Q
theorem Je {c:Expr}(hc:PT X c tA)(ha:PE X a ta)(hb:PE X b tb):PE X (.IfExp c a b pos) (tIf tA ta tb):=by
 intro pins s σ H Q I h
 refine wpAny_IfExp (thn (hc pins s σ H _ I h) λd s1 hz=>?_)
 obtain⟨H1,I1,q1⟩:=hz
 cases d with
 | true=>exact ha pins s1 σ H1 Q I1 q1
 | false=>exact hb pins s1 σ H1 Q I1 q1
end
def SqL (K:W.Frag)(H:Hp)(a:Addr)(xs:List V):Prop:=
 Rd H a (.lst xs)∨
  ∃(o:Obj)(its:Array Value)(n:Nat),K.lookup a=some o/\o.cls=.type "list"/\o.dict=none/\o.data=.seq its n/\its.size<=sizeLine/\Vals xs its.toList
def SqT (K:W.Frag)(H:Hp)(a:Addr)(xs:List V):Prop:=
 Rd H a (.tup xs)∨
  ∃(o:Obj)(its:Array Value)(n:Nat),K.lookup a=some o/\o.cls=.type "tuple"/\o.data=.seq its n/\its.size<=sizeLine/\Vals xs its.toList
def ql:Value->Option V
 | .none=>some .non
 | .bool b=>some (.bl b)
 | .int i _=>some (.int i)
 | .str x _=>some (.str x)
 | .bytes b _=>some (.byt b)
 | .float b _=>some (.flt b)
 | .ref a=>some (.ref a)
 | .type n=>some (.ty n)
 | _=>none
theorem RelV.abs {x:V}{u:Value}(r:RelV x u):ql u=some x:=by
 cases x with
 | non=>cases r;rfl
 | bl _=>cases r;rfl
 | int _=>obtain⟨t,rfl⟩:=r;rfl
 | str _=>obtain⟨t,rfl⟩:=r;rfl
 | byt _=>obtain⟨t,rfl⟩:=r;rfl
 | flt _=>obtain⟨t,rfl⟩:=r;rfl
 | ref _=>cases r;rfl
 | ty _=>cases r;rfl
theorem RelV.inj {x y:V}{u:Value}(r:RelV x u)(q:RelV y u):x=y:=sy (r.abs.symm.trans q.abs)
theorem Vals.inj:∀{xs ys:List V}{us:List Value},Vals xs us->Vals ys us->xs=ys
 | _,_,_,.nil,.nil=>rfl
 | _,_,_,.cons r t,.cons r' t'=>by rw[r.inj r',Vals.inj t t']
section
variable {X:Cx}{pins:List (Addr×Obj)}{σ:St}{H:Hp}{s:Shared}{a:Addr}{xs ys:List V}
theorem SqL.of {K:W.Frag}(h:H a=some (.lst xs)):SqL K H a xs:=.inl (.inl h)
theorem SqT.of {K:W.Frag}(h:H a=some (.tup xs)):SqT K H a xs:=.inl (.inl h)
theorem Inv.list (I:Inv X pins σ H s)(h:SqL X.K H a xs):∃its:List Value,Vals xs its/\PlainL s.heap a its.toArray/\xs.length<=sizeLine:=by
 rcases h with h|⟨o,its,n,hk,hc,hd,hs,hz,r⟩
 ·
  obtain⟨z,its,n,r,e⟩:=h.ok I.hok
  exact⟨its,r,⟨_,n,e,rfl,rfl,rfl⟩,z⟩
 ·
  refine⟨its.toList,r,⟨o,n,I.kIn a o hk,hc,hd,by simpa using hs⟩,?_⟩
  have e:=r.length
  simp only[sv] at e
  lia
theorem Inv.tuple (I:Inv X pins σ H s)(h:SqT X.K H a xs):∃its:List Value,Vals xs its/\IsTup s.heap a its.toArray/\xs.length<=sizeLine:=by
 rcases h with h|⟨o,its,n,hk,hc,hs,hz,r⟩
 ·
  obtain⟨z,its,r,p⟩:=h.ok I.hok
  exact⟨its,r,p,z⟩
 ·
  refine⟨its.toList,r,⟨o,I.kIn a o hk,hc,n,by simpa using hs⟩,?_⟩
  have e:=r.length
  simp only[sv] at e
  lia
theorem Inv.list_inj (I:Inv X pins σ H s)(h:SqL X.K H a xs)(h':SqL X.K H a ys):xs=ys:=by
 obtain⟨its,r,⟨o,n,e,_,_,d⟩,_⟩:=I.list h
 obtain⟨its',r',⟨o',n',e',_,_,d'⟩,_⟩:=I.list h'
 rw[e] at e';cases e'
 rw[d] at d'
 injection d' with d1 _
 have:its=its':=by simpa using vi Array.toList d1
 subst this
 exact r.inj r'
end
abbrev Cx.wish (X:Cx)(E:Value->Shared->Prop):Cx:={X with xe:=E}
abbrev Cx.nox (X:Cx):Cx:=X.wish λ_ _=>False
theorem Cx.Ok.wish {X:Cx}(ok:X.Ok)(E:Value->Shared->Prop):(X.wish E).Ok:=
 ⟨ok.mod,ok.kind,ok.glob,ok.blt,ok.above,ok.inj,ok.has,ok.cab,ok.hd,ok.frames,ok.stk,ok.exf,ok.bs,ok.bsz,ok.noex,ok.exfs,ok.funs,ok.frf⟩
theorem Cx.Ok.unwish {X:Cx}{E:Value->Shared->Prop}(ok:(X.wish E).Ok):X.Ok:=
 ⟨ok.mod,ok.kind,ok.glob,ok.blt,ok.above,ok.inj,ok.has,ok.cab,ok.hd,ok.frames,ok.stk,ok.exf,ok.bs,ok.bsz,ok.noex,ok.exfs,ok.funs,ok.frf⟩
section
variable {X:Cx}{pins:List (Addr×Obj)}{σ:St}{H:Hp}{s:Shared}{E:Value->Shared->Prop}
theorem Inv.wish (I:Inv X pins σ H s)(E:Value->Shared->Prop):Inv (X.wish E) pins σ H s:=⟨I.ok.wish E,I.os,I.bare,I.base,I.loc,I.cell,I.free,I.freeC,I.pin,I.hok,I.len⟩
theorem Inv.unwish (I:Inv (X.wish E) pins σ H s):Inv X pins σ H s:=⟨I.ok.unwish,I.os,I.bare,I.base,I.loc,I.cell,I.free,I.freeC,I.pin,I.hok,I.len⟩
theorem SP.unwish {D:Ends}{f:Flow}{s':Shared}(h:SP (X.wish E) pins D f s'):SP X pins D f s':=by
 cases f with
 | next=>obtain⟨σ',H',I,q⟩:=h;exact⟨σ',H',I.unwish,q⟩
 | brk=>obtain⟨σ',H',I,q⟩:=h;exact⟨σ',H',I.unwish,q⟩
 | cont=>obtain⟨σ',H',I,q⟩:=h;exact⟨σ',H',I.unwish,q⟩
 | ret u=>obtain⟨v,σ',H',I,r,q⟩:=h;exact⟨v,σ',H',I.unwish,r,q⟩
theorem PSs.nox {st:List Stmt}{t:TS}(h:PSs X.nox st t):PSs X st t:=λpins s σ H D I hw=>
 wu (h pins s σ H D (I.wish _) hw) (λ_ _ q=>q.unwish) λ_ _ z=>False.elim z
end
section
variable {X:Cx}{st:Stmt}{rest:List Stmt}{t u:TS}{e:Expr}{te:TE}{pos:Pos}
def oq:TS:=λD σ H=>D.nx σ H
def ph (t u:TS):TS:=λD σ H=>t {D with nx:=u D} σ H
theorem Ba:PSs X [] oq:=λ_ _ σ H _ I h=>z9 ⟨σ,H,I,h⟩
theorem Af (h1:PS X st t)(h2:PSs X rest u):PSs X (st::rest) (ph t u):=by
 intro pins s σ H D I h
 refine wpAny_execs_cons (thn (h1 pins s σ H {D with nx:=u D} I h) λf s1 q=>?_)
 cases f with
 |
  next=>
  obtain⟨σ',H',I',q⟩:=q
  exact h2 pins s1 σ' H' D I' q
 | ret v=>exact q
 | brk=>exact q
 | cont=>exact q
theorem Aj (h1:PS X st t):PSs X [st] t:=by
 intro pins s σ H D I h
 refine wpAny_execs_cons (thn (h1 pins s σ H D I h) λf s1 q=>?_)
 cases f with
 | next=>exact z9 q
 | ret v=>exact q
 | brk=>exact q
 | cont=>exact q
theorem Inv.quiet {pins:List (Addr×Obj)}{σ:St}{H:Hp}{s:Shared}(I:Inv X pins σ H s):interactive X.env=false:=by simp[interactive,I.ok.kind]
def mz (te:TE):TS:=λD σ H=>te σ H λ_ H1=>D.nx σ H1
theorem Dx (he:PE X e te)(hs:swapsWith e none pos.line X.env=pure false:=by rfl):PS X (.Expr e pos) (mz te):=by
 intro pins s σ H D I h
 exact wpAny_Expr_any (thn (he pins s σ H _ I h) λv s1 ⟨x,H1,I1,r1,q1⟩=>⟨σ,H1,I1,q1⟩) I.quiet hs
def qt (te:TE):TS:=λD σ H=>te σ H (D.rt σ)
theorem A5 (he:PE X e te):PS X (.Return (some e) pos) (qt te):=by
 intro pins s σ H D I h
 exact wpAny_Return_some (thn (he pins s σ H _ I h) λv s1 ⟨x,H1,I1,r1,q1⟩=>⟨x,σ,H1,I1,r1,q1⟩)
def qk (c:TT)(t u:TS):TS:=λD σ H=>c σ H λb H1=>if b=true then t D σ H1 else u D σ H1
theorem C3 {c:Expr}{a b:List Stmt}{tc:TT}(hc:PT X c tc)(ha:PSs X a t)(hb:PSs X b u):PS X (.If c a b pos) (qk tc t u):=by
 intro pins s σ H D I h
 refine wpAny_If (thn (hc pins s σ H _ I h) λd s1 hz=>?_)
 obtain⟨H1,I1,q1⟩:=hz
 cases d with
 | true=>exact ha pins s1 σ H1 D I1 q1
 | false=>exact hb pins s1 σ H1 D I1 q1
end
abbrev TG:=V->St->Hp->(St->Hp->Prop)->Prop
abbrev TGs:=List V->St->Hp->(St->Hp->Prop)->Prop
def PG (X:Cx)(target:Expr)(t:TG):Prop:=
 ∀(pins:List (Addr×Obj))(s:Shared)(σ:St)(H:Hp)(v:V)(u:Value)(Q:St->Hp->Prop),Inv X pins σ H s->RelV v u->t v σ H Q->
  wpAny (model X.prog X.w) X.A (assign target X.env u) (λ_ s'=>∃σ' H',Inv X pins σ' H' s'/\Q σ' H') X.xe s
def PGs (X:Cx)(ts:List Expr)(t:TGs):Prop:=
 ∀(pins:List (Addr×Obj))(s:Shared)(σ:St)(H:Hp)(vs:List V)(us:List Value)(Q:St->Hp->Prop),Inv X pins σ H s->Vals vs us->t vs σ H Q->
  wpAny (model X.prog X.w) X.A (assignInOrder ((assignEach ts X.env).map (·.2)) us) (λ_ s'=>∃σ' H',Inv X pins σ' H' s'/\Q σ' H') X.xe s
abbrev nz:=V->V->V->Hp->(Hp->Prop)->Prop
def pe (X:Cx)(t:nz):Prop:=
 ∀(pins:List (Addr×Obj))(s:Shared)(σ:St)(H:Hp)(o i v:V)(ov iv u:Value)(Q:Hp->Prop),Inv X pins σ H s->RelV o ov->RelV i iv->RelV v u->t o i v H Q->
  wpAny (model X.prog X.w) X.A (setItem ov iv u) (λ_ s'=>∃H',Inv X pins σ H' s'/\Q H') X.xe s
abbrev TIp:=V->V->Hp->VK->Prop
def PIp (X:Cx)(op:Operator)(t:TIp):Prop:=
 ∀(pins:List (Addr×Obj))(s:Shared)(σ:St)(H:Hp)(x y:V)(v u:Value)(Q:VK),Inv X pins σ H s->RelV x v->RelV y u->t x y H Q->
  wpAny (model X.prog X.w) X.A (inplaceOp op v u) (EP X pins σ Q) X.xe s
section
variable {X:Cx}{pos:Pos}
def Wa (i:Nat):TG:=λv σ H Q=>Q (σ.set i (some v)) H
theorem Ca {i:Nat}{x:Str}(hN:X.N.Nodup)(hi:X.N[i]?=some x)(hx:Loc X.env.scope x)(hf:X.fn x=true∨X.env.scope.names.lookup x=some .local:=by first|exact .inl rfl|exact .inr rfl|assumption):PG X (.Name x pos) (Wa i):=by
 intro pins s σ H v u Q I r h
 exact wpAny_assign_Name (Mi I hN hi hx r (λs' I'=>⟨_,H,I',h⟩) hf)
def rp:TGs:=λvs σ H Q=>vs=[]/\Q σ H
def og (t:TG)(u:TGs):TGs:=λvs σ H Q=>∃v r,vs=v::r/\t v σ H λσ' H'=>u r σ' H' Q
theorem Tt:PGs X [] rp:=by
 intro pins s σ H vs us Q I r h
 obtain⟨e,h⟩:=h
 subst e
 cases r
 exact assignInOrder_nil ⟨σ,H,I,h⟩
theorem Jn {e:Expr}{es:List Expr}{t:TG}{u:TGs}(h1:PG X e t)(h2:PGs X es u)
  (hs:(assignEach (e::es) X.env).map (·.2)=assign e X.env::(assignEach es X.env).map (·.2):=by rfl):PGs X (e::es) (og t u):=by
 intro pins s σ H vs us Q I r h
 obtain⟨v,vr,e1,h⟩:=h
 subst e1
 cases r with
 |
  cons r rr=>
  rw[hs]
  refine assignInOrder_cons (thn (h1 pins s σ H _ _ _ I r h) λ_ s1 hz=>?_)
  obtain⟨σ1,H1,I1,q1⟩:=hz
  exact h2 pins s1 σ1 H1 _ _ Q I1 rr q1
def qr (K:W.Frag)(n:Nat)(t:TGs):TG:=λv σ H Q=>∃a xs,v=.ref a/\SqT K H a xs/\xs.length=n/\t xs σ H Q
theorem Zx {es:List Expr}{k:Nat}{t:TGs}{n:Nat}(hc:X.calm=true)(h:PGs X es t)
  (hn:(assignEach es X.env).length=n:=by rfl) (hst:(assignEach es X.env).findIdx? (·.1)=none:=by rfl):PG X (.Tuple es k pos) (qr X.K n t):=by
 intro pins s σ H v u Q I r hw
 obtain⟨a,xs,e1,hq,hl,hw⟩:=hw
 subst e1
 cases r
 obtain⟨its,rv,ht,hz⟩:=I.tuple hq
 refine assign_Tuple_tuple (I.ok.hd hc) ht (by simp[hn,←hl,rv.length]) hst λh' hx=>?_
 have I1:Inv X pins σ H {s with heap:=h'}:=I.kept (t':=s.toks) λb o e=>hx b o (ug (sr e)) e
 exact h pins _ σ H xs _ Q I1 (by simpa using rv) hw
def qj (to ti:TE)(t:nz):TG:=λv σ H Q=>to σ H λo H1=>ti σ H1 λi H2=>t o i v H2 λH3=>Q σ H3
theorem Z2 {o i:Expr}{to ti:TE}{t:nz}(ho:PE X o to)(hi:PE X i ti)(hs:pe X t)
  (ha:∀v,assign (.Subscript o i pos) X.env v=(do
   let ov ←holding [v] (eval o X.env)
   let iv ←holding [v,ov] (eval i X.env)
   standAt pos
   holding [v,ov,iv] (setItem ov iv v)
   release [v,ov,iv] []):=by intro _;rfl):PG X (.Subscript o i pos) (qj to ti t):=by
 intro pins s σ H v u Q I r h
 rw[ha]
 refine se (vn (thn (ho pins s σ H _ I h) λov s1 hz=>?_))
 obtain⟨x,H1,I1,r1,q1⟩:=hz
 refine se (vn (thn (hi pins s1 σ H1 _ I1 q1) λiv s2 hz=>?_))
 obtain⟨y,H2,I2,r2,q2⟩:=hz
 refine se (wpAny_standAt (se (vn (thn (hs pins s2 σ H2 x y v ov iv u _ I2 r1 r2 r q2) λ_ s3 hz=>?_))))
 obtain⟨H3,I3,q3⟩:=hz
 exact wpAny_release ⟨σ,H3,I3,q3⟩
def o7 (te:TE)(g:TG):TS:=λD σ H=>te σ H λx H1=>g x σ H1 D.nx
theorem V2 {tg e:Expr}{te:TE}{g:TG}(he:PE X e te)(hg:PG X tg g)(hs:swapsWithSole [tg] e pos.line X.env=pure false:=by rfl)(hw:swappedStores [tg] e X.env=pure none:=by rfl)
  (h1:(assignEach [tg] X.env).map (·.2)=[assign tg X.env]:=by rfl):PS X (.Assign [tg] e pos) (o7 te g):=by
 intro pins s σ H D I h
 refine wpAny_Assign_stores (thn (he pins s σ H _ I h) λv s1 ⟨x,H1,I1,r1,q1⟩=>?_) hs hw
 rw[h1]
 exact thn (hg pins s1 σ H1 x v _ I1 r1 q1) λ_ s2 q=>q
theorem Au {i:Nat}{x:Str}{e:Expr}{te:TE}{pos':Pos}(hN:X.N.Nodup)(hi:X.N[i]?=some x)(hx:Loc X.env.scope x)(he:PE X e te)(hs:swapsWith e (some (.Name x pos')) pos.line X.env=pure false:=by rfl)(hf:X.fn x=true∨X.env.scope.names.lookup x=some .local:=by first|exact .inl rfl|exact .inr rfl|assumption):
  PS X (.Assign [.Name x pos'] e pos) (o7 te (Wa i)):=by
 intro pins s σ H D I h
 refine wpAny_Assign_Name (thn (he pins s σ H _ I h) λv s1 ⟨y,H1,I1,r1,q1⟩=>?_) hs
 exact Mi I1 hN hi hx r1 (λs2 I2=>⟨_,H1,I2,q1⟩) hf
def qp (i:Nat)(te:TE)(ti:TIp):TS:=λD σ H=>∃x,σ[i]?=some (some x)/\te σ H λy H1=>ti x y H1 λz H2=>D.nx (σ.set i (some z)) H2
theorem ee {i:Nat}{x:Str}{e:Expr}{te:TE}{op:Operator}{ti:TIp}{pos':Pos}(hN:X.N.Nodup)(hi:X.N[i]?=some x)(hx:Loc X.env.scope x)(he:PE X e te)(ho:PIp X op ti)(hf:X.fn x=true∨X.env.scope.names.lookup x=some .local:=by first|exact .inl rfl|exact .inr rfl|assumption):
  PS X (.AugAssign (.Name x pos') op e pos) (qp i te ti):=by
 intro pins s σ H D I h
 obtain⟨v,e1,h⟩:=h
 obtain⟨m,hn,hl⟩:=I.loc
 have vis:Vis X.env.scope x:=by rcases hx with k|k;exact .inl k;exact .inr (.inl k)
 obtain⟨u,r,l⟩:=hl i x v hi e1 vis
 refine wpAny_AugAssign_Name ?_
 have go:wpAny (model X.prog X.w) X.A (eval e X.env) (λw s₂=>wpAny (model X.prog X.w) X.A (inplaceOp op u w) (λr s₃=>wpAny (model X.prog X.w) X.A (storeName X.env x r) (λ_=>SP X pins D .next) X.xe s₃) X.xe s₂) X.xe s:=by
  refine thn (he pins s σ H _ I h) λw s1 hz=>?_
  obtain⟨y,H1,I1,r1,q1⟩:=hz
  refine thn (ho pins s1 σ H1 v y u w _ I1 r r1 q1) λz s2 hz=>?_
  obtain⟨zv,H2,I2,r2,q2⟩:=hz
  exact Mi I2 hN hi hx r2 (λs3 I3=>⟨_,H2,I3,q2⟩) hf
 rcases l with⟨hk,hm⟩|⟨hk,c,hc,hcell⟩
 · exact wpAny_loadName_local I.ok.kind hk hn hm go
 ·
  rcases hk with hk|hk
  · exact wpAny_loadName_cell I.ok.kind hk hc hcell go
  ·
   rcases hx with k|k
   ·
    have:X.env.scope.names.lookup x=some .free:=hk
    rw[k] at this;cases this
   ·
    have:X.env.scope.names.lookup x=some .free:=hk
    rw[k] at this;cases this
def ipI (f:Int->Int->Int):TIp:=λx y H Q=>∃i j,x=.int i/\y=.int j/\Q (.int (f i j)) H
theorem dz:PIp X .Add (ipI λi j=>i+j):=by
 intro pins s σ H x y v u Q I r1 r2 h
 obtain⟨i,j,e1,e2,q⟩:=h
 subst e1;subst e2
 obtain⟨t,rfl⟩:=r1
 obtain⟨t',rfl⟩:=r2
 exact iadd_int ⟨.int _,H,I.tok _,⟨_,rfl⟩,q⟩
end
section
variable {X:Cx}{pos:Pos}
def j6 (c:TT)(tb:TS):TS:=λD σ H=>∃W:Nat->St->Hp->Prop,(∃m,W m σ H)/\∀m σ H,W m σ H->
 c σ H λb H1=>if b=true then ∃N:St->Hp->Prop,(∀σ' H',N σ' H'->∃m',m'<m/\W m' σ' H')/\tb {D with nx:=N,ct:=N,bk:=D.nx} σ H1 else D.nx σ H1
theorem b8 {c:Expr}{body:List Stmt}{tc:TT}{tb:TS}(hp:PassesOwn (model X.prog X.w) X.A X.env X.xe)(hc:PT X c tc)(hb:PSs X body tb):PS X (.While c body [] pos) (j6 tc tb):=by
 intro pins s σ H D I h
 obtain⟨W,⟨m0,w0⟩,turn⟩:=h
 refine wpAny_While (codeAny_whileLoop (λn s'=>∃σ' H',Inv X pins σ' H' s'/\W n σ' H') ?_ m0 ⟨σ,H,I,w0⟩)
 rintro n s1 ⟨σ1,H1,I1,w1⟩
 refine yi hp (thn (hc pins s1 σ1 H1 _ I1 (turn n σ1 H1 w1)) λb s2 hz=>?_)
 obtain⟨H2,I2,q2⟩:=hz
 cases b with
 |
  true=>
  obtain⟨N,hN,q2⟩:=q2
  rw[if_pos rfl]
  refine yi hp (thn (hb pins s2 σ1 H2 _ I2 q2) λf s3 q3=>?_)
  cases f with
  |
   next=>
   obtain⟨σ3,H3,I3,n3⟩:=q3
   obtain⟨m',hm,w3⟩:=hN σ3 H3 n3
   exact⟨m',hm,σ3,H3,I3,w3⟩
  |
   cont=>
   obtain⟨σ3,H3,I3,n3⟩:=q3
   obtain⟨m',hm,w3⟩:=hN σ3 H3 n3
   exact⟨m',hm,σ3,H3,I3,w3⟩
  | brk=>exact q3
  | ret v=>exact q3
 |
  false=>
  rw[if_neg uk]
  exact z9 ⟨σ1,H2,I2,q2⟩
end
structure It where
 go:Nat->Hp->Prop
 yld:Nat->Hp->V->Hp->Prop
 stop:Nat->Hp->Prop
def Xp (X:Cx)(pins:List (Addr×Obj))(H:Hp)(b:Addr):Prop:=
 H b=none/\b≠X.env.locals/\b∉X.fs/\(b∈X.ex∨X.s₀.heap.objs.size<=b)/\(∀x c,X.env.cells.lookup x=some c->c≠b)/\∀p∈X.pn++pins,p.1≠b
theorem Inv.fpOk {X:Cx}{pins:List (Addr×Obj)}{σ:St}{H H':Hp}{s:Shared}{b:Addr}(I:Inv X pins σ H s)(hb:s.heap.objs.size<=b)(hn:H' b=none):Xp X pins H' b:=by
 refine⟨hn,xw (uw I.lt hb),I.nofs hb,.inr (uy I.sz hb),λx c e z=>?_,λp hp z=>?_⟩
 ·
  obtain⟨v,q⟩:=I.cell x c e
  exact absurd (uw q.lt (by rw[z];exact hb)) (vv _)
 · exact absurd (uw (sr (I.pin p hp).1) (by rw[z];exact hb)) (vv _)
structure Turn (P:Program)(w:World)(K:W.Frag)(tg:Expr)(J:It)(fp:List Addr)(it:Addr)(tn:Nat->Heap->Prop):Prop where
 mem:it∈fp
 obj:∀i h,tn i h->∀b∈fp,∃o,h.get? b=some o/\∀v,o.data≠ .cell v
 keep:∀i h h',tn i h->(∀b∈fp,∀o,h.get? b=some o->h'.get? b=some o)->tn i h'
 item:∀(X:Cx),X.prog=P->X.w=w->X.K=K->X.calm=true->∀(i:Nat)(pins:List (Addr×Obj))(s:Shared)(σ:St)(H:Hp)(E:Value->Shared->Prop),Inv X pins σ H s->(∀b∈fp,Xp X pins H b)->tn i s.heap->J.go i H->
  wpAny (model P w) X.A (pyNext (.ref it)) (λr s1=>∃u,r=some u/\
   wpAny (model P w) X.A (letOwnedTupleGo tg (.ref it) u) (λ_ s2=>∃x H',Inv X pins σ H' s2/\RelV x u/\J.yld i H x H'/\tn (i+1) s2.heap/\∀b∈fp,H' b=none) E s1) E s
 done:∀(X:Cx),X.prog=P->X.w=w->X.K=K->X.calm=true->∀(i:Nat)(pins:List (Addr×Obj))(s:Shared)(σ:St)(H:Hp)(E:Value->Shared->Prop),Inv X pins σ H s->(∀b∈fp,Xp X pins H b)->tn i s.heap->J.stop i H->
  wpAny (model P w) X.A (pyNext (.ref it)) (λr s1=>r=none/\Inv X pins σ H s1) E s
 self:∀(A:Around)(i:Nat)(s:Shared)(Q:Value->Shared->Prop)(E:Value->Shared->Prop),tn i s.heap->Q (.ref it) s->wpAny (model P w) A (pyIter (.ref it)) Q E s
abbrev TI:=St->Hp->(It->Hp->Prop)->Prop
def PIE (X:Cx)(pins:List (Addr×Obj))(σ:St)(tg:Expr)(R:It->Hp->Prop)(itv:Value)(s2:Shared):Prop:=
 ∃(it:Addr)(fp:List Addr)(tn:Nat->Heap->Prop)(J:It)(H':Hp),itv=.ref it/\Inv X pins σ H' s2/\Turn X.prog X.w X.K tg J fp it tn/\tn 0 s2.heap/\(∀b∈fp,Xp X pins H' b)/\R J H'
def PI (X:Cx)(tg iter:Expr)(wi:TI):Prop:=
 ∀(pins:List (Addr×Obj))(s:Shared)(σ:St)(H:Hp)(R:It->Hp->Prop),Inv X pins σ H s->wi σ H R->
  wpAny (model X.prog X.w) X.A (eval iter X.env) (λv s1=>wpAny (model X.prog X.w) X.A (pyIter v) (PIE X pins σ tg R) X.xe s1) X.xe s
theorem cj {M:Model}{A:Around}{E:Value->Shared->Prop}{s:Shared}{tg:Expr}{it:Addr}{u:Value}{o:Obj}{n:String}{vs:Array Value}{Q:Unit->Shared->Prop}(ho:s.heap.get? it=some o)(hc:o.cls=.type n)(hd:o.data=.fields vs)
  (hn:["enumerate","zip","dict_itemiterator","dict_reverseitemiterator","odict_iterator","itertools.zip_longest","itertools.pairwise"].contains n=false) (hQ:Q () s):wpAny M A (letOwnedTupleGo tg (.ref it) u) Q E s:=by
 unfold letOwnedTupleGo
 cases tg<;>first
  | exact si hQ
  | (cases u<;>first
   | exact si hQ
   | (
    refine se (wpAny_load ho ?_)
    rw[hc,hd]
    show wpAny M A (if(["enumerate","zip","dict_itemiterator","dict_reverseitemiterator","odict_iterator","itertools.zip_longest","itertools.pairwise"].contains n&&vs[0]?==some (rawInt _))=true then _ else _) Q E s
    rw[if_neg (by intro h;rw[hn,y8] at h;cases h)]
    exact si hQ))
def Itl (K:W.Frag)(a:Addr):It:=
 ⟨λi H=>∃xs x,SqL K H a xs/\xs[i]?=some x,λi H x H'=>H'=H/\∀xs,SqL K H a xs->xs[i]?=some x,λi H=>∃xs,SqL K H a xs/\xs.length<=i⟩
def Itr (lo:Int)(n:Nat):It:=⟨λi _=>i<n,λi H x H'=>H'=H/\x=.int (lo+i),λi _=>n<=i⟩
theorem Yc {P:Program}{w:World}{K:W.Frag}{tg:Expr}(a it:Addr):Turn P w K tg (Itl K a) [it] it (λi h=>h.IsListIter it a i) where
 mem:=by simp
 obj:=λi h st b hb=>by
  have e:b=it:=by simpa using hb
  subst e
  obtain⟨o,e,c,d⟩:=st
  exact⟨o,e,λv z=>by rw[d] at z;cases z⟩
 keep:=λi h h' st k=>st.at λo e=>k it (by simp) o e
 item:=by
  intro X hP hw hK hc i pins s σ H E I hf st hg
  subst hP hw hK
  obtain⟨xs,x,hq,hx⟩:=hg
  obtain⟨its,rv,p,hz⟩:=I.list hq
  obtain⟨u,hu,ru⟩:=rv.get hx
  obtain⟨f0,f1,f2,f3,f4,f5⟩:=hf it (by simp)
  refine wpAny_pyNext_list_item st p.isList (x:=u) (by simpa using hu) λh' st' sb=>?_
  have I1:Inv X pins σ H {s with heap:=h'}:=I.turned (t':=s.toks) (λb o hb e=>(sb.2 b hb).trans e) f0 f1 f3 f4 f5
  obtain⟨o,e,c,d⟩:=id st'
  exact⟨u,rfl,cj (s:={s with heap:=h'}) e c d (by decide) ⟨x,H,I1,ru,⟨rfl,λys hy=>by rw[I.list_inj hy hq];exact hx⟩,st',λb hb=>(hf b hb).1⟩⟩
 done:=by
  intro X hP hw hK hc i pins s σ H E I hf st hg
  subst hP hw hK
  obtain⟨xs,hq,hx⟩:=hg
  obtain⟨its,rv,p,hz⟩:=I.list hq
  obtain⟨f0,f1,f2,f3,f4,f5⟩:=hf it (by simp)
  have hl:=rv.length
  exact wpAny_pyNext_list_end (I.ok.hd hc) st p.isList (by simp;lia) λh' eb=>⟨rfl,I.turned (t':=s.toks) (λb o hb e=>eb b o hb e) f0 f1 f3 f4 f5⟩
 self:=λ_ _ _ _ _ st h=>wpAny_pyIter_listiter st h
theorem Wo {P:Program}{w:World}{K:W.Frag}{tg:Expr}(it:Addr)(lo:Int)(n:Nat):Turn P w K tg (Itr lo n) [it] it (λi h=>IsRangeIter h it (lo+(i:Nat)*1) ((n:Int)-(i:Nat)) 1) where
 mem:=by simp
 obj:=λi h st b hb=>by
  have e:b=it:=by simpa using hb
  subst e
  exact⟨_,st,λv z=>by
   have z':Data.fields _=Data.cell v:=z
   cases z'⟩
 keep:=λi h h' st k=>k it (by simp) _ st
 item:=by
  intro X hP hw hK hc i pins s σ H E I hf st hg
  subst hP hw hK
  obtain⟨f0,f1,f2,f3,f4,f5⟩:=hf it (by simp)
  have W:=Walks.range (prog:=X.prog) (w:=X.w) (I.ok.hd hc) it lo 1 n
  refine W.item i s _ _ hg st λv h' tk hv st' kk=>?_
  obtain⟨t,rfl⟩:=hv
  have I1:Inv X pins σ H {s with heap:=h',toks:=tk}:=I.turned (λb o hb e=>kk b o (by simpa using hb) e) f0 f1 f3 f4 f5
  refine⟨_,rfl,cj (s:={s with heap:=h',toks:=tk}) (n:="range_iterator") st' rfl rfl (by decide) ⟨.int (lo+i),H,I1,⟨t,?_⟩,⟨rfl,rfl⟩,st',λb hb=>(hf b hb).1⟩⟩
  rw[Int.mul_one]
 done:=by
  intro X hP hw hK hc i pins s σ H E I hf st hg
  subst hP hw hK
  obtain⟨f0,f1,f2,f3,f4,f5⟩:=hf it (by simp)
  exact wpAny_pyNext_range_end (I.ok.hd hc) st (by have:n<=i:=hg;lia) λh' eb=>⟨rfl,I.turned (t':=s.toks) (λb o hb e=>eb b o hb e) f0 f1 f3 f4 f5⟩
 self:=λ_ _ _ _ _ st h=>wpAny_pyIter_rangeiter st h
section
variable {X:Cx}{tg:Expr}
def lb (K:W.Frag)(tl:TE):TI:=λσ H R=>tl σ H λx H1=>∃a,x=.ref a/\(∃xs,SqL K H1 a xs)/\R (Itl K a) H1
theorem i9 {l:Expr}{tl:TE}(hl:PE X l tl):PI X tg l (lb X.K tl):=by
 intro pins s σ H R I h
 refine thn (hl pins s σ H _ I h) λv s1 hz=>?_
 obtain⟨x,H1,I1,r1,q1⟩:=hz
 obtain⟨a,e,⟨xs,hq⟩,q⟩:=q1
 subst e
 cases r1
 obtain⟨its,rv,p,hz⟩:=I1.list hq
 refine wpAny_pyIter_list p.isList ?_
 refine⟨s1.heap.objs.size,[s1.heap.objs.size],_,_,H1,rfl,I1.kept (t':=s1.toks) λb o e=>sj _ e,Yc a _,⟨_,t9 _ rfl,rfl,rfl⟩,λb hb=>?_,q⟩
 have e:b=s1.heap.objs.size:=by simpa using hb
 subst e
 exact I1.fpOk (tq _) (I1.hok.fresh (tq _))
theorem c8 {pins:List (Addr×Obj)}{σ:St}{H:Hp}{s:Shared}{R:It->Hp->Prop}{E:Value->Shared->Prop}{lo hi:Int}{t u v:Tok}{tk:Nat}(I:Inv X pins σ H s)(h1: -(2 ^ 62)<=lo)(h2:lo<2 ^ 62)(h3: -(2 ^ 62)<=hi)(h4:hi<2 ^ 62)
  (q:R (Itr lo (hi-lo).toNat) H):wpAny (model X.prog X.w) X.A (pyIter (.ref s.heap.objs.size)) (PIE X pins σ tg R) E {s with heap:=s.heap.push {cls:=.type "range",data:=.fields #[.int lo t,.int hi u,.int 1 v]},toks:=tk}:=by
 refine wpAny_pyIter_range (IsRange.new ..) (small_one h1 h2 h3 h4) ?_
 have I1:Inv X pins σ H {s with heap:=s.heap.push {cls:=.type "range",data:=.fields #[.int lo t,.int hi u,.int 1 v]},toks:=tk}:=I.kept λb o e=>sj _ e
 refine⟨(s.heap.push {cls:=.type "range",data:=.fields #[.int lo t,.int hi u,.int 1 v]}).objs.size,[(s.heap.push {cls:=.type "range",data:=.fields #[.int lo t,.int hi u,.int 1 v]}).objs.size],_,_,H,rfl,
  I1.kept (t':=tk) λb o e=>sj _ e,Wo _ lo (hi-lo).toNat,?_,λb hb=>?_,q⟩
 ·
  have e1:lo+((0:Nat):Int)*1=lo:=by simp
  have e2:(((hi-lo).toNat:Nat):Int)-((0:Nat):Int)=Builtin.Range.rangeSize lo hi 1:=by rw[rangeSize_one];split<;>lia
  show IsRangeIter _ _ (lo+((0:Nat):Int)*1) ((((hi-lo).toNat:Nat):Int)-((0:Nat):Int)) 1
  rw[e1,e2]
  exact t9 _ rfl
 ·
  have e:b=(s.heap.push {cls:=.type "range",data:=.fields #[.int lo t,.int hi u,.int 1 v]}).objs.size:=by simpa using hb
  subst e
  exact I1.fpOk (tq _) (I1.hok.fresh (tq _))
def o4 (ta:TA):TI:=λσ H R=>ta σ H λvs H1=>∃j:Int,vs=[.int j]/\ -(2 ^ 62)<=j/\j<2 ^ 62/\R (Itr 0 j.toNat) H1
theorem Mx {a:Expr}{ta:TA}{p pos:Pos}(hg:Gl X "range")(hm:X.mg "range"=none)(ha:PA X [a] ta)(hs:starEach [a] X.env=[(false,eval a X.env)]:=by rfl):PI X tg (.Call (.Name "range" p) [a] [] pos) (o4 ta):=by
 intro pins s σ H R I h
 refine Call_ (U5 I hg hm boot_range (PyProof.Rows.callWith_type1 (thn (ha pos pins s σ H _ I h) λus s1 ⟨vs,H1,I1,r1,q1⟩=>?_) hs rfl))
 obtain⟨j,e,q1,q2,q⟩:=q1
 subst e
 cases r1 with
 |
  cons r rr=>
  cases rr
  obtain⟨t,rfl⟩:=r
  exact call_range_1 (c8 I1 (by lia) (by lia) q1 q2 (by simpa using q))
def qo (wi:TI)(g:TG)(tb:TS):TS:=λD σ H=>wi σ H λJ H1=>∃W:Nat->Nat->St->Hp->Prop,(∃m,W 0 m σ H1)/\∀i m σ H,W i m σ H->
 (J.stop i H/\D.nx σ H)∨(J.go i H/\∃N:St->Hp->Prop,(∀σ' H',N σ' H'->∃m',m'<m/\W (i+1) m' σ' H')/\∀x H',J.yld i H x H'->g x σ H' λσ2 H2=>tb {D with nx:=N,ct:=N,bk:=D.nx} σ2 H2)
def O3 (fp:List Addr)(h:Heap):List (Addr×Obj):=fp.filterMap λb=>(h.get? b).map λo=>(b,o)
theorem F8 {fp:List Addr}{h:Heap}{b:Addr}{o:Obj}(hb:b∈fp)(e:h.get? b=some o):(b,o)∈O3 fp h:=wy.mpr ⟨b,hb,by rw[e];rfl⟩
theorem Za {fp:List Addr}{h:Heap}{p:Addr×Obj}(hp:p∈O3 fp h):p.1∈fp/\h.get? p.1=some p.2:=by
 obtain⟨b,hb,e⟩:=wy.mp hp
 cases q:h.get? b with
 | none=>rw[q] at e;cases e
 |
  some o=>
  rw[q] at e
  have e':(b,o)=p:=sy e
  subst e'
  exact⟨hb,q⟩
theorem Inv.pinned {pins:List (Addr×Obj)}{σ:St}{H:Hp}{s:Shared}{fp:List Addr}(I:Inv X pins σ H s)(hf:∀b∈fp,Xp X pins H b)(ho:∀b∈fp,∃o,s.heap.get? b=some o/\∀v,o.data≠ .cell v):Inv X (pins++O3 fp s.heap) σ H s:=
 I.pins_of λp hp=>(uh.mp hp).elim (λz=>I.pin p (t4 _ z)) λz=>by
  obtain⟨hb,e⟩:=Za z
  obtain⟨f0,f1,f2,_⟩:=hf p.1 hb
  obtain⟨o,e',d⟩:=ho p.1 hb
  rw[e] at e';cases e'
  exact⟨e,f0,f1,f2,d⟩
theorem Inv.unpinned {pins pl:List (Addr×Obj)}{σ:St}{H:Hp}{s:Shared}(I:Inv X (pins++pl) σ H s):Inv X pins σ H s:=I.pins_of λp hp=>I.pin p (t4 _ (vc _ hp))
theorem Js {iter:Expr}{body:List Stmt}{wi:TI}{g:TG}{tb:TS}{pos:Pos}(hp:PassesOwn (model X.prog X.w) X.A X.env X.xe)(hc:X.calm=true)(hi:PI X tg iter wi)(hg:PG X tg g)(hb:PSs X body tb)
  (hs:∀x,foldedSetIterable iter X.env x=pure x:=by intro _;rfl):PS X (.For tg iter body [] pos) (qo wi g tb):=by
 intro pins s σ H D I h
 refine wpAny_For (thn (hi pins s σ H _ I h) λv s1 h1=>thn h1 λitv s2 h2=>?_) hs
 obtain⟨it,fp,tn,J,H2,e,I2,T,st2,f2,W,⟨m0,w0⟩,turn⟩:=h2
 subst e
 --what stays true of the iterator's objects through the loop
 have stat:∀{H':Hp},(∀b∈fp,H' b=none)->∀b∈fp,Xp X pins H' b:=λhn b hb=>⟨hn b hb,(f2 b hb).2⟩
 refine codeAny_forLoop_any (λn s'=>∃i σ' H',Inv X pins σ' H' s'/\tn i s'.heap/\(∀b∈fp,H' b=none)/\W i n σ' H') ?_ m0 ⟨0,σ,H2,I2,st2,λb hb=>(f2 b hb).1,w0⟩
 rintro n s3 ⟨i,σ3,H3,I3,st3,fr3,w3⟩
 rcases turn i n σ3 H3 w3 with⟨stop,qn⟩|⟨go,N,hN,step⟩
 ·
  refine yi hp (thn (T.done X rfl rfl rfl hc i pins s3 σ3 H3 X.xe I3 (stat fr3) st3 stop) λr s4 hz=>?_)
  obtain⟨hr,I4⟩:=hz
  subst hr
  exact z9 ⟨σ3,H3,I4,qn⟩
 ·
  refine yi hp (thn (T.item X rfl rfl rfl hc i pins s3 σ3 H3 X.xe I3 (stat fr3) st3 go) λr s4 hz=>?_)
  obtain⟨u,hr,h4⟩:=hz
  subst hr
  refine yi hp (thn h4 λ_ s5 hz=>?_)
  obtain⟨x,H5,I5,r5,y5,st5,fr5⟩:=hz
  have I5':=I5.pinned (stat fr5) (T.obj _ _ st5)
  refine yi hp (thn (hg _ s5 σ3 H5 x u _ I5' r5 (step x H5 y5)) λ_ s6 hz=>?_)
  obtain⟨σ6,H6,I6,q6⟩:=hz
  refine yi hp (thn (hb _ s6 σ6 H6 _ I6 q6) λf s7 q7=>?_)
  have again:∀{σ7:St}{H7:Hp},Inv X (pins++O3 fp s5.heap) σ7 H7 s7->N σ7 H7->∃m,m<n/\∃i σ' H',Inv X pins σ' H' s7/\tn i s7.heap/\(∀b∈fp,H' b=none)/\W i m σ' H':=λ{σ7 H7}I7 n7=>by
   obtain⟨m',hm,w7⟩:=hN σ7 H7 n7
   refine⟨m',hm,i+1,σ7,H7,I7.unpinned,T.keep _ _ _ st5 λb hb o e=>(I7.pin (b,o) (t4 _ (t4 _ (F8 hb e)))).1,λb hb=>?_,w7⟩
   obtain⟨o,e,d⟩:=T.obj _ _ st5 b hb
   exact(I7.pin (b,o) (t4 _ (t4 _ (F8 hb e)))).2.1
  cases f with
  | next=>obtain⟨σ7,H7,I7,n7⟩:=q7;exact again I7 n7
  | cont=>obtain⟨σ7,H7,I7,n7⟩:=q7;exact again I7 n7
  | brk=>obtain⟨σ7,H7,I7,q7⟩:=q7;exact⟨σ7,H7,I7.unpinned,q7⟩
  | ret v=>obtain⟨x7,σ7,H7,I7,r7,q7⟩:=q7;exact⟨x7,σ7,H7,I7.unpinned,r7,q7⟩
end
theorem Nl {lo:Int}{n:Nat}{g:TG}{tb:TS}{D:Ends}{σ:St}{H:Hp}(Pv:Nat->St->Hp->Prop)(h0:Pv 0 σ H)
  (hs:∀i σ H,i<n->Pv i σ H->g (.int (lo+i)) σ H λσ2 H2=>tb {D with nx:=Pv (i+1),ct:=Pv (i+1),bk:=D.nx} σ2 H2) (hd:∀σ H,Pv n σ H->D.nx σ H):
  ∃W:Nat->Nat->St->Hp->Prop,(∃m,W 0 m σ H)/\∀i m σ H,W i m σ H->
   ((Itr lo n).stop i H/\D.nx σ H)∨((Itr lo n).go i H/\∃N:St->Hp->Prop,(∀σ' H',N σ' H'->∃m',m'<m/\W (i+1) m' σ' H')/\∀x H',(Itr lo n).yld i H x H'->g x σ H' λσ2 H2=>tb {D with nx:=N,ct:=N,bk:=D.nx} σ2 H2):=by
 refine⟨λi m σ H=>m=n-i/\i<=n/\Pv i σ H,⟨n,by simp,u5 _,h0⟩,?_⟩
 rintro i m σ H ⟨rfl,hi,p⟩
 by_cases hlt:i<n
 ·
  refine .inr ⟨hlt,Pv (i+1),λσ' H' p'=>⟨n-(i+1),by lia,rfl,hlt,p'⟩,λx H' y=>?_⟩
  obtain⟨e,y⟩:=y
  subst e y
  exact hs i σ _ hlt p
 ·
  have e:i=n:=by lia
  subst e
  exact .inl ⟨tq _,hd σ H p⟩
abbrev R2:=V->V->Hp->VK->Prop
def OpR (X:Cx)(f:Value->Value->Sem Value)(r:R2):Prop:=
 ∀(pins:List (Addr×Obj))(s:Shared)(σ:St)(H:Hp)(x y:V)(v u:Value)(Q:VK),Inv X pins σ H s->RelV x v->RelV y u->r x y H Q->
  wpAny (model X.prog X.w) X.A (f v u) (EP X pins σ Q) X.xe s
def UnR (X:Cx)(f:Value->Sem Value)(r:V->Hp->VK->Prop):Prop:=
 ∀(pins:List (Addr×Obj))(s:Shared)(σ:St)(H:Hp)(x:V)(v:Value)(Q:VK),Inv X pins σ H s->RelV x v->r x H Q->
  wpAny (model X.prog X.w) X.A (f v) (EP X pins σ Q) X.xe s
def Gd (X:Cx)(f:Value)(r:List V->Hp->VK->Prop):Prop:=
 ∀(pins:List (Addr×Obj))(s:Shared)(σ:St)(H:Hp)(xs:List V)(us:List Value)(Q:VK),Inv X pins σ H s->Vals xs us->r xs H Q->
  wpAny (model X.prog X.w) X.A (call f us) (EP X pins σ Q) X.xe s
def qx (X:Cx)(r:V->Hp->(Bool->Hp->Prop)->Prop):Prop:=
 ∀(pins:List (Addr×Obj))(s:Shared)(σ:St)(H:Hp)(x:V)(v:Value)(Q:Bool->Hp->Prop),Inv X pins σ H s->RelV x v->r x H Q->
  wpAny (model X.prog X.w) X.A (truthy v) (TP X pins σ Q) X.xe s
def tOp (r:R2)(ta tb:TE):TE:=λσ H Q=>ta σ H λx H1=>tb σ H1 λy H2=>r x y H2 Q
def tUn (r:V->Hp->VK->Prop)(ta:TE):TE:=λσ H Q=>ta σ H λx H1=>r x H1 Q
def rI (C:Int->Int->Prop)(g:Int->Int->V):R2:=λx y H Q=>∃i j,x=.int i/\y=.int j/\C i j/\Q (g i j) H
def rI0 (g:Int->Int->V):R2:=λx y H Q=>∃i j,x=.int i/\y=.int j/\Q (g i j) H
def rU (g:Int->V):V->Hp->VK->Prop:=λx H Q=>∃i,x=.int i/\Q (g i) H
section
variable {X:Cx}{a b c:Expr}{ta tb tc:TE}{pos:Pos}
theorem oy (ha:PE X a ta)(hb:PE X b tb){pins:List (Addr×Obj)}{s:Shared}{σ:St}{H:Hp}{R:V->V->Hp->Prop}(I:Inv X pins σ H s)
  (h:ta σ H λx H1=>tb σ H1 λy H2=>R x y H2) {Q:Value->Shared->Prop} {f:Value->Value->Sem Value}
  (hf:∀v u s2 x y H2,Inv X pins σ H2 s2->RelV x v->RelV y u->R x y H2->wpAny (model X.prog X.w) X.A (f v u) Q X.xe s2):
  wpAny (model X.prog X.w) X.A (eval a X.env) (λv s₁=>wpAny (model X.prog X.w) X.A (eval b X.env) (λu s₂=>wpAny (model X.prog X.w) X.A (f v u) Q X.xe s₂) X.xe s₁) X.xe s:=by
 refine thn (ha pins s σ H _ I h) λv s1 hz=>?_
 obtain⟨x,H1,I1,r1,q1⟩:=hz
 refine thn (hb pins s1 σ H1 _ I1 q1) λu s2 hz=>?_
 obtain⟨y,H2,I2,r2,q2⟩:=hz
 exact hf v u s2 x y H2 I2 r1 r2 q2
theorem Av {op:Operator}{r:R2}(ho:OpR X (binaryOp op) r)(ha:PE X a ta)(hb:PE X b tb):PE X (.BinOp a op b pos) (tOp r ta tb):=by
 intro pins s σ H Q I h
 exact wpAny_BinOp (oy ha hb I h λv u s2 x y H2 I2 rx ry q=>ho pins s2 σ H2 x y v u Q I2 rx ry q)
theorem Wu {op:UnaryOp}{r:V->Hp->VK->Prop}(ho:UnR X (unaryOp op) r)(ha:PE X a ta):PE X (.UnaryOp op a pos) (tUn r ta):=by
 intro pins s σ H Q I h
 exact UnaryOp_ (thn (ha pins s σ H _ I h) λv s1 ⟨x,H1,I1,r1,q1⟩=>ho pins s1 σ H1 x v Q I1 r1 q1)
theorem opI {f:Value->Value->Sem Value}{C:Int->Int->Prop}{g:Int->Int->Int}
  (rule:∀(i j:Int)(t u:Tok)(s:Shared)(Q:Value->Shared->Prop)(E:Value->Shared->Prop),C i j->Q (.int (g i j) s.toks) {s with toks:=s.toks+1}->wpAny (model X.prog X.w) X.A (f (.int i t) (.int j u)) Q E s):
  OpR X f (rI C λi j=>.int (g i j)):=by
 intro pins s σ H x y v u Q I rx ry h
 obtain⟨i,j,rfl,rfl,hc,q⟩:=h
 obtain⟨t,rfl⟩:=rx
 obtain⟨t',rfl⟩:=ry
 exact rule i j t t' s _ _ hc ⟨.int (g i j),H,I.tok _,⟨_,rfl⟩,q⟩
theorem p9 {f:Value->Value->Sem Value}{g:Int->Int->Int}
  (rule:∀(i j:Int)(t u:Tok)(s:Shared)(Q:Value->Shared->Prop)(E:Value->Shared->Prop),Q (.int (g i j) s.toks) {s with toks:=s.toks+1}->wpAny (model X.prog X.w) X.A (f (.int i t) (.int j u)) Q E s):
  OpR X f (rI0 λi j=>.int (g i j)):=by
 intro pins s σ H x y v u Q I rx ry h
 obtain⟨i,j,rfl,rfl,q⟩:=h
 obtain⟨t,rfl⟩:=rx
 obtain⟨t',rfl⟩:=ry
 exact rule i j t t' s _ _ ⟨.int (g i j),H,I.tok _,⟨_,rfl⟩,q⟩
theorem mi {f:Value->Value->Sem Value}{g:Int->Int->Bool}
  (rule:∀(i j:Int)(t u:Tok)(s:Shared)(Q:Value->Shared->Prop)(E:Value->Shared->Prop),Q (.bool (g i j)) s->wpAny (model X.prog X.w) X.A (f (.int i t) (.int j u)) Q E s):
  OpR X f (rI0 λi j=>.bl (g i j)):=by
 intro pins s σ H x y v u Q I rx ry h
 obtain⟨i,j,rfl,rfl,q⟩:=h
 obtain⟨t,rfl⟩:=rx
 obtain⟨t',rfl⟩:=ry
 exact rule i j t t' s _ _ ⟨.bl (g i j),H,I,rfl,q⟩
def rm (i j:Int):Prop:=0<j/\j<1073741824
def rq (i j:Int):Prop:=0<=j/\j<=1000000/\i.natAbs<2 ^ 64
def CMul (i j:Int):Prop:=(-(2 ^ 64)<i/\i<2 ^ 64)∨(-(2 ^ 64)<j/\j<2 ^ 64)
theorem CMul.ok {i j:Int}(h:CMul i j):IntMulOk i j:=by
 rcases h with⟨h1,h2⟩|⟨h1,h2⟩
 · exact .of_left (intBits_le_64 h1 h2)
 · exact .of_right (intBits_le_64 h1 h2)
theorem B0:OpR X (binaryOp .Add) (rI0 λi j=>.int (i+j)):=p9 λ_ _ _ _ _ _ _ q=>add_int q
theorem Lw:OpR X (binaryOp .Sub) (rI0 λi j=>.int (i-j)):=p9 λ_ _ _ _ _ _ _ q=>sub_int q
theorem Sh:OpR X (binaryOp .Mult) (rI CMul λi j=>.int (i*j)):=opI λ_ _ _ _ _ _ _ hc q=>mul_int q hc.ok
theorem T9:OpR X (binaryOp .FloorDiv) (rI rm λi j=>.int (i/j)):=opI λi j _ _ _ _ _ hc q=>by
 have h1:(0:Int)<j:=hc.1
 have h2:j<1073741824:=hc.2
 exact floordiv_int (by lia) (by rw[Int.fdiv_eq_ediv_of_nonneg i (by lia)];exact q) (.inl (PyProof.noPylong_small (by lia)))
theorem Bz:OpR X (binaryOp .Mod) (rI (λ_ j=>0<j) λi j=>.int (i%j)):=opI λi j _ _ _ _ _ hc q=>by
 have h1:(0:Int)<j:=hc
 exact mod_int' (by lia) (by rw[Int.fmod_eq_emod_of_nonneg i (by lia)];exact q)
theorem e9:OpR X (binaryOp .Pow) (rI rq λi j=>.int (i ^ j.toNat)):=opI λ_ _ _ _ _ _ _ hc q=>pow_int_small hc.1 hc.2.1 hc.2.2 q
theorem unI {f:Value->Sem Value}{g:Int->Int}
  (rule:∀(i:Int)(t:Tok)(s:Shared)(Q:Value->Shared->Prop)(E:Value->Shared->Prop),Q (.int (g i) s.toks) {s with toks:=s.toks+1}->wpAny (model X.prog X.w) X.A (f (.int i t)) Q E s):
  UnR X f (rU λi=>.int (g i)):=by
 intro pins s σ H x v Q I rx h
 obtain⟨i,rfl,q⟩:=h
 obtain⟨t,rfl⟩:=rx
 exact rule i t s _ _ ⟨.int (g i),H,I.tok _,⟨_,rfl⟩,q⟩
theorem Oe:UnR X (unaryOp .USub) (rU λi=>.int (-i)):=unI λ_ _ _ _ _ q=>neg_int q
end
def pz:V->V->Bool
 | .non,.non=>true| .non,.int _=>true| .int _,.non=>true| .non,.bl _=>true| .bl _,.non=>true| .non,.str _=>true| .str _,.non=>true
 | .int _,.int _=>true| .bl _,.bl _=>true| .str _,.str _=>true| .byt _,.byt _=>true
 | .int _,.str _=>true| .str _,.int _=>true| .bl _,.str _=>true| .str _,.bl _=>true
 | _,_=>false
def rEq:R2:=λx y H Q=>pz x y=true/\Q (.bl (decide (x=y))) H
def rNe:R2:=λx y H Q=>pz x y=true/\Q (.bl (!decide (x=y))) H
theorem ag {i j:Int}:decide (V.int i=V.int j)=(i==j):=by
 rw[zr]
 simp
theorem ff {i j:Bool}:decide (V.bl i=V.bl j)=(i==j):=by
 rw[zr]
 simp
theorem Zm {i j:Str}:decide (V.str i=V.str j)=(i==j):=by
 rw[zr]
 simp
theorem X3 {i j:Array UInt8}:decide (V.byt i=V.byt j)=(i.toList==j.toList):=by
 rw[zr]
 cases i
 cases j
 simp
section
variable {X:Cx}{a b c:Expr}{ta tb tc:TE}{pos:Pos}
theorem Bp {pins:List (Addr×Obj)}{σ:St}{H:Hp}{s:Shared}{Q:VK}{k k':Bool}(I:Inv X pins σ H s)(q:Q (.bl k) H)(e:k=k'):EP X pins σ Q (.bool k') s:=by
 subst e
 exact⟨.bl k,H,I,rfl,q⟩
theorem Kn:OpR X (compareOp .Eq) rEq:=by
 intro pins s σ H x y v u Q I rx ry h
 obtain⟨hs,q⟩:=h
 cases x with
 |
  non=>
  cases rx
  cases y with
  | non=>cases ry;exact PySem.EqNone.eq_none_none (Bp I q (by simp))
  | bl j=>cases ry;exact PySem.EqNone.eq_none_bool (Bp I q (by simp))
  | int j=>obtain⟨t',rfl⟩:=ry;exact PySem.EqNone.eq_none_int (Bp I q (by simp))
  | str j=>obtain⟨t',rfl⟩:=ry;exact PySem.EqNone.eq_none_str (Bp I q (by simp))
  | _=>exact absurd (show false=true from hs) uk
 |
  bl i=>
  cases rx
  cases y with
  | non=>cases ry;exact PySem.EqNone.eq_bool_none (Bp I q (by simp))
  | bl j=>cases ry;exact eq_bool (Bp I q ff)
  | str j=>obtain⟨t',rfl⟩:=ry;exact PySem.EqMixed.eq_bool_str (Bp I q (by simp))
  | _=>exact absurd (show false=true from hs) uk
 |
  int i=>
  obtain⟨t,rfl⟩:=rx
  cases y with
  | non=>cases ry;exact PySem.EqNone.eq_int_none (Bp I q (by simp))
  | int j=>obtain⟨t',rfl⟩:=ry;exact eq_int (Bp I q ag)
  | str j=>obtain⟨t',rfl⟩:=ry;exact PySem.EqMixed.eq_int_str (Bp I q (by simp))
  | _=>exact absurd (show false=true from hs) uk
 |
  str i=>
  obtain⟨t,rfl⟩:=rx
  cases y with
  | non=>cases ry;exact PySem.EqNone.eq_str_none (Bp I q (by simp))
  | bl j=>cases ry;exact PySem.EqMixed.eq_str_bool (Bp I q (by simp))
  | int j=>obtain⟨t',rfl⟩:=ry;exact PySem.EqMixed.eq_str_int (Bp I q (by simp))
  | str j=>obtain⟨t',rfl⟩:=ry;exact eq_str (Bp I q Zm)
  | _=>exact absurd (show false=true from hs) uk
 |
  byt i=>
  obtain⟨t,rfl⟩:=rx
  cases y with
  | byt j=>obtain⟨t',rfl⟩:=ry;exact W.eq_bytes (Bp I q X3)
  | _=>exact absurd (show false=true from hs) uk
 | _=>cases y<;>exact absurd (show false=true from hs) uk
theorem o3:OpR X (compareOp .NotEq) rNe:=by
 intro pins s σ H x y v u Q I rx ry h
 obtain⟨hs,q⟩:=h
 cases x with
 |
  non=>
  cases rx
  cases y with
  | non=>cases ry;exact PySem.EqNone.ne_none_none (Bp I q (by simp))
  | bl j=>cases ry;exact PySem.EqNone.ne_none_bool (Bp I q (by simp))
  | int j=>obtain⟨t',rfl⟩:=ry;exact PySem.EqNone.ne_none_int (Bp I q (by simp))
  | str j=>obtain⟨t',rfl⟩:=ry;exact PySem.EqNone.ne_none_str (Bp I q (by simp))
  | _=>exact absurd (show false=true from hs) uk
 |
  bl i=>
  cases rx
  cases y with
  | non=>cases ry;exact PySem.EqNone.ne_bool_none (Bp I q (by simp))
  | bl j=>cases ry;exact ne_bool (Bp I q (vi not ff))
  | str j=>obtain⟨t',rfl⟩:=ry;exact PySem.EqMixed.ne_bool_str (Bp I q (by simp))
  | _=>exact absurd (show false=true from hs) uk
 |
  int i=>
  obtain⟨t,rfl⟩:=rx
  cases y with
  | non=>cases ry;exact PySem.EqNone.ne_int_none (Bp I q (by simp))
  | int j=>obtain⟨t',rfl⟩:=ry;exact ne_int (Bp I q (vi not ag))
  | str j=>obtain⟨t',rfl⟩:=ry;exact PySem.EqMixed.ne_int_str (Bp I q (by simp))
  | _=>exact absurd (show false=true from hs) uk
 |
  str i=>
  obtain⟨t,rfl⟩:=rx
  cases y with
  | non=>cases ry;exact PySem.EqNone.ne_str_none (Bp I q (by simp))
  | bl j=>cases ry;exact PySem.EqMixed.ne_str_bool (Bp I q (by simp))
  | int j=>obtain⟨t',rfl⟩:=ry;exact PySem.EqMixed.ne_str_int (Bp I q (by simp))
  | str j=>obtain⟨t',rfl⟩:=ry;exact ne_str (Bp I q (vi not Zm))
  | _=>exact absurd (show false=true from hs) uk
 |
  byt i=>
  obtain⟨t,rfl⟩:=rx
  cases y with
  | byt j=>obtain⟨t',rfl⟩:=ry;exact W.ne_bytes (Bp I q (vi not X3))
  | _=>exact absurd (show false=true from hs) uk
 | _=>cases y<;>exact absurd (show false=true from hs) uk
theorem N1:OpR X (compareOp .Lt) (rI0 λi j=>.bl (decide (i<j))):=mi λ_ _ _ _ _ _ _ q=>lt_int q
theorem ji:OpR X (compareOp .LtE) (rI0 λi j=>.bl (decide (i<=j))):=mi λ_ _ _ _ _ _ _ q=>le_int q
theorem V6:OpR X (compareOp .Gt) (rI0 λi j=>.bl (decide (j<i))):=mi λ_ _ _ _ _ _ _ q=>gt_int q
theorem Zz:OpR X (compareOp .GtE) (rI0 λi j=>.bl (decide (j<=i))):=mi λ_ _ _ _ _ _ _ q=>ge_int q
theorem Zb:OpR X (compareOp .In) (λx y H Q=>∃i j,x=.str i/\y=.str j/\Q (.bl (!(Builtin.Str.occurrences j i 0 j.length 1).isEmpty)) H):=by
 intro pins s σ H x y v u Q I rx ry h
 obtain⟨i,j,rfl,rfl,q⟩:=h
 obtain⟨t,rfl⟩:=rx
 obtain⟨t',rfl⟩:=ry
 exact in_str (Bp I q rfl)
theorem mf:OpR X (compareOp .Is) (λx y H Q=>y=.non/\Q (.bl (decide (x=.non))) H):=by
 intro pins s σ H x y v u Q I rx ry h
 obtain⟨rfl,q⟩:=h
 cases ry
 refine is_none_gen (Bp I q ?_)
 cases x<;>first
  | (cases rx;rfl)
  | (obtain⟨t,rfl⟩:=rx;rfl)
theorem A4 (b:Expr){op:CmpOp}(h:op≠ .In:=by decide)(h2:op≠ .NotIn:=by decide):behindInMarks op b=false:=by
 have e1:(op==CmpOp.In)=false:=by cases op<;>first|rfl|exact absurd rfl h
 have e2:(op==CmpOp.NotIn)=false:=by cases op<;>first|rfl|exact absurd rfl h2
 cases b<;>simp[behindInMarks,e1,e2]
theorem J2 {op:CmpOp}{r:R2}(ho:OpR X (compareOp op) r)(ha:PE X a ta)(hb:PE X b tb)(hm:behindInMarks op b=false):PE X (.Compare a [op] [b] pos) (tOp r ta tb):=by
 intro pins s σ H Q I h
 exact wpAny_Compare1 (oy ha hb I h λv u s2 x y H2 I2 rx ry q=>ho pins s2 σ H2 x y v u Q I2 rx ry q) hm
def oj (t:TE):TT:=λσ H Q=>t σ H λx H'=>∃k,x=.bl k/\Q k H'
theorem Aw {op:CmpOp}{r:R2}(ho:OpR X (compareOp op) r)(ha:PE X a ta)(hb:PE X b tb)(hm:behindInMarks op b=false):PT X (.Compare a [op] [b] pos) (oj (tOp r ta tb)):=by
 intro pins s σ H Q I h
 refine wpAny_isTrue_Compare1 (thn (ha pins s σ H _ I h) λv s1 ⟨x,H1,I1,r1,q1⟩=>thn (hb pins s1 σ H1 _ I1 q1) λu s2 ⟨y,H2,I2,r2,q2⟩=>
  thn (ho pins s2 σ H2 x y v u _ I2 r1 r2 q2) λc s3 ⟨z,H3,I3,r3,k,e,q3⟩=>?_) hm
 subst e
 cases r3
 exact x5 ⟨H3,I3,q3⟩
def px (K:W.Frag)(x:V)(H:Hp)(k:Bool):Prop:=
 match x with
 | .non=>k=false
 | .bl b=>k=b
 | .int i=>k=(i != 0)
 | .str y=>y.length<=sizeLine/\k=((y.length:Int) != 0)
 | .byt y=>y.size<=sizeLine/\k=((y.size:Int) != 0)
 | .ref p=>(∃xs,SqL K H p xs/\k= !xs.isEmpty)∨(∃xs,SqT K H p xs/\k= !xs.isEmpty)∨∃kvs,H p=some (.dK kvs)/\k= !kvs.isEmpty
 | _=>False
theorem W4 {κ:Type}{kvs:List (κ×V)}{vs:List (κ×Value)}(r:KV kvs vs):(!vs.isEmpty)= !kvs.isEmpty:=by
 cases r<;>rfl
theorem Oy {xs:List V}{its:List Value}(r:Vals xs its):(!its.toArray.isEmpty)= !xs.isEmpty:=by
 cases r<;>simp
theorem M6:(sizeLine:Nat)<2 ^ 63:=by rw[vd];decide
theorem kn:qx X (λx H Q=>∃k,px X.K x H k/\Q k H):=by
 intro pins s σ H x v Q I rx h
 obtain⟨k,e,q⟩:=h
 have hl:=M6
 have hs:sizeLine=16777216:=vd
 cases x with
 |
  non=>
  cases rx
  have e':k=false:=e
  subst e'
  exact truthy_none ⟨H,I,q⟩
 |
  bl b=>
  cases rx
  have e':k=b:=e
  subst e'
  exact x5 ⟨H,I,q⟩
 |
  int i=>
  obtain⟨t,rfl⟩:=rx
  have e':k=(i != 0):=e
  subst e'
  exact PySem.P.truthy_int ⟨H,I,q⟩
 |
  str y=>
  obtain⟨t,rfl⟩:=rx
  obtain⟨hy,e'⟩:y.length<=sizeLine/\k=((y.length:Int) != 0):=e
  subst e'
  exact PySem.P.truthy_str (by lia) ⟨H,I.tok _,q⟩
 |
  byt y=>
  obtain⟨t,rfl⟩:=rx
  obtain⟨hy,e'⟩:y.size<=sizeLine/\k=((y.size:Int) != 0):=e
  subst e'
  exact W.truthy_bytes (by lia) ⟨H,I.tok _,q⟩
 |
  ref p=>
  cases rx
  have e':(∃xs,SqL X.K H p xs/\k= !xs.isEmpty)∨(∃xs,SqT X.K H p xs/\k= !xs.isEmpty)∨∃kvs,H p=some (.dK kvs)/\k= !kvs.isEmpty:=e
  rcases e' with⟨xs,hx,e'⟩|⟨xs,hx,e'⟩|⟨kvs,hx,e'⟩
  ·
   subst e'
   obtain⟨its,r,pl,hz⟩:=I.list hx
   have hlen:=r.length
   exact wpAny_truthy_list pl.isList (by simp only[su];lia) ⟨H,I.tok _,by rw[Oy r];exact q⟩
  ·
   subst e'
   obtain⟨its,r,pl,hz⟩:=I.tuple hx
   have hlen:=r.length
   exact truthy_tuple pl (by simp only[su];lia) ⟨H,I.tok _,by rw[Oy r];exact q⟩
  ·
   subst e'
   obtain⟨hz,hS,vs,r,m⟩:kvs.length<=sizeLine/\(p==sysModules)=false/\∃vs,KV kvs vs/\s.heap.DictOf (Ax X.prog X.w) p vs:=I.hok p _ hx
   have hlen:kvs.length=vs.length:=Aat r
   exact wpAny_truthy_dict hS m (by lia) ⟨H,I.tok _,by rw[W4 r];exact q⟩
 | _=>exact(show False from e).elim
theorem c7 (ha:PE X a ta)(he:∀whole,isTrue a X.env whole=(do let v ←whole;standAt a.pos;holding [v] (truthy v))):
  PT X a (λσ H Q=>ta σ H λx H'=>∃k,px X.K x H' k/\Q k H'):=by
 intro pins s σ H Q I h
 exact isTrue_plain (thn (ha pins s σ H _ I h) λv s1 ⟨x,H1,I1,r1,q1⟩=>kn pins s1 σ H1 x v Q I1 r1 q1) (he _)
theorem G8:OpR X (binaryOp .Add) (λx y H Q=>∃i j,x=.str i/\y=.str j/\i.length+j.length<=sizeLine/\Q (.str (i++j)) H):=by
 intro pins s σ H x y v u Q I rx ry h
 obtain⟨i,j,rfl,rfl,hz,q⟩:=h
 obtain⟨t,rfl⟩:=rx
 obtain⟨t',rfl⟩:=ry
 exact add_str (λt' tk=>⟨.str (i++j),H,I.tok _,⟨_,rfl⟩,q⟩) hz
theorem vals1 {x:V}{us:List Value}(r:Vals [x] us):∃u,us=[u]/\RelV x u:=by
 cases r with
 | cons r1 r2=>cases r2;exact⟨_,rfl,r1⟩
theorem vals2 {x y:V}{us:List Value}(r:Vals [x,y] us):∃u w',us=[u,w']/\RelV x u/\RelV y w':=by
 cases r with
 |
  cons r1 r2=>
  cases r2 with
  | cons r3 r4=>cases r4;exact⟨_,_,rfl,r1,r3⟩
theorem Mj:Gd X (.builtin "abs") (λxs H Q=>∃i,xs=[.int i]/\Q (.int (if i<0 then-i else i)) H):=by
 intro pins s σ H xs us Q I r h
 obtain⟨i,rfl,q⟩:=h
 obtain⟨u,rfl,t,rfl⟩:=vals1 r
 exact call_abs_int λu tk=>⟨.int (if i<0 then-i else i),H,I.tok _,⟨_,rfl⟩,q⟩
theorem Jd (hc:X.calm=true):Gd X (.builtin "max") (λxs H Q=>∃i j,xs=[.int i,.int j]/\Q (.int (if j>i then j else i)) H):=by
 intro pins s σ H xs us Q I r h
 obtain⟨i,j,rfl,q⟩:=h
 obtain⟨u,w',rfl,⟨t,rfl⟩,⟨t',rfl⟩⟩:=vals2 r
 refine max_two_ints (I.ok.hd hc) λh' tk k=>⟨_,H,I.kept k,?_,q⟩
 by_cases hj:j>i
 · rw[if_pos hj,if_pos hj];exact⟨_,rfl⟩
 · rw[if_neg hj,if_neg hj];exact⟨_,rfl⟩
theorem M9 (hc:X.calm=true):Gd X (.builtin "min") (λxs H Q=>∃i j,xs=[.int i,.int j]/\Q (.int (if j<i then j else i)) H):=by
 intro pins s σ H xs us Q I r h
 obtain⟨i,j,rfl,q⟩:=h
 obtain⟨u,w',rfl,⟨t,rfl⟩,⟨t',rfl⟩⟩:=vals2 r
 refine min_two_ints (I.ok.hd hc) λh' tk k=>⟨_,H,I.kept k,?_,q⟩
 by_cases hj:j<i
 · rw[if_pos hj,if_pos hj];exact⟨_,rfl⟩
 · rw[if_neg hj,if_neg hj];exact⟨_,rfl⟩
theorem Bx:Gd X (.type "int") (λxs H Q=>(∃i,xs=[.int i]/\Q (.int i) H)∨∃k,xs=[.bl k]/\Q (.int (if k then 1 else 0)) H):=by
 intro pins s σ H xs us Q I r h
 rcases h with⟨i,rfl,q⟩|⟨k,rfl,q⟩
 ·
  obtain⟨u,rfl,t,rfl⟩:=vals1 r
  exact call_int_int ⟨.int i,H,I,⟨_,rfl⟩,q⟩
 ·
  obtain⟨u,rfl,r1⟩:=vals1 r
  cases r1
  exact call_int_bool ⟨.int (if k then 1 else 0),H,I.tok _,⟨_,rfl⟩,q⟩
end
structure ObjM (h:Heap)(x dx C:Addr)(mA:Str->Option Value):Prop where
 obj:h.get? x=some (W.instObj C dx)
 ns:h.Ns1 dx mA
 ne:dx≠x
theorem Z1 {h:Heap}{dx:Addr}{mA:Str->Option Value}(n:h.Ns1 dx mA):∃od,h.get? dx=some od/\∀name,W.lookIn name od=some (mA name):=by
 obtain⟨o,es,ep,ho,hd,hk,_,hm⟩:=n
 refine⟨o,ho,λname=>?_⟩
 have e:=hm name
 unfold nsFind findBy at e
 rw[←Array.find?_toList] at e
 unfold W.lookIn
 rw[hd]
 dsimp only
 split
 ·
  rename_i y q
  rw[q] at e
  exact vi some e
 ·
  rename_i q
  rw[q] at e
  have a:es.toList.any (·.refKey)=false:=by
   rw[List.any_eq_false]
   intro y hy
   obtain⟨z,t,hkey⟩:=hk y (Array.mem_toList_iff.mp hy)
   simp[DictEntry.refKey,hkey]
  have a':¬es.toList.any (·.refKey)=true:=by rw[a];exact uk
  rw[if_neg a']
  exact vi some e
theorem ObjM.look {h:Heap}{x dx C:Addr}{mA:Str->Option Value}(I:ObjM h x dx C mA):∃od,W.InstAt h x (W.instObj C dx) C (some od)/\∀name,W.lookIn name od=some (mA name):=
 let ⟨od,ho,hl⟩:=Z1 I.ns
 ⟨od,⟨I.obj,rfl,rfl,ho⟩,hl⟩
section
variable {prog:Program}{w:World}{A:Around}{E:Value->Shared->Prop}{s:Shared}{K:W.Frag}{x dx C f:Addr}{mA:Str->Option Value}{name:Str}{v:Value}
theorem get_map {expr:Bool}{Q:Value->Shared->Prop}(X:K.In s.heap)(I:ObjM s.heap x dx C mA)(hg:W.plainGet K C name=true)(hh:W.hasDictIn K C=true)
  (ha:W.findIn K (.ref C) name=some none) (hv:mA name=some v) (hv':W.handedIn v=true) (h:Q v {s with toks:=s.toks+1}):
  wpAny (model prog w) A (getAttr (.ref x) name expr) Q E s:=by
 obtain⟨od,J,hl⟩:=I.look
 exact W.get_value X J (W.plainGet_of hg).1 (W.findObj_own hh ha rfl (by rw[hl,hv])) hv' h
theorem bu {pl:Sem Bool}{Q:Value×List Value->Shared->Prop}(X:K.In s.heap)(I:ObjM s.heap x dx C mA)(hg:W.plainGet K C name=true)
  (hf:W.findIn K (.ref C) name=some (some (.ref f))) (ht:W.isFn K (.ref f)=true) (hv:mA name=none) (h:Q (.ref f,[.ref x]) s):
  wpAny (model prog w) A (getMethod (.ref x) name pl) Q E s:=by
 obtain⟨od,J,hl⟩:=I.look
 exact W.method_fn X J (W.plainGet_of hg).1 (W.plainGet_of hg).2 hf (beq_iff_eq.mp ht) (by show(W.lookIn name od).map (·.isSome)=some false;rw[hl,hv];rfl) h
theorem g5 {ns:List Str}{Q:Unit->Shared->Prop}(X:K.In s.heap)(I:ObjM s.heap x dx C mA)
  (hs:W.findIn K (.ref C) "__setattr__"=some (some (.builtin "object.__setattr__"))) (hp:W.plainOver K C=true) (ht:W.takerIn K C name=some none) (hh:W.hasDictIn K C=true)
  (hw:PySem.Within mA ns) (hsz:ns.length<=sizeLine)
  (h:∀h',ObjM h' x dx C (λy=>if y=name then some v else mA y)->Heap.SameBut dx s.heap h'->Q () {s with heap:=h',toks:=s.toks+2}):
  wpAny (model prog w) A (setAttr (.ref x) name v) Q E s:=by
 obtain⟨od,J,hl⟩:=I.look
 refine W.set_plain X J hs (W.osa_open (s:={s with toks:=s.toks+1}) (r:=none) X J hp ht λb=>?_)
 obtain⟨cd,hc,hd'⟩:=W.any_some hh
 have hx:s.heap.get? x=some ⟨.ref C,some dx,.plain,#[]⟩:=I.obj
 refine se (si (se (se (wpAny_loadPart hx (se (W.Looks.here (s:={s with toks:=s.toks+1}) (W.looks_clsIn X hc) ?_))))))
 rw[hd']
 refine si (a:=some dx) (se (si (se ?_)))
 refine wpAny_nsSet1 (s:={s with toks:=s.toks+1}) I.ns λh' hn2 hs2=>?_
 obtain⟨oD,esD,epD,hoD,hdD,hcD⟩:=hn2.count (PySem.Within.cons name v hw)
 refine se (wpAny_lookBehind hoD (by rw[hdD];exact pastItsLine_dict (uy hcD (by rw[t5];lia))) ?_)
 exact si (h _ ⟨(hs2.2 _ (zg I.ne)).trans I.obj,hn2,I.ne⟩ hs2)
theorem cx {R:Result->Shared->Prop}{vs:List Value}{kw:List (Str×Value)}(X:K.In s.heap)(hm:W.makesIn K C=true)
  (hi:W.findIn K (.ref C) "__init__"=some (some (.ref f))) (hf:W.typeIn K (.ref f)=some (.type "function"))
  (h:codeAny (model prog w) (A.under (.builtin "type.__call__" ⟨.ref C::vs,kw⟩)) (.call (.ref f) ⟨.ref (s.heap.objs.size+1)::vs,kw⟩) (W.InitBack (s.heap.objs.size+1) R)
   {s with heap:=(s.heap.push W.emptyDict).push (W.instObj C s.heap.objs.size)}):
  codeAny (model prog w) A (.call (.ref C) ⟨vs,kw⟩) R s:=by
 obtain⟨hh,g,d,t,os⟩:=s
 exact W.make_core (W.makes_of X hm) (Abh X hi) (λself=>W.bind_fn X self hf) (.inl rfl) h
end
def Su (f:Str)(v:V):List (Str×V)->List (Str×V)
 | []=>[(f,v)]
 | (g,x)::r=>if g=f then(g,v)::r else(g,x)::Su f v r
theorem Mz (f g:Str)(v:V):∀fs:List (Str×V),(Su f v fs).lookup g=if g=f then some v else fs.lookup g
 |
  []=>by
  show List.lookup g [(f,v)]=_
  by_cases h:g=f
  ·
   have hb:(g==f)=true:=Aa7.mpr h
   simp only[List.lookup,hb,if_pos h]
  ·
   have hb:(g==f)=false:=wm.mpr h
   simp only[List.lookup,hb,if_neg h]
 |
  (k,x)::r=>by
  have ih:=Mz f g v r
  rw[show Su f v ((k,x)::r)=(if k=f then(k,v)::r else(k,x)::Su f v r) from rfl]
  by_cases hk:k=f
  ·
   rw[if_pos hk]
   by_cases h:g=k
   ·
    have hb:(g==k)=true:=Aa7.mpr h
    simp only[List.lookup,hb,if_pos (h.trans hk)]
   ·
    have hb:(g==k)=false:=wm.mpr h
    simp only[List.lookup,hb,if_neg (λe:g=f=>h (e.trans hk.symm))]
  ·
   rw[if_neg hk]
   by_cases h:g=k
   ·
    have hb:(g==k)=true:=Aa7.mpr h
    simp only[List.lookup,hb,if_neg (λe:g=f=>hk (h.symm.trans e))]
   ·
    have hb:(g==k)=false:=wm.mpr h
    simp only[List.lookup,hb]
    exact ih
theorem Ni (f:Str)(v:V):∀fs:List (Str×V),f∈(Su f v fs).map (·.1)/\∀g,g∈fs.map (·.1)->g∈(Su f v fs).map (·.1)
 | []=>⟨by simp[Su],λg h=>by simp at h⟩
 |
  (k,x)::r=>by
  obtain⟨i1,i2⟩:=Ni f v r
  rw[show Su f v ((k,x)::r)=(if k=f then(k,v)::r else(k,x)::Su f v r) from rfl]
  by_cases hk:k=f
  ·
   rw[if_pos hk]
   subst hk
   exact⟨by simp,λg h=>by simpa using h⟩
  ·
   rw[if_neg hk]
   refine⟨?_,λg h=>?_⟩
   ·
    rw[um]
    exact sq _ i1
   ·
    rw[um] at h ⊢
    rcases uq.mp h with e|e
    · exact List.mem_cons.mpr (.inl e)
    · exact sq _ (i2 g e)
theorem Nb (f:Str)(v:V):∀fs:List (Str×V),(Su f v fs).length<=fs.length+1
 | []=>by simp[Su]
 |
  (k,x)::r=>by
  have ih:=Nb f v r
  rw[show Su f v ((k,x)::r)=(if k=f then(k,v)::r else(k,x)::Su f v r) from rfl]
  by_cases hk:k=f
  · rw[if_pos hk,t5,t5];lia
  · rw[if_neg hk,t5,t5];lia
theorem RelO.some_of {v:V}{o:Option Value}(r:RelO (some v) o):∃u,o=some u/\RelV v u:=by
 cases o with
 | none=>exact(show False from r).elim
 | some u=>exact⟨u,rfl,r⟩
theorem RelO.none_of {o:Option Value}(r:RelO none o):o=none:=by
 cases o with
 | none=>rfl
 | some u=>exact(show False from r).elim
theorem aq {v:V}{u:Value}(r:RelV v u):W.handedIn u=true:=by
 cases v with
 | non=>cases (show u=Value.none from r);rfl
 | bl b=>cases (show u=Value.bool b from r);rfl
 | int i=>obtain⟨t,e⟩:=(show ∃t,u=Value.int i t from r);cases e;rfl
 | str x=>obtain⟨t,e⟩:=(show ∃t,u=Value.str x t from r);cases e;rfl
 | byt b=>obtain⟨t,e⟩:=(show ∃t,u=Value.bytes b t from r);cases e;rfl
 | flt b=>obtain⟨t,e⟩:=(show ∃t,u=Value.float b t from r);cases e;rfl
 | ref a=>cases (show u=Value.ref a from r);rfl
 | ty n=>cases (show u=Value.type n from r);rfl
section
variable {P:Program}{w:World}{H H':Hp}{h h':Heap}{a C dx:Addr}{fs fs':List (Str×V)}
theorem O8 (hok:HOk P w H h)(e:H a=some (.ins C dx fs)):∃mA,ObjM h a dx C mA/\(∀f,RelO (fs.lookup f) (mA f))/\PySem.Within mA (fs.map (·.1))/\fs.length<=1000/\H dx=some (.own a):=by
 obtain⟨d,z,ne,ob,mA,n,r,q⟩:=(show ObjOk P w H h a (.ins C dx fs) from hok a _ e)
 exact⟨mA,⟨ob,n,ne⟩,r,q,z,d⟩
end
structure Cls (K:W.Frag)(C:Addr):Prop where
 pg:W.plainGet K C Str.empty=true
 hd:W.hasDictIn K C=true
 po:W.plainOver K C=true
 sa:W.findIn K (.ref C) "__setattr__"=some (some (.builtin "object.__setattr__"))
theorem Cls.get {K:W.Frag}{C:Addr}(c:Cls K C)(f:Str):W.plainGet K C f=true:=c.pg
def NoAttr (K:W.Frag)(C:Addr)(f:Str):Prop:=W.findIn K (.ref C) f=some none
theorem NoAttr.taker {K:W.Frag}{C:Addr}{f:Str}(n:NoAttr K C f):W.takerIn K C f=some none:=by
 unfold W.takerIn
 rw[show W.findIn K (.ref C) f=some none from n]
 rfl
structure Meth (K:W.Frag)(C:Addr)(m:Str)(f:Addr):Prop where
 at_:W.findIn K (.ref C) m=some (some (.ref f))
 fn:W.isFn K (.ref f)=true
 kp:W.keepIn K (.ref f)=true
section
variable {X:Cx}{pins:List (Addr×Obj)}{σ:St}{H:Hp}{s:Shared}{a C dx:Addr}{fs:List (Str×V)}{f:Str}{v:V}{A:Around}{E:Value->Shared->Prop}
theorem Wz {b:Bool}{Q:Value->Shared->Prop}(I:Inv X pins σ H s)(e:H a=some (.ins C dx fs))(c:Cls X.K C)(n:NoAttr X.K C f)(l:fs.lookup f=some v)
  (h:∀u s',Inv X pins σ H s'->RelV v u->Q u s'):wpAny (model X.prog X.w) A (getAttr (.ref a) f b) Q E s:=by
 obtain⟨mA,O,r,_,_,_⟩:=O8 I.hok e
 obtain⟨u,hu,ru⟩:=RelO.some_of (v:=v) (o:=mA f) (by rw[←l];exact r f)
 exact get_map I.kIn O (c.get f) c.hd n hu (aq ru) (h u _ (I.tok _) ru)
theorem Li {m:Str}{g:Addr}{pl:Sem Bool}{Q:Value×List Value->Shared->Prop}(I:Inv X pins σ H s)(e:H a=some (.ins C dx fs))(c:Cls X.K C)(k:Meth X.K C m g)(l:fs.lookup m=none)
  (h:Q (.ref g,[.ref a]) s):wpAny (model X.prog X.w) A (getMethod (.ref a) m pl) Q E s:=by
 obtain⟨mA,O,r,_,_,_⟩:=O8 I.hok e
 have hn:mA m=none:=RelO.none_of (by rw[←l];exact r m)
 exact bu I.kIn O (c.get m) k.at_ k.fn hn h
theorem We {y:V}{u:Value}{Q:Unit->Shared->Prop}(I:Inv X pins σ H s)(e:H a=some (.ins C dx fs))(c:Cls X.K C)(n:NoAttr X.K C f)(hl:fs.length<1000)(ry:RelV y u)
  (h:∀s',Inv X pins σ (upd H a (.ins C dx (Su f y fs))) s'->Q () s'):wpAny (model X.prog X.w) A (setAttr (.ref a) f u) Q E s:=by
 obtain⟨mA,O,r,wi,_,ho⟩:=O8 I.hok e
 have hz:(fs.map (·.1)).length<=sizeLine:=by rw[sf,vd];lia
 refine g5 I.kIn O c.sa c.po n.taker c.hd wi hz λh' O' sb=>h _ ?_
 have hd:∃o,h'.get? dx=some o:=let ⟨o,_,_,e',_⟩:=O'.ns;⟨o,e'⟩
 refine I.write (x:=a) (e:=dx) (by rw[e];exact True.intro) (.inr ho) (λb q hb z=>(sb.2 b hb).trans z) hd ?_
 refine⟨by rw[Ad O.ne];exact ho,?_,O.ne,O'.obj,_,O'.ns,λg=>?_,λg hg=>?_⟩
 · have:=Nb f y fs;lia
 ·
  show RelO ((Su f y fs).lookup g) (if g=f then some u else mA g)
  rw[Mz]
  by_cases q:g=f
  · rw[if_pos q,if_pos q];exact ry
  · rw[if_neg q,if_neg q];exact r g
 ·
  by_cases q:g=f
  · rw[q];exact(Ni f y fs).1
  ·
   refine(Ni f y fs).2 g (wi g λz=>hg ?_)
   show(if g=f then some u else mA g)=none
   rw[if_neg q];exact z
theorem Inv.made (I:Inv X pins σ H s):Inv X pins σ (upd (upd H s.heap.objs.size (.own (s.heap.objs.size+1))) (s.heap.objs.size+1) (.ins C s.heap.objs.size []))
  {s with heap:=(s.heap.push W.emptyDict).push (W.instObj C s.heap.objs.size)}:=by
 have e1:(s.heap.push W.emptyDict).get? s.heap.objs.size=some W.emptyDict:=t9 s.heap rfl
 have e2:((s.heap.push W.emptyDict).push (W.instObj C s.heap.objs.size)).get? (s.heap.objs.size+1)=some (W.instObj C s.heap.objs.size):=by
  have:=t9 (s.heap.push W.emptyDict) (o:=W.instObj C s.heap.objs.size) rfl
  rwa[wz] at this
 have e3:(s.heap.push W.emptyDict).Ns s.heap.objs.size (λ_=>none):=⟨W.emptyDict,#[],_,e1,rfl,(λe he=>absurd he (by simp)),λ_=>rfl⟩
 have I1:=I.laid (a:=s.heap.objs.size) (o:=.own (s.heap.objs.size+1)) (h':=s.heap.push W.emptyDict) (t':=s.toks) (λb u q=>sj _ q) (tq _) ⟨_,e1⟩
 refine I1.laid (a:=s.heap.objs.size+1) (o:=.ins C s.heap.objs.size []) (t':=s.toks) (λb u q=>sj _ q) (Nat.le_of_eq (wz _ _)) ?_
 have ne:s.heap.objs.size≠s.heap.objs.size+1:=ug (vt _)
 refine⟨by rw[Ad ne,Ab],u5 _,ne,e2,λ_=>none,(Heap.Ns1.of_empty e3).at λo q=>sj _ q,λ_=>True.intro,λy hy=>absurd rfl hy⟩
theorem fq {prog:Program}{w:World}{env:Env}{e:Expr}{f:Str}{pos:Pos}{s:Shared}{Q:Value->Shared->Prop}(hb:attributeBase e f env (eval e env)=eval e env)
  (h:wpAny (model prog w) A (eval e env) (λo s₁=>wpAny (model prog w) A (getAttr o f true) Q E s₁) E s):wpAny (model prog w) A (eval (.Attribute e f pos) env) Q E s:=
 Attribute_any_ h (by rw[arm_eval_Attribute,hb])
end
def p6 (K:W.Frag)(ta:TE)(f:Str):TE:=λσ H Q=>ta σ H λx H1=>∃a C dx fs v,x=.ref a/\H1 a=some (.ins C dx fs)/\Cls K C/\NoAttr K C f/\fs.lookup f=some v/\Q v H1
def pq (K:W.Frag)(ta tv:TE)(f:Str):TS:=λD σ H=>tv σ H λy H1=>ta σ H1 λx H2=>∃a C dx fs,x=.ref a/\H2 a=some (.ins C dx fs)/\Cls K C/\NoAttr K C f/\fs.length<1000/\
 D.nx σ (upd H2 a (.ins C dx (Su f y fs)))
section
variable {X:Cx}{o e value:Expr}{f:Str}{pos pos' tpos:Pos}{ta tv:TE}
theorem kg (he:PE X e ta)(hb:attributeBase e f X.env (eval e X.env)=eval e X.env):PE X (.Attribute e f pos) (p6 X.K ta f):=by
 intro pins s σ H Q I h
 refine fq hb (thn (he pins s σ H _ I h) λu s1 hz=>?_)
 obtain⟨x,H1,I1,rx,a,C,dx,fs,v,ex,ea,c,n,l,q⟩:=hz
 subst ex
 obtain rfl:u=Value.ref a:=rx
 exact Wz I1 ea c n l λu' s2 I2 ru=>⟨v,H1,I2,ru,q⟩
theorem ly (ha:PE X o ta)(hv:PE X value tv)(hs:swapsWith value (some (.Attribute o f pos')) pos.line X.env=pure false):PS X (.Assign [.Attribute o f pos'] value pos) (pq X.K ta tv f):=by
 intro pins s σ H D I h
 refine plainObj_wpAny_Assign_Attribute (thn (hv pins s σ H _ I h) λu s1 ⟨y,H1,I1,ry,q⟩=>thn (ha pins s1 σ H1 _ I1 q) λov s2 ⟨x,H2,I2,rx,a,C,dx,fs,ex,ea,c,n,l,q2⟩=>?_) hs
 subst ex
 obtain rfl:ov=Value.ref a:=rx
 exact We I2 ea c n l ry λs3 I3=>⟨σ,_,I3,q2⟩
end
section
variable {X:Cx}{pins:List (Addr×Obj)}{σ:St}{H:Hp}{s:Shared}{A:Around}{E:Value->Shared->Prop}{Q:Value->Shared->Prop}{c:Value}{b:Bool}
inductive Tz (K:W.Frag)(H:Hp):V->Value->Prop where
 | non:Tz K H .non (.type "NoneType")
 | bl (x:Bool):Tz K H (.bl x) (.type "bool")
 | int (i:Int):Tz K H (.int i) (.type "int")
 | str (x:Str):Tz K H (.str x) (.type "str")
 | flt (x:UInt64):Tz K H (.flt x) (.type "float")
 | lst {a:Addr} {xs:List V} (e:H a=some (.lst xs)):Tz K H (.ref a) (.type "list")
 | frz {a:Addr} {o:Obj} {xs:List V} (e:H a=some (.frz o (.lst xs))):Tz K H (.ref a) (.type "list")
 | tup {a:Addr} {xs:List V} (e:H a=some (.tup xs)):Tz K H (.ref a) (.type "tuple")
 | dK {a:Addr} {kvs:List (Key×V)} (e:H a=some (.dK kvs)):Tz K H (.ref a) (.type "dict")
 | dT {a:Addr} {kvs:List (List Key×V)} (e:H a=some (.dT kvs)):Tz K H (.ref a) (.type "dict")
 | ins {a C dx:Addr} {fs:List (Str×V)} (e:H a=some (.ins C dx fs)) (cl:Cls K C) (ha:W.findIn K (.ref C) "__class__"=some (some (.builtin "object.__class__")))
  (hn:W.specialIn K (.builtin "object.__class__") "__get__"=some (some (.builtin "getset_descriptor.__get__"))) (htk:W.takesIn K (.builtin "object.__class__")=some true)
  (hm:W.mroIn K C (.type "object")=some true):Tz K H (.ref a) (.ref C)
theorem Zi {x:V}{u t:Value}(I:Inv X pins σ H s)(rx:RelV x u)(ty:Tz X.K H x t)(e:W.kitOne X.K t c=some b)(h:∀tk,Q (.bool b) {s with toks:=tk}):
  wpAny (model X.prog X.w) A (call (.builtin "isinstance") [u,c]) Q E s:=by
 cases ty with
 | non=>cases (show u=Value.none from rx);exact yt W.kitx_none I.kIn True.intro e (λz=>nomatch z) h
 | bl y=>cases (show u=Value.bool y from rx);exact yt W.kitx_bool I.kIn True.intro e (λz=>nomatch z) h
 | int i=>obtain⟨t,q⟩:=(show ∃t,u=Value.int i t from rx);cases q;exact yt W.kitx_int I.kIn True.intro e (λz=>nomatch z) h
 | str y=>obtain⟨t,q⟩:=(show ∃t,u=Value.str y t from rx);cases q;exact yt W.kitx_str I.kIn True.intro e (λz=>nomatch z) h
 | flt y=>obtain⟨t,q⟩:=(show ∃t,u=Value.float y t from rx);cases q;exact yt W.kitx_float I.kIn True.intro e (λz=>nomatch z) h
 |
  @lst a xs ea=>
  cases (show u=Value.ref a from rx)
  obtain⟨_,_,n,_,h1⟩:=(show ObjOk X.prog X.w H s.heap a (.lst xs) from I.hok a _ ea)
  exact yt W.kitx_list I.kIn ⟨_,h1,rfl⟩ e (λz=>nomatch z) h
 |
  @frz a ob xs ea=>
  cases (show u=Value.ref a from rx)
  obtain⟨_,_,_,n,_,h1⟩:=(show ObjOk X.prog X.w H s.heap a (.frz ob (.lst xs)) from I.hok a _ ea)
  exact yt W.kitx_list I.kIn ⟨_,h1,rfl⟩ e (λz=>nomatch z) h
 |
  @tup a xs ea=>
  cases (show u=Value.ref a from rx)
  obtain⟨_,_,_,p⟩:=(show ObjOk X.prog X.w H s.heap a (.tup xs) from I.hok a _ ea)
  obtain⟨o,h1,h2,_⟩:=p
  exact yt W.kitx_tuple I.kIn ⟨o,h1,h2⟩ e (λz=>nomatch z) h
 |
  @dK a kvs ea=>
  cases (show u=Value.ref a from rx)
  obtain⟨_,_,vs,_,p⟩:=(show ObjOk X.prog X.w H s.heap a (.dK kvs) from I.hok a _ ea)
  obtain⟨o,es,ep,h1,h2,_⟩:=p
  exact yt W.kitx_dict I.kIn ⟨o,h1,h2.1⟩ e (λz=>nomatch z) h
 |
  @dT a kvs ea=>
  cases (show u=Value.ref a from rx)
  obtain⟨_,_,xs,_,o,es,ep,h1,h2,_⟩:=(show ObjOk X.prog X.w H s.heap a (.dT kvs) from I.hok a _ ea)
  exact yt W.kitx_dict I.kIn ⟨o,h1,h2.1⟩ e (λz=>nomatch z) h
 |
  @ins a C dx fs ea cl ha hn htk hm=>
  cases (show u=Value.ref a from rx)
  obtain⟨mA,O,_⟩:=O8 I.hok ea
  obtain⟨od,J,_⟩:=O.look
  exact yt (W.kitx_own (cl.get _) cl.hd ha hn htk hm) I.kIn J e (λz=>nomatch z) h
end
structure Room (cm:Bool)(k:Nat)(A:Around):Prop where
 hd:cm=true->A.handled=none
 dp:A.depth+3*k+5<recursionLimit
 un:A.units+16*k+200<cLine
theorem Room.mono {cm:Bool}{j k:Nat}{A:Around}(r:Room cm k A)(h:j<=k):Room cm j A:=⟨r.hd,by have:=r.dp;lia,by have:=r.un;lia⟩
theorem Room.deeper {cm:Bool}{k:Nat}{A:Around}(r:Room cm (k+1) A)(env:Env):Room cm k (A.deeper env):=
 ⟨r.hd,by have:=r.dp;show A.depth+1+3*k+5<_;lia,by have:=r.un;show A.units+3+16*k+200<_;lia⟩
theorem Wf {A:Around}{C:Addr}{us:List Value}{kw:List (Str×Value)}:(A.under (.builtin "type.__call__" ⟨.ref C::us,kw⟩)).depth=A.depth+1:=by
 first|rfl|simp[Around.under,Code.weight,Code.isCreation,Code.isGuard,Code.isCaller,Code.frames,Code.isFrame,guardIds]
theorem Wl {A:Around}{C:Addr}{us:List Value}{kw:List (Str×Value)}:(A.under (.builtin "type.__call__" ⟨.ref C::us,kw⟩)).units=A.units+1:=by
 first|rfl|simp[Around.under,Code.cUnits,Code.frames,Code.isFrame]
theorem Room.make {cm:Bool}{k:Nat}{A:Around}(r:Room cm (k+1) A)(C:Addr)(us:List Value)(kw:List (Str×Value)):Room cm k (A.under (.builtin "type.__call__" ⟨.ref C::us,kw⟩)):=
 ⟨r.hd,by have:=r.dp;rw[Wf];lia,by have:=r.un;rw[Wl];lia⟩
theorem Room.depth {cm:Bool}{k:Nat}{A:Around}(r:Room cm k A):A.depth<recursionLimit:=by have:=r.dp;lia
theorem Room.units {cm:Bool}{k:Nat}{A:Around}(r:Room cm k A):A.units+64<cLine:=by have:=r.un;lia
def qc:TA:=λ_ H Q=>Q [] H
def ox (ta:TE)(tr:TA):TA:=λσ H Q=>ta σ H λx H1=>tr σ H1 λxs H2=>Q (x::xs) H2
section
variable {X:Cx}{e:Expr}{es:List Expr}{te:TE}{t:TA}{pos:Pos}
theorem Ac:PA X [] qc:=λ_ _ _ _ H Q I h=>Calls.spliced_nil ⟨[],H,I,.nil,h⟩
theorem Aa (ha:PE X e te)(hr:PA X es t)(hs:starEach (e::es) X.env=(false,eval e X.env)::starEach es X.env:=by rfl):PA X (e::es) (ox te t):=by
 intro pos pins s σ H Q I h
 rw[hs]
 show wpAny _ _ (spliced ((false,eval e X.env)::backTo pos (starEach es X.env))) _ _ s
 refine Calls.spliced_cons (thn (ha pins s σ H _ I h) λu s1 hz=>?_)
 obtain⟨x,H1,I1,r1,q1⟩:=hz
 exact thn (hr pos pins s1 σ H1 _ I1 q1) λus s2 ⟨xs,H2,I2,r2,q2⟩=>⟨x::xs,H2,I2,.cons r1 r2,q2⟩
def qi (t:TA):TE:=λσ H Q=>t σ H λxs H1=>xs.length<=sizeLine/\∀p,H1 p=none->Q (.ref p) (upd H1 p (.tup xs))
def qe (t:TA):TE:=λσ H Q=>t σ H λxs H1=>xs.length<=sizeLine/\∀p,H1 p=none->Q (.ref p) (upd H1 p (.lst xs))
theorem E3 {x1}(h:PA X es t):PE X (.Tuple es x1 pos) (qi t):=by
 intro pins s σ H Q I hq
 refine wpAny_Tuple_spliced (thn (h pos pins s σ H _ I hq) λus s1 ⟨xs,H1,I1,r,z,q⟩=>⟨by rw[←r.length];exact z,?_⟩)
 have hf:H1 s1.heap.objs.size=none:=I1.hok.fresh (tq _)
 refine⟨.ref s1.heap.objs.size,upd H1 s1.heap.objs.size (.tup xs),I1.laid (t':=s1.toks) (λb u e=>sj _ e) (tq _) ?_,rfl,q _ hf⟩
 exact⟨z,us,r,⟨_,t9 _ rfl,rfl,_,rfl⟩⟩
theorem Ef (h:PA X es t):PE X (.List es pos) (qe t):=by
 intro pins s σ H Q I hq
 refine wpAny_List_spliced (thn (h pos pins s σ H _ I hq) λus s1 ⟨xs,H1,I1,r,z,q⟩=>⟨by rw[←r.length];exact z,?_⟩)
 have hf:H1 s1.heap.objs.size=none:=I1.hok.fresh (tq _)
 refine⟨.ref s1.heap.objs.size,upd H1 s1.heap.objs.size (.lst xs),I1.laid (t':=s1.toks) (λb u e=>sj _ e) (tq _) ?_,rfl,q _ hf⟩
 exact⟨z,us,0,r,t9 _ rfl⟩
end
abbrev Sp:=List V->Hp->VK->XK->Prop
abbrev CXT:=List Env->Hp->Shared->XK->Value->Shared->Prop
structure Env0 (P:Program)(w:World)(K:W.Frag)(mg:Str->Option Value)(base:Heap)(A:Around)(outer:List Env)(s:Shared)(H:Hp):Prop where
 frames:A.frames=some outer
 mod:Mod K mg base
 bs:∀b o,base.get? b=some o->s.heap.get? b=some o/\H b=none
 bsz:base.objs.size<=s.heap.objs.size
 funs:s.heap.FunFrames base outer
 frf:∀b∈frs outer,H b=none
 hok:HOk P w H s.heap
 bare:AllBare s.gens
def CE (outer:List Env)(P:Program)(w:World)(H:Hp)(s:Shared)(Q:VK)(u:Value)(s':Shared):Prop:=
 ∃v H',s'.os=s.os/\AllBare s'.gens/\Un (frs outer) [] H H' s.heap s'.heap/\HOk P w H' s'.heap/\RelV v u/\Q v H'
def CR (CX:CXT)(outer:List Env)(P:Program)(w:World)(H:Hp)(s:Shared)(Q:VK)(E:XK)(r:Result)(s':Shared):Prop:=
 match r with
 | .ok (.ret u)=>CE outer P w H s Q u s'
 | .ok _=>False
 | .error e=>CX outer H s E e s'
structure FnOk (P:Program)(w:World)(K:W.Frag)(mg:Str->Option Value)(base:Heap)(CX:CXT)(cm:Bool)(k:Nat)(f:Addr)(fd:FuncData)(ps:List Str)(sp:Sp):Prop where
 len:∀vs H Q E,sp vs H Q E->vs.length=ps.length
 run:∀(A:Around)(outer:List Env)(s:Shared)(H:Hp)(args:Args)(us:List Value)(vs:List V)(Q:VK)(E:XK),Room cm k A->Env0 P w K mg base A outer s H->BindsTo s fd args (ps.zip us)->Vals vs us->sp vs H Q E->
  codeAny (model P w) A (.call (.ref f) args) (CR CX outer P w H s Q E) s
theorem FnOk.mono {cm:Bool}{P:Program}{w:World}{K:W.Frag}{mg:Str->Option Value}{base:Heap}{CX:CXT}{j k:Nat}{f:Addr}{fd:FuncData}{ps:List Str}{sp:Sp}(F:FnOk P w K mg base CX cm j f fd ps sp)(h:j<=k):
 FnOk P w K mg base CX cm k f fd ps sp:=⟨F.len,λA outer s H args us vs Q E hr=>F.run A outer s H args us vs Q E (hr.mono h)⟩
theorem Env0.make {P:Program}{w:World}{K:W.Frag}{mg:Str->Option Value}{base:Heap}{A:Around}{outer:List Env}{s:Shared}{H:Hp}(e:Env0 P w K mg base A outer s H)(C:Addr)(us:List Value)(kw:List (Str×Value)):
 Env0 P w K mg base (A.under (.builtin "type.__call__" ⟨.ref C::us,kw⟩)) outer s H:=⟨by first|exact e.frames|(simpa[Around.under,Code.envs,Code.isFrame,pushEnvs] using e.frames),e.mod,e.bs,e.bsz,e.funs,e.frf,e.hok,e.bare⟩
section
variable {X:Cx}{pins:List (Addr×Obj)}{σ:St}{H:Hp}{s s':Shared}
theorem Inv.env0 (I:Inv X pins σ H s):Env0 X.prog X.w X.K X.mg X.base X.A X.stack s H:=
 ⟨I.ok.frames,I.ok.mod,I.bs,uy I.ok.bsz I.sz,I.stack,I.stkFree,I.hok,I.bare⟩
theorem Inv.after {Q:VK}{u:Value}(I:Inv X pins σ H s)(h:CE X.stack X.prog X.w H s Q u s'):EP X pins σ Q u s':=by
 obtain⟨v,H',os,bare,un,hok,r,q⟩:=h
 obtain⟨hh,g,d,t,os'⟩:=s'
 obtain rfl:os'=s.os:=os
 exact⟨v,H',I.call (h':=hh) (g':=g) (d':=d) (t':=t) (ch:=[]) un hok bare (λb z=>absurd z (by simp)),r,q⟩
end
def o5 (sp:Sp)(dvs:List V)(E:XK)(t:TA):TE:=λσ H Q=>t σ H λvs H1=>sp (vs++dvs) H1 Q E
def k6 (C:Addr)(sp:Sp)(dvs:List V)(E:XK)(t:TA):TE:=λσ H Q=>t σ H λvs H1=>∀x dx,H1 x=none->H1 dx=none->dx≠x->
 sp (.ref x::(vs++dvs)) (upd (upd H1 dx (.own x)) x (.ins C dx [])) (λv H2=>v=.non/\Q (.ref x) H2) E
def Binds (K:W.Frag)(fd:FuncData)(ps:List Str)(ds:List Value):Prop:=
 ∀(s:Shared)(us:List Value),K.In s.heap->(us++ds).length=ps.length->BindsTo s fd ⟨us,[]⟩ (ps.zip (us++ds))
theorem Binds.all {K:W.Frag}{fd:FuncData}{ps:List Str}(h:∀us:List Value,us.length=ps.length->bindArgs fd ⟨us,[]⟩=pure (ps.zip us)):Binds K fd ps []:=λs us _ hl=>by
 rw[xg] at hl ⊢
 exact .of_eq (h us hl)
def Passes (CX:CXT)(X:Cx)(E:XK):Prop:=∀(pins:List (Addr×Obj))(σ:St)(H:Hp)(s:Shared)(e:Value)(s':Shared),Inv X pins σ H s->CX X.stack H s E e s'->X.xe e s'
section
variable {X:Cx}{CX:CXT}{cm:Bool}{k:Nat}{f C:Addr}{fd:FuncData}{ps:List Str}{sp:Sp}{dvs:List V}{ds:List Value}{E:XK}{x m:Str}{p pos apos:Pos}{e o:Expr}{es:List Expr}{ta:TE}{t:TA}
theorem Zl {pins:List (Addr×Obj)}{σ:St}{H:Hp}{s:Shared}{Q:VK}{us:List Value}{vs:List V}(F:FnOk X.prog X.w X.K X.mg X.base CX cm k f fd ps sp)(hr:Room cm k X.A)(hb:Binds X.K fd ps ds)(hd:Vals dvs ds)(hx:Passes CX X E)
  (I:Inv X pins σ H s) (r:Vals vs us) (h:sp (vs++dvs) H Q E):wpAny (model X.prog X.w) X.A (call (.ref f) us) (EP X pins σ Q) X.xe s:=by
 have r2:Vals (vs++dvs) (us++ds):=r.append hd
 have hl:(us++ds).length=ps.length:=by rw[←r2.length];exact F.len _ _ _ _ h
 refine wpAny_call (zl (F.run X.A X.stack s H ⟨us,[]⟩ (us++ds) (vs++dvs) Q E hr I.env0 (hb s us I.kIn hl) r2 h) λr s' hq=>?_)
 cases r with
 | error e=>exact hx pins σ H s e s' I hq
 |
  ok fl=>
  cases fl with
  | ret u=>exact I.after hq
  | next=>exact False.elim hq
  | brk=>exact False.elim hq
  | cont=>exact False.elim hq
theorem As (F:FnOk X.prog X.w X.K X.mg X.base CX cm k f fd ps sp)(hr:Room cm k X.A)(hg:Gl X x)(hm:X.mg x=some (.ref f))(hk:W.keepIn X.K (.ref f)=true)(hb:Binds X.K fd ps ds)(hd:Vals dvs ds)(hx:Passes CX X E)
  (ha:PA X (e::es) t) (hdb:(x==("__debug__":Str))=false:=by decide) (he:starEach (e::es) X.env=(false,eval e X.env)::starEach es X.env:=by rfl) (hpl:(backTo pos (starEach es X.env)).any (·.1)=false:=by rfl):
  PE X (.Call (.Name x p) (e::es) [] pos) (o5 sp dvs E t):=by
 intro pins s σ H Q I h
 refine zb (Lc I hg hm ?_ hdb)
 refine W.callWith_K (h₀:=X.base) I.ok.mod.kin hk (thn (ha pos pins s σ H _ I h) λus s1 ⟨vs,H1,I1,r,q⟩=>⟨I1.kIn,?_⟩) he hpl
 exact Zl F hr hb hd hx I1 r q
structure Mk (K:W.Frag)(C f:Addr):Prop where
 makes:W.makesIn K C=true
 init:W.findIn K (.ref C) "__init__"=some (some (.ref f))
 fn:W.isFn K (.ref f)=true
 kp:W.keepIn K (.ref C)=true
theorem U2 {pins:List (Addr×Obj)}{σ:St}{H:Hp}{s:Shared}{Q:VK}{us:List Value}{vs:List V}(M:Mk X.K C f)(F:FnOk X.prog X.w X.K X.mg X.base CX cm k f fd ps sp)(hr:Room cm (k+1) X.A)(hb:Binds X.K fd ps ds)(hd:Vals dvs ds)
  (hx:Passes CX X E) (I:Inv X pins σ H s) (r:Vals vs us)
  (h:∀x dx,H x=none->H dx=none->dx≠x->sp (.ref x::(vs++dvs)) (upd (upd H dx (.own x)) x (.ins C dx [])) (λv H2=>v=.non/\Q (.ref x) H2) E):
  wpAny (model X.prog X.w) X.A (call (.ref C) us) (EP X pins σ Q) X.xe s:=by
 have hq:=h (s.heap.objs.size+1) s.heap.objs.size (I.hok.fresh (y6 _)) (I.hok.fresh (tq _)) (ug (vt _))
 have I2:=Inv.made (C:=C) I
 have r2:Vals (V.ref (s.heap.objs.size+1)::(vs++dvs)) (Value.ref (s.heap.objs.size+1)::(us++ds)):=.cons rfl (r.append hd)
 have hl:(Value.ref (s.heap.objs.size+1)::us++ds).length=ps.length:=by
  have e:=r2.length
  rw[F.len _ _ _ _ hq] at e
  exact e.symm
 refine wpAny_call (cx (f:=f) I.kIn M.makes M.init (beq_iff_eq.mp M.fn) (zl (F.run _ X.stack _ _ ⟨Value.ref (s.heap.objs.size+1)::us,[]⟩ (Value.ref (s.heap.objs.size+1)::(us++ds)) _ _ E (hr.make C us [])
  (I2.env0.make C us []) (hb _ (Value.ref (s.heap.objs.size+1)::us) I2.kIn hl) r2 hq) λr s' hq'=>?_))
 cases r with
 | error e=>exact hx pins σ _ _ e s' I2 hq'
 |
  ok fl=>
  cases fl with
  |
   ret u=>
   obtain⟨v,H',I3,rv,ev,q3⟩:=I2.after hq'
   subst ev
   exact⟨rv,⟨V.ref (s.heap.objs.size+1),H',I3,rfl,q3⟩⟩
  | next=>exact False.elim hq'
  | brk=>exact False.elim hq'
  | cont=>exact False.elim hq'
theorem ie (M:Mk X.K C f)(F:FnOk X.prog X.w X.K X.mg X.base CX cm k f fd ps sp)(hr:Room cm (k+1) X.A)(hg:Gl X x)(hm:X.mg x=some (.ref C))(hb:Binds X.K fd ps ds)(hd:Vals dvs ds)(hx:Passes CX X E)
  (ha:PA X (e::es) t) (hdb:(x==("__debug__":Str))=false:=by decide) (he:starEach (e::es) X.env=(false,eval e X.env)::starEach es X.env:=by rfl) (hpl:(backTo pos (starEach es X.env)).any (·.1)=false:=by rfl):
  PE X (.Call (.Name x p) (e::es) [] pos) (k6 C sp dvs E t):=by
 intro pins s σ H Q I h
 refine zb (Lc I hg hm ?_ hdb)
 refine W.callWith_K (h₀:=X.base) I.ok.mod.kin M.kp (thn (ha pos pins s σ H _ I h) λus s1 ⟨vs,H1,I1,r,q⟩=>⟨I1.kIn,?_⟩) he hpl
 exact U2 M F hr hb hd hx I1 r q
theorem Vk (M:Mk X.K C f)(F:FnOk X.prog X.w X.K X.mg X.base CX cm k f fd ps sp)(hr:Room cm (k+1) X.A)(hg:Gl X x)(hm:X.mg x=some (.ref C))(hb:Binds X.K fd ps ds)(hd:Vals dvs ds)(hx:Passes CX X E)
  (hdb:(x==("__debug__":Str))=false:=by decide):PE X (.Call (.Name x p) [] [] pos) (k6 C sp dvs E qc):=by
 intro pins s σ H Q I h
 refine zb (Lc I hg hm ?_ hdb)
 exact W.callWith_K0 I.kIn M.kp (U2 (us:=[]) M F hr hb hd hx I .nil h)
end
section
variable {X:Cx}{CX:CXT}{cm:Bool}{k:Nat}{f C:Addr}{fd:FuncData}{ps ks:List Str}{sp:Sp}{E:XK}{x m:Str}{p pos apos kpos:Pos}{e o:Expr}{es:List Expr}{kws:List Keyword}{te ta:TE}{t tk:TA}{nm:Option Str}
variable {g:List Value->List Value->List Value}{gV:List V->List V->List V}
end
structure A3 (N P:List Str)(sc:Scope):Prop where
 kind:sc.kind=.function
 co:sc.isCoroutine=false
 gen:sc.isGenerator=false
 nd:N.Nodup
 pre:N.take P.length=P
 par:∀x∈P,sc.names.lookup x=some .local∨sc.names.lookup x=some .cell
 nofree:∀y∈sc.names,y.2≠ .free
theorem Sj {kindOf:Str->Option NameKind}{x:Str}:∀{binds:List (Str×Value)}{m:Str->Option Value},(∀v,(x,v)∉binds)->bindL kindOf binds m x=m x
 | [],_,_=>rfl
 |
  (n,v)::r,m,h=>by
  unfold bindL
  rw[Sj λw hw=>h w (sq _ hw)]
  split
  ·
   have:x≠n:=by rintro rfl;exact h v sk
   simp[this]
  · rfl
theorem Rm {kindOf:Str->Option NameKind}{x:Str}:∀{binds:List (Str×Value)}{m:Str->Option Value},(∀v,(x,v)∉binds)->bindC kindOf binds m x=m x
 | [],_,_=>rfl
 |
  (n,v)::r,m,h=>by
  unfold bindC
  rw[Rm λw hw=>h w (sq _ hw)]
  split
  · rfl
  ·
   have:x≠n:=by rintro rfl;exact h v sk
   simp[this]
theorem Qm {kindOf:Str->Option NameKind}{x:Str}{v:Value}:∀{P:List Str}{vs:List Value}{i:Nat}{m:Str->Option Value},P.Nodup->P[i]?=some x->vs[i]?=some v->kindOf x=some .local->
  bindL kindOf (P.zip vs) m x=some v
 | [],_,_,_,_,h,_,_=>by simp at h
 | _::_,[],_,_,_,_,h,_=>by simp at h
 |
  p::P,w::vs,0,m,nd,h1,h2,hk=>by
  simp at h1 h2;subst h1;subst h2
  show bindL kindOf ((p,w)::P.zip vs) m p=_
  unfold bindL
  rw[Sj λv hv=>(wt.mp nd).1 (List.of_mem_zip hv).1,if_pos hk]
  simp
 |
  p::P,w::vs,i+1,m,nd,h1,h2,hk=>by
  show bindL kindOf ((p,w)::P.zip vs) m x=_
  unfold bindL
  exact Qm (i:=i) (wt.mp nd).2 (by simpa using h1) (by simpa using h2) hk
theorem R9 {kindOf:Str->Option NameKind}{x:Str}{v:Value}:∀{P:List Str}{vs:List Value}{i:Nat}{m:Str->Option Value},P.Nodup->P[i]?=some x->vs[i]?=some v->kindOf x≠some .local->
  bindC kindOf (P.zip vs) m x=some v
 | [],_,_,_,_,h,_,_=>by simp at h
 | _::_,[],_,_,_,_,h,_=>by simp at h
 |
  p::P,w::vs,0,m,nd,h1,h2,hk=>by
  simp at h1 h2;subst h1;subst h2
  show bindC kindOf ((p,w)::P.zip vs) m p=_
  unfold bindC
  rw[Rm λv hv=>(wt.mp nd).1 (List.of_mem_zip hv).1,if_neg hk]
  simp
 |
  p::P,w::vs,i+1,m,nd,h1,h2,hk=>by
  show bindC kindOf ((p,w)::P.zip vs) m x=_
  unfold bindC
  exact R9 (i:=i) (wt.mp nd).2 (by simpa using h1) (by simpa using h2) hk
def start (N:List Str)(vs:List V):St:=vs.map some++List.replicate (N.length-vs.length) none
def Uz (CX:CXT)(cm:Bool)(P:Program)(w:World)(K:W.Frag)(mg:Str->Option Value)(base:Heap)(N:List Str)(qual:Str)(scope:Scope)(f:Addr)(cd:Value)(A:Around)(outer:List Env)(s:Shared)(H:Hp)(E:XK):Cx where
 prog:=P
 w:=w
 K:=K
 mg:=mg
 base:=base
 A:=A.deeper (envOfC qual scope s.heap.objs.size f cd)
 N:=N
 s₀:=s
 H₀:=H
 env:=envOfC qual scope s.heap.objs.size f cd
 outer:=outer
 stack:=envOfC qual scope s.heap.objs.size f cd::outer
 ex:=[]
 calm:=cm
 fn:=λ_=>true
 pn:=[]
 xe:=λe s'=>wpAny (model P w) (A.deeper (envOfC qual scope s.heap.objs.size f cd)) (leaving (envOfC qual scope s.heap.objs.size f cd) e) (λ_ s''=>CX outer H s E e s'') (λe' s''=>CX outer H s E e' s'') s'
theorem Vl {sc:Scope}{n:Nat}{x:Str}(h:sc.names.lookup x=some .cell):∃c,(cellsFrom n sc.names []).lookup x=some c:=by
 have q:=W.cellsFrom_some sc.names n [] (.inl h)
 exact Aaa.mp q
theorem Z8 {cm:Bool}{CX:CXT}{P:Program}{w:World}{K:W.Frag}{mg:Str->Option Value}{base:Heap}{N ps:List Str}{qual:Str}{scope:Scope}{f:Addr}{cd:Value}{A:Around}{outer:List Env}{s s1:Shared}{H:Hp}{E:XK}{us:List Value}{vs:List V}
  (S:A3 N ps scope) (hd:cm=true->A.handled=none) (e0:Env0 P w K mg base A outer s H) (hl:vs.length=ps.length) (r:Vals vs us)
  (x:InCallC s s.heap.objs.size (bindL (envOfC qual scope s.heap.objs.size f cd).kindOf (ps.zip us) λ_=>none) (cellsFrom (s.heap.objs.size+1) scope.names []) (bindC (envOfC qual scope s.heap.objs.size f cd).kindOf (ps.zip us) λ_=>none) s1):
  Inv (Uz CX cm P w K mg base N qual scope f cd A outer s H E) [] (start N vs) H s1:=by
 have hpl:ps.length<=N.length:=by have:=vi List.length S.pre;rw[ux] at this;lia
 obtain⟨h1,tk,rfl,hk⟩:=x.done
 have noA:∀b:Addr,b∉(Uz CX cm P w K mg base N qual scope f cd A outer s H E).ex:=λb z=>absurd (show b∈([]:List Addr) from z) (by simp)
 refine⟨⟨e0.mod,S.kind,rfl,rfl,tq _,λy z c h1 h2=>?_,λy hy=>?_,λy c _ h=>?_,hd,Around.frames_deeper e0.frames,.inr ⟨rfl,rfl⟩,λb z=>absurd z (noA b),e0.bs,e0.bsz,λb _ _=>noA b,λb z=>absurd z (noA b),e0.funs,e0.frf⟩,
  rfl,e0.bare,Un.kept hk,⟨_,x.toInCall.ns,λi y v h1 h2 h3=>?_⟩,λy c h=>⟨_,x.cell y c h⟩,e0.hok.fresh (tq _),λy c h=>?_,λp hp=>absurd (show p∈([]:List (Addr×Obj)) from hp) (by simp),e0.hok.kept hk,?_⟩
 · exact name_of_addr x.apart (yn h1) (yn h2)
 ·
  have hy:scope.names.lookup y=some .cell∨scope.names.lookup y=some .free:=hy
  rcases hy with hy|hy
  · exact Vl hy
  · exact absurd rfl (S.nofree _ (yn hy))
 · exact zc (x.above y c (yn h))
 ·
  have hi:i<vs.length:=by
   unfold start at h2
   by_cases hi:i<vs.length
   · exact hi
   ·
    rw[ye (by simpa using hi)] at h2
    rw[List.getElem?_replicate] at h2
    split at h2<;>cases h2
  have ha:vs[i]?=some v:=by
   unfold start at h2
   rw[yk (by simpa using hi),ur] at h2
   cases e:vs[i]? with
   | none=>rw[e] at h2;cases h2
   | some a=>rw[e] at h2;cases h2;rfl
  obtain⟨u,hu,rv⟩:=r.get ha
  have hp:ps[i]?=some y:=by
   rw[←S.pre,Aac (by lia)];exact h1
  have ndP:ps.Nodup:=by rw[←S.pre];exact S.nd.sublist (Abb _ _)
  refine⟨u,rv,?_⟩
  rcases S.par y (uz hp) with k|k
  · exact .inl ⟨k,Qm ndP hp hu k⟩
  ·
   obtain⟨c,e⟩:=Vl (n:=s.heap.objs.size+1) k
   refine .inr ⟨.inl k,c,e,?_⟩
   have q:=x.cell y c e
   rw[R9 ndP hp hu (by show scope.names.lookup y≠_;rw[k];decide)] at q
   exact q
 · exact e0.hok.fresh (zc (x.above y c (yn h)))
 ·
  unfold start
  show _=N.length
  rw[ue,sf,List.length_replicate]
  lia
theorem ll {cm:Bool}{CX:CXT}{P:Program}{w:World}{K:W.Frag}{mg:Str->Option Value}{base:Heap}{k:Nat}{f:Addr}{name qual:Str}{params:Arguments}{body:List Stmt}{scope:Scope}{dV kV doc pm cdv ct oc:Value}{an od:Option Addr}
  {osl:Array (Option Value)} {N ps:List Str} {sp:Sp} (lk:K.lookup f=some ⟨oc,od,.func (W.fnOf name qual params body scope dV kV doc pm an cdv ct),osl⟩) (hcd:W.codeIn K cdv qual=true) (S:A3 N ps scope)
  (len:∀vs H Q E,sp vs H Q E->vs.length=ps.length)
  (hbody:∀(A:Around)(outer:List Env)(s:Shared)(H:Hp)(vs:List V)(Q:VK)(E:XK),Room cm k (A.deeper (envOfC qual scope s.heap.objs.size f cdv))->sp vs H Q E->
   ∃t,PSs (Uz CX cm P w K mg base N qual scope f cdv A outer s H E) body t/\t {nx:=λ_ H'=>Q .non H',rt:=λ_=>Q} (start N vs) H):
  FnOk P w K mg base CX cm (k+1) f (W.fnOf name qual params body scope dV kV doc pm an cdv ct) ps sp:=by
 refine⟨len,λA outer s H args us vs Q E hr e0 hb r hsp=>?_⟩
 have hl:=len _ _ _ _ hsp
 have KX:K.In s.heap:=e0.mod.kin.keeps λb o e=>(e0.bs b o e).1
 have lim:s.heap.NoLimit:=e0.mod.nolimit.keeps λb o e=>(e0.bs b o e).1
 have hkind:∀y∈ps.zip us,scope.names.lookup y.1=some .local∨(scope.names.lookup y.1=some .cell/\((cellsFrom (s.heap.objs.size+1) scope.names []).lookup y.1).isSome=true):=λ⟨n,v⟩ hy=>by
  rcases S.par n (List.of_mem_zip hy).1 with q|q
  · exact .inl q
  · exact .inr ⟨q,W.cellsFrom_some _ _ _ (.inl q)⟩
 refine codeAny_call_function hr.depth (KX _ _ lk) rfl S.co S.gen rfl (W.codeRec_of KX hcd) (hb _ _ _ _ ?_)
 refine wpAny_newFunctionEnv_cells S.kind hkind λenv he s1 x=>?_
 subst he
 refine⟨lim.keeps x.toInCall.keep,codeAny_func ?_⟩
 obtain⟨t,ht,hq⟩:=hbody A outer s H vs Q E (hr.deeper _) hsp
 have I:Inv (Uz CX cm P w K mg base N qual scope f cdv A outer s H E) [] (start N vs) H s1:=Z8 S hr.hd e0 hl r x
 refine wu (ht [] s1 (start N vs) H _ I hq) (λfl s' hs=>?_) λe s' hs=>hs
 have fin:∀{σ':St}{H':Hp}{v:V}{u:Value},Inv (Uz CX cm P w K mg base N qual scope f cdv A outer s H E) [] σ' H' s'->RelV v u->Q v H'->CE outer P w H s Q u s':=
  λ{σ' H' v u}J rv q=>⟨v,H',J.os,J.bare,J.base,J.hok,rv,q⟩
 cases fl with
 |
  ret u=>
  obtain⟨v,σ',H',J,rv,q⟩:=hs
  exact fin J rv q
 |
  next=>
  obtain⟨σ',H',J,q⟩:=hs
  exact fin (v:=V.non) (u:=Value.none) J rfl q
 |
  brk=>
  obtain⟨_,_,_,q⟩:=hs
  exact False.elim q
 |
  cont=>
  obtain⟨_,_,_,q⟩:=hs
  exact False.elim q
section
variable {X:Cx}{x:Str}{p pos:Pos}{e:Expr}{es:List Expr}{t:TA}{id T:String}{r:List V->Hp->VK->Prop}
def tCB (r:List V->Hp->VK->Prop)(t:TA):TE:=λσ H Q=>t σ H λvs H1=>r vs H1 Q
theorem An (hc:Gd X (.builtin id) r)(hg:Gl X x)(hm:X.mg x=none)(hv:bootBuiltins x=some (.builtin id))(ha:PA X (e::es) t)(hn:x≠"__name__":=by decide)(hdb:(x==("__debug__":Str))=false:=by decide)
  (he:starEach (e::es) X.env=(false,eval e X.env)::starEach es X.env:=by rfl) (hpl:(backTo pos (starEach es X.env)).any (·.1)=false:=by rfl):PE X (.Call (.Name x p) (e::es) [] pos) (tCB r t):=by
 intro pins s σ H Q I h
 refine zb (U5 I hg hm hv ?_ hn hdb)
 exact PyProof.Rows.callWith_builtin1 (thn (ha pos pins s σ H _ I h) λus s1 ⟨vs,H1,I1,r1,q1⟩=>hc pins s1 σ H1 vs us Q I1 r1 q1) he hpl
theorem Bh (hc:Gd X (.type T) r)(hg:Gl X x)(hm:X.mg x=none)(hv:bootBuiltins x=some (.type T))(ha:PA X (e::es) t)(hn:x≠"__name__":=by decide)(hdb:(x==("__debug__":Str))=false:=by decide)
  (he:starEach (e::es) X.env=(false,eval e X.env)::starEach es X.env:=by rfl) (hpl:(backTo pos (starEach es X.env)).any (·.1)=false:=by rfl):PE X (.Call (.Name x p) (e::es) [] pos) (tCB r t):=by
 intro pins s σ H Q I h
 refine zb (U5 I hg hm hv ?_ hn hdb)
 exact PyProof.Rows.callWith_type1 (thn (ha pos pins s σ H _ I h) λus s1 ⟨vs,H1,I1,r1,q1⟩=>hc pins s1 σ H1 vs us Q I1 r1 q1) he hpl
end
end L2
namespace HT
open PySem PyProof.Rows
section
open PySem.SeqAt
open PySem.AutoSeq1 (wpAny_loadPart')
open PySem.MeetsSeq PySem.MeetsSeq2 PySem.MeetsSeq3
end
section
variable {prog:Program}{w:World}{A:Around}{E:Value->Shared->Prop}{s:Shared}
def sIx (n d:Nat):Option Int->Nat
 | none=>d
 | some v=>if v<0 then(v+(n:Int)).toNat else min v.toNat n
theorem ko (n d:Nat)(hd:d<=n)(o:Option Int):sIx n d o<=n:=by
 cases o with
 | none=>exact hd
 |
  some v=>
  show(if v<0 then(v+(n:Int)).toNat else min v.toNat n)<=n
  by_cases hv:v<0
  · rw[if_pos hv];lia
  · rw[if_neg hv];exact Nat.min_le_right _ _
theorem Y1 (v:Int)(n d:Nat):(if v<0 then max (v+(n:Int)) 0 else min v (n:Int))=((sIx n d (some v):Nat):Int):=by
 show(if v<0 then max (v+(n:Int)) 0 else min v (n:Int))=(((if v<0 then(v+(n:Int)).toNat else min v.toNat n):Nat):Int)
 by_cases hv:v<0
 · simp only[if_pos hv];lia
 · simp only[if_neg hv];lia
theorem Wr (lo hi:Option Int)(n:Nat):Builtin.Slice.sliceAdjust lo hi 1 (n:Int)=(((sIx n 0 lo:Nat):Int),((sIx n n hi:Nat):Int)):=by
 have h1:¬((1:Int)<0):=by lia
 unfold Builtin.Slice.sliceAdjust
 simp only[h1,xu]
 refine Prod.ext ?_ ?_
 ·
  cases lo with
  | none=>rfl
  | some v=>exact Y1 v n 0
 ·
  cases hi with
  | none=>rfl
  | some v=>exact Y1 v n n
theorem Xa (i j:Nat):Builtin.Slice.slicePlaces (i:Int) (j:Int) 1=j-i:=by
 unfold Builtin.Slice.slicePlaces
 have h1:(1:Int)>0:=by lia
 simp only[h1,Aao,Int.ediv_one]
 split<;>lia
theorem Og {v:Value}{o:Option Int}{Q:Option Int->Shared->Prop}(p:IsPart v o)(h:Q o s):wpAny (model prog w) A (Builtin.Slice.slicePartIndex v) Q E s:=by
 cases p with
 | none=>exact slicePart_none h
 | int i t=>exact slicePart_int h
theorem Mf {sl:Addr}{vl vu:Value}{lo hi:Option Int}{n:Nat}{Q:Int×Int×Nat->Shared->Prop}(hs:s.heap.IsSliceOf sl vl vu .none)(pl:IsPart vl lo)(pu:IsPart vu hi)
  (h:Q (((sIx n 0 lo:Nat):Int),1,sIx n n hi-sIx n 0 lo) s):wpAny (model prog w) A (Builtin.Slice.sliceApplied (.ref sl) (pure (n:Int))) Q E s:=by
 obtain⟨os,hos,hcs,hds⟩:=id hs
 unfold Builtin.Slice.sliceApplied Builtin.Slice.sliceFields
 refine se (se (wpAny_field hos hds (x:=vl) rfl (se (wpAny_field hos hds (x:=vu) rfl (se (wpAny_field hos hds (x:=.none) rfl (si ?_)))))))
 refine se (slicePart_none ?_)
 show wpAny _ _ (if((1:Int)==0)=true then _ else _) _ _ s
 rw[if_neg (by decide)]
 refine se (Og pl (se (Og pu (se (si ?_)))))
 show wpAny _ _ (match Builtin.Slice.sliceAdjust lo hi 1 (n:Int) with|(lo,hi)=>pure (lo,(1:Int),Builtin.Slice.slicePlaces lo hi 1)) _ _ s
 rw[Wr lo hi n]
 show wpAny _ _ (pure (((sIx n 0 lo:Nat):Int),(1:Int),Builtin.Slice.slicePlaces ((sIx n 0 lo:Nat):Int) ((sIx n n hi:Nat):Int) 1)) _ _ s
 rw[Xa]
 exact si h
theorem b7 (xs:Array Value)(i k:Nat):((List.range k).filterMap λ(m:Nat)=>xs[((i:Int)+(m:Int)*1).toNat]?).toArray=((xs.toList.drop i).take k).toArray:=by
 have e:(λ(m:Nat)=>xs[((i:Int)+(m:Int)*1).toNat]?)=λm=>xs[i+m]?:=by
  funext m
  have:((i:Int)+(m:Int)*1).toNat=i+m:=by lia
  rw[this]
 rw[e]
 have:=pick_run xs i k
 rw[List.filterMap_map] at this
 have e2:((λx=>xs[x]?)∘ λx=>i+x)=λm=>xs[i+m]?:=rfl
 rw[e2] at this
 rw[this]
theorem Lb {t sl:Addr}{items:Array Value}{vl vu:Value}{lo hi:Option Int}{Q:Value->Shared->Prop}(ht:IsTup s.heap t items)(hs:s.heap.IsSliceOf sl vl vu .none)(pl:IsPart vl lo)(pu:IsPart vu hi)
  (hw:¬(sIx items.size 0 lo=0/\sIx items.size items.size hi=items.size))
  (h:Q (.ref s.heap.objs.size) {s with heap:=s.heap.push {cls:=.type "tuple",data:=.seq ((items.toList.drop (sIx items.size 0 lo)).take (sIx items.size items.size hi-sIx items.size 0 lo)).toArray}})
  (hsz:items.size<=sizeLine):wpAny (model prog w) A (getItem (.ref t) (.ref sl)) Q E s:=by
 have htake:sizeOk (.seq ((items.toList.drop (sIx items.size 0 lo)).take (sIx items.size items.size hi-sIx items.size 0 lo)).toArray):=by
  show((items.toList.drop (sIx items.size 0 lo)).take (sIx items.size items.size hi-sIx items.size 0 lo)).toArray.size<=sizeLine
  rw[su,ux,vy,sv]
  lia
 have hj:sIx items.size items.size hi<=items.size:=ko _ _ (tq _) hi
 obtain⟨os,hos,hcs,hds⟩:=id hs
 have hTs:s.TypeIs (.ref sl) "slice":=⟨os,hos,hcs⟩
 unfold getItem
 try with_reducible refine vn ?_
 first|refine se (si ?_)|skip
 refine se (wpAny_sequenceKey ht.typeIs (by decide) ?_)
 refine se (wpAny_callSpecial?_slot (name:=Str.ofString "__getitem__") ht.typeIs PyProof.Rows.slot_tuple_getitem
  (vj PyProof.Rows.slot_tuple_getitem ht.typeIs entry_tuple_getitem ?_ (args_tuple_getitem _ _)))
 show wpAny _ _ (Builtin.Tuple.tupleItemsOf (.ref t)>>=_) _ _ s
 refine se (tupleItemsOf_ ht ?_)
 refine se (Aa1 hTs ?_)
 rw[if_pos (by decide)]
 refine se (Mf hs pl pu ?_)
 have hno:¬((((sIx items.size 0 lo:Nat):Int)==0&&(1:Int)==1&&(sIx items.size items.size hi-sIx items.size 0 lo)==items.size)=true):=by
  intro q
  rw[vh,vh] at q
  have q1:((sIx items.size 0 lo:Nat):Int)=0:=eq_of_beq q.1.1
  have q2:sIx items.size items.size hi-sIx items.size 0 lo=items.size:=eq_of_beq q.2
  exact hw ⟨by lia,by lia⟩
 show wpAny _ _ (if(((sIx items.size 0 lo:Nat):Int)==0&&(1:Int)==1&&(sIx items.size items.size hi-sIx items.size 0 lo)==items.size)=true then _ else _) _ _ s
 rw[if_neg hno,b7]
 first
  | exact se (m:=Builtin.Tuple.tupleExact _) (wd (si ⟨_,rfl,si h⟩) htake)
  | exact se (m:=Builtin.Tuple.tupleExact _) (wd (se (si (si ⟨_,rfl,si h⟩))) htake)
  | exact se (se (m:=Builtin.Tuple.tupleExact _) (wd (si (si ⟨_,rfl,si h⟩)) htake))
  | exact se (se (m:=Builtin.Tuple.tupleExact _) (wd (si ⟨_,rfl,si h⟩) htake))
end
end HT
namespace L2
open PySem PySem.Spec PyProof.Rows
abbrev TO:=St->Hp->(Option Int->Hp->Prop)->Prop
def PO (X:Cx)(e:Option Expr)(t:TO):Prop:=
 ∀(pins:List (Addr×Obj))(s:Shared)(σ:St)(H:Hp)(Q:Option Int->Hp->Prop),Inv X pins σ H s->t σ H Q->
  wpAny (model X.prog X.w) X.A (evalPart e X.env) (λu s'=>∃o H',Inv X pins σ H' s'/\IsPart u o/\Q o H') X.xe s
def gz:TO:=λ_ H Q=>Q none H
def mr (t:TE):TO:=λσ H Q=>t σ H λx H1=>∃i,x=.int i/\Q (some i) H1
section
variable {X:Cx}{e:Expr}{te:TE}{lo hi:Option Expr}{tl th:TO}{pos p2:Pos}
theorem Mt:PO X none gz:=by
 intro pins s σ H Q I h
 rw[evalPart_none]
 exact si ⟨none,H,I,.none,h⟩
theorem Jx (h:PE X e te):PO X (some e) (mr te):=by
 intro pins s σ H Q I hw
 rw[evalPart_some]
 refine thn (h pins s σ H _ I hw) λu s1 hz=>?_
 obtain⟨x,H1,I1,r1,q1⟩:=hz
 obtain⟨i,rfl,q⟩:=q1
 obtain⟨t,rfl⟩:=r1
 exact⟨some i,H1,I1,.int i t,q⟩
def SlR (X:Cx)(r:V->Option Int->Option Int->Hp->VK->Prop):Prop:=
 ∀(pins:List (Addr×Obj))(s:Shared)(σ:St)(H:Hp)(x:V)(v vl vu:Value)(lo hi:Option Int)(sl:Addr)(Q:VK),Inv X pins σ H s->RelV x v->s.heap.IsSliceOf sl vl vu .none->IsPart vl lo->IsPart vu hi->r x lo hi H Q->
  ∃T id,typeLookup (.type T) "__getitem__"=pure (some (.builtin id))/\s.TypeIs v T/\wpAny (model X.prog X.w) X.A (getItem v (.ref sl)) (EP X pins σ Q) X.xe s
def tSl (r:V->Option Int->Option Int->Hp->VK->Prop)(te:TE)(tl th:TO):TE:=λσ H Q=>te σ H λx H1=>tl σ H1 λl H2=>th σ H2 λu H3=>r x l u H3 Q
theorem Jm {r:V->Option Int->Option Int->Hp->VK->Prop}(hr:SlR X r)(he:PE X e te)(hl:PO X lo tl)(hu:PO X hi th):PE X (.Subscript e (.Slice lo hi none p2) pos) (tSl r te tl th):=by
 intro pins s σ H Q I h
 refine Subscript_ (thn (he pins s σ H _ I h) λv s1 hz=>?_)
 obtain⟨x,H1,I1,r1,q1⟩:=hz
 refine wpAny_Slice (thn (hl pins s1 σ H1 _ I1 q1) λvl s2 ⟨l,H2,I2,pl,q2⟩=>thn (hu pins s2 σ H2 _ I2 q2) λvu s3 hz=>?_)
 obtain⟨u,H3,I3,pu,q3⟩:=hz
 rw[evalPart_none]
 refine si ?_
 have I4:Inv X pins σ H3 {s3 with heap:=s3.heap.push {cls:=.type "slice",data:=.fields #[vl,vu,.none]}}:=I3.kept (t':=s3.toks) λb ob q=>sj _ q
 obtain⟨T,id,hT,ht,hg⟩:=hr pins {s3 with heap:=s3.heap.push {cls:=.type "slice",data:=.fields #[vl,vu,.none]}} σ H3 x v vl vu l u s3.heap.objs.size Q I4 r1 (Heap.IsSliceOf.new ..) pl pu q3
 show wpAny (model X.prog X.w) X.A (subscriptTail e (.Slice lo hi none p2) v (.ref s3.heap.objs.size)) (EP X pins σ Q) X.xe {s3 with heap:=s3.heap.push {cls:=.type "slice",data:=.fields #[vl,vu,.none]}}
 exact tail_any (ops:=[.ref s3.heap.objs.size,v]) ht hT hg (by with_unfolding_all rfl)
def a8 (xs:List V)(lo hi:Option Int):List V:=(xs.drop (HT.sIx xs.length 0 lo)).take (HT.sIx xs.length xs.length hi-HT.sIx xs.length 0 lo)
theorem My (xs:List V)(lo hi:Option Int):(a8 xs lo hi).length<=xs.length:=by
 unfold a8
 rw[ux,vy]
 lia
def o9 (K:W.Frag):V->Option Int->Option Int->Hp->VK->Prop:=λx lo hi H Q=>∃a xs,x=.ref a/\SqT K H a xs/\
 ¬(HT.sIx xs.length 0 lo=0/\HT.sIx xs.length xs.length hi=xs.length)/\∀p,H p=none->Q (.ref p) (upd H p (.tup (a8 xs lo hi)))
theorem jn:SlR X (o9 X.K):=by
 intro pins s σ H x v vl vu lo hi sl Q I rx hs pl pu h
 obtain⟨a,xs,rfl,hx,hw,q⟩:=h
 cases rx
 obtain⟨its,r,ht,hz⟩:=I.tuple hx
 have hlen:its.toArray.size=xs.length:=by rw[su];exact r.length.symm
 refine⟨"tuple",_,PyProof.Rows.slot_tuple_getitem.lookup,ht.typeIs,?_⟩
 refine HT.Lb ht hs pl pu (by rw[hlen];exact hw) ?_ (by rw[hlen];exact hz)
 rw[hlen]
 refine⟨.ref s.heap.objs.size,_,I.laid (t':=s.toks) (o:=.tup (a8 xs lo hi)) (λb ob q=>sj _ q) (tq _) ?_,rfl,q _ (I.hok.fresh (tq _))⟩
 exact⟨uy (My xs lo hi) hz,_,(r.drop (HT.sIx xs.length 0 lo)).take (HT.sIx xs.length xs.length hi-HT.sIx xs.length 0 lo),IsTup.new _ _⟩
end
def ixN (n:Nat)(i:Int):Option Nat:=if 0<=i then(if i<n then some i.toNat else none) else if-(n:Int)<=i then some (i+n).toNat else none
def atI {α:Type}(xs:List α)(i:Int):Option α:=(ixN xs.length i).bind λj=>xs[j]?
theorem Yn {n:Nat}{i:Int}{j:Nat}(h:ixN n i=some j):seqIndex? i n=some j/\j<n/\ -(n:Int)<=i/\i<n:=by
 unfold ixN at h
 by_cases h0:0<=i
 ·
  rw[if_pos h0] at h
  by_cases h1:i<n
  ·
   rw[if_pos h1] at h
   have e:i.toNat=j:=sy h
   exact⟨by rw[seqIndex_of h0 h1,e],by lia,by lia,h1⟩
  · rw[if_neg h1] at h;cases h
 ·
  rw[if_neg h0] at h
  by_cases h1: -(n:Int)<=i
  ·
   rw[if_pos h1] at h
   have e:(i+n).toNat=j:=sy h
   exact⟨by rw[seqIndex_neg (by lia) h1,e],by lia,h1,by lia⟩
  · rw[if_neg h1] at h;cases h
theorem Sw {α:Type}{xs:List α}{i:Int}{v:α}(h:atI xs i=some v):∃j,seqIndex? i xs.length=some j/\xs[j]?=some v/\j<xs.length/\ -(xs.length:Int)<=i/\i<xs.length:=by
 unfold atI at h
 cases e:ixN xs.length i with
 | none=>rw[e] at h;cases h
 |
  some j=>
  rw[e] at h
  obtain⟨h1,h2,h3,h4⟩:=Yn e
  exact⟨j,h1,h,h2,h3,h4⟩
theorem Dv {α:Type}{xs:List α}{j:Nat}{v:α}(h:xs[j]?=some v):atI xs (j:Int)=some v:=by
 have hj:j<xs.length:=(t8.mp h).1
 have e:ixN xs.length (j:Int)=some j:=by
  unfold ixN
  rw[if_pos (by lia),if_pos (by lia)];simp
 unfold atI;rw[e];exact h
theorem ck {α:Type}(xs:List α)(v:α):atI (xs++[v]) (-1)=some v:=by
 have hl:(xs++[v]).length=xs.length+1:=by simp
 have e:ixN (xs++[v]).length (-1)=some xs.length:=by
  unfold ixN
  rw[hl,if_neg (by decide),if_pos (by lia)]
  congr 1
  lia
 unfold atI
 rw[e]
 show(xs++[v])[xs.length]?=some v
 simp
def gq (b:Expr):Prop:=∀o i,subscripted b false o i=operate [o,i] (getItem o i)
def IxR (X:Cx)(r:R2):Prop:=
 ∀(value slice:Expr)(pins:List (Addr×Obj))(s:Shared)(σ:St)(H:Hp)(x y:V)(v u:Value)(Q:VK),Inv X pins σ H s->RelV x v->RelV y u->r x y H Q->
  subscripted slice false v u=operate [v,u] (getItem v u)->wpAny (model X.prog X.w) X.A (subscriptTail value slice v u) (EP X pins σ Q) X.xe s
def MtR (X:Cx)(id:String)(r:V->List V->Hp->VK->Prop):Prop:=
 ∀(pins:List (Addr×Obj))(s:Shared)(σ:St)(H:Hp)(x:V)(xs:List V)(v:Value)(us:List Value)(Q:VK),Inv X pins σ H s->RelV x v->Vals xs us->r x xs H Q->
  wpAny (model X.prog X.w) X.A (call (.builtin id) (v::us)) (EP X pins σ Q) X.xe s
section
variable {X:Cx}{a b:Expr}{ta tb:TE}{pos:Pos}
theorem A7 {r:R2}(hr:IxR X r)(ha:PE X a ta)(hb:PE X b tb)(hs:gq b):PE X (.Subscript a b pos) (tOp r ta tb):=by
 intro pins s σ H Q I h
 exact Subscript_ (oy ha hb I h λv u s2 x y H2 I2 rx ry q=>hr a b pins s2 σ H2 x y v u Q I2 rx ry q (hs _ _))
def p5 (K:W.Frag):R2:=λx y H Q=>∃p xs i v,x=.ref p/\y=.int i/\SqL K H p xs/\atI xs i=some v/\Q v H
def p7 (K:W.Frag):R2:=λx y H Q=>∃p xs i v,x=.ref p/\y=.int i/\SqT K H p xs/\atI xs i=some v/\Q v H
def rd:R2:=λx y H Q=>∃z i c,x=.str z/\y=.int i/\z.length<=sizeLine/\atI z.cps.toList i=some c/\Q (.str ⟨#[c]⟩) H
theorem gu:IxR X (p5 X.K):=by
 intro value slice pins s σ H x y v u Q I rx ry h hs
 obtain⟨p,xs,i,z,rfl,rfl,hq,he,q⟩:=h
 cases rx
 obtain⟨t,rfl⟩:=ry
 obtain⟨its,r,pl,hz⟩:=I.list hq
 obtain⟨j,h1,h2,h3,h4,h5⟩:=Sw he
 obtain⟨w,ew,rw'⟩:=r.get h2
 have hl:=r.length
 have hn:=M6
 have fin:EP X pins σ Q w s:=⟨z,H,I,rw',q⟩
 by_cases h0:0<=i
 ·
  have hj:i.toNat=j:=by
   rw[seqIndex_of h0 h5] at h1
   exact sy h1
  exact item_listR pl.isList h0 (by lia) (by rw[hj];simpa using ew) fin hs
 ·
  have hj:(i+(its.toArray.size:Int)).toNat=j:=by
   rw[seqIndex_neg (by lia) h4] at h1
   rw[su,←hl]
   exact sy h1
  exact subscriptTail_builtinR (x:=w) pl.isList.typeIs slot_list_getitem.lookup
   (wpAny_getItem_list_neg (Q:=λr s'=>r=w/\EP X pins σ Q r s') pl.isList (by lia) (by rw[su]<;>lia) (by lia) (by rw[hj];simpa using ew) ⟨rfl,fin⟩) hs
theorem md:IxR X (p7 X.K):=by
 intro value slice pins s σ H x y v u Q I rx ry h hs
 obtain⟨p,xs,i,z,rfl,rfl,hq,he,q⟩:=h
 cases rx
 obtain⟨t,rfl⟩:=ry
 obtain⟨its,r,pl,hz⟩:=I.tuple hq
 obtain⟨j,h1,h2,h3,h4,h5⟩:=Sw he
 obtain⟨w,ew,rw'⟩:=r.get h2
 have hl:=r.length
 have hn:=M6
 have fin:EP X pins σ Q w s:=⟨z,H,I,rw',q⟩
 exact subscriptTail_builtinR (x:=w) pl.typeIs slot_tuple_getitem.lookup
  (getItem_tuple (j:=j) (Q:=λr s'=>r=w/\EP X pins σ Q r s') pl (by lia) (by lia) (by rw[su,←hl];exact h1) (by simpa using ew) ⟨rfl,fin⟩) hs
theorem Vu:IxR X rd:=by
 intro value slice pins s σ H x y v u Q I rx ry h hs
 obtain⟨z,i,c,rfl,rfl,hz,he,q⟩:=h
 obtain⟨t,rfl⟩:=rx
 obtain⟨t',rfl⟩:=ry
 obtain⟨j,h1,h2,h3,h4,h5⟩:=Sw he
 have hl:z.cps.toList.length=z.length:=by simp[Str.length]
 rw[hl] at h1 h4 h5
 have hn:=M6
 exact tail_any (typeIs_str s z t) slot_str_getitem.lookup (getItem_str (c:=c) (by
  have e1:decide (i< -(2 ^ 63:Int))=false:=ua (by lia)
  have e2:decide (i≥2 ^ 63)=false:=ua (by lia)
  rw[e1,e2,Bool.or_false]) (by rw[h1];simpa using h2) ⟨.str ⟨#[c]⟩,H,I.tok _,⟨_,rfl⟩,q⟩) hs
theorem Xe (its:List Value)(n j:Nat)(u:Value):Obj.mapSeq (·.setIfInBounds j u) {cls:=.type "list",data:=.seq its.toArray n}={cls:=.type "list",data:=.seq (its.set j u).toArray n}:=by
 simp[Obj.mapSeq]
theorem Inv.lst {pins:List (Addr×Obj)}{σ:St}{H:Hp}{s:Shared}{p:Addr}{xs:List V}(I:Inv X pins σ H s)(h:H p=some (.lst xs)):
  ∃(its:List Value)(n:Nat),Vals xs its/\s.heap.get? p=some {cls:=.type "list",data:=.seq its.toArray n}/\xs.length<=sizeLine:=by
 obtain⟨z,its,n,r,e⟩:=I.hok p _ h
 exact⟨its,n,r,e,z⟩
theorem Inv.lstUpd {pins:List (Addr×Obj)}{σ:St}{H:Hp}{s:Shared}{p:Addr}{xs ys:List V}{its its':List Value}{n n':Nat}{f:Obj->Obj}(I:Inv X pins σ H s)(h:H p=some (.lst xs))
  (ho:s.heap.get? p=some {cls:=.type "list",data:=.seq its.toArray n}) (hf:f {cls:=.type "list",data:=.seq its.toArray n}={cls:=.type "list",data:=.seq its'.toArray n'}) (r:Vals ys its') (hz:ys.length<=sizeLine) (t:Nat):
  Inv X pins σ (upd H p (.lst ys)) {s with heap:=s.heap.update p f,toks:=t}:=by
 have e:(s.heap.update p f).get? p=some {cls:=.type "list",data:=.seq its'.toArray n'}:=by
  rw[we f ho (by rw[hf]<;>rfl),hf]
 refine I.write (x:=p) (e:=p) (by rw[h];trivial) (.inl rfl) (λb u hb q=>(zh _ _ (zg hb)).trans q) ⟨_,e⟩ ?_
 exact⟨hz,its',n',r,e⟩
def nu:V->V->V->Hp->(Hp->Prop)->Prop:=λo i v H Q=>∃p xs k j,o=.ref p/\i=.int k/\H p=some (.lst xs)/\ixN xs.length k=some j/\Q (upd H p (.lst (xs.set j v)))
theorem set_list:pe X nu:=by
 intro pins s σ H o i v ov iv u Q I ro ri rv h
 obtain⟨p,xs,k,j,rfl,rfl,hp,hj,q⟩:=h
 cases ro
 obtain⟨t,rfl⟩:=ri
 obtain⟨its,n,r,ho,hz⟩:=I.lst hp
 obtain⟨h1,h2,h3,h4⟩:=Yn hj
 have hl:=r.length
 have hn:=M6
 have I':Inv X pins σ (upd H p (.lst (xs.set j v))) {s with heap:=s.heap.update p (Obj.mapSeq (·.setIfInBounds j u))}:=
  I.lstUpd hp ho (Xe its n j u) (r.set rv j) (by rw[List.length_set];exact hz) s.toks
 by_cases h0:0<=k
 ·
  have hk:k.toNat=j:=by
   rw[seqIndex_of h0 h4] at h1
   exact sy h1
  exact W.ki_setAt ho h0 (by lia) (by rw[su,←hl];exact h4) (by rw[hk];exact⟨_,I',q⟩)
 ·
  have hk:(k+(its.toArray.size:Int)).toNat=j:=by
   rw[seqIndex_neg (by lia) h3] at h1
   rw[su,←hl]
   exact sy h1
  exact W.ki_setBack ho (by lia) (by rw[su,←hl];exact h3) (by lia) (by rw[hk];exact⟨_,I',q⟩)
theorem Ra (lo hi:Option Int)(n:Nat):(sliceBounds lo hi none n).1=((HT.sIx n 0 lo:Nat):Int)/\(sliceBounds lo hi none n).2.1=((HT.sIx n n hi:Nat):Int)/\(sliceBounds lo hi none n).2.2=1:=by
 refine⟨?_,?_,rfl⟩
 ·
  cases lo with
  | none=>simp[sliceBounds,HT.sIx]
  |
   some i=>
   simp only[sliceBounds,HT.sIx,Option.getD_none,show(1:Int)>0 by decide,Aao]
   by_cases h:i<0
   · simp only[h,Aao]<;>lia
   · simp only[h,xu]<;>lia
 ·
  cases hi with
  | none=>simp[sliceBounds,HT.sIx]
  |
   some i=>
   simp only[sliceBounds,HT.sIx,Option.getD_none,show(1:Int)>0 by decide,Aao]
   by_cases h:i<0
   · simp only[h,Aao]<;>lia
   · simp only[h,xu]<;>lia
theorem Pw (its:List Value)(lo hi:Option Int):slicePick its.toArray lo hi none=((its.drop (HT.sIx its.length 0 lo)).take (HT.sIx its.length its.length hi-HT.sIx its.length 0 lo)).toArray:=by
 obtain⟨h1,h2,h3⟩:=Ra lo hi its.toArray.size
 unfold slicePick
 rw[h1,h2,h3]
 simp only[sliceRange_one,pick_run,su]<;>rfl
def qb (K:W.Frag):V->Option Int->Option Int->Hp->VK->Prop:=λx lo hi H Q=>∃a xs,x=.ref a/\SqL K H a xs/\∀p,H p=none->Q (.ref p) (upd H p (.lst (a8 xs lo hi)))
theorem gm:SlR X (qb X.K):=by
 intro pins s σ H x v vl vu lo hi sl Q I rx hs pl pu h
 obtain⟨a,xs,rfl,hx,q⟩:=h
 cases rx
 obtain⟨its,r,ht,hz⟩:=I.list hx
 have hlen:=r.length
 refine⟨"list",_,slot_list_getitem.lookup,ht.isList.typeIs,?_⟩
 refine wpAny_getItem_list_slice ht.isList hs pl pu .none (by simp) ?_ (by rw[su]<;>lia)
 rw[Pw,←hlen]
 refine⟨.ref s.heap.objs.size,_,I.laid (t':=s.toks) (o:=.lst (a8 xs lo hi)) (λb ob q=>sj _ q) (tq _) ?_,rfl,q _ (I.hok.fresh (tq _))⟩
 exact⟨uy (My xs lo hi) hz,_,0,(r.drop (HT.sIx xs.length 0 lo)).take (HT.sIx xs.length xs.length hi-HT.sIx xs.length 0 lo),t9 _ rfl⟩
theorem Rq:Gd X (.builtin "len") (λxs H Q=>∃p ys,xs=[.ref p]/\(SqL X.K H p ys∨SqT X.K H p ys)/\Q (.int ys.length) H):=by
 intro pins s σ H xs us Q I r h
 obtain⟨p,ys,rfl,hq,q⟩:=h
 obtain⟨u,rfl,rx⟩:=vals1 r
 cases rx
 have hn:=M6
 rcases hq with hq|hq
 ·
  obtain⟨its,r',pl,hz⟩:=I.list hq
  have hlen:=r'.length
  exact Calls.call_len_list pl.isList (by simp only[su]<;>lia) ⟨.int ys.length,H,I.tok _,⟨s.toks+1,by rw[su,hlen]⟩,q⟩
 ·
  obtain⟨its,r',pl,hz⟩:=I.tuple hq
  have hlen:=r'.length
  exact len_tuple pl (by simp only[su]<;>lia) ⟨.int ys.length,H,I.tok _,⟨s.toks+1,by rw[su,hlen]⟩,q⟩
theorem L7:Gd X (.builtin "len") (λxs H Q=>∃z,xs=[.str z]/\z.length<=sizeLine/\Q (.int z.length) H):=by
 intro pins s σ H xs us Q I r h
 obtain⟨z,rfl,hz,q⟩:=h
 obtain⟨u,rfl,t,rfl⟩:=vals1 r
 have hn:=M6
 exact len_str (by lia) ⟨.int z.length,H,I.tok _,⟨_,rfl⟩,q⟩
def tyV (K:W.Frag)(T:String)(x:V)(H:Hp):Prop:=match x with
 | .str _=>T="str"
 | .int _=>T="int"
 | .ref p=>(T="list"/\∃xs,SqL K H p xs)∨(T="tuple"/\∃o,K.lookup p=some o/\o.cls=.type "tuple"/\o.dict=none)∨
  (T="dict"/\((∃kvs,H p=some (.dK kvs))∨∃kvs,H p=some (.dT kvs)))∨(T="set"/\∃S n,H p=some (.set S n))
 | _=>False
theorem d5 {pins:List (Addr×Obj)}{σ:St}{H:Hp}{s:Shared}{T:String}{x:V}{v:Value}(I:Inv X pins σ H s)(r:RelV x v)(ty:tyV X.K T x H):
  s.TypeIs v T/\∀a,v=.ref a->∃ob,s.heap.get? a=some ob/\ob.dict=none:=by
 cases x with
 |
  str z=>
  obtain⟨t,rfl⟩:=r
  cases (show T="str" from ty)
  exact⟨typeIs_str s z t,λ_ e=>nomatch e⟩
 |
  int i=>
  obtain⟨t,rfl⟩:=r
  cases (show T="int" from ty)
  exact⟨typeIs_int s i t,λ_ e=>nomatch e⟩
 |
  ref p=>
  cases r
  rcases ty with⟨rfl,xs,hq⟩|⟨rfl,o,hk,hc,hd⟩|⟨rfl,hk⟩|⟨rfl,S,n,hk⟩
  ·
   obtain⟨its,_,pl,_⟩:=I.list hq
   refine⟨pl.isList.typeIs,λa e=>?_⟩
   cases e
   obtain⟨o,n,e,c,hd,_⟩:=pl
   exact⟨o,e,hd⟩
  ·
   refine⟨⟨o,I.kIn p o hk,hc⟩,λa e=>?_⟩
   cases e
   exact⟨o,I.kIn _ o hk,hd⟩
  ·
   have z:∃o,s.heap.get? p=some o/\o.ExactDict:=by
    rcases hk with⟨kvs,hk⟩|⟨kvs,hk⟩
    ·
     obtain⟨_,_,_,_,o,_,_,e,ex,_⟩:=I.hok p _ hk
     exact⟨o,e,ex⟩
    ·
     obtain⟨_,_,_,_,o,_,_,e,ex,_⟩:=I.hok p _ hk
     exact⟨o,e,ex⟩
   obtain⟨o,e,ex⟩:=z
   refine⟨⟨o,e,ex.1⟩,λa e2=>?_⟩
   cases e2
   exact⟨o,e,ex.2.1⟩
  ·
   obtain⟨o,_,_,_,e,ex,_⟩:=I.hok p _ hk
   refine⟨⟨o,e,ex.1⟩,λa e2=>?_⟩
   cases e2
   exact⟨o,e,ex.2.1⟩
 | _=>exact False.elim ty
def sd (K:W.Frag)(T:String)(r:V->List V->Hp->VK->Prop)(to:TE):TE:=λσ H Q=>to σ H λx H1=>tyV K T x H1/\r x [] H1 Q
def tBM (K:W.Frag)(T:String)(r:V->List V->Hp->VK->Prop)(to:TE)(t:TA):TE:=λσ H Q=>to σ H λx H1=>tyV K T x H1/\t σ H1 λxs H2=>r x xs H2 Q
variable {o e:Expr}{es:List Expr}{to:TE}{t:TA}{name:Str}{apos cpos:Pos}{T id:String}{r:V->List V->Hp->VK->Prop}
theorem j9 (pa:PlainAttrs T)(slot:Slot T name id)(hty:typeOf (.builtin id)=pure (.type "method_descriptor"))(hm:MtR X id r)(ho:PE X o to)
  (hbase:attributeBase o name X.env (eval o X.env)=eval o X.env:=by rfl) (hline:(apos.endLine==cpos.line)=true:=by rfl):PE X (.Call (.Attribute o name apos) [] [] cpos) (sd X.K T r to):=by
 intro pins s σ H Q I h
 refine wpAny_Call_method0_late hbase hline (thn (ho pins s σ H _ I h) λv s1 hz=>?_)
 obtain⟨x,H1,I1,r1,ty,q1⟩:=hz
 obtain⟨h1,h2⟩:=d5 I1 r1 ty
 exact⟨T,id,pa,slot,hty,h1,h2,Aaw rfl (PySem.evalArgs_none (hm pins s1 σ H1 x [] v [] Q I1 r1 .nil q1))⟩
theorem Sf (pa:PlainAttrs T)(slot:Slot T name id)(hty:typeOf (.builtin id)=pure (.type "method_descriptor"))(hm:MtR X id r)(ho:PE X o to)(ha:PA X (e::es) t)
  (hbase:attributeBase o name X.env (eval o X.env)=eval o X.env:=by rfl)
  (hfew:((backTo cpos (starEach (e::es) X.env)).all (λx=>!x.1)&&(backToKw cpos (keywordEach [] X.env)).all (λx=>x.1.isSome)
   &&decide ((e::es).length+([]:List Keyword).length+(if([]:List Keyword).isEmpty then 0 else 1)<30))=true:=by rfl)
  (hline:(apos.endLine==cpos.line)=true:=by rfl) (hs:starEach (e::es) X.env=(false,eval e X.env)::starEach es X.env:=by rfl) (hplain:(backTo cpos (starEach es X.env)).any (·.1)=false:=by rfl):
  PE X (.Call (.Attribute o name apos) (e::es) [] cpos) (tBM X.K T r to t):=by
 intro pins s σ H Q I h
 refine wpAny_Call_method_late hbase hfew hline rfl (thn (ho pins s σ H _ I h) λv s1 hz=>?_)
 obtain⟨x,H1,I1,r1,ty,q1⟩:=hz
 obtain⟨h1,h2⟩:=d5 I1 r1 ty
 refine⟨T,id,pa,slot,hty,h1,h2,?_⟩
 have hA:=ha cpos pins s1 σ H1 _ I1 q1
 rw[hs] at hA ⊢
 refine Aaw (by show(false||(backTo cpos (starEach es X.env)).any (·.1))=false;rw[hplain]<;>rfl) (Aa9 ?_)
 exact thn hA λus s2 ⟨vs,H2,I2,r2,q2⟩=>hm pins s2 σ H2 x vs v us Q I2 r1 r2 q2
end
def MtM (X:Cx)(id:String)(r:V->List V->Hp->VK->Prop):Prop:=
 ∀(pins:List (Addr×Obj))(s:Shared)(σ:St)(H:Hp)(x:V)(xs:List V)(v:Value)(us:List Value)(Q:VK),Inv X pins σ H s->RelV x v->Vals xs us->r x xs H Q->
  wpAny (model X.prog X.w) X.A (call (.builtin id) (v::us)) (EP X pins σ Q) X.xe s
theorem Vals.one {x:V}{us:List Value}(h:Vals [x] us):∃u,us=[u]/\RelV x u:=by
 cases h with
 | cons r t=>cases t;exact⟨_,rfl,r⟩
theorem Vals.two {x y:V}{us:List Value}(h:Vals [x,y] us):∃u v,us=[u,v]/\RelV x u/\RelV y v:=by
 cases h with
 |
  cons r t=>
  obtain⟨v,rfl,q⟩:=Vals.one t
  exact⟨_,_,rfl,r,q⟩
theorem Vals.zero:∀{us:List Value},Vals [] us->us=[]
 | _,.nil=>rfl
theorem Vals.dropLast {xs:List V}{us:List Value}(h:Vals xs us):Vals xs.dropLast us.dropLast:=by
 induction h with
 | nil=>exact .nil
 |
  cons r t ih=>
  cases t with
  | nil=>exact .nil
  | cons q t'=>exact .cons r ih
theorem Ws {α:Type}(l:List α):l.eraseIdx (l.length-1)=l.dropLast:=by
 induction l with
 | nil=>rfl
 |
  cons a r ih=>
  cases r with
  | nil=>rfl
  |
   cons b r=>
   have e:(a::b::r).length-1=((b::r).length-1)+1:=by
    have h1:(a::b::r).length=r.length+2:=rfl
    have h2:(b::r).length=r.length+1:=rfl
    lia
   rw[e,List.eraseIdx_cons_succ,ih]
   all_goals rfl
section
variable {X:Cx}{pins:List (Addr×Obj)}{σ:St}{H:Hp}{s:Shared}{l b:Addr}{xs ys zs:List V}
theorem Inv.lset {its its':List Value}{n:Nat}{f:Array Value->Array Value}{t':Nat}(I:Inv X pins σ H s)(hH:H l=some (.lst xs))
  (e:s.heap.get? l=some {cls:=.type "list",data:=.seq its.toArray n}) (hf:f its.toArray=its'.toArray) (hv:Vals ys its') (hz:ys.length<=sizeLine):
  Inv X pins σ (upd H l (.lst ys)) {s with heap:=s.heap.update l (Obj.mapSeq f),toks:=t'}:=by
 have q:=PySem.IsL.update e f
 rw[hf] at q
 refine I.write (x:=l) (e:=l) (by rw[hH];exact trivial) (.inl rfl) (λb' u hb hu=>(zh s.heap (Obj.mapSeq f) (zg hb)).trans hu) ⟨_,q⟩ ?_
 exact⟨hz,its',_,hv,q⟩
theorem Inv.lnew {its:List Value}{t':Nat}(I:Inv X pins σ H s)(hv:Vals ys its)(hz:ys.length<=sizeLine):
  Inv X pins σ (upd H s.heap.objs.size (.lst ys)) {s with heap:=s.heap.push {cls:=.type "list",data:=.seq its.toArray},toks:=t'}:=
 I.laid (λ_ _ q=>sj _ q) (tq _) ⟨hz,its,0,hv,t9 _ rfl⟩
theorem Inv.fresh (I:Inv X pins σ H s):H s.heap.objs.size=none:=I.hok.fresh (tq _)
theorem Inv.lstM (I:Inv X pins σ H s)(hH:H l=some (.lst xs)):xs.length<=sizeLine/\∃(its:List Value)(n:Nat),Vals xs its/\xs.length=its.length/\s.heap.get? l=some {cls:=.type "list",data:=.seq its.toArray n}:=by
 obtain⟨z,its,n,r,e⟩:=I.hok l _ hH
 exact⟨z,its,n,r,r.length,e⟩
end
section
variable {X:Cx}
def ik:V->List V->Hp->VK->Prop:=λx vs H Q=>∃l xs y,x=.ref l/\vs=[y]/\H l=some (.lst xs)/\xs.length<sizeLine/\Q .non (upd H l (.lst (xs++[y])))
theorem D8:MtM X "list.append" ik:=by
 intro pins s σ H x vs v us Q I rx rv h
 obtain⟨l,xs,y,rfl,rfl,hH,hz,q⟩:=h
 cases rx
 obtain⟨u,rfl,ru⟩:=rv.one
 obtain⟨z,its,n,r,hl,e⟩:=I.lstM hH
 refine call_meets F.slot_list_append ⟨_,e,rfl⟩ F.entry_list_append (F.args_list_append_2 _ _) (PySem.list_append l its.toArray n u (by rw[su];lia)) ⟨e,?_⟩
 refine⟨.non,_,I.lset (its':=its++[u]) hH e (by simp) (r.append (.cons ru .nil)) ?_,rfl,q⟩
 rw[ue,xp]
 lia
def qz:V->List V->Hp->VK->Prop:=λx vs H Q=>∃l xs y,x=.ref l/\vs=[]/\H l=some (.lst xs)/\xs[xs.length-1]?=some y/\Q y (upd H l (.lst xs.dropLast))
theorem kh:MtM X "list.pop" qz:=by
 intro pins s σ H x vs v us Q I rx rv h
 obtain⟨l,xs,y,rfl,rfl,hH,hy,q⟩:=h
 cases rx
 have hus:=rv.zero
 subst hus
 obtain⟨z,its,n,r,hl,e⟩:=I.lstM hH
 obtain⟨u,hu,ru⟩:=r.get hy
 have hy':its.toArray[its.toArray.size-1]?=some u:=by
  show its.toArray[its.length-1]?=some u
  rw[←t7,←hl]
  exact hu
 refine call_meets F.slot_list_pop ⟨_,e,rfl⟩ F.entry_list_pop (F.args_list_pop_1 _) (MeetsSeq.list_pop_last l its.toArray n u hy' (by rw[su];lia)) ⟨e,?_⟩
 refine⟨y,_,I.lset (its':=its.dropLast) hH e ?_ r.dropLast ?_,ru,q⟩
 ·
  show its.toArray.eraseIdxIfInBounds (its.toArray.size-1)=its.dropLast.toArray
  rw[su,List.eraseIdxIfInBounds_toArray,Ws]
 ·
  rw[List.length_dropLast]
  lia
def rf:R2:=λx y H Q=>∃l b xs zs,x=.ref l/\y=.ref b/\H l=some (.lst xs)/\H b=some (.lst zs)/\xs.length+zs.length<=sizeLine/\∀p,H p=none->Q (.ref p) (upd H p (.lst (xs++zs)))
theorem jj:OpR X (binaryOp .Add) rf:=by
 intro pins s σ H x y v u Q I rx ry h
 obtain⟨l,b,xs,zs,rfl,rfl,hH,hB,hz,q⟩:=h
 cases rx
 cases ry
 obtain⟨z,its,n,r,hl,e⟩:=I.lstM hH
 obtain⟨z2,its2,n2,r2,hl2,e2⟩:=I.lstM hB
 refine PySem.P.add_list e e2 ?_ (by rw[su,su];lia)
 have ea:its.toArray++its2.toArray=(its++its2).toArray:=by simp
 rw[ea]
 exact⟨.ref _,_,I.lnew (t':=s.toks) (r.append r2) (by rw[ue];lia),rfl,q _ I.fresh⟩
end
section
variable {prog:Program}{w:World}{A:Around}{E:Value->Shared->Prop}{s:Shared}
end
section
variable {X:Cx}
end
end L2
namespace Att
open PySem PySem.W PySem.Calls PyProof.Rows
theorem Nc {P:Params}{h:Heap}:∀(ns:List Int)(vs:List Value),WellAll P h vs (ns.map WData.int)->IntsAre vs ns:=by
 intro ns
 induction ns with
 |
  nil=>
  intro vs w
  rw[List.map_nil] at w
  cases w
  exact .nil
 |
  cons n ns ih=>
  intro vs w
  rw[um] at w
  cases w with
  |
   cons a b=>
   cases a
   exact .cons _ _ (ih _ b)
theorem ah {l:OpenLaw}{n:Nat}(hn:l.most=some n){P:Params}{h:Heap}{args:List WData}{vals:List Value}
  (hpre:l.row.toRowW.claim.pre args=true) (hwl:WellAll P h vals args):
  ∃a vs ns,vals=[Value.ref a]/\args=[WData.list (ns.map WData.int)]/\h.get? a=some {cls:=.type "list",data:=.seq vs.toArray}/\IntsAre vs ns/\ns.length<=n:=by
 have hsh:WShape.hasAll [] args [.list .int]=true:=(pre_splitW hpre).1
 have hc:l.pre.holds [] {args:=args}=true:=(pre_splitW hpre).2
 obtain⟨d,r,rfl,h1,h2⟩:=hasAllW_cons hsh
 obtain rfl:=hasAllW_nil h2
 obtain⟨xs,rfl,h3⟩:=hasW_list h1
 obtain⟨ns,rfl⟩:=items_int h3
 have hlen:ns.length<=n:=by
  unfold OpenLaw.pre at hc
  have h4:(WTm.not (.lt (.lit (.int (n:Int))) (.len (.arg 0)))).holds [] {args:=[.list (ns.map .int)]}=true:=by
   have h4:=(holds_andW hc).1
   rw[hn] at h4
   exact h4
  have h5:=condW_of h4 (w_not (w_lt w_lit (w_len_list (w_arg rfl))))
  rw[sf] at h5
  refine Nat.le_of_not_lt λq=>?_
  have q':(n:Int)<((ns.length:Nat):Int):=by lia
  first
   | (rw[so q'] at h5;exact absurd h5 (by decide))
   | (simp at h5;lia)
 cases hwl with
 |
  cons w1 w2=>
  cases w2
  cases w1 with
  | list ho hall=>exact⟨_,_,ns,rfl,rfl,ho,Nc ns _ hall,hlen⟩
theorem au (l:OpenLaw)(args:List WData):l.row.toRowW.claim.post args (.bool true) args=true:=
 postW_of (r:=l.row.toRowW) (X:=(true==true))
  (show WShape.has [] (.bool true) .bool=true by first|rfl|decide|simp[WShape.has,WShape.arms,WShape.armsAll])
  (show(WTm.eq .res (.lit (.bool true))).value [] {args:=args,res:=some (.bool true),after:=args}=some (.bool (true==true)) from w_eq_bool (w_res rfl) w_lit) rfl
theorem Sv {l:OpenLaw}{n:Nat}{q:Program}{loose:List Str}{XP:(Str->Option Value)->Heap->Prop}{YP:World->Heap->Prop}{d:DefRec}
  (hn:l.most=some n) (hdf:d.params.defaults=[])
  (call:∀(w:World)(s₀ s₁:Shared)(mg mb:Str->Option Value)(fa:Addr)(o:Obj)(pm cd doc:Value)(a:Addr)(vs:List Value)(ns:List Int),
   Ground q loose [] XP w s₀ mg mb s₁.heap->YP w s₁.heap->
   s₁.heap.get? fa=some o->o.data=.func (docDef d.name d.params d.body d.scope pm cd doc)->s₁.heap.CodeRec cd d.name->mg d.name=some (.ref fa)->
   s₁.heap.get? a=some {cls:=.type "list",data:=.seq vs.toArray}->IntsAre vs ns->ns.length<=n->s₁.gens=#[]->
   codeAny (model l.prog w) callerA (.call (.ref fa) ⟨[.ref a],[]⟩) (λr s'=>r=.ok (.ret (.bool true))/\OldK s₁.heap s'.heap/\s'.os=s₁.os/\AllBare s'.gens) s₁):
  WalkO q loose XP YP l.row.toRowW d [] (λf vs=>PySem.call f vs):=by
 intro w s₀ s₁ mg mb G Y fa o pm cd doc dV kV ho hd hcd hD hmg hg args vals as hpre hlay hrd hwl hlo
 obtain rfl:dV=.none:=Dflts.none hD hdf
 obtain rfl:kV=.none:=Dflts.noKw hD
 obtain⟨a,vs,ns,rfl,rfl,hobj,hints,hlen⟩:=ah hn hpre hwl
 refine enter_call (zl (call w s₀ s₁ mg mb fa o pm cd doc a vs ns G Y ho (fd_plain hd) hcd hmg hobj hints hlen hg) λr s' hq=>?_)
 obtain⟨rfl,h2,h3,h4⟩:=hq
 exact⟨.inl ⟨.bool true,.bool true,[],rfl,λ_=>rfl,.bool true,au l _,λ_=>⟨List.Pairwise.nil,λ_ hm=>(nomatch hm)⟩⟩,h2,h3,h4⟩
section
variable {prog:Program}{w:World}{A:Around}{E:Value->Shared->Prop}{s:Shared}{K:Frag}
def ledger (h:Heap)(L d:Addr):List (Addr×Obj):=(List.range h.objs.size).filterMap λa=>if a=L∨a=d then none else(h.get? a).map λo=>(a,o)
end
end Att
namespace L2
open PySem PySem.Spec PyProof.Rows
theorem Ri:∀{vs:List Value}{ns:List Int},IntsAre vs ns->Vals (ns.map V.int) vs
 | _,_,.nil=>.nil
 | _,_,.cons n t h=>.cons ⟨t,rfl⟩ (Ri h)
def n8 (H:Hp):Prop:=∀b,H b=none∨∃o xs,H b=some (.frz o (.lst xs))
theorem c9 {cm:Bool}{P:Program}{w:World}{K:W.Frag}{mg mb:Str->Option Value}{CX:CXT}{k:Nat}{fa a:Addr}{fd:FuncData}{x:Str}{sp:Sp}{s₁:Shared}{vs:List Value}{ns:List Int}
  (KX:K.In s₁.heap) (hns:s₁.heap.Ns mainGlobals mg) (hb:s₁.heap.Ns builtinsNs mb) (hbb:∀x:Str,x≠"__name__"->mb x=bootBuiltins x) (hlim:s₁.heap.NoLimit) (hg:s₁.gens=#[])
  (ha:s₁.heap.get? a=some {cls:=.type "list",data:=.seq vs.toArray}) (hi:IntsAre vs ns) (hl:ns.length<=sizeLine) (hr:Room cm k callerA)
  (F:∀base:Heap,K.In base->base.Ns mainGlobals mg->FnOk P w K mg base CX cm k fa fd [x] sp) (hbind:∀(s:Shared)(u:Value),BindsTo s fd ⟨[u],[]⟩ [(x,u)])
  (hsp:∀H:Hp,n8 H->SqL K H a (ns.map V.int)->sp [.ref a] H (λv _=>v=.bl true) λ_ _ _=>False)
  (hCX:∀H e s',CX [] H s₁ (λ_ _ _=>False) e s'->False):
  codeAny (model P w) callerA (.call (.ref fa) ⟨[.ref a],[]⟩) (λr s'=>r=.ok (.ret (.bool true))/\OldK s₁.heap s'.heap/\s'.os=s₁.os/\AllBare s'.gens) s₁:=by
 have rv:=Ri hi
 have lenV:=hi.length
 --from an abstract heap in which nothing but the script may be tracked
 have core:∀H:Hp,n8 H->SqL K H a (ns.map V.int)->HOk P w H s₁.heap->(∀b,H b≠none->b=a)->(H a≠none->K.lookup a=none)->
   codeAny (model P w) callerA (.call (.ref fa) ⟨[.ref a],[]⟩) (λr s'=>r=.ok (.ret (.bool true))/\OldK s₁.heap s'.heap/\s'.os=s₁.os/\AllBare s'.gens) s₁:=by
  intro H hO hS hok hA hK
  have base_of:∀{b:Addr}{o:Obj},s₁.heap.get? b=some o->H b=none->(cu s₁.heap H).get? b=some o:=λe n=>bt e n
  have noA:∀{b:Addr}{o:Obj}{es:Array DictEntry}{ep:Nat},s₁.heap.get? b=some o->o.data=.dict es ep->H b=none:=λ{b o es ep}e d=>by
   cases q:H b with
   | none=>rfl
   |
    some u=>
    have e':b=a:=hA b (by rw[q];simp)
    subst e'
    rw[ha] at e;cases e
    have d':Data.seq vs.toArray _=Data.dict es ep:=d
    cases d'
  have nsK:∀{b:Addr}{m:Str->Option Value},s₁.heap.Ns b m->(cu s₁.heap H).Ns b m:=λ{b m} ⟨o,es,ep,e,d,r⟩=>⟨o,es,ep,base_of e (noA e d),d,r⟩
  have hKb:K.In (cu s₁.heap H):=λb o e=>base_of (KX b o e) (by
   cases q:H b with
   | none=>rfl
   |
    some u=>
    have e':b=a:=hA b (by rw[q];simp)
    subst e'
    rw[hK (by rw[q];simp)] at e;cases e)
  have hM:Mod K mg (cu s₁.heap H):=⟨hKb,nsK hns,⟨mb,nsK hb,hbb⟩,let ⟨mc,h1,h2⟩:=hlim;⟨mc,nsK h1,h2⟩⟩
  have e0:Env0 P w K mg (cu s₁.heap H) callerA [] s₁ H:=⟨rfl,hM,λb o e=>ix e,Nat.le_of_eq (Zw _ _),trivial,λb hb=>absurd (show b∈([]:List Addr) from hb) (by simp),hok,.of_eq hg⟩
  refine zl ((F _ hKb (nsK hns)).run callerA [] s₁ H ⟨[.ref a],[]⟩ [.ref a] [.ref a] _ _ hr e0 (hbind s₁ (.ref a)) (.cons rfl .nil) (hsp H hO hS)) λr s' h=>?_
  cases r with
  | error e=>exact(hCX H e s' h).elim
  |
   ok fl=>
   cases fl with
   | next=>exact False.elim h
   | brk=>exact False.elim h
   | cont=>exact False.elim h
   |
    ret u=>
    obtain⟨v,H',os,bare,un,hok',r',q⟩:=h
    have q':v=.bl true:=q
    subst q'
    obtain rfl:u=Value.bool true:=r'
    refine⟨rfl,OldK.of_keep λb o e=>?_,os,bare⟩
    cases q:H b with
    | none=>exact un.keep b o e q (by intro z;exact absurd (show b∈([]:List Addr) from z) (by simp)) (by simp)
    |
     some u=>
     rcases hO b with z|⟨ob,xs,z⟩
     · rw[q] at z;cases z
     ·
      have z2:=un.frzs b ob _ z
      obtain⟨e1,_⟩:=hok b _ z
      obtain⟨e2,_⟩:=hok' b _ z2
      rw[e] at e1;cases e1
      exact e2
 cases hk:K.lookup a with
 |
  some o=>
  --the script is one of the module's own objects
  have e:=KX a o hk
  rw[ha] at e
  cases e
  refine core (λ_=>none) (λ_=>.inl rfl) (.inr ⟨_,vs.toArray,_,hk,rfl,rfl,rfl,by rw[su,lenV];exact hl,by simpa using rv⟩) (λb u z=>by have z':(none:Option HO)=some u:=z;cases z') (λb z=>absurd rfl z) λz=>absurd rfl z
 |
  none=>
  refine core (λb=>if b=a then some (.frz {cls:=.type "list",data:=.seq vs.toArray} (.lst (ns.map V.int))) else none) (λb=>?_) (.inl (.inr ⟨{cls:=.type "list",data:=.seq vs.toArray},if_pos rfl⟩)) (λb u z=>?_) (λb z=>?_) λ_=>hk
  ·
   by_cases hb:b=a
   · exact .inr ⟨_,_,if_pos hb⟩
   · exact .inl (if_neg hb)
  ·
   by_cases hb:b=a
   ·
    have z':=(if_pos hb).symm.trans z
    cases z'
    subst hb
    exact⟨ha,by rw[sf];exact hl,vs,_,rv,ha⟩
   ·
    have z':=(if_neg hb).symm.trans z
    cases z'
  ·
   by_cases hb:b=a
   · exact hb
   · exact absurd (if_neg hb) z
abbrev KOf {K:W.Frag}{h:Heap}(_:K.In h):W.Frag:=K
theorem fw {cm:Bool}{l:W.OpenLaw}{n k:Nat}{q:Program}{loose:List Str}{XP:(Str->Option Value)->Heap->Prop}{YP:World->Heap->Prop}{d:DefRec}{K:Params->W.Frag}{CX:World->CXT}{sp:World->Sp}{x:Str}
  (hn:l.most=some n) (hn2:n<=sizeLine) (hdf:d.params.defaults=[]) (hr:Room cm k callerA)
  (hY:∀(w:World)(h:Heap),YP w h->(K w.params).In h)
  (F:∀(w:World)(mg:Str->Option Value)(fa:Addr)(h:Heap),(K w.params).In h->h.Ns mainGlobals mg->mg d.name=some (.ref fa)->
   ∃fd:FuncData,(∀(s:Shared)(u:Value),BindsTo s fd ⟨[u],[]⟩ [(x,u)])/\
    ∀base:Heap,(K w.params).In base->base.Ns mainGlobals mg->FnOk l.prog w (K w.params) mg base (CX w) cm k fa fd [x] (sp w))
  (hsp:∀(w:World)(H:Hp)(a:Addr)(ns:List Int),ns.length<=n->n8 H->SqL (K w.params) H a (ns.map V.int)->sp w [.ref a] H (λv _=>v=.bl true) λ_ _ _=>False)
  (hCX:∀(w:World)(H:Hp)(s:Shared)(e:Value)(s':Shared),CX w [] H s (λ_ _ _=>False) e s'->False):
  W.WalkO q loose XP YP l.row.toRowW d [] (λf vs=>PySem.call f vs):=by
 refine Att.Sv hn hdf λw s₀ s₁ mg mb fa o pm cd doc a vs ns G Y ho hd hcd hmg hobj hints hlen hg=>?_
 have KX:=hY w _ Y
 obtain⟨fd,hb,hF⟩:=F w mg fa _ KX G.T.g hmg
 exact c9 KX G.T.g G.T.b G.T.builtins G.T.nolimit hg hobj hints (uy hlen hn2) hr hF hb (λH hO hS=>hsp w H a ns hlen hO hS) λH e s'=>hCX w H s₁ e s'
def inClass (s:Stmt)(j:Nat):Stmt:=match s with
 | .ClassDef _ _ _ body _ _ _ _ _ _ _=>body.getD j (.Pass ⟨0,0,0,0⟩)
 | _=>.Pass ⟨0,0,0,0⟩
def A2 (s:Stmt):Arguments:=match s with
 | .FunctionDef _ a _ _ _ _ _ _ _ _=>a
 | _=>{posonlyargs:=[],args:=[],vararg:=none,kwonlyargs:=[],kw_defaults:=[],kwarg:=none,defaults:=[]}
def Az (s:Stmt):List Stmt:=match s with
 | .FunctionDef _ _ b _ _ _ _ _ _ _=>b
 | _=>[]
def Ai (s:Stmt):Scope:=match s with
 | .FunctionDef _ _ _ _ _ _ sc _ _ _=>sc
 | _=>{kind:=.function,names:=[],isGenerator:=false,isCoroutine:=false}
abbrev CX0:CXT:=λ_ _ _ _ _ _=>False
abbrev E0:XK:=λ_ _ _=>False
theorem Bm {X:Cx}:Passes CX0 X E0:=λ_ _ _ _ _ _ _ h=>h.elim
structure Fun (K:W.Frag)(x qual:Str)(st:Stmt)(f:Addr)(fd:FuncData):Prop where
 ex:∃(oc:Value)(od:Option Addr)(kV doc pm:Value)(an:Option Addr)(cdv ct:Value)(osl:Array (Option Value)),
  fd=W.fnOf x qual (A2 st) (Az st) (Ai st) .none kV doc pm an cdv ct/\K.lookup f=some ⟨oc,od,.func fd,osl⟩/\W.codeIn K cdv qual=true
 kp:W.keepIn K (.ref f)=true
section
variable {P:Program}{w:World}{K:W.Frag}{mg:Str->Option Value}{base:Heap}
theorem Fun.ok {cm:Bool}{x qual:Str}{st:Stmt}{f:Addr}{fd:FuncData}{N ps:List Str}{k:Nat}{sp:Sp}(F:Fun K x qual st f fd)(S:A3 N ps (Ai st))(len:∀vs H Q E,sp vs H Q E->vs.length=ps.length)
  (hbody:∀(cdv:Value)(A:Around)(outer:List Env)(s:Shared)(H:Hp)(vs:List V)(Q:VK)(E:XK),Room cm k (A.deeper (envOfC qual (Ai st) s.heap.objs.size f cdv))->sp vs H Q E->
   ∃t,PSs (Uz CX0 cm P w K mg base N qual (Ai st) f cdv A outer s H E).nox (Az st) t/\t {nx:=λ_ H'=>Q .non H',rt:=λ_=>Q} (start N vs) H):FnOk P w K mg base CX0 cm (k+1) f fd ps sp:=by
 obtain⟨oc,od,kV,doc,pm,an,cdv,ct,osl,rfl,lk,hcd⟩:=F.ex
 refine ll lk hcd S len λA outer s H vs Q E hr hsp=>?_
 obtain⟨t,h,q⟩:=hbody cdv A outer s H vs Q E hr hsp
 exact⟨t,h.nox,q⟩
theorem Fun.binds {x qual:Str}{st:Stmt}{f:Addr}{fd:FuncData}{ps:List Str}(F:Fun K x qual st f fd)
  (h:∀(kV doc pm:Value)(an:Option Addr)(cdv ct:Value)(us:List Value),us.length=ps.length->bindArgs (W.fnOf x qual (A2 st) (Az st) (Ai st) .none kV doc pm an cdv ct) ⟨us,[]⟩=pure (ps.zip us)):Binds K fd ps []:=by
 obtain⟨oc,od,kV,doc,pm,an,cdv,ct,osl,rfl,lk,hcd⟩:=F.ex
 exact .all (h kV doc pm an cdv ct)
theorem Bt {x qual:Str}{st:Stmt}{f:Addr}{oc:Value}{od an:Option Addr}{osl:Array (Option Value)}{kV doc pm cdv ct:Value}(l:K.lookup f=some ⟨oc,od,.func (W.fnOf x qual (A2 st) (Az st) (Ai st) .none kV doc pm an cdv ct),osl⟩)
 (c:W.codeIn K cdv qual=true) (k:W.keepIn K (.ref f)=true):Fun K x qual st f (W.fnOf x qual (A2 st) (Az st) (Ai st) .none kV doc pm an cdv ct):=⟨⟨oc,od,kV,doc,pm,an,cdv,ct,osl,rfl,l,c⟩,k⟩
end
theorem Ny {cm:Bool}{A:Around}{k:Nat}(hr:Room cm k A):A.units+1<cLine:=ve (Aax (by decide:1<=64) _) hr.units
section
variable {X:Cx}
theorem pv (i:Nat){x:Str}{pos:Pos}(hN:X.N[i]?=some x:=by rfl)(hv:Vis X.env.scope x:=by first|exact Or.inl rfl|exact Or.inr (Or.inl rfl)|exact Or.inr (Or.inr rfl))(hd:(x==("__debug__":Str))=false:=by decide)
 (hcd:(x==("__classdict__":Str))=false:=by decide):PE X (.Name x pos) (pj i):=kc hN hv hd hcd
end
theorem Jw {A B:Prop}(h:B):if false=true then A else B:=by
 rw[if_neg uk]
 exact h
theorem P8 {A B:Prop}(h:A):if true=true then A else B:=by
 rw[if_pos rfl]
 exact h
theorem He {c A B:Prop}[Decidable c](h1:c->A)(h2:¬c->B):if c then A else B:=by
 by_cases h:c
 ·
  rw[if_pos h]
  exact h1 h
 ·
  rw[if_neg h]
  exact h2 h
def Same (H H':Hp):Prop:=∀b o,H b=some o->H' b=some o
theorem Same.refl (H:Hp):Same H H:=λ_ _ h=>h
theorem Same.trans {H H1 H2:Hp}(a:Same H H1)(b:Same H1 H2):Same H H2:=λc o h=>b c o (a c o h)
theorem Same.free {H H':Hp}(e:Same H H'){l:Addr}(h:H' l=Option.none):H l=Option.none:=by
 cases q:H l with
 | none=>rfl
 |
  some o=>
  rw[e l o q] at h
  cases h
theorem Same.seq {K:W.Frag}{H H':Hp}{a:Addr}{xs:List V}(e:Same H H')(h:SqL K H a xs):SqL K H' a xs:=by
 rcases h with(h|⟨o,h⟩)|h
 · exact .inl (.inl (e _ _ h))
 · exact .inl (.inr ⟨o,e _ _ h⟩)
 · exact .inr h
def Sr (env:Env):List (Str×NameKind)->List (Str×Addr)->List (Str×Addr)
 | [],acc=>acc
 | (n,k)::r,acc=>if k== .free then Sr env r ((n,(env.cells.lookup n).getD 0)::acc) else Sr env r acc
theorem Qi {env:Env}{x:Str}{c:Addr}:∀{ns:List (Str×NameKind)}{acc:List (Str×Addr)},(∃c,acc.lookup x=some c)->∃c,(Sr env ns acc).lookup x=some c
 | [],_,h=>h
 |
  (n,k)::r,acc,h=>by
  unfold Sr
  split
  ·
   refine Qi (c:=c) ?_
   obtain⟨c',e⟩:=h
   rw[w8]
   cases q:x==n
   · exact⟨c',e⟩
   · exact⟨_,rfl⟩
  · exact Qi (c:=c) h
theorem Mq {env:Env}{x:Str}:∀{ns:List (Str×NameKind)}{acc:List (Str×Addr)},(x,NameKind.free)∈ns->∃c,(Sr env ns acc).lookup x=some c
 |
  (n,k)::r,acc,h=>by
  unfold Sr
  rcases uq.mp h with e|h
  ·
   cases e
   rw[if_pos (by rfl)]
   exact Qi (c:=0) ⟨_,by rw[w8,Aaf]⟩
  ·
   split
   · exact Mq h
   · exact Mq h
theorem Ts {env:Env}{x:Str}{c:Addr}:∀{ns:List (Str×NameKind)}{acc:List (Str×Addr)},(∀y∈ns,y.2=.free->∃d,env.cells.lookup y.1=some d)->(∀y d,acc.lookup y=some d->env.cells.lookup y=some d)->
  (Sr env ns acc).lookup x=some c->env.cells.lookup x=some c
 | [],_,_,ha,h=>ha _ _ h
 |
  (n,k)::r,acc,hn,ha,h=>by
  unfold Sr at h
  have hr:∀y∈r,y.2=.free->∃d,env.cells.lookup y.1=some d:=λy hy=>hn y (sq _ hy)
  split at h
  ·
   rename_i hk
   have hk':k=.free:=by simpa using hk
   obtain⟨d,hd⟩:=hn (n,k) sk hk'
   refine Ts hr (λy d' hy=>?_) h
   rw[w8] at hy
   cases q:y==n
   ·
    rw[q] at hy
    exact ha y d' hy
   ·
    rw[q] at hy
    have e:y=n:=by simpa using q
    subst e
    have hd':env.cells.lookup y=some d:=hd
    rw[hd'] at hy
    rw[hd']
    exact hy
  · exact Ts hr ha h
theorem G4 {x:Str}{k:NameKind}:∀{ns:List (Str×NameKind)},ns.lookup x=some k->(x,k)∈ns
 |
  (n,j)::r,h=>by
  rw[w8] at h
  cases q:x==n
  ·
   rw[q] at h
   exact sq _ (G4 h)
  ·
   rw[q] at h
   have e:x=n:=by simpa using q
   subst e
   cases h
   exact sk
def Dg (X:Cx)(N:List Str)(scope:Scope)(C:Addr)(s:Shared)(H:Hp)(fp:List Addr):Cx where
 prog:=X.prog
 w:=X.w
 K:=X.K
 mg:=X.mg
 base:=X.base
 A:=X.A
 N:=N
 s₀:=s
 H₀:=H
 env:=compEnvC scope (Sr X.env scope.names []) C X.env
 outer:=X.stack
 stack:=X.stack
 ex:=fp
 fn:=λ_=>false
 calm:=X.calm
 pn:=[]
 xe:=λ_ _=>False
def Ru (sc scope:Scope)(N0:List Str):List (Option Nat)->List Str->Bool
 | [],_=>true
 | none::r,_::n=>Ru sc scope N0 r n
 | some j::r,x::n=>decide (N0[j]?=some x)&&decide (scope.names.lookup x=some .free)&&decide (sc.names.lookup x=some .cell)&&Ru sc scope N0 r n
 | _::_,[]=>false
theorem Qt {sc scope:Scope}{N0:List Str}:∀{cap:List (Option Nat)}{N:List Str}{i j:Nat},Ru sc scope N0 cap N=true->cap[i]?=some (some j)->
  ∃x,N[i]?=some x/\N0[j]?=some x/\scope.names.lookup x=some .free/\sc.names.lookup x=some .cell
 | [],_,_,_,_,e=>by simp at e
 | o::_,[],_,_,h,_=>by cases o<;>simp[Ru] at h
 |
  o::r,y::n,0,j,h,e=>by
  simp at e
  subst e
  unfold Ru at h
  simp only[vh,zy] at h
  exact⟨y,rfl,h.1.1.1,h.1.1.2,h.1.2⟩
 |
  o::r,y::n,i+1,j,h,e=>by
  have h':Ru sc scope N0 r n=true:=by
   cases o with
   | none=>exact h
   |
    some k=>
    unfold Ru at h
    simp only[vh] at h
    exact h.2
  obtain⟨x,a,b⟩:=Qt (i:=i) (j:=j) h' (by simpa using e)
  exact⟨x,by simpa using a,b⟩
structure D6 (sc scope:Scope)(N0 N:List Str)(cap:List (Option Nat)):Prop where
 kind:scope.kind=.function
 cell:∀y∈scope.names,y.2≠ .cell
 names:∀y∈scope.names,y.2=.local->scope.names.lookup y.1=some .local
 free:∀y∈scope.names,y.2=.free->sc.names.lookup y.1=some .cell
 nd:N.Nodup
 len:cap.length=N.length
 cap:Ru sc scope N0 cap N=true
def Oi (cap:List (Option Nat))(σ:St):St:=cap.map λo=>match o with
 | none=>none
 | some j=>(σ[j]?).join
theorem R0 {scope:Scope}{env:Env}(hk:env.scope.kind=.function)(hf:∀y∈scope.names,y.2=.free->env.kindOf y.1=some .cell){x:Str}(h:scope.names.lookup x=some .free):
  (relabel scope env).names.lookup x=some .cell:=by
 have all:∀(ns:List (Str×NameKind)),(∀y∈ns,y.2=.free->env.kindOf y.1=some .cell)->ns.lookup x=some .free->
   (ns.map λ(n,k)=>if(k== .free&&env.scope.kind== .function&&env.kindOf n==some .cell) then(n,NameKind.cell) else(n,k)).lookup x=some .cell:=by
  intro ns
  induction ns with
  | nil=>intro _ h;simp at h
  |
   cons y r ih=>
   obtain⟨n,k⟩:=y
   intro hf h
   rw[um]
   rw[w8] at h
   cases q:x==n
   ·
    rw[q] at h
    have:=ih (λy hy=>hf y (sq _ hy)) h
    show List.lookup x ((if(k== .free&&env.scope.kind== .function&&env.kindOf n==some .cell)=true then(n,NameKind.cell) else(n,k))::_)=_
    split<;>(rw[w8,q];exact this)
   ·
    rw[q] at h
    cases h
    have e:=hf (n,.free) sk rfl
    show List.lookup x ((if(NameKind.free== .free&&env.scope.kind== .function&&env.kindOf n==some .cell)=true then(n,NameKind.cell) else(n,NameKind.free))::_)=_
    rw[if_pos (by rw[hk,e];rfl),w8,q]
 exact all scope.names hf h
theorem Rx {scope:Scope}{env:Env}{x:Str}(hc:∀y∈scope.names,y.2≠ .cell)(h:(relabel scope env).names.lookup x=some .cell∨(relabel scope env).names.lookup x=some .free):(x,NameKind.free)∈scope.names:=by
 have all:∀(ns:List (Str×NameKind)),(∀y∈ns,y.2≠ .cell)->
   (∀k,(k=NameKind.cell∨k=NameKind.free)->(ns.map λ(n,k)=>if(k== .free&&env.scope.kind== .function&&env.kindOf n==some .cell) then(n,NameKind.cell) else(n,k)).lookup x=some k->(x,NameKind.free)∈ns):=by
  intro ns
  induction ns with
  | nil=>intro _ k _ h;simp at h
  |
   cons y r ih=>
   obtain⟨n,j⟩:=y
   intro hc k hk h
   rw[um] at h
   have hr:∀y∈r,y.2≠NameKind.cell:=λy hy=>hc y (sq _ hy)
   change List.lookup x ((if(j== .free&&env.scope.kind== .function&&env.kindOf n==some .cell)=true then(n,NameKind.cell) else(n,j))::_)=some k at h
   split at h
   ·
    rename_i hj
    rw[vh,vh] at hj
    have hj':j=.free:=by simpa using hj.1.1
    subst hj'
    rw[w8] at h
    cases q:x==n
    ·
     rw[q] at h
     exact sq _ (ih hr k hk h)
    ·
     have e:x=n:=by simpa using q
     subst e
     exact sk
   ·
    rw[w8] at h
    cases q:x==n
    ·
     rw[q] at h
     exact sq _ (ih hr k hk h)
    ·
     rw[q] at h
     cases h
     have e:x=n:=by simpa using q
     subst e
     rcases hk with z|z
     · exact absurd z (hc (x,j) sk)
     · rw[z];exact sk
 rcases h with h|h
 · exact all scope.names hc _ (.inl rfl) h
 · exact all scope.names hc _ (.inr rfl) h
section
variable {X:Cx}{pins:List (Addr×Obj)}{σ:St}{H:Hp}{s:Shared}{h₁:Heap}{scope:Scope}{N:List Str}{cap:List (Option Nat)}{fp:List Addr}{t':Nat}
theorem N9 (S:D6 X.env.scope scope X.N N cap)(I:Inv X pins σ H s)(hf:∀b∈fp,Xp X pins H b)(hlt:∀b∈fp,b<s.heap.objs.size)
  (hns:h₁.Ns s.heap.objs.size (λx=>([]:List (Str×Value)).reverse.lookup x)) (keep:∀b o,s.heap.get? b=some o->h₁.get? b=some o):
  Inv (Dg X N scope s.heap.objs.size s H fp) [] (Oi cap σ) H {s with heap:=h₁,toks:=t'}:=by
 have hkf:∀y∈scope.names,y.2=.free->X.env.kindOf y.1=some .cell:=S.free
 have hcell:∀y∈scope.names,y.2=.free->∃d,X.env.cells.lookup y.1=some d:=λy hy e=>I.ok.has _ (.inl (hkf y hy e))
 have hcl:∀x c,(Sr X.env scope.names []).lookup x=some c->X.env.cells.lookup x=some c:=λx c h=>Ts hcell (λy d h=>by simp at h) h
 refine⟨⟨I.ok.mod,S.kind,I.ok.glob,I.ok.blt,tq _,λx y c h1 h2=>I.ok.inj x y c (hcl x c h1) (hcl y c h2),λx h=>Mq (Rx S.cell h),(λx c h=>nomatch h),I.ok.hd,I.ok.frames,.inl rfl,
  λb hb=>⟨ug (hlt b hb),λx c h=>(hf b hb).2.2.2.2.1 x c (hcl x c h)⟩,I.bs,uy I.ok.bsz I.sz,λb o e hb=>?_,λb hb h=>?_,I.stack,I.stkFree⟩,
  rfl,I.bare,Un.kept keep,⟨_,hns,λi x v e1 e2 e3=>?_⟩,λx c h=>?_,I.hok.fresh (tq _),λx c h=>I.freeC x c (hcl x c h),λp hp=>(by simp[Dg] at hp),I.hok.kept keep,?_⟩
 ·
  rcases(hf b hb).2.2.2.1 with z|z
  · exact I.ok.noex b o e z
  · exact absurd (uw (sr (I.ok.bs b o e).1) z) (vv _)
 ·
  rcases uq.mp (I.stkSub b h) with z|z
  · exact(hf b hb).2.1 z
  · exact(hf b hb).2.2.1 z
 ·
  have e2':(Oi cap σ)[i]?=some (some v):=e2
  unfold Oi at e2'
  rw[ur] at e2'
  cases q:cap[i]? with
  | none=>rw[q] at e2';cases e2'
  |
   some o=>
   cases o with
   | none=>rw[q] at e2';cases e2'
   |
    some j=>
    rw[q] at e2'
    obtain⟨y,n1,n2,n3,n4⟩:=Qt S.cap q
    have e1':N[i]?=some x:=e1
    rw[n1] at e1'
    cases e1'
    have ej:σ[j]?=some (some v):=by
     have e3:(σ[j]?).join=some v:=sy e2'
     cases r:σ[j]? with
     | none=>rw[r] at e3;cases e3
     | some o=>rw[r] at e3;rw[show o=some v from e3]
    obtain⟨m,hn,hl⟩:=I.loc
    obtain⟨u,ru,l⟩:=hl j x v n2 ej (.inr (.inl n4))
    refine⟨u,ru,.inr ⟨.inl (R0 I.ok.kind hkf n3),?_⟩⟩
    rcases l with⟨hk,_⟩|⟨_,c,hc,z⟩
    ·
     have n4':X.env.kindOf x=some .cell:=n4
     rw[n4'] at hk;cases hk
    ·
     obtain⟨c',hc'⟩:=Mq (env:=X.env) (acc:=[]) (G4 n3)
     have:=hcl x c' hc'
     rw[hc] at this
     cases this
     exact⟨c,hc',z.keeps keep⟩
 ·
  obtain⟨v,z⟩:=I.cell x c (hcl x c h)
  exact⟨v,z.keeps keep⟩
 ·
  show(Oi cap σ).length=N.length
  unfold Oi
  rw[sf]
  exact S.len
theorem V3 {pins':List (Addr×Obj)}{σ':St}{H':Hp}{s':Shared}{h':Heap}(I:Inv X pins σ H s)(hf:∀b∈fp,Xp X pins H b)(J:Inv (Dg X N scope s.heap.objs.size s H fp) pins' σ' H' s')
  (sb:Heap.SameBut s.heap.objs.size s'.heap h'):Inv X pins σ H' {s' with heap:=h'}:=by
 have I1:Inv X pins σ H' s':=I.call' J.os J.base J.hok J.bare λb hb=>⟨(hf b hb).2.2.2.1,(hf b hb).2.1,(hf b hb).2.2.2.2.1,(hf b hb).2.2.2.2.2⟩
 have hfree:H' s.heap.objs.size=none:=J.free
 refine I1.turned (t':=s'.toks) (it:=s.heap.objs.size) (λb o hb e=>(sb.2 b hb).trans e) hfree (xw I.lt) (.inr I.sz) (λx c h z=>?_) λp hp z=>?_
 ·
  obtain⟨v,q⟩:=I.cell x c h
  have:=q.lt
  rw[z] at this
  exact vv _ this
 ·
  have:=sr (I.pin p hp).1
  rw[z] at this
  exact vv _ this
end
def mn (X:Cx)(ifs:List Expr)(t:TT):Prop:=
 ∀(pins:List (Addr×Obj))(s:Shared)(σ:St)(H:Hp)(Q:Bool->Hp->Prop),Inv X pins σ H s->t σ H Q->
  wpAny (model X.prog X.w) X.A (forIn ifs true λc r=>if r=true then do let ok ←isTrue c X.env (eval c X.env);pure (ForInStep.yield ok) else pure (ForInStep.yield r)) (TP X pins σ Q) X.xe s
def rj:TT:=λ_ H Q=>Q true H
theorem Pe {X:Cx}:mn X [] rj:=λpins s σ H Q I h=>wpAny_tests_nil ⟨H,I,h⟩
theorem Yr {X:Cx}{c:Expr}{t:TT}(h:PT X c t):mn X [c] t:=λpins s σ H Q I hq=>wpAny_tests_one (h pins s σ H Q I hq)
section
variable {prog:Program}{w:World}{A:Around}{R:Result->Shared->Prop}{s:Shared}
theorem Lx {elt target iter:Expr}{ifs:List Expr}{scope:Scope}{pos:Pos}{it acc:Value}{env:Env}(I:Nat->Shared->Prop)
  (turn:∀n s,I n s->wpAny (model prog w) A (pyNext it) (λr s₁=>match r with
   | none=>R (.ok .next) s₁
   | some v=>wpAny (model prog w) A (letOwnedTupleGo target it v) (λ_ s₀=>wpAny (model prog w) A (assign target env v) (λ_ s₂=>
    wpAny (model prog w) A (forIn ifs true λc r=>if r=true then do let ok ←isTrue c env (eval c env);pure (ForInStep.yield ok) else pure (ForInStep.yield r)) (λok s₃=>
     if ok=true then wpAny (model prog w) A (eval elt env) (λx s₄=>
      wpAny (model prog w) A (call (.builtin "list.append") [acc,x]) (λ_ s₅=>∃m,m<n/\I m s₅) (λ_ _=>False) s₄) (λ_ _=>False) s₃
     else ∃m,m<n/\I m s₃) (λ_ _=>False) s₂) (λ_ _=>False) s₀) (λ_ _=>False) s₁) (λ_ _=>False) s)
  (n:Nat) (h:I n s):codeAny (model prog w) A (.compLoop (.ListComp elt [⟨target,iter,ifs,0⟩] scope pos) 0 it acc env) R s:=by
 refine codeAny_loop rfl I (λn s hI=>?_) n h
 show wpAny _ A ((compTurn (.ListComp elt [⟨target,iter,ifs,0⟩] scope pos) 0 it acc env).onRaise (λx=>do noteFrame x env;theTreesLotGoes x)) _ _ s
 refine wpAny_noted ?_
 rw[compTurn_list]
 refine se (wpAny_standAt (se (wu (turn n s hI) (λr s₁ h₁=>?_) λ_ _ h'=>h'.elim)))
 cases r with
 | none=>exact si h₁
 |
  some v=>
  refine se (wu h₁ (λ_ s₀ h₀=>?_) λ_ _ h'=>h'.elim)
  refine se (wu h₀ (λ_ s₂ h₂=>se (wu h₂ (λok s₃ h₃=>?_) λ_ _ h'=>h'.elim)) λ_ _ h'=>h'.elim)
  cases ok with
  | false=>exact si ⟨rfl,h₃⟩
  |
   true=>
   exact se (se (wu h₃ (λx s₄ h₄=>se (wu h₄ (λ_ s₅ h₅=>si (si ⟨rfl,h₅⟩)) λ_ _ h'=>h'.elim)) λ_ _ h'=>h'.elim))
end
def Mm (J:It)(H1:Hp)(cap:List (Option Nat))(g:TG)(tt:TT)(te:TE)(σ:St)(Q:VK):Prop:=∀D,H1 D=none->
 ∃W:Nat->Nat->List V->St->Hp->Prop,(∃m,W 0 m [] (Oi cap σ) (upd H1 D (.lst [])))/\∀i m ys σ' H',W i m ys σ' H'->H' D=some (.lst ys)/\
  ((
   J.stop i H'/\Q (.ref D) H')∨(J.go i H'/\∀x H2,J.yld i H' x H2->g x σ' H2 λσ2 H3=>tt σ2 H3 λb H4=>
   if b=true then te σ2 H4 λy H5=>H5 D=some (.lst ys)/\ys.length<sizeLine/\∃m',m'<m/\W (i+1) m' (ys++[y]) σ2 (upd H5 D (.lst (ys++[y])))
   else ∃m',m'<m/\W (i+1) m' ys σ2 H4))
def kz (wi:TI)(cap:List (Option Nat))(g:TG)(tt:TT)(te:TE):TE:=λσ H Q=>wi σ H λJ H1=>Mm J H1 cap g tt te σ Q
theorem Lh {X:Cx}{elt tgt iter:Expr}{ifs:List Expr}{scope:Scope}{pos:Pos}{N:List Str}{cap:List (Option Nat)}{wi:TI}{g:TG}{tt:TT}{te:TE}
  (S:D6 X.env.scope scope X.N N cap) (hc:X.calm=true) (hi:PI X tgt iter wi)
  (hb:∀(C:Addr)(s:Shared)(H:Hp)(fp:List Addr),PG (Dg X N scope C s H fp) tgt g/\mn (Dg X N scope C s H fp) ifs tt/\PE (Dg X N scope C s H fp) elt te)
  (hclos:closureFor scope X.env=pure (Sr X.env scope.names []):=by with_unfolding_all rfl) (hs:∀x,foldedSetIterable iter X.env x=pure x:=by intro _;rfl):
  PE X (.ListComp elt [⟨tgt,iter,ifs,0⟩] scope pos) (kz wi cap g tt te):=by
 intro pins s σ H Q I h
 rw[eval_ListComp]
 refine wpAny_comprehension_free (use:=none) (cl:=Sr X.env scope.names []) rfl hs hclos S.kind S.names ?_
 refine thn (hi pins s σ H _ I h) λv s1 h1=>thn h1 λitv s2 h2=>?_
 obtain⟨it,fp,tn,J,H2,e,I2,T,st2,f2,k⟩:=h2
 subst e
 refine wd (wpAny_newFunctionEnv S.cell (by intro y hy;simp at hy) (λh₁ hns₁ hsb₁=>?_) S.kind)
 dsimp only at hns₁ hsb₁ ⊢
 have I3:Inv X pins σ (upd H2 s2.heap.objs.size (.lst [])) {s2 with heap:=s2.heap.push {cls:=.type "list",dict:=none,data:=.seq ([]:List Value).toArray}}:=I2.lnew (t':=s2.toks) .nil (u5 _)
 obtain⟨W,⟨m0,w0⟩,turn⟩:=k s2.heap.objs.size I2.fresh
 generalize hD:s2.heap.objs.size=D at*
 generalize hsD:({s2 with heap:=s2.heap.push {cls:=.type "list",dict:=none,data:=.seq ([]:List Value).toArray}}:Shared)=sD at*
 have hsz:sD.heap.objs.size=D+1:=by rw[←hsD,←hD];exact wz ..
 have hheap:s2.heap.push {cls:=.type "list",dict:=none,data:=.seq ([]:List Value).toArray}=sD.heap:=by rw[←hsD]
 rw[hheap] at hns₁ hsb₁ ⊢
 have up:∀b o,s2.heap.get? b=some o->sD.heap.get? b=some o:=λb o e=>by rw[←hheap];exact sj _ e
 have keep:∀b o,sD.heap.get? b=some o->h₁.get? b=some o:=λb o e=>hsb₁.extBut b o (ug (sr e)) (sj _ e)
 have hfD:D∉fp:=λhm=>by
  obtain⟨o,e,_⟩:=T.obj _ _ st2 D hm
  have:=sr e
  rw[hD] at this
  exact vv _ this
 have f3:∀b∈fp,Xp X pins (upd H2 D (.lst [])) b:=λb hb=>⟨by rw[Ad (λz=>hfD (by rw[←z];exact hb))];exact(f2 b hb).1,(f2 b hb).2⟩
 have hlt:∀b∈fp,b<sD.heap.objs.size:=λb hb=>by
  obtain⟨o,e,_⟩:=T.obj _ _ st2 b hb
  exact sr (up b o e)
 have I4:=N9 (t':=s2.toks+([]:List (Str×Value)).length) S I3 f3 hlt hns₁ keep
 obtain⟨hg,hif,hel⟩:=hb sD.heap.objs.size sD (upd H2 D (.lst [])) fp
 have st4:tn 0 h₁:=T.keep _ _ _ st2 λb hb o e=>keep b o (up b o e)
 have stat:∀{H':Hp},(∀b∈fp,H' b=none)->∀b∈fp,Xp (Dg X N scope sD.heap.objs.size sD (upd H2 D (.lst [])) fp) [] H' b:=λhn b hb=>
  ⟨hn b hb,(I4.ok.exf b hb).1,I4.ok.exfs b hb,.inl hb,λx c h z=>(I4.ok.exf b hb).2 x c h z,λp hp=>(by simp[Dg] at hp)⟩
 have loop:codeAny (model X.prog X.w) X.A (.compLoop (.ListComp elt [⟨tgt,iter,ifs,0⟩] scope pos) 0 (.ref it) (.ref D) (compEnvC scope (Sr X.env scope.names []) sD.heap.objs.size X.env))
   (compPost (model X.prog X.w) X.A X.xe none (EP X pins σ Q) (.ref D) sD.heap.objs.size) {sD with heap:=h₁,toks:=s2.toks+([]:List (Str×Value)).length}:=by
  refine Lx (λn s'=>∃i ys σ' H',Inv (Dg X N scope sD.heap.objs.size sD (upd H2 D (.lst [])) fp) [] σ' H' s'/\tn i s'.heap/\(∀b∈fp,H' b=none)/\W i n ys σ' H') ?_ m0
   ⟨0,[],Oi cap σ,_,I4,st4,λb hb=>(f3 b hb).1,w0⟩
  rintro n s5 ⟨i,ys,σ5,H5,I5,st5,fr5,w5⟩
  obtain⟨hD5,way⟩:=turn i n ys σ5 H5 w5
  rcases way with⟨stop,q⟩|⟨go,step⟩
  ·
   refine thn (T.done (Dg X N scope sD.heap.objs.size sD (upd H2 D (.lst [])) fp) rfl rfl rfl hc i [] s5 σ5 H5 (λ_ _=>False) I5 (stat fr5) st5 stop) λr s6 hz=>?_
   obtain⟨hr,I6⟩:=hz
   subst hr
   obtain⟨m,hn,_⟩:=I6.loc
   exact⟨m,hn,λh' sb=>⟨.ref D,H5,V3 I3 f3 I6 sb,rfl,q⟩⟩
  ·
   refine thn (T.item (Dg X N scope sD.heap.objs.size sD (upd H2 D (.lst [])) fp) rfl rfl rfl hc i [] s5 σ5 H5 (λ_ _=>False) I5 (stat fr5) st5 go) λr s6 hz=>?_
   obtain⟨u,hr,h6⟩:=hz
   subst hr
   refine thn h6 λ_ s7 hz=>?_
   obtain⟨x,H7,I7,r7,y7,st7,fr7⟩:=hz
   have I7':=I7.pinned (stat fr7) (T.obj _ _ st7)
   refine thn (hg _ s7 σ5 H7 x u _ I7' r7 (step x H7 y7)) λ_ s8 hz=>?_
   obtain⟨σ8,H8,I8,q8⟩:=hz
   refine thn (hif _ s8 σ8 H8 _ I8 q8) λb s9 hz=>?_
   obtain⟨H9,I9,q9⟩:=hz
   have back:∀{σ':St}{H':Hp}{s':Shared},Inv (Dg X N scope sD.heap.objs.size sD (upd H2 D (.lst [])) fp) ([]++O3 fp s7.heap) σ' H' s'->tn (i+1) s'.heap/\∀b∈fp,H' b=none:=λ{σ' H' s'}J'=>
    ⟨T.keep _ _ _ st7 λb hb o e=>(J'.pin (b,o) (t4 _ (t4 _ (F8 hb e)))).1,λb hb=>by
     obtain⟨o,e,d⟩:=T.obj _ _ st7 b hb
     exact(J'.pin (b,o) (t4 _ (t4 _ (F8 hb e)))).2.1⟩
   cases b with
   |
    false=>
    obtain⟨m',hm,w9⟩:=(show ∃m',m'<n/\W (i+1) m' ys σ8 H9 from q9)
    exact⟨m',hm,i+1,ys,σ8,H9,I9.unpinned,(back I9).1,(back I9).2,w9⟩
   |
    true=>
    refine thn (hel _ s9 σ8 H9 _ I9 (show te σ8 H9 _ from q9)) λy s10 hz=>?_
    obtain⟨v10,H10,I10,r10,q10⟩:=hz
    obtain⟨hD10,hz,m',hm,w10⟩:=q10
    refine thn (D8 (X:=Dg X N scope sD.heap.objs.size sD (upd H2 D (.lst [])) fp) _ s10 σ8 H10 (.ref D) [v10] (.ref D) [y] (λ_ H'=>H'=upd H10 D (.lst (ys++[v10]))) I10 rfl (.cons r10 .nil) ⟨D,ys,v10,rfl,rfl,hD10,hz,rfl⟩) λ_ s11 hz=>?_
    obtain⟨v11,H11,I11,_,e11⟩:=hz
    subst e11
    exact⟨m',hm,i+1,ys++[v10],σ8,_,I11.unpinned,(back I11).1,(back I11).2,w10⟩
 subst hsD
 subst hD
 exact codeAny_compStart_list loop (T.self _ 0 _ _ _ st4 loop)
section
variable {X:Cx}{x:Str}{pos:Pos}{tg:Expr}
theorem Uw {i:Int}(hg:Gl X x)(hm:∃t,X.mg x=some (.int i t))(hd:(x==("__debug__":Str))=false:=by decide):PE X (.Name x pos) (tC (.int i)):=by
 obtain⟨t,e⟩:=hm
 exact Sx hg e ⟨t,rfl⟩ hd
theorem P4 {y:Str}(hg:Gl X x)(hm:∃t,X.mg x=some (.str y t))(hd:(x==("__debug__":Str))=false:=by decide):PE X (.Name x pos) (tC (.str y)):=by
 obtain⟨t,e⟩:=hm
 exact Sx hg e ⟨t,rfl⟩ hd
theorem B2 {a:Addr}(hg:Gl X x)(hm:X.mg x=some (.ref a))(hd:(x==("__debug__":Str))=false:=by decide):PE X (.Name x pos) (tC (.ref a)):=Sx hg hm rfl hd
theorem Tu:Gd X (.builtin "isinstance") (λxs H Q=>∃x T t b,xs=[x,.ty T]/\Tz X.K H x t/\W.kitOne X.K t (.type T)=some b/\Q (.bl b) H):=by
 intro pins s σ H xs us Q I r h
 obtain⟨x,T,t,b,rfl,ty,e,q⟩:=h
 obtain⟨u,v,rfl,ru,rv⟩:=r.two
 cases rv
 exact Zi I ru ty e λtk=>⟨.bl b,H,I.tok tk,rfl,q⟩
theorem U9:∀{bs:List Bool}{us:List Value},Vals (bs.map V.bl) us->LSm.BoolsAre us bs
 | [],_,.nil=>.nil
 | b::bs,_,.cons r t=>by cases r;exact .cons b (U9 t)
theorem Wk {prog:Program}{w:World}{A:Around}{E:Value->Shared->Prop}{s:Shared}{l:Addr}{vs:List Value}{bs:List Bool}{Q:Value->Shared->Prop}(hh:A.handled=none)(hl:s.heap.IsList l vs.toArray)(hb:LSm.BoolsAre vs bs)
  (h:∀h' tk,(∀b o,s.heap.get? b=some o->h'.get? b=some o)->Q (.bool (bs.all id)) {s with heap:=h',toks:=tk}):wpAny (model prog w) A (call (.builtin "all") [.ref l]) Q E s:=by
 have hlt:l<s.heap.objs.size:=by obtain⟨_,e,_⟩:=hl;exact sr e
 refine call_all_walk (wpAny_pyIter_list hl ?_)
 refine⟨s.heap.objs.size,[s.heap.objs.size,l],[s.heap.objs.size],vs.toArray.size,_,_,λi=>(bs[i]?).getD true,rfl,Walks.list (A:=A.in1) hh _ l (ug hlt) vs.toArray,
  ⟨⟨_,t9 _ rfl,rfl,rfl⟩,hl.push _⟩,λi v s' Q' E' hP hQ=>?_,λh' tk hk=>?_⟩
 ·
  obtain⟨b,e,rfl⟩:=hb.get i v (by simpa using hP)
  simp only[e,Option.getD_some] at hQ
  exact x5 hQ
 ·
  have e:((List.range vs.toArray.size).all λi=>(bs[i]?).getD true)=bs.all id:=by
   rw[su,hb.length];exact LSm.range_all bs
  rw[e]
  exact h h' tk (LSm.kept_iter hk)
theorem bp (hc:X.calm=true):Gd X (.builtin "all") (λxs H Q=>∃(p:Addr)(bs:List Bool),xs=[.ref p]/\SqL X.K H p (bs.map V.bl)/\Q (.bl (bs.all id)) H):=by
 intro pins s σ H xs us Q I r h
 obtain⟨p,bs,rfl,hq,q⟩:=h
 obtain⟨u,rfl,ru⟩:=r.one
 cases ru
 obtain⟨its,rv,pl,hz⟩:=I.list hq
 exact Wk (I.ok.hd hc) pl.isList (U9 rv) λh' tk hk=>⟨.bl _,H,I.kept hk,rfl,q⟩
def Its (y:Str):It:=⟨λi _=>i<y.cps.size,λi H x H'=>H'=H/\∃c,y.cps[i]?=some c/\x=.str ⟨#[c]⟩,λi _=>i=y.cps.size⟩
theorem Rf {prog:Program}{w:World}{A:Around}(hh:A.handled=none)(I:Addr)(y:Str)(t:Tok):Walks prog w A I [I] [I] y.cps.size (SignAt y) (λi h=>h.IsStrIter I (strIterType y) y t i):=by
 unfold strIterType
 split
 · exact Walks.strAscii hh I y t
 · exact Walks.strWide hh I y t
theorem bf {P:Program}{w:World}{K:W.Frag}(y:Str)(t:Tok)(it:Addr):Turn P w K tg (Its y) [it] it (λi h=>h.IsStrIter it (strIterType y) y t i) where
 mem:=by simp
 obj:=λi h st b hb=>by
  have e:b=it:=by simpa using hb
  subst e
  obtain⟨o,e,c,d⟩:=st
  exact⟨o,e,λv z=>by rw[d] at z;cases z⟩
 keep:=λi h h' st k=>by
  obtain⟨o,e,r⟩:=st
  exact⟨o,k it (by simp) o e,r⟩
 item:=by
  intro X hP hw hK hc i pins s σ H E I hf st hg
  subst hP hw hK
  obtain⟨f0,f1,f2,f3,f4,f5⟩:=hf it (by simp)
  have W:=Rf (prog:=X.prog) (w:=X.w) (I.ok.hd hc) it y t
  refine W.item i s _ _ hg st λv h' tk hv st' kk=>?_
  obtain⟨c,t',hc',rfl⟩:=hv
  have I1:Inv X pins σ H {s with heap:=h',toks:=tk}:=I.turned (λb o hb e=>kk b o (by simpa using hb) e) f0 f1 f3 f4 f5
  obtain⟨o,e,c1,d⟩:=id st'
  refine⟨_,rfl,cj (s:={s with heap:=h',toks:=tk}) (n:=strIterType y) e c1 d ?_ ⟨.str ⟨#[c]⟩,H,I1,⟨t',rfl⟩,⟨rfl,c,hc',rfl⟩,st',λb hb=>(hf b hb).1⟩⟩
  unfold strIterType
  split<;>decide
 done:=by
  intro X hP hw hK hc i pins s σ H E I hf st hg
  subst hP hw hK
  have hg':i=y.cps.size:=hg
  subst hg'
  obtain⟨f0,f1,f2,f3,f4,f5⟩:=hf it (by simp)
  have W:=Rf (prog:=X.prog) (w:=X.w) (I.ok.hd hc) it y t
  exact W.done s _ _ st λh' tk kk=>⟨rfl,I.turned (λb o hb e=>kk b o (by simpa using hb) e) f0 f1 f3 f4 f5⟩
 self:=λA i s Q E st h=>by
  obtain⟨o,e,c,d⟩:=id st
  revert st c
  unfold strIterType
  split
  · intro st c;exact wpAny_pyIter_striter_ascii st h
  · intro st c;exact wpAny_pyIter_striter_wide st h
def qf (tl:TE):TI:=λσ H R=>tl σ H λx H1=>∃y,x=.str y/\R (Its y) H1
theorem l6 {l:Expr}{tl:TE}(hl:PE X l tl):PI X tg l (qf tl):=by
 intro pins s σ H R I h
 refine thn (hl pins s σ H _ I h) λv s1 hz=>?_
 obtain⟨x,H1,I1,r1,q1⟩:=hz
 obtain⟨y,e,q⟩:=q1
 subst e
 obtain⟨t,rfl⟩:=r1
 refine wpAny_pyIter_strU ?_
 refine⟨s1.heap.objs.size,[s1.heap.objs.size],_,_,H1,rfl,I1.kept (t':=s1.toks) λb o e=>sj _ e,bf y t _,⟨_,t9 _ rfl,rfl,rfl⟩,λb hb=>?_,q⟩
 have e:b=s1.heap.objs.size:=by simpa using hb
 subst e
 exact I1.fpOk (tq _) (I1.hok.fresh (tq _))
end
section
variable {P:Program}{w:World}{K:W.Frag}{mg:Str->Option Value}{base:Heap}
end
def Seq (J:It)(H:Hp)(xs:List V):Prop:=∀H',Same H H'->(∀(i:Nat)x,xs[i]?=some x->J.go i H'/\∀x' H2,J.yld i H' x' H2->x'=x/\H2=H')/\J.stop xs.length H'
theorem fk (y:Str)(H:Hp):Seq (Its y) H (y.cps.toList.map λc=>.str ⟨#[c]⟩):=λH' _=>by
 refine⟨λi x e=>?_,?_⟩
 ·
  rw[ur] at e
  cases q:y.cps.toList[i]? with
  | none=>rw[q] at e;cases e
  |
   some c=>
   rw[q] at e
   have q':y.cps[i]?=some c:=by simpa using q
   refine⟨(yg.mp q').1,λx' H2 hy=>?_⟩
   obtain⟨e1,c',e2,e3⟩:=hy
   rw[q'] at e2
   cases e2
   exact⟨e3.trans (sy e),e1⟩
 ·
  show _=_
  simp
theorem Eg {K:W.Frag}{H:Hp}{a:Addr}{xs:List V}(h:SqL K H a xs):Seq (Itl K a) H xs:=λH' s=>by
 have h':=s.seq h
 refine⟨λi x e=>⟨⟨xs,x,h',e⟩,λx' H2 hy=>?_⟩,⟨xs,h',tq _⟩⟩
 obtain⟨e1,e2⟩:=hy
 have:=e2 xs h'
 rw[e] at this
 exact⟨(sy this).symm,e1⟩
theorem Ah {H:Hp}{p:Addr}{o:HO}(h:H p=none):Same H (upd H p o):=λb u e=>by rw[Ad (Am e h)];exact e
theorem Iw {J:It}{xs:List V}{g:TG}{tb:TS}{D:Ends}{σ:St}{H0 H:Hp}(hJ:Seq J H0 xs)(Pv:Nat->St->Hp->Prop)(h0:Pv 0 σ H)(hsm:∀i σ H,i<=xs.length->Pv i σ H->Same H0 H)
  (hs:∀(i:Nat)x σ H,xs[i]?=some x->Pv i σ H->g x σ H λσ2 H2=>tb {D with nx:=Pv (i+1),ct:=Pv (i+1),bk:=D.nx} σ2 H2) (hd:∀σ H,Pv xs.length σ H->D.nx σ H):
  ∃W:Nat->Nat->St->Hp->Prop,(∃m,W 0 m σ H)/\∀i m σ H,W i m σ H->
   (J.stop i H/\D.nx σ H)∨(J.go i H/\∃N:St->Hp->Prop,(∀σ' H',N σ' H'->∃m',m'<m/\W (i+1) m' σ' H')/\∀x H',J.yld i H x H'->g x σ H' λσ2 H2=>tb {D with nx:=N,ct:=N,bk:=D.nx} σ2 H2):=by
 refine⟨λi m σ H=>m=xs.length-i/\i<=xs.length/\Pv i σ H,⟨xs.length,by simp,u5 _,h0⟩,?_⟩
 rintro i m σ H ⟨rfl,hi,p⟩
 obtain⟨q1,q2⟩:=hJ H (hsm i σ H hi p)
 by_cases hlt:i<xs.length
 ·
  have e:xs[i]?=some xs[i]:=by simp[hlt]
  obtain⟨go,y⟩:=q1 i _ e
  refine .inr ⟨go,Pv (i+1),λσ' H' p'=>⟨xs.length-(i+1),by lia,rfl,hlt,p'⟩,λx H' hy=>?_⟩
  obtain⟨rfl,rfl⟩:=y x H' hy
  exact hs i _ σ _ e p
 ·
  have e:i=xs.length:=by lia
  subst e
  exact .inl ⟨q2,hd σ H p⟩
theorem Zh {J:It}{cap:List (Option Nat)}{tt:TT}{te:TE}{σ:St}{H1:Hp}{Q:VK}{xs:List V}(hJ:Seq J H1 xs)(p:V->Bool)(f:V->V)(hsz:xs.length<=100000)
  (hp:∀x∈xs,∀H',Same H1 H'->∀R:Bool->Hp->Prop,(∀H'',Same H' H''->R (p x) H'')->tt ((Oi cap σ).set 0 (some x)) H' R)
  (he:∀x∈xs,p x=true->∀H',Same H1 H'->∀R:VK,(∀H'',Same H' H''->R (f x) H'')->te ((Oi cap σ).set 0 (some x)) H' R)
  (k:∀D H',Same H1 H'->H1 D=none->H' D=some (.lst ((xs.filter p).map f))->Q (.ref D) H'):
  Mm J H1 cap (Wa 0) tt te σ Q:=by
 intro D hD
 refine⟨λi m ys σ' H'=>m=xs.length-i/\i<=xs.length/\(∀v,σ'.set 0 v=(Oi cap σ).set 0 v)/\H' D=some (.lst ys)/\Same H1 H'/\ys=((xs.take i).filter p).map f,
  ⟨xs.length,by simp,u5 _,λ_=>rfl,Ab,Ah hD,by simp⟩,?_⟩
 rintro i m ys σ' H' ⟨rfl,hi,hσ,hl,sm,hys⟩
 refine⟨hl,?_⟩
 obtain⟨q1,q2⟩:=hJ H' sm
 by_cases hlt:i<xs.length
 ·
  have e:xs[i]?=some xs[i]:=by simp[hlt]
  obtain⟨go,y⟩:=q1 i _ e
  refine .inr ⟨go,λx H2 hy=>?_⟩
  obtain⟨rfl,rfl⟩:=y x H2 hy
  have hm:xs[i]∈xs:=xk hlt
  have etake:xs.take (i+1)=xs.take i++[xs[i]]:=by rw[Aab,e];rfl
  show tt (σ'.set 0 (some xs[i])) _ _
  rw[hσ]
  refine hp _ hm _ sm _ λH4 s4=>?_
  have hss:∀v,((Oi cap σ).set 0 (some xs[i])).set 0 v=(Oi cap σ).set 0 v:=λv=>by rw[List.set_set]
  cases hb:p xs[i] with
  |
   false=>
   refine Jw ⟨xs.length-(i+1),by lia,rfl,hlt,hss,s4 _ _ hl,sm.trans s4,?_⟩
   rw[etake,yv,hys]
   simp[hb]
  |
   true=>
   refine P8 ?_
   refine he _ hm hb _ (sm.trans s4) _ λH5 s5=>?_
   have hl5:=s5 _ _ (s4 _ _ hl)
   refine⟨hl5,?_,xs.length-(i+1),by lia,rfl,hlt,hss,Ab,λb o eb=>?_,?_⟩
   ·
    have h1:ys.length<=xs.length:=by
     rw[hys,sf]
     exact uy (v9 _ _) (List.length_take_le' _ _)
    have h2:(100000:Nat)<sizeLine:=by decide
    lia
   ·
    rw[Ad (Am eb hD)]
    exact s5 _ _ (s4 _ _ (sm _ _ eb))
   ·
    rw[etake,yv,hys]
    simp[hb]
 ·
  have e:i=xs.length:=by lia
  subst e
  refine .inl ⟨q2,k D _ sm hD ?_⟩
  rw[hl,hys,yl]
section
variable {X:Cx}
theorem Rz:OpR X (compareOp .In) (λx y H Q=>∃c j,x=.str ⟨#[c]⟩/\y=.str j/\Q (.bl (decide (c∈j.cps.toList))) H):=by
 intro pins s σ H x y v u Q I rx ry h
 obtain⟨c,j,rfl,rfl,q⟩:=h
 refine Zb pins s σ H _ _ v u Q I rx ry ⟨_,j,rfl,rfl,?_⟩
 rw[StrLaws.found_one]
 exact q
end
theorem Ye {α:Type}{xs:List α}{i:Int}(h0:0<=i)(h1:i<xs.length):atI xs i=some (xs[i.toNat]'(by lia)):=by
 have:=Dv (xs:=xs) (j:=i.toNat) (v:=xs[i.toNat]'(by lia)) (by simp)
 rw[show((i.toNat:Nat):Int)=i by lia] at this
 exact this
theorem Pm {ts:List Str}{i:Int}(h0:0<=i)(h1:i<ts.length):∃t,t∈ts/\atI (ts.map V.str) i=some (.str t):=by
 refine⟨ts[i.toNat]'(by lia),xk _,?_⟩
 rw[Ye h0 (by simpa using h1)]
 simp
theorem Vz {ts:List Int}{i:Int}(h0:0<=i)(h1:i<ts.length):∃t,t∈ts/\atI (ts.map V.int) i=some (.int t):=by
 refine⟨ts[i.toNat]'(by lia),xk _,?_⟩
 rw[Ye h0 (by simpa using h1)]
 simp
def litOf:Expr->Option V
 | .Constant (.int i) _ _=>some (.int i)
 | .Constant (.str x) _ _=>some (.str x)
 | .Constant (.bool b) _ _=>some (.bl b)
 | .Constant .none _ _=>some .non
 | .UnaryOp .USub (.Constant (.int i) _ _) _=>some (.int (-i))
 | _=>none
def litsOf:List Expr->Option (List V)
 | []=>some []
 |
  e::r=>match litOf e,litsOf r with
  | some v,some vs=>some (v::vs)
  | _,_=>none
theorem jq {X:Cx}{e:Expr}{v:V}(h:litOf e=some v):PE X e (tC v)/\∀es:List Expr,starEach (e::es) X.env=(false,eval e X.env)::starEach es X.env:=by
 unfold litOf at h
 split at h
 · cases h;exact⟨Ae,λ_=>rfl⟩
 · cases h;exact⟨C1,λ_=>rfl⟩
 · cases h;exact⟨Sn,λ_=>rfl⟩
 · cases h;exact⟨ef,λ_=>rfl⟩
 ·
  rename_i i j p q
  cases h
  refine⟨λpins s σ H Q I hq=>Wu Oe Ae pins s σ H Q I ⟨_,rfl,hq⟩,λ_=>rfl⟩
 · cases h
theorem U6 {X:Cx}:∀{es:List Expr}{vs:List V},litsOf es=some vs->PA X es (λ_ H Q=>Q vs H)
 | [],vs,h=>by cases h;exact Ac
 |
  e::r,vs,h=>by
  unfold litsOf at h
  split at h
  ·
   rename_i v ws h1 h2
   cases h
   have p:=jq (X:=X) h1
   exact Aa p.1 (U6 h2) (p.2 r)
  · cases h
def litsAre (es:List Expr)(vs:List V):Bool:=decide (litsOf es=some vs)
theorem Pg {X:Cx}{es:List Expr}(vs:List V)(h:litsAre es vs=true):PA X es (λ_ H Q=>Q vs H):=U6 (tw h)
end L2
namespace L2
end L2
namespace L2
open PySem PySem.Spec PyProof.Rows
def vE:List Value:=[.type "ValueError",.type "Exception",.type "BaseException",.type "object"]
theorem g4 {K:W.Frag}{h:Heap}{C:Addr}{bmB:List Value}{newId:String}(X:K.In h)(q:W.excIn K C bmB newId=true):
  ∃bm N nm qn bs hd sn sub ab col dd k0 k1 k2 k3 k5 mN,h.get? C=some (excClassObj nm qn C N bs bm hd sn sub ab col dd k0 k1 k2 k3 k5 newId)/\h.Ns N mN/\mN "__init__"=none/\OwnTail h bmB bm:=by
 unfold W.excIn at q
 split at q
 case h_2=>cases q
 case h_1 dct cdat slots look=>
  split at q
  case h_2=>cases q
  case h_1 C2 tl a0 a1 a2 a3 nw a5 e1 e2=>
   simp only[vh,beq_iff_eq,Bool.not_eq_true'] at q
   obtain⟨⟨⟨⟨⟨z1,z2⟩,z3⟩,z4⟩,z5⟩,z6⟩:=q
   subst z1 z2
   obtain⟨nm,bs,mro,ns,qn,hd,sn,sub,ab,col,del⟩:=cdat
   dsimp only at e1 z3 z5 z6
   subst e1 z3
   have es:slots=#[a0,a1,a2,a3,some (.builtin nw),a5]:=by
    cases slots
    exact vi Array.mk e2
   subst es
   exact⟨tl,ns,nm,qn,bs,hd,sn,sub,ab,col,dct,a0,a1,a2,a3,a5,_,X _ _ look,.of_isNs (W.isNs_of_in X z5),W.nsMap_none_of_in X z5 z6,W.tail_of_in X z4⟩
theorem HOk.tracked {P:Program}{w:World}{H:Hp}{h h':Heap}(x:HOk P w H h)(k:∀b u o,H b=some u->h.get? b=some o->h'.get? b=some o):HOk P w H h':=λa o e=>
 (x a o e).stay (λb u hb q=>by
  rcases hb with hb|hb
  · subst hb;exact k _ _ _ e q
  · exact k _ _ _ hb q) (λ_ q=>q) λ_ _ q=>q
def CXe (P:Program)(w:World):CXT:=λouter H s E ev s'=>∃(ea t C:Addr)(H':Hp)(B:Heap),ev=.ref ea/\s'.os=s.os/\AllBare s'.gens/\
 Un (frs outer) [] H H' s.heap s'.heap/\HOk P w H' s'.heap/\Heap.FlyingW B outer ea (.ref C) (.ref t) s'.heap/\
 (∀b o,s.heap.get? b=some o->H b=none->b∉frs outer->B.get? b=some o)/\(∀b o,s.heap.get? b=some o->b∉frs outer->∃o',B.get? b=some o')/\
 (∀b u o,H' b=some u->s'.heap.get? b=some o->B.get? b=some o)/\H' ea=none/\s.heap.get? ea=none/\E (.ref C) none H'
theorem i5 {P:Program}{w:World}{X:Cx}:Passes (CXe P w) X (λ_ _ _=>False):=λ_ _ _ _ _ _ _ c=>by
 obtain⟨_,_,_,_,_,_,_,_,_,_,_,_,_,_,_,_,q⟩:=c
 exact q.elim
theorem HOk.there {P:Program}{w:World}{H:Hp}{h:Heap}{b:Addr}{v:HO}(ok:HOk P w H h)(e:H b=some v):∃o',h.get? b=some o':=by
 have:=ok b v e
 cases v with
 | lst xs=>obtain⟨_,_,_,_,z⟩:=this;exact⟨_,z⟩
 | tup xs=>obtain⟨_,_,_,o,z,_⟩:=this;exact⟨_,z⟩
 | dK kvs=>obtain⟨_,_,_,_,o,_,_,z,_⟩:=this;exact⟨_,z⟩
 | dT kvs=>obtain⟨_,_,_,_,o,_,_,z,_⟩:=this;exact⟨_,z⟩
 | set S n=>obtain⟨o,_,_,_,z,_⟩:=this;exact⟨_,z⟩
 | ins C dx fs=>obtain⟨_,_,_,z,_⟩:=this;exact⟨_,z⟩
 | own y=>exact this
 | xd fs=>obtain⟨_,⟨_,_,_,z,_⟩,_⟩:=this;exact⟨_,z⟩
 | rng lo hi=>obtain⟨_,_,_,z⟩:=this;exact⟨_,z⟩
 | frz ob u=>obtain⟨z,_⟩:=this;exact⟨_,z⟩
 | tbl ps=>exact⟨_,this⟩
 | met f y=>exact⟨_,this⟩
 | ext φ=>exact this.2.1
section
variable {X:Cx}{pins:List (Addr×Obj)}{σ:St}{H H':Hp}{s:Shared}{h h2 B:Heap}
theorem lies_of (I:Inv X pins σ H s)(hst:X.stack=X.env::X.outer)(hex:X.ex=[])(u:Un (frs X.stack) [] H H' s.heap h)(ok:HOk X.prog X.w H' h)
  (oldB:∀b o,s.heap.get? b=some o->H b=none->b∉frs X.stack->B.get? b=some o) (thB:∀b o,s.heap.get? b=some o->b∉frs X.stack->∃o',B.get? b=some o')
  (trB:∀b u o,H' b=some u->h.get? b=some o->B.get? b=some o) (st:B.StaysIn h2) (up:h.UpToSlots h2):
  Un (frs X.outer) [] X.H₀ H' X.s₀.heap h2/\HOk X.prog X.w H' h2/\(∀b o,X.s₀.heap.get? b=some o->X.H₀ b=none->b∉frs X.outer->B.get? b=some o)/\
   (∀b o,X.s₀.heap.get? b=some o->b∉frs X.outer->∃o',B.get? b=some o')/\(∀b u o,H' b=some u->h2.get? b=some o->B.get? b=some o):=by
 have nx:∀b,b∉X.ex:=λb=>by rw[hex];simp
 have nst:∀b o,X.s₀.heap.get? b=some o->b∉frs X.outer->b∉frs X.stack:=λb o e hb z=>by
  rcases uq.mp (I.stkSub b z) with q|q
  · exact absurd q (ug (uw (sr e) I.ok.above))
  · exact hb q
 have sub:∀b,b∈frs X.outer->b∈frs X.stack:=λb hb=>by
  rw[hst]
  unfold frs at*
  rw[vz]
  split
  · exact hb
  · exact sq _ hb
 have old:∀b o,X.s₀.heap.get? b=some o->X.H₀ b=none->b∉frs X.outer->B.get? b=some o:=λb o e n hb=>oldB b o (I.base.keep b o e n hb (nx b)) (I.base.free b o e n (nx b)) (nst b o e hb)
 have th:∀b o,X.s₀.heap.get? b=some o->b∉frs X.outer->∃o',B.get? b=some o':=λb o e hb=>by
  obtain⟨o',e'⟩:=I.base.there b o e (nx b)
  exact thB b o' e' (nst b o e hb)
 have sl:∀b o,X.s₀.heap.get? b=some o->b∈frs X.outer->∃sl,h2.get? b=some {o with slots:=sl}:=λb o e hb=>by
  have n0:=I.ok.frf b hb
  obtain⟨s1,e1⟩:=I.base.slot b o e n0 hb (nx b)
  obtain⟨s2,e2⟩:=u.slot b _ e1 (I.base.free b o e n0 (nx b)) (sub b hb) (by simp)
  obtain⟨_,o',e',nf⟩:=I.ok.funs.mem hb
  rw[e] at e'
  cases e'
  obtain⟨s3,e3⟩:=up b _ e2 nf
  exact⟨s3,e3⟩
 refine⟨⟨λb o e n hb _=>st b o (old b o e n hb),λb o e n hb _=>sl b o e hb,λb o e n _=>?_,λb o e _=>?_,λb xs e=>u.tups b xs (I.base.tups b xs e),λb o v e=>u.frzs b o v (I.base.frzs b o v e),λb ps e=>?_⟩,
  ok.tracked λb v o e q=>st b o (trB b v o e q),old,th,λb v o e q=>?_⟩
 ·
  obtain⟨o',e'⟩:=I.base.there b o e (nx b)
  exact u.free b o' e' (I.base.free b o e n (nx b)) (by simp)
 ·
  by_cases hb:b∈frs X.outer
  ·
   obtain⟨s1,e1⟩:=sl b o e hb
   exact⟨_,e1⟩
  ·
   obtain⟨o',e'⟩:=th b o e hb
   exact⟨o',st b o' e'⟩
 ·
  obtain⟨m1,e1⟩:=I.base.tbls b ps e
  obtain⟨m2,e2⟩:=u.tbls b _ e1
  exact⟨m1++m2,by rw[e2,Array.append_assoc]⟩
 ·
  have hl:=ok.lt e
  obtain⟨o',e'⟩:=ok.there e
  have z:=trB b v o' e e'
  have:=st b o' z
  rw[q] at this
  cases this
  exact z
end
def Raises (X:Cx)(E:XK):Prop:=∀(pins:List (Addr×Obj))(σ:St)(H:Hp)(s:Shared)(e C:Addr)(h':Heap)(vs:List Value),Inv X pins σ H s->Heap.MadeExcOf s.heap h' e (.ref C) vs->E (.ref C) none H->X.xe (.ref e) {s with heap:=h'}
section
variable {cm:Bool}{P:Program}{w:World}{K:W.Frag}{mg:Str->Option Value}{base:Heap}{N:List Str}{qual:Str}{scope:Scope}{f:Addr}{cd:Value}{A:Around}{outer:List Env}{s:Shared}{H:Hp}{E:XK}
theorem G5:Raises (Uz (CXe P w) cm P w K mg base N qual scope f cd A outer s H E) E:=by
 intro pins σ H1 s1 e C h' vs I mx q
 have old:∀b o,s1.heap.get? b=some o->H1 b=none->b∉frs (Uz (CXe P w) cm P w K mg base N qual scope f cd A outer s H E).stack->(W.hideAll s1.heap (frs (Uz (CXe P w) cm P w K mg base N qual scope f cd A outer s H E).stack)).get? b=some o:=λb o e _ hb=>W.hideAll_get _ e hb
 have nfr:∀b u,H1 b=some u->b∉frs (Uz (CXe P w) cm P w K mg base N qual scope f cd A outer s H E).stack:=λb u e z=>by
  have:=I.stkFree b z
  rw[e] at this
  cases this
 have ok1:HOk P w H1 h':=I.hok.kept mx.keeps
 have tr:∀b u o,H1 b=some u->h'.get? b=some o->(W.hideAll s1.heap (frs (Uz (CXe P w) cm P w K mg base N qual scope f cd A outer s H E).stack)).get? b=some o:=λb u o e z=>by
  have hl:b<s1.heap.objs.size:=I.hok.lt e
  cases q1:s1.heap.get? b with
  |
   none=>
   obtain⟨o',e'⟩:=I.hok.there e
   rw[q1] at e'
   cases e'
  |
   some o'=>
   have:=mx.keeps b o' q1
   rw[z] at this
   cases this
   exact W.hideAll_get _ q1 (nfr b u e)
 refine wpAny_leaves_madeW (s:={s1 with heap:=h'}) (base:=W.hideAll s1.heap (frs (Uz (CXe P w) cm P w K mg base N qual scope f cd A outer s H E).stack)) (h:=s1.heap) I.ok.frames rfl (λb o z=>W.of_hideAll _ z) (W.funFrames_hide I.stack λenv he b hb=>wy.mpr ⟨env,he,hb⟩) mx λh2 t fl tup ht up=>?_
 obtain⟨u1,o1,b1,t1,r1⟩:=lies_of I rfl rfl (Un.kept mx.keeps) ok1 old (λb o e hb=>⟨o,W.hideAll_get _ e hb⟩) tr fl.1 up
 refine⟨e,t,C,H1,_,rfl,I.os,I.bare,u1,o1,fl,b1,t1,r1,?_,?_,q⟩
 ·
  cases z:H1 e with
  | none=>rfl
  |
   some v=>
   obtain⟨o',e'⟩:=I.hok.there z
   have:=mx.new
   rw[e'] at this
   cases this
 ·
  cases z:s.heap.get? e with
  | none=>rfl
  |
   some o=>
   obtain⟨o',e'⟩:=I.base.there e o z (λq=>nomatch q)
   have:=mx.new
   rw[e'] at this
   cases this
theorem La:Passes (CXe P w) (Uz (CXe P w) cm P w K mg base N qual scope f cd A outer s H E) E:=by
 intro pins σ H1 s1 e s' I c
 obtain⟨ea,t,C,H',B,rfl,os,bare,u,ok,fl,oldB,thB,trB,n1,n2,q⟩:=c
 refine wpAny_leaves_onW (s:=s') I.ok.frames rfl fl λh2 fl' up=>?_
 obtain⟨u1,o1,b1,t1,r1⟩:=lies_of I rfl rfl u ok oldB thB trB fl'.1 up
 refine⟨ea,t,C,H',B,rfl,os.trans I.os,bare,u1,o1,fl',b1,t1,r1,n1,?_,q⟩
 cases z:s.heap.get? ea with
 | none=>rfl
 |
  some o=>
  obtain⟨o',e'⟩:=I.base.there ea o z (λq=>nomatch q)
  rw[n2] at e'
  cases e'
theorem Fun.okE {x:Str}{st:Stmt}{f:Addr}{fd:FuncData}{N ps:List Str}{k:Nat}{sp:Sp}(F:Fun K x qual st f fd)(S:A3 N ps (Ai st))(len:∀vs H Q E,sp vs H Q E->vs.length=ps.length)
  (hbody:∀(cdv:Value)(A:Around)(outer:List Env)(s:Shared)(H:Hp)(vs:List V)(Q:VK)(E:XK),Room cm k (A.deeper (envOfC qual (Ai st) s.heap.objs.size f cdv))->sp vs H Q E->
   ∃t,PSs (Uz (CXe P w) cm P w K mg base N qual (Ai st) f cdv A outer s H E) (Az st) t/\t {nx:=λ_ H'=>Q .non H',rt:=λ_=>Q} (start N vs) H):FnOk P w K mg base (CXe P w) cm (k+1) f fd ps sp:=by
 obtain⟨oc,od,kV,doc,pm,an,cdv,ct,osl,rfl,lk,hcd⟩:=F.ex
 exact ll lk hcd S len λA outer s H vs Q E hr h=>hbody cdv A outer s H vs Q E hr h
end
section
variable {X:Cx}{E:XK}{x:Str}{C:Addr}{np cpos pos:Pos}{e0:Expr}{es:List Expr}{t:TA}
theorem Kf (R:Raises X E)(hc:X.calm=true)(hg:Gl X x)(hm:X.mg x=some (.ref C))(q:W.excIn X.K C vE "ValueError.__new__"=true)(ha:PA X (e0::es) t)
  (he:starEach (e0::es) X.env=(false,eval e0 X.env)::starEach es X.env:=by rfl) (hpl:(backTo cpos (starEach es X.env)).any (·.1)=false:=by rfl) (hd:(x==("__debug__":Str))=false:=by decide):
  PS X (.Raise (some (.Call (.Name x np) (e0::es) [] cpos)) none pos) (λ_ σ H=>t σ H λvs H1=>vs.length<=sizeLine/\E (.ref C) none H1):=by
 intro pins s σ H D I h
 obtain⟨bm,N,nm,qn,bs,hdc,sn,sub,ab,col,dd,k0,k1,k2,k3,k5,mN,hC,hN,hni,TL⟩:=g4 I.mod.kin q
 refine wpAny_Raise_call_subT (C:=C) (nm:=nm) (q:=qn) (N:=N) (bs:=bs) (bm:=bm) (hdct:=hdc) (sn:=sn) (sub:=sub) (ab:=ab) (col:=col) (dd:=dd) (k0:=k0) (k1:=k1) (k2:=k2) (k3:=k3) (k5:=k5)
  PySem.F.excBase_ValueError (mN:=mN) (TL.hasType PySem.F.excBase_ValueError.hasBase) (I.ok.hd hc) (by rw[he];show(false||(backTo cpos (starEach es X.env)).any (·.1))=false;rw[hpl];rfl) hni (Lc I hg hm ⟨rfl,?_⟩ hd)
 have w1:=ha cpos pins s σ H _ I h
 rw[he] at w1 ⊢
 exact Aa9 (thn w1 λus s1 ⟨vs,H1,I1,r1,z,q1⟩=>⟨rfl,by rw[←r1.length];exact z,I1.bk _ _ hC,hN.keeps I1.bk,TL.keeps I1.bk,λh' e mx=>R pins σ H1 s1 e C h' us I1 mx q1⟩)
end
def Cx.hnd (X:Cx)(e:Value):Cx:={X with A:=X.A.mark (some e),calm:=false,xe:=λ_ _=>False}
theorem Inv.hnd {X:Cx}{pins:List (Addr×Obj)}{σ:St}{H:Hp}{s:Shared}(I:Inv X pins σ H s)(e:Value):Inv (X.hnd e) pins σ H s:=
 ⟨⟨
  I.ok.mod,I.ok.kind,I.ok.glob,I.ok.blt,I.ok.above,I.ok.inj,I.ok.has,I.ok.cab,(λz=>nomatch z),I.ok.frames,I.ok.stk,I.ok.exf,I.ok.bs,I.ok.bsz,I.ok.noex,I.ok.exfs,I.ok.funs,I.ok.frf⟩,
  I.os,I.bare,I.base,I.loc,I.cell,I.free,I.freeC,I.pin,I.hok,I.len⟩
theorem Inv.unhnd {X:Cx}{pins:List (Addr×Obj)}{σ:St}{H:Hp}{s:Shared}{e:Value}(ok:X.Ok)(I:Inv (X.hnd e) pins σ H s):Inv X pins σ H s:=
 ⟨ok,I.os,I.bare,I.base,I.loc,I.cell,I.free,I.freeC,I.pin,I.hok,I.len⟩
def Pn (CX:CXT)(X:Cx)(σ:St)(E:XK):Prop:=∀(pins:List (Addr×Obj))(H:Hp)(s:Shared)(e:Value)(s':Shared),Inv X pins σ H s->CX X.stack H s E e s'->X.xe e s'
section
variable {X:Cx}{CX:CXT}{cm:Bool}{k:Nat}{f:Addr}{fd:FuncData}{ps:List Str}{sp:Sp}{dvs:List V}{ds:List Value}{E:St->XK}{x:Str}{p pos:Pos}{e:Expr}{es:List Expr}{t:TA}
end
structure Catch (K:W.Frag)(Cc:Addr):Prop where
 ty:W.typeIn K (.ref Cc)=some (.type "type")
 mb:W.mroIn K Cc (.type "BaseException")=some true
theorem Catch.cls {K:W.Frag}{Cc:Addr}(c:Catch K Cc):∃cd,W.clsIn K Cc=some cd:=by
 obtain⟨cd,a,_⟩:=Option.bind_eq_some_iff.mp c.mb
 exact⟨cd,a⟩
theorem P1 {K:W.Frag}{prog:Program}{w:World}{A:Around}{E:Value->Shared->Prop}{s:Shared}{Q:Bool->Shared->Prop}{e Cc C:Addr}{oe:Obj}(X:K.In s.heap)(he:s.heap.get? e=some oe)(hc:oe.cls=.ref C)
  (ct:Catch K Cc) (ms:W.mroIn K C (.ref Cc)=some true) (q:Q true s):wpAny (model prog w) A (excMatches (.ref e) (.ref Cc)) Q E s:=by
 obtain⟨cd,hcd⟩:=ct.cls
 have L3:=W.looks_mroIn (M:=model prog w) X ct.mb
 have L4:=W.looks_mroIn (M:=model prog w) X ms
 have same:∀b o,s.heap.get? b=some o->s.heap.get? b=some o:=λ_ _ z=>z
 have f:=tc_notTuple
 unfold W.clsIn at hcd
 split at hcd
 case h_2=>cases hcd
 case h_1 a1 a2 a3 a4 lk=>
  have ho:=X _ _ lk
  have ty:Option.map (λo:Obj=>o.cls) (K.lookup Cc)=some (.type "type"):=ct.ty
  rw[lk] at ty
  have ty':a1=.type "type":=sy ty
  subst ty'
  obtain⟨hp,g,d,tk,os⟩:=s
  have M3:∀(A:Around)(Q:Bool->Shared->Prop)(E:Value->Shared->Prop),Q true ⟨hp,g,d,tk,os⟩->wpAny (model prog w) A (isSubtype (.ref Cc) (.type "BaseException")) Q E ⟨hp,g,d,tk,os⟩:=λA Q E z=>L3 A Q E _ same z
  have M4:∀(A:Around)(Q:Bool->Shared->Prop)(E:Value->Shared->Prop),Q true ⟨hp,g,d,tk,os⟩->wpAny (model prog w) A (isSubtype (.ref C) (.ref Cc)) Q E ⟨hp,g,d,tk,os⟩:=λA Q E z=>L4 A Q E _ same z
  unfold excMatches
  repeat (first|(with_reducible refine wpAny_loadPart_at he ?_;rw[hc])|with_reducible refine wpAny_loadPart_at ho ?_|with_reducible refine M3 _ _ _ ?_|with_reducible refine M4 _ _ _ ?_|wp_step)
  exact q
def Cx.tryx (X:Cx)(pins:List (Addr×Obj))(Eb:Value->Shared->Prop):Cx:={X with pn:=X.pn++pins,xe:=Eb}
section
variable {X:Cx}{pins pins':List (Addr×Obj)}{σ:St}{H H':Hp}{s:Shared}{Eb:Value->Shared->Prop}{h h2 B:Heap}
theorem Inv.tryx (I:Inv X pins σ H s)(Eb:Value->Shared->Prop):Inv (X.tryx pins Eb) [] σ H s:=
 ⟨⟨
  I.ok.mod,I.ok.kind,I.ok.glob,I.ok.blt,I.ok.above,I.ok.inj,I.ok.has,I.ok.cab,I.ok.hd,I.ok.frames,I.ok.stk,I.ok.exf,I.ok.bs,I.ok.bsz,I.ok.noex,I.ok.exfs,I.ok.funs,I.ok.frf⟩,
  I.os,I.bare,I.base,I.loc,I.cell,I.free,I.freeC,(λp hp=>I.pin p (by simpa[Cx.tryx] using hp)),I.hok,I.len⟩
theorem Inv.untryx (ok:X.Ok)(I:Inv (X.tryx pins Eb) pins' σ H s):Inv X pins σ H s:=
 ⟨ok,I.os,I.bare,I.base,I.loc,I.cell,I.free,I.freeC,(λp hp=>I.pin p (vc _ hp)),I.hok,I.len⟩
theorem Inv.landed (I:Inv X pins σ H s){s':Shared}(os:s'.os=s.os)(bare:AllBare s'.gens)(u:Un (frs X.stack) [] H H' s.heap s'.heap)(ok:HOk X.prog X.w H' s'.heap)
  (oldB:∀b o,s.heap.get? b=some o->H b=none->b∉frs X.stack->B.get? b=some o) (thB:∀b o,s.heap.get? b=some o->b∉frs X.stack->∃o',B.get? b=some o')
  (trB:∀b u o,H' b=some u->s'.heap.get? b=some o->B.get? b=some o) (st:B.StaysIn h2) (up:s'.heap.UpToSlots h2):Inv X pins σ H' {s' with heap:=h2}:=by
 have sl:∀b o,s.heap.get? b=some o->H b=none->b∈frs X.stack->∃sl,h2.get? b=some {o with slots:=sl}:=λb o e n hb=>by
  obtain⟨s2,e2⟩:=u.slot b o e n hb (by simp)
  obtain⟨_,o',e',nf⟩:=I.stack.mem hb
  rw[e] at e'
  cases e'
  obtain⟨s3,e3⟩:=up b _ e2 nf
  exact⟨s3,e3⟩
 refine I.call' (s':={s' with heap:=h2}) (ch:=[]) os ⟨λb o e n hb _=>st b o (oldB b o e n hb),λb o e n hb _=>sl b o e n hb,u.free,λb o e _=>?_,u.tups,u.frzs,u.tbls⟩ (ok.tracked λb v o e q=>st b o (trB b v o e q)) bare (λb z=>nomatch z)
 by_cases hb:b∈frs X.stack
 ·
  obtain⟨s1,e1⟩:=sl b o e (I.stkFree b hb) hb
  exact⟨_,e1⟩
 ·
  obtain⟨o',e'⟩:=thB b o e hb
  exact⟨o',st b o' e'⟩
end
section
variable {X:Cx}
theorem Z5:SlR X (λx lo hi H Q=>∃z,x=.str z/\z.length<=sizeLine/\Q (.str (Txt.slice z lo hi)) H):=by
 intro pins s σ H x v vl vu lo hi sl Q I rx hs pl pu h
 obtain⟨z,rfl,hz,q⟩:=h
 obtain⟨t,rfl⟩:=rx
 refine⟨"str",_,F.slot_str_getitem.lookup,typeIs_str _ _ _,?_⟩
 cases pl with
 |
  none=>
  cases pu with
  | none=>exact za (l:=none) (u:=none) (st:=none) hs rfl (Aa2 ⟨uy (Txt.slice_le z _ _) hz,λt' k=>⟨.str _,H,I.tok _,⟨_,rfl⟩,q⟩⟩)
  | int j uj=>exact za (l:=none) (u:=some (j,uj)) (st:=none) hs rfl (Aa2 ⟨uy (Txt.slice_le z _ _) hz,λt' k=>⟨.str _,H,I.tok _,⟨_,rfl⟩,q⟩⟩)
 |
  int i ui=>
  cases pu with
  | none=>exact za (l:=some (i,ui)) (u:=none) (st:=none) hs rfl (Aa2 ⟨uy (Txt.slice_le z _ _) hz,λt' k=>⟨.str _,H,I.tok _,⟨_,rfl⟩,q⟩⟩)
  | int j uj=>exact za (l:=some (i,ui)) (u:=some (j,uj)) (st:=none) hs rfl (Aa2 ⟨uy (Txt.slice_le z _ _) hz,λt' k=>⟨.str _,H,I.tok _,⟨_,rfl⟩,q⟩⟩)
end
section
variable {X:Cx}
end
end L2
namespace L2
open PySem PySem.Spec PySem.Calls PyProof.Rows Builtin Builtin.ObjectAttr Builtin.Getset_descriptor
structure ExC (K:W.Frag)(C:Addr):Prop where
 cs:(W.clsIn K C).isSome=true
 ga:W.findIn K (.ref C) "__getattribute__"=some (some (.builtin "BaseException.__getattribute__"))
 gn:W.findIn K (.ref C) "__getattr__"=some none
 ca:W.findIn K (.ref C) "__class__"=some (some (.builtin "object.__class__"))
 sg:W.specialIn K (.builtin "object.__class__") "__get__"=some (some (.builtin "getset_descriptor.__get__"))
 tk:W.takesIn K (.builtin "object.__class__")=some true
 mo:W.mroIn K C (.type "object")=some true
 mb:W.mroIn K C (.type "BaseException")=some true
def ExcAt (e C:Addr)(h:Heap):Prop:=∃oe,h.get? e=some oe/\oe.cls=.ref C
theorem ExcAt.type {M:Model}{e C:Addr}{h:Heap}(p:ExcAt e C h):W.Looks M h (typeOf (.ref e)) (.ref C):=by
 obtain⟨oe,a,b⟩:=p
 exact b▸(W.Looks.ld a).andThen .now
section
variable {prog:Program}{w:World}{K:W.Frag}{e C:Addr}
theorem T5 {A:Around}{R:Result->Shared->Prop}{tp:Value}{s:Shared}(X:K.In s.heap)(p:ExcAt e C s.heap)(mo:W.mroIn K C (.type "object")=some true)
  (z:R (.ok (.ret (.ref C))) s):codeAny (model prog w) A (.call (.builtin "getset_descriptor.__get__") ⟨[.builtin "object.__class__",.ref e,tp],[]⟩) R s:=by
 obtain⟨h0,g0,d0,t0,o0⟩:=s
 have K0:=p.type (M:=model prog w)
 have K1:=W.looks_mroIn (M:=model prog w) X mo
 refine Aa8 W.KF.slot_gs.plain W.KF.entry_gs ?_
 refine W.KF.slot_gs.check _ _ _ _ _ _ _ _ W.KF.type_class (W.KF.args_gs _ _ _) ?_
 unfold Builtin.«getset_descriptor.__get__»
 unfold descrGet
 rw[W.dga_obj]
 refine se ?_
 refine si ?_
 unfold descrGetter descrCheckInstance
 unfold descrNameAndClass isInstance
 simp only[W.KF.owner_class]
 repeat lk
 refine⟨Aah _ (by decide+kernel),?_⟩
 refine xl W.KF.entry_class ?_
 unfold Builtin.«object.__class__»
 unfold shownTypeOf
 repeat lk
 exact z
theorem Yu {A:Around}{M:Model}{E:Value->Shared->Prop}{nameV:Value}{Q:Unit->Shared->Prop}{s:Shared}(X:K.In s.heap)(p:ExcAt e C s.heap)(c:ExC K C)(z:Q () s):
  wpAny M A (checkBuiltinCall "BaseException.__getattribute__" ⟨[.ref e,nameV],[]⟩) Q E s:=by
 obtain⟨h0,g0,d0,t0,o0⟩:=s
 have k1:builtinKind "BaseException.__getattribute__"=some .slot:=by decide+kernel
 have k2:splitId "BaseException.__getattribute__"=some ("BaseException","__getattribute__"):=by decide+kernel
 have k3:=PySem.F.args_bexc_ga (.ref e) nameV
 have KI:W.Looks M h0 (isInstance (.ref e) (.type "BaseException")) true:=p.type.andThen (W.looks_mroIn X c.mb)
 simp only[checkBuiltinCall,k1,k2]
 refine se ?_
 repeat (first|with_reducible refine KI.at ?_|wp_step)
 exact z
theorem Zc {A:Around}{E:Value->Shared->Prop}{tk:Tok}{Q:Fin->Shared->Prop}{s:Shared}(X:K.In s.heap)(p:ExcAt e C s.heap)(c:ExC K C)(z:Q (.done (.ret (.ref C))) s):
  wpAny (model prog w) A (Builtin.«object.__getattribute__» ⟨[.ref e,.str "__class__" tk],[]⟩) Q E s:=by
 obtain⟨h0,g0,d0,t0,o0⟩:=s
 have K0:=p.type (M:=model prog w)
 have K3:=Abh (M:=model prog w) X c.ca
 have K4:=W.looks_specialIn (M:=model prog w) X c.sg
 have K5:=W.looks_takesIn (M:=model prog w) X c.tk
 have KF:W.Looks (model prog w) h0 (find (.ref e) (.ref C) "__class__") (.bind (.builtin "getset_descriptor.__get__") (.builtin "object.__class__")):=
  K3.andThen (W.Looks.andThen (a:=some (Value.builtin "getset_descriptor.__get__")) (show W.Looks (model prog w) h0 (getOf (some (.builtin "object.__class__"))) _ from K4)
   (W.Looks.andThen (a:=some (Value.builtin "getset_descriptor.__get__",Value.builtin "object.__class__")) (show W.Looks (model prog w) h0 (dataDescriptor? (some (.builtin "object.__class__")) (some (.builtin "getset_descriptor.__get__"))) _ from K5.andThen .now) (W.Looks.tag .now)))
 repeat (first|with_reducible refine K0.at ?_|with_reducible refine KF.at ?_|wp_step)
 exact T5 (s:=⟨h0,g0,d0,t0,o0⟩) X p c.mo (si z)
theorem i3 {A:Around}{E:Value->Shared->Prop}{Q:Option Value->Shared->Prop}{s:Shared}(X:K.In s.heap)(p:ExcAt e C s.heap)(c:ExC K C)(z:Q (some (.ref C)) {s with toks:=s.toks+1}):
  wpAny (model prog w) A (getAttr? (.ref e) "__class__") Q E s:=by
 obtain⟨h0,g0,d0,t0,o0⟩:=s
 have K0:=p.type (M:=model prog w)
 have K1:=Abh (M:=model prog w) X c.ga
 have K2:=Abh (M:=model prog w) X c.gn
 unfold getAttr? getAttrBy?
 unfold getAttrBy
 refine se (wpAny_mkText ?_)
 refine se (zw (vn ?_))
 refine se (K0.at ?_)
 refine se (K1.at ?_)
 have n1:(onTheHeap (Value.ref C)&&Value.builtin "BaseException.__getattribute__"==Value.builtin "object.__getattribute__")=false:=by
  rw[show(Value.builtin "BaseException.__getattribute__"==Value.builtin "object.__getattribute__")=false by decide+kernel,Bool.and_false]
 dsimp only
 rw[if_neg (by rw[n1];exact uk)]
 unfold getAttrByItsOwn hookBefore
 refine se ?_
 rw[if_pos (show onTheHeap (Value.ref C)=true from rfl)]
 refine K2.at ?_
 refine se (zw (vn ?_))
 unfold callGetattribute
 rw[if_neg (by rw[y8];exact uk)]
 unfold boundAndCalled
 rw[PySem.F.attrBase_ValueError.ga.bind (.ref e)]
 refine se (si ?_)
 refine wpAny_call ?_
 refine Aa8 PySem.F.attrBase_ValueError.ga.plain PySem.F.entry_bexc_ga ?_
 refine Yu (s:=⟨h0,g0,d0,t0+1,o0⟩) X p c ?_
 refine Zc (s:=⟨h0,g0,d0,t0+1,o0⟩) X p c ?_
 repeat (any_goals (first|exact z|wp_step))
theorem gv (c:ExC K C):W.KitX K (.ref e) (.ref C) (ExcAt e C):=by
 obtain⟨cd,hcd⟩:=Aaa.mp c.cs
 have cls:∃c1 d1 e1 f1,K.lookup C=some ⟨c1,d1,.cls e1,f1⟩:=by
  unfold W.clsIn at hcd
  split at hcd
  · exact⟨_,_,_,_,by assumption⟩
  · cases hcd
 obtain⟨c1,d1,e1,f1,lk⟩:=cls
 refine⟨λ_ _ _ p=>p.type,λM h X _=>?_,λh tp dd its n sl X htp=>?_,λX p k=>i3 X p c k⟩
 ·
  intro A' Q' E' s' k q
  unfold isType
  unfold loadHead
  exact se (wpAny_loadPart (k _ _ (X _ _ lk)) (si q))
 ·
  refine yd.mpr λq=>?_
  have e2:C=tp:=Value.ref.inj (beq_iff_eq.mp q)
  subst e2
  rw[X _ _ lk] at htp
  cases htp
end
def exo (e C:Addr):HO:=.ext (ExcAt e C)
section
variable {X:Cx}
theorem ai {pins:List (Addr×Obj)}{σ:St}{H:Hp}{s:Shared}{e C:Addr}{c:Value}{b:Bool}{Q:VK}(I:Inv X pins σ H s)(he:H e=some (exo e C))(x:ExC X.K C)(k:W.kitOne X.K (.ref C) c=some b)(q:Q (.bl b) H):
  wpAny (model X.prog X.w) X.A (call (.builtin "isinstance") [.ref e,c]) (EP X pins σ Q) X.xe s:=by
 have p:ExcAt e C s.heap:=(I.hok e _ he).1
 exact yt (gv x) I.kIn p k (λz=>nomatch z) λtk=>⟨.bl b,H,I.tok tk,rfl,q⟩
theorem Zp:Gd X (.builtin "isinstance") (λxs H Q=>∃(e C:Addr)(d:V)(c:Value)(b:Bool),xs=[.ref e,d]/\H e=some (exo e C)/\ExC X.K C/\((∃D,d=.ref D/\c=.ref D)∨∃T,d=.ty T/\c=.type T)/\W.kitOne X.K (.ref C) c=some b/\Q (.bl b) H):=by
 intro pins s σ H xs us Q I r h
 obtain⟨e,C,d,c,b,rfl,he,x,hc,k,q⟩:=h
 obtain⟨u,v,rfl,ru,rv⟩:=r.two
 cases ru
 rcases hc with⟨D,rfl,rfl⟩|⟨T,rfl,rfl⟩
 · cases rv;exact ai I he x k q
 · cases rv;exact ai I he x k q
end
theorem Room.mark {cm:Bool}{k:Nat}{A:Around}(r:Room cm k A)(v:Option Value):Room false k (A.mark v):=⟨(λz=>nomatch z),r.dp,r.un⟩
section
variable {X:Cx}{pins pins':List (Addr×Obj)}{σ:St}{H H':Hp}{s:Shared}{h h2 B:Heap}{ea C:Addr}
theorem Inv.landedX (I:Inv X pins σ H s){s':Shared}(os:s'.os=s.os)(bare:AllBare s'.gens)(u:Un (frs X.stack) [] H H' s.heap s'.heap)(ok:HOk X.prog X.w H' s'.heap)
  (oldB:∀b o,s.heap.get? b=some o->H b=none->b∉frs X.stack->B.get? b=some o) (thB:∀b o,s.heap.get? b=some o->b∉frs X.stack->∃o',B.get? b=some o')
  (trB:∀b u o,H' b=some u->s'.heap.get? b=some o->B.get? b=some o) (st:B.StaysIn h2) (up:s'.heap.UpToSlots h2) (n1:H' ea=none) (n2:s.heap.get? ea=none) (at2:ExcAt ea C h2):
  Inv X pins σ (upd H' ea (exo ea C)) {s' with heap:=h2}:=by
 have sl:∀b o,s.heap.get? b=some o->H b=none->b∈frs X.stack->∃sl,h2.get? b=some {o with slots:=sl}:=λb o e n hb=>by
  obtain⟨s2,e2⟩:=u.slot b o e n hb (by simp)
  obtain⟨_,o',e',nf⟩:=I.stack.mem hb
  rw[e] at e'
  cases e'
  obtain⟨s3,e3⟩:=up b _ e2 nf
  exact⟨s3,e3⟩
 have ne1:∀b o,s.heap.get? b=some o->b≠ea:=λb o e z=>by rw[z,n2] at e;cases e
 have ne2:∀b o,H b=some o->b≠ea:=λb o e=>by
  obtain⟨o',e'⟩:=I.hok.there e
  exact ne1 b o' e'
 have ne3:∀b o,H' b=some o->b≠ea:=λb o e z=>by rw[z,n1] at e;cases e
 have ok2:HOk X.prog X.w H' h2:=ok.tracked λb v o e q=>st b o (trB b v o e q)
 have ok3:HOk X.prog X.w (upd H' ea (exo ea C)) h2:=λb o e=>by
  by_cases hb:b=ea
  ·
   subst hb
   rw[Ab] at e
   cases e
   obtain⟨ob,e1,e2⟩:=id at2
   exact⟨at2,⟨ob,e1⟩,λa1 a2 p k=>by obtain⟨o1,q1,q2⟩:=p;exact⟨o1,k o1 q1,q2⟩⟩
  ·
   rw[Ad hb] at e
   exact(ok2 b o e).stay (λc w _ q=>q) (λc q=>by rw[Ad (ne3 c _ q)];exact q) λc xs q=>by rw[Ad (ne3 c _ q)];exact q
 refine I.call' (s':={s' with heap:=h2}) (ch:=[]) os ⟨λb o e n hb _=>st b o (oldB b o e n hb),λb o e n hb _=>sl b o e n hb,λb o e n hb=>by rw[Ad (ne1 b o e)];exact u.free b o e n hb,λb o e _=>?_,λb xs e=>by rw[Ad (ne2 b _ e)];exact u.tups b xs e,
  λb o v e=>by rw[Ad (ne2 b _ e)];exact u.frzs b o v e,λb ps e=>by rw[Ad (ne2 b _ e)];exact u.tbls b ps e⟩ ok3 bare (λb z=>nomatch z)
 by_cases hb:b∈frs X.stack
 ·
  obtain⟨s1,e1⟩:=sl b o e (I.stkFree b hb) hb
  exact⟨_,e1⟩
 ·
  obtain⟨o',e'⟩:=thB b o e hb
  exact⟨o',st b o' e'⟩
theorem Qb {M:Model}{A:Around}{E:Value->Shared->Prop}{i:Nat}{x:Str}{pos:Pos}{Q:Unit->Shared->Prop}(I:Inv X pins σ H s)(hN:X.N.Nodup)(hi:X.N[i]?=some x)(hk:X.env.kindOf x=some .local)
  (h:∀s',Inv X pins (σ.set i none) H s'->Q () s'):wpAny M A (do bindName X.env x .none;unbindBehindTheSuite X.env x pos) Q E s:=by
 obtain⟨m,hn,hl⟩:=id I.loc
 have hcls:(X.env.scope.kind== .class||(X.env.scope.kind== .module&&X.env.locals != X.env.globals))=false:=by rw[I.ok.kind];rfl
 refine wpAny_nameGoes_keeps hk hn hcls λh' v hn' hs=>?_
 have cne:=I.cne
 have lne:∀b o,X.s₀.heap.get? b=some o->b≠X.env.locals:=λb o e=>ug (uw (sr e) I.ok.above)
 have tne:∀b o,H b=some o->b≠X.env.locals:=λb o e z=>by rw[z,I.free] at e;cases e
 refine h _ ⟨I.ok,I.os,I.bare,⟨λb o e n hb hx=>(hs.2 b (lne b o e)).trans (I.base.keep b o e n hb hx),λb o e n hb hx=>?_,I.base.free,λb o e hx=>?_,I.base.tups,I.base.frzs,I.base.tbls⟩,
  ⟨_,hn',λj y v' e1 e2 e3=>?_⟩,λy c e=>?_,I.free,I.freeC,λp hp=>?_,λb ob e=>?_,by simpa using I.len⟩
 ·
  obtain⟨sl,e1⟩:=I.base.slot b o e n hb hx
  exact⟨sl,(hs.2 b (lne b o e)).trans e1⟩
 ·
  obtain⟨o',e1⟩:=I.base.there b o e hx
  exact⟨o',(hs.2 b (lne b o e)).trans e1⟩
 ·
  by_cases hj:j=i
  ·
   subst hj
   have hiσ:j<σ.length:=by rw[I.len];exact(t8.mp hi).1
   rw[yz hiσ] at e2
   cases e2
  ·
   rw[zj (zg hj)] at e2
   obtain⟨u',r',q⟩:=hl j y v' e1 e2 e3
   refine⟨u',r',?_⟩
   rcases q with⟨k,e⟩|⟨k,c,e,z⟩
   ·
    have ny:y≠x:=λe=>hj (P5 hN e1 (e▸hi))
    exact .inl ⟨k,by show(if y=x then v else m y)=some u';rw[if_neg ny];exact e⟩
   · exact .inr ⟨k,c,e,z.sameBut hs (cne y c e)⟩
 ·
  obtain⟨w',z⟩:=I.cell y c e
  exact⟨w',z.sameBut hs (cne y c e)⟩
 ·
  obtain⟨e,n,ne,nf,d⟩:=I.pin p hp
  exact⟨(hs.2 p.1 ne).trans e,n,ne,nf,d⟩
 ·
  refine(I.hok b ob e).stay (λc w' hc q=>(hs.2 c ?_).trans q) (λ_ q=>q) λ_ _ q=>q
  rcases hc with rfl|hc
  · exact tne _ _ e
  · exact tne _ _ hc
end
def jx (K:W.Frag)(Cc:Addr)(i:Nat)(tb:(St->XK)->TS)(th:Value->TS):TS:=λD σ H=>
 tb (λσ' cls _ H'=>∃C,cls=.ref C/\W.mroIn K C (.ref Cc)=some true/\∀e,H' e=none->th (.ref e) {nx:=λσ2 H2=>D.nx (σ2.set i none) H2,rt:=λσ2=>D.rt (σ2.set i none),bk:=λσ2 H2=>D.bk (σ2.set i none) H2,ct:=λσ2 H2=>D.ct (σ2.set i none) H2}
  (σ'.set i (some (.ref e))) (upd H' e (exo e C))) D σ H
theorem cz {X:Cx}{i:Nat}{x n:Str}{Cc:Addr}{np hpos pos:Pos}{body suite:List Stmt}{b0:Stmt}{tb:(St->XK)->TS}{th:Value->TS}(hg:Gl X x)(hm:X.mg x=some (.ref Cc))(ct:Catch X.K Cc)(hN:X.N.Nodup)(hi:X.N[i]?=some n)(hk:X.env.kindOf n=some .local)(hl:X.env.scope.names.lookup n=some .local)
  (hb:∀(pins:List (Addr×Obj))(Eb:Value->Shared->Prop)(E:St->XK),(∀σ,Pn (CXe X.prog X.w) (X.tryx pins Eb) σ (E σ))->PSs (X.tryx pins Eb) body (tb E))
  (hh:∀e:Value,PSs (X.hnd e) (b0::suite) (th e)) (hst:X.stack=X.env::X.outer:=by rfl) (hf:X.env.frame=some X.env.locals:=by rfl) (hd:(x==("__debug__":Str))=false:=by decide):
  PS X (.Try body [.ExceptHandler (some (.Name x np)) (some n) (b0::suite) hpos] [] [] pos) (jx X.K Cc i tb th):=by
 intro pins s σ H D I h
 refine wpAny_Try_except ?_
 have pass:∀σ',Pn (CXe X.prog X.w) (X.tryx pins λe s₁=>wpAny (model X.prog X.w) X.A (noteFrame e X.env) (λ_ s₂=>wpAny (model X.prog X.w) X.A (setFlight e none) (λ_ s₃=>
   wpAny (model X.prog X.w) X.A (handleBy e X.env [.ExceptHandler (some (.Name x np)) (some n) (b0::suite) hpos]) (SP X pins D) X.xe s₃) X.xe s₂) X.xe s₁) σ' (λcls _ H'=>∃C,cls=.ref C/\W.mroIn X.K C (.ref Cc)=some true/\
    ∀e,H' e=none->th (.ref e) {nx:=λσ2 H2=>D.nx (σ2.set i none) H2,rt:=λσ2=>D.rt (σ2.set i none),bk:=λσ2 H2=>D.bk (σ2.set i none) H2,ct:=λσ2 H2=>D.ct (σ2.set i none) H2} (σ'.set i (some (.ref e))) (upd H' e (exo e C))):=by
  intro σ' pins' H1 s1 ev s2 I1 c
  obtain⟨ea,t,C,H',B,rfl,os,bare,u,ok,fl,oldB,thB,trB,n1,n2,C',eC,ms,q⟩:=c
  cases eC
  have J1:Inv X pins σ' H1 s1:=I1.untryx I.ok
  have hfr:X.A.frames=some (X.env::X.outer):=by rw[←hst];exact I.ok.frames
  have fl':Heap.FlyingW B (X.env::X.outer) ea (.ref C) (.ref t) s2.heap:=by rw[←hst];exact fl
  refine wpAny_looks_onW (s:=s2) hfr hf fl' λh4 held up4=>?_
  refine wpAny_landsW (s:={s2 with heap:=h4}) held λh5 fl5 up5=>?_
  have J5:Inv X pins σ' H' {s2 with heap:=h5}:=J1.landed os bare u ok oldB thB trB fl5.1 (up4.trans up5)
  obtain⟨ob,hob,hobc⟩:=fl5.there
  refine wpAny_handleBy_cons (codeAny_handlers_test (Lc (X:=X.hnd (.ref ea)) (J5.hnd (.ref ea)) hg hm ?_ hd)) (by intro z;cases z)
  refine P1 J5.kIn hob hobc ct ms (codeAny_handlers_suite_as ?_)
  refine lands_againW (s:={s2 with heap:=h5}) fl5 λh6 fl6 up6=>?_
  have J6:Inv X pins σ' (upd H' ea (exo ea C)) {s2 with heap:=h6}:=J1.landedX os bare u ok oldB thB trB fl6.1 ((up4.trans up5).trans up6) n1 n2 (by obtain⟨o6,a6,b6⟩:=fl6.there;exact⟨o6,a6,b6⟩)
  refine Mi (X:=X.hnd (.ref ea)) (J6.hnd (.ref ea)) hN hi (.inl hl) (show RelV (.ref ea) (.ref ea) from rfl) (λs7 I7=>?_) (.inr hl)
  refine wu (hh (.ref ea) pins s7 _ _ _ I7 (q ea n1)) (λf s8 z=>?_) λ_ _ z=>z.elim
  cases f with
  | next=>obtain⟨σ8,H8,I8,q8⟩:=z;exact Qb (I8.unhnd I.ok) hN hi hk λs9 I9=>⟨_,H8,I9,q8⟩
  | brk=>obtain⟨σ8,H8,I8,q8⟩:=z;exact Qb (I8.unhnd I.ok) hN hi hk λs9 I9=>⟨_,H8,I9,q8⟩
  | cont=>obtain⟨σ8,H8,I8,q8⟩:=z;exact Qb (I8.unhnd I.ok) hN hi hk λs9 I9=>⟨_,H8,I9,q8⟩
  | ret v=>obtain⟨v8,σ8,H8,I8,r8,q8⟩:=z;exact Qb (I8.unhnd I.ok) hN hi hk λs9 I9=>⟨v8,_,H8,I9,r8,q8⟩
 refine wu (hb pins _ _ pass [] s σ H D (I.tryx _) h) (λf s7 z=>?_) λ_ _ z=>z
 cases f with
 | next=>obtain⟨σ7,H7,I7,q7⟩:=z;exact z9 ⟨σ7,H7,I7.untryx I.ok,q7⟩
 | brk=>obtain⟨σ7,H7,I7,q7⟩:=z;exact⟨σ7,H7,I7.untryx I.ok,q7⟩
 | cont=>obtain⟨σ7,H7,I7,q7⟩:=z;exact⟨σ7,H7,I7.untryx I.ok,q7⟩
 | ret v=>obtain⟨v7,σ7,H7,I7,r7,q7⟩:=z;exact⟨v7,σ7,H7,I7.untryx I.ok,r7,q7⟩
end L2
namespace L2
open PySem PySem.Spec PyProof.Rows
theorem Vh {K:W.Frag}{C:Addr}{v:Value}(h:W.mroIn K C v=some true):(W.clsIn K C).isSome=true:=by
 obtain⟨cd,a,_⟩:=Option.bind_eq_some_iff.mp h
 rw[a]
 rfl
section
variable {X:Cx}{K:W.Frag}(hK:X.K=K)
include hK
theorem A0:IxR X (p7 K):=by subst hK;exact md
theorem Bb:IxR X (p5 K):=by subst hK;exact gu
theorem ig:SlR X (o9 K):=by subst hK;exact jn
theorem Uv:SlR X (qb K):=by subst hK;exact gm
theorem E9:Gd X (.builtin "len") (λxs H Q=>∃p ys,xs=[.ref p]/\(SqL K H p ys∨SqT K H p ys)/\Q (.int ys.length) H):=by subst hK;exact Rq
theorem R7:Gd X (.builtin "isinstance") (λxs H Q=>∃x T t b,xs=[x,.ty T]/\Tz K H x t/\W.kitOne K t (.type T)=some b/\Q (.bl b) H):=by subst hK;exact Tu
theorem A6:Gd X (.builtin "isinstance") (λxs H Q=>∃(e C:Addr)(d:V)(c:Value)(b:Bool),xs=[.ref e,d]/\H e=some (exo e C)/\ExC K C/\((∃D,d=.ref D/\c=.ref D)∨∃T,d=.ty T/\c=.type T)/\W.kitOne K (.ref C) c=some b/\Q (.bl b) H):=by
 subst hK;exact Zp
theorem X5 (hc:X.calm=true):Gd X (.builtin "all") (λxs H Q=>∃(p:Addr)(bs:List Bool),xs=[.ref p]/\SqL K H p (bs.map V.bl)/\Q (.bl (bs.all id)) H):=by subst hK;exact bp hc
theorem Et {tg l:Expr}{tl:TE}(hl:PE X l tl):PI X tg l (lb K tl):=by subst hK;exact i9 hl
end
end L2
set_option maxHeartbeats 0
namespace L2
open PySem PySem.W PyProof.Rows
section
variable {O:KeyOrd}{key:Nat->O.α}{n:Nat}{cmp:Nat->Nat->(Bool->Shared->Prop)->Shared->Prop}{s:Shared}
def ka {O:KeyOrd}(key:Nat->O.α)(p:Array Nat)(i:Nat):O.α:=key (p.getD i 0)
def Up {O:KeyOrd}(key:Nat->O.α)(p:Array Nat)(k:Nat):Prop:=∀i j,i<=j->j<k->O.kle (ka key p i) (ka key p j)
def Down {O:KeyOrd}(key:Nat->O.α)(p:Array Nat)(k:Nat):Prop:=∀i j,i<=j->j<k->O.kle (ka key p j) (ka key p i)
def Rg (n:Nat)(p:Array Nat):Prop:=p.Perm (List.toArray (List.range n))
def a9 {O:KeyOrd}(key:Nat->O.α)(n:Nat)(cmp:Nat->Nat->(Bool->Shared->Prop)->Shared->Prop)(s:Shared):Prop:=∀i j C,i<n->j<n->C (O.blt (key i) (key j)) s->cmp i j C s
theorem Rg.size {p:Array Nat}(h:Rg n p):p.size=n:=by rw[Array.Perm.size_eq h];simp
theorem Rg.at {p:Array Nat}(h:Rg n p){i:Nat}(hi:i<n):p.getD i 0<n:=by
 have hz:=h.size
 have e:p.getD i 0=p[i]'(by lia):=by simp[Array.getD,show i<p.size by lia]
 have hm:p[i]'(by lia)∈p.toList:=by simp
 have:=(yf.mp h).mem_iff.mp hm
 simp at this
 lia
theorem Kq {p q:Array Nat}{i j:Nat}(h:p[i]?=q[j]?):ka key p i=ka key q j:=by
 unfold ka
 rw[uf,uf,h]
theorem aw {p:Array Nat}{i j:Nat}(hj:j<=p.size)(k:Nat):ka key (kas_rev p i j) k=if i<=k/\k<j then ka key p (i+j-1-k) else ka key p k:=by
 have e:=getElem?_mirror_all (xs:=p) (i:=i) hj k
 by_cases h:i<=k/\k<j
 · rw[if_pos h] at e ⊢;exact Kq e
 · rw[if_neg h] at e ⊢;exact Kq e
theorem Nu {p:Array Nat}{i j:Nat}(hj:j<=p.size)(heq:∀k,i<=k->k<j->ka key p k=ka key p (j-1))(k:Nat):ka key (kas_rev p i j) k=ka key p k:=by
 rw[aw hj]
 split
 · rw[heq _ (by lia) (by lia),heq k (by lia) (by lia)]
 · rfl
theorem Rg.rev {p:Array Nat}(h:Rg n p)(i j:Nat):Rg n (kas_rev p i j):=(mirror_perm p i j _).trans h
theorem Rg.bub {p:Array Nat}(h:Rg n p)(k d:Nat):Rg n (bubble p k d):=(bubble_perm p k d).trans h
theorem Up.more {p:Array Nat}{k:Nat}(h:Up key p k)(hk:O.blt (ka key p k) (ka key p (k-1))=false):Up key p (k+1):=by
 intro i j hij hj
 by_cases hjk:j<k
 · exact h i j hij hjk
 ·
  obtain rfl:j=k:=by lia
  by_cases hi:i=j
  · rw[hi];exact ya _
  · exact Abm (h i (j-1) (by lia) (by lia)) hk
theorem Down.more {p q:Array Nat}{k:Nat}(h:Down key p k)(e:∀i,ka key q i=ka key p i)(hk:O.kle (ka key p k) (ka key p (k-1))):Down key q (k+1):=by
 intro i j hij hj
 rw[e,e]
 by_cases hjk:j<k
 · exact h i j hij hjk
 ·
  obtain rfl:j=k:=by lia
  by_cases hi:i=j
  · rw[hi];exact ya _
  · exact Abm hk (h i (j-1) (by lia) (by lia))
theorem Zt {p:Array Nat}(hc:a9 key n cmp s)(hp:Rg n p){Q:Nat->Shared->Prop}:∀(f a:Nat),1<=a->a+f<=n->Up key p a->
  (∀m,a<=m->m<=a+f->Up key p m->(m=a+f∨O.klt (ka key p m) (ka key p (m-1)))->Q m s)->(kas_asc p f a).kasWp cmp Q s
 | 0,a,_,_,hu,h=>h a (tq _) (tq _) hu (.inl rfl)
 |
  f+1,a,h1,hz,hu,h=>by
  refine hc _ _ _ (hp.at (by lia)) (hp.at (by lia)) ?_
  show(if O.blt (ka key p a) (ka key p (a-1))=true then KasT.ret a else kas_asc p f (a+1)).kasWp cmp Q s
  cases e:O.blt (ka key p a) (ka key p (a-1)) with
  | true=>exact h a (tq _) (by lia) hu (.inr e)
  | false=>exact Zt hc hp f (a+1) (by lia) (by lia) (hu.more e) λm m1 m2 m3 m4=>h m (by lia) (by lia) m3 (m4.imp_left λz=>by lia)
def Eqs {O:KeyOrd}(key:Nat->O.α)(p:Array Nat)(m q:Nat):Prop:=q+1<=m/\∀i,m-(q+1)<=i->i<m->ka key p i=ka key p (m-1)
theorem Eqs.zero {p:Array Nat}{m:Nat}(h:1<=m):Eqs key p m 0:=⟨by lia,λi h1 h2=>by rw[show i=m-1 by lia]⟩
theorem Pb (hc:a9 key n cmp s){Q:Array Nat×Nat×Nat->Shared->Prop}:∀(f:Nat)(p:Array Nat)(a q:Nat),Rg n p->1<=a->a+f<=n->Down key p a->Eqs key p a q->
  (∀p' m q',Rg n p'->a<=m->m<=a+f->Down key p' m->Eqs key p' m q'->Q (p',m,q') s)->(kas_desc f p a q).kasWp cmp Q s
 | 0,p,a,q,hp,_,_,hd,he,h=>h p a q hp (tq _) (tq _) hd he
 |
  f+1,p,a,q,hp,h1,hz,hd,he,h=>by
  refine hc _ _ _ (hp.at (by lia)) (hp.at (by lia)) ?_
  show(if O.blt (ka key p a) (ka key p (a-1))=true then(if q>0 then kas_desc f (kas_rev p (a-(q+1)) a) (a+1) 0 else kas_desc f p (a+1) 0)
   else KasT.ask (p.getD (a-1) 0) (p.getD a 0) λd=>if d=true then KasT.ret (p,a,q) else kas_desc f p (a+1) (q+1)).kasWp cmp Q s
  have hs:=hp.size
  cases e:O.blt (ka key p a) (ka key p (a-1)) with
  |
   true=>
   rw[if_pos rfl]
   by_cases hq:q>0
   ·
    rw[if_pos hq]
    exact Pb hc f _ (a+1) 0 (hp.rev _ _) (by lia) (by lia) (hd.more (Nu (by lia) he.2) (zx e)) (.zero (by lia)) λp' m q' r1 r2 r3 r4 r5=>h p' m q' r1 (by lia) (by lia) r4 r5
   ·
    rw[if_neg hq]
    exact Pb hc f _ (a+1) 0 hp (by lia) (by lia) (hd.more (λ_=>rfl) (zx e)) (.zero (by lia)) λp' m q' r1 r2 r3 r4 r5=>h p' m q' r1 (by lia) (by lia) r4 r5
  |
   false=>
   rw[if_neg (by simp)]
   refine hc _ _ _ (hp.at (by lia)) (hp.at (by lia)) ?_
   show(if O.blt (ka key p (a-1)) (ka key p a)=true then KasT.ret (p,a,q) else kas_desc f p (a+1) (q+1)).kasWp cmp Q s
   cases e2:O.blt (ka key p (a-1)) (ka key p a) with
   | true=>exact h p a q hp (tq _) (by lia) hd he
   |
    false=>
    rw[if_neg (by simp)]
    have eq:ka key p a=ka key p (a-1):=KeyOrd.kle_antisymm e2 e
    refine Pb hc f _ (a+1) (q+1) hp (by lia) (by lia) (hd.more (λ_=>rfl) (by rw[eq];exact ya _)) ⟨by have:=he.1;lia,λi i1 i2=>?_⟩ λp' m q' r1 r2 r3 r4 r5=>h p' m q' r1 (by lia) (by lia) r4 r5
    rw[show a+1-1=a by lia]
    by_cases hi:i=a
    · rw[hi]
    · rw[eq];exact he.2 i (by lia) (by lia)
theorem Yh (hc:a9 key n cmp s){Q:Nat×Array Nat->Shared->Prop}{p:Array Nat}{a:Nat}(hp:Rg n p)(h1:1<=a)(hz:a<=n)(hd:Down key p a)
  (h:∀m p',Rg n p'->1<=m->m<=n->Up key p' m->Q (m,p') s):(kas_tail3 a n p).kasWp cmp Q s:=by
 unfold kas_tail3
 rw[KasT.kasWp_bind]
 have hs:=hp.size
 refine Zt hc (hp.rev 0 a) (n-a) a h1 (by lia) (λi j hij hj=>?_) λm m1 m2 m3 _=>h m _ (hp.rev 0 a) (by lia) (by lia) m3
 rw[aw (by lia),aw (by lia),if_pos (by lia),if_pos (by lia)]
 exact hd _ _ (by lia) (by lia)
theorem Nh (hc:a9 key n cmp s){Q:Nat×Array Nat->Shared->Prop}{p:Array Nat}{a:Nat}(hp:Rg n p)(hz:a+1<=n)(hd:Down key p (a+1))
  (h:∀m p',Rg n p'->1<=m->m<=n->Up key p' m->Q (m,p') s):(kas_descPart a n p).kasWp cmp Q s:=by
 unfold kas_descPart
 rw[KasT.kasWp_bind]
 refine Pb hc _ p (a+1) 0 hp (by lia) (by lia) hd (.zero (by lia)) λp' m q r1 r2 r3 r4 r5=>?_
 have hs:=r1.size
 show(if q>0 then kas_tail3 m n (kas_rev p' (m-(q+1)) m) else kas_tail3 m n p').kasWp cmp Q s
 by_cases hq:q>0
 ·
  rw[if_pos hq]
  refine Yh hc (r1.rev _ _) (by lia) (by lia) (λi j hij hj=>?_) h
  rw[Nu (by lia) r5.2,Nu (by lia) r5.2]
  exact r4 i j hij hj
 ·
  rw[if_neg hq]
  exact Yh hc r1 (by lia) (by lia) r4 h
theorem cn (hc:a9 key n cmp s){Q:Nat×Array Nat->Shared->Prop}{p:Array Nat}(hp:Rg n p)(h1:1<=n)(h:∀m p',Rg n p'->1<=m->m<=n->Up key p' m->Q (m,p') s):(kas_count n p).kasWp cmp Q s:=by
 unfold kas_count
 rw[KasT.kasWp_bind]
 have hs:=hp.size
 refine Zt hc hp (n-1) 1 (tq _) (by lia) (λi j hij hj=>by rw[show i=j by lia];exact ya _) λm m1 m2 m3 m4=>?_
 by_cases hmn:m=n
 ·
  rw[if_pos (by simpa using hmn)]
  exact h m p hp (by lia) (by lia) m3
 ·
  rw[if_neg (by simpa using hmn)]
  have hlt:O.klt (ka key p m) (ka key p (m-1)):=m4.resolve_left (by lia)
  by_cases hg:m>1
  ·
   rw[if_pos hg]
   refine hc _ _ _ (hp.at (by lia)) (hp.at (by lia)) ?_
   show(if O.blt (ka key p 0) (ka key p (m-1))=true then KasT.ret (m,p) else kas_descPart m n (kas_rev p 0 m)).kasWp cmp Q s
   cases e:O.blt (ka key p 0) (ka key p (m-1)) with
   | true=>exact h m p hp (by lia) (by lia) m3
   |
    false=>
    rw[if_neg (by simp)]
    have hall:∀k,0<=k->k<m->ka key p k=ka key p (m-1):=λk _ hk=>KeyOrd.kle_antisymm (m3 k (m-1) (by lia) (by lia)) (Abm e (m3 0 k (by lia) hk))
    refine Nh hc (hp.rev _ _) (by lia) (λi j hij hj=>?_) h
    rw[Nu (by lia) hall,Nu (by lia) hall]
    by_cases hjm:j<m
    · rw[hall i (by lia) (by lia),hall j (by lia) hjm];exact ya _
    ·
     obtain rfl:j=m:=by lia
     by_cases hi:i=j
     · rw[hi];exact ya _
     · rw[hall i (by lia) (by lia)];exact zx hlt
  ·
   rw[if_neg hg]
   obtain rfl:m=1:=by lia
   refine Nh hc hp (by lia) (λi j hij hj=>?_) h
   by_cases hi:i=j
   · rw[hi];exact ya _
   ·
    obtain rfl:i=0:=by lia
    obtain rfl:j=1:=by lia
    exact zx hlt
theorem P0 {p:Array Nat}{k:Nat}(hc:a9 key n cmp s)(hp:Rg n p)(hk:k<n)(hu:Up key p k){Q:Nat->Shared->Prop}
  (h:∀l,l<=k->(∀i,i<l->O.kle (ka key p i) (ka key p k))->(∀i,l<=i->i<k->O.klt (ka key p k) (ka key p i))->Q l s):∀(f l r:Nat),l<=r->r<=k->r-l<=f->
  (∀i,i<l->O.kle (ka key p i) (ka key p k))->(∀i,r<=i->i<k->O.klt (ka key p k) (ka key p i))->(kas_place p k f l r).kasWp cmp Q s
 | 0,l,r,hlr,hrk,hf,lo,hi=>h l (by lia) lo (by rw[show l=r by lia];exact hi)
 |
  f+1,l,r,hlr,hrk,hf,lo,hi=>by
  unfold kas_place
  by_cases hg:l≥r
  ·
   rw[if_pos hg]
   exact h l (by lia) lo (by rw[show l=r by lia];exact hi)
  ·
   rw[if_neg hg]
   refine hc _ _ _ (hp.at hk) (hp.at (by lia)) ?_
   show(if O.blt (ka key p k) (ka key p ((l+r)/2))=true then kas_place p k f l ((l+r)/2) else kas_place p k f ((l+r)/2+1) r).kasWp cmp Q s
   cases e:O.blt (ka key p k) (ka key p ((l+r)/2)) with
   |
    true=>
    rw[if_pos rfl]
    exact P0 hc hp hk hu h f l _ (by lia) (by lia) (by lia) lo λi i1 i2=>KeyOrd.klt_of_klt_of_kle e (hu _ _ i1 i2)
   |
    false=>
    rw[if_neg (by simp)]
    exact P0 hc hp hk hu h f _ r (by lia) (by lia) (by lia) (λi i1=>Abm (hu i ((l+r)/2) (by lia) (by lia)) e) hi
theorem eo {p:Array Nat}{k d:Nat}(hk:k<p.size)(hd:d<=k)(i:Nat):ka key (bubble p k d) i=if i=k-d then ka key p k else if k-d<i/\i<=k then ka key p (i-1) else ka key p i:=by
 have e:=getElem?_bubble (xs:=p) hk d hd i
 by_cases h1:i=k-d
 · rw[if_pos h1] at e ⊢;exact Kq e
 ·
  rw[if_neg h1] at e ⊢
  by_cases h2:k-d<i/\i<=k
  · rw[if_pos h2] at e ⊢;exact Kq e
  · rw[if_neg h2] at e ⊢;exact Kq e
theorem eh (hc:a9 key n cmp s){Q:Array Nat->Shared->Prop}(h:∀p',Rg n p'->Up key p' n->Q p' s):∀(f:Nat)(p:Array Nat)(k:Nat),Rg n p->k+f=n->Up key p k->(kas_bin f p k).kasWp cmp Q s
 | 0,p,k,hp,hk,hu=>h p hp (by rw[←hk];exact hu)
 |
  f+1,p,k,hp,hk,hu=>by
  unfold kas_bin
  rw[KasT.kasWp_bind]
  have hs:=hp.size
  refine P0 hc hp (by lia) hu (λl hl lo hi=>?_) k 0 k (u5 _) (tq _) (by lia) (λi hi=>absurd hi (wq _)) (λi h1 h2=>by lia)
  refine eh hc h f _ (k+1) (hp.bub _ _) (by lia) λi j hij hj=>?_
  rw[eo (by lia) (by lia),eo (by lia) (by lia),show k-(k-l)=l by lia]
  repeat' split
  all_goals first
   | (exfalso;lia)
   | exact ya _
   | exact lo _ (by lia)
   | exact zx (hi _ (by lia) (by lia))
   | exact hu _ _ (by lia) (by lia)
theorem Yd (hc:a9 key n cmp s)(h1:1<=n){Q:Array Nat->Shared->Prop}(h:∀p,Rg n p->Up key p n->Q p s):(kas_sort n).kasWp cmp Q s:=by
 unfold kas_sort
 rw[KasT.kasWp_bind]
 refine cn hc (Array.Perm.refl _) h1 λm p hp h1 h2 hu=>?_
 show(if m<n then kas_bin (n-max m 1) p (max m 1) else KasT.ret p).kasWp cmp Q s
 rw[show max m 1=m by lia]
 by_cases hm:m<n
 ·
  rw[if_pos hm]
  exact eh hc h _ p m hp (by lia) hu
 ·
  rw[if_neg hm]
  exact h p hp (by rw[show n=m by lia];exact hu)
end
abbrev RA:=Addr×(Int×Int)
def refs (rs:List RA):List V:=rs.map λx=>V.ref x.1
def RowOk (H:Hp)(rs:List RA):Prop:=∀x∈rs,H x.1=some (.tup [.int x.2.1,.int x.2.2])
def Bk (rs:List RA):List Value:=rs.map λx=>Value.ref x.1
theorem Rw:∀{rs:List RA}{us:List Value},Vals (refs rs) us->us=Bk rs
 | [],_,.nil=>rfl
 | x::rs,_,.cons r1 r2=>by rw[show _=Value.ref x.1 from r1,Rw (rs:=rs) r2];rfl
theorem Rp:∀(rs:List RA),Vals (refs rs) (Bk rs)
 | []=>.nil
 | _::rs=>.cons rfl (Rp rs)
def TupsH (h:Heap)(rs:List RA):Prop:=∀x∈rs,∃(o:Obj)(t u:Tok)(k:Nat),h.get? x.1=some o/\o.cls=.type "tuple"/\o.data=.seq #[.int x.2.1 t,.int x.2.2 u] k
theorem Inv.pair {X:Cx}{pins:List (Addr×Obj)}{σ:St}{H:Hp}{s:Shared}(I:Inv X pins σ H s){a:Addr}{i j:Int}(h:H a=some (.tup [.int i,.int j])):
  ∃(o:Obj)(t u:Tok)(k:Nat),s.heap.get? a=some o/\o.cls=.type "tuple"/\o.data=.seq #[.int i t,.int j u] k:=by
 obtain⟨its,r,⟨o,ho,hc,k,hd⟩,_⟩:=I.tuple (SqT.of h)
 cases r with
 |
  cons r1 r=>
  cases r with
  |
   cons r2 r=>
   cases r
   obtain⟨t,rfl⟩:=r1
   obtain⟨u,rfl⟩:=r2
   exact⟨o,t,u,k,ho,hc,hd⟩
theorem Inv.tups {X:Cx}{pins:List (Addr×Obj)}{σ:St}{H:Hp}{s:Shared}(I:Inv X pins σ H s){rs:List RA}(h:RowOk H rs):TupsH s.heap rs:=λx hx=>I.pair (h x hx)
def ml:KeyOrd where
 α:=Int×Int
 blt a b:=decide (a.1<b.1)||(decide (a.1=b.1)&&decide (a.2<b.2))
 irrefl a:=by simp
 trans a b c h1 h2:=by simp at h1 h2 ⊢;lia
 negTrans a b c h:=by simp at h ⊢;lia
 total a b h1 h2:=by
  simp at h1 h2
  exact Prod.ext (by lia) (by lia)
theorem TupsH.kat {h:Heap}:∀{rs:List RA},TupsH h rs->∃fs,KatTups h (Bk rs) fs/\fs.length=rs.length/\∀v∈fs,∃(i:Int)(t:Tok),v=.int i t
 | [],_=>⟨[],trivial,rfl,λ_ z=>nomatch z⟩
 |
  x::rs,t=>by
  obtain⟨fs,k,e,hv⟩:=TupsH.kat (rs:=rs) λy hy=>t y (sq _ hy)
  obtain⟨o,t1,u1,n,ho,hc,hd⟩:=t x sk
  refine⟨.int x.2.1 t1::fs,KatTups.cons ho hc hd rfl k,by rw[t5,t5,e],λv hm=>?_⟩
  rcases uq.mp hm with rfl|hm
  · exact⟨_,_,rfl⟩
  · exact hv v hm
section
variable {prog:Program}{w:World}{A:Around}{E:Value->Shared->Prop}{s:Shared}{rs:List RA}
theorem X7 (h1:1<=rs.length)(t:TupsH s.heap rs){Q:SortKind->Shared->Prop}(h:Q (tuples' true) s):wpAny (model prog w) A (keyKind' (Bk rs).toArray) Q E s:=by
 obtain⟨fs,k,e,hv⟩:=t.kat
 refine kat_kind (T:=.type "int") k (by lia) (λv hm=>?_) rfl h
 obtain⟨i,t,rfl⟩:=hv v hm
 exact W.Looks.now
theorem Qc {i:Nat}(hi:i<rs.length):(Bk rs).getD i Value.none=Value.ref (rs[i]).1:=by
 unfold Bk
 simp[hi]
theorem Ym (t:TupsH s.heap rs):a9 (O:=ml) (λi=>(rs.getD i (0,0,0)).2) rs.length (kas_ask prog w A (tuples' true) (Bk rs)) s:=by
 intro i j C hi hj h
 unfold kas_ask
 rw[Qc hi,Qc hj]
 have ei:rs.getD i (0,0,0)=rs[i]:=by simp[hi]
 have ej:rs.getD j (0,0,0)=rs[j]:=by simp[hj]
 simp only[ei,ej] at h
 obtain⟨o,t1,u1,n,ho,hc,hd⟩:=t rs[i] (xk hi)
 obtain⟨o2,t2,u2,n2,ho2,hc2,hd2⟩:=t rs[j] (xk hj)
 refine kat_lt ho hd ho2 hd2 ?_
 show KatLex prog w A true false C [(Value.int (rs[i]).2.1 t1,Value.int (rs[j]).2.1 t2),(Value.int (rs[i]).2.2 u1,Value.int (rs[j]).2.2 u2)] 0 s
 have hb:C (decide ((rs[i]).2.1<(rs[j]).2.1)||(decide ((rs[i]).2.1=(rs[j]).2.1)&&decide ((rs[i]).2.2<(rs[j]).2.2))) s:=h
 refine kat_cons (wpAny_eqBool_int ?_)
 by_cases e1:(rs[i]).2.1=(rs[j]).2.1
 ·
  rw[show((rs[i]).2.1==(rs[j]).2.1)=true from Aa7.mpr e1]
  rw[ua (by lia),so e1,Bool.false_or,zk] at hb
  refine kat_yes (kat_cons (wpAny_eqBool_int ?_))
  by_cases e2:(rs[i]).2.2=(rs[j]).2.2
  ·
   rw[show((rs[i]).2.2==(rs[j]).2.2)=true from Aa7.mpr e2]
   rw[ua (by lia)] at hb
   exact kat_yes (kat_nil hb)
  ·
   rw[show((rs[i]).2.2==(rs[j]).2.2)=false from wm.mpr e2]
   refine kat_no (kat_one _ _ (lt_int ?_))
   exact hb
 ·
  rw[show((rs[i]).2.1==(rs[j]).2.1)=false from wm.mpr e1]
  rw[ua e1,y8,Bool.or_false] at hb
  exact kat_no (oneLt_int hb)
def Nk (rs:List RA)(p:Array Nat):List RA:=p.toList.map λi=>rs.getD i (0,0,0)
theorem br {p:Array Nat}(hp:Rg rs.length p):(p.toList.map λi=>(Bk rs).getD i Value.none)=Bk (Nk rs p):=by
 unfold Bk Nk
 rw[uo]
 refine Aay λi hi=>?_
 have hl:i<rs.length:=by
  have:=(yf.mp hp).mem_iff.mp hi
  simpa using this
 have:=Qc hl
 unfold Bk at this
 rw[this]
 simp[hl]
theorem Ou {p:Array Nat}(hp:Rg rs.length p):(Nk rs p).Perm rs:=by
 have h:=(yf.mp hp).map λi=>rs.getD i (0,0,0)
 have e:(List.range rs.length).map (λi=>rs.getD i (0,0,0))=rs:=by
  apply List.ext_getElem
  · simp
  ·
   intro i h1 h2
   simp[h2]
 rw[List.toList_toArray,e] at h
 exact h
theorem b9 {p:Array Nat}(hp:Rg rs.length p)(hu:Up (O:=ml) (λi=>(rs.getD i (0,0,0)).2) p rs.length):(Nk rs p).Pairwise λx y=>x.2.1<=y.2.1:=by
 rw[List.pairwise_iff_getElem]
 intro i j hi hj hij
 have hz:=hp.size
 have hl:(Nk rs p).length=rs.length:=by unfold Nk;rw[sf,sv,hz]
 have h:=hu i j (by lia) (by lia)
 have gi:∀k(hk:k<(Nk rs p).length),(Nk rs p)[k]=rs.getD (p.getD k 0) (0,0,0):=by
  intro k hk
  have hk':k<p.size:=by lia
  have e:(Nk rs p)[k]?=some (rs.getD (p.getD k 0) (0,0,0)):=by
   unfold Nk
   rw[ur,t7,tu hk',Array.getD,dif_pos hk']
   rfl
  rw[vq hk] at e
  exact sy e
 rw[gi i hi,gi j hj]
 have h':(decide ((rs.getD (p.getD j 0) (0,0,0)).2.1<(rs.getD (p.getD i 0) (0,0,0)).2.1)||(decide ((rs.getD (p.getD j 0) (0,0,0)).2.1=(rs.getD (p.getD i 0) (0,0,0)).2.1)&&decide ((rs.getD (p.getD j 0) (0,0,0)).2.2<(rs.getD (p.getD i 0) (0,0,0)).2.2)))=false:=h
 rw[Bool.or_eq_false_iff] at h'
 have:=of_decide_eq_false h'.1
 lia
theorem Wb {a:Addr}{k:Nat}{P:PySem.Fin->Shared->Prop}(ho:s.heap.get? a=some (seqObj "list" (Bk rs).toArray k))(ha:∀x∈rs,x.1≠a)(t:TupsH s.heap rs)(h64:rs.length<64)
  (h:∀qs:List RA,qs.Perm rs->qs.Pairwise (λx y=>x.2.1<=y.2.1)->P (.done (.ret .none)) {s with heap:=sortedHeap s.heap a (Bk rs) (Bk qs).toArray}):wpAny (model prog w) A (Builtin.«list.sort» ⟨[.ref a],[]⟩) P E s:=by
 have hlen:(Bk rs).length=rs.length:=by unfold Bk;rw[sf]
 obtain⟨c1,g1⟩:∃c,(s.heap.update a (Obj.mapSeq λ_=>(#[]:Array Value))).get? a=some (seqObj "list" #[] c):=⟨_,get?_update_seq ho λ_=>#[]⟩
 have g2:(((s.heap.update a (Obj.mapSeq λ_=>(#[]:Array Value))).push (seqObj "tuple" (Bk rs).toArray 0)).push (seqObj "list" #[] 0)).get? a=some (seqObj "list" #[] c1):=sj _ (sj _ g1)
 have t2:TupsH (((s.heap.update a (Obj.mapSeq λ_=>(#[]:Array Value))).push (seqObj "tuple" (Bk rs).toArray 0)).push (seqObj "list" #[] 0)) rs:=λx hx=>by
  obtain⟨o,t1,u1,n,ho,z⟩:=t x hx
  exact⟨o,t1,u1,n,sj _ (sj _ (by rw[yy _ _ _ _ (ha x hx)];exact ho)),z⟩
 rw[list_sort_plain]
 refine se (listItems_at ho rfl (se (Aan ho rfl (se (Abi g1 rfl (se (wpAny_newTuple (se (y9 (vn ?_) (u5 _))) (by rw[hlen,vd];lia))))) (by rw[su,hlen,vd];lia) (u5 _))))
 show wpAny (model prog w) A _ P E {s with heap:=((s.heap.update a (Obj.mapSeq λ_=>(#[]:Array Value))).push (seqObj "tuple" (Bk rs).toArray 0)).push (seqObj "list" #[] 0)}
 dsimp only
 by_cases h2:(Bk rs).toArray.size<2
 ·
  have hl2:rs.length<2:=by rw[su,hlen] at h2;exact h2
  rw[if_pos h2,if_pos h2]
  refine se (si ?_)
  rw[StateT.run_pure]
  refine se (si ?_)
  dsimp only
  have e:(arrOf (SortSt.mk' general' ((Bk rs).toArray.zip (Bk rs).toArray) #[] 7 none)).map (·.2)=(Bk rs).toArray:=by
   show((Bk rs).toArray.zip (Bk rs).toArray).map (·.2)=_
   apply Array.toList_inj.mp
   simp
   rw[List.map_snd_zip]
   simp
  rw[e]
  refine se (Abi g2 rfl (se (Aan g2 rfl ?_ (u5 _) (by rw[su,hlen,vd];lia))))
  simp only[z7,u4,xu]
  refine si (h rs (.refl _) ?_)
  match rs,hl2 with
  | [],_=>exact .nil
  | [_],_=>exact xx _ _
 ·
  have hl2:2<=rs.length:=by rw[su,hlen] at h2;lia
  rw[if_neg h2,if_neg h2]
  refine se (X7 (by lia) t2 ?_)
  have run:=kat_run (prog:=prog) (w:=w) (A:=A) (E:=E) (κ:=tuples' true) (ks:=Bk rs) (vs:=Bk rs) (s:={s with heap:=((s.heap.update a (Obj.mapSeq λ_=>(#[]:Array Value))).push (seqObj "tuple" (Bk rs).toArray 0)).push (seqObj "list" #[] 0)})
   (Q:=λst' s'=>s'={s with heap:=((s.heap.update a (Obj.mapSeq λ_=>(#[]:Array Value))).push (seqObj "tuple" (Bk rs).toArray 0)).push (seqObj "list" #[] 0)}/\failedOf st'=none/\∃p,Rg rs.length p/\Up (O:=ml) (λi=>(rs.getD i (0,0,0)).2) p rs.length/\arrOf st'=p.map (kas_item ((Bk rs).toArray.zip (Bk rs).toArray)))
   (G:=λp s'=>s'={s with heap:=((s.heap.update a (Obj.mapSeq λ_=>(#[]:Array Value))).push (seqObj "tuple" (Bk rs).toArray 0)).push (seqObj "list" #[] 0)}/\Rg rs.length p/\Up (O:=ml) (λi=>(rs.getD i (0,0,0)).2) p rs.length)
   rfl (by rw[hlen];exact hl2) (by rw[hlen];exact h64) (λp st' s' a1 a2 a3 a4=>⟨a4.1,a3,p,a4.2.1,a4.2.2,a2⟩) (by
    rw[hlen]
    exact Yd (Ym t2) (by lia) λp hp hu=>⟨rfl,hp,hu⟩)
  refine se (wu run ?_ λ_ _ z=>z)
  rintro⟨⟨⟩,st'⟩ s' ⟨rfl,hf,p,hp,hu,har⟩
  dsimp only
  rw[kat_snds rfl har,br hp]
  have hz:(Bk (Nk rs p)).length=rs.length:=by unfold Bk;rw[sf,(Ou hp).length_eq]
  refine se (Abi g2 rfl (se (Aan g2 rfl ?_ (u5 _) (by rw[su,hz,vd];lia))))
  rw[hf]
  simp only[z7,u4,xu]
  exact si (h _ (Ou hp) (b9 hp hu))
theorem Uq {l:Addr}{Q:Value->Shared->Prop}(hl:s.heap.IsList l (Bk rs).toArray)(t:TupsH s.heap rs)(h64:rs.length<64)
  (h:∀qs:List RA,qs.Perm rs->qs.Pairwise (λx y=>x.2.1<=y.2.1)->Q (.ref (s.heap.objs.size+1)) {s with heap:=sortedAll s.heap (Bk rs) (Bk qs).toArray}):wpAny (model prog w) A (call (.builtin "sorted") [.ref l]) Q E s:=by
 have hlen:(Bk rs).length=rs.length:=by unfold Bk;rw[sf]
 have fits:(Bk rs).length<=sizeLine:=by rw[hlen,vd];lia
 refine Aak kind_sorted plain_sorted entry_sorted (args_sorted1 _) ?_
 unfold Builtin.«sorted»
 refine se (m:=checkCount "sorted" 1 1 _) (si (se (collect_list hl (se (y9 ?_ fits)) fits)))
 have hsz:((s.heap.push (seqObj "list" #[] 0)).update s.heap.objs.size (Obj.mapSeq (·++(Bk rs).toArray))).objs.size=s.heap.objs.size+1:=by rw[Heap.size_update,size_push']
 have keep:∀b o,s.heap.get? b=some o->(((s.heap.push (seqObj "list" #[] 0)).update s.heap.objs.size (Obj.mapSeq (·++(Bk rs).toArray))).push (seqObj "list" (Bk rs).toArray 0)).get? b=some o:=λb o q=>by
  have n1:b≠s.heap.objs.size:=ug (sr q)
  have n2:b≠s.heap.objs.size+1:=ug (wo (sr q))
  rw[Aaq _ _ _ (by rw[hsz];exact n2),yy _ _ _ _ n1,Aaq _ _ _ n1]
  exact q
 have hoL:(((s.heap.push (seqObj "list" #[] 0)).update s.heap.objs.size (Obj.mapSeq (·++(Bk rs).toArray))).push (seqObj "list" (Bk rs).toArray 0)).get? (s.heap.objs.size+1)=some (seqObj "list" (Bk rs).toArray 0):=by
  rw[←hsz];exact t9 _ rfl
 show wpAny _ _ _ _ _ {s with heap:=((s.heap.push (seqObj "list" #[] 0)).update s.heap.objs.size (Obj.mapSeq (·++(Bk rs).toArray))).push (seqObj "list" (Bk rs).toArray 0)}
 rw[hsz]
 have ha:∀x∈rs,x.1≠s.heap.objs.size+1:=λx hx=>by
  obtain⟨o,_,_,_,ho,_⟩:=t x hx
  exact ug (wo (sr ho))
 have t2:TupsH (((s.heap.push (seqObj "list" #[] 0)).update s.heap.objs.size (Obj.mapSeq (·++(Bk rs).toArray))).push (seqObj "list" (Bk rs).toArray 0)) rs:=λx hx=>by
  obtain⟨o,t1,u1,n,ho,z⟩:=t x hx
  exact⟨o,t1,u1,n,keep _ _ ho,z⟩
 refine se (vn (vj slot_list_sort ⟨_,hoL,rfl⟩ entry_list_sort (Wb hoL ha t2 h64 λqs a1 a2=>⟨_,rfl,si ⟨_,rfl,h qs a1 a2⟩⟩) (args_list_sort _)))
end
theorem L8 {X:Cx}:Gd X (.builtin "sorted") (λxs H Q=>∃(p:Addr)(rs:List RA),xs=[.ref p]/\H p=some (.lst (refs rs))/\RowOk H rs/\rs.length<64/\
  ∀(D:Addr)(qs:List RA),H D=none->qs.Perm rs->qs.Pairwise (λx y=>x.2.1<=y.2.1)->Q (.ref D) (upd H D (.lst (refs qs)))):=by
 intro pins s σ H xs us Q I r h
 obtain⟨p,rs,rfl,hp,hr,h64,q⟩:=h
 obtain⟨u,rfl,ru⟩:=vals1 r
 cases ru
 obtain⟨its,rv,pl,hz⟩:=I.list (SqL.of (K:=X.K) hp)
 have e:=Rw rv
 subst e
 refine Uq pl.isList (I.tups hr) h64 λqs a1 a2=>?_
 obtain⟨c,hc⟩:=sortedAll_at s.heap (Bk rs) (Bk qs).toArray
 have hn:H (s.heap.objs.size+1)=none:=I.hok.fresh (y6 _)
 refine⟨.ref (s.heap.objs.size+1),_,I.laid (t':=s.toks) (o:=.lst (refs qs)) (λb o=>sortedAll_old) (y6 _) ?_,rfl,q _ qs hn a1 a2⟩
 have hq:(refs qs).length=rs.length:=by unfold refs;rw[sf,a1.length_eq]
 exact⟨by rw[hq,vd];lia,Bk qs,c,Rp qs,hc⟩
end L2
namespace L2
open PySem PySem.Spec PyProof.Rows PySem.SeqAt
def sps (rs:List RA):List (Int×Int):=rs.map (·.2)
theorem hu2 {cm:Bool}{k:Nat}{A:Around}(hr:Room cm k A):A.units+2<cLine:=ve (Aax (by decide:2<=64) _) hr.units
theorem Pd {rs:List RA}{i:Nat}{x:V}(h:(refs rs)[i]?=some x):∃y,rs[i]?=some y/\y∈rs/\x=.ref y.1:=by
 unfold refs at h
 rw[ur] at h
 obtain⟨y,e,rfl⟩:=vg.mp h
 exact⟨y,e,uz e,rfl⟩
theorem RowOk.up {H H':Hp}{rs:List RA}(h:RowOk H rs)(s:Same H H'):RowOk H' rs:=λx hx=>s _ _ (h x hx)
theorem RowOk.upd {H:Hp}{rs:List RA}{l:Addr}{xs:List V}{o:HO}(h:RowOk H rs)(hl:H l=some (.lst xs)):RowOk (upd H l o) rs:=λx hx=>by
 rw[Ad (λe=>by have:=h x hx;rw[e,hl] at this;cases this)]
 exact h x hx
theorem RowOk.nil {H:Hp}:RowOk H []:=λ_ h=>nomatch h
theorem RowOk.app {H:Hp}{rs:List RA}{a:Addr}{b e:Int}(h:RowOk H rs)(ha:H a=some (.tup [.int b,.int e])):RowOk H (rs++[(a,b,e)]):=λx hx=>by
 rcases uh.mp hx with hx|hx
 · exact h x hx
 ·
  rw[tj] at hx
  subst hx
  exact ha
theorem RowOk.init {H:Hp}{rs:List RA}{y:RA}(h:RowOk H (rs++[y])):RowOk H rs:=λx hx=>h x (vc _ hx)
theorem Kg (rs:List RA)(a:Addr)(b e:Int):refs rs++[.ref a]=refs (rs++[(a,b,e)]):=by unfold refs;rw[uv];rfl
theorem Fc (rs:List RA)(a:Addr)(b e:Int):sps (rs++[(a,b,e)])=sps rs++[(b,e)]:=by unfold sps;rw[uv];rfl
theorem Gq (rs:List RA):(refs rs).length=rs.length:=sf ..
theorem Ek (rs:List RA):(sps rs).length=rs.length:=sf ..
section
variable {X:Cx}
theorem dn (hu:X.A.units+2<cLine):OpR X (compareOp .NotEq) (λx y H Q=>∃(a b:Addr)(xs:List V),x=.ref a/\y=.ref b/\H a=some (.lst xs)/\H b=some (.lst [])/\Q (.bl (!xs.isEmpty)) H):=by
 intro pins s σ H x y v u Q I rx ry h
 obtain⟨a,b,xs,rfl,rfl,ha,hb,q⟩:=h
 cases rx
 cases ry
 obtain⟨its,rv,pl,hz⟩:=I.list (SqL.of (K:=X.K) ha)
 obtain⟨its2,rv2,pl2,hz2⟩:=I.list (SqL.of (K:=X.K) hb)
 cases rv2
 have hl:=rv.length
 cases xs with
 |
  nil=>
  cases rv
  refine RcNeAt.lists (e:=λ_=>true) pl.isList pl2.isList rfl (by lia) (λj h1 h2=>absurd h1 (by simp)) X.prog X.w X.xe _ ?_
  exact⟨.bl _,H,I,rfl,q⟩
 |
  cons y ys=>
  refine RcNeAt.lists_lengths pl.isList pl2.isList (by rw[su,←hl];simp) (by lia) X.prog X.w X.xe _ ?_
  exact⟨.bl _,H,I,rfl,q⟩
end
def RowAt (H:Hp)(l:Addr)(rs:List RA):Prop:=H l=some (.lst (refs rs))/\RowOk H rs
theorem RowAt.up {H H':Hp}{l:Addr}{rs:List RA}(h:RowAt H l rs)(s:Same H H'):RowAt H' l rs:=⟨s _ _ h.1,h.2.up s⟩
def SameX (F:Addr)(H H':Hp):Prop:=∀b o,b≠F->H b=some o->H' b=some o
theorem SameX.refl (F:Addr)(H:Hp):SameX F H H:=λ_ _ _ e=>e
theorem SameX.same {F:Addr}{H H2 H':Hp}(s:Same H H2)(x:SameX F H2 H')(hF:H F=none):Same H H':=λb o e=>x b o (Am e hF) (s b o e)
theorem SameX.put {F t:Addr}{H H':Hp}{o:HO}{xs:List V}(x:SameX F H H')(ht:H' t=none):SameX F H (upd (upd H' t o) F (.lst xs)):=λb u hb e=>by
 rw[Ad hb]
 exact Ah ht _ _ (x b u hb e)
theorem RowAt.upX {F l:Addr}{H H':Hp}{rs:List RA}{xs:List V}(h:RowAt H l rs)(hl:l≠F)(hF:H F=some (.lst xs))(x:SameX F H H'):RowAt H' l rs:=
 ⟨x _ _ hl h.1,λy hy=>x _ _ (λe=>by have:=h.2 y hy;rw[e,hF] at this;cases this) (h.2 y hy)⟩
theorem RowAt.put {H:Hp}{F t:Addr}{fs:List RA}{b e:Int}(h:RowAt H F fs)(ht:H t=none):RowAt (upd (upd H t (.tup [.int b,.int e])) F (.lst (refs fs++[.ref t]))) F (fs++[(t,b,e)]):=by
 have htF:t≠F:=λz=>by rw[z,h.1] at ht;cases ht
 have hF2:upd H t (.tup [.int b,.int e]) F=some (.lst (refs fs)):=by rw[Ad (λz=>htF z.symm)];exact h.1
 exact⟨by rw[Ab,Kg _ _ b e],RowOk.app ((h.2.up (Ah ht)).upd hF2) (by rw[Ad htF];exact Ab)⟩
theorem RowAt.at2 {H:Hp}{F t:Addr}{fs:List RA}{o:HO}(h:RowAt H F fs)(ht:H t=none):upd H t o F=some (.lst (refs fs)):=by
 rw[Ad (λz=>by rw[←z,h.1] at ht;cases ht)]
 exact h.1
section
variable {X:Cx}
end
end L2
namespace L2
open PySem PySem.Spec PySem.Calls PyProof.Rows Builtin Builtin.Str
section
variable {X:Cx}
end
end L2
namespace L2
open PySem PySem.Spec PySem.Calls PyProof.Rows
section
variable {X:Cx}{m:Str}{apos pos:Pos}{o e:Expr}{es:List Expr}{ta:TE}{t:TA}
structure Ans (X:Cx)(m:Str)(n:Nat)(C:Addr)(R:V->List V->Hp->VK->Prop):Prop where
 cls:Cls X.K C
 run:∃(f:Addr)(fd:FuncData)(ps:List Str)(ds:List Value)(dvs:List V)(CX:CXT)(cm:Bool)(k:Nat)(sp:Sp)(E:XK),Meth X.K C m f/\FnOk X.prog X.w X.K X.mg X.base CX cm k f fd ps sp/\Room cm k X.A/\Binds X.K fd ps ds/\Vals dvs ds/\Passes CX X E/\
  ∀x vs H Q,vs.length=n->R x vs H Q->sp (x::(vs++dvs)) H Q E
def l7 (m:Str)(n:Nat)(D:Addr->(V->List V->Hp->VK->Prop)->Prop)(ta:TE)(t:TA):TE:=λσ H Q=>ta σ H λx H1=>∃a C dx fs R,x=.ref a/\H1 a=some (.ins C dx fs)/\fs.lookup m=none/\D C R/\
 t σ H1 λvs H2=>vs.length=n/\R x vs H2 Q
theorem Gy {pl:Sem Bool}{n:Nat}{D:Addr->(V->List V->Hp->VK->Prop)->Prop}(he:PE X o ta)(hD:∀C R,D C R->Ans X m n C R)(ha:PA X (e::es) t)
  (hst:starEach (e::es) X.env=(false,eval e X.env)::starEach es X.env:=by rfl) (hpl:(backTo pos (starEach es X.env)).any (·.1)=false:=by rfl)
  (ht:eval (.Call (.Attribute o m apos) (e::es) [] pos) X.env=(do
   let ov ←eval o X.env
   standAt apos.atName
   let (f,first) ←holding [ov] (getMethod ov m pl)
   callWith pos f first (backTo pos (starEach (e::es) X.env)) (backToKw pos (keywordEach [] X.env))):=by rfl):
  PE X (.Call (.Attribute o m apos) (e::es) [] pos) (l7 m n D ta t):=by
 intro pins s σ H Q I h
 refine W.methodCall_KW (pl:=pl) (thn (he pins s σ H _ I h) λu s1 ⟨x,H1,I1,rx,a,C,dx,fs,R,ex,ea,l,d,q⟩=>?_) ht
 subst ex
 obtain rfl:u=Value.ref a:=rx
 obtain⟨c,f,fd,ps,ds,dvs,CX,cm,k,sp,E,hm,F,hr,hb,hd,hx,hR⟩:=hD C R d
 refine Li I1 ea c hm l ?_
 refine W.callWith_K (first:=[.ref a]) (h₀:=X.base) I.ok.mod.kin hm.kp (thn (ha pos pins s1 σ H1 _ I1 q) λus s2 ⟨vs,H2,I2,r,hn,q2⟩=>⟨I2.kIn,?_⟩) hst hpl
 exact Zl (us:=.ref a::us) (vs:=.ref a::vs) F hr hb hd hx I2 (.cons rfl r) (hR _ _ _ _ hn q2)
end
section
variable {X:Cx}{K:W.Frag}{o e value:Expr}{f:Str}{pos pos':Pos}{ta tv:TE}(hK:X.K=K)
include hK
theorem G1 (he:PE X e ta)(hb:attributeBase e f X.env (eval e X.env)=eval e X.env:=by rfl):PE X (.Attribute e f pos) (p6 K ta f):=by subst hK;exact kg he hb
theorem Tc (ha:PE X o ta)(hv:PE X value tv)(hs:swapsWith value (some (.Attribute o f pos')) pos.line X.env=pure false:=by rfl):PS X (.Assign [.Attribute o f pos'] value pos) (pq K ta tv f):=by subst hK;exact ly ha hv hs
end
section
variable {X:Cx}{CX:CXT}{cm:Bool}{k:Nat}{f C:Addr}{fd:FuncData}{ps:List Str}{sp:Sp}{dvs:List V}{ds:List Value}{E:XK}{x m:Str}{p pos apos:Pos}{e:Expr}{es:List Expr}{t:TA}
end
end L2
namespace L2
open PySem PySem.Spec PyProof.Rows
end L2
namespace L2
open PySem PySem.Spec PyProof.Rows PySem.SeqAt
section
variable {X:Cx}
end
section
variable {X:Cx}
end
end L2
namespace L2
open PySem PySem.Spec PyProof.Rows
section
variable {X:Cx}
end
def rz (t u:TS):TS:=λD σ H=>∃P:St->Hp->Prop,t {D with nx:=P} σ H/\∀σ' H',P σ' H'->u D σ' H'
section
variable {X:Cx}{st:Stmt}{rest:List Stmt}{t u:TS}
theorem K8 (h1:PS X st t)(h2:PSs X rest u):PSs X (st::rest) (rz t u):=by
 intro pins s σ H D I h
 obtain⟨P,ha,hb⟩:=h
 refine wpAny_execs_cons (thn (h1 pins s σ H {D with nx:=P} I ha) λf s1 q=>?_)
 cases f with
 |
  next=>
  obtain⟨σ',H',I',q⟩:=q
  exact h2 pins s1 σ' H' D I' (hb σ' H' q)
 | ret v=>exact q
 | brk=>exact q
 | cont=>exact q
end
end L2
namespace L2
section
variable {α:Type}{R:α->α->Prop}
end
section
variable {α:Type}{R:α->α->Prop}
end
end L2
namespace L2
open PySem PyProof.Rows
section
variable {M:Model}{A:Around}{E:Value->Shared->Prop}{s:Shared}
end
section
variable {prog:Program}{w:World}{A:Around}{E:Value->Shared->Prop}{s:Shared}{O:KeyOrd}{key:Keyed->O.α}{D:Keyed->Prop}{κ:SortKind}
end
section lo
variable {prog:Program}{w:World}{A:Around}{E:Value->Shared->Prop}{s:Shared}{O:KeyOrd}{key:Keyed->O.α}{D:Keyed->Prop}{κ:SortKind}{a b:Array Keyed}
end lo
section hi
variable {prog:Program}{w:World}{A:Around}{E:Value->Shared->Prop}{s:Shared}{O:KeyOrd}{key:Keyed->O.α}{D:Keyed->Prop}{κ:SortKind}{a b:Array Keyed}
end hi
section
variable {prog:Program}{w:World}{A:Around}{E:Value->Shared->Prop}{s:Shared}{O:KeyOrd}{key:Keyed->O.α}{D:Keyed->Prop}{κ:SortKind}
end
section
variable {prog:Program}{w:World}{A:Around}{E:Value->Shared->Prop}{s:Shared}{O:KeyOrd}{key:Keyed->O.α}{D:Keyed->Prop}{κ:SortKind}{a₀:Array Keyed}{pd:Array (Nat×Nat×Nat)}{lo:Nat}
def kb {O:KeyOrd}(key:Keyed->O.α)(p:Array Keyed)(i:Nat):O.α:=key (p.getD i (Value.none,Value.none))
end
section
variable {prog:Program}{w:World}{A:Around}{E:Value->Shared->Prop}{s:Shared}{O:KeyOrd}{key:Keyed->O.α}{D:Keyed->Prop}{κ:SortKind}{a₀:Array Keyed}{pd:Array (Nat×Nat×Nat)}{lo:Nat}
end
end L2
namespace L2
open PySem PySem.W PyProof.Rows
section
variable {prog:Program}{w:World}{A:Around}{E:Value->Shared->Prop}{s:Shared}{vs:List Value}{O:KeyOrd}{key:Value->O.α}{κ:SortKind}
end
theorem Hm {α β:Type}{f:α->β}{us l:List β}(h:us.Perm l):∀rs:List α,l=rs.map f->∃qs:List α,qs.Perm rs/\us=qs.map f:=by
 induction h with
 | nil=>intro rs e;exact⟨rs,.refl _,e⟩
 |
  cons x h ih=>
  intro rs e
  cases rs with
  | nil=>cases e
  |
   cons r rs=>
   injection e with e1 e2
   obtain⟨qs,p,rfl⟩:=ih rs e2
   exact⟨r::qs,p.cons r,by rw[e1];rfl⟩
 |
  swap x y l=>
  intro rs e
  match rs,e with
  |
   a::b::rs,e=>
   injection e with e1 e2
   injection e2 with e2 e3
   exact⟨b::a::rs,List.Perm.swap ..,by rw[e1,e2,e3];rfl⟩
 |
  trans h1 h2 ih1 ih2=>
  intro rs e
  obtain⟨qs,p,rfl⟩:=ih2 rs e
  obtain⟨ps,p',rfl⟩:=ih1 qs rfl
  exact⟨ps,p'.trans p,rfl⟩
section
variable {X:Cx}
end
end L2
namespace L2
open PySem PySem.Spec PyProof.Rows
section
variable (P:Program)(w:World)
end
section
variable {P:Program}{w:World}{H H':Hp}{h h':Heap}{a:Addr}{o:HO}
end
section
variable {P:Program}{w:World}{H:Hp}{h h':Heap}{x e:Addr}{o':HO}
end
section
variable {fs fs' ex ex':List Addr}{H H1 H2:Hp}{h h1 h2 h':Heap}{a x e:Addr}{o:HO}
end
section
variable {X:Cx}{pins:List (Addr×Obj)}{σ:List (Option V)}{H H':Hp}{s:Shared}{h':Heap}
end
section
variable {X:Cx}
variable {a b:Expr}{ta tb:TE}{pos:Pos}
variable {tA tB':TT}{rest:List Expr}
end
section
variable {X:Cx}{pins:List (Addr×Obj)}{σ:St}{H:Hp}{s:Shared}{a:Addr}{xs ys:List V}
end
section
variable {X:Cx}{pins:List (Addr×Obj)}{σ:St}{H:Hp}{s:Shared}{E:Value->Shared->Prop}
end
section
variable {X:Cx}{st:Stmt}{rest:List Stmt}{t u:TS}{e:Expr}{te:TE}{pos:Pos}
end
section
variable {X:Cx}{pos:Pos}
end
section
variable {X:Cx}{pos:Pos}
end
section
variable {X:Cx}{tg:Expr}
end
section
variable {X:Cx}{a b c:Expr}{ta tb tc:TE}{pos:Pos}
end
section
variable {X:Cx}{a b c:Expr}{ta tb tc:TE}{pos:Pos}
end
section
variable {prog:Program}{w:World}{A:Around}{E:Value->Shared->Prop}{s:Shared}{K:W.Frag}{x dx C f:Addr}{mA:Str->Option Value}{name:Str}{v:Value}
end
section
variable {P:Program}{w:World}{H H':Hp}{h h':Heap}{a C dx:Addr}{fs fs':List (Str×V)}
end
section
variable {X:Cx}{pins:List (Addr×Obj)}{σ:St}{H:Hp}{s:Shared}{a C dx:Addr}{fs:List (Str×V)}{f:Str}{v:V}{A:Around}{E:Value->Shared->Prop}
end
section
variable {X:Cx}{o e value:Expr}{f:Str}{pos pos' tpos:Pos}{ta tv:TE}
end
section
variable {X:Cx}{pins:List (Addr×Obj)}{σ:St}{H:Hp}{s:Shared}{A:Around}{E:Value->Shared->Prop}{Q:Value->Shared->Prop}{c:Value}{b:Bool}
end
section
variable {X:Cx}{e:Expr}{es:List Expr}{te:TE}{t:TA}{pos:Pos}
end
section
variable {X:Cx}{pins:List (Addr×Obj)}{σ:St}{H:Hp}{s s':Shared}
end
section
variable {X:Cx}{CX:CXT}{cm:Bool}{k:Nat}{f C:Addr}{fd:FuncData}{ps:List Str}{sp:Sp}{dvs:List V}{ds:List Value}{E:XK}{x m:Str}{p pos apos:Pos}{e o:Expr}{es:List Expr}{ta:TE}{t:TA}
end
section
variable {X:Cx}{CX:CXT}{cm:Bool}{k:Nat}{f C:Addr}{fd:FuncData}{ps ks:List Str}{sp:Sp}{E:XK}{x m:Str}{p pos apos kpos:Pos}{e o:Expr}{es:List Expr}{kws:List Keyword}{te ta:TE}{t tk:TA}{nm:Option Str}
variable {g:List Value->List Value->List Value}{gV:List V->List V->List V}
end
section
variable {X:Cx}{x:Str}{p pos:Pos}{e:Expr}{es:List Expr}{t:TA}{id T:String}{r:List V->Hp->VK->Prop}
end
section
variable {κ:Type}[DecidableEq κ]
def Pr (kvs:List (κ×V))(k:κ):Option V:=(kvs.find? λkv=>decide (kv.1=k)).map (·.2)
def putK (kvs:List (κ×V))(k:κ)(v:V):List (κ×V):=
 if(kvs.any λkv=>decide (kv.1=k))=true then kvs.map (λkv=>if kv.1=k then(kv.1,v) else kv) else kvs++[(k,v)]
def Sy (kvs:List (κ×V))(k:κ):List (κ×V):=kvs.filter λkv=>decide (kv.1≠k)
theorem K6 {p:κ×V}{r:List (κ×V)}{k:κ}(e:p.1=k):Pr (p::r) k=some p.2:=by simp[Pr,yu,e]
theorem J4 {p:κ×V}{r:List (κ×V)}{k:κ}(e:¬p.1=k):Pr (p::r) k=Pr r k:=by simp[Pr,yu,e]
theorem P7 (k:κ):∀kvs:List (κ×V),(kvs.any λkv=>decide (kv.1=k))=(Pr kvs k).isSome
 | []=>rfl
 |
  p::r=>by
  rw[List.any_cons]
  by_cases e:p.1=k
  · simp only[K6 e,so e,Bool.true_or,Option.isSome_some]
  · rw[J4 e,ua e,Bool.false_or];exact P7 k r
theorem M8 (kvs:List (κ×V))(k:κ)(v:V):(putK kvs k v).length<=kvs.length+1:=by
 unfold putK
 split
 · rw[sf];lia
 · rw[ue,t5,List.length_nil];lia
theorem bc {kvs:List (κ×V)}{k:κ}(v:V)(h:Pr kvs k=none):putK kvs k v=kvs++[(k,v)]:=by
 unfold putK
 rw[P7,h]
 exact if_neg (by decide)
theorem RelO.isSome_eq {o:Option V}{u:Option Value}(r:RelO o u):o.isSome=u.isSome:=by
 cases o with
 |
  none=>cases u with
  | none=>rfl
  | some _=>exact(show False from r).elim
 |
  some _=>cases u with
  | none=>exact(show False from r).elim
  | some _=>rfl
theorem KV.val {kvs:List (κ×V)}{vs:List (κ×Value)}(r:KV kvs vs)(k:κ):RelO (Pr kvs k) (valueAt vs k):=by
 unfold KV at r
 induction r with
 | nil=>exact True.intro
 |
  @cons p q ps qs h t ih=>
  obtain⟨h1,h2⟩:=h
  by_cases e:p.1=k
  ·
   have e':q.1=k:=h1.symm.trans e
   have b:valueAt (q::qs) k=some q.2:=by simp[valueAt,yu,e']
   rw[K6 e,b];exact h2
  ·
   have e':¬q.1=k:=λz=>e (h1.trans z)
   have b:valueAt (q::qs) k=valueAt qs k:=by simp[valueAt,yu,e']
   rw[J4 e,b];exact ih
theorem KV.any {kvs:List (κ×V)}{vs:List (κ×Value)}(r:KV kvs vs)(k:κ):(kvs.any λkv=>decide (kv.1=k))=vs.any λkv=>decide (kv.1=k):=by
 unfold KV at r
 induction r with
 | nil=>rfl
 | cons h t ih=>rw[List.any_cons,List.any_cons,ih,h.1]
theorem KV.repl {kvs:List (κ×V)}{vs:List (κ×Value)}(r:KV kvs vs)(k:κ){y:V}{u:Value}(ry:RelV y u):
  KV (kvs.map λkv=>if kv.1=k then(kv.1,y) else kv) (vs.map λkv=>if kv.1=k then(kv.1,u) else kv):=by
 unfold KV at r ⊢
 induction r with
 | nil=>exact .nil
 |
  @cons p q ps qs h t ih=>
  rw[um,um]
  refine .cons ?_ ih
  obtain⟨h1,h2⟩:=h
  by_cases e:p.1=k
  · rw[if_pos e,if_pos (h1.symm.trans e)];exact⟨h1,ry⟩
  · rw[if_neg e,if_neg (λz=>e (h1.trans z))];exact⟨h1,h2⟩
theorem KV.put {kvs:List (κ×V)}{vs:List (κ×Value)}(r:KV kvs vs)(k:κ){y:V}{u:Value}(ry:RelV y u):KV (putK kvs k y) (stored vs k u):=by
 unfold putK stored
 rw[r.any k]
 by_cases e:(vs.any λkv=>decide (kv.1=k))=true
 · rw[if_pos e,if_pos e];exact r.repl k ry
 · rw[if_neg e,if_neg e];exact Abl r ⟨rfl,ry⟩
theorem KV.drop {kvs:List (κ×V)}{vs:List (κ×Value)}(r:KV kvs vs)(k:κ):KV (Sy kvs k) (without vs k):=by
 unfold KV at r ⊢
 unfold Sy without
 induction r with
 | nil=>exact .nil
 |
  @cons p q ps qs h t ih=>
  obtain⟨h1,h2⟩:=h
  rw[Aai,Aai]
  by_cases e:p.1=k
  ·
   have a:¬decide (p.1≠k)=true:=by simp[e]
   have b:¬decide (q.1≠k)=true:=by simp[h1.symm.trans e]
   rw[if_neg a,if_neg b];exact ih
  ·
   have e':¬q.1=k:=λz=>e (h1.trans z)
   have a:decide (p.1≠k)=true:=by simp[e]
   have b:decide (q.1≠k)=true:=by simp[e']
   rw[if_pos a,if_pos b];exact .cons ⟨h1,h2⟩ ih
theorem KV.keys {kvs:List (κ×V)}{vs:List (κ×Value)}(r:KV kvs vs):kvs.map (·.1)=vs.map (·.1):=by
 unfold KV at r
 induction r with
 | nil=>rfl
 | cons h t ih=>rw[um,um,ih,h.1]
theorem KV.length {kvs:List (κ×V)}{vs:List (κ×Value)}(r:KV kvs vs):kvs.length=vs.length:=Aat r
theorem bx (kvs:List (κ×V))(k:κ):(Sy kvs k).length<=kvs.length:=v9 _ _
end
theorem To {P:Program}{w:World}{k:Key}{u:Value}(r:RelV (kV k) u):(Ax P w).is k u=true:=by
 cases k with
 | inl i=>obtain⟨t,e⟩:=(show ∃t,u=Value.int i t from r);subst e;exact Ti P w i t
 | inr x=>obtain⟨t,e⟩:=(show ∃t,u=Value.str x t from r);subst e;exact Ul P w x t
theorem j7 {a b:Key}(e:kV a=kV b):a=b:=by
 cases a with
 |
  inl i=>cases b with
  | inl j=>have e':V.int i=V.int j:=e;injection e' with e';rw[e']
  | inr y=>exact nomatch (show V.int i=V.str y from e)
 |
  inr x=>cases b with
  | inl j=>exact nomatch (show V.str x=V.int j from e)
  | inr y=>have e':V.str x=V.str y:=e;injection e' with e';rw[e']
theorem Yq:∀{a b:List Key},a.map kV=b.map kV->a=b
 | [],[],_=>rfl
 | [],_::_,e=>by simp at e
 | _::_,[],e=>by simp at e
 |
  x::xs,y::ys,e=>by
  rw[um,um] at e
  injection e with e1 e2
  rw[j7 e1,Yq e2]
theorem R4 {P:Program}{w:World}:∀{ks:List Key}{us:List Value},Vals (ks.map kV) us->ItemsAre (Ax P w) ks us
 | [],_,r=>by rw[List.map_nil] at r;cases r;exact .nil
 |
  k::ks,_,r=>by
  rw[um] at r
  cases r with
  | cons h t=>exact .cons (To h) (R4 t)
abbrev KT (H:Hp):List (List Key×V)->List (List Key×Addr×Value)->Prop:=Paired λp q=>p.1=q.1/\H q.2.1=some (.tup (p.1.map kV))/\RelV p.2 q.2.2
theorem KT.val {H:Hp}{kvs:List (List Key×V)}{xs:List (List Key×Addr×Value)}(r:KT H kvs xs)(k:List Key):RelO (Pr kvs k) ((atKey xs k).map (·.2)):=by
 induction r with
 | nil=>exact True.intro
 |
  @cons p q ps qs h t ih=>
  obtain⟨h1,_,h2⟩:=h
  by_cases e:p.1=k
  ·
   have e':q.1=k:=h1.symm.trans e
   have b:atKey (q::qs) k=some q.2:=by simp[atKey,yu,e']
   rw[K6 e,b];exact h2
  ·
   have e':¬q.1=k:=λz=>e (h1.trans z)
   have b:atKey (q::qs) k=atKey qs k:=by simp[atKey,yu,e']
   rw[J4 e,b];exact ih
theorem KT.repl {H:Hp}{kvs:List (List Key×V)}{xs:List (List Key×Addr×Value)}(r:KT H kvs xs)(k:List Key){y:V}{u:Value}(ry:RelV y u):
  KT H (kvs.map λkv=>if kv.1=k then(kv.1,y) else kv) (xs.map (putAt k u)):=by
 induction r with
 | nil=>exact .nil
 |
  @cons p q ps qs h t ih=>
  rw[um,um]
  refine .cons ?_ ih
  obtain⟨h1,h2,h3⟩:=h
  unfold putAt
  by_cases e:p.1=k
  · rw[if_pos e,if_pos (h1.symm.trans e)];exact⟨h1,h2,ry⟩
  · rw[if_neg e,if_neg (λz=>e (h1.trans z))];exact⟨h1,h2,h3⟩
theorem KT.put {H:Hp}{kvs:List (List Key×V)}{xs:List (List Key×Addr×Value)}(r:KT H kvs xs)(k:List Key){b:Addr}{y:V}{u:Value}(hb:H b=some (.tup (k.map kV)))(ry:RelV y u):
  KT H (putK kvs k y) (storedH xs k b u):=by
 have e:(kvs.any λkv=>decide (kv.1=k))=(atKey xs k).isSome:=by
  rw[P7,(r.val k).isSome_eq,Aba]
 unfold putK storedH
 rw[e]
 by_cases q:(atKey xs k).isSome=true
 · rw[if_pos q,if_pos q];exact r.repl k ry
 · rw[if_neg q,if_neg q];exact Abl r ⟨rfl,hb,ry⟩
theorem KT.keeps {H H':Hp}{kvs:List (List Key×V)}{xs:List (List Key×Addr×Value)}(r:KT H kvs xs)(ht:∀b ys,H b=some (.tup ys)->H' b=some (.tup ys)):KT H' kvs xs:=
 Paired.mapP r λ_ _ z=>⟨z.1,ht _ _ z.2.1,z.2.2⟩
section
variable {P:Program}{w:World}{H:Hp}{h:Heap}{a:Addr}
theorem l8 {u:HO}(ok:HOk P w H h)(e:Rd H a u):ObjOk P w H h a u:=e.ok ok
theorem Tr {kvs:List (Key×V)}(ok:HOk P w H h)(e:Rd H a (.dK kvs)):kvs.length<=sizeLine/\(a==sysModules)=false/\∃vs,KV kvs vs/\h.DictOf (Ax P w) a vs:=
 show ObjOk P w H h a (.dK kvs) from l8 ok e
theorem S0 {kvs:List (Key×V)}(ok:HOk P w H h)(e:H a=some (.dK kvs)):kvs.length<=sizeLine/\(a==sysModules)=false/\∃vs,KV kvs vs/\h.DictOf (Ax P w) a vs:=Tr ok (.inl e)
theorem Ov {ks:List Key}(ok:HOk P w H h)(e:H a=some (.tup (ks.map kV))):(tupleKind (Ax P w)).is h ks a:=by
 obtain⟨_,its,r,o,h1,h2,n,h3⟩:=(show ObjOk P w H h a (.tup (ks.map kV)) from ok a _ e)
 exact⟨o,its.toArray,n,h1,h2,h3,by simpa using R4 r⟩
theorem V8 {kvs:List (List Key×V)}(ok:HOk P w H h)(e:Rd H a (.dT kvs)):kvs.length<=sizeLine/\(a==sysModules)=false/\
  ∃xs,KT H kvs xs/\h.DictOfH (tupleKind (Ax P w)) a xs:=by
 obtain⟨z,y,xs,r,o,es,ep,h1,h2,h3,h4,h5⟩:=(show ObjOk P w H h a (.dT kvs) from l8 ok e)
 refine⟨z,y,xs,r,o,es,ep,h1,h2,h3,h4,λx hx=>?_,h5⟩
 have all:∀{l:List (List Key×V)}{m:List (List Key×Addr×Value)},KT H l m->∀x∈m,(tupleKind (Ax P w)).is h x.1 x.2.1:=by
  intro l m q
  induction q with
  | nil=>intro x hx;exact nomatch hx
  |
   @cons p q ps qs hq t ih=>
   intro x hx
   rcases uq.mp hx with e|hx
   ·
    subst e
    exact Ov ok (by rw[←hq.1];exact hq.2.1)
   · exact ih x hx
 exact all r x hx
theorem oz {kvs:List (List Key×V)}(ok:HOk P w H h)(e:H a=some (.dT kvs)):kvs.length<=sizeLine/\(a==sysModules)=false/\
 ∃xs,KT H kvs xs/\h.DictOfH (tupleKind (Ax P w)) a xs:=V8 ok (.inl e)
end
def DGet (H:Hp)(a:Addr)(y:V)(r:Option V):Prop:=
 (∃kvs k,Rd H a (.dK kvs)/\y=kV k/\r=Pr kvs k)∨∃kvs k b,Rd H a (.dT kvs)/\y=.ref b/\H b=some (.tup (k.map kV))/\r=Pr kvs k
def DPut (H:Hp)(a:Addr)(y v:V)(H':Hp):Prop:=
 (∃kvs k,H a=some (.dK kvs)/\y=kV k/\kvs.length<sizeLine/\H'=upd H a (.dK (putK kvs k v)))∨
 ∃kvs k b,H a=some (.dT kvs)/\y=.ref b/\H b=some (.tup (k.map kV))/\kvs.length<sizeLine/\H'=upd H a (.dT (putK kvs k v))
theorem DGet.k {H:Hp}{a:Addr}{kvs:List (Key×V)}{k:Key}(e:H a=some (.dK kvs)):DGet H a (kV k) (Pr kvs k):=.inl ⟨kvs,k,.inl e,rfl,rfl⟩
theorem DPut.k {H:Hp}{a:Addr}{kvs:List (Key×V)}{k:Key}{v:V}(e:H a=some (.dK kvs))(hl:kvs.length<sizeLine):DPut H a (kV k) v (upd H a (.dK (putK kvs k v))):=.inl ⟨kvs,k,e,rfl,hl,rfl⟩
section
variable {X:Cx}{pins:List (Addr×Obj)}{σ:St}{H:Hp}{s:Shared}{a:Addr}{y v:V}{u r:Value}{o:Option V}{A:Around}{E:Value->Shared->Prop}
theorem Inv.big (I:Inv X pins σ H s):sysModules<s.heap.objs.size:=by
 have h:mainGlobals<s.heap.objs.size:=(I.mod.glob.keeps I.bk).lt
 exact Nat.lt_trans (by decide) h
theorem Zg {Q:Value->Shared->Prop}(hu:A.units+1<cLine)(I:Inv X pins σ H s)(g:DGet H a y (some v))(ry:RelV y u)(h:∀w' s',Inv X pins σ H s'->RelV v w'->Q w' s'):
  wpAny (model X.prog X.w) A (getItem (.ref a) u) Q E s:=by
 rcases g with⟨kvs,k,e,ey,l⟩|⟨kvs,k,b,e,ey,eb,l⟩
 ·
  subst ey
  obtain⟨z,hd,vs,rel,dd⟩:=Tr I.hok e
  obtain⟨w',hw,rw'⟩:=RelO.some_of (v:=v) (o:=valueAt vs k) (by rw[l];exact rel.val k)
  exact wpAny_getItem_of (To ry) dd.mapOf hw (h w' _ (I.tok _) rw')
 ·
  subst ey
  cases (show u=Value.ref b from ry)
  obtain⟨z,hd,xs,rel,dd⟩:=V8 I.hok e
  obtain⟨w',hw,rw'⟩:=RelO.some_of (v:=v) (o:=(atKey xs k).map (·.2)) (by rw[l];exact rel.val k)
  obtain⟨p,hp,hp2⟩:=vg.mp hw
  refine wpAny_getItem_heap (Aag hu) (Ov I.hok eb) dd hp ?_
  rw[hp2]
  exact h w' _ (I.tok _) rw'
theorem rk {Q:Value->Shared->Prop}(hu:A.units+1<cLine)(I:Inv X pins σ H s)(g:DGet H a y o)(ry:RelV y u)(h:∀s',Inv X pins σ H s'->Q (.bool o.isSome) s'):
  wpAny (model X.prog X.w) A (compareOp .In u (.ref a)) Q E s:=by
 rcases g with⟨kvs,k,e,ey,l⟩|⟨kvs,k,b,e,ey,eb,l⟩
 ·
  subst ey
  obtain⟨z,hd,vs,rel,dd⟩:=Tr I.hok e
  refine wpAny_in_of (To ry) hd dd.mapOf ?_
  rw[←(rel.val k).isSome_eq,←l]
  exact h _ (I.tok _)
 ·
  subst ey
  cases (show u=Value.ref b from ry)
  obtain⟨z,hd,xs,rel,dd⟩:=V8 I.hok e
  refine wpAny_in_heap (Aag hu) (Ov I.hok eb) hd dd ?_
  have q:=(rel.val k).isSome_eq
  rw[Aba] at q
  rw[←q,←l]
  exact h _ (I.tok _)
theorem ir {Q:Value->Shared->Prop}(hu:A.units+1<cLine)(I:Inv X pins σ H s)(g:DGet H a y o)(ry:RelV y u)(h:∀s',Inv X pins σ H s'->Q (.bool (!o.isSome)) s'):
  wpAny (model X.prog X.w) A (compareOp .NotIn u (.ref a)) Q E s:=by
 rcases g with⟨kvs,k,e,ey,l⟩|⟨kvs,k,b,e,ey,eb,l⟩
 ·
  subst ey
  obtain⟨z,hd,vs,rel,dd⟩:=Tr I.hok e
  refine wpAny_notIn_of (To ry) hd dd.mapOf ?_
  rw[←(rel.val k).isSome_eq,←l]
  exact h _ (I.tok _)
 ·
  subst ey
  cases (show u=Value.ref b from ry)
  obtain⟨z,hd,xs,rel,dd⟩:=V8 I.hok e
  refine wpAny_notIn_heap (Aag hu) (Ov I.hok eb) hd dd ?_
  have q:=(rel.val k).isSome_eq
  rw[Aba] at q
  rw[←q,←l]
  exact h _ (I.tok _)
theorem T7 {h':Heap}{t':Nat}{ob:HO}(I:Inv X pins σ H s)(mu:Mut (H a))(hs:Heap.SameBut a s.heap h')(he:∃q,h'.get? a=some q)(new:ObjOk X.prog X.w (upd H a ob) h' a ob):
  Inv X pins σ (upd H a ob) {s with heap:=h',toks:=t'}:=
 I.write (x:=a) (e:=a) mu (.inl rfl) (λb q hb z=>(hs.2 b hb).trans z) he new
theorem d9 {P:Program}{w:World}{H':Hp}{h':Heap}{kvs:List (Key×V)}{vs:List (Key×Value)}(z:kvs.length<=sizeLine)(hd:(a==sysModules)=false)(rel:KV kvs vs)(dd:h'.DictOf (Ax P w) a vs):
 ObjOk P w H' h' a (.dK kvs):=⟨z,hd,vs,rel,dd⟩
theorem X9 {H':Hp}{Q:Unit->Shared->Prop}(hu:A.units+1<cLine)(I:Inv X pins σ H s)(g:DPut H a y v H')(ry:RelV y u)(rv:RelV v r)(h:∀s',Inv X pins σ H' s'->Q () s'):
  wpAny (model X.prog X.w) A (setItem (.ref a) u r) Q E s:=by
 rcases g with⟨kvs,k,e,ey,l,eH⟩|⟨kvs,k,b,e,ey,eb,l,eH⟩
 ·
  subst ey eH
  obtain⟨z,hd,vs,rel,dd⟩:=S0 I.hok e
  have hz:vs.length<=sizeLine:=by rw[←rel.length];exact z
  have hl:(putK kvs k v).length<=sizeLine:=by have:=M8 kvs k v;lia
  refine wpAny_setItem_pairs (hsz:=hz) (To ry) dd λh' dd' hs=>h _ ?_
  have he:∃q,h'.get? a=some q:=let ⟨q,_,_,hq,_⟩:=dd';⟨q,hq⟩
  exact T7 I (by rw[e];exact True.intro) hs he (d9 hl hd (rel.put k rv) dd')
 ·
  subst ey eH
  cases (show u=Value.ref b from ry)
  obtain⟨z,hd,xs,rel,dd⟩:=oz I.hok e
  have hz:xs.length<=sizeLine:=by rw[←Aat rel];exact z
  have hl:(putK kvs k v).length<=sizeLine:=by have:=M8 kvs k v;lia
  refine wpAny_setItem_heap (hsz:=hz) (Aag hu) (Ov I.hok eb) dd λh' dd' hs=>h _ ?_
  obtain⟨q,es,ep,hq,h2,h3,h4,_,h5⟩:=dd'
  refine T7 I (by rw[e];exact True.intro) hs ⟨q,hq⟩ ⟨hl,hd,_,(rel.put k eb rv).keeps λc ys ec=>?_,q,es,ep,hq,h2,h3,h4,h5⟩
  rw[Ad (Bg ec e (λz=>nomatch z))]
  exact ec
end
section
variable {X:Cx}{pins:List (Addr×Obj)}{σ:St}{H:Hp}{s:Shared}{a:Addr}{kvs:List (Key×V)}{k:Key}{u:Value}{A:Around}{E:Value->Shared->Prop}
theorem o8 {v:V}{more:List Value}{Q:Value->Shared->Prop}(I:Inv X pins σ H s)(e:H a=some (.dK kvs))(ry:RelV (kV k) u)(l:Pr kvs k=some v)(hm:more=[]∨∃x,more=[x])
  (h:∀w' s',Inv X pins σ (upd H a (.dK (Sy kvs k))) s'->RelV v w'->Q w' s'):wpAny (model X.prog X.w) A (call (.builtin "dict.pop") (.ref a::u::more)) Q E s:=by
 obtain⟨z,hd,vs,rel,dd⟩:=S0 I.hok e
 obtain⟨w',hw,rw'⟩:=RelO.some_of (v:=v) (o:=valueAt vs k) (by rw[←l];exact rel.val k)
 have hp:(keyPart u).isSome=true:=by
  cases k with
  | inl i=>obtain⟨t,q⟩:=(show ∃t,u=Value.int i t from ry);subst q;rfl
  | inr x=>obtain⟨t,q⟩:=(show ∃t,u=Value.str x t from ry);subst q;rfl
 have ha:argsOk "dict.pop" ⟨.ref a::u::more,[]⟩:=by
  rcases hm with q|⟨x,q⟩
  · subst q;exact PySem.F.args_dict_pop_2 _ _
  · subst q;exact PySem.F.args_dict_pop_3 _ _ _
 refine call_meetsIn PySem.F.slot_dict_pop dd.typeIs PySem.F.entry_dict_pop ha (meets_dict_pop_there (Ax X.prog X.w) a (To ry) more hm hp)
  ⟨vs,w',dd,by rw[←rel.length];exact z,hw,λh' dd' hs=>h w' _ ?_ rw'⟩
 have he:∃q,h'.get? a=some q:=let ⟨q,_,_,hq,_⟩:=dd';⟨q,hq⟩
 exact T7 I (by rw[e];exact True.intro) hs he (d9 (uy (bx kvs k) z) hd (rel.drop k) dd')
theorem nq {Q:Value->Shared->Prop}(I:Inv X pins σ H s)(e:Rd H a (.dK kvs))(h:∀t s',Inv X pins σ H s'->Q (.int kvs.length t) s'):wpAny (model X.prog X.w) A (call (.builtin "len") [.ref a]) Q E s:=by
 obtain⟨z,hd,vs,rel,dd⟩:=Tr I.hok e
 refine call_len_dict hd dd (by rw[←rel.length];rw[vd] at z;lia) ?_
 rw[←rel.length]
 exact h _ _ (I.tok _)
end
def p8 (i:Expr):Prop:=∀ov iv,subscripted i false ov iv=operate [ov,iv] (getItem ov iv)
theorem fz {prog:Program}{w:World}{A:Around}{E:Value->Shared->Prop}{s:Shared}{env:Env}{value slice:Expr}{pos:Pos}{T id:String}{Q:Value->Shared->Prop}
  (hl:typeLookup (.type T) "__getitem__"=pure (some (.builtin id))) (hs:p8 slice)
  (h:wpAny (model prog w) A (eval value env) (λo s₁=>wpAny (model prog w) A (eval slice env) (λi s₂=>s₂.TypeIs o T/\wpAny (model prog w) A (getItem o i) Q E s₂) E s₁) E s):
  wpAny (model prog w) A (eval (.Subscript value slice pos) env) Q E s:=by
 refine Subscript_ (wu h (λo s₁ h₁=>wu h₁ (λi s₂ h₂=>?_) λ_ _ x=>x) λ_ _ x=>x)
 obtain⟨hT,h₂⟩:=h₂
 unfold subscriptTail
 refine se ?_
 rw[getitemInPython_of_ne hT.not_modules]
 refine se (x6 hT hl ?_)
 have fin:wpAny (model prog w) A (subscripted slice false o i) (λr s₃=>wpAny (model prog w) A (letTemporaryGo value o r>>= λ_=>pure r) Q E s₃) E s₂:=by
  rw[hs o i]
  exact wpAny_operating (wu h₂ (λr s₃ h₃=>se (wpAny_letTemporaryGo (si h₃))) λ_ _ x=>x)
 first
  | exact si (se fin)
  | exact se (si (se fin))
  | exact se fin
theorem Uo {X:Cx}{pins:List (Addr×Obj)}{σ:St}{H:Hp}{s:Shared}{a:Addr}{y:V}{o:Option V}(I:Inv X pins σ H s)(g:DGet H a y o):s.TypeIs (.ref a) "dict":=by
 rcases g with⟨kvs,k,e,_,_⟩|⟨kvs,k,b,e,_,_,_⟩
 ·
  obtain⟨_,_,vs,_,dd⟩:=Tr I.hok e
  exact dd.typeIs
 ·
  obtain⟨_,_,xs,_,dd⟩:=V8 I.hok e
  exact dd.typeIs
def nh (td ty:TE):TE:=λσ H Q=>td σ H λx H1=>ty σ H1 λy H2=>∃a v,x=.ref a/\DGet H2 a y (some v)/\Q v H2
def qw (ty td:TE):TE:=λσ H Q=>ty σ H λy H1=>td σ H1 λx H2=>∃a o,x=.ref a/\DGet H2 a y o/\Q (.bl o.isSome) H2
def i4 (ty td:TE):TE:=λσ H Q=>ty σ H λy H1=>td σ H1 λx H2=>∃a o,x=.ref a/\DGet H2 a y o/\Q (.bl (!o.isSome)) H2
def n6 (td ty tv:TE):TS:=λD σ H=>tv σ H λv H1=>td σ H1 λx H2=>ty σ H2 λy H3=>∃a H4,x=.ref a/\DPut H3 a y v H4/\D.nx σ H4
section
variable {X:Cx}{o i e value:Expr}{pos pos' tpos:Pos}{td ty tv:TE}
theorem O6 (hu:X.A.units+1<cLine)(ho:PE X o td)(hi:PE X i ty)(hs:p8 i):PE X (.Subscript o i pos) (nh td ty):=by
 intro pins s σ H Q I h
 refine fz PySem.F.slot_dict_getitem.lookup hs (thn (ho pins s σ H _ I h) λu s1 ⟨x,H1,I1,rx,q1⟩=>thn (hi pins s1 σ H1 _ I1 q1) λiv s2 hz=>?_)
 obtain⟨y,H2,I2,ry,a,v,ex,g,q2⟩:=hz
 subst ex
 obtain rfl:u=Value.ref a:=rx
 exact⟨Uo I2 g,Zg hu I2 g ry λw' s3 I3 rw'=>⟨v,H2,I3,rw',q2⟩⟩
theorem Zd (hu:X.A.units+1<cLine)(hi:PE X i ty)(ho:PE X o td):PC X .In i o (qw ty td):=by
 intro pins s σ H Q I h
 refine thn (hi pins s σ H _ I h) λiv s1 ⟨y,H1,I1,ry,q1⟩=>thn (ho pins s1 σ H1 _ I1 q1) λu s2 hz=>?_
 obtain⟨x,H2,I2,rx,a,ov,ex,g,q2⟩:=hz
 subst ex
 obtain rfl:u=Value.ref a:=rx
 exact rk hu I2 g ry λs3 I3=>⟨.bl ov.isSome,H2,I3,rfl,q2⟩
theorem Y6 (hu:X.A.units+1<cLine)(hi:PE X i ty)(ho:PE X o td):PC X .NotIn i o (i4 ty td):=by
 intro pins s σ H Q I h
 refine thn (hi pins s σ H _ I h) λiv s1 ⟨y,H1,I1,ry,q1⟩=>thn (ho pins s1 σ H1 _ I1 q1) λu s2 hz=>?_
 obtain⟨x,H2,I2,rx,a,ov,ex,g,q2⟩:=hz
 subst ex
 obtain rfl:u=Value.ref a:=rx
 exact ir hu I2 g ry λs3 I3=>⟨.bl (!ov.isSome),H2,I3,rfl,q2⟩
theorem Ug (hu:X.A.units+1<cLine)(ho:PE X o td)(hi:PE X i ty)(hv:PE X value tv)(hs:swapsWith value (some (.Subscript o i pos')) pos.line X.env=pure false):
  PS X (.Assign [.Subscript o i pos'] value pos) (n6 td ty tv):=by
 intro pins s σ H D I h
 refine wpAny_Assign_Subscript (thn (hv pins s σ H _ I h) λr s1 ⟨v,H1,I1,rv,q1⟩=>thn (ho pins s1 σ H1 _ I1 q1) λu s2 ⟨x,H2,I2,rx,q2⟩=>thn (hi pins s2 σ H2 _ I2 q2) λiv s3 ⟨y,H3,I3,ry,a,H4,ex,g,q3⟩=>?_) hs
 subst ex
 obtain rfl:u=Value.ref a:=rx
 exact X9 hu I3 g ry rv λs4 I4=>⟨σ,H4,I4,q3⟩
end
theorem bj {P:Program}{w:World}{H:Hp}(h:Heap)(hb:sysModules<h.objs.size):ObjOk P w H (h.push {cls:=.type "dict",data:=.dict #[]}) h.objs.size (.dK []):=
 ⟨u5 _,wm.mpr (zg (ug hb)),[],.nil,Heap.DictOf.new h⟩
def kf:TE:=λ_ H Q=>∀p,H p=none->Q (.ref p) (upd H p (.dK []))
section
variable {X:Cx}{pos:Pos}
theorem Qe:PE X (.Dict [] [] pos) kf:=λpins s σ H Q I h=>
 wpAny_Dict_empty ⟨.ref s.heap.objs.size,_,I.laid (a:=s.heap.objs.size) (o:=.dK []) (t':=s.toks) (λ_ _ q=>sj _ q) (tq _) (bj s.heap I.big),rfl,h _ (I.hok.fresh (tq _))⟩
end
structure M1 (X:Cx)(o:Expr)(m:Str)(apos:Pos)(e:Expr)(cpos:Pos):Prop where
 base:attributeBase o m X.env (eval o X.env)=eval o X.env
 few:((backTo cpos (starEach [e] X.env)).all (λx=>!x.1)&&(backToKw cpos (keywordEach [] X.env)).all (λx=>x.1.isSome)
  &&decide (([e]:List Expr).length+([]:List Keyword).length+(if([]:List Keyword).isEmpty then 0 else 1)<30))=true
 line:(apos.endLine==cpos.line)=true
 trees:backTo cpos (starEach [e] X.env)=[(false,eval e X.env)]
def IsD (H:Hp)(a:Addr):Prop:=(∃kvs,Rd H a (.dK kvs))∨∃kvs,Rd H a (.dT kvs)
theorem jl {X:Cx}{pins:List (Addr×Obj)}{σ:St}{H:Hp}{s:Shared}{a:Addr}(I:Inv X pins σ H s)(d:IsD H a):
  s.TypeIs (.ref a) "dict"/\(∀b,Value.ref a=.ref b->∃ob,s.heap.get? b=some ob/\ob.dict=none)/\(a==sysModules)=false:=by
 rcases d with⟨kvs,e⟩|⟨kvs,e⟩
 ·
  obtain⟨_,hd,vs,_,dd⟩:=Tr I.hok e
  refine⟨dd.typeIs,λb q=>?_,hd⟩
  cases q
  obtain⟨ob,_,_,h1,h2,_⟩:=dd
  exact⟨ob,h1,h2.2.1⟩
 ·
  obtain⟨_,hd,xs,_,dd⟩:=V8 I.hok e
  refine⟨dd.typeIs,λb q=>?_,hd⟩
  cases q
  obtain⟨ob,_,_,h1,h2,_⟩:=dd
  exact⟨ob,h1,h2.2.1⟩
section
variable {X:Cx}{pins:List (Addr×Obj)}{σ:St}{H:Hp}{s:Shared}{a:Addr}{y d:V}{u r:Value}{o:Option V}{A:Around}{E:Value->Shared->Prop}
end
def k9 (td ty:TE):TE:=λσ H Q=>td σ H λx H1=>∃a,x=.ref a/\IsD H1 a/\ty σ H1 λy H2=>∃kvs k v,H2 a=some (.dK kvs)/\y=kV k/\Pr kvs k=some v/\Q v (upd H2 a (.dK (Sy kvs k)))
section
variable {X:Cx}{o e f:Expr}{apos cpos:Pos}{td ty tx:TE}
theorem U3 (ho:PE X o td)(he:PE X e ty)(m:M1 X o "pop" apos e cpos):PE X (.Call (.Attribute o "pop" apos) [e] [] cpos) (k9 td ty):=by
 intro pins s σ H Q I h
 refine wpAny_Call_method m.base m.few m.line PySem.F.plainAttrs_dict PySem.F.slot_dict_pop PySem.F.type_dict_pop (thn (ho pins s σ H _ I h) λu s1 hz=>?_)
 obtain⟨x,H1,I1,rx,a,ex,d,q1⟩:=hz
 subst ex
 obtain rfl:u=Value.ref a:=rx
 obtain⟨t1,t2,_⟩:=jl I1 d
 refine⟨t1,t2,?_⟩
 rw[m.trees]
 refine Aaw rfl (Aa9 (Calls.spliced_cons (thn (he pins s1 σ H1 _ I1 q1) λiv s2 ⟨y,H2,I2,ry,kvs,k,v,ea,ey,l,q2⟩=>Calls.spliced_nil ?_)))
 subst ey
 exact o8 I2 ea ry l (.inl rfl) λw' s3 I3 rw'=>⟨v,_,I3,rw',q2⟩
end
section
variable {X:Cx}{pins:List (Addr×Obj)}{σ:St}{H:Hp}{s:Shared}{a:Addr}{kvs:List (Key×V)}{A:Around}{E:Value->Shared->Prop}
end
section
variable {X:Cx}{pins:List (Addr×Obj)}{σ:St}{H:Hp}{s:Shared}{a:Addr}{y:V}{u:Value}{A:Around}{E:Value->Shared->Prop}
end
end L2
namespace Att
open PySem PySem.W PySem.Calls PyProof.Rows
section
variable {prog:Program}{w:World}{A:Around}{E:Value->Shared->Prop}{s:Shared}{K:Frag}
end
end Att
namespace L2
open PySem PySem.Spec PyProof.Rows
section
variable {P:Program}{w:World}{K:W.Frag}{mg:Str->Option Value}{base:Heap}
end
section
variable {X:Cx}
theorem Q6:Gd X (.builtin "len") (λxs H Q=>∃a kvs,xs=[V.ref a]/\H a=some (.dK kvs)/\Q (.int kvs.length) H):=by
 intro pins s σ H xs us Q I r h
 obtain⟨a,kvs,rfl,ha,q⟩:=h
 obtain⟨u,rfl,ru⟩:=vals1 r
 cases ru
 exact nq I (.inl ha) λt s' I'=>⟨.int kvs.length,H,I',⟨t,rfl⟩,q⟩
end
section
variable {κ:Type}[DecidableEq κ]
end
end L2
namespace L2
open PySem PySem.W PyProof.Rows
section
variable {prog:Program}{w:World}{A:Around}{E:Value->Shared->Prop}{s:Shared}
theorem Na {T:String}{r d:Addr}{n:Nat}{P:Nat->Value->Prop}{OK:Heap->Prop}{Q:List Value->Shared->Prop}(S:KdlSrc prog w T r d n P OK)(hh:A.handled=none)(hok:OK s.heap)(hn:n<=sizeLine)
  (h:∀h' tk(acc:Array Value),(∀b o,s.heap.get? b=some o->h'.get? b=some o)->s.heap.objs.size<=h'.objs.size->ItemsOf P acc n->Q acc.toList {s with heap:=h',toks:=tk}):wpAny (model prog w) A (collect (.ref r)) Q E s:=by
 unfold collect
 refine se (wpAny_runValue (xl entry_proto_collect' ?_))
 show wpAny _ _ (do again (.builtin "list.__iadd__" ⟨[←newList [],.ref r],[]⟩)) _ _ s
 refine se (y9 (si ⟨Aah _ (by decide+kernel),xl entry_list_iadd' ?_⟩))
 show wpAny _ _ (Builtin.List.listExtendWith (.ref s.heap.objs.size) (.ref r) (.ref s.heap.objs.size)) _ _ {s with heap:=s.heap.push (seqObj "list" #[] 0)}
 have hS:(s.heap.push (seqObj "list" #[] 0)).get? s.heap.objs.size=some {cls:=.type "list",data:=.seq #[] 0}:=t9 _ rfl
 rw[yr PySem.F.plain_list_iadd _]
 refine kdl_extend (A:=A) (R:=λr s'=>match r with
   |
    Except.ok (Flow.ret v)=>wpAny (model prog w) A (match v with
    |
     .ref a=>do match (←load a).data with
     | .seq xs _=>pure xs.toList
     | _=>unsupported "internal:collect"
    | _=>unsupported "internal:collect") Q E s'
   | Except.ok _=>False
   | Except.error e=>E e s') (s:={s with heap:=s.heap.push (seqObj "list" #[] 0)}) S hh (S.keep _ _ hok λb _ o e=>sj _ e) s.heap.objs.size (xw (S.there _ hok).1) (xw (S.there _ hok).2) (.ref s.heap.objs.size) 0 hS (λh' tk acc c' hk hS' hacc=>?_) hn
 show wpAny (model prog w) A (do
   let o ←load s.heap.objs.size
   match o.data with
   | .seq xs _=>pure xs.toList
   | _=>unsupported "internal:collect") Q E {s with heap:=h',toks:=tk}
 refine se (wpAny_load hS' ?_)
 exact si (h h' tk acc (λb o e=>hk b o (ug (sr e)) (sj _ e)) (zc (sr hS')) hacc)
end
section
variable {X:Cx}
end
end L2
namespace L2
open PySem
theorem exS {us:List Value}{n:Nat}(h:us.length=n+1):∃a l,us=a::l/\l.length=n:=by
 cases us with
 | nil=>cases h
 | cons a l=>exact⟨a,l,rfl,Nat.succ.inj h⟩
theorem ex1 {us:List Value}(h:us.length=1):∃a,us=[a]:=by
 obtain⟨a,l,rfl,k⟩:=exS h
 obtain rfl:=List.eq_nil_of_length_eq_zero k
 exact⟨a,rfl⟩
theorem ex2 {us:List Value}(h:us.length=2):∃a b,us=[a,b]:=by
 obtain⟨a,l,rfl,k⟩:=exS h
 obtain⟨b,rfl⟩:=ex1 k
 exact⟨a,b,rfl⟩
theorem ex3 {us:List Value}(h:us.length=3):∃a b c,us=[a,b,c]:=by
 obtain⟨a,l,rfl,k⟩:=exS h
 obtain⟨b,c,rfl⟩:=ex2 k
 exact⟨a,b,c,rfl⟩
theorem ex4 {us:List Value}(h:us.length=4):∃a b c d,us=[a,b,c,d]:=by
 obtain⟨a,l,rfl,k⟩:=exS h
 obtain⟨b,c,d,rfl⟩:=ex3 k
 exact⟨a,b,c,d,rfl⟩
theorem ex5 {us:List Value}(h:us.length=5):∃a b c d e,us=[a,b,c,d,e]:=by
 obtain⟨a,l,rfl,k⟩:=exS h
 obtain⟨b,c,d,e,rfl⟩:=ex4 k
 exact⟨a,b,c,d,e,rfl⟩
end L2
namespace L2
open PySem PySem.W PyProof.Rows
section
variable {X:Cx}
end
end L2
namespace L2
open PySem PySem.Spec PyProof.Rows PySem.SeqAt
abbrev LA:=Addr×List RA
def tot (ls:List LA):List (Int×Int):=ls.flatMap λx=>sps x.2
section
variable {X:Cx}
end
section
variable {X:Cx}
end
section
variable {cm:Bool}{P:Program}{w:World}{K:W.Frag}{mg:Str->Option Value}{base:Heap}{CX:CXT}{k:Nat}{f:Addr}{fd:FuncData}{ps:List Str}{sp sp':Sp}
end
section
variable {X:Cx}
end
section
variable {X:Cx}{K:W.Frag}
end
end L2
namespace L2
open PySem PySem.Spec PyProof.Rows
section
variable {X:Cx}{tg:Expr}
end
section
variable {X:Cx}
theorem bw (hu:X.A.units+2<cLine):OpR X (compareOp .Eq) (λx y H Q=>∃(a b:Addr)(xs:List V),x=.ref a/\y=.ref b/\H a=some (.lst xs)/\H b=some (.lst [])/\Q (.bl xs.isEmpty) H):=by
 intro pins s σ H x y v u Q I rx ry h
 obtain⟨a,b,xs,rfl,rfl,ha,hb,q⟩:=h
 cases rx
 cases ry
 obtain⟨its,rv,pl,hz⟩:=I.list (SqL.of (K:=X.K) ha)
 obtain⟨its2,rv2,pl2,hz2⟩:=I.list (SqL.of (K:=X.K) hb)
 cases rv2
 have hl:=rv.length
 cases xs with
 |
  nil=>
  cases rv
  exact PySem.SeqAt.eq_listAt (e:=λ_=>true) pl.isList pl2.isList rfl (by lia) (λj h1 h2=>absurd h1 (by simp)) ⟨.bl _,H,I,rfl,q⟩
 |
  cons y ys=>
  exact PySem.SeqAt.eq_list_lengthsAt pl.isList pl2.isList (by rw[su,←hl];simp) (by lia) ⟨.bl _,H,I,rfl,q⟩
end
end L2
namespace L2
open PySem PySem.Spec PyProof.Rows PySem.Calls
theorem Xf {i0:Nat}{x0:Str}{X:Cx}{elt tgt iter:Expr}{ifs:List Expr}{scope:Scope}{pos pos' spos:Pos}{N:List Str}{cap:List (Option Nat)}{wi:TI}{g:TG}{tt:TT}{te:TE}(hN0:X.N.Nodup)(hi0:X.N[i0]?=some x0)(hx0:X.env.scope.names.lookup x0=some .local)
  (S:D6 X.env.scope scope X.N N cap) (hc:X.calm=true) (hi:PI X tgt iter wi)
  (hb:∀(C:Addr)(s:Shared)(H:Hp)(fp:List Addr),PG (Dg X N scope C s H fp) tgt g/\mn (Dg X N scope C s H fp) ifs tt/\PE (Dg X N scope C s H fp) elt te)
  (hclos:closureFor scope X.env=pure (Sr X.env scope.names []):=by with_unfolding_all rfl) (hs:∀x,foldedSetIterable iter X.env x=pure x:=by intro _;rfl)
  (hsw:swapsWith (.ListComp elt [⟨tgt,iter,ifs,0⟩] scope pos) (some (.Name x0 pos')) spos.line X.env=pure true:=by with_unfolding_all rfl):
  PS X (.Assign [.Name x0 pos'] (.ListComp elt [⟨tgt,iter,ifs,0⟩] scope pos) spos) (o7 (kz wi cap g tt te) (Wa i0)):=by
 intro pins s σ H D0 I h
 rw[exec_Assign_Name_used _ _ _ _ hsw]
 refine se (wpAny_standAt (se ?_))
 show wpAny (model X.prog X.w) X.A (comprehension (.ListComp elt [⟨tgt,iter,ifs,0⟩] scope pos) scope X.env (firstIterPos [⟨tgt,iter,ifs,0⟩] pos) (newList []) (firstAsync [⟨tgt,iter,ifs,0⟩]) (firstIter [⟨tgt,iter,ifs,0⟩] X.env) (some (assign (.Name x0 pos') X.env))>>= λ_=>pure ()) _ _ _
 refine se (wu (Q:=λ_ s'=>SP X pins D0 .next s') ?main (λ_ s' z=>si (si z)) λ_ _ z=>z)
 refine wpAny_comprehension_free (use:=some (assign (.Name x0 pos') X.env)) (cl:=Sr X.env scope.names []) rfl hs hclos S.kind S.names ?_
 refine thn (hi pins s σ H _ I h) λv s1 h1=>thn h1 λitv s2 h2=>?_
 obtain⟨it,fp,tn,J,H2,e,I2,T,st2,f2,k⟩:=h2
 subst e
 refine wd (wpAny_newFunctionEnv S.cell (by intro y hy;simp at hy) (λh₁ hns₁ hsb₁=>?_) S.kind)
 dsimp only at hns₁ hsb₁ ⊢
 have I3:Inv X pins σ (upd H2 s2.heap.objs.size (.lst [])) {s2 with heap:=s2.heap.push {cls:=.type "list",dict:=none,data:=.seq ([]:List Value).toArray}}:=I2.lnew (t':=s2.toks) .nil (u5 _)
 obtain⟨W,⟨m0,w0⟩,turn⟩:=k s2.heap.objs.size I2.fresh
 generalize hD:s2.heap.objs.size=D at*
 generalize hsD:({s2 with heap:=s2.heap.push {cls:=.type "list",dict:=none,data:=.seq ([]:List Value).toArray}}:Shared)=sD at*
 have hsz:sD.heap.objs.size=D+1:=by rw[←hsD,←hD];exact wz ..
 have hheap:s2.heap.push {cls:=.type "list",dict:=none,data:=.seq ([]:List Value).toArray}=sD.heap:=by rw[←hsD]
 rw[hheap] at hns₁ hsb₁ ⊢
 have up:∀b o,s2.heap.get? b=some o->sD.heap.get? b=some o:=λb o e=>by rw[←hheap];exact sj _ e
 have keep:∀b o,sD.heap.get? b=some o->h₁.get? b=some o:=λb o e=>hsb₁.extBut b o (ug (sr e)) (sj _ e)
 have hfD:D∉fp:=λhm=>by
  obtain⟨o,e,_⟩:=T.obj _ _ st2 D hm
  have:=sr e
  rw[hD] at this
  exact vv _ this
 have f3:∀b∈fp,Xp X pins (upd H2 D (.lst [])) b:=λb hb=>⟨by rw[Ad (λz=>hfD (by rw[←z];exact hb))];exact(f2 b hb).1,(f2 b hb).2⟩
 have hlt:∀b∈fp,b<sD.heap.objs.size:=λb hb=>by
  obtain⟨o,e,_⟩:=T.obj _ _ st2 b hb
  exact sr (up b o e)
 have I4:=N9 (t':=s2.toks+([]:List (Str×Value)).length) S I3 f3 hlt hns₁ keep
 obtain⟨hg,hif,hel⟩:=hb sD.heap.objs.size sD (upd H2 D (.lst [])) fp
 have st4:tn 0 h₁:=T.keep _ _ _ st2 λb hb o e=>keep b o (up b o e)
 have stat:∀{H':Hp},(∀b∈fp,H' b=none)->∀b∈fp,Xp (Dg X N scope sD.heap.objs.size sD (upd H2 D (.lst [])) fp) [] H' b:=λhn b hb=>
  ⟨hn b hb,(I4.ok.exf b hb).1,I4.ok.exfs b hb,.inl hb,λx c h z=>(I4.ok.exf b hb).2 x c h z,λp hp=>(by simp[Dg] at hp)⟩
 have loop:codeAny (model X.prog X.w) X.A (.compLoop (.ListComp elt [⟨tgt,iter,ifs,0⟩] scope pos) 0 (.ref it) (.ref D) (compEnvC scope (Sr X.env scope.names []) sD.heap.objs.size X.env))
   (compPost (model X.prog X.w) X.A X.xe (some (assign (.Name x0 pos') X.env)) (λ_ s'=>SP X pins D0 .next s') (.ref D) sD.heap.objs.size) {sD with heap:=h₁,toks:=s2.toks+([]:List (Str×Value)).length}:=by
  refine Lx (λn s'=>∃i ys σ' H',Inv (Dg X N scope sD.heap.objs.size sD (upd H2 D (.lst [])) fp) [] σ' H' s'/\tn i s'.heap/\(∀b∈fp,H' b=none)/\W i n ys σ' H') ?_ m0
   ⟨0,[],Oi cap σ,_,I4,st4,λb hb=>(f3 b hb).1,w0⟩
  rintro n s5 ⟨i,ys,σ5,H5,I5,st5,fr5,w5⟩
  obtain⟨hD5,way⟩:=turn i n ys σ5 H5 w5
  rcases way with⟨stop,q⟩|⟨go,step⟩
  ·
   refine thn (T.done (Dg X N scope sD.heap.objs.size sD (upd H2 D (.lst [])) fp) rfl rfl rfl hc i [] s5 σ5 H5 (λ_ _=>False) I5 (stat fr5) st5 stop) λr s6 hz=>?_
   obtain⟨hr,I6⟩:=hz
   subst hr
   obtain⟨m,hn,_⟩:=I6.loc
   have hn':s6.heap.Ns sD.heap.objs.size m:=hn
   have J6:Inv X pins σ H5 s6:=V3 I3 f3 I6 (Heap.SameBut.refl _ _)
   have cellNe:∀x c,X.env.cells.lookup x=some c->c≠sD.heap.objs.size:=λx c h z=>by
    obtain⟨v,q⟩:=I3.cell x c h
    have:=q.lt
    rw[z] at this
    exact vv _ this
   refine wpAny_assign_Name (Rr J6 hN0 hi0 (.inl hx0) (v:=.ref D) rfl (λs7 I7 ⟨a7,sb7,ha7⟩=>⟨m,hn'.sameBut sb7 (λz=>?_),λh' sb=>?_⟩) (.inr hx0))
   ·
    rcases ha7 with e|e
    · exact absurd (z.trans e) (xw I3.lt)
    · exact cellNe _ _ e z.symm
   ·
    refine⟨_,H5,I7.turned (t':=s7.toks) (it:=sD.heap.objs.size) (λb o hb e=>(sb.2 b hb).trans e) I6.free (xw I3.lt) (.inr I3.sz) cellNe λp hp z=>?_,q⟩
    have:=sr (I3.pin p hp).1
    rw[z] at this
    exact vv _ this
  ·
   refine thn (T.item (Dg X N scope sD.heap.objs.size sD (upd H2 D (.lst [])) fp) rfl rfl rfl hc i [] s5 σ5 H5 (λ_ _=>False) I5 (stat fr5) st5 go) λr s6 hz=>?_
   obtain⟨u,hr,h6⟩:=hz
   subst hr
   refine thn h6 λ_ s7 hz=>?_
   obtain⟨x,H7,I7,r7,y7,st7,fr7⟩:=hz
   have I7':=I7.pinned (stat fr7) (T.obj _ _ st7)
   refine thn (hg _ s7 σ5 H7 x u _ I7' r7 (step x H7 y7)) λ_ s8 hz=>?_
   obtain⟨σ8,H8,I8,q8⟩:=hz
   refine thn (hif _ s8 σ8 H8 _ I8 q8) λb s9 hz=>?_
   obtain⟨H9,I9,q9⟩:=hz
   have back:∀{σ':St}{H':Hp}{s':Shared},Inv (Dg X N scope sD.heap.objs.size sD (upd H2 D (.lst [])) fp) ([]++O3 fp s7.heap) σ' H' s'->tn (i+1) s'.heap/\∀b∈fp,H' b=none:=λ{σ' H' s'}J'=>
    ⟨T.keep _ _ _ st7 λb hb o e=>(J'.pin (b,o) (t4 _ (t4 _ (F8 hb e)))).1,λb hb=>by
     obtain⟨o,e,d⟩:=T.obj _ _ st7 b hb
     exact(J'.pin (b,o) (t4 _ (t4 _ (F8 hb e)))).2.1⟩
   cases b with
   |
    false=>
    obtain⟨m',hm,w9⟩:=(show ∃m',m'<n/\W (i+1) m' ys σ8 H9 from q9)
    exact⟨m',hm,i+1,ys,σ8,H9,I9.unpinned,(back I9).1,(back I9).2,w9⟩
   |
    true=>
    refine thn (hel _ s9 σ8 H9 _ I9 (show te σ8 H9 _ from q9)) λy s10 hz=>?_
    obtain⟨v10,H10,I10,r10,q10⟩:=hz
    obtain⟨hD10,hz,m',hm,w10⟩:=q10
    refine thn (D8 (X:=Dg X N scope sD.heap.objs.size sD (upd H2 D (.lst [])) fp) _ s10 σ8 H10 (.ref D) [v10] (.ref D) [y] (λ_ H'=>H'=upd H10 D (.lst (ys++[v10]))) I10 rfl (.cons r10 .nil) ⟨D,ys,v10,rfl,rfl,hD10,hz,rfl⟩) λ_ s11 hz=>?_
    obtain⟨v11,H11,I11,_,e11⟩:=hz
    subst e11
    exact⟨m',hm,i+1,ys++[v10],σ8,_,I11.unpinned,(back I11).1,(back I11).2,w10⟩
 subst hsD
 subst hD
 exact codeAny_compStart_list loop (T.self _ 0 _ _ _ st4 loop)
end L2
namespace L2
open PySem PySem.Spec PyProof.Rows PySem.Calls PySem.SeqAt
section
variable {X:Cx}
end
end L2
namespace L2
open PySem PySem.Spec PyProof.Rows
section
variable {X:Cx}{CX:CXT}{cm:Bool}{k:Nat}{f:Addr}{fd:FuncData}{ps:List Str}{sp:Sp}{dvs:List V}{ds:List Value}{E:St->XK}{x:Str}{p pos:Pos}{e:Expr}{es:List Expr}{t:TA}{tf:TE}
end
end L2
namespace L2
open PySem PySem.Spec PySem.Calls PyProof.Rows
section
variable {X:Cx}{C:Addr}{x:Str}{p pos:Pos}
end
section
variable {X:Cx}{m:Str}{apos pos:Pos}{o e:Expr}{es:List Expr}{ta:TE}{t:TA}{E:St->XK}
structure qu (X:Cx)(m:Str)(n:Nat)(C:Addr)(R:V->List V->Hp->VK->XK->Prop):Prop where
 cls:Cls X.K C
 run:∃(f:Addr)(fd:FuncData)(ps:List Str)(ds:List Value)(dvs:List V)(cm:Bool)(k:Nat)(sp:Sp),Meth X.K C m f/\FnOk X.prog X.w X.K X.mg X.base (CXe X.prog X.w) cm k f fd ps sp/\Room cm k X.A/\Binds X.K fd ps ds/\Vals dvs ds/\
  ∀x vs H Q E,vs.length=n->R x vs H Q E->sp (x::(vs++dvs)) H Q E
def ki (m:Str)(n:Nat)(D:Addr->(V->List V->Hp->VK->XK->Prop)->Prop)(E:St->XK)(ta:TE)(t:TA):TE:=λσ H Q=>ta σ H λx H1=>∃a C dx fs R,x=.ref a/\H1 a=some (.ins C dx fs)/\fs.lookup m=none/\D C R/\
 t σ H1 λvs H2=>vs.length=n/\R x vs H2 Q (E σ)
theorem U7 {pl:Sem Bool}{n:Nat}{D:Addr->(V->List V->Hp->VK->XK->Prop)->Prop}(hx:∀σ,Pn (CXe X.prog X.w) X σ (E σ))(he:PE X o ta)(hD:∀C R,D C R->qu X m n C R)(ha:PA X (e::es) t)
  (hst:starEach (e::es) X.env=(false,eval e X.env)::starEach es X.env:=by rfl) (hpl:(backTo pos (starEach es X.env)).any (·.1)=false:=by rfl)
  (ht:eval (.Call (.Attribute o m apos) (e::es) [] pos) X.env=(do
   let ov ←eval o X.env
   standAt apos.atName
   let (f,first) ←holding [ov] (getMethod ov m pl)
   callWith pos f first (backTo pos (starEach (e::es) X.env)) (backToKw pos (keywordEach [] X.env))):=by rfl):
  PE X (.Call (.Attribute o m apos) (e::es) [] pos) (ki m n D E ta t):=by
 intro pins s σ H Q I h
 refine W.methodCall_KW (pl:=pl) (thn (he pins s σ H _ I h) λu s1 ⟨x,H1,I1,rx,a,C,dx,fs,R,ex,ea,l,d,q⟩=>?_) ht
 subst ex
 obtain rfl:u=Value.ref a:=rx
 obtain⟨c,f,fd,ps,ds,dvs,cm,k,sp,hm,F,hr,hb,hd,hR⟩:=hD C R d
 refine Li I1 ea c hm l ?_
 refine W.callWith_K (first:=[.ref a]) (h₀:=X.base) I.ok.mod.kin hm.kp (thn (ha pos pins s1 σ H1 _ I1 q) λus s2 ⟨vs,H2,I2,r,hn,q2⟩=>⟨I2.kIn,?_⟩) hst hpl
 have q3:=hR _ _ _ _ (E σ) hn q2
 have r2:Vals ((V.ref a::vs)++dvs) ((Value.ref a::us)++ds):=Vals.append (.cons rfl r) hd
 have hl:((Value.ref a::us)++ds).length=ps.length:=by rw[←r2.length];exact F.len _ _ _ _ q3
 refine wpAny_call (zl (F.run X.A X.stack s2 H2 ⟨Value.ref a::us,[]⟩ ((Value.ref a::us)++ds) ((V.ref a::vs)++dvs) Q (E σ) hr I2.env0 (hb s2 (Value.ref a::us) I2.kIn hl) r2 q3) λfl s' hq=>?_)
 rcases fl with ev|fl
 · exact hx σ pins H2 s2 ev s' I2 hq
 ·
  cases fl with
  | ret u=>exact I2.after hq
  | next=>exact hq.elim
  | brk=>exact hq.elim
  | cont=>exact hq.elim
end
end L2
namespace L2
open PySem PySem.Spec PyProof.Rows
section
variable {X:Cx}{CX:CXT}{cm:Bool}{k:Nat}{f C:Addr}{fd:FuncData}{ps:List Str}{sp:Sp}{dvs:List V}{ds:List Value}{E:St->XK}{x:Str}{p pos:Pos}{e:Expr}{es:List Expr}{t:TA}
end
end L2
namespace L2
open PySem
def lcg (m i:Nat):Nat:=(i*5+1)%(m+1)
def lit (m:Nat):Nat->Nat->Nat
 | 0,i=>i
 | n+1,i=>lit m n (lcg m i)
theorem Qg (m:Nat):∀(n k i:Nat),lit m (n+k) i=lit m k (lit m n i)
 | 0,k,i=>by rw[Aas];rfl
 | n+1,k,i=>by rw[Aa3];exact Qg m n k (lcg m i)
def Cyc (m:Nat):Prop:=∀i j,i<=m->j<=m->∃n,n<=m/\lit m n i=j
def orb (m:Nat):Nat->Nat->List Nat
 | 0,_=>[]
 | n+1,i=>i::orb m n (lcg m i)
theorem Y5 {m:Nat}:∀{n i j:Nat},j∈orb m n i->∃k,k<n/\lit m k i=j
 | 0,_,_,h=>nomatch h
 |
  n+1,i,j,h=>by
  rcases uq.mp h with rfl|h
  · exact⟨0,yo _,rfl⟩
  ·
   obtain⟨k,hk,e⟩:=Y5 h
   exact⟨k+1,Abn hk,e⟩
theorem V4 {m:Nat}(h1:((List.range (m+1)).all λj=>(orb m (m+1) 0).contains j)=true)(h2:lit m (m+1) 0=0):Cyc m:=λi j hi hj=>by
 have at_:∀j,j<=m->∃k,k<m+1/\lit m k 0=j:=λj hj=>Y5 (List.contains_iff_mem.mp (List.all_eq_true.mp h1 j (vb.mpr (by lia))))
 obtain⟨a,ha,rfl⟩:=at_ i hi
 obtain⟨b,hb,rfl⟩:=at_ j hj
 by_cases h:a<=b
 · exact⟨b-a,by lia,by rw[←Qg,Nat.add_sub_cancel' h]⟩
 ·
  refine⟨m+1-a+b,by lia,?_⟩
  rw[←Qg,show a+(m+1-a+b)=(m+1)+b by lia,Qg,h2]
theorem rb:Cyc 7:=V4 (by decide+kernel) (by decide+kernel)
theorem nc:Cyc 31:=V4 (by decide+kernel) (by decide+kernel)
theorem jr:Cyc 127:=V4 (by decide+kernel) (by decide+kernel)
theorem jy:Cyc 511:=V4 (by decide+kernel) (by decide+kernel)
def lps (m:Nat):Nat->Nat×Nat->Nat×Nat
 | 0,x=>x
 | n+1,x=>lps m n (SetTable.leap m x.1 x.2)
theorem Vp (m:Nat):∀(n i:Nat),lps m n (i,0)=(lit m n i,0)
 | 0,i=>rfl
 |
  n+1,i=>by
  show lps m n ((i*5+1+0/32)%(m+1),0/32)=_
  rw[show 0/32=0 from rfl,Nat.add_zero]
  exact Vp m n (lcg m i)
theorem Y0 (m:Nat):∀(n i p:Nat),(lps m n (i,p)).2=p/32 ^ n
 | 0,i,p=>by rw[Nat.pow_zero,Nat.div_one];rfl
 |
  n+1,i,p=>by
  show(lps m n ((i*5+1+p/32)%(m+1),p/32)).2=_
  rw[Y0 m n,Nat.div_div_eq_div_mul,Nat.pow_succ,Nat.mul_comm]
theorem X8 (m:Nat):∀(n k:Nat)(x:Nat×Nat),lps m (n+k) x=lps m k (lps m n x)
 | 0,k,x=>by rw[Aas];rfl
 | n+1,k,x=>by rw[Aa3];exact X8 m n k _
theorem dw {m:Nat}:∀(n:Nat){x:Nat×Nat},x.1<=m->(lps m n x).1<=m
 | 0,_,h=>h
 | n+1,x,h=>dw n (x:=SetTable.leap m x.1 x.2) (xf (yp _ (yo _)))
theorem Xv {m i p j:Nat}(hc:Cyc m)(hi:i<=m)(hp:p<2 ^ 64)(hj:j<=m):∃n,n<=m+13/\(lps m n (i,p)).1=j:=by
 have h2:(lps m 13 (i,p)).2=0:=by rw[Y0];exact Nat.div_eq_of_lt (uw hp (by decide))
 have h1:(lps m 13 (i,p)).1<=m:=dw 13 (x:=(i,p)) hi
 obtain⟨n,hn,e⟩:=hc _ j h1 hj
 refine⟨13+n,by lia,?_⟩
 rw[X8,show lps m 13 (i,p)=((lps m 13 (i,p)).1,0) from Prod.ext rfl h2,Vp]
 exact e
end L2
namespace L2
open PySem
open PySem.SetTable (Probe Met)
def adv (t:SetTable):Nat->Probe->Probe
 | 0,p=>p
 | n+1,p=>adv t n (t.advance p)
theorem Iq (t:SetTable):∀(n k:Nat)(p:Probe),adv t (n+k) p=adv t k (adv t n p)
 | 0,k,p=>by rw[Aas];rfl
 | n+1,k,p=>by rw[Aa3];exact Iq t n k _
theorem Qa (t:SetTable):∀(k:Nat)(p:Probe),k<=p.more->adv t k p={p with j:=p.j+k,more:=p.more-k}
 | 0,p,_=>rfl
 |
  k+1,p,h=>by
  show adv t k (t.advance p)=_
  have e:t.advance p={p with j:=p.j+1,more:=p.more-1}:=by
   unfold SetTable.advance
   rw[if_pos (by lia)]
  rw[e,Qa t k _ (by show k<=p.more-1;lia)]
  show({p with j:=p.j+1+k,more:=p.more-1-k}:Probe)=_
  rw[show p.j+1+k=p.j+(k+1) by lia,show p.more-1-k=p.more-(k+1) by lia]
theorem ez (m i:Nat):SetTable.runEnd m i-i<=9:=by
 unfold SetTable.runEnd
 split<;>lia
def Rs (m:Nat)(p:Probe):Prop:=p.j=p.i/\p.more=SetTable.runEnd m p.i-p.i
theorem Vs {t:SetTable}{p:Probe}(h:Rs t.mask p):∃k,k<=10/\Rs t.mask (adv t k p)/\((adv t k p).i,(adv t k p).perturb)=SetTable.leap t.mask p.i p.perturb:=by
 have hl:p.more<=9:=by rw[h.2];exact ez _ _
 refine⟨p.more+1,by lia,?_⟩
 rw[Iq,Qa t _ _ (tq _)]
 show Rs t.mask (t.advance _)/\_
 have e:t.advance {p with j:=p.j+p.more,more:=p.more-p.more}={p with j:=(SetTable.leap t.mask p.i p.perturb).1,more:=SetTable.runEnd t.mask (SetTable.leap t.mask p.i p.perturb).1-(SetTable.leap t.mask p.i p.perturb).1,i:=(SetTable.leap t.mask p.i p.perturb).1,perturb:=(SetTable.leap t.mask p.i p.perturb).2}:=by
  unfold SetTable.advance
  rw[if_neg (by show ¬p.more-p.more>0;lia)]
 refine⟨by rw[e];exact⟨rfl,rfl⟩,?_⟩
 show((t.advance _).i,(t.advance _).perturb)=_
 rw[e]
theorem Yj {t:SetTable}:∀(n:Nat){p:Probe},Rs t.mask p->∃k,k<=10*n/\Rs t.mask (adv t k p)/\((adv t k p).i,(adv t k p).perturb)=lps t.mask n (p.i,p.perturb)
 | 0,p,h=>⟨0,u5 _,h,rfl⟩
 |
  n+1,p,h=>by
  obtain⟨k1,l1,r1,e1⟩:=Vs h
  obtain⟨k2,l2,r2,e2⟩:=Yj n r1
  refine⟨k1+k2,by lia,by rw[Iq];exact r2,?_⟩
  rw[Iq,e2,e1]
  rfl
theorem fj {t:SetTable}{h:Int}{j:Nat}(hc:Cyc t.mask)(hj:j<=t.mask):∃k,k<=10*(t.mask+13)/\(adv t k (t.probeStart h)).j=j:=by
 have r:Rs t.mask (t.probeStart h):=⟨rfl,rfl⟩
 have hb:SetTable.bits h<2 ^ 64:=by
  unfold SetTable.bits
  have h0:=vf h (show(2 ^ 64:Int)≠0 by decide)
  have h1:=u0 h (show(0:Int)<2 ^ 64 by decide)
  lia
 obtain⟨n,hn,e⟩:=Xv (i:=(t.probeStart h).i) (p:=(t.probeStart h).perturb) hc (xf (yp _ (yo _))) hb hj
 obtain⟨k,hk,r2,e2⟩:=Yj n r
 refine⟨k,by lia,?_⟩
 rw[r2.1]
 have:=vi Prod.fst e2
 exact this.trans e
def Pi (m:Nat)(p:Probe):Prop:=p.i<=m/\p.j+p.more<=m
theorem fh {m i:Nat}(h:i<=m):i+(SetTable.runEnd m i-i)<=m:=by
 unfold SetTable.runEnd
 split<;>lia
theorem lz {t:SetTable}{p:Probe}(h:Pi t.mask p):Pi t.mask (t.advance p):=by
 unfold SetTable.advance
 split
 · exact⟨h.1,by show p.j+1+(p.more-1)<=t.mask;have:=h.2;lia⟩
 ·
  have hl:(SetTable.leap t.mask p.i p.perturb).1<=t.mask:=xf (yp _ (yo _))
  exact⟨hl,fh hl⟩
theorem Va (t:SetTable)(h:Int):Pi t.mask (t.probeStart h):=by
 have hl:SetTable.bits h%(t.mask+1)<=t.mask:=xf (yp _ (yo _))
 exact⟨hl,fh hl⟩
theorem Tn {t:SetTable}:∀(n:Nat){p:Probe},Pi t.mask p->Pi t.mask (adv t n p)
 | 0,_,h=>h
 | n+1,_,h=>Tn n (lz h)
theorem Sm (t:SetTable):∀(n:Nat)(p:Probe),(adv t n p).dummy=p.dummy
 | 0,_=>rfl
 |
  n+1,p=>by
  have pd:(t.advance p).dummy=p.dummy:=by unfold SetTable.advance;split<;>rfl
  exact(Sm t n (t.advance p)).trans pd
end L2
namespace L2
open PySem
theorem X6 {m:Nat}{ow:Array (Option Nat)}:∀(n fuel:Nat)(x:Nat×Nat),n<fuel->(ow.getD (lps m n x).1 (some 0)).isNone=true->∃j,SetTable.layClean.free m ow fuel x.1 x.2=some j/\(ow.getD j (some 0)).isNone=true
 | n,0,x,h,_=>absurd h (wq _)
 |
  n,fuel+1,x,h,he=>by
  unfold SetTable.layClean.free
  cases hf:(List.range (SetTable.runEnd m x.1+1-x.1)).find? λk=>(ow.getD (x.1+k) (some 0)).isNone with
  |
   some k=>
   have hp:=List.find?_some (p:=λk=>(ow.getD (x.1+k) (some 0)).isNone) hf
   exact⟨x.1+k,rfl,hp⟩
  |
   none=>
   cases n with
   |
    zero=>
    have h0:=List.find?_eq_none.mp hf 0 (vb.mpr (by unfold SetTable.runEnd;split<;>lia))
    exact absurd he h0
   | succ n=>exact X6 n fuel (SetTable.leap m x.1 x.2) (Nat.lt_of_succ_lt_succ h) he
theorem gx (h:Int):SetTable.bits h<2 ^ 64:=by
 unfold SetTable.bits
 have h0:=vf h (show(2 ^ 64:Int)≠0 by decide)
 have h1:=u0 h (show(0:Int)<2 ^ 64 by decide)
 lia
theorem X0 {m:Nat}{ow:Array (Option Nat)}{h:Int}{j:Nat}(hc:Cyc m)(hj:j<=m)(he:(ow.getD j (some 0)).isNone=true):∃j',SetTable.layClean.free m ow (SetTable.turns m) (SetTable.bits h%(m+1)) (SetTable.bits h)=some j'/\(ow.getD j' (some 0)).isNone=true:=by
 obtain⟨n,hn,e⟩:=Xv (i:=SetTable.bits h%(m+1)) (p:=SetTable.bits h) hc (xf (yp _ (yo _))) (gx h) hj
 exact X6 n (SetTable.turns m) (SetTable.bits h%(m+1),SetTable.bits h) (by unfold SetTable.turns;lia) (by rw[e];exact he)
def occ (m:Nat)(ow:Array (Option Nat)):List Nat:=(List.range (m+1)).filterMap λj=>ow.getD j none
theorem iw {ow:Array (Option Nat)}{j:Nat}(h:(ow.getD j (some 0)).isNone=true):j<ow.size/\ow.getD j none=none:=by
 by_cases hj:j<ow.size
 ·
  refine⟨hj,?_⟩
  rw[uf,tu hj] at h ⊢
  exact Option.isNone_iff_eq_none.mp h
 ·
  rw[uf,wk (by lia)] at h
  cases h
theorem ic {m j k:Nat}{ow:Array (Option Nat)}(hz:ow.size=m+1)(hj:j<ow.size)(he:ow.getD j none=none):(occ m (ow.setIfInBounds j (some k))).Perm (k::occ m ow):=by
 have hm:j∈List.range (m+1):=vb.mpr (by lia)
 obtain⟨l1,l2,e⟩:=List.append_of_mem hm
 have nd:(l1++j::l2).Nodup:=e▸List.nodup_range
 rw[List.nodup_append,wt] at nd
 have g:∀{i:Nat}{b:Option Nat},i≠j->(ow.setIfInBounds j b).getD i none=ow.getD i none:=λ{i b}hi=>by
  rw[uf,uf,Array.getElem?_setIfInBounds_ne (zg hi)]
 have gj:(ow.setIfInBounds j (some k)).getD j none=some k:=by
  rw[uf,Array.getElem?_setIfInBounds_self_of_lt hj]
  rfl
 have f:∀l:List Nat,j∉l->l.filterMap (λi=>(ow.setIfInBounds j (some k)).getD i none)=l.filterMap λi=>ow.getD i none:=λl hl=>by
  induction l with
  | nil=>rfl
  |
   cons i l ih=>
   rw[vz,vz,g λz=>hl (z▸sk),ih λz=>hl (sq _ z)]
 have n1:j∉l1:=λz=>nd.2.2 j z j sk rfl
 have n2:j∉l2:=nd.2.1.1
 unfold occ
 rw[e,List.filterMap_append,List.filterMap_append,vz,vz,gj,he,f _ n1,f _ n2]
 exact List.perm_middle
theorem cf {m k:Nat}{ow:Array (Option Nat)}(hz:ow.size=m+1)(hk:k<=m)(h:(occ m ow).length=k):∃j,j<=m/\(ow.getD j (some 0)).isNone=true:=by
 by_cases hx:∃j,j<=m/\(ow.getD j (some 0)).isNone=true
 · exact hx
 ·
  have:∀(l:List Nat),(∀j∈l,j<=m)->(l.filterMap λj=>ow.getD j none).length=l.length:=λl=>by
   induction l with
   | nil=>intro _;rfl
   |
    cons j l ih=>
    intro hl
    have hj:=hl j sk
    have hs:(ow.getD j none).isSome=true:=by
     have h1:j<ow.size:=by lia
     cases e:ow.getD j none with
     | some v=>rfl
     |
      none=>
      refine absurd ⟨j,hj,?_⟩ hx
      rw[uf,tu h1] at e ⊢
      have e:ow[j]=none:=e
      show(ow[j]).isNone=true
      rw[e]
      rfl
    obtain⟨v,hv⟩:=Aaa.mp hs
    rw[vz,hv,t5,t5,ih λi hi=>hl i (sq _ hi)]
  have:=this (List.range (m+1)) λj hj=>xf (vb.mp hj)
  rw[vw] at this
  unfold occ at h
  lia
end L2
namespace L2
open PySem PySem.W PyProof.Rows
def Rises (xs:List Nat):Prop:=xs.Pairwise (· < ·)
theorem Rises.le {xs:Array Nat}(h:Rises xs.toList){i k x y:Nat}(hi:xs[i]?=some x)(hk:xs[k]?=some y)(l:i<=k):x<=y:=by
 rcases xn i k with l'|l'
 ·
  rw[←t7] at hi hk
  obtain⟨a,rfl⟩:=t8.mp hi
  obtain⟨b,rfl⟩:=t8.mp hk
  exact zc (xt.mp h i k a b l')
 ·
  have e:i=k:=by lia
  subst e
  rw[hi] at hk
  have:=sy hk
  lia
theorem bh {xs:Array Nat}(hx:Rises xs.toList){j:Nat}:∀(f lo hi:Nat),lo<=hi->hi<=xs.size->hi-lo<=f->(∀i x,i<lo->xs[i]?=some x->x<j)->(∀i x,hi<=i->xs[i]?=some x->j<=x)->
  (SetTable.below.go xs j f lo hi)<=xs.size/\(∀i x,i<SetTable.below.go xs j f lo hi->xs[i]?=some x->x<j)/\(∀i x,SetTable.below.go xs j f lo hi<=i->xs[i]?=some x->j<=x):=by
 intro f
 induction f with
 |
  zero=>
  intro lo hi h1 h2 h3 a b
  have e:lo=hi:=by lia
  subst e
  exact⟨h2,a,b⟩
 |
  succ f ih=>
  intro lo hi h1 h2 h3 a b
  unfold SetTable.below.go
  split
  ·
   rename_i hl
   have hm:(lo+hi)/2<xs.size:=by lia
   have em:xs[(lo+hi)/2]?=some (xs[(lo+hi)/2]):=tu hm
   have eg:xs.getD ((lo+hi)/2) j=xs[(lo+hi)/2]:=by unfold Array.getD;rw[dif_pos hm];rfl
   dsimp only
   rw[eg]
   split
   ·
    rename_i hj
    refine ih _ _ (by lia) h2 (by lia) (λi x hi' hxx=>?_) b
    exact ve (hx.le hxx em (by lia)) hj
   ·
    rename_i hj
    refine ih _ _ (by lia) (by lia) (by lia) a (λi x hi' hxx=>?_)
    have:=hx.le em hxx hi'
    lia
  ·
   have e:lo=hi:=by lia
   subst e
   exact⟨h2,a,b⟩
theorem below_at {xs:Array Nat}(hx:Rises xs.toList)(j:Nat):SetTable.below xs j<=xs.size/\(∀i x,i<SetTable.below xs j->xs[i]?=some x->x<j)/\(∀i x,SetTable.below xs j<=i->xs[i]?=some x->j<=x):=by
 unfold SetTable.below
 refine bh hx _ _ _ (u5 _) (tq _) (tq _) (λi x h=>absurd h (wq _)) (λi x h e=>?_)
 rw[wk h] at e
 cases e
theorem V7 {xs:Array Nat}(hx:Rises xs.toList){i p:Nat}(h:xs[i]?=some p):SetTable.below xs (p+1)=i+1:=by
 obtain⟨b0,b1,b2⟩:=below_at hx (p+1)
 rcases y4 (SetTable.below xs (p+1)) (i+1) with l|l|l
 ·
  have:=b2 i p (by lia) h
  lia
 · exact l
 ·
  have hs:i+1<xs.size:=by lia
  have e1:=tu hs
  have:=b1 (i+1) _ l e1
  have hi:i<xs.size:=by lia
  have e0:=tu hi
  rw[e0] at h
  have hp:=sy h
  have hlt:xs[i]<xs[i+1]:=by
   have:=xt.mp hx i (i+1) (by simpa using hi) (by simpa using hs) (vt _)
   simpa using this
  lia
theorem Xc {xs:Array Nat}(hx:Rises xs.toList):SetTable.below xs 0=0:=by
 obtain⟨b0,b1,b2⟩:=below_at hx 0
 rcases Nat.eq_zero_or_pos (SetTable.below xs 0) with e|e
 · exact e
 ·
  have hs:0<xs.size:=by lia
  exact absurd (b1 0 _ e (tu hs)) (wq _)
theorem Xw {t:SetTable}(ht:Rises t.place.toList){j:Nat}(h:∀i,t.slot j≠ .live i):j∉t.place.toList:=by
 intro hm
 obtain⟨i,hi⟩:=xc hm
 rw[t7] at hi
 obtain⟨b0,b1,b2⟩:=below_at ht j
 have hbi:SetTable.below t.place j<=i:=by
  rcases xn i (SetTable.below t.place j) with l|l
  · exact absurd (b1 i j l hi) (vv _)
  · exact l
 have his:i<t.place.size:=by
  rcases xn i t.place.size with l|l
  · exact l
  · rw[wk l] at hi;cases hi
 have eb:=tu (show SetTable.below t.place j<t.place.size by lia)
 have e1:=b2 _ _ (tq _) eb
 have e2:=ht.le eb hi hbi
 refine h (SetTable.below t.place j) ?_
 unfold SetTable.slot
 dsimp only
 rw[eb,show t.place[SetTable.below t.place j]=j from by lia]
 simp
theorem kq {t:SetTable}(ht:Rises t.place.toList){j:Nat}(h:j∉t.place.toList):Rises (t.put j).1.place.toList:=by
 show Rises (SetTable.insertAt t.place (SetTable.below t.place j) j).toList
 rw[Aap]
 obtain⟨b0,b1,b2⟩:=below_at ht j
 have lo:∀x∈t.place.toList.take (SetTable.below t.place j),x<j:=λx hx=>by
  obtain⟨i,hi⟩:=xc hx
  rw[Aa5] at hi
  split at hi
  ·
   rename_i hl
   rw[t7] at hi
   exact b1 i x hl hi
  · cases hi
 have hi:∀x∈t.place.toList.drop (SetTable.below t.place j),j<x:=λx hx=>by
  have hm:=Aau hx
  obtain⟨i,hi⟩:=xc hx
  rw[List.getElem?_drop,t7] at hi
  have:=b2 _ x (Abp _ _) hi
  rcases xn j x with l|l
  · exact l
  · exact absurd (show j=x by lia) (λz=>h (by rw[z];exact hm))
 have e:Rises (t.place.toList.take (SetTable.below t.place j)++t.place.toList.drop (SetTable.below t.place j)):=by rw[zd];exact ht
 obtain⟨e1,e2,_⟩:=wg.mp e
 refine wg.mpr ⟨e1,List.pairwise_cons.mpr ⟨hi,e2⟩,λa ha b hb=>?_⟩
 rcases uq.mp hb with rfl|hb
 · exact lo a ha
 · exact Nat.lt_trans (lo a ha) (hi b hb)
def qg (b:Bool)(t:SetTable):Prop:=Rises t.place.toList/\t.led=b
theorem fu {f:Nat->Option Nat}:∀(n:Nat),Rises (((List.range n).filterMap λj=>(f j).map (j,·)).map (·.1)):=by
 intro n
 have hr:(List.range n).Pairwise (· < ·):=Aal
 generalize List.range n=l at hr
 induction l with
 | nil=>exact .nil
 |
  cons a l ih=>
  obtain⟨h1,h2⟩:=zt.mp hr
  cases hf:f a with
  | none=>rw[Aad (by rw[hf];rfl)];exact ih h2
  |
   some v=>
   rw[yq (b:=(a,v)) (by rw[hf];rfl),um]
   refine List.pairwise_cons.mpr ⟨λx hx=>?_,ih h2⟩
   obtain⟨⟨y,z⟩,hy,rfl⟩:=t6.mp hx
   obtain⟨c,hc,e⟩:=wy.mp hy
   obtain⟨_,_,e⟩:=vg.mp e
   injection e with e1 e2
   subst e1
   exact h1 _ hc
def Qk (w:World):Bool:=!w.params.followText "set-order"
section
variable (prog:Program)(w:World)
def Bw (es:Array (Int×Value))(ep:Nat)(t:SetTable):Obj:={cls:=.type "set",dict:=none,data:=.set es ep t}
end
section
variable {prog:Program}{w:World}{A:Around}{E:Value->Shared->Prop}{s:Shared}{es:Array (Int×Value)}{t:SetTable}{ds:List Int}{a:Addr}
theorem stored {h:Heap}{ep:Nat}{es':Array (Int×Value)}{t':SetTable}(ho:h.get? a=some (Bw es ep t)):(h.update a (Obj.putSet es' t')).get? a=some (Bw es' (ep+1) t'):=
 we (Obj.putSet es' t') ho rfl
end
end L2
namespace L2
open PySem PySem.Spec PyProof.Rows PySem.SeqAt
abbrev NK:=Sum Key (List Key)
section
variable {prog:Program}{w:World}
def NItem (prog:Program)(w:World)(h:Heap):NK->Value->Prop
 | .inl k,v=>(Ax prog w).is k v=true
 | .inr ks,v=>∃a,v=.ref a/\IsTupleKey (Ax prog w) h ks a
inductive NItems (prog:Program)(w:World)(h:Heap):List NK->List Value->Prop
 | nil:NItems prog w h [] []
 | cons {k:NK} {v:Value} {ks:List NK} {vs:List Value}:NItem prog w h k v->NItems prog w h ks vs->NItems prog w h (k::ks) (v::vs)
def IsNest (prog:Program)(w:World)(h:Heap)(ks:List NK)(a:Addr):Prop:=∃o items n,h.get? a=some o/\o.cls=.type "tuple"/\o.data=.seq items n/\NItems prog w h ks items.toList
theorem NItem.inj {h:Heap}{x y:NK}{v:Value}(hx:NItem prog w h x v)(hy:NItem prog w h y v):x=y:=by
 cases x with
 |
  inl x=>
  cases y with
  | inl y=>rw[(Ax prog w).inj _ _ _ hx hy]
  |
   inr y=>
   obtain⟨a,rfl,_⟩:=hy
   exact absurd ((Ax prog w).byValue _ _ hx) (by simp[carriedByValue])
 |
  inr x=>
  obtain⟨a,rfl,p⟩:=hx
  cases y with
  | inl y=>exact absurd ((Ax prog w).byValue _ _ hy) (by simp[carriedByValue])
  |
   inr y=>
   obtain⟨b,e,q⟩:=hy
   cases e
   rw[p.inj q]
theorem NItems.inj {h:Heap}{x y:List NK}{vs:List Value}(hx:NItems prog w h x vs)(hy:NItems prog w h y vs):x=y:=by
 induction hx generalizing y with
 | nil=>cases hy;rfl
 |
  cons h1 _ ih=>
  cases hy with
  | cons h2 t2=>rw[h1.inj h2,ih t2]
theorem IsNest.typeIs {s:Shared}{ks:List NK}{a:Addr}(x:IsNest prog w s.heap ks a):s.TypeIs (.ref a) "tuple":=let ⟨o,_,_,ho,hc,_⟩:=x;⟨o,ho,hc⟩
theorem IsNest.inj {h:Heap}{a:Addr}{x y:List NK}(hx:IsNest prog w h x a)(hy:IsNest prog w h y a):x=y:=by
 obtain⟨o,items,n,ho,_,hd,hi⟩:=hx
 obtain⟨o',items',n',ho',_,hd',hi'⟩:=hy
 obtain rfl:o=o':=sy (ho.symm.trans ho')
 rw[hd] at hd'
 injection hd' with h1 _
 subst h1
 exact hi.inj hi'
def Ue (prog:Program)(w:World):NK->Int
 | .inl k=>(Ax prog w).hash k
 | .inr ks=>tupleKeyHash (Ax prog w) ks
def Y8:NK->Nat
 | .inl _=>1
 | .inr ks=>ks.length+1
def B5 (prog:Program)(w:World)(ks:List NK):Int:=reduceHash (Builtin.Tuple.tupleHashOf (ks.map (Ue prog w)))
def Nw (ks:List NK):Nat:=(ks.map Y8).sum+1
variable {A:Around}{E:Value->Shared->Prop}{s:Shared}
theorem Zk {k:NK}{v:Value}{Q:Int->Shared->Prop}(hu:A.units<cLine)(hk:NItem prog w s.heap k v)(h:Q (Ue prog w k) {s with toks:=s.toks+Y8 k}):wpAny (model prog w) A (pyHash v) Q E s:=by
 cases k with
 | inl k=>exact(Ax prog w).pyHash hk h
 | inr ks=>obtain⟨a,rfl,p⟩:=hk;exact wpAny_pyHash_tuple hu p h
theorem Uj {ks:List NK}{a:Addr}{Q:Int->Shared->Prop}(hu:A.units+1<cLine)(hk:IsNest prog w s.heap ks a)(h:Q (B5 prog w ks) {s with toks:=s.toks+Nw ks}):
  wpAny (model prog w) A (pyHash (.ref a)) Q E s:=by
 have hT:=hk.typeIs
 obtain⟨o,items,n,ho,_,hd,hi⟩:=hk
 unfold pyHash
 first|unfold pyHashByItsType|skip
 first|refine se (wpAny_cRoomFor_or (.inr (by lia)) ?_)|skip
 refine se (x6 hT Aar.lookup ?_)
 show wpAny _ _ (if(some (Value.builtin "tuple.__hash__")==some Value.none)=true then _ else _) Q E s
 rw[if_neg (by rw[beq_builtin_none];exact uk)]
 refine se (x6 hT Aar.lookup ?_)
 show wpAny _ _ (callSpecialIfBoundUnlessNone? (.ref a) "__hash__" _>>=_) Q E s
 refine se (wpAny_callSpecialIfBoundUnlessNone?_slot hT F.slot_tuple_hash (vj F.slot_tuple_hash hT F.entry_tuple_hash ?_ (F.args_tuple_hash_1 _)))
 show wpAny _ _ (Builtin.Tuple.tupleItemsOf (.ref a)>>=_) _ _ s
 refine se (xv ho hd ?_)
 refine se ?_
 rw[←xr]
 refine wb _
  (λrest(b:Array Int)s'=>∃done left,ks=done++left/\NItems prog w s.heap left rest/\b.toList=done.map (Ue prog w)/\s'={s with toks:=s.toks+(done.map Y8).sum})
  _ ?_ ?_ _ _ ⟨[],ks,rfl,hi,rfl,rfl⟩
 ·
  rintro x rest b s' ⟨done,left,rfl,hl,hb,rfl⟩
  cases hl with
  |
   @cons k _ ks' _ h1 hl'=>
   refine se (Zk hu h1 ?_)
   first
    | exact si ⟨done++[k],ks',by simp,hl',by simp[hb],by simp[Aa4]⟩
    | exact se (si (si ⟨done++[k],ks',by simp,hl',by simp[hb],by simp[Aa4]⟩))
 ·
  rintro b s' ⟨done,left,rfl,hl,hb,rfl⟩
  cases hl
  rw[xg] at h
  show wpAny _ _ (retInt (Builtin.Tuple.tupleHashOf b.toList)) _ _ _
  rw[hb]
  refine wpAny_ret_mkInt ?_
  show wpAny _ _ (if(decide (-(2:Int) ^ 63<=Builtin.Tuple.tupleHashOf (done.map (Ue prog w)))&&decide (Builtin.Tuple.tupleHashOf (done.map (Ue prog w))<2 ^ 63))=true then _ else _) Q E _
  unfold B5 Nw reduceHash at h
  by_cases hr:(decide (-(2:Int) ^ 63<=Builtin.Tuple.tupleHashOf (done.map (Ue prog w)))&&decide (Builtin.Tuple.tupleHashOf (done.map (Ue prog w))<2 ^ 63))=true
  ·
   rw[if_pos hr]
   rw[if_pos hr] at h
   exact si (by simpa[Aa4] using h)
  ·
   rw[if_neg hr]
   rw[if_neg hr] at h
   exact se (wpAny_rule (si (by simpa[Aa4] using h)))
theorem O9 {x y:NK}{u v:Value}(hu:A.units<cLine)(hx:NItem prog w s.heap x u)(hy:NItem prog w s.heap y v){Q:Bool->Shared->Prop}(h:Q (decide (x=y)) s):wpAny (model prog w) A (eqBool u v) Q E s:=by
 cases x with
 |
  inl x=>
  cases y with
  | inl y=>refine(Ax prog w).eqBool (a:=x) (b:=y) hx hy ?_;simpa using h
  |
   inr y=>
   obtain⟨b,rfl,o,its,n,ho,hc,hd,_⟩:=hy
   have ht:s.heap.IsTuple b its:=⟨o,ho,hc,n,hd⟩
   rw[ua (λz=>nomatch z)] at h
   cases x with
   |
    inl i=>
    obtain⟨t,rfl⟩:=wx (k:=i) (v:=u) hx
    exact EqAt.int_tuple i t ht hu prog w E Q h
   |
    inr z=>
    obtain⟨t,rfl⟩:=vx (x:=z) (v:=u) hx
    exact EqAt.str_tuple z t ht hu prog w E Q h
 |
  inr x=>
  obtain⟨a,rfl,p⟩:=hx
  cases y with
  |
   inl y=>
   obtain⟨o,its,n,ho,hc,hd,_⟩:=p
   have ht:s.heap.IsTuple a its:=⟨o,ho,hc,n,hd⟩
   rw[ua (λz=>nomatch z)] at h
   cases y with
   |
    inl i=>
    obtain⟨t,rfl⟩:=wx (k:=i) (v:=v) hy
    exact EqAt.tuple_int i t ht hu prog w E Q h
   |
    inr z=>
    obtain⟨t,rfl⟩:=vx (x:=z) (v:=v) hy
    exact EqAt.tuple_str z t ht hu prog w E Q h
  |
   inr y=>
   obtain⟨b,rfl,q⟩:=hy
   exact wpAny_eqBool_tuple hu p q (by simpa using h)
theorem Si {x y:List NK}{a b:Addr}{P:PySem.Fin->Shared->Prop}(hu:A.units<cLine)(hx:IsNest prog w s.heap x a)(hy:IsNest prog w s.heap y b)(h:P (.done (.ret (.bool (decide (x=y))))) s):
  wpAny (model prog w) A (Builtin.«tuple.__eq__» ⟨[.ref a,.ref b],[]⟩) P E s:=by
 have hTb:=hy.typeIs
 obtain⟨oa,xs,na,hoa,_,hda,hia⟩:=hx
 obtain⟨ob,ys,nb,hob,_,hdb,hib⟩:=hy
 show wpAny _ _ (isInstance (.ref b) (.type "tuple")>>=_) _ _ s
 refine se (x8 hTb yj ?_)
 simp only[xq,u4,xu]
 refine se (xv hoa hda ?_)
 refine se (xv hob hdb ?_)
 refine se ?_
 refine wb _
  (λrest r s'=>r.1=none/\s'=s/\∃x' y' xs' ys',rest=List.zip xs' ys'/\NItems prog w s.heap x' xs'/\NItems prog w s.heap y' ys'/\decide (x'=y')=decide (x=y)/\(xs'.length==ys'.length)=(xs.size==ys.size))
  _ ?_ ?_ _ _ ⟨rfl,rfl,x,y,xs.toList,ys.toList,rfl,hia,hib,rfl,by simp⟩
 ·
  rintro⟨u,v⟩ rest r s' ⟨hr,rfl,x',y',xs',ys',hz,hx',hy',hdec,hlen⟩
  cases hx' with
  | nil=>simp at hz
  |
   @cons k1 u' x'' xs'' h1 hx''=>
   cases hy' with
   | nil=>simp at hz
   |
    @cons k2 v' y'' ys'' h2 hy''=>
    simp only[xo,zo,Aae] at hz
    obtain⟨⟨rfl,rfl⟩,rfl⟩:=hz
    refine se (O9 hu h1 h2 ?_)
    by_cases hk:k1=k2
    ·
     subst hk
     rw[so rfl]
     simp only[xq,u4,xu]
     refine si ⟨rfl,rfl,x'',y'',xs'',ys'',rfl,hx'',hy'',?_,by simpa using hlen⟩
     rw[←hdec]
     by_cases hxy:x''=y''
     · simp[hxy]
     · simp[hxy]
    ·
     rw[ua hk]
     simp only[Bool.not_false,Aao]
     have hf:decide (x=y)=false:=by rw[←hdec];simp[hk]
     rw[hf] at h
     exact se (si (si (si h)))
 ·
  rintro⟨r1,r2⟩ s' ⟨hr,rfl,x',y',xs',ys',hz,hx',hy',hdec,hlen⟩
  simp only at hr
  subst hr
  refine si ?_
  have hfin:(xs.size==ys.size)=decide (x=y):=by
   rw[←hdec,←hlen]
   cases hx' with
   |
    nil=>
    cases hy' with
    | nil=>simp
    | cons _ _=>simp
   |
    cons _ _=>
    cases hy' with
    | nil=>simp
    | cons _ _=>simp at hz
  show P (.done (.ret (.bool (xs.size==ys.size)))) s'
  rw[hfin];exact h
theorem Ub {x y:List NK}{a b:Addr}{Q:Bool->Shared->Prop}(hu:A.units+1<cLine)(hx:IsNest prog w s.heap x a)(hy:IsNest prog w s.heap y b)(h:Q (decide (x=y)) s):
  wpAny (model prog w) A (eqBool (.ref a) (.ref b)) Q E s:=by
 unfold eqBool
 try with_reducible refine vn ?_
 show wpAny _ _ (if(Value.ref a==Value.ref b)=true then _ else _) Q E s
 by_cases hab:(Value.ref a==Value.ref b)=true
 ·
  rw[if_pos hab]
  have e:a=b:=by have:=eq_of_beq hab;injection this
  subst e
  obtain rfl:=hx.inj hy
  exact se (wpAny_rule (si (by simpa using h)))
 ·
  rw[if_neg hab]
  exact se (z8 (op:=.Eq) hx.typeIs hy.typeIs F.slot_tuple_eq
   (vj F.slot_tuple_eq hx.typeIs F.entry_tuple_eq (Si hu hx hy ⟨_,rfl,(λe=>nomatch e),x5 h⟩) (F.args_tuple_eq_2 _ _)) (by lia))
theorem lh {ks:List Key}{a:Addr}{n:Nat}{Q:Bool->Shared->Prop}(hk:IsTupleKey (Ax prog w) s.heap ks a)(h:Q true s):wpAny (model prog w) A (eqIsQuiet (n+1) (.ref a)) Q E s:=by
 have hT:=hk.typeIs
 obtain⟨o,items,n,ho,_,hd,hi⟩:=hk
 unfold eqIsQuiet
 refine se (x6 hT F.slot_tuple_eq.lookup ?_)
 show wpAny _ _ (isInstance (.ref a) (.type "tuple")>>=_) _ _ s
 refine se (x8 hT yj ?_)
 simp only[xq,u4,xu]
 refine se (Abf ho hd ?_)
 refine se ?_
 show wpAny _ _ (forIn items _ _) _ _ s
 rw[←xr]
 refine wb _ (λrest r s'=>r.1=none/\s'=s/\∀v∈rest,carriedByValue v=true) _ ?_ ?_ _ _ ⟨rfl,rfl,hi.byValue⟩
 ·
  rintro v rest r s' ⟨hr,rfl,hall⟩
  rw[eqIsQuiet_byValue _ (hall v sk)]
  refine se (si ?_)
  simp only[xq,u4,xu]
  exact si ⟨rfl,rfl,λu hu'=>hall u (sq _ hu')⟩
 ·
  rintro⟨r1,r2⟩ s' ⟨hr,rfl,_⟩
  simp only at hr
  subst hr
  exact si h
theorem eu {ks:List NK}{a:Addr}{n:Nat}{Q:Bool->Shared->Prop}(hk:IsNest prog w s.heap ks a)(h:Q true s):wpAny (model prog w) A (eqIsQuiet (n+2) (.ref a)) Q E s:=by
 have hT:=hk.typeIs
 obtain⟨o,items,m,ho,_,hd,hi⟩:=hk
 unfold eqIsQuiet
 refine se (x6 hT F.slot_tuple_eq.lookup ?_)
 show wpAny _ _ (isInstance (.ref a) (.type "tuple")>>=_) _ _ s
 refine se (x8 hT yj ?_)
 simp only[xq,u4,xu]
 refine se (Abf ho hd ?_)
 refine se ?_
 show wpAny _ _ (forIn items _ _) _ _ s
 rw[←xr]
 refine wb _ (λrest r s'=>r.1=none/\s'=s/\∃left,NItems prog w s.heap left rest) _ ?_ ?_ _ _ ⟨rfl,rfl,ks,hi⟩
 ·
  rintro v rest r s' ⟨hr,rfl,left,hl⟩
  cases hl with
  |
   @cons k _ ks' _ h1 hl'=>
   have go:∀{R:Bool->Shared->Prop},R true s'->wpAny (model prog w) A (eqIsQuiet (n+1) v) R E s':=λhR=>by
    cases k with
    | inl k=>rw[eqIsQuiet_byValue _ ((Ax prog w).byValue _ _ h1)];exact si hR
    | inr ks=>obtain⟨b,rfl,p⟩:=h1;exact lh p hR
   refine se (go ?_)
   simp only[xq,u4,xu]
   exact si ⟨rfl,rfl,ks',hl'⟩
 ·
  rintro⟨r1,r2⟩ s' ⟨hr,rfl,_⟩
  simp only at hr
  subst hr
  exact si h
end
end L2
namespace L2
open PySem PySem.W PyProof.Rows
structure TabN (b:Bool)(t:SetTable)(n:Nat):Prop where
 sz:t.place.size=n
 ri:Rises t.place.toList
 nd:t.dummies=#[]
 le:∀j∈t.place.toList,j<=t.mask
 cy:Cyc t.mask
 od:t.mask%2=1
 sm:t.mask<=2047
 fl:n*5<t.mask*3
 led:t.led=b
section
variable {b:Bool}{t:SetTable}{n:Nat}
theorem TabN.fits (T:TabN b t n):t.fits n=true:=by
 unfold SetTable.fits SetTable.fill
 rw[T.sz,T.nd,Aaf]
 have:=T.fl
 exact so (by show n+0<=t.mask;lia)
theorem TabN.noDummy (T:TabN b t n)(j:Nat):t.slot j≠ .dummy:=by
 unfold SetTable.slot
 dsimp only
 split
 · exact λz=>nomatch z
 ·
  rw[T.nd,if_neg (by unfold SetTable.has;simp)]
  exact λz=>nomatch z
theorem TabN.free_at (T:TabN b t n){j:Nat}(h:j∉t.place.toList):t.slot j=.empty:=by
 unfold SetTable.slot
 dsimp only
 rw[if_neg ?_,T.nd,if_neg (by unfold SetTable.has;simp)]
 intro z
 have z:=eq_of_beq z
 exact h (yh.mpr (Array.mem_of_getElem? z))
theorem Qo {j i:Nat}(h:t.slot j=.live i):t.place[i]?=some j:=by
 unfold SetTable.slot at h
 dsimp only at h
 split at h
 ·
  injection h with h
  subst h
  rename_i z
  exact eq_of_beq z
 · split at h<;>cases h
theorem W9 {j:Nat}(ht:Rises t.place.toList)(h:t.slot j=.empty):j∉t.place.toList:=Xw ht λi z=>by rw[h] at z;cases z
theorem TabN.room (T:TabN b t n):∃j,j<=t.mask/\t.slot j=.empty:=by
 by_cases hx:∃j,j<=t.mask/\j∉t.place.toList
 ·
  obtain⟨j,h1,h2⟩:=hx
  exact⟨j,h1,T.free_at h2⟩
 ·
  have hs:∀j∈List.range (t.mask+1),j∈t.place.toList:=λj hj=>by
   by_cases h:j∈t.place.toList
   · exact h
   · exact absurd ⟨j,xf (vb.mp hj),h⟩ hx
  have hl:=(List.nodup_range (n:=t.mask+1)).length_le_of_subset hs
  rw[vw,sv,T.sz] at hl
  have:=T.fl
  lia
end
section
variable {prog:Program}{w:World}{A:Around}{E:Value->Shared->Prop}{s:Shared}{es:Array (Int×Value)}{ep:Nat}{t:SetTable}{a:Addr}
theorem wpSeq? {c:Addr}{o:Obj}{items:Array Value}{n:Nat}{Q:Option (Array Value)->Shared->Prop}(ho:s.heap.get? c=some o)(hd:o.data=.seq items n)(h:Q (some items) s):wpAny (model prog w) A (seqItems? (.ref c)) Q E s:=by
 unfold seqItems?
 refine se (wpAny_load ho ?_)
 rw[hd]
 exact si h
theorem Z9 {k:NK}{v:Value}{n:Nat}{Q:Bool->Shared->Prop}(hk:NItem prog w s.heap k v)(h:Q false s):wpAny (model prog w) A (ofAClassStatement (n+1) v) Q E s:=by
 have byV:∀{m:Nat}{v:Value}{R:Bool->Shared->Prop},carriedByValue v=true->R false s->wpAny (model prog w) A (ofAClassStatement m v) R E s:=λ{m v R}hv hR=>by
  cases v<;>first|(unfold ofAClassStatement;exact si hR)|(simp[carriedByValue] at hv)
 cases k with
 | inl k=>exact byV ((Ax prog w).byValue _ _ hk) h
 |
  inr ks=>
  obtain⟨c,rfl,p⟩:=hk
  have hT:=p.typeIs
  obtain⟨o,items,n',ho,hc,hd,hi⟩:=p
  unfold ofAClassStatement
  refine se (Aa1 hT ?_)
  dsimp only
  rw[if_pos (by decide)]
  refine se (si ?_)
  rw[if_neg (by decide)]
  refine se (wpSeq? ho hd ?_)
  dsimp only
  refine se ?_
  rw[←xr]
  refine wb _ (λrest r s'=>r.1=none/\s'=s/\∀v∈rest,carriedByValue v=true) _ ?_ ?_ _ _ ⟨rfl,rfl,hi.byValue⟩
  ·
   rintro v rest r s' ⟨hr,rfl,hall⟩
   refine se (byV (hall v sk) ?_)
   rw[if_neg (by decide)]
   exact si ⟨rfl,rfl,λu hu'=>hall u (sq _ hu')⟩
  ·
   rintro⟨r1,r2⟩ s' ⟨hr,rfl,_⟩
   simp only at hr
   subst hr
   exact si h
theorem Vw {ks:List NK}{c:Addr}{n:Nat}{Q:Bool->Shared->Prop}(hk:IsNest prog w s.heap ks c)(h:Q false s):wpAny (model prog w) A (ofAClassStatement (n+2) (.ref c)) Q E s:=by
 have hT:=hk.typeIs
 obtain⟨o,items,n',ho,hc,hd,hi⟩:=hk
 unfold ofAClassStatement
 refine se (Aa1 hT ?_)
 dsimp only
 rw[if_pos (by decide)]
 refine se (si ?_)
 rw[if_neg (by decide)]
 refine se (wpSeq? ho hd ?_)
 dsimp only
 refine se ?_
 rw[←xr]
 refine wb _ (λrest r s'=>r.1=none/\s'=s/\∃left,NItems prog w s.heap left rest) _ ?_ ?_ _ _ ⟨rfl,rfl,ks,hi⟩
 ·
  rintro v rest r s' ⟨hr,rfl,left,hl⟩
  cases hl with
  |
   @cons k _ ks' _ h1 hl'=>
   refine se (Z9 h1 ?_)
   rw[if_neg (by decide)]
   exact si ⟨rfl,rfl,ks',hl'⟩
 ·
  rintro⟨r1,r2⟩ s' ⟨hr,rfl,_⟩
  simp only at hr
  subst hr
  exact si h
theorem nj {k:List NK}{c:Addr}{ys:List Value}{Q:Bool->Shared->Prop}(hx:IsNest prog w s.heap k c)(hy:∀y∈ys,∃k' d,y=.ref d/\IsNest prog w s.heap k' d)(h:Q false s):wpAny (model prog w) A (searchCouldBeSeen (.ref c) ys) Q E s:=by
 unfold searchCouldBeSeen
 refine se ?_
 refine wb _ (λrest r s'=>r.1=none/\s'=s/\∀v∈rest,v∈ys) _ ?_ ?_ _ _ ⟨rfl,rfl,λv hv=>hv⟩
 ·
  rintro v rest r s' ⟨hr,rfl,hall⟩
  have keep:∀u∈rest,u∈ys:=λu hu=>hall u (sq _ hu)
  obtain⟨k',d,rfl,hd⟩:=hy v (hall _ sk)
  dsimp only
  refine xa (λ_=>si ⟨rfl,rfl,keep⟩) (λ_=>?_)
  refine se (eu (n:=6) hx ?_)
  rw[if_neg (by decide)]
  refine se (eu (n:=6) hd ?_)
  rw[if_neg (by decide)]
  refine se (Vw (n:=6) hx ?_)
  rw[if_neg (by decide)]
  refine se (Vw (n:=6) hd ?_)
  rw[if_neg (by decide)]
  exact si ⟨rfl,rfl,keep⟩
 ·
  rintro⟨r1,r2⟩ s' ⟨hr,rfl,_⟩
  simp only at hr
  subst hr
  exact si h
end
end L2
namespace L2
open PySem PySem.W PyProof.Rows
open PySem.SetTable (Probe Met)
theorem Ze {t:SetTable}(ht:Rises t.place.toList){i j:Nat}(h:t.place[i]?=some j):t.slot j=.live i:=by
 obtain⟨b0,b1,b2⟩:=below_at ht j
 have e:SetTable.below t.place j=i:=by
  rcases y4 (SetTable.below t.place j) i with l|l|l
  ·
   have hi:=(yg.mp h).1
   have eb:=tu (show SetTable.below t.place j<t.place.size by lia)
   have h1:=b2 _ _ (tq _) eb
   rw[←t7] at h eb
   obtain⟨p1,q1⟩:=t8.mp h
   obtain⟨p2,q2⟩:=t8.mp eb
   have:=xt.mp ht _ _ p2 p1 l
   rw[q1,q2] at this
   lia
  · exact l
  · exact absurd (b1 i j l h) (vv _)
 unfold SetTable.slot
 dsimp only
 rw[e,h,if_pos (by simp)]
theorem g9 {t:SetTable}(ht:Rises t.place.toList){j:Nat}(h:j∈t.place.toList):∃i,t.slot j=.live i:=by
 obtain⟨i,hi⟩:=xc h
 rw[t7] at hi
 exact⟨i,Ze ht hi⟩
theorem T1 {t:SetTable}{i j:Nat}(h:t.slot j=.live i):j∈t.place.toList:=yh.mpr (Array.mem_of_getElem? (Qo h))
theorem Mo {t t':SetTable}(e:t'.mask=t.mask):∀(n:Nat)(p:Probe),adv t' n p=adv t n p
 | 0,_=>rfl
 |
  n+1,p=>by
  show adv t' n (t'.advance p)=adv t n (t.advance p)
  rw[Mo e n,show t'.advance p=t.advance p by unfold SetTable.advance;rw[e]]
theorem Oj {t t':SetTable}(e:t'.mask=t.mask)(h:Int):t'.probeStart h=t.probeStart h:=by unfold SetTable.probeStart;rw[e]
def Way (t:SetTable)(h:Int)(j:Nat):Prop:=∃K,K<10*SetTable.turns t.mask/\(adv t K (t.probeStart h)).j=j/\∀k,k<K->(adv t k (t.probeStart h)).j∈t.place.toList
theorem Way.up {t t':SetTable}{h:Int}{j:Nat}(x:Way t h j)(e:t'.mask=t.mask)(s:∀i∈t.place.toList,i∈t'.place.toList):Way t' h j:=by
 obtain⟨K,a,b,c⟩:=x
 refine⟨K,by rw[e];exact a,by rw[Mo e,Oj e];exact b,λk hk=>?_⟩
 rw[Mo e,Oj e]
 exact s _ (c k hk)
theorem fe {t:SetTable}{ha:Nat->Int}{h:Int}(nd:∀j,t.slot j≠ .dummy):∀(fuel:Nat)(p:Probe),
  (∀k,k<fuel->∃i,t.slot (adv t k p).j=.live i/\ha i≠h)∨
  (∃k,k<fuel/\SetTable.probe.go t ha h fuel p=some (.empty (adv t k p).j p.dummy)/\t.slot (adv t k p).j=.empty/\∀k',k'<k->∃i,t.slot (adv t k' p).j=.live i/\ha i≠h)∨
  (∃k i,k<fuel/\SetTable.probe.go t ha h fuel p=some (.candidate (adv t k p).j i (adv t (k+1) p))/\t.slot (adv t k p).j=.live i/\ha i=h/\∀k',k'<k->∃i,t.slot (adv t k' p).j=.live i/\ha i≠h)
 | 0,p=>.inl λk hk=>absurd hk (wq _)
 |
  fuel+1,p=>by
  unfold SetTable.probe.go
  cases hs:t.slot p.j with
  | empty=>exact .inr (.inl ⟨0,yo _,rfl,hs,λk hk=>absurd hk (wq _)⟩)
  | dummy=>exact absurd hs (nd _)
  |
   live i=>
   by_cases hh:ha i=h
   ·
    refine .inr (.inr ⟨0,i,yo _,?_,hs,hh,λk hk=>absurd hk (wq _)⟩)
    dsimp only
    rw[if_pos (by rw[hh];exact Aaf _)]
    rfl
   ·
    dsimp only
    rw[if_neg (by rw[beq_iff_eq];exact hh)]
    have pd:(t.advance p).dummy=p.dummy:=by unfold SetTable.advance;split<;>rfl
    have step:∀{N:Nat},(∀k,k<N->∃i,t.slot (adv t k (t.advance p)).j=.live i/\ha i≠h)->∀k,k<N+1->∃i,t.slot (adv t k p).j=.live i/\ha i≠h:=λ{N}z k hk=>by
     cases k with
     | zero=>exact⟨i,hs,hh⟩
     | succ k=>exact z k (Nat.lt_of_succ_lt_succ hk)
    rcases fe nd fuel (t.advance p) with z|⟨k,hk,e,a,b⟩|⟨k,i',hk,e,a,b,c⟩
    · exact .inl (step z)
    · exact .inr (.inl ⟨k+1,Abn hk,by rw[e,pd];rfl,a,step b⟩)
    · exact .inr (.inr ⟨k+1,i',Abn hk,e,a,b,step c⟩)
section
variable {prog:Program}{w:World}{A:Around}{E:Value->Shared->Prop}{s:Shared}{es:Array (Int×Value)}{ep:Nat}{t:SetTable}{a:Addr}
def EnAt (prog:Program)(w:World)(h:Heap)(e:Int×Value)(k:List NK):Prop:=∃d,e.2=.ref d/\IsNest prog w h k d/\e.1=B5 prog w k
theorem EnAt.inj {h:Heap}{e:Int×Value}{k k':List NK}(x:EnAt prog w h e k)(y:EnAt prog w h e k'):k=k':=by
 obtain⟨d,e1,h1,_⟩:=x
 obtain⟨d',e2,h2,_⟩:=y
 rw[e1] at e2
 injection e2 with e2
 subst e2
 exact h1.inj h2
theorem qd {k:List NK}{c:Addr}{h:Int}{j i:Nat}{d:Addr}{k':List NK}{Q:SetFound->Shared->Prop}{R:Sem SetFound}(ho:s.heap.get? a=some (Bw es ep t))(T:TabN (Qk w) t es.size)(hu:A.units+1<cLine)(hx:IsNest prog w s.heap k c)
  (hj:t.slot j=.live i) (il:i<es.size) (ed:es[i].2=.ref d) (hk':IsNest prog w s.heap k' d) (hy:∀e∈es.toList,∃k' d,e.2=.ref d/\IsNest prog w s.heap k' d)
  (q1:k'=k->Q (.there none) s) (q2:k'≠k->wpAny (model prog w) A R Q E s) (R2:Sem SetFound):
  wpAny (model prog w) A (do
   if !t.led then
    if ←searchCouldBeSeen (.ref c) ((es.filter (·.1==h)).toList.map (·.2)) then unsupported "set:the-search-would-show-the-table"
   let some (_,y):=es[i]? |unsupported "internal:set-entry"
   let equal ←holding [y] (eqBool y (.ref c))
   let (es',_,t') ←setState a
   if true&&equal then return .there none
   let some same:=t'.sameMemory t.moves t.mask|unsupported "set.changed-during-lookup:is-the-new-block-at-the-old-address"
   let still ←match (if same then t'.slot j else .empty) with
    |
     .live i'=>match es'[i']? with
     | some (_,y')=>do pure (if ←isSame y' y then some i' else none)
     | none=>pure none
    | _=>pure none
   match still with
   | none=>rule "set.search.anew";R2
   | some i'=>if equal then return .there (some i') else R) Q E s:=by
 have rest:wpAny (model prog w) A (do
   let some (_,y):=es[i]? |unsupported "internal:set-entry"
   let equal ←holding [y] (eqBool y (.ref c))
   let (es',_,t') ←setState a
   if true&&equal then return .there none
   let some same:=t'.sameMemory t.moves t.mask|unsupported "set.changed-during-lookup:is-the-new-block-at-the-old-address"
   let still ←match (if same then t'.slot j else .empty) with
    |
     .live i'=>match es'[i']? with
     | some (_,y')=>do pure (if ←isSame y' y then some i' else none)
     | none=>pure none
    | _=>pure none
   match still with
   | none=>rule "set.search.anew";R2
   | some i'=>if equal then return .there (some i') else R) Q E s:=by
  rw[tu il]
  dsimp only
  rw[ed]
  refine se (vn (Ub hu hk' hx ?_))
  refine se (wc ho rfl T.fits ?_)
  dsimp only
  by_cases e:k'=k
  ·
   rw[if_pos (by rw[so e];rfl)]
   exact si (q1 e)
  ·
   rw[if_neg (by rw[ua e];decide)]
   rw[show t.sameMemory t.moves t.mask=some true by unfold SetTable.sameMemory;rw[if_pos (by simp)]]
   dsimp only
   rw[if_pos rfl,hj]
   dsimp only
   rw[tu il]
   dsimp only
   rw[ed]
   refine se (wpAny_isSame_ref_self ?_)
   refine se (si ?_)
   rw[if_pos rfl]
   dsimp only
   rw[if_neg (by rw[ua e];decide)]
   exact q2 e
 refine xa (λ_=>se (nj hx (λy hy'=>?_) ?_)) (λ_=>rest)
 ·
  obtain⟨e',he',rfl⟩:=t6.mp hy'
  have hm:=(Array.mem_filter.mp (Array.mem_toList_iff.mp he')).1
  obtain⟨k2,d2,e2,h2⟩:=hy e' (yh.mpr hm)
  exact⟨k2,d2,e2,h2⟩
 ·
  rw[if_neg (by decide)]
  exact rest
theorem Wh {k:List NK}{c:Addr}{Q:SetFound->Shared->Prop}(ho:s.heap.get? a=some (Bw es ep t))(T:TabN (Qk w) t es.size)(hu:A.units+1<cLine)(hx:IsNest prog w s.heap k c)
  (hy:∀e∈es.toList,∃k',EnAt prog w s.heap e k') (hw:∀(i:Nat)(e:Int×Value)(j:Nat),es[i]?=some e->t.place[i]?=some j->Way t e.1 j)
  (q1:(∃e∈es.toList,EnAt prog w s.heap e k)->Q (.there none) s)
  (q2:(¬ ∃e∈es.toList,EnAt prog w s.heap e k)->∀j,t.slot j=.empty->j<=t.mask->Way t (B5 prog w k) j->Q (.free j false) s):wpAny (model prog w) A (setSearch a (.ref c) (B5 prog w k) true) Q E s:=by
 generalize eH:B5 prog w k=h at q2 ⊢
 have at_:∀{j i:Nat},t.slot j=.live i->i<es.size:=λ{j i}hj=>by
  have:=(yg.mp (Qo hj)).1
  rw[T.sz] at this
  exact this
 have stop:∃K,K<10*SetTable.turns t.mask/\(((¬ ∃e∈es.toList,EnAt prog w s.heap e k)/\t.slot (adv t K (t.probeStart h)).j=.empty)∨((∃e∈es.toList,EnAt prog w s.heap e k)/\(∀k',k'<K->∃i,t.slot (adv t k' (t.probeStart h)).j=.live i)/\∃i e,t.slot (adv t K (t.probeStart h)).j=.live i/\es[i]?=some e/\EnAt prog w s.heap e k)):=by
  by_cases hin:∃e∈es.toList,EnAt prog w s.heap e k
  ·
   obtain⟨e,he,hk⟩:=hin
   obtain⟨i,hi⟩:=xc he
   rw[t7] at hi
   have hs:=(yg.mp hi).1
   have hp:=tu (show i<t.place.size by rw[T.sz];exact hs)
   obtain⟨K,a1,a2,a3⟩:=hw i e _ hi hp
   obtain⟨d,e1,e2,e3⟩:=hk
   rw[e3,eH] at a2 a3
   refine⟨K,a1,.inr ⟨⟨e,he,d,e1,e2,e3⟩,λk' hk'=>g9 T.ri (a3 k' hk'),i,e,?_,hi,d,e1,e2,e3⟩⟩
   rw[a2]
   exact Ze T.ri hp
  ·
   obtain⟨j0,hj0,he0⟩:=T.room
   obtain⟨K,hK,eK⟩:=fj (t:=t) (h:=h) T.cy hj0
   exact⟨K,by unfold SetTable.turns;lia,.inl ⟨hin,by rw[eK];exact he0⟩⟩
 obtain⟨K,hK,hS⟩:=stop
 have hm:=T.sm
 have go:∀(M n0 fuel:Nat)(st:Option Probe),n0+M=K->M<fuel->st.getD (t.probeStart h)=adv t n0 (t.probeStart h)->(∀k',k'<n0->(adv t k' (t.probeStart h)).j∈t.place.toList)->wpAny (model prog w) A (setSearchFrom a (.ref c) h true fuel st) Q E s:=by
  intro M
  induction M using Nat.strongRecOn with
  | _ M ih=>
  intro n0 fuel st hM hf hst hl
  cases fuel with
  | zero=>exact absurd hf (wq _)
  | succ fuel=>
  have av:∀n,adv t n (adv t n0 (t.probeStart h))=adv t (n0+n) (t.probeStart h):=λn=>(Iq t n0 n _).symm
  unfold setSearchFrom
  refine se (wc ho rfl T.fits ?_)
  dsimp only
  rw[if_neg (by unfold SetTable.gaveWay;rw[T.od];decide)]
  unfold SetTable.probe
  rw[hst]
  generalize hha:SetTable.probe.go t _ h (10*SetTable.turns t.mask) (adv t n0 (t.probeStart h))=G
  have noH:∀{i:Nat}{e:Int×Value},es[i]?=some e->EnAt prog w s.heap e k->((es[i]?.map (·.1)).getD 0)=h:=λ{i e}hi hk=>by
   obtain⟨d,e1,e2,e3⟩:=hk
   rw[hi]
   exact e3.trans eH
  have hdm:(adv t n0 (t.probeStart h)).dummy=none:=Sm t n0 _
  rcases fe (t:=t) (ha:=λi=>(es[i]?.map (·.1)).getD 0) (h:=h) T.noDummy (10*SetTable.turns t.mask) (adv t n0 (t.probeStart h)) with z|⟨n,hn,e,a1,a2⟩|⟨n,i,hn,e,a1,a2,a3⟩
  ·
   exfalso
   obtain⟨i,z1,z2⟩:=z M (by lia)
   rw[av,hM] at z1
   rcases hS with⟨_,hS⟩|⟨_,_,i',e',y1,y2,y3⟩
   · rw[hS] at z1;cases z1
   · rw[y1] at z1;injection z1 with z1;subst z1;exact z2 (noH y2 y3)
  ·
   have hG:=hha.symm.trans e
   rw[hG]
   rw[hdm]
   rw[av] at a1 ⊢
   have le:n<=M:=by
    rcases xn M n with l|l
    ·
     exfalso
     obtain⟨i,z1,z2⟩:=a2 M l
     rw[av,hM] at z1
     rcases hS with⟨_,hS⟩|⟨_,_,i',e',y1,y2,y3⟩
     · rw[hS] at z1;cases z1
     · rw[y1] at z1;injection z1 with z1;subst z1;exact z2 (noH y2 y3)
    · exact l
   rcases hS with⟨hno,_⟩|⟨_,y0,i',e',y1,_⟩
   ·
    refine si (q2 hno _ a1 ?_ ⟨n0+n,by lia,rfl,λk' hk'=>?_⟩)
    ·
     have:=(Tn (t:=t) (n0+n) (Va t h)).2
     lia
    ·
     by_cases hk:k'<n0
     · exact hl k' hk
     ·
      obtain⟨i,z1,_⟩:=a2 (k'-n0) (by lia)
      rw[av,show n0+(k'-n0)=k' by lia] at z1
      exact T1 z1
   ·
    exfalso
    by_cases hk:n0+n<K
    ·
     obtain⟨i,z⟩:=y0 _ hk
     rw[a1] at z;cases z
    · rw[show n0+n=K by lia,y1] at a1;cases a1
  ·
   have hG:=hha.symm.trans e
   rw[hG]
   dsimp only
   have le:n<=M:=by
    rcases xn M n with l|l
    ·
     exfalso
     obtain⟨i,z1,z2⟩:=a3 M l
     rw[av,hM] at z1
     rcases hS with⟨_,hS⟩|⟨_,_,i',e',y1,y2,y3⟩
     · rw[hS] at z1;cases z1
     · rw[y1] at z1;injection z1 with z1;subst z1;exact z2 (noH y2 y3)
    · exact l
   have il:=at_ a1
   obtain⟨k',d,ed,hk',hh'⟩:=hy es[i] (yh.mpr (Array.getElem_mem il))
   refine qd (k':=k') ho T hu hx a1 il ed hk' (λe he=>let ⟨k2,d2,x1,x2,_⟩:=hy e he;⟨k2,d2,x1,x2⟩) (λz=>q1 ⟨es[i],yh.mpr (Array.getElem_mem il),d,ed,by rw[←z];exact hk',by rw[←z];exact hh'⟩) (λz=>?_) _
   have lt:n<M:=by
    rcases xn n M with l|l
    · exact l
    ·
     exfalso
     rw[av,show n0+n=K by lia] at a1
     rcases hS with⟨_,hS⟩|⟨_,_,i',e',y1,y2,y3⟩
     · rw[hS] at a1;cases a1
     ·
      rw[y1] at a1;injection a1 with a1;subst a1
      rw[tu il] at y2
      injection y2 with y2
      subst y2
      exact z (EnAt.inj ⟨d,ed,hk',hh'⟩ y3)
   refine ih (M-(n+1)) (by lia) (n0+(n+1)) fuel _ (by lia) (by lia) (by show adv t (n+1) _=_;rw[av]) λk2 hk2=>?_
   by_cases c1:k2<n0
   · exact hl k2 c1
   ·
    by_cases c2:k2=n0+n
    ·
     rw[c2,←av]
     exact T1 a1
    ·
     obtain⟨i,z1,_⟩:=a3 (k2-n0) (by lia)
     rw[av,show n0+(k2-n0)=k2 by lia] at z1
     exact T1 z1
 exact go K 0 100000 none (by lia) (by unfold SetTable.turns at hK;lia) rfl λk' hk'=>absurd hk' (wq _)
end
end L2
namespace L2
open PySem PySem.W PyProof.Rows
def ins (ds:List Int)(k:Int):List Int:=if k∈ds then ds else ds++[k]
section
variable {prog:Program}{w:World}{A:Around}{R:Result->Shared->Prop}{I:Addr}{fp wr:List Addr}{G:Array GenState->Array GenState->Prop}{n:Nat}{P:Nat->Value->Prop}{St:Nat->Shared->Prop}
end
section
variable {prog:Program}{w:World}{A:Around}{E:Value->Shared->Prop}{s:Shared}
theorem f9 (a:Value){Q₁:Value->Shared->Prop}(h:Q₁ (.ref s.heap.objs.size) {s with heap:=s.heap.push (Bw #[] 0 (.fresh 0 0 (Qk w)))}):
  codeAny (model prog w) A (.call (.builtin "set.__new__") ⟨[.type "set",a],[]⟩) (wants Q₁ E) s:=by
 refine codeAny_of_tree ?_
 show wpAny _ A.in1 (do checkBuiltinCall "set.__new__" ⟨[.type "set",a],[]⟩;again (.builtin "set.__new__" ⟨[.type "set",a],[]⟩)) _ _ s
 refine se (wpAny_of_eq (F.newCall_set_1 a) (si ⟨plainId_quiet F.plain_set_new _,xl F.entry_set_new ?_⟩))
 rw[yr F.plain_set_new _]
 unfold Builtin.«set.__new__» Builtin.Frozenset.newClass
 have hsub:=sub_set_self
 obtain⟨hp,g,d,tk,os⟩:=s
 dsimp only
 wp_walk
 refine yw (si ?_)
 dsimp only
 simp only[newObj]
 refine se (wpAny_alloc (si ?_))
 exact si h
end
section
variable {prog:Program}{w:World}{A:Around}{E:Value->Shared->Prop}{s:Shared}
end
theorem e8:Manifest.owners.lookup (String.ofList ['r','o','t','a','r','e','t','i','_','t','e','s'].reverse)=some Manifest.sig_set_iterator:=by kernel_rfl
theorem E4:Slot "set_iterator" "__next__" "set_iterator.__next__":=
 .of (owner:="set_iterator") (n:="__next__") (by rw[typeLookup_type,builtinLookup_eq_fast];kernel_rfl) (by decide+kernel) (by decide+kernel) (by decide+kernel) (.inl (by decide+kernel)) (by rw[isSubtype_type];kernel_rfl)
theorem Kx:entryFor table "set_iterator.__next__"=some Builtin.«set_iterator.__next__»:=entryFor_of_tree (by kernel_rfl)
theorem Xb:entryFor table "set.__iter__"=some Builtin.«frozenset.__iter__»:=entryFor_alias (id':="frozenset.__iter__") (by kernel_rfl) rfl (by decide+kernel) (by kernel_rfl)
theorem Ml (a:Value):argsOk "set_iterator.__next__" ⟨[a],[]⟩:=by
 unfold argsOk
 rw[signature?_of (id:="set_iterator.__next__") (n:=['_','_','t','x','e','n','_','_']) (o:=['r','o','t','a','r','e','t','i','_','t','e','s']) (by kernel_rfl) e8]
 kernel_rfl
theorem Vc {α:Type}{l:List α}{i:Nat}(h:i<l.length):l.Perm (l[i]::l.eraseIdx i):=by
 rw[List.eraseIdx_eq_take_drop_succ]
 refine List.Perm.trans ?_ List.perm_middle
 rw[←List.drop_eq_getElem_cons h,zd]
theorem Xx {α:Type}(f:Nat->Nat):∀(n k:Nat)(l:List α)(out:Array α),l.length=n->(pickOrder.go f n k l out).toList.Perm (out.toList++l)
 |
  0,k,l,out,h=>by
  cases l with
  | nil=>unfold pickOrder.go;rw[xg]
  | cons _ _=>cases h
 |
  n+1,k,l,out,h=>by
  have hl:f k%l.length<l.length:=yp _ (by lia)
  unfold pickOrder.go
  rw[vq hl]
  dsimp only
  refine(Xx f n (k+1) _ _ (by rw[List.length_eraseIdx_of_lt hl];lia)).trans ?_
  rw[Array.toList_push,List.append_assoc]
  refine List.Perm.append_left _ ?_
  exact(Vc hl).symm
theorem Rj {α:Type}(f:Nat->Nat)(xs:Array α):(pickOrder f xs).toList.Perm xs.toList:=by
 unfold pickOrder
 have:=Xx f xs.size 0 xs.toList #[] (by rw[sv])
 simpa using this
section
variable {prog:Program}{w:World}{A:Around}{E:Value->Shared->Prop}
theorem wp_choose {src:Source}{n:Nat}{s:Shared}{Q:Nat->Shared->Prop}(hn:n≠0)(h:∀i dr,i<n->Q i {s with drawn:=dr}):wpAny (model prog w) A (choose src n) Q E s:=
 λ_ _ _=>⟨hn,h _ _ (yp _ (Nat.pos_of_ne_zero hn))⟩
theorem X4 {α:Type}:∀(n:Nat)(xs:List α)(s:Shared){Q:List α->Shared->Prop},xs.length=n->(∀ys dr,ys.Perm xs->Q ys {s with drawn:=dr})->wpAny (model prog w) A (drawOrder n xs) Q E s
 | 0,[],s,Q,_,h=>si (h [] s.drawn (.refl _))
 |
  n+1,x::xs,s,Q,hl,h=>by
  unfold drawOrder
  refine se (wp_choose (by simp) λi dr hi=>?_)
  have hi':i<(x::xs).length:=hi
  rw[vq hi']
  dsimp only
  refine se (X4 n _ _ (by rw[List.length_eraseIdx_of_lt hi'];lia) λys dr2 hp=>si ?_)
  exact h _ dr2 ((hp.cons _).trans (Vc hi').symm)
 | 0,_::_,_,_,hl,_=>nomatch hl
 | _+1,[],_,_,hl,_=>nomatch hl
structure Xq (w:World)(es:Array (Int×Value))(t:SetTable):Prop where
 ft:t.fits es.size=true
 tb:qg (Qk w) t
 sz:es.size<scanBound
def Ff (f:Value)(i:Nat)(a:Addr)(n ep:Nat):Obj:={cls:=.type "set_iterator",data:=.fields #[f,.int i 0,.ref a,.int n 0,.int ep 0]}
variable {s:Shared}{a it:Addr}{es:Array (Int×Value)}{ep:Nat}{t:SetTable}{ds:List Int}
theorem dk {slot given ep':Nat}{Q:Option (Value×Nat)->Shared->Prop}(ho:s.heap.get? a=some (Bw es ep t))(P:Xq w es t)(hb:Qk w=true)(hd:¬(t.plain=false/\1<es.size))
  (h:Q (match es[SetTable.below t.place slot]?,t.place[SetTable.below t.place slot]? with|some (_,x),some j=>some (x,j+1)|_,_=>none) s):wpAny (model prog w) A (setNext a slot given ep') Q E s:=by
 have hb':w.params.followText "set-order"=false:=by unfold Qk at hb;simpa using hb
 unfold setNext
 refine se (wc ho rfl P.ft ?_)
 dsimp only
 unfold setsByText
 refine se (se (yw (si ?_)))
 show wpAny _ _ (if w.params.followText "set-order"=true then _ else _) _ _ _
 rw[if_neg (by rw[hb'];decide)]
 show wpAny _ _ (if(!t.plain&&decide (es.size>1))=true then _ else _) _ _ _
 rw[if_neg (by intro z;simp at z;exact hd z)]
 refine se ?_
 show wpAny _ _ (if(!t.led&&!es.isEmpty)=true then _ else pure ()) _ _ _
 rw[if_neg (by rw[P.tb.2,hb];simp)]
 exact si (si h)
theorem df {slot given:Nat}{Q:Option (Value×Nat)->Shared->Prop}(ho:s.heap.get? a=some (Bw es ep t))(P:Xq w es t)(hb:Qk w=false)
  (h:Q (((pickOrder (w.params.setOrder a ep) es)[given]?).map λe=>(e.2,slot)) s):wpAny (model prog w) A (setNext a slot given ep) Q E s:=by
 have hb':w.params.followText "set-order"=true:=by unfold Qk at hb;simpa using hb
 unfold setNext
 refine se (wc ho rfl P.ft ?_)
 dsimp only
 unfold setsByText
 refine se (se (yw (si ?_)))
 show wpAny _ _ (if w.params.followText "set-order"=true then _ else _) _ _ _
 rw[if_pos hb',if_neg (by simp)]
 refine se ?_
 unfold setWalk
 refine se (wc ho rfl P.ft ?_)
 dsimp only
 unfold setsByText
 refine se (se (yw (si ?_)))
 show wpAny _ _ (if w.params.followText "set-order"=true then _ else _) _ _ _
 rw[if_pos hb']
 refine se (yw (si (si h)))
theorem siT {f:Value}{i n:Nat}(hit:s.heap.get? it=some (Ff f i a n ep)):s.TypeIs (.ref it) "set_iterator":=⟨_,hit,rfl⟩
theorem cg {slot i nx:Nat}{x:Value}{Q:Option Value->Shared->Prop}(hit:s.heap.get? it=some (Ff (.int slot 0) i a es.size ep))(ho:s.heap.get? a=some (Bw es ep t))(P:Xq w es t)
  (hx:∀(A':Around)(Q':Option (Value×Nat)->Shared->Prop)(E':Value->Shared->Prop),Q' (some (x,nx)) s->wpAny (model prog w) A' (setNext a slot i ep) Q' E' s)
  (hQ:∀h',h'.get? it=some (Ff (.int nx 0) (i+1) a es.size ep)->Heap.SameBut it s.heap h'->Q (some x) {s with heap:=h'}):wpAny (model prog w) A (pyNext (.ref it)) Q E s:=by
 unfold pyNext
 refine se (zw (wpAny_callSpecial?_slot (name:=Str.ofString "__next__") (siT hit) E4 (vj E4 (siT hit) Kx ?_ (Ml _))))
 unfold Builtin.«set_iterator.__next__»
 refine se (si ?_)
 refine se (Abg hit rfl ?_)
 dsimp only
 refine se (yx ho rfl P.ft ?_)
 rw[if_neg (by simp)]
 rw[wa,wa,wa]
 refine se (hx _ _ _ ?_)
 dsimp only
 refine se (Aaj hit rfl (by simp) ?_)
 have g1:(s.heap.update it (Obj.mapFields (·.setIfInBounds 0 (rawInt (nx:Int))))).get? it=some (Ff (.int nx 0) i a es.size ep):=we _ hit rfl
 refine se (Aaj g1 rfl (by simp) ?_)
 have g2:((s.heap.update it (Obj.mapFields (·.setIfInBounds 0 (rawInt (nx:Int))))).update it (Obj.mapFields (·.setIfInBounds 1 (rawInt ((i:Int)+1))))).get? it=some (Ff (.int nx 0) (i+1) a es.size ep):=we _ g1 rfl
 exact si ⟨_,rfl,si (hQ _ g2 ((xm ..).trans (xm ..)))⟩
theorem Q7 {f:Value}{i n k:Nat}{v:Value}{Q:Option Value->Shared->Prop}(hh:A.handled=none)(hit:s.heap.get? it=some (Ff f i a n ep))(hk:k<5)
  (hQ:∀h',Heap.ExtBut it s.heap h'->Q none {s with heap:=h'}):
  wpAny (model prog w) A.in1 (do setField (.ref it) k v;raiseNew (←newExc (.type "StopIteration") [])) (λfin s'=>∃u,fin=Fin.done (Flow.ret u)/\wpAny (model prog w) A (pure (some u)) Q E s')
   (λe s'=>wpAny (model prog w) A (do if ←isInstance e (.type "StopIteration") then pure none else throw e) Q E s') s:=by
 refine se (Aaj hit rfl (by simpa using hk) ?_)
 refine se ?_
 simp only[newExc,newTuple]
 refine se (wd ?_ (by size_fits))
 refine se (m:=firstArgMember _ _) (wpAny_of_eq (a:=Value.none) (by first|rfl|(simp only[firstArgMember];rfl)) ?_)
 refine wd ?_ (by size_fits)
 simp only[raiseNew]
 refine se (wpAny_handled ?_)
 rw[show A.in1.handled=none from hh]
 refine se (si (wpAny_throw ?_))
 refine se (x8 (T:="StopIteration") (b:=true) ⟨_,t9 _ rfl,rfl⟩ isSubtype_stop ?_)
 exact si (hQ _ (((xm ..).extBut.push _).push _))
theorem ae {slot i:Nat}{Q:Option Value->Shared->Prop}(hh:A.handled=none)(hit:s.heap.get? it=some (Ff (.int slot 0) i a es.size ep))(ho:s.heap.get? a=some (Bw es ep t))(P:Xq w es t)
  (hx:∀(A':Around)(Q':Option (Value×Nat)->Shared->Prop)(E':Value->Shared->Prop),Q' none s->wpAny (model prog w) A' (setNext a slot i ep) Q' E' s)
  (hQ:∀h',Heap.ExtBut it s.heap h'->Q none {s with heap:=h'}):wpAny (model prog w) A (pyNext (.ref it)) Q E s:=by
 unfold pyNext
 refine se (zw (wpAny_callSpecial?_slot (name:=Str.ofString "__next__") (siT hit) E4 (vj E4 (siT hit) Kx ?_ (Ml _))))
 unfold Builtin.«set_iterator.__next__»
 refine se (si (se (Abg hit rfl ?_)))
 dsimp only
 refine se (yx ho rfl P.ft ?_)
 rw[if_neg (by simp),wa,wa,wa]
 refine se (hx _ _ _ ?_)
 exact Q7 hh hit (by decide) hQ
theorem c6 {T:Addr}{js:Array Value}{i j:Nat}{x:Value}{hsh:Int}{Q:Option Value->Shared->Prop}(hit:s.heap.get? it=some (Ff (.ref T) i a es.size ep))(ho:s.heap.get? a=some (Bw es ep t))(P:Xq w es t)
  (hT:∀(A':Around)(Q':Option (Array Value)->Shared->Prop)(E':Value->Shared->Prop),Q' (some js) s->wpAny (model prog w) A' (seqItems? (.ref T)) Q' E' s) (hj:js[i]?=some (.int j 0)) (hx:es[j]?=some (hsh,x))
  (hQ:∀h',h'.get? it=some (Ff (.ref T) (i+1) a es.size ep)->Heap.SameBut it s.heap h'->Q (some x) {s with heap:=h'}):wpAny (model prog w) A (pyNext (.ref it)) Q E s:=by
 unfold pyNext
 refine se (zw (wpAny_callSpecial?_slot (name:=Str.ofString "__next__") (siT hit) E4 (vj E4 (siT hit) Kx ?_ (Ml _))))
 unfold Builtin.«set_iterator.__next__»
 refine se (si (se (Abg hit rfl ?_)))
 dsimp only
 refine se (yx ho rfl P.ft ?_)
 rw[if_neg (by simp)]
 refine se (hT _ _ _ ?_)
 dsimp only
 rw[wa,hj]
 dsimp only
 unfold setNextDrawn
 rw[wa,wa]
 refine se (se (wc ho rfl P.ft ?_))
 dsimp only
 rw[if_neg (by simp),hx]
 dsimp only
 refine si (se (Aaj hit rfl (by simp) ?_))
 have g1:(s.heap.update it (Obj.mapFields (·.setIfInBounds 1 (rawInt ((i:Int)+1))))).get? it=some (Ff (.ref T) (i+1) a es.size ep):=we _ hit rfl
 exact si ⟨_,rfl,si (hQ _ g1 (xm ..))⟩
theorem Yo {T:Addr}{js:Array Value}{i:Nat}{Q:Option Value->Shared->Prop}(hh:A.handled=none)(hit:s.heap.get? it=some (Ff (.ref T) i a es.size ep))(ho:s.heap.get? a=some (Bw es ep t))(P:Xq w es t)
  (hT:∀(A':Around)(Q':Option (Array Value)->Shared->Prop)(E':Value->Shared->Prop),Q' (some js) s->wpAny (model prog w) A' (seqItems? (.ref T)) Q' E' s) (hj:js[i]?=none)
  (hQ:∀h',Heap.ExtBut it s.heap h'->Q none {s with heap:=h'}):wpAny (model prog w) A (pyNext (.ref it)) Q E s:=by
 unfold pyNext
 refine se (zw (wpAny_callSpecial?_slot (name:=Str.ofString "__next__") (siT hit) E4 (vj E4 (siT hit) Kx ?_ (Ml _))))
 unfold Builtin.«set_iterator.__next__»
 refine se (si (se (Abg hit rfl ?_)))
 dsimp only
 refine se (yx ho rfl P.ft ?_)
 rw[if_neg (by simp)]
 refine se (hT _ _ _ ?_)
 dsimp only
 rw[wa,hj]
 dsimp only
 refine se (Aaj hit rfl (by simp) ?_)
 have g1:(s.heap.update it (Obj.mapFields (·.setIfInBounds 0 (rawInt 0)))).get? it=some (Ff (rawInt 0) i a es.size ep):=we _ hit rfl
 exact Q7 (s:={s with heap:=s.heap.update it (Obj.mapFields (·.setIfInBounds 0 (rawInt 0)))}) hh g1 (by decide) λh' x=>hQ h' λb o hb e=>x b o hb ((xm ..).extBut b o hb e)
end
theorem U1:Slot "set_iterator" "__iter__" "set_iterator.__iter__":=
 .of (owner:="set_iterator") (n:="__iter__") (by rw[typeLookup_type,builtinLookup_eq_fast];kernel_rfl) (by decide+kernel) (by decide+kernel) (by decide+kernel) (.inl (by decide+kernel)) (by rw[isSubtype_type];kernel_rfl)
theorem Zn:entryFor table "set_iterator.__iter__"=some Builtin.«dict_keyiterator.__iter__»:=entryFor_alias (id':="dict_keyiterator.__iter__") (by kernel_rfl) rfl (by decide+kernel) (by kernel_rfl)
theorem dc (a:Value):argsOk "set_iterator.__iter__" ⟨[a],[]⟩:=by
 unfold argsOk
 rw[signature?_of (id:="set_iterator.__iter__") (n:=['_','_','r','e','t','i','_','_']) (o:=['r','o','t','a','r','e','t','i','_','t','e','s']) (by kernel_rfl) e8]
 kernel_rfl
section
variable {prog:Program}{w:World}{A:Around}{E:Value->Shared->Prop}{s:Shared}{a it:Addr}{es:Array (Int×Value)}{ep:Nat}{t:SetTable}{ds:List Int}
theorem Yp {f:Value}{i n:Nat}{Q:Value->Shared->Prop}(hit:s.heap.get? it=some (Ff f i a n ep))(h:Q (.ref it) s):wpAny (model prog w) A (pyIter (.ref it)) Q E s:=by
 refine wpAny_pyIter_slot (siT hit) U1 (vj U1 (siT hit) Zn ?_ (dc _))
 show wpAny _ _ (ret (.ref it)) _ _ s
 exact si ⟨_,rfl,"set_iterator",_,siT hit,E4.lookup,h⟩
theorem mm (ho:s.heap.get? a=some (Bw es ep t)):s.TypeIs (.ref a) "set":=⟨_,ho,rfl⟩
theorem Vb {Q:Bool->Shared->Prop}(hT:s.TypeIs (.ref a) "set")(h:Q false s):wpAny (model prog w) A (Builtin.List.listLengthHint (.ref a)) Q E s:=by
 unfold Builtin.List.listLengthHint
 refine se (x6 hT PySem.F.slot_set_len.lookup ?_)
 generalize hid:("set.__len__":String)=id0
 wp_delta
 rw[show splitId id0=some ("set","__len__") from by subst hid;decide+kernel]
 subst hid
 refine se (x8 (T:="set") (b:=true) hT (by rw[isSubtype_type];kernel_rfl) ?_)
 refine xa (λz=>absurd z (by decide)) (λ_=>?_)
 refine xa (λ_=>?_) (λz=>absurd (by decide+kernel) z)
 refine se (Aa1 hT ?_)
 exact si h
def Drawn (w:World)(es:Array (Int×Value))(t:SetTable):Prop:=Qk w=true/\t.plain=false/\1<es.size
theorem Vr {Q:Value->Shared->Prop}(ho:s.heap.get? a=some (Bw es ep t))(P:Xq w es t)
  (h1:¬Drawn w es t->Q (.ref s.heap.objs.size) {s with heap:=s.heap.push (Ff (.int 0 0) 0 a es.size ep)})
  (h2:Drawn w es t->∀(js:List Nat)dr,js.Perm (List.range es.size)->Q (.ref (s.heap.objs.size+1)) {s with heap:=(s.heap.push {cls:=.type "tuple",data:=.seq (js.map λ(i:Nat)=>rawInt i).toArray}).push (Ff (.ref s.heap.objs.size) 0 a es.size ep),drawn:=dr}):
  wpAny (model prog w) A (pyIter (.ref a)) Q E s:=by
 refine wpAny_pyIter_slot (mm ho) PySem.F.slot_set_iter (vj PySem.F.slot_set_iter (mm ho) Xb ?_ (PySem.F.args_set_iter_1 _))
 unfold Builtin.«frozenset.__iter__»
 refine se (si ?_)
 refine se (se (yx ho rfl P.ft (si ?_)))
 refine se ?_
 unfold setDrawn
 refine se (wc ho rfl P.ft ?_)
 dsimp only
 unfold setsByText
 refine se (se (yw (si (si ?_))))
 show wpAny _ _ (if(!w.params.followText "set-order"&&(!t.plain&&decide (es.size>1)))=true then _ else _) _ _ _
 refine xa (λz=>?_) (λz=>?_)
 ·
  rw[vh,vh] at z
  have hD:Drawn w es t:=⟨z.1,by simpa using z.2.1,tw z.2.2⟩
  refine se (X4 es.size _ _ vw λjs dr hp=>se (wpAny_newTuple ?_ ?_))
  ·
   refine se (wpAny_setEpoch_of (sj _ ho) rfl P.ft ?_)
   have hs:(s.heap.push {cls:=.type "tuple",data:=.seq (js.map λ(i:Nat)=>rawInt i).toArray}).objs.size=s.heap.objs.size+1:=wz ..
   refine se (wd (si ⟨_,rfl,"set_iterator",_,⟨_,t9 _ rfl,rfl⟩,E4.lookup,?_⟩))
   have q:=h2 hD js dr hp
   rw[←hs] at q
   exact q
  ·
   rw[sf,hp.length_eq,vw]
   exact fits_of_scanBound P.sz
 ·
  refine se (si ?_)
  refine se (wpAny_setEpoch_of ho rfl P.ft ?_)
  refine se (wd (si ⟨_,rfl,"set_iterator",_,⟨_,t9 _ rfl,rfl⟩,E4.lookup,?_⟩))
  refine h1 λhD=>z ?_
  rw[vh,vh]
  exact⟨hD.1,by rw[hD.2.1];rfl,so hD.2.2⟩
theorem b5 (hh:A.handled=none)(I:Addr)(hne:a≠I)(P:Xq w es t)(xs:Array (Int×Value))(sl:Nat->Nat)(hz:xs.size=es.size)
  (hnx:∀(s':Shared)(i:Nat),s'.heap.get? a=some (Bw es ep t)->i<=es.size->∀(A':Around)(Q':Option (Value×Nat)->Shared->Prop)(E':Value->Shared->Prop),Q' ((xs[i]?).map λe=>(e.2,sl (i+1))) s'->wpAny (model prog w) A' (setNext a (sl i) i ep) Q' E' s'):
  Walks prog w A I [I,a] [I] es.size (λi v=>∃e,xs[i]?=some e/\v=e.2) (λi h=>h.get? I=some (Ff (.int (sl i) 0) i a es.size ep)/\h.get? a=some (Bw es ep t)) where
 sub:=λb hb=>by simp at hb;simp[hb]
 frame:=λ_ _ _ st hk=>⟨hk I (by simp) _ st.1,hk a (by simp) _ st.2⟩
 item:=λi s Q E hi st hQ=>by
  have hx:xs[i]?=some (xs[i]'(by lia)):=tu (by lia)
  refine cg (x:=(xs[i]'(by lia)).2) (nx:=sl (i+1)) st.1 st.2 P (λA' Q' E' q=>hnx s i st.2 (by lia) A' Q' E' (by rw[hx];exact q)) λh' g sb=>?_
  exact hQ _ h' s.toks ⟨_,hx,rfl⟩ ⟨g,(sb.2 a hne).trans st.2⟩ λb o hb e=>(sb.2 b (λz=>hb (by simp[z]))).trans e
 done:=λs Q E st hQ=>ae hh st.1 st.2 P (λA' Q' E' q=>hnx s es.size st.2 (tq _) A' Q' E' (by rw[wk (by lia)];exact q)) λh' x=>hQ h' s.toks λb o hb e=>x b o (λz=>hb (by simp[z])) e
 self:=λ_ _ _ _ st hQ=>Yp st.1 hQ
def pk (t:SetTable):Nat->Nat
 | 0=>0
 | k+1=>t.place.getD k 0+1
theorem gw (P:Xq w es t)(hD:¬Drawn w es t):∃xs:Array (Int×Value),xs.toList.Perm es.toList/\KdlSrc prog w "set" a a es.size (λi v=>∃e,xs[i]?=some e/\v=e.2) (λh=>h.get? a=some (Bw es ep t)):=by
 have mk:∀(xs:Array (Int×Value))(sl:Nat->Nat),sl 0=0->xs.toList.Perm es.toList->
   (∀(s':Shared)(i:Nat),s'.heap.get? a=some (Bw es ep t)->i<=es.size->∀(A':Around)(Q':Option (Value×Nat)->Shared->Prop)(E':Value->Shared->Prop),Q' ((xs[i]?).map λe=>(e.2,sl (i+1))) s'->wpAny (model prog w) A' (setNext a (sl i) i ep) Q' E' s')->
   KdlSrc prog w "set" a a es.size (λi v=>∃e,xs[i]?=some e/\v=e.2) (λh=>h.get? a=some (Bw es ep t)):=λxs sl h0 hp hnx=>
  {
   type:=λs h=>mm h
   there:=λh e=>⟨sr e,sr e⟩
   keep:=λh h' e k=>k a (.inl rfl) _ e
   notList:=by decide
   notTuple:=by decide
   hint:=λA E s Q h q=>Vb (mm h) q
   iter:=λA s hh h=>⟨Ff (.int 0 0) 0 a es.size ep,_,λE Q q=>Vr h P (λ_=>q) (λz=>absurd z hD),b5 hh _ (ug (sr h)) P xs sl (by rw[←sv,hp.length_eq,sv]) hnx,by rw[h0];exact t9 _ rfl,sj _ h⟩}
 cases hb:Qk w with
 |
  false=>
  refine⟨_,Rj (w.params.setOrder a ep) es,mk _ (λ_=>0) rfl (Rj _ es) λs' i ho hi A' Q' E' q=>df ho P hb q⟩
 |
  true=>
  have hf:=P.ft
  simp only[SetTable.fits,vh,beq_iff_eq,zy] at hf
  refine⟨es,.refl _,mk es (pk t) rfl (.refl _) λs' i ho hi A' Q' E' q=>dk ho P hb (λz=>hD ⟨hb,z⟩) ?_⟩
  have hbl:SetTable.below t.place (pk t i)=i:=by
   cases i with
   | zero=>exact Xc P.tb.1
   |
    succ k=>
    have hk:k<t.place.size:=by lia
    have e:t.place[k]?=some (t.place[k]):=tu hk
    have eg:t.place.getD k 0=t.place[k]:=by unfold Array.getD;rw[dif_pos hk];rfl
    show SetTable.below t.place (t.place.getD k 0+1)=k+1
    rw[eg]
    exact V7 P.tb.1 e
  rw[hbl]
  rcases xn i es.size with hl|hl
  ·
   have hk:i<t.place.size:=by lia
   have eg:t.place.getD i 0=t.place[i]:=by unfold Array.getD;rw[dif_pos hk];rfl
   rw[tu hl] at q ⊢
   rw[tu hk]
   have q':Q' (some ((es[i]).2,t.place.getD i 0+1)) s':=q
   rw[eg] at q'
   exact q'
  ·
   rw[wk hl] at q ⊢
   exact q
end
def Il (js:List Nat):Obj:={cls:=.type "tuple",data:=.seq (js.map λ(i:Nat)=>rawInt i).toArray}
section
variable {prog:Program}{w:World}{A:Around}{E:Value->Shared->Prop}{s:Shared}{a it:Addr}{es:Array (Int×Value)}{ep:Nat}{t:SetTable}{ds:List Int}
theorem cw (hh:A.handled=none)(I T:Addr)(hne:a≠I)(hnT:T≠I)(P:Xq w es t){js:List Nat}(hp:js.Perm (List.range es.size)):
  Walks prog w A I [I,a,T] [I] es.size (λi v=>∃j e,js[i]?=some j/\es[j]?=some e/\v=e.2) (λi h=>h.get? I=some (Ff (.ref T) i a es.size ep)/\h.get? a=some (Bw es ep t)/\h.get? T=some (Il js)) where
 sub:=λb hb=>by simp at hb;simp[hb]
 frame:=λ_ _ _ st hk=>⟨hk I (by simp) _ st.1,hk a (by simp) _ st.2.1,hk T (by simp) _ st.2.2⟩
 item:=λi s Q E hi st hQ=>by
  have hl:js.length=es.size:=by rw[hp.length_eq,vw]
  have hj:js[i]?=some (js[i]'(by lia)):=vq (by lia)
  have hm:js[i]'(by lia)<es.size:=vb.mp (hp.mem_iff.mp (xk _))
  have hx:es[js[i]'(by lia)]?=some (es[js[i]'(by lia)]):=tu hm
  refine c6 (js:=(js.map λ(i:Nat)=>rawInt i).toArray) (j:=js[i]'(by lia)) (x:=(es[js[i]'(by lia)]).2) (hsh:=(es[js[i]'(by lia)]).1) st.1 st.2.1 P (λA' Q' E' q=>Abf st.2.2 rfl q) ?_ hx λh' g sb=>?_
  ·
   rw[ze,ur,hj]
   rfl
  · exact hQ _ h' s.toks ⟨_,_,hj,hx,rfl⟩ ⟨g,(sb.2 a hne).trans st.2.1,(sb.2 T hnT).trans st.2.2⟩ λb o hb e=>(sb.2 b (λz=>hb (by simp[z]))).trans e
 done:=λs Q E st hQ=>by
  have hl:js.length=es.size:=by rw[hp.length_eq,vw]
  refine Yo (js:=(js.map λ(i:Nat)=>rawInt i).toArray) hh st.1 st.2.1 P (λA' Q' E' q=>Abf st.2.2 rfl q) ?_ λh' x=>hQ h' s.toks λb o hb e=>x b o (λz=>hb (by simp[z])) e
  rw[ze,ur,zf (by lia)]
  rfl
 self:=λ_ _ _ _ st hQ=>Yp st.1 hQ
theorem Yf {acc:Array Value}{n:Nat}{xs:List (Int×Value)}(hn:xs.length=n)(h:ItemsOf (λi v=>∃e,xs[i]?=some e/\v=e.2) acc n):acc.toList=xs.map (·.2):=by
 apply List.ext_getElem?
 intro i
 rw[ur]
 have hz:acc.toList.length=n:=by rw[sv];exact h.1
 rcases xn i n with hi|hi
 ·
  have e1:acc.toList[i]?=some (acc.toList[i]'(by lia)):=vq (by lia)
  obtain⟨e,he,hv⟩:=h.2 i _ (by rw[←t7];exact e1)
  rw[e1,he,hv]
  rfl
 ·
  rw[zf (by lia),zf (by lia)]
  rfl
theorem Tv {es:Array (Int×Value)}:∀{js:List Nat},(∀j∈js,j<es.size)->∃xs:List (Int×Value),xs=js.filterMap (λj=>es[j]?)/\xs.length=js.length/\∀(i j:Nat),js[i]?=some j->xs[i]?=es[j]?
 | [],_=>⟨[],rfl,rfl,λi j h=>by cases h⟩
 |
  k::js,h=>by
  obtain⟨xs,e,hl,hx⟩:=Tv (js:=js) λj hj=>h j (sq _ hj)
  have hk:es[k]?=some (es[k]'(h k (sk ..))):=tu _
  refine⟨es[k]'(h k (sk ..))::xs,by rw[yq hk,e],by rw[t5,t5,hl],λi j hj=>?_⟩
  cases i with
  |
   zero=>
   have:k=j:=sy hj
   subst this
   exact hk.symm
  | succ i=>exact hx i j hj
theorem Ud {Q:List Value->Shared->Prop}(ho:s.heap.get? a=some (Bw es ep t))(P:Xq w es t)(hh:A.handled=none)
  (h:∀h' tk dr(xs:List (Int×Value)),(∀b o,s.heap.get? b=some o->h'.get? b=some o)->s.heap.objs.size<=h'.objs.size->xs.Perm es.toList->Q (xs.map (·.2)) {s with heap:=h',toks:=tk,drawn:=dr}):wpAny (model prog w) A (collect (.ref a)) Q E s:=by
 have hz:es.size<=sizeLine:=fits_of_scanBound P.sz
 by_cases hD:Drawn w es t
 ·
  unfold collect
  refine se (wpAny_runValue (xl entry_proto_collect' ?_))
  show wpAny _ _ (do again (.builtin "list.__iadd__" ⟨[←newList [],.ref a],[]⟩)) _ _ s
  refine se (y9 (si ⟨Aah _ (by decide+kernel),xl entry_list_iadd' ?_⟩))
  show wpAny _ _ (Builtin.List.listExtendWith (.ref s.heap.objs.size) (.ref a) (.ref s.heap.objs.size)) _ _ {s with heap:=s.heap.push (seqObj "list" #[] 0)}
  have hS0:(s.heap.push (seqObj "list" #[] 0)).get? s.heap.objs.size=some {cls:=.type "list",data:=.seq #[] 0}:=t9 _ rfl
  have ho1:(s.heap.push (seqObj "list" #[] 0)).get? a=some (Bw es ep t):=sj _ ho
  have haS:s.heap.objs.size≠a:=xw (sr ho)
  rw[yr PySem.F.plain_list_iadd _]
  unfold Builtin.List.listExtendWith
  refine se (Aa1 (T:="set") ⟨_,ho1,rfl⟩ ?_)
  have e1:Builtin.List.listSameRef (.ref s.heap.objs.size) (.ref a)=false:=by simp[Builtin.List.listSameRef,haS]
  have e2:(Value.type "set"==Value.type "list")=false:=by decide
  have e3:(Value.type "set"==Value.type "tuple")=false:=by decide
  simp only[e1,e2,e3,Bool.or_false,u4,xu]
  refine se (Vr ho1 P (λz=>absurd hD z) λ_ js dr hp=>?_)
  have hsz:(s.heap.push (seqObj "list" #[] 0)).objs.size=s.heap.objs.size+1:=wz ..
  rw[hsz]
  have hI:s.heap.objs.size+1+1=s.heap.objs.size+2:=rfl
  have hT1:((s.heap.push (seqObj "list" #[] 0)).push (Il js)).get? (s.heap.objs.size+1)=some (Il js):=by rw[←hsz];exact t9 _ rfl
  have hsz2:((s.heap.push (seqObj "list" #[] 0)).push (Il js)).objs.size=s.heap.objs.size+1+1:=by rw[wz,hsz]
  have hI1:(((s.heap.push (seqObj "list" #[] 0)).push (Il js)).push (Ff (.ref (s.heap.objs.size+1)) 0 a es.size ep)).get? (s.heap.objs.size+1+1)=some (Ff (.ref (s.heap.objs.size+1)) 0 a es.size ep):=by rw[←hsz2];exact t9 _ rfl
  have hla:=sr ho
  have W:=cw (prog:=prog) (w:=w) (A:=A.in1) (ep:=ep) hh (s.heap.objs.size+1+1) (s.heap.objs.size+1) (a:=a) (ug (wo (wo hla))) (ug (vt _)) P hp
  have hSf:s.heap.objs.size∉[s.heap.objs.size+1+1,a,s.heap.objs.size+1]:=by
   simp only[uq,ym,or_false,not_or]
   exact⟨ug (wo (vt _)),haS,ug (vt _)⟩
  have key:∀(R:Result->Shared->Prop),(∀h' tk(acc:Array Value)c',(∀b o,s.heap.get? b=some o->h'.get? b=some o)->h'.get? s.heap.objs.size=some {cls:=.type "list",dict:=none,data:=.seq acc c',slots:=#[]}->ItemsOf (λi v=>∃j e,js[i]?=some j/\es[j]?=some e/\v=e.2) acc es.size->R (.ok (.ret (.ref s.heap.objs.size))) {s with heap:=h',toks:=tk,drawn:=dr})->
    ∀(hp':Heap)(c₁ tk:Nat),(hp'.get? (s.heap.objs.size+1+1)=some (Ff (.ref (s.heap.objs.size+1)) 0 a es.size ep)/\hp'.get? a=some (Bw es ep t)/\hp'.get? (s.heap.objs.size+1)=some (Il js))->(∀b o,s.heap.get? b=some o->hp'.get? b=some o)->
    hp'.get? s.heap.objs.size=some {cls:=.type "list",data:=.seq #[] c₁}->codeAny (model prog w) A (.builtin "list.extend.loop" ⟨[.ref s.heap.objs.size,.ref (s.heap.objs.size+1+1),.ref s.heap.objs.size],[]⟩) R {s with heap:=hp',toks:=tk,drawn:=dr}:=by
   intro R hR hp' c₁ tk st kp hS₁
   refine codeAny_extend_loopS W.toS hz s.heap.objs.size hSf _ es.size 0 _ #[] c₁ rfl (u5 _) st hS₁ (ItemsOf.nil _) λs' acc' c' hm hS' hacc=>?_
   rw[Moved.eq_with hm]
   refine hR s'.heap s'.toks acc' c' (λb o e=>hm.heap b o (λhmem=>?_) (kp b o e)) hS' hacc
   have hb:=sr e
   rcases uq.mp hmem with e'|hmem
   · exact absurd hb (by rw[e'];exact vv _)
   · exact absurd hb (by rw[List.mem_singleton.mp hmem];exact Nat.not_lt.mpr (Nat.le_succ_of_le (y6 _)))
  have fin:∀h' tk(acc:Array Value)c',(∀b o,s.heap.get? b=some o->h'.get? b=some o)->h'.get? s.heap.objs.size=some {cls:=.type "list",dict:=none,data:=.seq acc c',slots:=#[]}->ItemsOf (λi v=>∃j e,js[i]?=some j/\es[j]?=some e/\v=e.2) acc es.size->Q acc.toList {s with heap:=h',toks:=tk,drawn:=dr}:=by
   intro h' tk acc c' kp hS' ia
   obtain⟨xs,e,hl,hx⟩:=Tv (es:=es) (js:=js) λj hj=>vb.mp (hp.mem_iff.mp hj)
   have hjl:js.length=es.size:=by rw[hp.length_eq,vw]
   have hpx:xs.Perm es.toList:=by
    rw[e]
    refine(hp.filterMap _).trans ?_
    rw[filterMap_getElem?_range]
   have ea:=Yf (hl.trans hjl) ⟨ia.1,λi v hv=>by obtain⟨j,e,hj,he,z⟩:=ia.2 i v hv;exact⟨e,by rw[hx i j hj];exact he,z⟩⟩
   rw[ea]
   exact h h' tk dr xs kp (zc (sr hS')) hpx
  have kp2:∀b o,s.heap.get? b=some o->(((s.heap.push (seqObj "list" #[] 0)).push (Il js)).push (Ff (.ref (s.heap.objs.size+1)) 0 a es.size ep)).get? b=some o:=λb o e=>sj _ (sj _ (sj _ e))
  have hS2:(((s.heap.push (seqObj "list" #[] 0)).push (Il js)).push (Ff (.ref (s.heap.objs.size+1)) 0 a es.size ep)).get? s.heap.objs.size=some {cls:=.type "list",data:=.seq #[] 0}:=sj _ (sj _ hS0)
  show wpAny (model prog w) A.in1 _ _ _ {s with heap:=((s.heap.push (seqObj "list" #[] 0)).push (Il js)).push (Ff (.ref (s.heap.objs.size+1)) 0 a es.size ep),drawn:=dr}
  refine se (vn (Vb ⟨_,kp2 _ _ ho,rfl⟩ ?_))
  have all:∀(
        hp':Heap) (c₁ tk:Nat),(hp'.get? (s.heap.objs.size+1+1)=some (Ff (.ref (s.heap.objs.size+1)) 0 a es.size ep)/\hp'.get? a=some (Bw es ep t)/\hp'.get? (s.heap.objs.size+1)=some (Il js))->(∀b o,s.heap.get? b=some o->hp'.get? b=some o)->
    hp'.get? s.heap.objs.size=some {cls:=.type "list",data:=.seq #[] c₁}->codeAny (model prog w) A (.builtin "list.extend.loop" ⟨[.ref s.heap.objs.size,.ref (s.heap.objs.size+1+1),.ref s.heap.objs.size],[]⟩) (λr s'=>
      match r with
      |
       Except.ok (Flow.ret v)=>
       wpAny (model prog w) A (match v with
        |
         .ref a=>do match (←load a).data with
         | .seq xs _=>pure xs.toList
         | _=>unsupported "internal:collect"
        | _=>unsupported "internal:collect") Q E s'
      | Except.ok _=>False
      | Except.error e=>E e s') {s with heap:=hp',toks:=tk,drawn:=dr}:=key _ λh' tk acc c' kp hS' ia=>by
    show wpAny (model prog w) A (do
     let o ←load s.heap.objs.size
     match o.data with
     | .seq xs _=>pure xs.toList
     | _=>unsupported "internal:collect") Q E {s with heap:=h',toks:=tk,drawn:=dr}
    exact se (wpAny_load hS' (si (fin h' tk acc c' kp hS' ia)))
  refine xa (λ_=>?_) (λ_=>si ⟨plainId_quiet PySem.F.plain_extend_loop _,all _ 0 s.toks ⟨hI1,kp2 _ _ ho,sj _ hT1⟩ kp2 hS2⟩)
  refine se (wpAny_rule (se ?_))
  show wpAny _ _ (updateSeq s.heap.objs.size (·.push .none)>>= λ_=>updateSeq s.heap.objs.size (·.pop)) _ _ _
  refine se (wpAny_updateSeq hS2 rfl ?_)
  have g2:=we (Obj.mapSeq (·.push Value.none)) hS2 rfl
  refine wpAny_updateSeq (hz:=by seq_fits) g2 rfl ?_
  have g3:=we (Obj.mapSeq (·.pop)) g2 rfl
  have oth:∀b o,b≠s.heap.objs.size->(((s.heap.push (seqObj "list" #[] 0)).push (Il js)).push (Ff (.ref (s.heap.objs.size+1)) 0 a es.size ep)).get? b=some o->(((((s.heap.push (seqObj "list" #[] 0)).push (Il js)).push (Ff (.ref (s.heap.objs.size+1)) 0 a es.size ep)).update s.heap.objs.size (Obj.mapSeq (·.push Value.none))).update s.heap.objs.size (Obj.mapSeq (·.pop))).get? b=some o:=
   λb o hb e=>(zh _ _ (zg hb)).trans ((zh _ _ (zg hb)).trans e)
  refine si ⟨plainId_quiet PySem.F.plain_extend_loop _,all _ _ s.toks ⟨oth _ _ (xw (wo (vt _))) hI1,oth _ _ haS.symm (kp2 _ _ ho),oth _ _ (xw (vt _)) (sj _ hT1)⟩ (λb o e=>oth b o (ug (sr e)) (kp2 b o e)) g3⟩
 ·
  obtain⟨xs,hp,K⟩:=gw (a:=a) (ep:=ep) P hD
  refine Na K hh ho hz λh' tk acc kp hge ia=>?_
  have hl:xs.toList.length=es.size:=by rw[hp.length_eq,sv]
  have e:=Yf hl ⟨ia.1,λi v hv=>by obtain⟨e,he,z⟩:=ia.2 i v hv;exact⟨e,by rw[t7];exact he,z⟩⟩
  rw[e]
  have q:=h h' tk s.drawn xs.toList kp hge hp
  exact q
end
end L2
namespace L2
open PySem PySem.W PyProof.Rows
open PySem.SetTable (Probe Met)
def tm (m:Nat):SetTable:={mask:=m,place:=#[],dummies:=#[],finger:=0,led:=false,moves:=0,plain:=false}
theorem Vj {m:Nat}{ow:Array (Option Nat)}:∀(fuel:Nat)(x:Nat×Nat)(p:Probe)(j:Nat),Rs m p->p.i=x.1->p.perturb=x.2->SetTable.layClean.free m ow fuel x.1 x.2=some j->
  ∃K,K<10*fuel/\(adv (tm m) K p).j=j/\∀k,k<K->(ow.getD (adv (tm m) k p).j (some 0)).isNone=false
 | 0,x,p,j,_,_,_,h=>nomatch h
 |
  fuel+1,x,p,j,hr,h1,h2,h=>by
  unfold SetTable.layClean.free at h
  have hl:p.more<=9:=by rw[hr.2];exact ez _ _
  have rn:SetTable.runEnd m x.1+1-x.1=p.more+1:=by rw[hr.2,h1];unfold SetTable.runEnd;split<;>lia
  have ra:∀k,k<=p.more->(adv (tm m) k p).j=x.1+k:=λk hk=>by
   rw[Qa _ _ _ hk]
   show p.j+k=_
   rw[hr.1,h1]
  rw[rn] at h
  cases hf:(List.range (p.more+1)).find? λk=>(ow.getD (x.1+k) (some 0)).isNone with
  |
   some k=>
   rw[hf] at h
   have h:=sy h
   have hm:=vb.mp (List.mem_of_find?_eq_some hf)
   obtain⟨_,as,bs,e1,e2⟩:=List.find?_eq_some_iff_append.mp hf
   refine⟨k,by lia,by rw[ra k (by lia)];exact h,λk' hk'=>?_⟩
   rw[ra k' (by lia)]
   have hk'm:k'∈as:=by
    have z:k'∈List.range (p.more+1):=vb.mpr (by lia)
    rw[e1] at z
    rcases uh.mp z with z|z
    · exact z
    ·
     exfalso
     have pw:(as++k::bs).Pairwise (· < ·):=e1▸Aal
     have pw:=(wg.mp pw).2.1
     rcases uq.mp z with z|z
     · lia
     ·
      have:=(zt.mp pw).1 _ z
      lia
   have:=e2 k' hk'm
   simpa using this
  |
   none=>
   rw[hf] at h
   have hn:=List.find?_eq_none.mp hf
   obtain⟨n1,n2,n3,n4⟩:=Vs (t:=tm m) hr
   have en:adv (tm m) (p.more+1) p=(tm m).advance {p with j:=p.j+p.more,more:=p.more-p.more}:=by
    rw[Iq,Qa _ _ _ (tq _)];rfl
   have ea:(tm m).advance {p with j:=p.j+p.more,more:=p.more-p.more}={p with j:=(SetTable.leap m p.i p.perturb).1,more:=SetTable.runEnd m (SetTable.leap m p.i p.perturb).1-(SetTable.leap m p.i p.perturb).1,i:=(SetTable.leap m p.i p.perturb).1,perturb:=(SetTable.leap m p.i p.perturb).2}:=by
    unfold SetTable.advance
    rw[if_neg (by show ¬p.more-p.more>0;lia)]
    rfl
   rw[ea] at en
   have h:SetTable.layClean.free m ow fuel (SetTable.leap m x.1 x.2).1 (SetTable.leap m x.1 x.2).2=some j:=h
   rw[←h1,←h2] at h
   obtain⟨K,k1,k2,k3⟩:=Vj fuel (SetTable.leap m p.i p.perturb) ({p with j:=(SetTable.leap m p.i p.perturb).1,more:=SetTable.runEnd m (SetTable.leap m p.i p.perturb).1-(SetTable.leap m p.i p.perturb).1,i:=(SetTable.leap m p.i p.perturb).1,perturb:=(SetTable.leap m p.i p.perturb).2}) j ⟨rfl,rfl⟩ rfl rfl h
   refine⟨p.more+1+K,by lia,by rw[Iq,en];exact k2,λk hk=>?_⟩
   by_cases hk':k<p.more+1
   ·
    rw[ra k (by lia)]
    exact yd.mpr (hn k (vb.mpr hk'))
   ·
    rw[show k=p.more+1+(k-(p.more+1)) by lia,Iq,en]
    exact k3 _ (by lia)
def mq (m:Nat)(ow:Array (Option Nat))(h:Int)(j:Nat):Prop:=∃K,K<10*SetTable.turns m/\(adv (tm m) K ((tm m).probeStart h)).j=j/\∀k,k<K->ow.getD (adv (tm m) k ((tm m).probeStart h)).j none≠none
theorem ij {m:Nat}(hc:Cyc m)(hashes:Array Int)(hn:hashes.size<=m):∃ow:Array (Option Nat),SetTable.layClean m hashes=some ow/\ow.size=m+1/\(occ m ow).Perm (List.range hashes.size)/\∀j k h,ow.getD j none=some k->hashes[k]?=some h->mq m ow h j:=by
 have go:∀(l done:List Int)(ow:Array (Option Nat))(k:Nat),done.length=k->ow.size=m+1->(occ m ow).Perm (List.range k)->k+l.length<=m->(∀j k h,ow.getD j none=some k->done[k]?=some h->mq m ow h j)->
   ∃ow',l.foldl (λacc h=>do
    let (owner,k) ←acc
    let j ←SetTable.layClean.free m owner (SetTable.turns m) (SetTable.bits h%(m+1)) (SetTable.bits h)
    pure (owner.setIfInBounds j (some k),k+1)) (some (ow,k))=some (ow',k+l.length)/\ow'.size=m+1/\(occ m ow').Perm (List.range (k+l.length))/\∀j k h,ow'.getD j none=some k->(done++l)[k]?=some h->mq m ow' h j:=by
  intro l
  induction l with
  | nil=>intro done ow k _ h1 h2 _ h4;exact⟨ow,rfl,h1,h2,by rw[xg];exact h4⟩
  |
   cons h l ih=>
   intro done ow k h0 h1 h2 h3 h4
   rw[t5] at h3
   obtain⟨j0,hj0,he0⟩:=cf h1 (show k<=m by lia) (by rw[h2.length_eq,vw])
   obtain⟨j,ej,he⟩:=X0 (h:=h) hc hj0 he0
   obtain⟨hs,hg⟩:=iw he
   have p2:(occ m (ow.setIfInBounds j (some k))).Perm (List.range (k+1)):=by
    refine(ic h1 hs hg).trans ?_
    rw[List.range_succ]
    exact(List.Perm.cons k h2).trans (List.perm_append_singleton k _).symm
   have gj:(ow.setIfInBounds j (some k)).getD j none=some k:=by
    rw[uf,Array.getElem?_setIfInBounds_self_of_lt hs]
    rfl
   have gn:∀{i:Nat},i≠j->(ow.setIfInBounds j (some k)).getD i none=ow.getD i none:=λ{i}hi=>by
    rw[uf,uf,Array.getElem?_setIfInBounds_ne (zg hi)]
   have up:∀{i:Nat},ow.getD i none≠none->(ow.setIfInBounds j (some k)).getD i none≠none:=λ{i}z=>by
    by_cases e:i=j
    · rw[e,gj];exact λy=>nomatch y
    · rw[gn e];exact z
   have w4:∀j' k' h',(ow.setIfInBounds j (some k)).getD j' none=some k'->(done++[h])[k']?=some h'->mq m (ow.setIfInBounds j (some k)) h' j':=λj' k' h' z1 z2=>by
    by_cases e:j'=j
    ·
     subst e
     rw[gj] at z1
     injection z1 with z1
     subst z1
     rw[ye (by lia),h0,Abk] at z2
     have z2:h=h':=sy z2
     subst z2
     obtain⟨K,a1,a2,a3⟩:=Vj (m:=m) (SetTable.turns m) (SetTable.bits h%(m+1),SetTable.bits h) ((tm m).probeStart h) j' ⟨rfl,rfl⟩ rfl rfl ej
     refine⟨K,a1,a2,λk hk=>up ?_⟩
     have z:=a3 k hk
     have hi:(adv (tm m) k ((tm m).probeStart h)).j<=m:=by
      have:=(Tn (t:=tm m) k (Va (tm m) h)).2
      have e:(tm m).mask=m:=rfl
      lia
     rw[uf,tu (by lia)] at z ⊢
     intro y
     have y:ow[(adv (tm m) k ((tm m).probeStart h)).j]=none:=y
     rw[show(some (ow[(adv (tm m) k ((tm m).probeStart h)).j]'(by lia))).getD (some 0)=ow[(adv (tm m) k ((tm m).probeStart h)).j]'(by lia) from rfl,y] at z
     cases z
    ·
     rw[gn e] at z1
     have hk:k'<k:=by
      have hm:k'∈occ m ow:=by
       refine wy.mpr ⟨j',vb.mpr ?_,z1⟩
       rcases xn j' (m+1) with l|l
       · exact l
       ·
        rw[uf,wk (by lia)] at z1
        cases z1
      exact vb.mp (h2.mem_iff.mp hm)
     rw[yk (by lia)] at z2
     obtain⟨K,a1,a2,a3⟩:=h4 j' k' h' z1 z2
     exact⟨K,a1,a2,λk hk=>up (a3 k hk)⟩
   obtain⟨ow',e,a,b,c⟩:=ih (done++[h]) (ow.setIfInBounds j (some k)) (k+1) (by rw[ue,h0];rfl) (by rw[Array.size_setIfInBounds];exact h1) p2 (by lia) w4
   refine⟨ow',?_,a,by rw[t5,show k+(l.length+1)=k+1+l.length by lia];exact b,by rw[show done++h::l=done++[h]++l by simp];exact c⟩
   rw[List.foldl_cons,t5,show k+(l.length+1)=k+1+l.length by lia,←e]
   congr 1
   show(SetTable.layClean.free m ow (SetTable.turns m) (SetTable.bits h%(m+1)) (SetTable.bits h)).bind _=_
   rw[ej]
   rfl
 have z0:∀j,(Array.replicate (m+1) (none:Option Nat)).getD j none=none:=λj=>by
  rw[uf,Array.getElem?_replicate]
  split<;>rfl
 have h0:(occ m (Array.replicate (m+1) none)).Perm (List.range 0):=by
  have:occ m (Array.replicate (m+1) none)=[]:=by
   unfold occ
   exact List.filterMap_eq_nil_iff.mpr λj hj=>z0 j
  rw[this]
  exact .nil
 obtain⟨ow,e,a,b,c⟩:=go hashes.toList [] (Array.replicate (m+1) none) 0 rfl (by rw[Array.size_replicate]) h0 (by rw[sv];lia) (λj k h z=>by rw[z0] at z;cases z)
 rw[Aas,sv] at e b
 refine⟨ow,?_,a,b,λj k h z1 z2=>c j k h z1 (by rw[List.nil_append,t7];exact z2)⟩
 unfold SetTable.layClean
 rw[←Array.foldl_toList,e]
 rfl
theorem Mp {f:Nat->Option Nat}:∀(l:List Nat),((l.filterMap λj=>(f j).map (j,·)).map (·.2))=l.filterMap f
 | []=>rfl
 |
  a::l=>by
  have ih:=Mp (f:=f) l
  cases hf:f a with
  | none=>rw[Aad (by rw[hf];rfl),Aad hf];exact ih
  | some v=>rw[yq (b:=(a,v)) (by rw[hf];rfl),yq hf,um,ih]
theorem Z7 {t:SetTable}{es:Array (Int×Value)}{m wanted:Nat}(hc:Cyc m)(hm:SetTable.sizeAbove wanted-1=m)(hn:es.size<=m):∃t' order,t.relaid (es.map (·.1)) wanted=some (t',order)/\
  (order.filterMap (es[·]?)).toList.Perm es.toList/\t'.mask=m/\t'.led=t.led/\t'.dummies=#[]/\t'.place.size=es.size/\Rises t'.place.toList/\(∀j∈t'.place.toList,j<=m)/\
  ∀(i:Nat)(e:Int×Value)(j:Nat),(order.filterMap (es[·]?))[i]?=some e->t'.place[i]?=some j->Way t' e.1 j:=by
 obtain⟨ow,e,hz,hp,hw⟩:=ij hc (es.map (·.1)) (by rw[Array.size_map];exact hn)
 rw[Array.size_map] at hp
 refine⟨{mask:=m,place:=(((List.range (m+1)).filterMap λj=>(ow.getD j none).map (j,·)).map (·.1)).toArray,dummies:=#[],finger:=t.finger,led:=t.led,moves:=t.movedTo m,plain:=t.plain},(((List.range (m+1)).filterMap λj=>(ow.getD j none).map (j,·)).map (·.2)).toArray,?_,?_,rfl,rfl,rfl,?_,?_,?_,?_⟩
 ·
  unfold SetTable.relaid SetTable.laid
  rw[hm,e]
  rfl
 ·
  rw[List.filterMap_toArray]
  show(List.filterMap _ _).Perm _
  rw[Mp]
  refine(hp.filterMap _).trans ?_
  rw[filterMap_getElem?_range]
 ·
  rw[su,sf]
  have:=hp.length_eq
  rw[vw] at this
  rw[←this]
  unfold occ
  rw[←Mp,sf]
 · exact fu _
 ·
  intro j hj
  obtain⟨⟨a,b⟩,h1,rfl⟩:=t6.mp hj
  obtain⟨c,h2,h3⟩:=wy.mp h1
  obtain⟨v,h4,h5⟩:=vg.mp h3
  injection h5 with h5
  subst h5
  exact xf (vb.mp h2)
 ·
  intro i e' j h1 h2
  rw[List.filterMap_toArray] at h1
  generalize hL:((List.range (m+1)).filterMap λj=>(ow.getD j none).map (j,·))=L at h1 h2 ⊢
  have hk:∀k∈L.map (·.2),k<es.size:=λk hk=>by
   rw[←hL,Mp] at hk
   exact vb.mp (hp.mem_iff.mp hk)
  obtain⟨xs,ex,hl,hx⟩:=Tv (es:=es) (js:=L.map (·.2)) hk
  rw[ze,←ex] at h1
  rw[ze,ur] at h2
  obtain⟨⟨j',k⟩,h3,rfl⟩:=vg.mp h2
  have h4:=hx i k (by rw[ur,h3];rfl)
  rw[h1] at h4
  have hin:(j',k)∈L:=uz h3
  rw[←hL] at hin
  obtain⟨c,c1,c2⟩:=wy.mp hin
  obtain⟨v,c3,c4⟩:=vg.mp c2
  injection c4 with c4 c5
  subst c4;subst c5
  obtain⟨K,a1,a2,a3⟩:=hw _ _ e'.1 c3 (by rw[Array.getElem?_map,←h4];rfl)
  have ea:=λ(T:SetTable)(hT:T.mask=m)(n:Nat)(p:Probe)=>Mo (t':=T) (t:=tm m) hT n p
  refine⟨K,a1,?_,λk hk=>?_⟩
  · exact(vi Probe.j (ea _ rfl _ _)).trans a2
  ·
   refine(show ∀q q',q'=q->q∈L.map (·.1)->q'∈L.map (·.1) from λq q' e h=>by rw[e];exact h) _ _ (vi Probe.j (ea _ rfl _ _)) ?_
   have z:=a3 k hk
   show(adv (tm m) k ((tm m).probeStart e'.1)).j∈_
   generalize (adv (tm m) k ((tm m).probeStart e'.1)).j=q at z ⊢
   obtain⟨v,hv⟩:=Option.ne_none_iff_exists'.mp z
   show q∈L.map (·.1)
   rw[←hL]
   refine t6.mpr ⟨(q,v),wy.mpr ⟨q,vb.mpr ?_,by rw[hv];rfl⟩,rfl⟩
   rcases xn q (m+1) with l|l
   · exact l
   ·
    rw[uf,wk (by lia)] at hv
    cases hv
end L2
namespace DX
structure Lin {α:Type}(lt:α->α->Bool):Prop where
 irr:∀a,lt a a=false
 tr:∀a b c,lt a b=true->lt b c=true->lt a c=true
 tot:∀a b,lt a b=false->lt b a=false->a=b
theorem Lin.neg {α:Type}{lt:α->α->Bool}(L:Lin lt){a b c:α}(h:lt a c=true):lt a b=true∨lt b c=true:=by
 cases e:lt a b with
 | true=>exact .inl rfl
 |
  false=>
  refine .inr ?_
  cases f:lt b a with
  | true=>exact L.tr b a c f h
  | false=>rw[←L.tot a b e f];exact h
def Lg {α:Type}[DecidableEq α](lt:α->α->Bool):List α->List α->Bool
 | [],[]=>false
 | [],_::_=>true
 | _::_,[]=>false
 | x::xs,y::ys=>if x=y then Lg lt xs ys else lt x y
theorem Sz {α:Type}[DecidableEq α]{lt:α->α->Bool}(L:Lin lt):Lin (Lg lt) where
 irr:=λa=>by
  induction a with
  | nil=>rfl
  | cons x xs ih=>unfold Lg;rw[if_pos rfl];exact ih
 tr:=λa=>by
  induction a with
  |
   nil=>
   intro b c h1 h2
   cases b with
   | nil=>cases h1
   |
    cons y ys=>
    cases c with
    | nil=>cases h2
    | cons z zs=>rfl
  |
   cons x xs ih=>
   intro b c h1 h2
   cases b with
   | nil=>cases h1
   |
    cons y ys=>
    cases c with
    | nil=>cases h2
    |
     cons z zs=>
     unfold Lg at h1 h2 ⊢
     by_cases e1:x=y
     ·
      subst e1
      rw[if_pos rfl] at h1
      by_cases e2:x=z
      ·
       rw[if_pos e2] at h2 ⊢
       exact ih ys zs h1 h2
      ·
       rw[if_neg e2] at h2 ⊢
       exact h2
     ·
      rw[if_neg e1] at h1
      by_cases e2:y=z
      ·
       subst e2
       rw[if_neg e1]
       exact h1
      ·
       rw[if_neg e2] at h2
       have h3:=L.tr _ _ _ h1 h2
       rw[if_neg (λe=>by subst e;rw[L.irr] at h3;cases h3)]
       exact h3
 tot:=λa=>by
  induction a with
  |
   nil=>
   intro b h1 h2
   cases b with
   | nil=>rfl
   | cons y ys=>cases h1
  |
   cons x xs ih=>
   intro b h1 h2
   cases b with
   | nil=>cases h2
   |
    cons y ys=>
    unfold Lg at h1 h2
    by_cases e:x=y
    ·
     subst e
     rw[if_pos rfl] at h1 h2
     rw[ih ys h1 h2]
    ·
     rw[if_neg e] at h1
     rw[if_neg (λz=>e z.symm)] at h2
     exact absurd (L.tot _ _ h1 h2) e
def om {α β:Type}(l:α->α->Bool)(r:β->β->Bool):Sum α β->Sum α β->Bool
 | .inl a,.inl b=>l a b
 | .inr a,.inr b=>r a b
 | .inl _,.inr _=>true
 | .inr _,.inl _=>false
theorem Zf {α β:Type}{l:α->α->Bool}{r:β->β->Bool}(L:Lin l)(R:Lin r):Lin (om l r) where
 irr:=λa=>by cases a with
  | inl a=>exact L.irr a
  | inr a=>exact R.irr a
 tr:=λa b c h1 h2=>by
  cases a<;>cases b<;>cases c<;>first|exact L.tr _ _ _ h1 h2|exact R.tr _ _ _ h1 h2|rfl|exact absurd h1 uk|exact absurd h2 uk
 tot:=λa b h1 h2=>by
  cases a with
  |
   inl a=>cases b with
   | inl b=>rw[L.tot a b h1 h2]
   | inr b=>cases h1
  |
   inr a=>cases b with
   | inl b=>cases h2
   | inr b=>rw[R.tot a b h1 h2]
theorem gf:Lin (λa b:Int=>decide (a<b)) where
 irr:=λa=>ua (by lia)
 tr:=λa b c h1 h2=>by rw[zy] at h1 h2 ⊢;lia
 tot:=λa b h1 h2=>by rw[decide_eq_false_iff_not] at h1 h2;lia
theorem iz:Lin (λa b:Nat=>decide (a<b)) where
 irr:=λa=>ua (by lia)
 tr:=λa b c h1 h2=>by rw[zy] at h1 h2 ⊢;lia
 tot:=λa b h1 h2=>by rw[decide_eq_false_iff_not] at h1 h2;lia
end DX
namespace L2
open PySem PySem.Spec PyProof.Rows PySem.SeqAt
def CmpAt (op:CmpOp)(A:Around)(s:Shared)(u v:Value)(b:Bool):Prop:=∀(prog:Program)(w:World)(E:Value->Shared->Prop)(Q:Value->Shared->Prop),Q (.bool b) s->wpAny (model prog w) A (richCompare op u v) Q E s
def szB:CmpOp->Nat->Nat->Bool
 | .Lt,m,n=>decide (m<n)
 | _,m,n=>decide (n<m)
inductive Mc (op:CmpOp)(A:Around)(s:Shared):List Value->List Value->Bool->Prop
 | fin {xs ys:List Value} (h:xs=[]∨ys=[]):Mc op A s xs ys (szB op xs.length ys.length)
 | eq {x y:Value} {xs ys:List Value} {b:Bool} (h:EqAt A s x y true) (r:Mc op A s xs ys b):Mc op A s (x::xs) (y::ys) b
 | ne {x y:Value} {xs ys:List Value} {b:Bool} (h:EqAt A s x y false) (r:CmpAt op A s x y b):Mc op A s (x::xs) (y::ys) b
section
variable {prog:Program}{w:World}{A:Around}{E:Value->Shared->Prop}{s:Shared}
theorem g6 {a b:Addr}{xs ys:Array Value}{r:Bool}{P:PySem.Fin->Shared->Prop}(hx:s.heap.IsTuple a xs)(hy:s.heap.IsTuple b ys)(hl:Mc .Lt A s xs.toList ys.toList r)(h:P (.done (.ret (.bool r))) s):
  wpAny (model prog w) A (Builtin.«tuple.__lt__» ⟨[.ref a,.ref b],[]⟩) P E s:=by
 obtain⟨oa,hoa,hca,na,hda⟩:=hx
 obtain⟨ob,hob,hcb,nb,hdb⟩:=hy
 show wpAny _ _ (isInstance (.ref b) (.type "tuple")>>=_) _ _ s
 refine se (x8 ⟨ob,hob,hcb⟩ yj ?_)
 simp only[xq,u4,xu]
 refine se (xv hoa hda ?_)
 refine se (xv hob hdb ?_)
 refine se ?_
 refine wb _
  (λrest q s'=>q.1=none/\s'=s/\∃xs' ys' k,rest=List.zip xs' ys'/\Mc .Lt A s xs' ys' r/\xs.size=xs'.length+k/\ys.size=ys'.length+k)
  _ ?_ ?_ _ _ ⟨rfl,rfl,xs.toList,ys.toList,0,rfl,hl,by simp,by simp⟩
 ·
  rintro⟨u,v⟩ rest q s' ⟨hr,rfl,xs',ys',k,hz,hl',e1,e2⟩
  cases hl' with
  | fin hf=>rcases hf with rfl|rfl<;>simp at hz
  |
   @eq x y xs'' ys'' _ he hr'=>
   simp only[xo,zo,Aae] at hz
   obtain⟨⟨rfl,rfl⟩,rfl⟩:=hz
   refine se (he prog w _ _ ?_)
   simp only[xq,u4,xu]
   exact si ⟨rfl,rfl,xs'',ys'',k+1,rfl,hr',by simp only[t5] at e1;lia,by simp only[t5] at e2;lia⟩
  |
   @ne x y xs'' ys'' _ he hc=>
   simp only[xo,zo,Aae] at hz
   obtain⟨⟨rfl,rfl⟩,rfl⟩:=hz
   refine se (he prog w _ _ ?_)
   simp only[Bool.not_false,Aao]
   refine se (wpAny_rule (se (hc prog w _ _ ?_)))
   exact se (si (si (si h)))
 ·
  rintro⟨q1,q2⟩ s' ⟨hr,rfl,xs',ys',k,hz,hl',e1,e2⟩
  simp only at hr
  subst hr
  refine si ?_
  cases hl' with
  |
   fin h'=>
   show P (.done (.ret (.bool (decide (xs.size<ys.size))))) s'
   have e:decide (xs.size<ys.size)=szB .Lt xs'.length ys'.length:=by
    show _=decide (xs'.length<ys'.length)
    rw[e1,e2]
    exact xj.mpr (by lia)
   rw[e]
   exact h
  | eq _ _=>simp at hz
  | ne _ _=>simp at hz
theorem h9 {a b:Addr}{xs ys:Array Value}{r:Bool}{P:PySem.Fin->Shared->Prop}(hx:s.heap.IsTuple a xs)(hy:s.heap.IsTuple b ys)(hl:Mc .Gt A s xs.toList ys.toList r)(h:P (.done (.ret (.bool r))) s):
  wpAny (model prog w) A (Builtin.«tuple.__gt__» ⟨[.ref a,.ref b],[]⟩) P E s:=by
 obtain⟨oa,hoa,hca,na,hda⟩:=hx
 obtain⟨ob,hob,hcb,nb,hdb⟩:=hy
 show wpAny _ _ (isInstance (.ref b) (.type "tuple")>>=_) _ _ s
 refine se (x8 ⟨ob,hob,hcb⟩ yj ?_)
 simp only[xq,u4,xu]
 refine se (xv hoa hda ?_)
 refine se (xv hob hdb ?_)
 refine se ?_
 refine wb _
  (λrest q s'=>q.1=none/\s'=s/\∃xs' ys' k,rest=List.zip xs' ys'/\Mc .Gt A s xs' ys' r/\xs.size=xs'.length+k/\ys.size=ys'.length+k)
  _ ?_ ?_ _ _ ⟨rfl,rfl,xs.toList,ys.toList,0,rfl,hl,by simp,by simp⟩
 ·
  rintro⟨u,v⟩ rest q s' ⟨hr,rfl,xs',ys',k,hz,hl',e1,e2⟩
  cases hl' with
  | fin hf=>rcases hf with rfl|rfl<;>simp at hz
  |
   @eq x y xs'' ys'' _ he hr'=>
   simp only[xo,zo,Aae] at hz
   obtain⟨⟨rfl,rfl⟩,rfl⟩:=hz
   refine se (he prog w _ _ ?_)
   simp only[xq,u4,xu]
   exact si ⟨rfl,rfl,xs'',ys'',k+1,rfl,hr',by simp only[t5] at e1;lia,by simp only[t5] at e2;lia⟩
  |
   @ne x y xs'' ys'' _ he hc=>
   simp only[xo,zo,Aae] at hz
   obtain⟨⟨rfl,rfl⟩,rfl⟩:=hz
   refine se (he prog w _ _ ?_)
   simp only[Bool.not_false,Aao]
   refine se (wpAny_rule (se (hc prog w _ _ ?_)))
   exact se (si (si (si h)))
 ·
  rintro⟨q1,q2⟩ s' ⟨hr,rfl,xs',ys',k,hz,hl',e1,e2⟩
  simp only at hr
  subst hr
  refine si ?_
  cases hl' with
  |
   fin h'=>
   show P (.done (.ret (.bool (decide (xs.size>ys.size))))) s'
   have e:decide (xs.size>ys.size)=szB .Gt xs'.length ys'.length:=by
    show _=decide (ys'.length<xs'.length)
    rw[e1,e2]
    exact xj.mpr (by lia)
   rw[e]
   exact h
  | eq _ _=>simp at hz
  | ne _ _=>simp at hz
theorem CmpAt.ltT {a b:Addr}{xs ys:Array Value}{r:Bool}(hx:s.heap.IsTuple a xs)(hy:s.heap.IsTuple b ys)(hu:A.units<cLine)(hl:Mc .Lt A.in1 s xs.toList ys.toList r):CmpAt .Lt A s (.ref a) (.ref b) r:=λprog w E Q h=>
 have hxT:s.TypeIs (.ref a) "tuple":=let ⟨o,ho,hc,_⟩:=hx;⟨o,ho,hc⟩
 have hyT:s.TypeIs (.ref b) "tuple":=let ⟨o,ho,hc,_⟩:=hy;⟨o,ho,hc⟩
 z8 (op:=.Lt) hxT hyT F.slot_tuple_lt (vj F.slot_tuple_lt hxT F.entry_tuple_lt (g6 hx hy hl ⟨_,rfl,(λe=>nomatch e),h⟩) (F.args_tuple_lt_2 _ _)) hu
theorem CmpAt.gtT {a b:Addr}{xs ys:Array Value}{r:Bool}(hx:s.heap.IsTuple a xs)(hy:s.heap.IsTuple b ys)(hu:A.units<cLine)(hl:Mc .Gt A.in1 s xs.toList ys.toList r):CmpAt .Gt A s (.ref a) (.ref b) r:=λprog w E Q h=>
 have hxT:s.TypeIs (.ref a) "tuple":=let ⟨o,ho,hc,_⟩:=hx;⟨o,ho,hc⟩
 have hyT:s.TypeIs (.ref b) "tuple":=let ⟨o,ho,hc,_⟩:=hy;⟨o,ho,hc⟩
 z8 (op:=.Gt) hxT hyT F.slot_tuple_gt (vj F.slot_tuple_gt hxT F.entry_tuple_gt (h9 hx hy hl ⟨_,rfl,(λe=>nomatch e),h⟩) (F.args_tuple_gt_2 _ _)) hu
end
section
variable {X:Cx}{pins:List (Addr×Obj)}{σ:St}{H:Hp}{it S:Addr}{xs:List V}{key:Value}{G:V->Hp->V->Prop}{gt:V->V->Bool}{R:Result->Shared->Prop}
end
section
variable {X:Cx}{pins:List (Addr×Obj)}{σ:St}{H:Hp}{it S:Addr}{xs:List V}{key:Value}{G:V->Hp->V->Prop}{gt:V->V->Bool}{R:Result->Shared->Prop}
end
end L2
namespace L2
open PySem PySem.W PyProof.Rows
structure SortsV (prog:Program)(w:World)(A:Around)(s:Shared)(κ:SortKind){O:KeyOrd}(key:Value->O.α)(vs:List Value):Prop where
 kind:∀(E:Value->Shared->Prop)(Q:SortKind->Shared->Prop),Q κ s->wpAny (model prog w) A (keyKind' vs.toArray) Q E s
 cmp:∀x∈vs,∀y∈vs,∀C:Bool->Shared->Prop,C (O.blt (key x) (key y)) s->wpAny (model prog w) A (keyLt' κ x y) C (λ_ _=>False) s
def N2 (vs:List Value)(p:Array Nat):List Value:=p.toList.map λi=>vs.getD i Value.none
section
variable {prog:Program}{w:World}{A:Around}{E:Value->Shared->Prop}{s:Shared}{vs:List Value}{O:KeyOrd}{key:Value->O.α}{κ:SortKind}
theorem getD_in {i:Nat}(hi:i<vs.length):vs.getD i Value.none∈vs:=by
 have e:vs.getD i Value.none=vs[i]:=by simp[hi]
 rw[e]
 exact xk hi
theorem SortsV.asks (S:SortsV prog w A s κ key vs):a9 (O:=O) (λi=>key (vs.getD i Value.none)) vs.length (kas_ask prog w A κ vs) s:=by
 intro i j C hi hj h
 unfold kas_ask
 exact S.cmp _ (getD_in hi) _ (getD_in hj) C h
theorem Oa {p:Array Nat}(hp:Rg vs.length p):(N2 vs p).Perm vs:=by
 have h:=(yf.mp hp).map λi=>vs.getD i Value.none
 have e:(List.range vs.length).map (λi=>vs.getD i Value.none)=vs:=by
  apply List.ext_getElem
  · simp
  ·
   intro i h1 h2
   simp[h2]
 rw[List.toList_toArray,e] at h
 exact h
theorem dm {p:Array Nat}(hp:Rg vs.length p)(hu:Up (O:=O) (λi=>key (vs.getD i Value.none)) p vs.length):(N2 vs p).Pairwise λx y=>O.kle (key x) (key y):=by
 rw[List.pairwise_iff_getElem]
 intro i j hi hj hij
 have hz:=hp.size
 have hl:(N2 vs p).length=vs.length:=by unfold N2;rw[sf,sv,hz]
 have h:=hu i j (by lia) (by lia)
 have gi:∀k(hk:k<(N2 vs p).length),(N2 vs p)[k]=vs.getD (p.getD k 0) Value.none:=by
  intro k hk
  have hk':k<p.size:=by lia
  have e:(N2 vs p)[k]?=some (vs.getD (p.getD k 0) Value.none):=by
   unfold N2
   rw[ur,t7,tu hk',Array.getD,dif_pos hk']
   rfl
  rw[vq hk] at e
  exact sy e
 rw[gi i hi,gi j hj]
 exact h
theorem Mw {a:Addr}{k:Nat}{P:PySem.Fin->Shared->Prop}(ho:s.heap.get? a=some (seqObj "list" vs.toArray k))(h64:vs.length<64)
  (hS:2<=vs.length->∀h':Heap,(∀b o,b≠a->s.heap.get? b=some o->h'.get? b=some o)->SortsV prog w A {s with heap:=h'} κ key vs)
  (h:∀us:List Value,us.Perm vs->us.Pairwise (λx y=>O.kle (key x) (key y))->P (.done (.ret .none)) {s with heap:=sortedHeap s.heap a vs us.toArray}):wpAny (model prog w) A (Builtin.«list.sort» ⟨[.ref a],[]⟩) P E s:=by
 obtain⟨c1,g1⟩:∃c,(s.heap.update a (Obj.mapSeq λ_=>(#[]:Array Value))).get? a=some (seqObj "list" #[] c):=⟨_,get?_update_seq ho λ_=>#[]⟩
 have g2:(((s.heap.update a (Obj.mapSeq λ_=>(#[]:Array Value))).push (seqObj "tuple" vs.toArray 0)).push (seqObj "list" #[] 0)).get? a=some (seqObj "list" #[] c1):=sj _ (sj _ g1)
 have kp:∀b o,b≠a->s.heap.get? b=some o->(((s.heap.update a (Obj.mapSeq λ_=>(#[]:Array Value))).push (seqObj "tuple" vs.toArray 0)).push (seqObj "list" #[] 0)).get? b=some o:=λb o hb e=>
  sj _ (sj _ (by rw[yy _ _ _ _ hb];exact e))
 rw[list_sort_plain]
 refine se (listItems_at ho rfl (se (Aan ho rfl (se (Abi g1 rfl (se (wpAny_newTuple (se (y9 (vn ?_) (u5 _))) (by rw[vd];show vs.length<=_;lia))))) (by rw[su,vd];lia) (u5 _))))
 show wpAny (model prog w) A _ P E {s with heap:=((s.heap.update a (Obj.mapSeq λ_=>(#[]:Array Value))).push (seqObj "tuple" vs.toArray 0)).push (seqObj "list" #[] 0)}
 dsimp only
 by_cases h2:vs.toArray.size<2
 ·
  have hl2:vs.length<2:=by rw[su] at h2;exact h2
  rw[if_pos h2,if_pos h2]
  refine se (si ?_)
  rw[StateT.run_pure]
  refine se (si ?_)
  dsimp only
  have e:(arrOf (SortSt.mk' general' (vs.toArray.zip vs.toArray) #[] 7 none)).map (·.2)=vs.toArray:=by
   show(vs.toArray.zip vs.toArray).map (·.2)=_
   apply Array.toList_inj.mp
   simp
   rw[List.map_snd_zip]
   simp
  rw[e]
  refine se (Abi g2 rfl (se (Aan g2 rfl ?_ (u5 _) (by rw[su,vd];lia))))
  simp only[z7,u4,xu]
  refine si (h vs (.refl _) ?_)
  match vs,hl2 with
  | [],_=>exact .nil
  | [_],_=>exact xx _ _
 ·
  have hl2:2<=vs.length:=by rw[su] at h2;lia
  rw[if_neg h2,if_neg h2]
  have S:=hS hl2 _ kp
  refine se (S.kind _ _ ?_)
  have run:=kat_run (prog:=prog) (w:=w) (A:=A) (E:=E) (κ:=κ) (ks:=vs) (vs:=vs) (s:={s with heap:=((s.heap.update a (Obj.mapSeq λ_=>(#[]:Array Value))).push (seqObj "tuple" vs.toArray 0)).push (seqObj "list" #[] 0)})
   (Q:=λst' s'=>s'={s with heap:=((s.heap.update a (Obj.mapSeq λ_=>(#[]:Array Value))).push (seqObj "tuple" vs.toArray 0)).push (seqObj "list" #[] 0)}/\failedOf st'=none/\∃p,Rg vs.length p/\Up (O:=O) (λi=>key (vs.getD i Value.none)) p vs.length/\arrOf st'=p.map (kas_item (vs.toArray.zip vs.toArray)))
   (G:=λp s'=>s'={s with heap:=((s.heap.update a (Obj.mapSeq λ_=>(#[]:Array Value))).push (seqObj "tuple" vs.toArray 0)).push (seqObj "list" #[] 0)}/\Rg vs.length p/\Up (O:=O) (λi=>key (vs.getD i Value.none)) p vs.length)
   rfl hl2 h64 (λp st' s' a1 a2 a3 a4=>⟨a4.1,a3,p,a4.2.1,a4.2.2,a2⟩) (Yd S.asks (by lia) λp hp hu=>⟨rfl,hp,hu⟩)
  refine se (wu run ?_ λ_ _ z=>z)
  rintro⟨⟨⟩,st'⟩ s' ⟨rfl,hf,p,hp,hu,har⟩
  dsimp only
  rw[kat_snds rfl har]
  have hz:(N2 vs p).length=vs.length:=(Oa hp).length_eq
  refine se (Abi g2 rfl (se (Aan g2 rfl ?_ (u5 _) (by rw[su];show(N2 vs p).length<=_;rw[hz,vd];lia))))
  rw[hf]
  simp only[z7,u4,xu]
  exact si (h _ (Oa hp) (dm hp hu))
theorem Hs {c:Value}{Q:Value->Shared->Prop}{G:List Value->Prop}
  (hcol:∀(E':Value->Shared->Prop)(Q':List Value->Shared->Prop),(∀h' tk vs,(∀b o,s.heap.get? b=some o->h'.get? b=some o)->s.heap.objs.size<=h'.objs.size->G vs->Q' vs {s with heap:=h',toks:=tk})->wpAny (model prog w) A.in1 (collect c) Q' E' s)
  (hz:∀vs,G vs->vs.length<64) (hS:∀vs,G vs->2<=vs.length->∀(s':Shared),(∀b o,s.heap.get? b=some o->s'.heap.get? b=some o)->SortsV prog w A.in1.in1 s' κ key vs)
  (h:∀(D:Addr)h' tk(vs us:List Value)(e:Nat),G vs->us.Perm vs->us.Pairwise (λx y=>O.kle (key x) (key y))->(∀b o,s.heap.get? b=some o->h'.get? b=some o)->s.heap.objs.size<=D->h'.get? D=some (seqObj "list" us.toArray e)->Q (.ref D) {s with heap:=h',toks:=tk}):
  wpAny (model prog w) A (call (.builtin "sorted") [c]) Q E s:=by
 refine Aak kind_sorted plain_sorted entry_sorted (args_sorted1 _) ?_
 unfold Builtin.«sorted»
 refine se (m:=checkCount "sorted" 1 1 _) (si (se (hcol _ _ λh1 tk vs kp hge hg=>?_)))
 have h64:=hz vs hg
 refine se (y9 ?_ (by rw[vd];lia))
 have hoL:(h1.push (seqObj "list" vs.toArray 0)).get? h1.objs.size=some (seqObj "list" vs.toArray 0):=t9 _ rfl
 have keep:∀b o,s.heap.get? b=some o->(h1.push (seqObj "list" vs.toArray 0)).get? b=some o:=λb o q=>sj _ (kp b o q)
 have ne:∀b o,s.heap.get? b=some o->b≠h1.objs.size:=λb o q=>ug (sr (kp b o q))
 show wpAny _ _ _ _ _ {s with heap:=h1.push (seqObj "list" vs.toArray 0),toks:=tk}
 refine se (vn (vj slot_list_sort ⟨_,hoL,rfl⟩ entry_list_sort (Mw (κ:=κ) (key:=key) hoL h64 (λh2 h' kp'=>hS vs hg h2 _ λb o q=>kp' b o (ne b o q) (keep b o q)) λus a1 a2=>⟨_,rfl,si ⟨_,rfl,?_⟩⟩) (args_list_sort _)))
 obtain⟨e,he⟩:=sortedHeap_at (out:=us.toArray) hoL
 refine h h1.objs.size _ tk vs us e hg a1 a2 (λb o q=>?_) hge he
 rw[sortedHeap_old (ne b o q) (sr (keep b o q))]
 exact keep b o q
end
end L2
namespace L2
open PySem PySem.Spec PyProof.Rows PySem.SeqAt DX
def ltS (x y:Str):Bool:=decide (x.cps.toList<y.cps.toList)
theorem Yx:∀(a b:List Nat),decide (a<b)=Lg (λx y:Nat=>decide (x<y)) a b
 | [],[]=>by simp[Lg]
 | [],_::_=>by simp[Lg]
 | _::_,[]=>by simp[Lg]
 |
  x::xs,y::ys=>by
  unfold Lg
  rw[←Yx xs ys]
  by_cases e:x=y
  ·
   subst e
   rw[if_pos rfl]
   exact xj.mpr (by rw[List.cons_lt_cons_iff];simp)
  ·
   rw[if_neg e]
   exact xj.mpr (by rw[List.cons_lt_cons_iff];simp[e])
theorem i8 {a b:Str}(h:a.cps.toList=b.cps.toList):a=b:=by
 obtain⟨⟨a⟩⟩:=a
 obtain⟨⟨b⟩⟩:=b
 simp at h
 rw[h]
theorem Le:Lin ltS:=by
 have L:=Sz iz
 have e:∀x y:Str,ltS x y=Lg (λx y:Nat=>decide (x<y)) x.cps.toList y.cps.toList:=λx y=>Yx _ _
 exact⟨λa=>by rw[e];exact L.irr _,λa b c h1 h2=>by rw[e] at h1 h2 ⊢;exact L.tr _ _ _ h1 h2,λa b h1 h2=>by rw[e] at h1 h2;exact i8 (L.tot _ _ h1 h2)⟩
def ltK:Key->Key->Bool:=om (λa b:Int=>decide (a<b)) ltS
def ltN:NK->NK->Bool:=om ltK (Lg ltK)
def ltL:List NK->List NK->Bool:=Lg ltN
theorem Ya:Lin ltK:=Zf gf Le
theorem Nm:Lin ltL:=Sz (Zf Ya (Sz Ya))
def okK:Key->Key->Bool
 | .inl _,.inl _=>true
 | .inr _,.inr _=>true
 | _,_=>false
def okT:List Key->List Key->Bool
 | x::xs,y::ys=>if x=y then okT xs ys else okK x y
 | _,_=>true
def okN:NK->NK->Bool
 | .inl a,.inl b=>okK a b
 | .inr a,.inr b=>okT a b
 | _,_=>false
def okL:List NK->List NK->Bool
 | x::xs,y::ys=>if x=y then okL xs ys else okN x y
 | _,_=>true
def fl {α:Type}(op:CmpOp)(lt:α->α->Bool)(x y:α):Bool:=
 match op with
 | .Lt=>lt x y
 | _=>lt y x
abbrev Two (op:CmpOp):Prop:=op=.Lt∨op=.Gt
theorem jt {α:Type}[DecidableEq α]{op:CmpOp}(hop:Two op){lt:α->α->Bool}{x y:α}{xs ys:List α}:fl op (Lg lt) (x::xs) (y::ys)=if x=y then fl op (Lg lt) xs ys else fl op lt x y:=by
 rcases hop with rfl|rfl
 · rfl
 ·
  show Lg lt (y::ys) (x::xs)=if x=y then Lg lt ys xs else lt y x
  show(if y=x then Lg lt ys xs else lt y x)=_
  by_cases e:x=y
  · rw[if_pos e,if_pos e.symm]
  · rw[if_neg e,if_neg λz=>e z.symm]
theorem U4 {α:Type}[DecidableEq α]{op:CmpOp}(hop:Two op){lt:α->α->Bool}{xs ys:List α}(h:xs=[]∨ys=[]):szB op xs.length ys.length=fl op (Lg lt) xs ys:=by
 rcases hop with rfl|rfl<;>rcases h with rfl|rfl
 · cases ys<;>simp[szB,fl,Lg]
 · cases xs<;>simp[szB,fl,Lg]
 · cases ys<;>simp[szB,fl,Lg]
 · cases xs<;>simp[szB,fl,Lg]
section
variable {prog:Program}{w:World}{A:Around}{s:Shared}{op:CmpOp}
theorem CmpAt.tup (hop:Two op){a b:Addr}{xs ys:Array Value}{r:Bool}(hx:s.heap.IsTuple a xs)(hy:s.heap.IsTuple b ys)(hu:A.units<cLine)(hl:Mc op A.in1 s xs.toList ys.toList r):CmpAt op A s (.ref a) (.ref b) r:=by
 rcases hop with rfl|rfl
 · exact .ltT hx hy hu hl
 · exact .gtT hx hy hu hl
theorem j4 {k k':Key}{u u':Value}(h:N5 k u=true)(h':N5 k' u'=true):EqAt A s u u' (decide (k=k')):=λprog w E Q q=>(Ax prog w).eqBool (a:=k) (b:=k') h h' q
theorem Yi (hop:Two op){k k':Key}{u u':Value}(h:N5 k u=true)(h':N5 k' u'=true)(ok:okK k k'=true):CmpAt op A s u u' (fl op ltK k k'):=by
 intro prog w E Q q
 cases k with
 |
  inl i=>
  obtain⟨t,rfl⟩:=wx (k:=i) (v:=u) h
  cases k' with
  |
   inl j=>
   obtain⟨t',rfl⟩:=wx (k:=j) (v:=u') h'
   rcases hop with rfl|rfl
   · exact PySem.P.lt_int q
   · exact PySem.P.gt_int q
  | inr y=>cases ok
 |
  inr x=>
  obtain⟨t,rfl⟩:=vx (x:=x) (v:=u) h
  cases k' with
  | inl j=>cases ok
  |
   inr y=>
   obtain⟨t',rfl⟩:=vx (x:=y) (v:=u') h'
   rcases hop with rfl|rfl
   · exact PySem.P.lt_str q
   · exact PySem.P.gt_str q
theorem Vo (hop:Two op):∀{ks ks':List Key}{us us':List Value},ItemsAre (Ax prog w) ks us->ItemsAre (Ax prog w) ks' us'->okT ks ks'=true->Mc op A s us us' (fl op (Lg ltK) ks ks')
 |
  [],ks',_,us',.nil,h',_=>by
  have e:szB op ([]:List Value).length us'.length=fl op (Lg ltK) [] ks':=by rw[←h'.length];exact U4 hop (xs:=([]:List Key)) (.inl rfl)
  rw[←e]
  exact .fin (.inl rfl)
 |
  k::ks,[],us,_,h,.nil,_=>by
  have e:szB op us.length ([]:List Value).length=fl op (Lg ltK) (k::ks) []:=by rw[←h.length];exact U4 hop (ys:=([]:List Key)) (.inr rfl)
  rw[←e]
  exact .fin (.inr rfl)
 |
  k::ks,k'::ks',_,_,.cons h1 h2,.cons h1' h2',ok=>by
  rw[jt hop]
  unfold okT at ok
  have he:=j4 (A:=A) (s:=s) h1 h1'
  by_cases e:k=k'
  ·
   rw[if_pos e] at ok ⊢
   rw[so e] at he
   exact .eq he (Vo hop h2 h2' ok)
  ·
   rw[if_neg e] at ok ⊢
   rw[ua e] at he
   exact .ne he (Yi hop h1 h1' ok)
theorem Xz {ks:List Key}{a:Addr}{h:Heap}(x:IsTupleKey (Ax prog w) h ks a):∃its,h.IsTuple a its/\ItemsAre (Ax prog w) ks its.toList:=let ⟨o,its,n,ho,hc,hd,hi⟩:=x;⟨its,⟨o,ho,hc,n,hd⟩,hi⟩
theorem iu {prog':Program}{w':World}{ks:List Key}{a:Addr}{h:Heap}(x:IsTupleKey (Ax prog w) h ks a):IsTupleKey (Ax prog' w') h ks a:=by
 obtain⟨o,its,n,ho,hc,hd,hi⟩:=x
 refine⟨o,its,n,ho,hc,hd,?_⟩
 generalize its.toList=vs at hi
 induction hi with
 | nil=>exact .nil
 | cons h1 _ ih=>exact .cons h1 ih
theorem NItem.any {prog':Program}{w':World}{k:NK}{v:Value}{h:Heap}(x:NItem prog w h k v):NItem prog' w' h k v:=by
 cases k with
 | inl k=>exact x
 | inr ks=>obtain⟨a,e,p⟩:=x;exact⟨a,e,iu p⟩
theorem g7 {k k':NK}{u u':Value}(hu:A.units<cLine)(h:NItem prog w s.heap k u)(h':NItem prog w s.heap k' u'):EqAt A s u u' (decide (k=k')):=λprog' w' E Q q=>O9 hu h.any h'.any q
theorem ba (hop:Two op){k k':NK}{u u':Value}(hu:A.units<cLine)(h:NItem prog w s.heap k u)(h':NItem prog w s.heap k' u')(ok:okN k k'=true):CmpAt op A s u u' (fl op ltN k k'):=by
 cases k with
 |
  inl k=>
  cases k' with
  |
   inl k'=>
   have e:fl op ltN (.inl k) (.inl k')=fl op ltK k k':=by rcases hop with rfl|rfl<;>rfl
   rw[e]
   exact Yi hop h h' ok
  | inr _=>cases ok
 |
  inr ks=>
  cases k' with
  | inl _=>cases ok
  |
   inr ks'=>
   obtain⟨a,rfl,p⟩:=h
   obtain⟨b,rfl,p'⟩:=h'
   obtain⟨xs,t1,i1⟩:=Xz p
   obtain⟨ys,t2,i2⟩:=Xz p'
   have e:fl op ltN (.inr ks) (.inr ks')=fl op (Lg ltK) ks ks':=by rcases hop with rfl|rfl<;>rfl
   rw[e]
   exact .tup hop t1 t2 hu (Vo hop i1 i2 ok)
theorem NItems.length {ks:List NK}{us:List Value}{h:Heap}(x:NItems prog w h ks us):ks.length=us.length:=by
 induction x with
 | nil=>rfl
 | cons _ _ ih=>simp[ih]
end
end L2
namespace L2
open PySem PySem.Spec PyProof.Rows PySem.SeqAt
section
variable {X:Cx}{pins:List (Addr×Obj)}{σ:St}{H:Hp}{key:Value}{G:V->Hp->V->Prop}{gt:V->V->Bool}
end
def NkV (H:Hp):NK->V->Prop
 | .inl k,v=>v=kV k
 | .inr ks,v=>∃q,v=.ref q/\H q=some (.tup (ks.map kV))
inductive NkVs (H:Hp):List NK->List V->Prop
 | nil:NkVs H [] []
 | cons {k:NK} {v:V} {ks:List NK} {vs:List V}:NkV H k v->NkVs H ks vs->NkVs H (k::ks) (v::vs)
def jc (H:Hp)(ks:List NK)(p:Addr):Prop:=∃vs,H p=some (.tup vs)/\NkVs H ks vs
theorem NkV.up {H H':Hp}{k:NK}{v:V}(h:NkV H k v)(ht:∀b xs,H b=some (.tup xs)->H' b=some (.tup xs)):NkV H' k v:=by
 cases k with
 | inl k=>exact h
 | inr ks=>obtain⟨q,e,h⟩:=h;exact⟨q,e,ht _ _ h⟩
theorem NkVs.up {H H':Hp}{ks:List NK}{vs:List V}(h:NkVs H ks vs)(ht:∀b xs,H b=some (.tup xs)->H' b=some (.tup xs)):NkVs H' ks vs:=by
 induction h with
 | nil=>exact .nil
 | cons h1 _ ih=>exact .cons (h1.up ht) ih
section
variable {X:Cx}{pins:List (Addr×Obj)}{σ:St}{H:Hp}{s:Shared}
theorem O5 {P:Program}{w:World}{h:Heap}(ok:HOk P w H h){ks:List NK}{vs:List V}(r:NkVs H ks vs):∀{us:List Value},Vals vs us->NItems P w h ks us:=by
 induction r with
 | nil=>intro us v;cases v;exact .nil
 |
  @cons k v ks vs h1 _ ih=>
  intro us v
  cases v with
  |
   cons v1 v2=>
   refine .cons ?_ (ih v2)
   cases k with
   | inl k=>cases (show _=kV k from h1);exact To v1
   |
    inr ks=>
    obtain⟨q,rfl,hq⟩:=h1
    cases v1
    exact⟨q,rfl,Ov ok hq⟩
theorem Uh {P:Program}{w:World}{h:Heap}(ok:HOk P w H h){ks:List NK}{p:Addr}(x:jc H ks p):IsNest P w h ks p:=by
 obtain⟨vs,hp,r⟩:=x
 obtain⟨_,its,rv,o,h1,h2,n,h3⟩:=(show ObjOk P w H h p (.tup vs) from ok p _ hp)
 exact⟨o,its.toArray,n,h1,h2,h3,by simpa using O5 ok r rv⟩
end
abbrev keysOf (xs:List (List NK×Addr)):List (List NK):=xs.map (·.1)
def lq (xs:List (List NK×Addr))(ks:List NK):Bool:=xs.any λx=>decide (x.1=ks)
section
variable {P:Program}{w:World}{H:Hp}{h:Heap}{a:Addr}{xs:List (List NK×Addr)}
end
section
variable {X:Cx}
end
end L2
namespace L2
open PySem PySem.W PyProof.Rows
section
variable (prog:Program)(w:World)
structure SetPN (es:Array (Int×Value))(t:SetTable)(xs:List (List NK×Addr)):Prop where
 el:es.toList.Perm (xs.map λx=>(B5 prog w x.1,Value.ref x.2))
 nd:(xs.map (·.1)).Nodup
 T:TabN (Qk w) t es.size
 msk:t.mask=7∨t.mask=31∨t.mask=127∨t.mask=511
 way:∀(i:Nat)(e:Int×Value)(j:Nat),es[i]?=some e->t.place[i]?=some j->Way t e.1 j
def SetN (a:Addr)(xs:List (List NK×Addr))(h:Heap):Prop:=∃es ep t,h.get? a=some (Bw es ep t)/\SetPN prog w es t xs
end
def Qj (xs:List (List NK×Addr))(x:List NK×Addr):List (List NK×Addr):=if lq xs x.1=true then xs else xs++[x]
section
variable {prog:Program}{w:World}{A:Around}{E:Value->Shared->Prop}{s:Shared}{es:Array (Int×Value)}{t:SetTable}{xs:List (List NK×Addr)}{a:Addr}
theorem SetPN.len (P:SetPN prog w es t xs):es.size=xs.length:=by rw[←sv,P.el.length_eq,sf]
theorem SetPN.fresh:SetPN prog w #[] (.fresh 0 0 (Qk w)) []:=
 ⟨List.Perm.nil,List.Pairwise.nil,⟨rfl,List.Pairwise.nil,rfl,(λj h=>nomatch h),rb,show 7%2=1 from rfl,show 7<=2047 by decide,show 0*5<7*3 by decide,rfl⟩,.inl rfl,λi e j h=>by simp at h⟩
theorem SetN.at' {h h':Heap}(x:SetN prog w a xs h)(k:∀o,h.get? a=some o->h'.get? a=some o):SetN prog w a xs h':=
 let ⟨es,ep,t,ho,P⟩:=x
 ⟨es,ep,t,k _ ho,P⟩
theorem fc {α:Type}{xs:List α}{p i:Nat}{x y:α}(hp:p<=xs.length)(h:(xs.take p++x::xs.drop p)[i]?=some y):(i<p/\xs[i]?=some y)∨(i=p/\y=x)∨(p<i/\xs[i-1]?=some y):=by
 have hl:(xs.take p).length=p:=by rw[ux];lia
 rcases y4 i p with l|l|l
 ·
  rw[yk (by lia),Aa5,if_pos l] at h
  exact .inl ⟨l,h⟩
 ·
  rw[ye (by lia),hl,l,Abk] at h
  exact .inr (.inl ⟨l,(sy h).symm⟩)
 ·
  rw[ye (by lia),hl,show i-p=(i-p-1)+1 by lia,List.getElem?_cons_succ,List.getElem?_drop,show p+(i-p-1)=i-1 by lia] at h
  exact .inr (.inr ⟨l,h⟩)
theorem rl {k:NK}{v:Value}{n:Nat}{Q:Bool->Shared->Prop}(hk:NItem prog w s.heap k v)(h:∀b,Q b s):wpAny (model prog w) A (hashByValue (n+1) v) Q E s:=by
 have byV:∀{m:Nat}{v:Value},carriedByValue v=true->wpAny (model prog w) A (hashByValue m v) Q E s:=λ{m v}hv=>by
  cases v<;>cases m<;>first|(unfold hashByValue;exact si (h _))|(simp[carriedByValue] at hv)
 have byV':∀{m:Nat}{v:Value}{R:Bool->Shared->Prop},(∀b,R b s)->carriedByValue v=true->wpAny (model prog w) A (hashByValue m v) R E s:=λ{m v R}hR hv=>by
  cases v<;>cases m<;>first|(unfold hashByValue;exact si (hR _))|(simp[carriedByValue] at hv)
 cases k with
 | inl k=>exact byV ((Ax prog w).byValue _ _ hk)
 |
  inr ks=>
  obtain⟨c,rfl,p⟩:=hk
  have hT:=p.typeIs
  obtain⟨o,items,n',ho,hc,hd,hi⟩:=p
  unfold hashByValue
  refine se (x6 hT Aar.lookup ?_)
  dsimp only
  refine se (wpSeq? ho hd ?_)
  refine se ?_
  show wpAny _ _ (forIn items _ _) _ _ _
  rw[←xr]
  refine wb _ (λrest r s'=>s'=s/\∀v∈rest,carriedByValue v=true) _ ?_ ?_ _ _ ⟨rfl,hi.byValue⟩
  ·
   rintro v rest r s' ⟨rfl,hall⟩
   refine se (byV' (λb=>?_) (hall v sk))
   refine xa (λ_=>si (si (h _))) (λ_=>si ⟨rfl,λu hu'=>hall u (sq _ hu')⟩)
  ·
   rintro⟨r1,r2⟩ s' ⟨rfl,_⟩
   cases r1<;>exact si (h _)
theorem hbv {ks:List NK}{c:Addr}{n:Nat}{Q:Bool->Shared->Prop}(hk:IsNest prog w s.heap ks c)(h:∀b,Q b s):wpAny (model prog w) A (hashByValue (n+2) (.ref c)) Q E s:=by
 have hT:=hk.typeIs
 obtain⟨o,items,n',ho,hc,hd,hi⟩:=hk
 unfold hashByValue
 refine se (x6 hT Aar.lookup ?_)
 dsimp only
 refine se (wpSeq? ho hd ?_)
 refine se ?_
 show wpAny _ _ (forIn items _ _) _ _ _
 rw[←xr]
 refine wb _ (λrest r s'=>s'=s/\∃left,NItems prog w s.heap left rest) _ ?_ ?_ _ _ ⟨rfl,ks,hi⟩
 ·
  rintro v rest r s' ⟨rfl,left,hl⟩
  cases hl with
  |
   @cons k _ ks' _ h1 hl'=>
   refine se (rl h1 λb=>?_)
   refine xa (λ_=>si (si (h _))) (λ_=>si ⟨rfl,ks',hl'⟩)
 ·
  rintro⟨r1,r2⟩ s' ⟨rfl,_⟩
  cases r1<;>exact si (h _)
theorem Tx {k:List NK}:lq xs k=true↔ ∃x∈xs,x.1=k:=by
 unfold lq
 rw[List.any_eq_true]
 constructor
 ·
  rintro⟨x,hx,e⟩
  exact⟨x,hx,tw e⟩
 ·
  rintro⟨x,hx,e⟩
  exact⟨x,hx,so e⟩
theorem W6 {k:List NK}{c:Addr}{Q:Bool->Shared->Prop}(hS:SetN prog w a xs s.heap)(hx:IsNest prog w s.heap k c)(hy:∀x∈xs,IsNest prog w s.heap x.1 x.2)(hr:xs.length<300)(hu:A.units+1<cLine)
  (h:∀h' b,Heap.SameBut a s.heap h'->SetN prog w a (Qj xs (k,c)) h'->Q b {s with heap:=h'}):
  wpAny (model prog w) A (setAddHashed a (.ref c) (B5 prog w k)) Q E s:=by
 obtain⟨es,ep,t,ho,P⟩:=hS
 have hl:=P.len
 have en:∀e∈es.toList,∃x∈xs,e=(B5 prog w x.1,Value.ref x.2):=λe he=>by
  obtain⟨x,hx,e⟩:=t6.mp (P.el.mem_iff.mp he)
  exact⟨x,hx,e.symm⟩
 have hin:(∃e∈es.toList,EnAt prog w s.heap e k)↔lq xs k=true:=by
  rw[Tx]
  constructor
  ·
   rintro⟨e,he,hk⟩
   obtain⟨x,hx,rfl⟩:=en e he
   exact⟨x,hx,EnAt.inj ⟨x.2,rfl,hy x hx,rfl⟩ hk⟩
  ·
   rintro⟨x,hx',rfl⟩
   exact⟨_,P.el.mem_iff.mpr (uu hx'),x.2,rfl,hy x hx',rfl⟩
 unfold setAddHashed setAddHashedIn
 refine vn (se (wc ho rfl P.T.fits ?_))
 dsimp only
 rw[if_neg (by unfold byScan;simp[Value.scannable])]
 refine se (Wh ho P.T hu hx (λe he=>let ⟨x,h1,h2⟩:=en e he;⟨x.1,x.2,by rw[h2],hy x h1,by rw[h2]⟩) P.way (λz=>?_) (λz j hj hm hway=>?_))
 ·
  refine si (h s.heap false (Heap.SameBut.refl a s.heap) ⟨es,ep,t,ho,?_⟩)
  unfold Qj
  rw[if_pos (hin.mp z)]
  exact P
 have hno:¬lq xs k=true:=λy=>z (hin.mpr y)
 have hjp:j∉t.place.toList:=W9 P.T.ri hj
 dsimp only
 refine se (wc ho rfl P.T.fits ?_)
 dsimp only
 have pb:SetTable.below t.place j<=es.size:=by have:=(below_at P.T.ri j).1;rw[P.T.sz] at this;exact this
 have pp:(t.put j).1.place=SetTable.insertAt t.place (SetTable.below t.place j) j:=rfl
 have pd:(t.put j).1.dummies=#[]:=by
  show(if SetTable.has t.dummies j then _ else t.dummies)=_
  rw[P.T.nd,if_neg (by unfold SetTable.has;simp)]
 have pn:(t.put j).2=SetTable.below t.place j:=rfl
 have t1l:(SetTable.insertAt es (SetTable.below t.place j) (B5 prog w k,Value.ref c)).toList=es.toList.take (SetTable.below t.place j)++(B5 prog w k,Value.ref c)::es.toList.drop (SetTable.below t.place j):=Aap ..
 have t2l:(t.put j).1.place.toList=t.place.toList.take (SetTable.below t.place j)++j::t.place.toList.drop (SetTable.below t.place j):=Aap ..
 have sz1:(SetTable.insertAt es (SetTable.below t.place j) (B5 prog w k,Value.ref c)).size=es.size+1:=by
  rw[←sv,t1l,ue,t5,ux,vy,sv]
  lia
 have pl1:(SetTable.insertAt es (SetTable.below t.place j) (B5 prog w k,Value.ref c)).toList.Perm ((xs++[(k,c)]).map λx=>(B5 prog w x.1,Value.ref x.2)):=by
  rw[t1l,uv]
  refine List.perm_middle.trans ?_
  rw[zd]
  exact(List.Perm.cons _ P.el).trans (List.perm_append_singleton _ _).symm
 have nd1:((xs++[(k,c)]).map (·.1)).Nodup:=by
  rw[uv]
  refine Abd.mpr ⟨P.nd,wt.mpr ⟨ym,.nil⟩,λx hx y hy=>?_⟩
  obtain⟨x',hx',rfl⟩:=t6.mp hx
  rw[zu,tj] at hy
  subst hy
  exact λe=>hno (Tx.mpr ⟨x',hx',e⟩)
 have ri1:Rises (t.put j).1.place.toList:=kq P.T.ri hjp
 have mem1:∀i∈t.place.toList,i∈(t.put j).1.place.toList:=λi hi=>by
  rw[t2l]
  rw[←zd (SetTable.below t.place j) t.place.toList] at hi
  rcases uh.mp hi with hi|hi
  · exact vc _ hi
  · exact t4 _ (sq _ hi)
 have way1:∀(i:Nat)(e:Int×Value)(j':Nat),(SetTable.insertAt es (SetTable.below t.place j) (B5 prog w k,Value.ref c))[i]?=some e->(t.put j).1.place[i]?=some j'->Way (t.put j).1 e.1 j':=λi e j' z1 z2=>by
  rw[←t7,t1l] at z1
  rw[←t7,t2l] at z2
  have l1:SetTable.below t.place j<=es.toList.length:=by rw[sv];exact pb
  have l2:SetTable.below t.place j<=t.place.toList.length:=by rw[sv];exact(below_at P.T.ri j).1
  rcases fc l1 z1 with⟨a1,a2⟩|⟨a1,a2⟩|⟨a1,a2⟩<;>rcases fc l2 z2 with⟨b1,b2⟩|⟨b1,b2⟩|⟨b1,b2⟩<;>try (exfalso;lia)
  ·
   rw[t7] at a2 b2
   exact(P.way _ _ _ a2 b2).up rfl mem1
  ·
   subst a2;subst b2
   exact hway.up rfl mem1
  ·
   rw[t7] at a2 b2
   exact(P.way _ _ _ a2 b2).up rfl mem1
 have le1:∀i∈(t.put j).1.place.toList,i<=t.mask:=λi hi=>by
  rw[t2l] at hi
  rcases uh.mp hi with hi|hi
  · exact P.T.le i (zi hi)
  ·
   rcases uq.mp hi with rfl|hi
   · exact hm
   · exact P.T.le i (Aau hi)
 have sz2:(t.put j).1.place.size=es.size+1:=by
  rw[←sv,t2l,ue,t5,ux,vy,sv,P.T.sz]
  lia
 rw[pn]
 generalize SetTable.insertAt es (SetTable.below t.place j) (B5 prog w k,Value.ref c)=es1 at sz1 pl1 way1 t1l ⊢
 have sl:∀n,n<=300->n<=sizeLine:=λn hn=>by rw[vd];lia
 have fin:∀t2:SetTable,t2.mask=t.mask->t2.place=(t.put j).1.place->t2.dummies=#[]->t2.led=t.led->wpAny (model prog w) A (do
   storeSet a es1 t2
   if !false&&t2.tooFull then setRelay a (SetTable.grown (es.size+1))
   return true) Q E s:=by
  intro t2 e1 e2 e3 e4
  refine se (wpAny_storeSet_of ho rfl ?_ (sl _ (by lia)))
  have o1:=stored (es':=es1) (t':=t2) ho
  have sb1:=xm s.heap a (Obj.putSet es1 t2)
  have fl:t2.fill=es.size+1:=by unfold SetTable.fill;rw[e2,e3,sz2];rfl
  have pf:=P.T.fl
  have ft:t2.fits es1.size=true:=by
   unfold SetTable.fits
   rw[fl,e2,sz2,sz1,e1,Aaf]
   exact so (by lia)
  have way2:∀(i:Nat)(e:Int×Value)(j':Nat),es1[i]?=some e->t2.place[i]?=some j'->Way t2 e.1 j':=λi e j' z1 z2=>by
   rw[e2] at z2
   exact(way1 i e j' z1 z2).up e1 λi hi=>by rw[e2];exact hi
  refine xa (λhf=>?_) (λhf=>si ?_)
  ·
   have hf:(es.size+1)*5≥t.mask*3:=by
    have hf:t2.tooFull=true:=hf
    unfold SetTable.tooFull at hf
    rw[fl,e1] at hf
    exact tw hf
   have big:∃m,Cyc m/\m%2=1/\m<=2047/\(es.size+1)*5<m*3/\(m=7∨m=31∨m=127∨m=511)/\SetTable.sizeAbove (SetTable.grown (es.size+1))-1=m/\¬SetTable.sizeAbove (SetTable.grown (es.size+1))>sizeLine:=by
    rcases P.msk with z|z|z|z
    ·
     rw[z] at hf pf
     rw[show es.size+1=5 by lia]
     exact⟨31,nc,rfl,by decide,by decide,.inr (.inl rfl),by decide,by rw[vd];decide⟩
    ·
     rw[z] at hf pf
     rw[show es.size+1=19 by lia]
     exact⟨127,jr,rfl,by decide,by decide,.inr (.inr (.inl rfl)),by decide,by rw[vd];decide⟩
    ·
     rw[z] at hf pf
     rw[show es.size+1=77 by lia]
     exact⟨511,jy,rfl,by decide,by decide,.inr (.inr (.inr rfl)),by decide,by rw[vd];decide⟩
    · lia
   obtain⟨m,m1,m2,m3,m4,m5,m6,m7⟩:=big
   obtain⟨t',order,r1,r2,r3,r4,r5,r6,r7,r8,r9⟩:=Z7 (t:=t2) (es:=es1) m1 m6 (by lia)
   unfold setRelay
   refine se (se (wc o1 rfl ft ?_))
   dsimp only
   rw[if_neg m7]
   have zz:(order.filterMap (es1[·]?)).size=es1.size:=by rw[←sv,r2.length_eq,sv]
   show wpAny _ _ ((do
    let some (t,order):=t2.relaid (es1.map (·.1)) (SetTable.grown (es.size+1))|unsupported "internal:set-table-without-room"
    let es':=order.filterMap (es1[·]?)
    if es'.size != es1.size then unsupported "internal:set-table-lost-an-element"
    pure (es',t))>>=_) _ _ _
   rw[r1]
   dsimp only
   rw[if_neg (by rw[zz];simp)]
   refine se (si ?_)
   dsimp only
   refine wpAny_storeSet_of o1 rfl (si ?_) (sl _ (by lia))
   refine h _ true (sb1.trans (xm _ a _)) ⟨_,_,_,stored o1,?_⟩
   unfold Qj
   rw[if_neg hno]
   refine⟨r2.trans pl1,nd1,⟨by rw[r6,zz],r7,r5,by rw[r3];exact r8,by rw[r3];exact m1,by rw[r3];exact m2,by rw[r3];exact m3,by rw[r3,zz,sz1];exact m4,by rw[r4,e4];exact P.T.led⟩,by rw[r3];exact m5,r9⟩
  ·
   have hf:¬(es.size+1)*5≥t.mask*3:=λy=>hf (by
    show t2.tooFull=true
    unfold SetTable.tooFull
    rw[fl,e1]
    exact so y)
   refine h _ true sb1 ⟨_,_,_,o1,?_⟩
   unfold Qj
   rw[if_neg hno]
   exact⟨pl1,nd1,⟨by rw[e2,sz2,sz1],by rw[e2];exact ri1,e3,by rw[e2,e1];exact le1,by rw[e1];exact P.T.cy,by rw[e1];exact P.T.od,by rw[e1];exact P.T.sm,by rw[e1,sz1];lia,by rw[e4];exact P.T.led⟩,by rw[e1];exact P.msk,way2⟩
 have tail:∀b:Bool,wpAny (model prog w) A (do
   storeSet a es1 (if b then(t.put j).1 else{(t.put j).1 with plain:=false})
   if !false&&(if b then(t.put j).1 else{(t.put j).1 with plain:=false}).tooFull then setRelay a (SetTable.grown (es.size+1))
   return true) Q E s:=λb=>by
  cases b
  · exact fin _ rfl rfl pd rfl
  · exact fin _ rfl rfl pd rfl
 exact xa (λ_=>se (hbv hx λb=>tail b)) (λ_=>se (si (tail true)))
end
section
variable {prog:Program}{w:World}{A:Around}{E:Value->Shared->Prop}{s:Shared}
end
section
variable {X:Cx}
theorem Inv.drew {pins:List (Addr×Obj)}{σ:St}{H:Hp}{s:Shared}(I:Inv X pins σ H s)(dr:PySem.Drawn):Inv X pins σ H {s with drawn:=dr}:=
 ⟨I.ok,I.os,I.bare,I.base,I.loc,I.cell,I.free,I.freeC,I.pin,I.hok,I.len⟩
end
section
variable {prog:Program}{w:World}{A:Around}{E:Value->Shared->Prop}{s:Shared}{d it:Addr}{es:Array DictEntry}{ep i:Nat}
end
end L2
namespace L2
open PySem PySem.W PyProof.Rows PySem.SeqAt DX
def nkO:KeyOrd where
 α:=List NK
 blt:=ltL
 irrefl:=Nm.irr
 trans:=Nm.tr
 negTrans:=λa b c h=>Nm.neg h
 total:=Nm.tot
section
variable {prog:Program}{w:World}{A:Around}{s:Shared}
theorem Nn {C:Bool->Shared->Prop}{fin:Bool}(hu:A.units<cLine):∀{ks ks':List NK}{us us':List Value}(i:Nat),NItems prog w s.heap ks us->NItems prog w s.heap ks' us'->okL ks ks'=true->fin=decide (ks.length<ks'.length)->
  (i=0->∃t r t' r',ks=.inl (.inr t)::r/\ks'=.inl (.inr t')::r')->C (ltL ks ks') s->KatLex prog w A true fin C (us.zip us') i s
 |
  [],ks',_,us',i,.nil,h',_,hf,_,hC=>by
  have e:ltL [] ks'=fin:=by rw[hf];exact(U4 (op:=.Lt) (.inl rfl) (lt:=ltN) (xs:=[]) (.inl rfl)).symm
  rw[e] at hC
  exact kat_nil hC
 |
  k::ks,[],us,_,i,h,.nil,_,hf,_,hC=>by
  have e:ltL (k::ks) []=fin:=by rw[hf];exact(U4 (op:=.Lt) (.inl rfl) (lt:=ltN) (ys:=[]) (.inr rfl)).symm
  rw[e] at hC
  rw[List.zip_nil_right]
  exact kat_nil hC
 |
  k::ks,k'::ks',_,_,i,.cons (v:=u) (vs:=us) h1 h2,.cons (v:=u') (vs:=us') h1' h2',ok,hf,h0,hC=>by
  have e:ltL (k::ks) (k'::ks')=if k=k' then ltL ks ks' else ltN k k':=rfl
  rw[e] at hC
  unfold okL at ok
  rw[xo]
  refine kat_cons (O9 hu h1 h1' ?_)
  by_cases ek:k=k'
  ·
   rw[if_pos ek] at ok hC
   rw[so ek]
   exact kat_yes (Nn hu (i+1) h2 h2' ok (by rw[hf];exact xj.mpr (by simp only[t5];lia)) (λz=>absurd z (Nat.succ_ne_zero _)) hC)
  ·
   rw[if_neg ek] at ok hC
   rw[ua ek]
   refine kat_no ?_
   by_cases hi:i=0
   ·
    subst hi
    obtain⟨t,r,t',r',e1,e2⟩:=h0 rfl
    injection e1 with e1 _
    injection e2 with e2 _
    subst e1 e2
    obtain⟨tk,rfl⟩:=vx (x:=t) (v:=u) h1
    obtain⟨tk',rfl⟩:=vx (x:=t') (v:=u') h1'
    exact oneLt_str hC
   ·
    have ei:(true&&i==0)=false:=by rw[zk];exact wm.mpr hi
    rw[ei]
    exact kat_one _ _ (ba (op:=.Lt) (.inl rfl) hu h1 h1' ok prog w _ _ hC)
abbrev Vx (ks:List NK):Prop:=∃t r,ks=.inl (.inr t)::r
theorem Vv {h:Heap}:∀{ms:List (List NK×Addr)},(∀x∈ms,IsNest prog w h x.1 x.2/\Vx x.1)->∃fs,KatTups h (ms.map λx=>Value.ref x.2) fs/\fs.length=ms.length/\∀v∈fs,∃(t:Str)(k:Tok),v=.str t k
 | [],_=>⟨[],trivial,rfl,λ_ z=>nomatch z⟩
 |
  x::ms,H=>by
  obtain⟨fs,k,e,hv⟩:=Vv (ms:=ms) λy hy=>H y (sq _ hy)
  obtain⟨⟨o,its,n,ho,hc,hd,hi⟩,t,r,ex⟩:=H x (sk ..)
  rw[ex] at hi
  generalize hl:its.toList=l at hi
  cases hi with
  |
   cons h1 h2=>
   obtain⟨tk,rfl⟩:=vx (x:=t) h1
   refine⟨.str t tk::fs,KatTups.cons ho hc hd (by rw[←t7,hl];rfl) k,by rw[t5,t5,e],λv hm=>?_⟩
   rcases uq.mp hm with rfl|hm
   · exact⟨_,_,rfl⟩
   · exact hv v hm
open Classical in
noncomputable def Vt (prog:Program)(w:World)(h:Heap):Value->List NK
 | .ref a=>if x:∃ks,IsNest prog w h ks a then x.choose else[]
 | _=>[]
open Classical in
theorem Im {h:Heap}{ks:List NK}{a:Addr}(x:IsNest prog w h ks a):Vt prog w h (.ref a)=ks:=by
 unfold Vt
 have y:∃ks,IsNest prog w h ks a:=⟨ks,x⟩
 show(if x:∃ks,IsNest prog w h ks a then x.choose else[])=ks
 rw[dif_pos y]
 exact y.choose_spec.inj x
theorem IsNest.kept {h h':Heap}{ks:List NK}{a:Addr}(x:IsNest prog w h ks a)(kp:∀b o,h.get? b=some o->h'.get? b=some o):IsNest prog w h' ks a:=by
 obtain⟨o,its,n,ho,hc,hd,hi⟩:=x
 refine⟨o,its,n,kp _ _ ho,hc,hd,?_⟩
 generalize its.toList=vs at hi
 induction hi with
 | nil=>exact .nil
 |
  @cons k v ks vs h1 _ ih=>
  refine .cons ?_ ih
  cases k with
  | inl k=>exact h1
  | inr ks=>obtain⟨b,e,o,its,n,ho,r⟩:=h1;exact⟨b,e,o,its,n,kp _ _ ho,r⟩
theorem Om {h₀:Heap}{ms:List (List NK×Addr)}(hu:A.units<cLine)(h1:1<=ms.length)(kp:∀b o,h₀.get? b=some o->s.heap.get? b=some o)(H:∀x∈ms,IsNest prog w h₀ x.1 x.2/\Vx x.1)(ok:∀x∈ms,∀y∈ms,okL x.1 y.1=true):
  SortsV prog w A s (tuples' true) (O:=nkO) (Vt prog w h₀) (ms.map λx=>Value.ref x.2) where
 kind:=λE Q hq=>by
  obtain⟨fs,k,e,hv⟩:=Vv (h:=s.heap) (ms:=ms) λx hx=>⟨(H x hx).1.kept kp,(H x hx).2⟩
  refine kat_kind (T:=.type "str") k (by lia) (λv hm=>?_) rfl hq
  obtain⟨i,t,rfl⟩:=hv v hm
  exact W.Looks.now
 cmp:=λu hu' v hv C hC=>by
  obtain⟨x,hx,rfl⟩:=t6.mp hu'
  obtain⟨y,hy,rfl⟩:=t6.mp hv
  have ax:=H x hx
  have ay:=H y hy
  have hC':C (ltL (Vt prog w h₀ (.ref x.2)) (Vt prog w h₀ (.ref y.2))) s:=hC
  rw[Im ax.1,Im ay.1] at hC'
  obtain⟨o,its,n,ho,hc,hd,hi⟩:=ax.1.kept kp
  obtain⟨o',its',n',ho',hc',hd',hi'⟩:=ay.1.kept kp
  refine kat_lt ho hd ho' hd' (Nn hu 0 hi hi' (ok x hx y hy) ?_ (λ_=>?_) hC')
  · rw[hi.length,hi'.length,sv,sv]
  ·
   obtain⟨t,r,e⟩:=ax.2
   obtain⟨t',r',e'⟩:=ay.2
   exact⟨t,r,t',r',e,e'⟩
end
section
variable {X:Cx}
end
end L2
namespace L2
open PySem PySem.Spec PySem.Calls PyProof.Rows
section
variable {X:Cx}{m:Str}{apos pos:Pos}{o:Expr}{ta:TE}
def k8 (m:Str)(D:Addr->(V->List V->Hp->VK->Prop)->Prop)(ta:TE):TE:=λσ H Q=>ta σ H λx H1=>∃a C dx fs R,x=.ref a/\H1 a=some (.ins C dx fs)/\fs.lookup m=none/\D C R/\R x [] H1 Q
theorem Qn {pl:Sem Bool}{D:Addr->(V->List V->Hp->VK->Prop)->Prop}(he:PE X o ta)(hD:∀C R,D C R->Ans X m 0 C R)
  (ht:eval (.Call (.Attribute o m apos) [] [] pos) X.env=(do
   let ov ←eval o X.env
   standAt apos.atName
   let (f,first) ←holding [ov] (getMethod ov m pl)
   callWith pos f first (backTo pos (starEach [] X.env)) (backToKw pos (keywordEach [] X.env))):=by rfl):
  PE X (.Call (.Attribute o m apos) [] [] pos) (k8 m D ta):=by
 intro pins s σ H Q I h
 refine W.methodCall_KW (pl:=pl) (thn (he pins s σ H _ I h) λu s1 ⟨x,H1,I1,rx,a,C,dx,fs,R,ex,ea,l,d,q⟩=>?_) ht
 subst ex
 obtain rfl:u=Value.ref a:=rx
 obtain⟨c,f,fd,ps,ds,dvs,CX,cm,k,sp,E,hm,F,hr,hb,hd,hx,hR⟩:=hD C R d
 refine Li I1 ea c hm l ?_
 refine W.callWith_K0 (first:=[.ref a]) (Inv.kIn (I1.tok _)) hm.kp ?_
 exact Zl (us:=[.ref a]) (vs:=[.ref a]) F hr hb hd hx (I1.tok _) (.cons rfl .nil) (hR _ _ _ _ rfl q)
end
noncomputable def slot (σ:St)(i:Nat):Option (Option V):=List.rec (motive:=λ_=>Nat->Option (Option V)) (λ_=>none) (λa _ ih i=>Nat.rec (some a) (λj _=>ih j) i) σ i
section
variable {X:Cx}{a b c e:Expr}{ta tb tc te:TE}{pos:Pos}
variable {rest es:List Expr}{t:TA}{K:W.Frag}{f m:Str}{o value:Expr}{tv:TE}{pos' apos:Pos}
end
section
variable {X:Cx}{K:W.Frag}{a b e value:Expr}{es:List Expr}{ta tb tv te:TE}{t:TA}{pos p pos':Pos}{x f':Str}
end
section
variable {X:Cx}{e:Expr}{es:List Expr}{t:TA}{pos p:Pos}{x m:Str}{n j k:Nat}{cm:Bool}{C f:Addr}{fd:FuncData}{ps:List Str}{sp:Sp}
end
end L2
namespace L2
open PySem PySem.Spec PyProof.Rows PySem.SeqAt
section
variable {X:Cx}{cm:Bool}{k:Nat}{f:Addr}{fd:FuncData}{pn x fx:Str}{sp:Sp}{e:Expr}{te:TE}{p p2 kpos pos:Pos}
end
theorem Ql:∀{ts:List Str}{us:List Value},Vals (ts.map V.str) us->StrsAre us ts
 | [],_,.nil=>.nil
 |
  _::_,_,.cons r1 r2=>by
  obtain⟨t,rfl⟩:=r1
  exact .cons _ t (Ql r2)
theorem Ka:∀{ts:List Str}{us:List Value},StrsAre us ts->Vals (ts.map V.str) us
 | _,_,.nil=>.nil
 | _,_,.cons y t h=>.cons ⟨t,rfl⟩ (Ka h)
section
variable {X:Cx}
end
end L2
namespace HT
open PySem PySem.Spec PyProof.Rows
section
variable {prog:Program}{w:World}{A:Around}{E:Value->Shared->Prop}{s:Shared}
end
end HT
namespace L2
open PySem PySem.Spec PyProof.Rows PySem.SeqAt
section
variable {X:Cx}
end
end L2
namespace HT
open PySem PySem.Spec PyProof.Rows
section
variable {prog:Program}{w:World}{A:Around}{E:Value->Shared->Prop}{s:Shared}
end
end HT
namespace L2
open PySem PySem.Spec PyProof.Rows PySem.SeqAt
section
variable {X:Cx}
end
end L2
namespace L2
open PySem PySem.Spec PyProof.Rows
end L2
namespace DW
open PySem PySem.Spec L2
inductive W where
 | n
 | b (x:Bool)
 | i (z:Int)
 | s (t:Str)
 | ts (l:List Str)
 | ti (z:Int)
section
variable (nm:Str->Bool)
def at_ (ws:List W)(j:Nat):W:=ws.getD j .n
end
section
variable {nm:Str->Bool}{ws:List W}
end
abbrev PW_:=V×W
def ws (ps:List PW_):List W:=ps.map (·.2)
def vs (ps:List PW_):List V:=ps.map (·.1)
def TS (H:Hp)(r:Addr):Prop:=∃l:List Str,H r=some (.tup (l.map V.str))/\l.length<=100/\∀t∈l,t.length<=10000
end DW
namespace L2
open PySem PySem.Spec PyProof.Rows PySem.SeqAt DX DW
inductive Lt where
 | bid (a:Str) (n t b e:Int) (hs:List Str)
 | off (a:Str) (n t:Int)
 | close (a:Str) (n t:Int) (hs:List Str)
 | ans (a:Str) (n t:Int) (h:Str) (g:Int) (w:Str)
theorem Nx:∀{ms:List (List NK×Addr)}{us:List Value},Vals (ms.map λx=>V.ref x.2) us->us=ms.map λx=>Value.ref x.2
 | [],_,.nil=>rfl
 | _::_,_,.cons r1 r2=>by rw[show _=Value.ref _ from r1,Nx r2];rfl
section
variable {X:Cx}
end
end L2
namespace L2
open PySem PySem.W PyProof.Rows PySem.SeqAt DX
abbrev Oh (ks:List NK):Prop:=∃i r,ks=.inl (.inl i)::r
section
variable {prog:Program}{w:World}{A:Around}{s:Shared}
theorem Xi {C:Bool->Shared->Prop}{fin:Bool}(hu:A.units<cLine){ks ks':List NK}{us us':List Value}(h:NItems prog w s.heap ks us)(h':NItems prog w s.heap ks' us')(ok:okL ks ks'=true)(hf:fin=decide (ks.length<ks'.length))
  (i1:Oh ks) (i2:Oh ks') (hC:C (ltL ks ks') s):KatLex prog w A true fin C (us.zip us') 0 s:=by
 obtain⟨i,r,rfl⟩:=i1
 obtain⟨j,r',rfl⟩:=i2
 cases h with
 | @cons _ u _ us h1 h2=>
 cases h' with
 | @cons _ u' _ us' h1' h2'=>
 have e:ltL (.inl (.inl i)::r) (.inl (.inl j)::r')=if(Sum.inl (Sum.inl i):NK)=.inl (.inl j) then ltL r r' else ltN (.inl (.inl i)) (.inl (.inl j)):=rfl
 rw[e] at hC
 unfold okL at ok
 rw[xo]
 refine kat_cons (O9 hu h1 h1' ?_)
 by_cases ek:(Sum.inl (Sum.inl i):NK)=.inl (.inl j)
 ·
  rw[if_pos ek] at ok hC
  rw[so ek]
  exact kat_yes (Nn hu 1 h2 h2' ok (by rw[hf];exact xj.mpr (by simp only[t5];lia)) (λz=>absurd z (by decide)) hC)
 ·
  rw[if_neg ek] at ok hC
  rw[ua ek]
  refine kat_no ?_
  obtain⟨tk,rfl⟩:=wx (k:=i) (v:=u) h1
  obtain⟨tk',rfl⟩:=wx (k:=j) (v:=u') h1'
  exact oneLt_int hC
theorem Qy {h:Heap}:∀{ms:List (List NK×Addr)},(∀x∈ms,IsNest prog w h x.1 x.2/\Oh x.1)->∃fs,KatTups h (ms.map λx=>Value.ref x.2) fs/\fs.length=ms.length/\∀v∈fs,∃(t:Int)(k:Tok),v=.int t k
 | [],_=>⟨[],trivial,rfl,λ_ z=>nomatch z⟩
 |
  x::ms,H=>by
  obtain⟨fs,k,e,hv⟩:=Qy (ms:=ms) λy hy=>H y (sq _ hy)
  obtain⟨⟨o,its,n,ho,hc,hd,hi⟩,t,r,ex⟩:=H x (sk ..)
  rw[ex] at hi
  generalize hl:its.toList=l at hi
  cases hi with
  |
   cons h1 h2=>
   obtain⟨tk,rfl⟩:=wx (k:=t) h1
   refine⟨.int t tk::fs,KatTups.cons ho hc hd (by rw[←t7,hl];rfl) k,by rw[t5,t5,e],λv hm=>?_⟩
   rcases uq.mp hm with rfl|hm
   · exact⟨_,_,rfl⟩
   · exact hv v hm
theorem Np {h₀:Heap}{ms:List (List NK×Addr)}(hu:A.units<cLine)(h1:1<=ms.length)(kp:∀b o,h₀.get? b=some o->s.heap.get? b=some o)(H:∀x∈ms,IsNest prog w h₀ x.1 x.2/\Oh x.1)(ok:∀x∈ms,∀y∈ms,okL x.1 y.1=true):
  SortsV prog w A s (tuples' true) (O:=nkO) (Vt prog w h₀) (ms.map λx=>Value.ref x.2) where
 kind:=λE Q hq=>by
  obtain⟨fs,k,e,hv⟩:=Qy (h:=s.heap) (ms:=ms) λx hx=>⟨(H x hx).1.kept kp,(H x hx).2⟩
  refine kat_kind (T:=.type "int") k (by lia) (λv hm=>?_) rfl hq
  obtain⟨i,t,rfl⟩:=hv v hm
  exact W.Looks.now
 cmp:=λu hu' v hv C hC=>by
  obtain⟨x,hx,rfl⟩:=t6.mp hu'
  obtain⟨y,hy,rfl⟩:=t6.mp hv
  have ax:=H x hx
  have ay:=H y hy
  have hC':C (ltL (Vt prog w h₀ (.ref x.2)) (Vt prog w h₀ (.ref y.2))) s:=hC
  rw[Im ax.1,Im ay.1] at hC'
  obtain⟨o,its,n,ho,hc,hd,hi⟩:=ax.1.kept kp
  obtain⟨o',its',n',ho',hc',hd',hi'⟩:=ay.1.kept kp
  refine kat_lt ho hd ho' hd' (Xi hu hi hi' (ok x hx y hy) ?_ ax.2 ay.2 hC')
  rw[hi.length,hi'.length,sv,sv]
end
section
variable {X:Cx}
theorem Rc (hu:X.A.units+2<cLine):Gd X (.builtin "sorted") (λxs H Q=>∃(l:Addr)(ms:List (List NK×Addr)),xs=[.ref l]/\H l=some (.lst (ms.map λx=>V.ref x.2))/\(∀x∈ms,jc H x.1 x.2)/\ms.length<64/\((∀x∈ms,Vx x.1)∨(∀x∈ms,Oh x.1))/\(∀x∈ms,∀y∈ms,okL x.1 y.1=true)/\
  ∀(D:Addr)(qs:List (List NK×Addr)),H D=none->qs.Perm ms->(keysOf qs).Pairwise (λx y=>ltL y x=false)->Q (.ref D) (upd H D (.lst (qs.map λx=>V.ref x.2)))):=by
 intro pins s σ H xs us Q I r h
 obtain⟨l,ms,rfl,hl,hk,h64,hs,ok,q⟩:=h
 obtain⟨u,rfl,ru⟩:=vals1 r
 cases ru
 obtain⟨its,rv,pl,hz⟩:=I.list (SqL.of (K:=X.K) hl)
 have e:=Nx rv
 subst e
 have hn:∀x∈ms,IsNest X.prog X.w s.heap x.1 x.2:=λx hx=>Uh I.hok (hk x hx)
 refine Hs (G:=λvs=>vs=ms.map λx=>Value.ref x.2) (O:=nkO) (key:=Vt X.prog X.w s.heap) (κ:=tuples' true)
  (λE' Q' hq=>collect_list pl.isList (hq _ s.toks _ (λb o q=>by rw[yy _ _ _ _ (ug (sr q)),Aaq _ _ _ (ug (sr q))];exact q) (by rw[Heap.size_update,size_push'];exact y6 _) rfl) (by rw[sf,vd];lia)) ?_ (λvs e h2 s' kp=>?_) λD h' tk vs us e hg a1 a2 kp hge he=>?_
 ·
  rintro vs rfl
  rw[sf]
  exact h64
 ·
  subst e
  rw[sf] at h2
  rcases hs with hs|hs
  · exact Om (A:=X.A.in1.in1) hu (by lia) kp (λx hx=>⟨hn x hx,hs x hx⟩) ok
  · exact Np (A:=X.A.in1.in1) hu (by lia) kp (λx hx=>⟨hn x hx,hs x hx⟩) ok
 ·
  subst hg
  obtain⟨qs,p1,rfl⟩:=Hm (f:=λ(x:List NK×Addr)=>Value.ref x.2) a1 ms rfl
  refine⟨.ref D,_,I.laid (t':=tk) (o:=.lst (qs.map λx=>V.ref x.2)) kp hge ?_,rfl,q _ qs (I.hok.fresh hge) p1 ?_⟩
  ·
   refine⟨by rw[sf,p1.length_eq,vd];lia,_,e,?_,he⟩
   clear a1 a2 p1 he
   induction qs with
   | nil=>exact .nil
   | cons x qs ih=>exact .cons rfl ih
  ·
   rw[yc] at a2 ⊢
   refine a2.imp_of_mem λ{x y}hx hy z=>?_
   have z':ltL (Vt X.prog X.w s.heap (.ref y.2)) (Vt X.prog X.w s.heap (.ref x.2))=false:=z
   rw[Im (hn _ (p1.mem_iff.mp hx)),Im (hn _ (p1.mem_iff.mp hy))] at z'
   exact z'
theorem NItems.get {prog:Program}{w:World}{h:Heap}:∀{ks:List NK}{us:List Value},NItems prog w h ks us->∀(j:Nat)(hj:j<us.length),∃k,ks[j]?=some k/\NItem prog w h k us[j]
 | _,_,.nil,j,hj=>absurd hj (wq _)
 | _,_,.cons h1 _,0,_=>⟨_,rfl,h1⟩
 |
  _,_,.cons _ h2,j+1,hj=>by
  obtain⟨k,e,q⟩:=NItems.get h2 j (by simpa using hj)
  exact⟨k,by simpa using e,by simpa using q⟩
end
theorem Zo {H:Hp}{p:Addr}:∀{ks:List Key}{vs:List V},vs=ks.map kV->NkVs H (ks.map Sum.inl) vs
 | [],_,rfl=>.nil
 | _::_,_,rfl=>.cons rfl (Zo (p:=p) rfl)
theorem d8 {H:Hp}{p:Addr}{ks:List Key}(h:H p=some (.tup (ks.map kV))):jc H (ks.map Sum.inl) p:=⟨_,h,Zo (p:=p) rfl⟩
section
variable {X:Cx}
end
section
variable {prog:Program}{w:World}{A:Around}{E:Value->Shared->Prop}{s:Shared}{O:KeyOrd}{key:Value->O.α}{κ:SortKind}
end
section
variable {X:Cx}
end
theorem bb (xs:List (List NK×Addr))(x:List NK×Addr):(Qj xs x).length<=xs.length+1:=by
 unfold Qj
 split
 · exact y6 _
 · rw[ue];exact tq _
theorem Vq {xs:List (List NK×Addr)}{x y:List NK×Addr}(h:y∈Qj xs x):y∈xs∨y=x:=by
 unfold Qj at h
 split at h
 · exact .inl h
 ·
  rcases uh.mp h with h|h
  · exact .inl h
  · exact .inr (List.mem_singleton.mp h)
theorem cb {xs:List (List NK×Addr)}{x:List NK×Addr}{k:List NK}:k∈(Qj xs x).map (·.1)↔k∈xs.map (·.1)∨k=x.1:=by
 unfold Qj
 split
 ·
  rename_i h
  refine⟨.inl,λz=>z.elim id λe=>?_⟩
  obtain⟨y,hy,e'⟩:=Tx.mp h
  rw[e,←e']
  exact uu hy
 · rw[uv,uh,zu,tj]
theorem Ow {k:List NK}:∀(ns ds:List (List NK×Addr)),k∈(ns.foldl Qj ds).map (·.1)↔k∈ds.map (·.1)∨k∈ns.map (·.1)
 | [],ds=>by simp
 |
  n::ns,ds=>by
  rw[List.foldl_cons,Ow ns,cb,um,uq,or_assoc]
theorem Ox {y:List NK×Addr}:∀(ns ds:List (List NK×Addr)),y∈ns.foldl Qj ds->y∈ds∨y∈ns
 | [],ds,h=>.inl h
 |
  n::ns,ds,h=>by
  rcases Ox ns _ h with h|h
  ·
   rcases Vq h with h|h
   · exact .inl h
   · exact .inr (by rw[h];exact sk)
  · exact .inr (sq _ h)
section
variable {prog:Program}{w:World}{A:Around}{R:Result->Shared->Prop}{I:Addr}{fp wr:List Addr}{G:Array GenState->Array GenState->Prop}{n:Nat}{P:Nat->Value->Prop}{St:Nat->Shared->Prop}
theorem Yk (W:WalksS prog w A.in1 I fp wr G n P St)(S:Addr)(hSf:S∉fp)(hu:A.units+9<cLine){h0:Heap}(hS0:h0.get? S=none)(hw0:∀b∈wr,h0.get? b=none):
  ∀(rest:List (List NK×Addr))(i:Nat)(ds:List (List NK×Addr))(s:Shared),i+rest.length=n->(∀j x,rest[j]?=some x->∀v,P (i+j) v->v=.ref x.2)->ds.length+rest.length<=300->(∀x∈ds,IsNest prog w h0 x.1 x.2)->(∀x∈rest,IsNest prog w h0 x.1 x.2)->(∀b o,h0.get? b=some o->s.heap.get? b=some o)->St i s->SetN prog w S ds s.heap->
  (∀s',Moved (S::wr) G s s'->SetN prog w S (rest.foldl Qj ds) s'.heap->R (.ok (.ret .none)) s')->codeAny (model prog w) A (.builtin "set.update.loop" ⟨[.ref S,.ref I],[]⟩) R s:=by
 have off:S∉wr:=λz=>hSf (W.sub _ z)
 have sub:∀b∈wr,b∈S::wr:=λb hb=>sq _ hb
 intro rest
 induction rest with
 |
  nil=>
  intro i ds s hi _ _ _ _ _ st hS hR
  have e:i=n:=hi
  subst e
  refine xl F.entry_set_update_loop ?_
  rw[yr Abj _]
  show wpAny _ A.in1 (pyNext (.ref I)>>=_) _ _ s
  refine se (W.done s _ _ st λs' m=>?_)
  exact si (hR s' (m.mono sub) (hS.at' λo e=>m.heap S o off e))
 |
  cons k rest ih=>
  intro i ds s hi hv hz n1 n2 kp st hS hR
  have hlt:i<n:=by simp at hi;lia
  refine xl F.entry_set_update_loop ?_
  rw[yr Abj _]
  show wpAny _ A.in1 (pyNext (.ref I)>>=_) _ _ s
  refine se (W.item i s _ _ hlt st λv s' hP st' m=>?_)
  have ev:=hv 0 k rfl v hP
  subst ev
  have S1:SetN prog w S ds s'.heap:=hS.at' λo e=>m.heap S o off e
  have kp1:∀b o,h0.get? b=some o->s'.heap.get? b=some o:=λb o e=>m.heap b o (λz=>by rw[hw0 b z] at e;cases e) (kp b o e)
  show wpAny _ A.in1 (holding [Value.ref k.2] (setAdd S (.ref k.2))>>=_) _ _ s'
  refine se (vn ?_)
  unfold setAdd
  refine vn (se (Uj (by show A.units+1+1<cLine;lia) ((n2 k sk).kept kp1) ?_))
  refine W6 (s:={s' with toks:=s'.toks+Nw k.1}) S1 ((n2 k sk).kept kp1) (λx hx=>(n1 x hx).kept kp1) (by rw[t5] at hz;lia) (by show A.units+1+1<cLine;lia) λh' b sb S2=>?_
  have kp2:∀b o,h0.get? b=some o->h'.get? b=some o:=λb o e=>by
   rw[sb.2 b (λz=>by rw[z,hS0] at e;cases e)]
   exact kp1 b o e
  refine si ⟨plainId_quiet Abj _,ih (i+1) (Qj ds k) _ (by rw[t5] at hi;lia) (λj k' hj v' hp=>hv (j+1) k' hj v' (by rw[show i+(j+1)=i+1+j by lia];exact hp)) (by have:=bb ds k;rw[t5] at hz;lia) (λx hx=>?_) (λx hx=>n2 x (sq _ hx)) kp2 (W.frame _ s' _ _ st' (Abp _ _) λb hb o e=>?_) S2 λs'' m2 S3=>?_⟩
  ·
   rcases Vq hx with hx|rfl
   · exact n1 x hx
   · exact n2 x sk
  · rw[sb.2 b (λz=>hSf (by rw[←z];exact hb))];exact e
  ·
   refine hR s'' (Moved.trans W.gtrans ((m.mono sub).then_heap (Abp _ _) λb o hb e=>?_) m2) S3
   rw[sb.2 b (λz=>hb (by rw[z];exact sk))];exact e
end
section
variable {prog:Program}{w:World}{A:Around}{E:Value->Shared->Prop}{s:Shared}
theorem af {l:Addr}{items:Array Value}{ns:List (List NK×Addr)}{Q:Value->Shared->Prop}(hh:A.handled=none)(hu:A.units+40<cLine)(hl:s.heap.IsList l items)(hi:items.toList=ns.map λx=>Value.ref x.2)(hk:∀x∈ns,IsNest prog w s.heap x.1 x.2)(hb:ns.length<=300)
  (h:∀h' tk,SetN prog w s.heap.objs.size (ns.foldl Qj []) h'->(∀b o,s.heap.get? b=some o->h'.get? b=some o)->Q (.ref s.heap.objs.size) {s with heap:=h',toks:=tk}):
  wpAny (model prog w) A (call (.type "set") [.ref l]) Q E s:=by
 obtain⟨c,tl,hmro⟩:=F.called_set.mro
 have m1:=F.called_set.made
 have m2:=F.called_set.sub
 have m3:=F.called_set.notType
 have m4:=F.called_set.canCreate
 have m5:=F.typeCall_set_1 (.ref l)
 refine wpAny_call (codeAny_of_tree ?_)
 show wpAny _ _ (callAny (.type "set") _) _ _ _
 refine si ⟨Aah _ (by decide+kernel),xl F.entry_type_call ?_⟩
 rw[Around.under_plain (weight_type_call_type "set" [.ref l] []) rfl]
 repeat (any_goals (first|assumption|wp_step))
 refine zl (f9 (.ref l) (E:=E) (Q₁:=λv s1=>v=.ref s.heap.objs.size/\s1={s with heap:=s.heap.push (Bw #[] 0 (.fresh 0 0 (Qk w)))}) ⟨rfl,rfl⟩) λr s1 hr=>?_
 rcases r with e|f
 · exact hr
 cases f with
 |
  ret v=>
  obtain⟨rfl,rfl⟩:=hr
  have hS:(s.heap.push (Bw #[] 0 (.fresh 0 0 (Qk w)))).get? s.heap.objs.size=some (Bw #[] 0 (.fresh 0 0 (Qk w))):=t9 _ rfl
  have hT:Shared.TypeIs {s with heap:=s.heap.push (Bw #[] 0 (.fresh 0 0 (Qk w)))} (.ref s.heap.objs.size) "set":=⟨_,hS,rfl⟩
  have i1:=F.called_set.init.lookup
  have i2:=F.called_set.init.bind (.ref s.heap.objs.size)
  repeat (any_goals (first|assumption|wp_step))
  refine zl (Aa8 (R:=wants (λr s2=>r=.none/\∃h' tk,s2={s with heap:=h',toks:=tk}/\SetN prog w s.heap.objs.size (ns.foldl Qj []) h'/\∀b o,s.heap.get? b=some o->h'.get? b=some o) E) F.called_set.init.plain F.entry_set_init (check_set_init_1 hT ?_)) λr2 s2 h2=>?_
  ·
   obtain⟨ol,e1,e2,k,e3⟩:=hl
   obtain⟨oc,od,oda,osl⟩:=ol
   simp only at e2 e3
   subst e2;subst e3
   have e1':=sj (Bw #[] 0 (.fresh 0 0 (Qk w))) e1
   have j1:=F.sub_list_set
   have j2:=F.sub_list_frozenset
   have j3:(Value.type "list"==Value.type "dict")=false:=by decide
   have hl1:(s.heap.push (Bw #[] 0 (.fresh 0 0 (Qk w)))).IsList l items:=⟨_,e1',rfl,k,rfl⟩
   unfold Bw at*
   unfold Builtin.«set.__init__» noKeywords Builtin.Frozenset.updateFrom
   generalize hPI:pyIter=PI
   wp_walk
   subst hPI
   refine wpAny_pyIter_list hl1 (se (wpAny_runValue ?_))
   have hlS:l<s.heap.objs.size:=sr e1
   have hn:items.size=ns.length:=by rw[←sv,hi,sf]
   have g0:∀b,s.heap.objs.size<=b->s.heap.get? b=none:=λb hb=>by
    cases e:s.heap.get? b with
    | none=>rfl
    | some o=>exact absurd (sr e) (Nat.not_lt.mpr hb)
   refine Yk (G:=_) ((Walks.list (by simp[hh]) _ l (by rw[wz];exact ug (wo hlS)) items).toS) s.heap.objs.size (by rw[wz];simp only[uq,ym,or_false,not_or];exact⟨ug (vt _),xw hlS⟩) (by show A.units+1+1+9<cLine;lia) (h0:=s.heap) (g0 _ (tq _)) (λb hb=>?_) ns 0 [] _ (by rw[hn];lia) (λj x hj v hv=>?_) (by simpa using hb) (λx hx=>nomatch hx) hk (λb o e=>sj _ (sj _ e)) ⟨⟨_,t9 _ rfl,rfl,rfl⟩,hl1.push _⟩ ⟨#[],0,_,sj _ hS,SetPN.fresh⟩ λs' m S'=>?_
   ·
    rw[tj] at hb
    rw[hb,wz]
    exact g0 _ (y6 _)
   ·
    have hv:items[0+j]?=some v:=hv
    rw[Aas,←t7,hi,ur,hj] at hv
    exact(sy hv).symm
   ·
    obtain⟨h',g',d',tk',os'⟩:=s'
    have q1:g'=s.gens:=m.gens
    have q2:d'=s.drawn:=m.drawn
    have q3:os'=s.os:=m.os
    subst q1;subst q2;subst q3
    show wpAny _ _ _ _ _ _
    refine si ?_
    show wpAny _ _ (ret Value.none) _ _ _
    refine si ⟨rfl,h',tk',rfl,S',λb o e=>?_⟩
    have hb0:=sr e
    refine m.heap b o ?_ (sj _ (sj _ e))
    rw[wz]
    simp only[uq,ym,or_false,not_or]
    exact⟨ug hb0,ug (wo hb0)⟩
  ·
   rcases r2 with e|f2
   · exact h2
   cases f2 with
   |
    ret r=>
    obtain⟨rfl,h',tk,rfl,S',kp⟩:=h2
    repeat (any_goals (first|assumption|wp_step))
    exact h _ _ S' kp
   | _=>exact h2.elim
 | _=>exact hr.elim
end
section
variable {prog:Program}{w:World}{A:Around}{E:Value->Shared->Prop}{s:Shared}{O:KeyOrd}{key:Value->O.α}{κ:SortKind}
theorem Pz {c:Value}{Q:Value->Shared->Prop}{G:List Value->Prop}(hh:A.handled=none)
  (hcol:∀(A':Around),A'.handled=none->∀(E':Value->Shared->Prop)(Q':List Value->Shared->Prop),(∀h' tk dr vs,(∀b o,s.heap.get? b=some o->h'.get? b=some o)->s.heap.objs.size<=h'.objs.size->G vs->Q' vs {s with heap:=h',toks:=tk,drawn:=dr})->wpAny (model prog w) A' (collect c) Q' E' s)
  (hz:∀vs,G vs->vs.length<64) (hS:∀vs,G vs->2<=vs.length->∀(s':Shared),(∀b o,s.heap.get? b=some o->s'.heap.get? b=some o)->SortsV prog w A.in1.in1 s' κ key vs)
  (h:∀(D:Addr)h' tk dr(vs us:List Value)(e:Nat),G vs->us.Perm vs->us.Pairwise (λx y=>O.kle (key x) (key y))->(∀b o,s.heap.get? b=some o->h'.get? b=some o)->s.heap.objs.size<=D->h'.get? D=some (seqObj "list" us.toArray e)->Q (.ref D) {s with heap:=h',toks:=tk,drawn:=dr}):
  wpAny (model prog w) A (call (.builtin "sorted") [c]) Q E s:=by
 refine Aak kind_sorted plain_sorted entry_sorted (args_sorted1 _) ?_
 unfold Builtin.«sorted»
 refine se (m:=checkCount "sorted" 1 1 _) (si (se (hcol A.in1 hh _ _ λh1 tk dr vs kp hge hg=>?_)))
 have h64:=hz vs hg
 refine se (y9 ?_ (by rw[vd];lia))
 have hoL:(h1.push (seqObj "list" vs.toArray 0)).get? h1.objs.size=some (seqObj "list" vs.toArray 0):=t9 _ rfl
 have keep:∀b o,s.heap.get? b=some o->(h1.push (seqObj "list" vs.toArray 0)).get? b=some o:=λb o q=>sj _ (kp b o q)
 have ne:∀b o,s.heap.get? b=some o->b≠h1.objs.size:=λb o q=>ug (sr (kp b o q))
 show wpAny _ _ _ _ _ {s with heap:=h1.push (seqObj "list" vs.toArray 0),toks:=tk,drawn:=dr}
 refine se (vn (vj slot_list_sort ⟨_,hoL,rfl⟩ entry_list_sort (Mw (κ:=κ) (key:=key) hoL h64 (λh2 h' kp'=>hS vs hg h2 _ λb o q=>kp' b o (ne b o q) (keep b o q)) λus a1 a2=>⟨_,rfl,si ⟨_,rfl,?_⟩⟩) (args_list_sort _)))
 obtain⟨e,he⟩:=sortedHeap_at (out:=us.toArray) hoL
 refine h h1.objs.size _ tk dr vs us e hg a1 a2 (λb o q=>?_) hge he
 rw[sortedHeap_old (ne b o q) (sr (keep b o q))]
 exact keep b o q
end
section
variable {X:Cx}
theorem S6 (hc:X.calm=true)(hu:X.A.units+40<cLine):Gd X (.type "set") (λxs H Q=>∃(p:Addr)(ms:List (List NK×Addr)),xs=[.ref p]/\H p=some (.lst (ms.map λx=>V.ref x.2))/\(∀x∈ms,jc H x.1 x.2)/\ms.length<=300/\
  ∀(D:Addr)(ds:List (List NK×Addr)),H D=none->(∀k,k∈ds.map (·.1)↔k∈ms.map (·.1))->(∀x∈ds,x∈ms)->(ds.map (·.1)).Nodup->Q (.ref D) (upd H D (.ext (SetN X.prog X.w D ds)))):=by
 intro pins s σ H xs us Q I r h
 obtain⟨p,ms,rfl,hp,hk,hz,q⟩:=h
 obtain⟨u,rfl,ru⟩:=vals1 r
 cases ru
 obtain⟨its,rv,pl,hl⟩:=I.list (SqL.of (K:=X.K) hp)
 have e:=Nx rv
 subst e
 refine af (I.ok.hd hc) hu pl.isList (by simp) (λx hx=>Uh I.hok (hk x hx)) hz λh' tk S kp=>?_
 have hD:H s.heap.objs.size=none:=I.hok.fresh (tq _)
 have nd:((ms.foldl Qj []).map (·.1)).Nodup:=by obtain⟨_,_,_,_,P⟩:=S;exact P.nd
 refine⟨.ref s.heap.objs.size,_,I.laid (t':=tk) (o:=.ext (SetN X.prog X.w s.heap.objs.size (ms.foldl Qj []))) kp (tq _) ?_,rfl,q _ _ hD (λk=>by rw[Ow];simp) (λx hx=>(Ox ms [] hx).resolve_left (λz=>nomatch z)) nd⟩
 refine⟨S,?_,λh1 h2 a b=>a.at' b⟩
 obtain⟨es,ep,t,ho,_⟩:=S
 exact⟨_,ho⟩
theorem Nz (hc:X.calm=true)(hu:X.A.units+2<cLine):Gd X (.builtin "sorted") (λxs H Q=>∃(p:Addr)(ms:List (List NK×Addr)),xs=[.ref p]/\H p=some (.ext (SetN X.prog X.w p ms))/\(∀x∈ms,jc H x.1 x.2)/\ms.length<64/\((∀x∈ms,Vx x.1)∨(∀x∈ms,Oh x.1))/\(∀x∈ms,∀y∈ms,okL x.1 y.1=true)/\
  ∀(D:Addr)(qs:List (List NK×Addr)),H D=none->qs.Perm ms->(keysOf qs).Pairwise (λx y=>ltL y x=false)->Q (.ref D) (upd H D (.lst (qs.map λx=>V.ref x.2)))):=by
 intro pins s σ H xs us Q I r h
 obtain⟨p,ms,rfl,hp,hk,h64,hs,ok,q⟩:=h
 obtain⟨u,rfl,ru⟩:=vals1 r
 cases ru
 have hn:∀x∈ms,IsNest X.prog X.w s.heap x.1 x.2:=λx hx=>Uh I.hok (hk x hx)
 have S:SetN X.prog X.w p ms s.heap:=(I.hok _ _ hp).1
 obtain⟨es,ep,t,ho,P⟩:=S
 have hlen:=P.len
 have hb:es.size<scanBound:=by
  have h1:=P.T.fl
  have h2:=P.T.sm
  have:(2047:Nat)<scanBound:=by decide
  lia
 have hzz:es.size<=sizeLine:=fits_of_scanBound hb
 have B:Xq X.w es t:=⟨P.T.fits,⟨P.T.ri,P.T.led⟩,hb⟩
 refine Pz (G:=λvs=>∃qs:List (List NK×Addr),qs.Perm ms/\vs=qs.map λx=>Value.ref x.2) (O:=nkO) (key:=Vt X.prog X.w s.heap) (κ:=tuples' true) (I.ok.hd hc) (λA' hh E' Q' hq=>Ud ho B hh λh' tk dr xs kp hge hpm=>hq h' tk dr _ kp hge ?_) ?_ (λvs hg h2 s' kp=>?_) λD h' tk dr vs us e hg a1 a2 kp hge he=>?_
 ·
  obtain⟨qs,p1,e1⟩:=Hm (f:=λ(x:List NK×Addr)=>(B5 X.prog X.w x.1,Value.ref x.2)) (hpm.trans P.el) ms rfl
  refine⟨qs,p1,?_⟩
  rw[e1,uo]
  rfl
 ·
  rintro vs ⟨qs,p1,rfl⟩
  rw[sf,p1.length_eq]
  exact h64
 ·
  obtain⟨qs,p1,rfl⟩:=hg
  rw[sf] at h2
  rcases hs with hs|hs
  · exact Om (A:=X.A.in1.in1) hu (by lia) kp (λx hx=>⟨hn x (p1.mem_iff.mp hx),hs x (p1.mem_iff.mp hx)⟩) λx hx y hy=>ok x (p1.mem_iff.mp hx) y (p1.mem_iff.mp hy)
  · exact Np (A:=X.A.in1.in1) hu (by lia) kp (λx hx=>⟨hn x (p1.mem_iff.mp hx),hs x (p1.mem_iff.mp hx)⟩) λx hx y hy=>ok x (p1.mem_iff.mp hx) y (p1.mem_iff.mp hy)
 ·
  obtain⟨qs0,p0,rfl⟩:=hg
  obtain⟨qs,p1,rfl⟩:=Hm (f:=λ(x:List NK×Addr)=>Value.ref x.2) a1 qs0 rfl
  have p2:=p1.trans p0
  refine⟨.ref D,_,(I.drew dr).laid (t':=tk) (o:=.lst (qs.map λx=>V.ref x.2)) kp hge ?_,rfl,q _ qs (I.hok.fresh hge) p2 ?_⟩
  ·
   refine⟨by rw[sf,p2.length_eq];lia,_,e,?_,he⟩
   clear a1 a2 p1 p2 he
   induction qs with
   | nil=>exact .nil
   | cons x qs ih=>exact .cons rfl ih
  ·
   rw[yc] at a2 ⊢
   refine a2.imp_of_mem λ{x y}hx hy z=>?_
   have z':ltL (Vt X.prog X.w s.heap (.ref y.2)) (Vt X.prog X.w s.heap (.ref x.2))=false:=z
   rw[Im (hn _ (p2.mem_iff.mp hx)),Im (hn _ (p2.mem_iff.mp hy))] at z'
   exact z'
end
end L2
namespace L2
open PySem PySem.W PyProof.Rows
section
variable {X:Cx}{pins:List (Addr×Obj)}{σ:St}{H:Hp}{s:Shared}{a:Addr}{kvs:List (Key×V)}
theorem Inv.swap {u v:HO}(I:Inv X pins σ H s)(ha:H a=some u)(ht:∀xs,u≠ .tup xs)(ho:∀x,u≠ .own x)(hb:∀ps,u≠ .tbl ps)(hf:∀o u',X.H₀ a≠some (.frz o u'))(new:ObjOk X.prog X.w (upd H a v) s.heap a v):Inv X pins σ (upd H a v) s:=by
 have na:∀b,H b=none->b≠a:=λb n z=>by rw[z,ha] at n;cases n
 have nt:∀b xs,H b=some (.tup xs)->b≠a:=λb xs n z=>by rw[z,ha] at n;exact ht xs (sy n)
 have no:∀b x,H b=some (.own x)->b≠a:=λb x n z=>by rw[z,ha] at n;exact ho x (sy n)
 refine⟨I.ok,I.os,I.bare,⟨I.base.keep,I.base.slot,λb o e n hx=>?_,I.base.there,λb xs e=>?_,λb o u' e=>?_,λb ps e=>?_⟩,I.loc,I.cell,?_,λx c e=>?_,λp hp=>?_,λb o e=>?_,I.len⟩
 ·
  have:=I.base.free b o e n hx
  rw[Ad (na b this)]
  exact this
 ·
  have:=I.base.tups b xs e
  rw[Ad (nt b xs this)]
  exact this
 ·
  by_cases z:b=a
  · rw[z] at e;exact absurd e (hf o u')
  · rw[Ad z];exact I.base.frzs b o u' e
 ·
  obtain⟨more,q⟩:=I.base.tbls b ps e
  refine⟨more,?_⟩
  rw[Ad (λz=>by rw[z,ha] at q;exact hb _ (sy q))]
  exact q
 · rw[Ad (na _ I.free)];exact I.free
 · rw[Ad (na _ (I.freeC x c e))];exact I.freeC x c e
 ·
  obtain⟨p1,p2,p3⟩:=I.pin p hp
  exact⟨p1,by rw[Ad (na _ p2)];exact p2,p3⟩
 ·
  by_cases z:b=a
  ·
   subst z
   rw[Ab] at e
   have e:=sy e
   subst e
   exact new
  ·
   rw[Ad z] at e
   exact(I.hok b o e).stay (λc w _ q=>q) (λc q=>by rw[Ad (no c b q)];exact q) λc xs q=>by rw[Ad (nt c xs q)];exact q
theorem Inv.notFrz (I:Inv X pins σ H s){u:HO}(ha:H a=some u)(hu:∀o u',u≠ .frz o u'):∀o u',X.H₀ a≠some (.frz o u'):=λo u' e=>by
 have:=I.base.frzs a o u' e
 rw[ha] at this
 exact hu o u' (sy this)
theorem Inv.freeze {o:Obj}(I:Inv X pins σ H s)(ha:H a=some (.dK kvs))(ho:s.heap.get? a=some o):Inv X pins σ (upd H a (.frz o (.dK kvs))) s:=
 I.swap ha (λ_ z=>nomatch z) (λ_ z=>nomatch z) (λ_ z=>nomatch z) (I.notFrz ha λ_ _ z=>nomatch z) ⟨ho,I.hok a _ ha⟩
theorem Inv.thaw {o:Obj}(I:Inv X pins σ H s)(ha:H a=some (.frz o (.dK kvs)))(hf:∀o u',X.H₀ a≠some (.frz o u')):Inv X pins σ (upd H a (.dK kvs)) s:=
 I.swap ha (λ_ z=>nomatch z) (λ_ z=>nomatch z) (λ_ z=>nomatch z) hf (I.hok a _ ha).2
end
def Itd (a:Addr)(o:Obj):It:=
 ⟨λi H=>∃kvs k,H a=some (.frz o (.dK kvs))/\kvs[i]?=some k,λi H x H'=>H'=H/\∀kvs,H a=some (.frz o (.dK kvs))->∃k,kvs[i]?=some k/\x=kV k.1,λi H=>∃kvs,H a=some (.frz o (.dK kvs))/\kvs.length<=i⟩
theorem U0 {H:Hp}{a:Addr}{o:Obj}{kvs:List (Key×V)}(h:H a=some (.frz o (.dK kvs))):Seq (Itd a o) H (kvs.map λkv=>kV kv.1):=λH' s=>by
 have h':=s _ _ h
 refine⟨λi x e=>?_,⟨kvs,h',by rw[sf];exact tq _⟩⟩
 rw[ur] at e
 obtain⟨kv,e1,e2⟩:=vg.mp e
 refine⟨⟨kvs,kv,h',e1⟩,λx' H2 hy=>?_⟩
 obtain⟨e3,e4⟩:=hy
 obtain⟨k,e5,e6⟩:=e4 kvs h'
 rw[e1] at e5
 have e5:=sy e5
 subst e5
 exact⟨e6.trans e2,e3⟩
theorem gb {P:Program}{w:World}{k:Key}{u:Value}(h:(Ax P w).is k u=true):RelV (kV k) u:=by
 cases k with
 | inl i=>obtain⟨t,rfl⟩:=wx (k:=i) (v:=u) h;exact⟨t,rfl⟩
 | inr z=>obtain⟨t,rfl⟩:=vx (x:=z) (v:=u) h;exact⟨t,rfl⟩
theorem Zq {P:Program}{w:World}{K:W.Frag}{tg:Expr}(a it:Addr)(o:Obj)(es:Array DictEntry)(ep n:Nat)(hd:o.data=.dict es ep)(hn:es.size=n):Turn P w K tg (Itd a o) [it] it (λi h=>h.IsKeyIter it a i n ep) where
 mem:=by simp
 obj:=λi h st b hb=>by
  have e:b=it:=by simpa using hb
  subst e
  obtain⟨o,e,c,d⟩:=st
  exact⟨o,e,λv z=>by rw[d] at z;cases z⟩
 keep:=λi h h' st k=>st.at λo e=>k it (by simp) o e
 item:=by
  intro X hP hw hK hc i pins s σ H E I hf st hg
  subst hP hw hK
  obtain⟨kvs,kv,hq,hx⟩:=hg
  obtain⟨ho,_,lo,vs,rel,o',es',ep',h1,h2,h3,h4,h5,h6⟩:=(show ObjOk X.prog X.w H s.heap a (.frz o (.dK kvs)) from I.hok a _ hq)
  have e1:o'=o:=sy (h1.symm.trans ho)
  subst e1
  rw[hd] at h3
  injection h3 with e2 e3
  subst e2;subst e3
  have hl:vs.length=n:=by rw[←hn,←sv,←h5.length]
  have dd:s.heap.DictAt (Ax X.prog X.w) a vs ep:=⟨_,_,ho,h2,hd,h4,h5,h6⟩
  obtain⟨⟨k,v⟩,hv⟩:∃kv',vs[i]?=some kv':=by
   have:=rel.length
   have hi:=(t8.mp hx).1
   exact⟨_,vq (by lia)⟩
  have ek:kv.1=k:=by
   have:=vi (λl=>l[i]?) rel.keys
   simp only[ur,hx,hv] at this
   exact sy this
  obtain⟨f0,f1,f2,f3,f4,f5⟩:=hf it (by simp)
  subst hl
  refine wpAny_pyNext_dict_item st dd hv λkey h' hkey st' sb=>?_
  have I1:Inv X pins σ H {s with heap:=h'}:=I.turned (t':=s.toks) (λb o hb e=>(sb.2 b hb).trans e) f0 f1 f3 f4 f5
  obtain⟨oi,e,c,d⟩:=id st'
  refine⟨key,rfl,cj (s:={s with heap:=h'}) e c d (by decide) ⟨kV k,H,I1,gb hkey,⟨rfl,λys hy=>?_⟩,st',λb hb=>(hf b hb).1⟩⟩
  rw[hq] at hy
  cases hy
  exact⟨kv,hx,by rw[ek]⟩
 done:=by
  intro X hP hw hK hc i pins s σ H E I hf st hg
  subst hP hw hK
  obtain⟨kvs,hq,hx⟩:=hg
  obtain⟨ho,_,lo,vs,rel,o',es',ep',h1,h2,h3,h4,h5,h6⟩:=(show ObjOk X.prog X.w H s.heap a (.frz o (.dK kvs)) from I.hok a _ hq)
  have e1:o'=o:=sy (h1.symm.trans ho)
  subst e1
  rw[hd] at h3
  injection h3 with e2 e3
  subst e2;subst e3
  have hl:vs.length=n:=by rw[←hn,←sv,←h5.length]
  have dd:s.heap.DictAt (Ax X.prog X.w) a vs ep:=⟨_,_,ho,h2,hd,h4,h5,h6⟩
  obtain⟨f0,f1,f2,f3,f4,f5⟩:=hf it (by simp)
  subst hl
  exact wpAny_pyNext_dict_end (I.ok.hd hc) st dd (zf (by have:=rel.length;lia)) λh' eb=>⟨rfl,I.turned (t':=s.toks) (λb o hb e=>eb b o hb e) f0 f1 f3 f4 f5⟩
 self:=λ_ _ _ _ _ st h=>wpAny_pyIter_keyiter st h
def ng (tl:TE):TI:=λσ H R=>tl σ H λx H1=>∃a kvs,x=.ref a/\H1 a=some (.dK kvs)/\∀o,R (Itd a o) (upd H1 a (.frz o (.dK kvs)))
section
variable {X:Cx}{tg:Expr}
theorem Zv {l:Expr}{tl:TE}(hl:PE X l tl):PI X tg l (ng tl):=by
 intro pins s σ H R I h
 refine thn (hl pins s σ H _ I h) λv s1 hz=>?_
 obtain⟨x,H1,I1,r1,q1⟩:=hz
 obtain⟨a,kvs,e,hq,q⟩:=q1
 subst e
 cases r1
 obtain⟨_,lo,vs,rel,o,es,ep,h1,h2,h3,h4,h5,h6⟩:=S0 I1.hok hq
 have dd:s1.heap.DictAt (Ax X.prog X.w) a vs ep:=⟨_,_,h1,h2,h3,h4,h5,h6⟩
 have I2:=I1.freeze hq h1
 refine wpAny_pyIter_dict lo dd ?_
 refine⟨s1.heap.objs.size,[s1.heap.objs.size],_,_,_,rfl,I2.kept (t':=s1.toks) λb o e=>sj _ e,Zq a _ o es ep vs.length h3 (by rw[←sv,←h5.length]),⟨_,t9 _ rfl,rfl,rfl⟩,λb hb=>?_,q o⟩
 have e:b=s1.heap.objs.size:=by simpa using hb
 subst e
 exact I2.fpOk (tq _) (I2.hok.fresh (tq _))
def ou (t:TS):TS:=λD σ H=>∃(a:Addr)(kvs:List (Key×V)),H a=some (.dK kvs)/\
 t ⟨λσ' H'=>∃o,H' a=some (.frz o (.dK kvs))/\D.nx σ' (upd H' a (.dK kvs)),λσ' v H'=>∃o,H' a=some (.frz o (.dK kvs))/\D.rt σ' v (upd H' a (.dK kvs)),λ_ _=>False,λ_ _=>False⟩ σ H
theorem Xy {st:Stmt}{t:TS}(h:PS X st t):PS X st (ou t):=by
 intro pins s σ H D I hq
 obtain⟨a,kvs,ha,q⟩:=hq
 have hf:=I.notFrz ha λ_ _ z=>nomatch z
 refine thn (h pins s σ H _ I q) λf s' hz=>?_
 cases f with
 | next=>obtain⟨σ',H',I',o,e,q'⟩:=hz;exact⟨σ',_,I'.thaw e hf,q'⟩
 | ret u=>obtain⟨v,σ',H',I',r,o,e,q'⟩:=hz;exact⟨v,σ',_,I'.thaw e hf,r,q'⟩
 | brk=>obtain⟨_,_,_,z⟩:=hz;exact z.elim
 | cont=>obtain⟨_,_,_,z⟩:=hz;exact z.elim
end
end L2
namespace L2
open PySem PySem.W PyProof.Rows PySem.SeqAt DX
def oh:KeyOrd where
 α:=Str
 blt:=ltS
 irrefl:=Le.irr
 trans:=Le.tr
 negTrans:=λa b c h=>Le.neg h
 total:=Le.tot
theorem O1 {prog:Program}{w:World}{A:Around}{s:Shared}{vs:List Value}{ns:List Str}(h2:2<=vs.length)(hi:StrsAre vs ns):SortsV prog w A s oneType' (O:=oh) strOf vs where
 kind:=λE Q h=>by
  cases vs with
  | nil=>simp at h2
  |
   cons v₁ vs=>
   cases vs with
   | nil=>simp at h2
   | cons v₂ vs=>rw[keyKind_strs hi];exact si h
 cmp:=by
  intro x hx y hy C hC
  obtain⟨i,t,rfl⟩:=hi.all x hx
  obtain⟨j,u,rfl⟩:=hi.all y hy
  rw[keyLt'_oneType]
  exact oneLt_str hC
theorem Rv {us vs:List Value}{ns:List Str}(hi:StrsAre vs ns)(h:us.Perm vs):StrsAre us (us.map strOf)/\(us.map strOf).Perm ns:=by
 refine⟨strsAre_map us λv hv=>hi.all v (h.mem_iff.mp hv),?_⟩
 have:=h.map strOf
 rw[hi.strs] at this
 exact this
theorem Nq {prog:Program}{w:World}:∀{kvs:List (Key×Value)}{ns:List Str}{vs:List Value},kvs.map (·.1)=ns.map Sum.inr->vs.length=kvs.length->(∀(j:Nat)v,vs[j]?=some v->∃k x,kvs[j]?=some (k,x)/\(Ax prog w).is k v=true)->StrsAre vs ns
 |
  [],ns,[],e,_,_=>by
  cases ns with
  | nil=>exact .nil
  | cons _ _=>cases e
 | [],ns,_::_,_,hl,_=>by simp at hl
 | _::_,ns,[],_,hl,_=>by simp at hl
 |
  (k,x)::kvs,ns,v::vs,e,hl,h=>by
  cases ns with
  | nil=>cases e
  |
   cons n ns=>
   injection e with e1 e2
   obtain⟨k',x',g,i⟩:=h 0 v rfl
   have g':some (k,x)=some (k',x'):=g
   cases g'
   have e1':k=Sum.inr n:=e1
   subst e1'
   obtain⟨t,rfl⟩:=vx (x:=n) (v:=v) i
   exact .cons n t (Nq e2 (by simpa using hl) λj v' hv=>h (j+1) v' hv)
theorem Ux {α:Type}{R:α->α->Prop}(anti:∀a b,R a b->R b a->a=b):∀{xs ys:List α},xs.Perm ys->xs.Pairwise R->ys.Pairwise R->xs=ys:=λ{xs ys}h h1 h2=>h.eq_of_pairwise (λa b _ _=>anti a b) h1 h2
theorem dq {xs ys:List Str}(h:xs.Perm ys)(h1:xs.Pairwise λx y=>ltS y x=false)(h2:ys.Pairwise λx y=>ltS y x=false):xs=ys:=Ux (λa b x y=>Le.tot _ _ y x) h h1 h2
section
variable {X:Cx}
theorem Ke:Gd X (.builtin "sorted") (λxs H Q=>∃(p:Addr)(ts:List Str),xs=[.ref p]/\H p=some (.lst (ts.map V.str))/\ts.length<64/\
  ∀(D:Addr)(ms:List Str),H D=none->ms.Perm ts->(ms.Pairwise λx y=>ltS y x=false)->Q (.ref D) (upd H D (.lst (ms.map V.str)))):=by
 intro pins s σ H xs us Q I r h
 obtain⟨p,ts,rfl,hp,h64,q⟩:=h
 obtain⟨u,rfl,ru⟩:=vals1 r
 cases ru
 obtain⟨its,rv,pl,hz⟩:=I.list (SqL.of (K:=X.K) hp)
 have hi:=Ql rv
 have hl:=rv.length
 rw[sf] at hl
 refine Hs (G:=λvs=>vs=its) (O:=oh) (key:=strOf) (κ:=oneType')
  (λE' Q' hq=>collect_list pl.isList (hq _ s.toks _ (λb o q=>by rw[yy _ _ _ _ (ug (sr q)),Aaq _ _ _ (ug (sr q))];exact q) (by rw[Heap.size_update,size_push'];exact y6 _) rfl) (by rw[vd];lia)) ?_ (λvs e h2 s' kp=>?_) λD h' tk vs us e hg a1 a2 kp hge he=>?_
 ·
  rintro vs rfl
  lia
 ·
  subst e
  exact O1 h2 hi
 ·
  subst hg
  obtain⟨j1,j2⟩:=Rv hi a1
  refine⟨.ref D,_,I.laid (t':=tk) (o:=.lst ((us.map strOf).map V.str)) kp hge ?_,rfl,q _ _ (I.hok.fresh hge) j2 ?_⟩
  · exact⟨by rw[sf,j2.length_eq,vd];lia,us,e,Ka j1,he⟩
  ·
   rw[yc]
   exact a2
theorem Ph (hc:X.calm=true):Gd X (.builtin "sorted") (λxs H Q=>∃(p:Addr)(kvs:List (Key×V))(ns:List Str),xs=[.ref p]/\H p=some (.dK kvs)/\kvs.map (·.1)=ns.map Sum.inr/\ns.length<64/\
  ∀(D:Addr)(ms:List Str),H D=none->ms.Perm ns->(ms.Pairwise λx y=>ltS y x=false)->Q (.ref D) (upd H D (.lst (ms.map V.str)))):=by
 intro pins s σ H xs us Q I r h
 obtain⟨p,kvs,ns,rfl,hp,hk,h64,q⟩:=h
 obtain⟨u,rfl,ru⟩:=vals1 r
 cases ru
 obtain⟨hz,lo,vs,kv,hd⟩:=S0 I.hok hp
 obtain⟨ep,hd⟩:=hd.dictAt
 have hlen:kvs.length=vs.length:=kv.length
 have hkey:vs.map (·.1)=ns.map Sum.inr:=by rw[←hk];exact kv.keys.symm
 have l2:=vi List.length hkey
 rw[sf,sf] at l2
 refine Hs (G:=λus=>StrsAre us ns) (O:=oh) (key:=strOf) (κ:=oneType') (λE' Q' hq=>Na (kdl_dict (ep:=ep) lo) (I.ok.hd hc) hd (by lia) λh' tk acc kp hge ia=>hq h' tk _ kp hge ?_) ?_ (λus hi h2 s' _=>O1 h2 hi) λD h' tk vs' us e hg a1 a2 kp hge he=>?_
 · exact Nq hkey (by rw[sv];exact ia.1) λj v hv=>ia.2 j v (by rw[←t7];exact hv)
 ·
  intro us hi
  have:=vi List.length hi.strs
  rw[sf] at this
  lia
 obtain⟨j1,j2⟩:=Rv hg a1
 refine⟨.ref D,_,I.laid (t':=tk) (o:=.lst ((us.map strOf).map V.str)) kp hge ?_,rfl,q _ _ (I.hok.fresh hge) j2 ?_⟩
 · exact⟨by rw[sf,j2.length_eq,vd];lia,us,e,Ka j1,he⟩
 ·
  rw[yc]
  exact a2
theorem Nr (hc:X.calm=true):Gd X (.type "list") (λxs H Q=>∃(p:Addr)(kvs:List (Key×V))(ns:List Str),xs=[.ref p]/\H p=some (.dK kvs)/\kvs.map (·.1)=ns.map Sum.inr/\
  ∀(D:Addr),H D=none->Q (.ref D) (upd H D (.lst (ns.map V.str)))):=by
 intro pins s σ H xs us Q I r h
 obtain⟨p,kvs,ns,rfl,hp,hk,q⟩:=h
 obtain⟨u,rfl,ru⟩:=vals1 r
 cases ru
 obtain⟨hz,lo,vs,kv,hd⟩:=S0 I.hok hp
 obtain⟨ep,hd⟩:=hd.dictAt
 have hlen:kvs.length=vs.length:=kv.length
 have hkey:vs.map (·.1)=ns.map Sum.inr:=by rw[←hk];exact kv.keys.symm
 have l2:=vi List.length hkey
 rw[sf,sf] at l2
 refine kdl_call (kdl_dict (ep:=ep) lo) (I.ok.hd hc) hd (by lia) λh' tk acc c kp hD ia=>?_
 have j1:StrsAre acc.toList ns:=Nq hkey (by rw[sv];exact ia.1) λj v hv=>ia.2 j v (by rw[←t7];exact hv)
 refine⟨.ref s.heap.objs.size,_,I.laid (t':=tk) (o:=.lst (ns.map V.str)) kp (tq _) ?_,rfl,q _ (I.hok.fresh (tq _))⟩
 exact⟨by rw[sf];lia,acc.toList,c,Ka j1,by rw[Array.toArray_toList];exact hD⟩
end
def LsAt (H:Hp)(l:Addr)(ks:List NK):Prop:=∃vs,H l=some (.lst vs)/\NkVs H ks vs
theorem LsAt.upT {H H':Hp}{l:Addr}{ks:List NK}(h:LsAt H l ks)(hl:∀xs,H l=some (.lst xs)->H' l=some (.lst xs))(ht:∀b xs,H b=some (.tup xs)->H' b=some (.tup xs)):LsAt H' l ks:=by
 obtain⟨vs,h1,h2⟩:=h
 exact⟨vs,hl _ h1,h2.up ht⟩
theorem LsAt.up {H H':Hp}{l:Addr}{ks:List NK}(h:LsAt H l ks)(s:Same H H'):LsAt H' l ks:=h.upT (λ_ e=>s _ _ e) λ_ _ e=>s _ _ e
theorem NkVs.app {H:Hp}{ks ks':List NK}{vs vs':List V}(h:NkVs H ks vs)(h':NkVs H ks' vs'):NkVs H (ks++ks') (vs++vs'):=by
 induction h with
 | nil=>exact h'
 | cons h1 _ ih=>exact .cons h1 ih
theorem NkVs.length {H:Hp}{ks:List NK}{vs:List V}(h:NkVs H ks vs):ks.length=vs.length:=by
 induction h with
 | nil=>rfl
 | cons _ _ ih=>rw[t5,t5,ih]
theorem Mu {H:Hp}:∀(ts:List Str),NkVs H (ts.map λt=>.inl (.inr t)) (ts.map V.str)
 | []=>.nil
 | _::ts=>.cons rfl (Mu ts)
theorem ao {H:Hp}:∀{ms:List (List Key×Addr)},(∀x∈ms,H x.2=some (.tup (x.1.map kV)))->NkVs H (ms.map λx=>.inr x.1) (ms.map λx=>V.ref x.2)
 | [],_=>.nil
 | x::ms,h=>.cons ⟨x.2,rfl,h x sk⟩ (ao λy hy=>h y (sq _ hy))
section
variable {X:Cx}
theorem Pa (hu:X.A.units+2<cLine):OpR X (compareOp .NotEq) (λx y H Q=>∃(p q:Addr)(ks:List NK),x=.ref p/\y=.ref q/\LsAt H p ks/\LsAt H q ks/\Q (.bl false) H):=by
 intro pins s σ H x y v u Q I rx ry h
 obtain⟨p,q0,ks,rfl,rfl,⟨vs,hp,n1⟩,⟨vs',hq,n2⟩,q⟩:=h
 cases rx
 cases ry
 obtain⟨its,rv,pl,hz⟩:=I.list (SqL.of (K:=X.K) hp)
 obtain⟨its2,rv2,pl2,hz2⟩:=I.list (SqL.of (K:=X.K) hq)
 have i1:=O5 I.hok n1 rv
 have i2:=O5 I.hok n2 rv2
 have l1:=i1.length
 have l2:=i2.length
 refine RcNeAt.lists (e:=λ_=>true) pl.isList pl2.isList (by simp;lia) (by lia) (λj h1 h2=>?_) X.prog X.w X.xe _ ?_
 ·
  obtain⟨k,e1,m1⟩:=i1.get j (by simpa using h1)
  obtain⟨k',e2,m2⟩:=i2.get j (by simpa using h2)
  rw[e1] at e2
  have e2:=sy e2
  subst e2
  have:=g7 (A:=X.A.in1) (s:=s) (by show X.A.units+1<cLine;lia) m1 m2
  rw[so rfl] at this
  simpa using this
 ·
  have es:(List.range its.toArray.size).all (λ_=>true)=true:=by rw[List.all_eq_true];intros;rfl
  rw[es]
  exact⟨.bl _,H,I,rfl,q⟩
theorem gp (hu:X.A.units+2<cLine):OpR X (compareOp .Eq) (λx y H Q=>∃(p q:Addr)(kvs:List (Key×V)),x=.ref p/\y=.ref q/\H p=some (.dK kvs)/\H q=some (.dK [])/\Q (.bl (decide (kvs.length=0))) H):=by
 intro pins s σ H x y v u Q I rx ry h
 obtain⟨p,q0,kvs,rfl,rfl,hp,hq,q⟩:=h
 cases rx
 cases ry
 obtain⟨_,lo,vs,kv,hd⟩:=S0 I.hok hp
 obtain⟨_,lo2,vs2,kv2,hd2⟩:=S0 I.hok hq
 cases kv2
 have hl:=kv.length
 refine keq_eq (r:=true) lo lo2 hd hd2 (by lia) (λe=>?_) ?_
 ·
  have:vs=[]:=List.length_eq_zero_iff.mp e
  subst this
  exact .nil
 ·
  refine⟨.bl _,H,I,?_,q⟩
  show RelV _ _
  rw[Bool.and_true,show(vs.length==([]:List (Key×Value)).length)=decide (kvs.length=0) by rw[hl];rfl]
  rfl
end
end L2
namespace L2
open PySem PySem.Spec PyProof.Rows
theorem Abl {α β:Type}{F:α->β->Prop}:∀{l:List α}{m:List β},Paired F l m->∀{x:α}{y:β},F x y->Paired F (l++[x]) (m++[y])
 | _,_,.nil,_,_,h=>.cons h .nil
 | _,_,.cons r t,_,_,h=>.cons r (Abl t h)
theorem V0 {J:It}{cap:List (Option Nat)}{tt:TT}{te:TE}{σ:St}{H1:Hp}{Q:VK}{xs:List V}(hJ:Seq J H1 xs)(p:V->Bool)(Rl:Hp->V->V->Prop)(hup:∀H H' x y,(∀b ys,H b=some (.tup ys)->H' b=some (.tup ys))->Rl H x y->Rl H' x y)(hsz:xs.length<=100000)
  (hp:∀x∈xs,∀H',Same H1 H'->∀R:Bool->Hp->Prop,(∀H'',Same H' H''->R (p x) H'')->tt ((Oi cap σ).set 0 (some x)) H' R)
  (he:∀x∈xs,p x=true->∀H',Same H1 H'->∀R:VK,(∀y H'',Same H' H''->Rl H'' x y->R y H'')->te ((Oi cap σ).set 0 (some x)) H' R)
  (k:∀D H' ys,Same H1 H'->H1 D=none->H' D=some (.lst ys)->Paired (Rl H') (xs.filter p) ys->Q (.ref D) H'):
  Mm J H1 cap (Wa 0) tt te σ Q:=by
 intro D hD
 refine⟨λi m ys σ' H'=>m=xs.length-i/\i<=xs.length/\(∀v,σ'.set 0 v=(Oi cap σ).set 0 v)/\H' D=some (.lst ys)/\Same H1 H'/\Paired (Rl H') ((xs.take i).filter p) ys,
  ⟨xs.length,by simp,u5 _,λ_=>rfl,Ab,Ah hD,by rw[List.take_zero];exact .nil⟩,?_⟩
 rintro i m ys σ' H' ⟨rfl,hi,hσ,hl,sm,hG⟩
 refine⟨hl,?_⟩
 obtain⟨q1,q2⟩:=hJ H' sm
 have hle:ys.length<=i:=by
  rw[←Aat hG]
  exact uy (v9 _ _) (by rw[ux];lia)
 by_cases hlt:i<xs.length
 ·
  have e:xs[i]?=some xs[i]:=by simp[hlt]
  obtain⟨go,y⟩:=q1 i _ e
  refine .inr ⟨go,λx H2 hy=>?_⟩
  obtain⟨rfl,rfl⟩:=y x H2 hy
  have hm:xs[i]∈xs:=xk hlt
  have hss:∀v,((Oi cap σ).set 0 (some xs[i])).set 0 v=(Oi cap σ).set 0 v:=λv=>by rw[List.set_set]
  have et:xs.take (i+1)=xs.take i++[xs[i]]:=by rw[Aab,e];rfl
  show tt (σ'.set 0 (some xs[i])) _ _
  rw[hσ]
  refine hp _ hm _ sm _ λH3 s3=>?_
  cases hb:p xs[i] with
  |
   true=>
   refine P8 ?_
   refine he _ hm hb _ (sm.trans s3) _ λy H4 s4 hy=>?_
   have hl4:=s4 _ _ (s3 _ _ hl)
   have tp:∀b zs,H4 b=some (.tup zs)->(upd H4 D (.lst (ys++[y]))) b=some (.tup zs):=λb zs eb=>by rw[Ad (Bg eb hl4 (λz=>nomatch z))];exact eb
   refine⟨hl4,ve (by lia:ys.length<=100000) (by decide),xs.length-(i+1),by lia,rfl,hlt,hss,Ab,λc o ec=>?_,?_⟩
   ·
    rw[Ad (Am ec hD)]
    exact s4 _ _ (s3 _ _ (sm _ _ ec))
   ·
    rw[et,yv,Aai,if_pos hb]
    exact Abl (Paired.mapP hG λa b h=>hup _ _ a b (λc zs ec=>tp _ _ (s4 _ _ (s3 _ _ ec))) h) (hup _ _ _ _ tp hy)
  |
   false=>
   refine Jw ?_
   refine⟨xs.length-(i+1),by lia,rfl,hlt,hss,s3 _ _ hl,sm.trans s3,?_⟩
   rw[et,yv,Aai,if_neg (by rw[hb];exact uk),List.filter_nil,xg]
   exact Paired.mapP hG λa b h=>hup _ _ a b (λc zs ec=>s3 _ _ ec) h
 ·
  have e:i=xs.length:=by lia
  subst e
  rw[yl] at hG
  exact .inl ⟨q2,k D _ ys sm hD hl hG⟩
def TupsAt (H:Hp)(l:Addr)(qs:List (List Key×Addr)):Prop:=H l=some (.lst (qs.map λx=>V.ref x.2))/\∀x∈qs,H x.2=some (.tup (x.1.map kV))
theorem TupsAt.up {H H':Hp}{l:Addr}{qs:List (List Key×Addr)}(h:TupsAt H l qs)(s:Same H H'):TupsAt H' l qs:=⟨s _ _ h.1,λx hx=>s _ _ (h.2 x hx)⟩
theorem TupsAt.ls {H:Hp}{l:Addr}{qs:List (List Key×Addr)}(h:TupsAt H l qs):LsAt H l (qs.map λx=>.inr x.1):=⟨_,h.1,ao h.2⟩
theorem TupsAt.one {H:Hp}{l:Addr}{qs:List (List Key×Addr)}(h:TupsAt H l qs):∀x∈qs,∀y∈qs,V.ref x.2=V.ref y.2->x.1=y.1:=λx hx y hy e=>by
 injection e with e
 have h1:=h.2 x hx
 have h2:=h.2 y hy
 rw[e,h2] at h1
 injection h1 with h1
 injection h1 with h1
 exact(Yq h1).symm
section
variable {α:Type}{us:List α}
noncomputable def onV (us:List α)(val:α->V)(p:α->Bool)(v:V):Bool:=@decide (∃x∈us,val x=v/\p x=true) (Classical.propDecidable _)
theorem X2 {val:α->V}{p:α->Bool}(hv:∀x∈us,∀y∈us,val x=val y->p x=p y){x:α}(hx:x∈us):onV us val p (val x)=p x:=by
 unfold onV
 cases h:p x with
 | true=>exact @so _ (Classical.propDecidable _) ⟨x,hx,rfl,h⟩
 |
  false=>
  refine @ua _ (Classical.propDecidable _) ?_
  rintro⟨y,hy,e,q⟩
  rw[hv y hy x hx e,h] at q
  cases q
theorem V5 {val:α->V}{p:α->Bool}(hv:∀x∈us,∀y∈us,val x=val y->p x=p y):(us.map val).filter (onV us val p)=(us.filter p).map val:=by
 rw[x9]
 congr 1
 exact Abe λx hx=>X2 hv hx
theorem Ms {H:Hp}{val:α->V}{F:α->List Key}(hv:∀x∈us,∀y∈us,val x=val y->F x=F y):∀{ws:List α}{ys:List V},(∀x∈ws,x∈us)->Paired (λv y=>∃x∈us,val x=v/\∃q,y=.ref q/\H q=some (.tup ((F x).map kV))) (ws.map val) ys->
  ∃rs:List (List Key×Addr),ys=rs.map (λx=>V.ref x.2)/\(∀x∈rs,H x.2=some (.tup (x.1.map kV)))/\rs.map (·.1)=ws.map F
 | [],_,_,.nil=>⟨[],rfl,(λ_ z=>nomatch z),rfl⟩
 |
  w::ws,_,hw,.cons r t=>by
  obtain⟨rs,e1,h1,e2⟩:=Ms hv (λx hx=>hw x (sq _ hx)) t
  obtain⟨x,hx,ex,q,rfl,hq⟩:=r
  have eF:=hv x hx w (hw w sk) ex
  refine⟨(F w,q)::rs,by rw[um,e1],λy hy=>?_,by rw[um,um,e2]⟩
  rcases uq.mp hy with rfl|hy
  · rw[←eF];exact hq
  · exact h1 y hy
theorem Kc {J:It}{cap:List (Option Nat)}{tt:TT}{te:TE}{σ:St}{H1:Hp}{Q:VK}(val:α->V)(p:α->Bool)(F:α->List Key)(hJ:Seq J H1 (us.map val))(hv:∀x∈us,∀y∈us,val x=val y->p x=p y/\F x=F y)(hsz:us.length<=100000)
  (hp:∀x∈us,∀H',Same H1 H'->∀R:Bool->Hp->Prop,(∀H'',Same H' H''->R (p x) H'')->tt ((Oi cap σ).set 0 (some (val x))) H' R)
  (he:∀x∈us,p x=true->∀H',Same H1 H'->∀R:VK,(∀q H'',Same H' H''->H'' q=some (.tup ((F x).map kV))->R (.ref q) H'')->te ((Oi cap σ).set 0 (some (val x))) H' R)
  (k:∀D H'(rs:List (List Key×Addr)),Same H1 H'->H1 D=none->TupsAt H' D rs->rs.map (·.1)=(us.filter p).map F->Q (.ref D) H'):Mm J H1 cap (Wa 0) tt te σ Q:=by
 have hv1:∀x∈us,∀y∈us,val x=val y->p x=p y:=λx hx y hy e=>(hv x hx y hy e).1
 refine V0 hJ (onV us val p) (λH v y=>∃x∈us,val x=v/\∃q,y=.ref q/\H q=some (.tup ((F x).map kV))) (λH H' v y ht h=>?_) (by rw[sf];exact hsz) (λv hx H' sm R hR=>?_) (λv hx hpv H' sm R hR=>?_) (λD H' ys sm hD hl hP=>?_)
 ·
  obtain⟨x,hx,e,q,ey,hq⟩:=h
  exact⟨x,hx,e,q,ey,ht _ _ hq⟩
 ·
  obtain⟨x,hx',rfl⟩:=t6.mp hx
  refine hp x hx' H' sm R λH'' s''=>?_
  have:=hR H'' s''
  rw[X2 hv1 hx'] at this
  exact this
 ·
  obtain⟨x,hx',rfl⟩:=t6.mp hx
  rw[X2 hv1 hx'] at hpv
  exact he x hx' hpv H' sm R λq H'' s'' hq=>hR _ H'' s'' ⟨x,hx',rfl,q,rfl,hq⟩
 ·
  rw[V5 hv1] at hP
  obtain⟨rs,e1,h1,e2⟩:=Ms (λx hx y hy e=>(hv x hx y hy e).2) (λx hx=>(va.mp hx).1) hP
  subst e1
  exact k D H' rs sm hD ⟨hl,h1⟩ e2
end
end L2
namespace DM
def leap (y:Int):Bool:=decide (y%400=0)||(decide (y%4=0)&&!decide (y%100=0))
def year (y:Int):Int:=(y-2000)*365+(y-2000+3)/4-(y-2000+99)/100+(y-2000+399)/400
def len (y m:Int):Int:=if m=2 then(if leap y then 29 else 28) else if m=1∨m=3∨m=5∨m=7∨m=8∨m=10∨m=12 then 31 else 30
def ahead (m:Int):Int:=if m<=1 then 0 else if m=2 then 31 else if m=3 then 59 else if m=4 then 90 else if m=5 then 120 else if m=6 then 151 else if m=7 then 181 else if m=8 then 212 else if m=9 then 243 else if m=10 then 273 else if m=11 then 304 else 334
def mb (n:Int):Int:=year (2000+n/12)+ahead (n%12+1)+(if n%12+1>2/\leap (2000+n/12)=true then 1 else 0)
def near (n:Nat):Bool:=decide (mb n*4800<=(n+1)*146097)&&decide (((n:Int)-1)*146097<=mb n*4800)
set_option maxRecDepth 100000 in
def mo (d:Int):Int:=if mb (d*4800/146097)>d then d*4800/146097-1 else if mb (d*4800/146097+1)<=d then d*4800/146097+1 else d*4800/146097
end DM
namespace DT
open PySem L2
def dg (n:Nat):Nat:=48+n%10
def tt (n:Nat):Str:=⟨#[dg (n/10),dg n]⟩
def tx (y m d:Nat):Str:=⟨#[50,dg (y/100),dg (y/10),dg y,45,dg (m/10),dg m,45,dg (d/10),dg d]⟩
def pd (n:Nat):Str:=if n<10 then("0":Str) else("":Str)
end DT
namespace DK
open PySem PySem.NumText L2
def FG:List Nat:=("0123456789":Str).cps.toList
def qh (l:List Nat):Bool:=l.all λc=>decide (c∈FG)
section
variable (a b c d s e f r g k:Nat)
end
def J:List (List Nat)->List Nat
 | []=>[]
 | [p]=>p
 | p::q::r=>p++45::J (q::r)
def m9:List Nat->Bool
 | [a,b,c,d,s,e,f,r,g,h]=>decide (s=45)&&(decide (r=45)&&qh [a,b,c,d,e,f,g,h])
 | _=>false
def look (t:Str):Bool:=m9 t.cps.toList
end DK
namespace DQ
open PySem PySem.NumText L2 DK
open PySem.Builtin.Str (strSliceIndices)
theorem Yy (l:Option Int)(b len:Nat):strSliceIndices l (some (b:Int)) 1 len=strSliceIndices l (some ((min b len:Nat):Int)) 1 len:=by
 have e:max (0:Int) (min (b:Int) len)=max 0 (min ((min b len:Nat):Int) len):=by lia
 have n1:¬((b:Int)<0):=by lia
 have n2:¬(((min b len:Nat):Int)<0):=by lia
 simp only[strSliceIndices,if_neg n1,if_neg n2,show(1:Int)>0 by decide,Aao,e]
theorem iy (u:Option Int)(a len:Nat):strSliceIndices (some (a:Int)) u 1 len=strSliceIndices (some ((min a len:Nat):Int)) u 1 len:=by
 have e:max (0:Int) (min (a:Int) len)=max 0 (min ((min a len:Nat):Int) len):=by lia
 have n1:¬((a:Int)<0):=by lia
 have n2:¬(((min a len:Nat):Int)<0):=by lia
 simp only[strSliceIndices,if_neg n1,if_neg n2,show(1:Int)>0 by decide,Aao,e]
theorem ak (l:List Nat){a b:Nat}(hab:a<=b):Txt.slice ⟨l.toArray⟩ (some (a:Int)) (some (b:Int))=⟨((l.drop a).take (b-a)).toArray⟩:=by
 have h1:Txt.slice ⟨l.toArray⟩ (some (a:Int)) (some (b:Int))=StrLaws.sliceText ⟨l.toArray⟩ (some ((min a l.length:Nat):Int)) (some ((min b l.length:Nat):Int)):=by
  unfold Txt.slice StrLaws.sliceText
  rw[Yy,iy]
  rfl
 rw[h1,StrLaws.sliceText_nat _ (by lia) (by show min b l.length<=l.toArray.size;rw[su];lia)]
 congr 2
 show(l.drop (min a l.length)).take (min b l.length-min a l.length)=_
 by_cases h:a<=l.length
 ·
  rw[Nat.min_eq_left h]
  by_cases h2:b<=l.length
  · rw[Nat.min_eq_left h2]
  · rw[Abo (by lia),xh (by rw[vy];lia),xh (by rw[vy];lia)]
 · rw[Aam (show l.length<=min a l.length by lia),Aam (show l.length<=a by lia),List.take_nil,List.take_nil]
theorem cp (l:List Nat)(b:Nat):Txt.slice ⟨l.toArray⟩ none (some (b:Int))=⟨(l.take b).toArray⟩:=by
 have h1:Txt.slice ⟨l.toArray⟩ none (some (b:Int))=Txt.slice ⟨l.toArray⟩ (some ((0:Nat):Int)) (some (b:Int)):=by
  unfold Txt.slice
  rw[StrLaws.sliceIdx_none_lo]
  rfl
 rw[h1,ak l (u5 b)]
 rfl
theorem Xt (l:List Nat)(a:Nat):Txt.slice ⟨l.toArray⟩ (some (a:Int)) none=⟨(l.drop a).toArray⟩:=by
 by_cases h:a<=l.length
 ·
  have h1:Txt.slice ⟨l.toArray⟩ (some (a:Int)) none=Txt.slice ⟨l.toArray⟩ (some (a:Int)) (some (l.length:Int)):=by
   unfold Txt.slice
   rw[StrLaws.sliceIdx_none_hi]
   rfl
  rw[h1,ak l h,xh (by rw[vy];lia)]
 ·
  have h1:Txt.slice ⟨l.toArray⟩ (some (a:Int)) none=Txt.slice ⟨l.toArray⟩ (some (a:Int)) (some (a:Int)):=by
   unfold Txt.slice
   rw[StrLaws.sliceIdx_none_hi,Yy _ a,Abo (show(⟨l.toArray⟩:Str).length<=a by show l.toArray.size<=a;rw[su];lia)]
  rw[h1,ak l (tq a),Abk,List.take_zero,Aam (by lia)]
def both:Option Int->Option Int->Option Int
 | some d,some c=>some (d*1440+c)
 | _,_=>none
open DT (dg tt)
end DQ
namespace DL
def Tk (r:List (Int×Int))(m:Int):Prop:=∃p∈r,p.1<=m/\m<p.2
instance (r:List (Int×Int)) (m:Int):Decidable (Tk r m):=inferInstanceAs (Decidable (∃p∈r,p.1<=m/\m<p.2))
def Good (r:List (Int×Int)):Prop:=∀p∈r,p.1<p.2
def Laid (r:List (Int×Int)):Prop:=r.Pairwise (λa b=>a.2<b.1)/\Good r
theorem M7 {m:Int}:¬Tk [] m:=λ⟨_,h,_⟩=>nomatch h
theorem Fl {p:Int×Int}{r:List (Int×Int)}{m:Int}:Tk (p::r) m↔(p.1<=m/\m<p.2)∨Tk r m:=by
 constructor
 ·
  rintro⟨q,hq,h⟩
  rcases uq.mp hq with rfl|hq
  · exact .inl h
  · exact .inr ⟨q,hq,h⟩
 ·
  rintro(h|⟨q,hq,h⟩)
  · exact⟨p,sk,h⟩
  · exact⟨q,sq _ hq,h⟩
theorem Oo {a b:List (Int×Int)}{m:Int}:Tk (a++b) m↔Tk a m∨Tk b m:=by
 constructor
 ·
  rintro⟨q,hq,h⟩
  rcases uh.mp hq with hq|hq
  · exact .inl ⟨q,hq,h⟩
  · exact .inr ⟨q,hq,h⟩
 ·
  rintro(⟨q,hq,h⟩|⟨q,hq,h⟩)
  · exact⟨q,vc _ hq,h⟩
  · exact⟨q,t4 _ hq,h⟩
theorem So {p:Int×Int}{m:Int}:Tk [p] m↔(p.1<=m/\m<p.2):=by
 rw[Fl]
 exact⟨λh=>h.resolve_right M7,.inl⟩
theorem az {a b:List (Int×Int)}(h:a.Perm b){m:Int}:Tk a m↔Tk b m:=
 ⟨λ⟨q,hq,z⟩=>⟨q,h.mem_iff.mp hq,z⟩,λ⟨q,hq,z⟩=>⟨q,h.mem_iff.mpr hq,z⟩⟩
theorem Rh {p:Int×Int}{r:List (Int×Int)}(h:Laid (p::r)):Laid r:=⟨(zt.mp h.1).2,λq hq=>h.2 q (sq _ hq)⟩
theorem Fj {p:Int×Int}{r:List (Int×Int)}(h:Laid (p::r)){m:Int}(t:Tk r m):p.2<m:=by
 obtain⟨q,hq,h1,_⟩:=t
 have:=(zt.mp h.1).1 q hq
 lia
theorem Pc:Laid []:=⟨.nil,λ_ h=>nomatch h⟩
theorem uniq:∀{a b:List (Int×Int)},Laid a->Laid b->(∀m,Tk a m↔Tk b m)->a=b
 | [],[],_,_,_=>rfl
 |
  [],q::b,_,hb,h=>by
  have z:=hb.2 q sk
  exact absurd ((h q.1).mpr (Fl.mpr (.inl ⟨Int.le_refl _,z⟩))) M7
 |
  p::a,[],ha,_,h=>by
  have z:=ha.2 p sk
  exact absurd ((h p.1).mp (Fl.mpr (.inl ⟨Int.le_refl _,z⟩))) M7
 |
  p::a,q::b,ha,hb,h=>by
  have zp:=ha.2 p sk
  have zq:=hb.2 q sk
  have e1:p.1=q.1:=by
   have A:=Fl.mp ((h p.1).mp (Fl.mpr (.inl ⟨Int.le_refl _,zp⟩)))
   have B:=Fl.mp ((h q.1).mpr (Fl.mpr (.inl ⟨Int.le_refl _,zq⟩)))
   rcases A with A|A
   ·
    rcases B with B|B
    · lia
    · have:=Fj ha B;lia
   ·
    have:=Fj hb A
    rcases B with B|B
    · lia
    · have:=Fj ha B;lia
  have e2:p.2=q.2:=by
   have A:¬p.2<q.2:=λhlt=>by
    have A:=Fl.mp ((h p.2).mpr (Fl.mpr (.inl ⟨by lia,hlt⟩)))
    rcases A with A|A
    · lia
    · have:=Fj ha A;lia
   have B:¬q.2<p.2:=λhlt=>by
    have A:=Fl.mp ((h q.2).mp (Fl.mpr (.inl ⟨by lia,hlt⟩)))
    rcases A with A|A
    · lia
    · have:=Fj hb A;lia
   lia
  have e:p=q:=Prod.ext e1 e2
  subst e
  rw[uniq (Rh ha) (Rh hb) λm=>?_]
  have z:=h m
  rw[Fl,Fl] at z
  constructor
  ·
   intro t
   have:=Fj ha t
   exact(z.mp (.inr t)).resolve_left (by lia)
  ·
   intro t
   have:=Fj hb t
   exact(z.mpr (.inr t)).resolve_left (by lia)
structure Part (out done:List (Int×Int)):Prop where
 laid:Laid out
 same:∀m,Tk out m↔Tk done m
 heads:∀p∈out,∃q∈done,p.1=q.1
 few:out.length<=done.length
theorem Part.nil:Part [] []:=⟨Pc,λ_=>Iff.rfl,(λ_ h=>nomatch h),tq _⟩
theorem Part.join {o done:List (Int×Int)}{x y b e z:Int}(h:Part (o++[(x,y)]) done)(hb:∀q∈done,q.1<=b)(hy:b<=y)(hz:z=if e>y then e else y)(be:b<e):
  Part (o++[(x,z)]) (done++[(b,e)]):=by
 have xb:x<=b:=by
  obtain⟨q,hq,e'⟩:=h.heads (x,y) (t4 _ sk)
  have:=hb q hq
  simp only at e'
  lia
 have xy:x<y:=h.laid.2 (x,y) (t4 _ sk)
 have pw:=wg.mp h.laid.1
 have zz:y<=z/\e<=z/\(z=y∨z=e):=by split at hz<;>lia
 refine⟨⟨wg.mpr ⟨pw.1,xx _ _,λp hp q hq=>?_⟩,λp hp=>?_⟩,λm=>?_,λp hp=>?_,?_⟩
 ·
  rw[tj] at hq
  subst hq
  exact pw.2.2 p hp (x,y) sk
 ·
  rcases uh.mp hp with hp|hp
  · exact h.laid.2 p (vc _ hp)
  ·
   rw[tj] at hp
   subst hp
   show x<z
   lia
 ·
  have s:=h.same m
  rw[Oo,So] at s ⊢
  rw[Oo,So,←s]
  simp only
  constructor
  ·
   rintro(k|k)
   · exact .inl (.inl k)
   ·
    by_cases m<y
    · exact .inl (.inr (by lia))
    · exact .inr (by lia)
  ·
   rintro((k|k)|k)
   · exact .inl k
   · exact .inr (by lia)
   · exact .inr (by lia)
 ·
  rcases uh.mp hp with hp|hp
  ·
   obtain⟨q,hq,e'⟩:=h.heads p (vc _ hp)
   exact⟨q,vc _ hq,e'⟩
  ·
   rw[tj] at hp
   subst hp
   obtain⟨q,hq,e'⟩:=h.heads (x,y) (t4 _ sk)
   exact⟨q,vc _ hq,e'⟩
 ·
  have:=h.few
  simp only[ue,xp] at this ⊢
  lia
theorem Part.add {out done:List (Int×Int)}{b e:Int}(h:Part out done)(hl:∀o x y,out=o++[(x,y)]->y<b)(be:b<e):Part (out++[(b,e)]) (done++[(b,e)]):=by
 have hall:∀p∈out,p.2<b:=by
  intro p hp
  rcases List.eq_nil_or_concat out with rfl|⟨o,⟨x,y⟩,rfl⟩
  · exact nomatch hp
  ·
   rw[List.concat_eq_append] at hp h hl
   have yb:=hl o x y rfl
   have pw:=wg.mp h.laid.1
   rcases uh.mp hp with hp|hp
   ·
    have z1:=pw.2.2 p hp (x,y) sk
    have z2:=h.laid.2 (x,y) (t4 _ sk)
    simp only at z1 z2
    lia
   ·
    rw[tj] at hp
    subst hp
    exact yb
 refine⟨⟨wg.mpr ⟨h.laid.1,xx _ _,λp hp q hq=>?_⟩,λp hp=>?_⟩,λm=>?_,λp hp=>?_,?_⟩
 ·
  rw[tj] at hq
  subst hq
  exact hall p hp
 ·
  rcases uh.mp hp with hp|hp
  · exact h.laid.2 p hp
  ·
   rw[tj] at hp
   subst hp
   exact be
 · rw[Oo,Oo,h.same m]
 ·
  rcases uh.mp hp with hp|hp
  ·
   obtain⟨q,hq,e'⟩:=h.heads p hp
   exact⟨q,vc _ hq,e'⟩
  · exact⟨p,t4 _ hp,rfl⟩
 ·
  have:=h.few
  simp only[ue,xp]
  lia
theorem Lq {r:List (Int×Int)}{i:Nat}{p:Int×Int}(h:r[i]?=some p){m:Int}:Tk (r.take (i+1)) m↔Tk (r.take i) m∨(p.1<=m/\m<p.2):=by
 rw[Aab,h]
 show Tk (r.take i++[p]) m↔_
 rw[Oo,So]
theorem Pl {r:List (Int×Int)}(h:Laid r){j k:Nat}{p q:Int×Int}(hp:r[j]?=some p)(hq:r[k]?=some q)(hjk:j<k):p.2<q.1:=by
 obtain⟨h1,rfl⟩:=t8.mp hp
 obtain⟨h2,rfl⟩:=t8.mp hq
 exact xt.mp h.1 j k h1 h2 hjk
theorem Pq {r:List (Int×Int)}(h:Laid r){k:Nat}{p:Int×Int}(hp:r[k]?=some p):p.1<p.2:=h.2 p (uz hp)
theorem kr {r:List (Int×Int)}{m:Int}(h:Tk r m):∃(j:Nat)(p:Int×Int),r[j]?=some p/\p.1<=m/\m<p.2:=by
 obtain⟨p,hp,h⟩:=h
 obtain⟨j,hj⟩:=xc hp
 exact⟨j,p,hj,h⟩
theorem Ww {r:List (Int×Int)}{m:Int}{j:Nat}{p:Int×Int}(h:r[j]?=some p)(h1:p.1<=m)(h2:m<p.2):Tk r m:=⟨p,uz h,h1,h2⟩
theorem Z3 {o:List (Int×Int)}{b e:Int}(h:Laid o)(hb:∀p∈o,p.2<b)(he:b<e):Laid (o++[(b,e)]):=by
 refine⟨wg.mpr ⟨h.1,xx _ _,λp hp q hq=>?_⟩,λp hp=>?_⟩
 ·
  rw[tj] at hq
  subst hq
  exact hb p hp
 ·
  rcases uh.mp hp with hp|hp
  · exact h.2 p hp
  ·
   rw[tj] at hp
   subst hp
   exact he
theorem ja {o:List (Int×Int)}{b e m:Int}:Tk (o++[(b,e)]) m↔Tk o m∨(b<=m/\m<e):=by rw[Oo,So]
structure Bo (L R out:List (Int×Int))(p g:Nat):Prop where
 laid:Laid out
 tk:∀m,Tk out m↔Tk L m/\Tk R m/\(Tk (L.take p) m∨Tk (R.take g) m)
 low:∀q∈out,∀l r,L[p]?=some l->R[g]?=some r->q.2<l.1∨q.2<r.1
 few:out.length<=p+g
theorem Bo.nil (L R:List (Int×Int)):Bo L R [] 0 0:=⟨Pc,λm=>⟨λh=>(M7 h).elim,λh=>(h.2.2.elim M7 M7).elim⟩,(λ_ h=>nomatch h),tq _⟩
structure Mid (L R out:List (Int×Int))(p g:Nat)(l r:Int×Int):Prop where
 laid:Laid out
 tk:∀m,Tk out m↔(Tk L m/\Tk R m/\(Tk (L.take p) m∨Tk (R.take g) m))∨(l.1<=m/\r.1<=m/\m<l.2/\m<r.2)
 low:∀q∈out,q.2<l.1∨q.2<r.1∨(q.2<=l.2/\q.2<=r.2)
 few:out.length<=p+g+1
theorem Bo.add {L R out:List (Int×Int)}{p g:Nat}{l r:Int×Int}(h:Bo L R out p g)(hl:L[p]?=some l)(hr:R[g]?=some r){b e:Int}(hb:b=if r.1>l.1 then r.1 else l.1)(he:e=if r.2<l.2 then r.2 else l.2)(be:b<e):Mid L R (out++[(b,e)]) p g l r:=by
 have hb':l.1<=b/\r.1<=b/\(b=l.1∨b=r.1):=by split at hb<;>lia
 have he':e<=l.2/\e<=r.2/\(e=l.2∨e=r.2):=by split at he<;>lia
 refine⟨Z3 h.laid (λq hq=>?_) be,λm=>?_,λq hq=>?_,?_⟩
 ·
  have:=h.low q hq l r hl hr
  lia
 ·
  rw[ja,h.tk m]
  constructor
  ·
   rintro(k|k)
   · exact .inl k
   · exact .inr (by lia)
  ·
   rintro(k|k)
   · exact .inl k
   · exact .inr (by lia)
 ·
  rcases uh.mp hq with hq|hq
  · exact(h.low q hq l r hl hr).imp_right .inl
  ·
   rw[tj] at hq
   subst hq
   exact .inr (.inr ⟨he'.1,he'.2.1⟩)
 ·
  have:=h.few
  rw[ue,xp]
  lia
theorem Bo.skip {L R out:List (Int×Int)}{p g:Nat}{l r:Int×Int}(h:Bo L R out p g)(hl:L[p]?=some l)(hr:R[g]?=some r){b e:Int}(hb:b=if r.1>l.1 then r.1 else l.1)(he:e=if r.2<l.2 then r.2 else l.2)(be:¬b<e):Mid L R out p g l r:=by
 have hb':l.1<=b/\r.1<=b/\(b=l.1∨b=r.1):=by split at hb<;>lia
 have he':e<=l.2/\e<=r.2/\(e=l.2∨e=r.2):=by split at he<;>lia
 refine⟨h.laid,λm=>?_,λq hq=>(h.low q hq l r hl hr).imp_right .inl,by have:=h.few;lia⟩
 rw[h.tk m]
 constructor
 · exact .inl
 ·
  rintro(k|k)
  · exact k
  · lia
theorem Mid.left {L R out:List (Int×Int)}{p g:Nat}{l r:Int×Int}(h:Mid L R out p g l r)(hL:Laid L)(hR:Laid R)(hl:L[p]?=some l)(hr:R[g]?=some r)(lt:l.2<r.2):Bo L R out (p+1) g:=by
 have gl:=Pq hL hl
 have gr:=Pq hR hr
 refine⟨h.laid,λm=>?_,λq hq l' r' hl' hr'=>?_,by have:=h.few;lia⟩
 ·
  rw[h.tk m,Lq hl]
  constructor
  ·
   rintro(⟨a,b,c⟩|k)
   · exact⟨a,b,c.imp_left .inl⟩
   · exact⟨Ww hl (by lia) (by lia),Ww hr (by lia) (by lia),.inl (.inr (by lia))⟩
  ·
   rintro⟨a,b,(c|c)|c⟩
   · exact .inl ⟨a,b,.inl c⟩
   ·
    obtain⟨j,q,hq,q1,q2⟩:=kr b
    rcases y4 j g with hj|hj|hj
    ·
     refine .inl ⟨a,b,.inr ?_⟩
     refine Ww (j:=j) (p:=q) ?_ q1 q2
     rw[Aac hj]
     exact hq
    ·
     subst hj
     rw[hr] at hq
     cases hq
     exact .inr (by lia)
    ·
     have:=Pl hR hr hq hj
     lia
   · exact .inl ⟨a,b,.inr c⟩
 ·
  rw[hr] at hr'
  cases hr'
  have:=Pl hL hl hl' (vt p)
  have:=h.low q hq
  lia
theorem Mid.right {L R out:List (Int×Int)}{p g:Nat}{l r:Int×Int}(h:Mid L R out p g l r)(hL:Laid L)(hR:Laid R)(hl:L[p]?=some l)(hr:R[g]?=some r)(ge:¬l.2<r.2):Bo L R out p (g+1):=by
 have gl:=Pq hL hl
 have gr:=Pq hR hr
 refine⟨h.laid,λm=>?_,λq hq l' r' hl' hr'=>?_,by have:=h.few;lia⟩
 ·
  rw[h.tk m,Lq hr]
  constructor
  ·
   rintro(⟨a,b,c⟩|k)
   · exact⟨a,b,c.imp_right .inl⟩
   · exact⟨Ww hl (by lia) (by lia),Ww hr (by lia) (by lia),.inr (.inr (by lia))⟩
  ·
   rintro⟨a,b,c|(c|c)⟩
   · exact .inl ⟨a,b,.inl c⟩
   · exact .inl ⟨a,b,.inr c⟩
   ·
    obtain⟨j,q,hq,q1,q2⟩:=kr a
    rcases y4 j p with hj|hj|hj
    ·
     refine .inl ⟨a,b,.inl ?_⟩
     refine Ww (j:=j) (p:=q) ?_ q1 q2
     rw[Aac hj]
     exact hq
    ·
     subst hj
     rw[hl] at hq
     cases hq
     exact .inr (by lia)
    ·
     have:=Pl hL hl hq hj
     lia
 ·
  rw[hl] at hl'
  cases hl'
  have:=Pl hR hr hr' (vt g)
  have:=h.low q hq
  lia
theorem Bo.fin {L R out:List (Int×Int)}{p g:Nat}(h:Bo L R out p g)(e:L.length<=p∨R.length<=g)(m:Int):Tk out m↔Tk L m/\Tk R m:=by
 rw[h.tk m]
 constructor
 · exact λk=>⟨k.1,k.2.1⟩
 ·
  intro k
  refine⟨k.1,k.2,?_⟩
  rcases e with e|e
  · rw[xh e];exact .inl k.1
  · rw[xh e];exact .inr k.2
end DL
set_option smartUnfolding false
namespace K51
open PySem L2
def top (i:Nat):Stmt:=PySem.Challenge.pw_hourhouse_k51_things_that_come_once.main.body.getD i (.Pass ⟨0,0,0,0⟩)
abbrev Dh:Stmt:=top 21
abbrev G3:Stmt:=top 24
abbrev Lo:Stmt:=top 29
abbrev Dn:Stmt:=inClass (top 34) 0
abbrev Fg:Stmt:=inClass (top 34) 5
abbrev Dp:Stmt:=inClass (top 34) 9
abbrev Gb:Stmt:=top 36
abbrev Hf:Stmt:=top 37
abbrev Ga:Stmt:=top 39
abbrev F9:Stmt:=top 41
abbrev G7:Stmt:=top 44
abbrev Dc:Stmt:=top 46
abbrev Hg:Stmt:=top 22
abbrev Ep:Stmt:=top 25
abbrev Cd:Stmt:=inClass (top 31) 1
abbrev Fe:Stmt:=top 40
abbrev Gf:Stmt:=top 42
abbrev En:Stmt:=top 43
abbrev Ob:Stmt:=top 26
abbrev Dk:Stmt:=inClass (top 31) 0
abbrev B1:Stmt:=inClass (top 34) 1
abbrev El:Stmt:=top 47
abbrev Oz:Stmt:=top 27
abbrev Em:Stmt:=inClass (top 34) 10
abbrev W5:Stmt:=top 28
abbrev Fh:Stmt:=inClass (top 34) 3
abbrev Ej:Stmt:=inClass (top 34) 11
abbrev Fm:Stmt:=top 45
abbrev Fd:Stmt:=top 48
abbrev F7:Stmt:=top 49
abbrev T4:Stmt:=top 50
set_option genInjectivity false
set_option genSizeOf false
structure Adr where
 Gw:Addr
 Gm:FuncData
 Kb:Addr
 Km:FuncData
 Pf:Addr
 P6:FuncData
 Fy:Addr
 Fz:FuncData
 Ia:Addr
 Ig:FuncData
 F0:Addr
 F3:FuncData
 Jq:Addr
 Ji:FuncData
 Kh:Addr
 Ky:FuncData
 Jg:Addr
 Jh:FuncData
 Jf:Addr
 Jo:FuncData
 Kj:Addr
 Kv:FuncData
 Hr:Addr
 Ic:FuncData
 Ko:Addr
 Kl:FuncData
 Gj:Addr
 Gp:FuncData
 Es:Addr
 Ez:FuncData
 Hv:Addr
 Hw:FuncData
 J9:Addr
 J7:FuncData
 Gr:Addr
 Gn:FuncData
 V1:Addr
 Uy:FuncData
 F1:Addr
 F4:FuncData
 Eh:Addr
 Ei:FuncData
 Gv:Addr
 Gs:FuncData
 f_both:Addr
 Vd:FuncData
 Gk:Addr
 Gu:FuncData
 b4:Addr
 dh:FuncData
 Ih:Addr
 Ib:FuncData
 Hn:Addr
 Hu:FuncData
 Hy:Addr
 Ie:FuncData
 Jk:Addr
 Jp:FuncData
 Jl:Addr
 Jr:FuncData
 Wc:Addr
 S8:FuncData
 G2:Addr
 Du:Addr
 Aq:Addr
 Ay:Addr
 Al:Addr
 Fi:Addr
 Dt:Addr
 Bq:Addr
 Bi:Addr
 Co:Addr
 Dl:Addr
 Ak:Addr
 Dq:Addr
 Ag:Addr
 Dr:Addr
 Ao:Addr
 Ar:Addr
structure Txt (K:W.Frag)(mg:Str->Option Value)(a:Adr):Prop where
 Ma:Fun K "is_made_of" "is_made_of" Dh a.Gw a.Gm
 Rt:mg "is_made_of"=some (.ref a.Gw)
 Ro:Binds K a.Gm ["text","signs"] []
 Se:Fun K "is_span" "is_span" G3 a.Kb a.Km
 Zj:mg "is_span"=some (.ref a.Kb)
 Xu:Binds K a.Km ["begin","end"] []
 Y7:Fun K "meets" "meets" Lo a.Pf a.P6
 i7:mg "meets"=some (.ref a.Pf)
 f7:Binds K a.P6 ["span","begin","end"] []
 Pk:Fun K "__init__" "Book.__init__" Dn a.Fy a.Fz
 Kr:Binds K a.Fz ["self"] []
 Ui:Fun K "drop" "Book.drop" Fg a.Ia a.Ig
 S9:Binds K a.Ig ["self","name"] []
 Px:Fun K "things" "Book.things" Dp a.F0 a.F3
 Kz:Binds K a.F3 ["self"] []
 Od:Fun K "_law_cell" "_law_cell" Gb a.Jq a.Ji
 Xj:mg "_law_cell"=some (.ref a.Jq)
 W8:Binds K a.Ji ["_law_script","_law_k"] []
 A8:Fun K "_law_mix" "_law_mix" Hf a.Kh a.Ky
 Bc:mg "_law_mix"=some (.ref a.Kh)
 Be:Binds K a.Ky ["_law_state","_law_cell_here"] []
 Ol:Fun K "_law_lone" "_law_lone" Ga a.Jg a.Jh
 Wj:mg "_law_lone"=some (.ref a.Jg)
 Wv:Binds K a.Jh ["_law_e"] []
 Ot:Fun K "_law_laid" "_law_laid" F9 a.Jf a.Jo
 W3:mg "_law_laid"=some (.ref a.Jf)
 Xh:Binds K a.Jo ["_law_row"] []
 Sd:Fun K "_law_due" "_law_due" G7 a.Kj a.Kv
 Zs:mg "_law_due"=some (.ref a.Kj)
 Y3:Binds K a.Kv ["_law_plain","_law_name","_law_begin","_law_end","_law_good"] []
 Mv:Fun K "_law_spans" "_law_spans" Dc a.Hr a.Ic
 Tj:mg "_law_spans"=some (.ref a.Hr)
 Uu:Binds K a.Ic ["_law_plain","_law_begin","_law_end"] []
 R5:Fun K "is_name" "is_name" Hg a.Ko a.Kl
 X1:mg "is_name"=some (.ref a.Ko)
 Xr:Binds K a.Kl ["text"] []
 Io:Fun K "check_span" "check_span" Ep a.Gj a.Gp
 Ly:mg "check_span"=some (.ref a.Gj)
 Ls:Binds K a.Gp ["begin","end"] []
 M5:Fun K "spans_in" "Once.spans_in" Cd a.Es a.Ez
 Mr:Binds K a.Ez ["self","begin","end"] []
 Ng:Fun K "_law_names" "_law_names" Fe a.Hv a.Hw
 T3:mg "_law_names"=some (.ref a.Hv)
 S7:Binds K a.Hw ["_law_state","_law_many"] []
 Rb:Fun K "_law_cut" "_law_cut" Gf a.J9 a.J7
 Yb:mg "_law_cut"=some (.ref a.J9)
 Y4:Binds K a.J7 ["_law_row","_law_begin","_law_end"] []
 Ir:Fun K "_law_moment" "_law_moment" En a.Gr a.Gn
 L5:mg "_law_moment"=some (.ref a.Gr)
 Lr:Binds K a.Gn ["_law_state"] []
 Vn:Fun K "laid" "laid" Ob a.V1 a.Uy
 aj:mg "laid"=some (.ref a.V1)
 Y2:Binds K a.Uy ["row"] []
 P9:Fun K "__init__" "Once.__init__" Dk a.F1 a.F4
 O7:Binds K a.F4 ["self","begin","end"] []
 Mh:Fun K "check_new" "Book.check_new" B1 a.Eh a.Ei
 Me:Binds K a.Ei ["self","name"] []
 Lu:Fun K "_law_window" "_law_window" El a.Gv a.Gs
 Q5:mg "_law_window"=some (.ref a.Gv)
 Sb:Binds K a.Gs ["_law_state","_law_plain"] []
 fi:Fun K "both" "both" Oz a.f_both a.Vd
 kx:mg "both"=some (.ref a.f_both)
 l5:Binds K a.Vd ["one","other"] []
 Sk:Fun K "spans" "Book.spans" Em a.Gk a.Gu
 Iy:Binds K a.Gu ["self","begin","end"] []
 lp:Fun K "cut" "cut" W5 a.b4 a.dh
 n9:mg "cut"=some (.ref a.b4)
 n5:Binds K a.dh ["row","begin","end"] []
 T6:Fun K "once" "Book.once" Fh a.Ih a.Ib
 Jz:Binds K a.Ib ["self","name","begin","end"] []
 Th:Fun K "busy" "Book.busy" Ej a.Hn a.Hu
 Ua:Binds K a.Hu ["self","begin","end"] []
 Nd:Fun K "_law_tried" "_law_tried" Fm a.Hy a.Ie
 Tp:mg "_law_tried"=some (.ref a.Hy)
 Tf:Binds K a.Ie ["_law_book","_law_kind","_law_name","_law_begin","_law_end"] []
 O0:Fun K "_law_same" "_law_same" Fd a.Jk a.Jp
 Wd:mg "_law_same"=some (.ref a.Jk)
 W7:Binds K a.Jp ["_law_book","_law_plain","_law_state","_law_held"] []
 O2:Fun K "_law_deed" "_law_deed" F7 a.Jl a.Jr
 Xm:mg "_law_deed"=some (.ref a.Jl)
 Xo:Binds K a.Jr ["_law_book","_law_plain","_law_names_here","_law_state","_law_cell_here"] []
 m8:Fun K "law" "law" T4 a.Wc a.S8
 oo:mg "law"=some (.ref a.Wc)
 qy:Binds K a.S8 ["_law_script"] []
 Iz:∃t,mg "FIGURES"=some (.str "0123456789" t)
 G9:∃t,mg "LETTERS"=some (.str "abcdefghijklmnopqrstuvwxyz" t)
 Ex:∃t,mg "MOST_THINGS"=some (.int 40 t)
 Fq:∃t,mg "NAME_SIGNS"=some (.int 8 t)
 Sa:mg "Busy"=some (.ref a.G2)
 Kw:mg "Closed"=some (.ref a.Du)
 Nj:mg "Full"=some (.ref a.Aq)
 Aq:W.excIn K a.Aq vE "ValueError.__new__"=true
 Fo:mg "HouseError"=some (.ref a.Ay)
 R3:Catch K a.Ay
 J0:mg "Known"=some (.ref a.Al)
 Al:W.excIn K a.Al vE "ValueError.__new__"=true
 M0:mg "NoDay"=some (.ref a.Fi)
 Kp:mg "NoHand"=some (.ref a.Dt)
 G6:mg "NoLetter"=some (.ref a.Bq)
 Gg:mg "NoMeeting"=some (.ref a.Bi)
 Jc:mg "NoPlace"=some (.ref a.Co)
 J8:mg "NoRule"=some (.ref a.Dl)
 Ho:mg "NoSpan"=some (.ref a.Ak)
 Ak:W.excIn K a.Ak vE "ValueError.__new__"=true
 Ks:mg "NoText"=some (.ref a.Dq)
 Gh:mg "NoThing"=some (.ref a.Ag)
 Ag:W.excIn K a.Ag vE "ValueError.__new__"=true
 Ku:mg "NoWord"=some (.ref a.Dr)
 Br:W.mroIn K a.Ak (.ref a.Ay)=some true
 Bf:W.mroIn K a.Ag (.ref a.Ay)=some true
 B6:W.mroIn K a.Al (.ref a.Ay)=some true
 Ci:W.mroIn K a.Aq (.ref a.Ay)=some true
 By:ExC K a.Ak
 Ea:W.kitOne K (.ref a.Ak) (.ref a.Fi)=some false
 Df:W.kitOne K (.ref a.Ak) (.ref a.Dq)=some false
 C8:W.kitOne K (.ref a.Ak) (.ref a.Dl)=some false
 Cs:W.kitOne K (.ref a.Ak) (.ref a.Co)=some false
 Ce:W.kitOne K (.ref a.Ak) (.ref a.Ak)=some true
 Cu:W.kitOne K (.ref a.Ak) (.ref a.Ag)=some false
 C0:W.kitOne K (.ref a.Ak) (.ref a.Al)=some false
 Dj:W.kitOne K (.ref a.Ak) (.ref a.Aq)=some false
 Ck:W.kitOne K (.ref a.Ak) (.ref a.Bq)=some false
 C7:W.kitOne K (.ref a.Ak) (.ref a.Dt)=some false
 C9:W.kitOne K (.ref a.Ak) (.ref a.Dr)=some false
 B4:W.kitOne K (.ref a.Ak) (.ref a.Bi)=some false
 C6:W.kitOne K (.ref a.Ak) (.ref a.Du)=some false
 E7:W.kitOne K (.ref a.Ak) (.ref a.G2)=some false
 Bu:W.kitOne K (.ref a.Ak) (.type "ValueError")=some true
 A9:ExC K a.Ag
 C5:W.kitOne K (.ref a.Ag) (.ref a.Fi)=some false
 Ct:W.kitOne K (.ref a.Ag) (.ref a.Dq)=some false
 Cq:W.kitOne K (.ref a.Ag) (.ref a.Dl)=some false
 Cg:W.kitOne K (.ref a.Ag) (.ref a.Co)=some false
 Bl:W.kitOne K (.ref a.Ag) (.ref a.Ak)=some false
 Cj:W.kitOne K (.ref a.Ag) (.ref a.Ag)=some true
 Bv:W.kitOne K (.ref a.Ag) (.ref a.Al)=some false
 B8:W.kitOne K (.ref a.Ag) (.ref a.Aq)=some false
 B7:W.kitOne K (.ref a.Ag) (.ref a.Bq)=some false
 Cw:W.kitOne K (.ref a.Ag) (.ref a.Dt)=some false
 Cz:W.kitOne K (.ref a.Ag) (.ref a.Dr)=some false
 Bs:W.kitOne K (.ref a.Ag) (.ref a.Bi)=some false
 Cr:W.kitOne K (.ref a.Ag) (.ref a.Du)=some false
 D4:W.kitOne K (.ref a.Ag) (.ref a.G2)=some false
 Bn:W.kitOne K (.ref a.Ag) (.type "ValueError")=some true
 C4:ExC K a.Al
 Ew:W.kitOne K (.ref a.Al) (.ref a.Fi)=some false
 Ee:W.kitOne K (.ref a.Al) (.ref a.Dq)=some false
 Dy:W.kitOne K (.ref a.Al) (.ref a.Dl)=some false
 Dd:W.kitOne K (.ref a.Al) (.ref a.Co)=some false
 D5:W.kitOne K (.ref a.Al) (.ref a.Ak)=some false
 Di:W.kitOne K (.ref a.Al) (.ref a.Ag)=some false
 Ds:W.kitOne K (.ref a.Al) (.ref a.Al)=some true
 Eo:W.kitOne K (.ref a.Al) (.ref a.Aq)=some false
 Cy:W.kitOne K (.ref a.Al) (.ref a.Bq)=some false
 Dz:W.kitOne K (.ref a.Al) (.ref a.Dt)=some false
 D9:W.kitOne K (.ref a.Al) (.ref a.Dr)=some false
 Cn:W.kitOne K (.ref a.Al) (.ref a.Bi)=some false
 Ed:W.kitOne K (.ref a.Al) (.ref a.Du)=some false
 Ft:W.kitOne K (.ref a.Al) (.ref a.G2)=some false
 B3:W.kitOne K (.ref a.Al) (.type "ValueError")=some true
 Fx:ExC K a.Aq
 Fp:W.kitOne K (.ref a.Aq) (.ref a.Fi)=some false
 E5:W.kitOne K (.ref a.Aq) (.ref a.Dq)=some false
 Ey:W.kitOne K (.ref a.Aq) (.ref a.Dl)=some false
 D7:W.kitOne K (.ref a.Aq) (.ref a.Co)=some false
 E6:W.kitOne K (.ref a.Aq) (.ref a.Ak)=some false
 Ec:W.kitOne K (.ref a.Aq) (.ref a.Ag)=some false
 Fu:W.kitOne K (.ref a.Aq) (.ref a.Al)=some false
 Fn:W.kitOne K (.ref a.Aq) (.ref a.Aq)=some true
 De:W.kitOne K (.ref a.Aq) (.ref a.Bq)=some false
 E8:W.kitOne K (.ref a.Aq) (.ref a.Dt)=some false
 Eu:W.kitOne K (.ref a.Aq) (.ref a.Dr)=some false
 Cv:W.kitOne K (.ref a.Aq) (.ref a.Bi)=some false
 Er:W.kitOne K (.ref a.Aq) (.ref a.Du)=some false
 Ge:W.kitOne K (.ref a.Aq) (.ref a.G2)=some false
 Cf:W.kitOne K (.ref a.Aq) (.type "ValueError")=some true
 d3:mg "Book"=some (.ref a.Ao)
 Cm:Cls K a.Ao
 Lf:Mk K a.Ao a.Fy
 Bj:NoAttr K a.Ao "by_name"
 Q4:Meth K a.Ao "busy" a.Hn
 Lj:Meth K a.Ao "check_new" a.Eh
 Q1:Meth K a.Ao "drop" a.Ia
 Jb:Meth K a.Ao "once" a.Ih
 Hl:Meth K a.Ao "spans" a.Gk
 Ju:Meth K a.Ao "things" a.F0
 ma:mg "Once"=some (.ref a.Ar)
 Nt:Cls K a.Ar
 Nv:Mk K a.Ar a.F1
 Lv:NoAttr K a.Ar "begin"
 Oq:NoAttr K a.Ar "end"
 Mg:Meth K a.Ar "spans_in" a.Es
 Fv:mg "ValueError"=none
 Qz:mg "abs"=none
 Z6:mg "all"=none
 Ht:mg "int"=none
 Ap:mg "isinstance"=none
 K9:mg "len"=none
 Nf:mg "list"=none
 P2:mg "max"=none
 Td:mg "min"=none
 Jy:mg "range"=none
 Yl:mg "set"=none
 E2:mg "sorted"=none
def LT:List Nat:=(Str.ofString "abcdefghijklmnopqrstuvwxyz").cps.toList
def FG:List Nat:=(Str.ofString "0123456789").cps.toList
def AL:List Nat:=(Str.ofString "abcdefghijklmnopqrstuvwxyz0123456789").cps.toList
theorem nv:AL=LT++FG:=by decide+kernel
def Gi (l:List Nat):Bool:=if l.length<1∨8<l.length then false else decide (l.headD 0∈LT)&&l.all λc=>decide (c∈AL)
theorem T2 {l:List Nat}(h:l.length<1):Gi l=false:=by unfold Gi;rw[if_pos (.inl h)]
theorem Wq {l:List Nat}(h:8<l.length):Gi l=false:=by unfold Gi;rw[if_pos (.inr h)]
theorem Q8 {l:List Nat}{c:Nat}(h1:¬l.length<1)(h2:¬8<l.length)(e:l[0]?=some c):Gi l=(decide (c∈LT)&&l.all λc=>decide (c∈AL)):=by
 unfold Gi
 rw[if_neg (by intro h;rcases h with h|h<;>lia)]
 cases l with
 | nil=>simp at e
 | cons x r=>simp at e;subst e;rfl
theorem kj:(1000:Nat)<sizeLine:=by decide
def Qd:Sp:=λvs H Q _=>∃t g:Str,vs=[.str t,.str g]/\t.length<=1000/\∀H',Same H H'->Q (.bl (t.cps.toList.all λc=>decide (c∈g.cps.toList))) H'
def Wi:Sp:=λvs H Q _=>∃t:Str,vs=[.str t]/\t.length<=1000/\∀H',Same H H'->Q (.bl (Gi t.cps.toList)) H'
def Pp:List Nat:=(Str.ofString "abcdefghijklmnopqrstuvwxyz0123456789").cps.toList
theorem jz:∀n:Fin 26,∃c,Pp[n.val]?=some c/\c∈LT:=λn=>⟨Pp.getD n.val 0,(by decide+kernel:∀n:Fin 26,Pp[n.val]?=some (Pp.getD n.val 0)) n,(by decide+kernel:∀n:Fin 26,Pp.getD n.val 0∈LT) n⟩
theorem la:∀n:Fin 36,∃c,Pp[n.val]?=some c/\c∈AL:=λn=>⟨Pp.getD n.val 0,(by decide+kernel:∀n:Fin 36,Pp[n.val]?=some (Pp.getD n.val 0)) n,(by decide+kernel:∀n:Fin 36,Pp.getD n.val 0∈AL) n⟩
theorem qm {i:Int}(h0:0<=i)(h1:i<26):∃c,c∈LT/\atI Pp i=some c:=by
 obtain⟨c,e,h⟩:=jz ⟨i.toNat,by lia⟩
 exact⟨c,h,by rw[show i=((i.toNat:Nat):Int) by lia];exact Dv e⟩
theorem qq {i:Int}(h0:0<=i)(h1:i<36):∃c,c∈AL/\atI Pp i=some c:=by
 obtain⟨c,e,h⟩:=la ⟨i.toNat,by lia⟩
 exact⟨c,h,by rw[show i=((i.toNat:Nat):Int) by lia];exact Dv e⟩
def Xg:Sp:=λvs H Q _=>∃b e:Int,vs=[.int b,.int e]/\Q (.bl (decide (b<e))) H
def O4 (X:Addr):Sp:=λvs H Q E=>∃b e:Int,vs=[.int b,.int e]/\(b<e->Q .non H)/\(¬b<e->E (.ref X) none H)
def aa:Sp:=λvs H Q _=>∃(l:Addr)(rs:List RA),vs=[.ref l]/\RowAt H l rs/\DL.Good (sps rs)/\rs.length<64/\
 ∀(D:Addr)H'(qs:List RA),Same H H'->H D=none->RowAt H' D qs->DL.Laid (sps qs)->(∀m,DL.Tk (sps qs) m↔DL.Tk (sps rs) m)->qs.length<=rs.length->Q (.ref D) H'
theorem Ii {rs:List RA}{i:Nat}{y:RA}(h:rs[i]?=some y):(sps rs)[i]?=some y.2:=by unfold sps;rw[ur,h];rfl
theorem Iv {rs:List RA}{i:Nat}{y:RA}(h:rs[i]?=some y):(refs rs)[i]?=some (.ref y.1):=by unfold refs;rw[ur,h];rfl
theorem Vf {rs qs:List RA}(h:qs.Perm rs):(sps qs).Perm (sps rs):=h.map _
theorem fg {rs:List RA}{i:Nat}(h:i<rs.length):∃y,rs[i]?=some y:=⟨rs[i],by simp[h]⟩
theorem Us {rs:List RA}{y:RA}(h:y∈rs):y.2∈sps rs:=uu h
theorem Aa6 {α:Type}{l:List α}{i:Nat}{y:α}(h:l[i]?=some y):l.take (i+1)=l.take i++[y]:=by rw[Aab,h];rfl
theorem U8 {qs:List RA}(h:qs.Pairwise λx y=>x.2.1<=y.2.1){i:Nat}{y:RA}(hy:qs[i]?=some y):∀q∈sps (qs.take i),q.1<=y.2.1:=by
 intro q hq
 unfold sps at hq
 obtain⟨x,hx,rfl⟩:=t6.mp hq
 obtain⟨j,hj⟩:=xc hx
 obtain⟨hl,rfl⟩:=t8.mp hj
 obtain⟨hi,rfl⟩:=t8.mp hy
 rw[ux] at hl
 rw[List.getElem_take]
 exact xt.mp h j i (by lia) hi (by lia)
theorem d7 {H:Hp}{F D:Addr}{u v:HO}(hF:H F=none):Same (upd H D v) (upd (upd H F u) D v):=λb o e=>by
 by_cases hb:b=D
 · subst hb;rw[Ab] at e ⊢;exact e
 ·
  rw[Ad hb] at e ⊢
  rw[Ad (Am e hF)]
  exact e
theorem Ys {rs:List RA}(h:(!(refs rs).isEmpty)=true):∃o y,rs=o++[y]:=by
 rcases List.eq_nil_or_concat rs with rfl|⟨o,y,rfl⟩
 · cases h
 · exact⟨o,y,List.concat_eq_append ..⟩
theorem nil_of {rs:List RA}(h:¬(!(refs rs).isEmpty)=true):rs=[]:=by
 cases rs with
 | nil=>rfl
 | cons a l=>exact absurd rfl h
theorem Z0 (o:List RA)(y:RA):(refs (o++[y]))[(refs (o++[y])).length-1]?=some (.ref y.1):=by
 unfold refs
 rw[uv]
 simp
theorem Qf (o:List RA)(y:RA):(refs (o++[y])).dropLast=refs o:=by
 unfold refs
 rw[uv]
 simp
theorem F2 (o:List RA)(y:RA):atI (refs (o++[y])) (-1)=some (.ref y.1):=by
 unfold refs
 rw[uv]
 exact ck _ _
theorem mj {rs:List RA}{n:Nat}(h:rs.length<=n)(hn:n<sizeLine):(refs rs).length<sizeLine:=by rw[Gq];lia
def k7 (w:List (Int×Int)->List (Int×Int)->Int->Prop):Sp:=λvs H Q _=>∃(l m:Addr)(rs ps:List RA),vs=[.ref l,.ref m]/\RowAt H l rs/\RowAt H m ps/\DL.Good (sps rs)/\DL.Good (sps ps)/\rs.length<64/\ps.length<64/\
 ∀(D:Addr)H'(qs:List RA),Same H H'->H D=none->RowAt H' D qs->DL.Laid (sps qs)->(∀m,DL.Tk (sps qs) m↔w (sps rs) (sps ps) m)->qs.length<=rs.length+ps.length->Q (.ref D) H'
def iq:Sp:=k7 λa b m=>DL.Tk a m/\DL.Tk b m
theorem lu {fs:List RA}{n:Nat}(hz:fs.length<=n)(hn:n<sizeLine):(refs fs).length<sizeLine:=by rw[Gq];lia
theorem int_lt {a b:Nat}(h:decide ((a:Int)<(b:Int))=true):a<b:=by have:=tw h;lia
def lr:Sp:=λvs H Q _=>∃(l:Addr)(rs:List RA)(b e:Int),vs=[.ref l,.int b,.int e]/\RowAt H l rs/\DL.Good (sps rs)/\rs.length<60/\
 ∀(D:Addr)H'(qs:List RA),Same H H'->H D=none->RowAt H' D qs->DL.Laid (sps qs)->(∀m,DL.Tk (sps qs) m↔DL.Tk (sps rs) m/\(b<=m/\m<e))->qs.length<=rs.length+1->Q (.ref D) H'
theorem qv {cm:Bool}{k:Nat}{A:Around}(hr:Room cm k A):A.units+40<cLine:=ve (Aax (by decide:40<=64) _) hr.units
abbrev TH:=Str×Addr×Int×Int
abbrev thN (x:TH):Str:=x.1
abbrev thB (x:TH):Int:=x.2.2.1
abbrev thE (x:TH):Int:=x.2.2.2
abbrev Mn (x:TH):Str×Int×Int:=(x.1,x.2.2)
def kvT (xs:List TH):List (Key×V):=xs.map λx=>(.inr x.1,.ref x.2.1)
structure BookAt (C O:Addr)(H:Hp)(b d:Addr)(xs:List TH):Prop where
 ins:∃db,H b=some (.ins C db [("by_name",.ref d)])
 at_:H d=some (.dK (kvT xs))
 ok:∀x∈xs,∃dx,H x.2.1=some (.ins O dx [("begin",.int (thB x)),("end",.int (thE x))])
 nd:(xs.map thN).Nodup
 good:∀x∈xs,thB x<thE x
 few:xs.length<=40
theorem BookAt.up {C O:Addr}{H H':Hp}{b d:Addr}{xs:List TH}(h:BookAt C O H b d xs)(s:Same H H'):BookAt C O H' b d xs:=
 ⟨let ⟨db,e⟩:=h.ins;⟨db,s _ _ e⟩,s _ _ h.at_,λx hx=>let ⟨dx,e⟩:=h.ok x hx;⟨dx,s _ _ e⟩,h.nd,h.good,h.few⟩
theorem Qx {xs:List TH}{nm:Str}:(Pr (kvT xs) (.inr nm)).isSome=decide (nm∈xs.map thN):=by
 induction xs with
 | nil=>rfl
 |
  cons x xs ih=>
  show(Pr ((Sum.inr x.1,V.ref x.2.1)::kvT xs) (.inr nm)).isSome=_
  by_cases e:x.1=nm
  ·
   subst e
   rw[K6 rfl]
   exact(so (uu (f:=thN) sk)).symm
  ·
   rw[J4 (λz=>e (Aav z)),ih]
   exact xj.mpr (by rw[um,uq];exact⟨.inr,λz=>z.resolve_left λw=>e w.symm⟩)
theorem Sg {xs:List TH}{x:TH}(nd:(xs.map thN).Nodup)(hx:x∈xs):Pr (kvT xs) (.inr x.1)=some (.ref x.2.1):=by
 induction xs with
 | nil=>cases hx
 |
  cons y xs ih=>
  show Pr ((Sum.inr y.1,V.ref y.2.1)::kvT xs) (.inr x.1)=_
  rw[um,wt] at nd
  rcases uq.mp hx with rfl|hx
  · rw[K6 rfl]
  ·
   rw[J4 (λz=>nd.1 (by rw[show thN y=y.1 from rfl,Aav z];exact uu (f:=thN) hx))]
   exact ih nd.2 hx
theorem Yz {xs:List TH}{nm:Str}{o:Addr}{b e:Int}(h:¬nm∈xs.map thN):putK (kvT xs) (.inr nm) (.ref o)=kvT (xs++[(nm,o,b,e)]):=by
 rw[bc]
 · unfold kvT;rw[uv];rfl
 ·
  cases e:Pr (kvT xs) (.inr nm) with
  | none=>rfl
  | some v=>have:=Qx (xs:=xs) (nm:=nm);rw[e] at this;exact absurd (tw this.symm) h
def Kt (xs:List TH)(nm:Str):List TH:=xs.filter λx=>decide (x.1≠nm)
theorem Yg {xs:List TH}{nm:Str}:Sy (kvT xs) (.inr nm)=kvT (Kt xs nm):=by
 unfold Sy kvT Kt
 rw[x9]
 congr 1
 refine Abe λx _=>?_
 exact xj.mpr ⟨λz w=>z (vi Sum.inr w),λz w=>z (Aav w)⟩
theorem T8 (xs:List TH):(kvT xs).map (·.1)=(xs.map thN).map Sum.inr:=by unfold kvT;rw[uo,uo];rfl
theorem BookAt.ne {C O:Addr}{H:Hp}{b d:Addr}{xs:List TH}(h:BookAt C O H b d xs):b≠d/\∀x∈xs,x.2.1≠d:=by
 obtain⟨db,e⟩:=h.ins
 refine⟨λz=>(by rw[z,h.at_] at e;exact nomatch e),λx hx z=>?_⟩
 obtain⟨dx,e⟩:=h.ok x hx
 rw[z,h.at_] at e
 cases e
theorem BookAt.drop {C O:Addr}{H:Hp}{b d:Addr}{xs:List TH}(h:BookAt C O H b d xs)(nm:Str):BookAt C O (upd H d (.dK (kvT (Kt xs nm)))) b d (Kt xs nm):=by
 obtain⟨n1,n2⟩:=h.ne
 refine⟨let ⟨db,e⟩:=h.ins;⟨db,by rw[Ad n1];exact e⟩,Ab,λx hx=>?_,h.nd.sublist (Aaz.map _),λx hx=>h.good x (va.mp hx).1,uy (v9 _ _) h.few⟩
 have hx:=(va.mp hx).1
 obtain⟨dx,e⟩:=h.ok x hx
 exact⟨dx,by rw[Ad (n2 x hx)];exact e⟩
def Hj (xs:List TH)(nm:Str):Nat:=if 40<=xs.length then 1 else if Gi nm.cps.toList=false then 2 else if nm∈xs.map thN then 3 else 0
theorem gk {xs:List TH}{nm:Str}(h:Hj xs nm=0):xs.length<40/\Gi nm.cps.toList=true/\¬nm∈xs.map thN:=by
 unfold Hj at h
 by_cases h1:40<=xs.length
 · rw[if_pos h1] at h;cases h
 rw[if_neg h1] at h
 by_cases h2:Gi nm.cps.toList=false
 · rw[if_pos h2] at h;cases h
 rw[if_neg h2] at h
 by_cases h3:nm∈xs.map thN
 · rw[if_pos h3] at h;cases h
 exact⟨by lia,by simpa using h2,h3⟩
theorem BookAt.add {C O:Addr}{H:Hp}{b d:Addr}{xs:List TH}{nm:Str}{x dx:Addr}{s e:Int}(h:BookAt C O H b d xs)(hx:H x=some (.ins O dx [("begin",.int s),("end",.int e)]))(hl:xs.length<40)(hn:¬nm∈xs.map thN)(hb:s<e):
  BookAt C O (upd H d (.dK (kvT (xs++[(nm,x,s,e)])))) b d (xs++[(nm,x,s,e)]):=by
 obtain⟨n1,n2⟩:=h.ne
 refine⟨let ⟨db,e⟩:=h.ins;⟨db,by rw[Ad n1];exact e⟩,Ab,λy hy=>?_,?_,λy hy=>?_,by rw[ue];show xs.length+1<=40;lia⟩
 ·
  rcases uh.mp hy with hy|hy
  ·
   obtain⟨dy,e'⟩:=h.ok y hy
   exact⟨dy,by rw[Ad (n2 y hy)];exact e'⟩
  ·
   rw[tj] at hy
   subst hy
   have nx:x≠d:=λz=>by rw[z,h.at_] at hx;cases hx
   exact⟨dx,by rw[Ad nx];exact hx⟩
 ·
  rw[uv]
  refine Abd.mpr ⟨h.nd,wt.mpr ⟨ym,.nil⟩,λa ha c hc=>?_⟩
  rw[zu,tj] at hc
  subst hc
  exact λz=>hn (z▸ha)
 ·
  rcases uh.mp hy with hy|hy
  · exact h.good y hy
  ·
   rw[tj] at hy
   subst hy
   exact hb
def da:Sp:=λvs H Q _=>∃(p:Addr)(b0 e0 b e:Int),vs=[.ref p,.int b,.int e]/\H p=some (.tup [.int b0,.int e0])/\Q (.bl (decide (max b0 b<min e0 e))) H
def Sq (C X:Addr):Sp:=λvs H Q E=>∃(x dx:Addr)(b e:Int),vs=[.ref x,.int b,.int e]/\H x=some (.ins C dx [])/\(b<e->Q .non (upd H x (.ins C dx [("begin",.int b),("end",.int e)])))/\(¬b<e->E (.ref X) none H)
def J3 (x:TH)(b e:Int):Bool:=decide (max (thB x) b<min (thE x) e)
def Ik (C:Addr):Sp:=λvs H Q _=>∃(x dx:Addr)(b0 e0 b e:Int),vs=[.ref x,.int b,.int e]/\H x=some (.ins C dx [("begin",.int b0),("end",.int e0)])/\
 ∀(l p:Addr)H',Same H H'->H l=none->H' l=some (.lst (if max b0 b<min e0 e then[.ref p] else[]))->H' p=some (.tup [.int b0,.int e0])->Q (.ref l) H'
def R6 (C:Addr):Sp:=λvs H Q _=>∃(x dx:Addr),vs=[.ref x]/\H x=some (.ins C dx [])/\∀d,H d=none->Q .non (upd (upd H d (.dK [])) x (.ins C dx [("by_name",.ref d)]))
def Hi (C O F N K:Addr):Sp:=λvs H Q E=>∃(b d:Addr)(xs:List TH)(nm:Str),vs=[.ref b,.str nm]/\BookAt C O H b d xs/\nm.length<=1000/\
 (Hj xs nm=0->∀H',Same H H'->Q .non H')/\(Hj xs nm=1->E (.ref F) none H)/\(Hj xs nm=2->∀H',Same H H'->E (.ref N) none H')/\(Hj xs nm=3->∀H',Same H H'->E (.ref K) none H')
def Gx (C O F N K S:Addr):Sp:=λvs H Q E=>∃(b d:Addr)(xs:List TH)(nm:Str)(s e:Int),vs=[.ref b,.str nm,.int s,.int e]/\BookAt C O H b d xs/\nm.length<=1000/\
 (Hj xs nm=0->s<e->∀(o:Addr)H',SameX d H H'->BookAt C O H' b d (xs++[(nm,o,s,e)])->Q .non H')/\(Hj xs nm=1->E (.ref F) none H)/\(Hj xs nm=2->∀H',Same H H'->E (.ref N) none H')/\(Hj xs nm=3->∀H',Same H H'->E (.ref K) none H')/\
 (Hj xs nm=0->¬s<e->∀H',Same H H'->E (.ref S) none H')
def Lz (C O N:Addr):Sp:=λvs H Q E=>∃(b d:Addr)(xs:List TH)(nm:Str),vs=[.ref b,.str nm]/\BookAt C O H b d xs/\
 (nm∈xs.map thN->BookAt C O (upd H d (.dK (kvT (Kt xs nm)))) b d (Kt xs nm)->Q .non (upd H d (.dK (kvT (Kt xs nm)))))/\(¬nm∈xs.map thN->E (.ref N) none H)
def G0 (C O:Addr):Sp:=λvs H Q _=>∃(b d:Addr)(xs:List TH),vs=[.ref b]/\BookAt C O H b d xs/\∀(l:Addr)(ms:List Str),H l=none->ms.Perm (xs.map thN)->(ms.Pairwise λx y=>ltS y x=false)->Q (.ref l) (upd H l (.lst (ms.map V.str)))
def k3 (x:TH):List Key:=[.inl (thB x),.inl (thE x),.inr x.1]
def K7 (xs:List TH)(b e:Int):List (List Key):=(xs.filter λx=>J3 x b e).map k3
theorem Jj (xs:List TH)(b e:Int):(K7 xs b e).length<=xs.length:=by unfold K7;rw[sf];exact v9 _ _
theorem Zy {xs:List TH}{i:Nat}{x:TH}{b e:Int}(h:xs[i]?=some x):K7 (xs.take (i+1)) b e=K7 (xs.take i) b e++if J3 x b e=true then[k3 x] else[]:=by
 rw[Aa6 h]
 unfold K7
 rw[yv,uv]
 congr 1
 by_cases z:J3 x b e=true
 · rw[List.filter_cons_of_pos (p:=λx=>J3 x b e) z,if_pos z];rfl
 · rw[List.filter_cons_of_neg (p:=λx=>J3 x b e) z,if_neg z];rfl
abbrev nkF (k:List Key):List NK:=k.map Sum.inl
theorem Xs {a b:List Key}(h:nkF a=nkF b):a=b:=(List.map_inj_right λx y e=>Sum.inl.inj e).mp h
theorem Y9 {l:List (List Key)}{c:List Key}:nkF c∈l.map nkF↔c∈l:=⟨λh=>by obtain⟨y,hy,e⟩:=t6.mp h;rw[←Xs e];exact hy,λh=>uu h⟩
theorem Q2 {α β:Type}{f:α->β}{l:List α}(h:(l.map f).Nodup):l.Nodup:=(List.pairwise_map.mp h).imp λ{a b}n e=>n (by rw[e])
theorem fy {xs:List TH}{b e:Int}(h:(xs.map thN).Nodup):(K7 xs b e).Nodup:=by
 unfold K7
 have h2:((xs.filter λx=>J3 x b e).map thN).Nodup:=h.sublist (Aaz.map _)
 refine List.pairwise_map.mpr ((List.pairwise_map.mp h2).imp λ{x y}n z=>n ?_)
 unfold k3 at z
 injection z with _ z
 injection z with _ z
 injection z with z _
 exact Aav z
theorem ok3 (x y:TH):okL (nkF (k3 x)) (nkF (k3 y))=true:=by
 unfold nkF k3
 simp only[um,List.map_nil]
 unfold okL
 split
 ·
  unfold okL
  split
  ·
   unfold okL
   split
   · unfold okL;rfl
   · rfl
  · rfl
 · rfl
theorem ar {α β:Type}{f:α->β}{m:List α}:∀{l:List β},(∀x∈l,∃y∈m,f y=x)->∃l':List α,l=l'.map f/\∀y∈l',y∈m
 | [],_=>⟨[],rfl,λ_ z=>nomatch z⟩
 |
  x::l,h=>by
  obtain⟨y,hy,e⟩:=h x sk
  obtain⟨l',e',h'⟩:=ar (m:=m) (l:=l) λz hz=>h z (sq _ hz)
  exact⟨y::l',by rw[um,e,e'],λz hz=>by rcases uq.mp hz with rfl|hz;exact hy;exact h' z hz⟩
def jb (ks:List (List Key)):Prop:=ks.Pairwise λx y=>ltL (nkF y) (nkF x)=false
def pairOf:List Key->Int×Int
 | .inl b:: .inl e::_=>(b,e)
 | _=>(0,0)
theorem Vy {H:Hp}{D:Addr}:∀{rs:List (List Key×Addr)},(∀x∈rs,H x.2=some (.tup (x.1.map kV)))->(∀x∈rs,∃b e:Int,x.1=[.inl b,.inl e])->∃ps:List RA,refs ps=rs.map (λx=>V.ref x.2)/\RowOk H ps/\sps ps=(rs.map (·.1)).map pairOf
 | [],_,_=>⟨[],rfl,RowOk.nil,rfl⟩
 |
  x::rs,h,h2=>by
  obtain⟨ps,e1,e2,e3⟩:=Vy (D:=D) (rs:=rs) (λy hy=>h y (sq _ hy)) λy hy=>h2 y (sq _ hy)
  obtain⟨b,e,ex⟩:=h2 x sk
  have hx:=h x sk
  rw[ex] at hx
  refine⟨(x.2,b,e)::ps,?_,λy hy=>?_,?_⟩
  · unfold refs at e1 ⊢;rw[um,um,e1]
  ·
   rcases uq.mp hy with rfl|hy
   · exact hx
   · exact e2 y hy
  · unfold sps at e3 ⊢;rw[um,um,um,e3,ex];rfl
theorem Oc {H:Hp}{D:Addr}{rs:List (List Key×Addr)}(h:TupsAt H D rs)(h2:∀x∈rs,∃b e:Int,x.1=[.inl b,.inl e]):∃ps:List RA,RowAt H D ps/\sps ps=(rs.map (·.1)).map pairOf:=by
 obtain⟨ps,e1,e2,e3⟩:=Vy (D:=D) h.2 h2
 exact⟨ps,⟨by rw[e1];exact h.1,e2⟩,e3⟩
theorem Z4 {xs:List TH}{L:List (Int×Int)}{s e m:Int}(hL:L.Perm ((xs.filter λx=>J3 x s e).map λx=>x.2.2)):(DL.Tk L m/\(s<=m/\m<e))↔((∃x∈xs,thB x<=m/\m<thE x)/\(s<=m/\m<e)):=by
 constructor
 ·
  rintro⟨⟨q,hq,h1,h2⟩,h3⟩
  obtain⟨x,hx,rfl⟩:=t6.mp (hL.mem_iff.mp hq)
  exact⟨⟨x,(va.mp hx).1,h1,h2⟩,h3⟩
 ·
  rintro⟨⟨x,hx,h1,h2⟩,h3⟩
  refine⟨⟨x.2.2,hL.mem_iff.mpr (uu (f:=λx:TH=>x.2.2) (va.mpr ⟨hx,so ?_⟩)),h1,h2⟩,h3⟩
  lia
def F6 (C O:Addr):Sp:=λvs H Q _=>∃(b d:Addr)(xs:List TH)(s e:Int),vs=[.ref b,.int s,.int e]/\BookAt C O H b d xs/\
 ∀(l:Addr)(qs:List (List Key×Addr))H',Same H H'->H l=none->TupsAt H' l qs->(qs.map (·.1)).Perm (K7 xs s e)->jb (qs.map (·.1))->Q (.ref l) H'
def Lp (C O:Addr):Sp:=λvs H Q _=>∃(b d:Addr)(xs:List TH)(s e:Int),vs=[.ref b,.int s,.int e]/\BookAt C O H b d xs/\
 ∀(D:Addr)H'(qs:List RA),Same H H'->H D=none->RowAt H' D qs->DL.Laid (sps qs)->(∀m,DL.Tk (sps qs) m↔(∃x∈xs,thB x<=m/\m<thE x)/\(s<=m/\m<e))->qs.length<=41->Q (.ref D) H'
def N6 (K:W.Frag):Sp:=λvs H Q _=>∃(p:Addr)(ns:List Int)(k:Int),vs=[.ref p,.int k]/\SqL K H p (ns.map V.int)/\0<=k/\∀v:Int,Q (.int v) H
def Rg (s:Int):Prop:=0<=s/\s<2147483647
def Xl:Sp:=λvs H Q _=>∃(L:Addr)(s c:Int),vs=[.ref L,.int c]/\H L=some (.lst [.int s])/\Rg s/\∀s' v:Int,Rg s'->0<=v->Q (.int v) (upd H L (.lst [.int s']))
def S5 (a b c d:Addr):Sp:=λvs H Q _=>∃e x:Addr,vs=[.ref e]/\H e=some (exo e x)/\(x=a∨x=b∨x=c∨x=d)/\Q (.bl true) H
def Pu:Sp:=λvs H Q _=>∃(L:Addr)(s:Int),vs=[.ref L]/\H L=some (.lst [.int s])/\Rg s/\∀s' v:Int,Rg s'->Q (.int v) (upd H L (.lst [.int s']))
theorem bz (n:Nat):ixN (n+1) (-1)=some n:=by
 unfold ixN
 rw[if_neg (by lia),if_pos (by lia)]
 congr 1
 lia
theorem di (o:List RA)(z:RA)(b:Addr):(refs (o++[z])).set o.length (.ref b)=refs o++[.ref b]:=by
 unfold refs
 rw[uv,List.set_append_right _ _ (by rw[sf];lia),sf,Abk]
 rfl
def bq (s e:Int):List Key->List Key
 | .inl b0:: .inl e0::_=>[.inl (if s>b0 then s else b0),.inl (if e<e0 then e else e0)]
 | _=>[]
def inW (s e:Int)(k:List Key):Bool:=decide ((pairOf k).1<e)&&decide ((pairOf k).2>s)
def PrK (k:List Key):Prop:=∃b e:Int,k=[.inl b,.inl e]
def Wy:Sp:=λvs H Q _=>∃(l:Addr)(rs:List (List Key×Addr))(s e:Int),vs=[.ref l,.int s,.int e]/\TupsAt H l rs/\(∀x∈rs,PrK x.1/\(pairOf x.1).1<(pairOf x.1).2)/\(s<e∨rs=[])/\rs.length<60/\
 ∀(D:Addr)H'(qs:List RA),Same H H'->H D=none->RowAt H' D qs->DL.Laid (sps qs)->(∀m,DL.Tk (sps qs) m↔DL.Tk ((rs.map (·.1)).map pairOf) m/\(s<=m/\m<e))->qs.length<=rs.length->Q (.ref D) H'
theorem gh {L:List (List Key)}{s e m:Int}(hL:∀k∈L,PrK k):DL.Tk (((L.filter (inW s e)).map (bq s e)).map pairOf) m↔DL.Tk (L.map pairOf) m/\(s<=m/\m<e):=by
 constructor
 ·
  rintro⟨q,hq,h1,h2⟩
  rw[uo] at hq
  obtain⟨k,hk,rfl⟩:=t6.mp hq
  obtain⟨hk,hw⟩:=va.mp hk
  obtain⟨b,e0,rfl⟩:=hL k hk
  have h1:(if s>b then s else b)<=m:=h1
  have h2:m<(if e<e0 then e else e0):=h2
  refine⟨⟨(b,e0),t6.mpr ⟨_,hk,rfl⟩,?_,?_⟩,?_⟩
  ·
   show b<=m
   split at h1<;>lia
  ·
   show m<e0
   split at h2<;>lia
  · split at h1<;>split at h2<;>lia
 ·
  rintro⟨⟨q,hq,h1,h2⟩,h3,h4⟩
  obtain⟨k,hk,rfl⟩:=t6.mp hq
  obtain⟨b,e0,rfl⟩:=hL k hk
  have h1:b<=m:=h1
  have h2:m<e0:=h2
  refine⟨((if s>b then s else b),(if e<e0 then e else e0)),?_,?_,?_⟩
  ·
   rw[uo]
   refine t6.mpr ⟨_,va.mpr ⟨hk,?_⟩,rfl⟩
   show(decide (b<e)&&decide (e0>s))=true
   rw[so (by lia:b<e),so (by lia:e0>s)]
   rfl
  ·
   show(if s>b then s else b)<=m
   split<;>lia
  ·
   show m<(if e<e0 then e else e0)
   split<;>lia
structure PlainAt (H:Hp)(p:Addr)(ys:List TH):Prop where
 at_:H p=some (.dK (kvT ys))
 ok:∀x∈ys,H x.2.1=some (.tup [.int (thB x),.int (thE x)])
 nd:(ys.map thN).Nodup
 good:∀x∈ys,thB x<thE x
 few:ys.length<=40
theorem PlainAt.up {H H':Hp}{p:Addr}{ys:List TH}(h:PlainAt H p ys)(s:Same H H'):PlainAt H' p ys:=⟨s _ _ h.at_,λx hx=>s _ _ (h.ok x hx),h.nd,h.good,h.few⟩
theorem Qq (xs:List TH):(kvT xs).length=xs.length:=by unfold kvT;rw[sf]
theorem lj {ys:List TH}(h:(ys.map thN).Nodup):∀x∈ys,∀y∈ys,x.1=y.1->x=y:=by
 induction ys with
 | nil=>intro x hx;cases hx
 |
  cons z ys ih=>
  rw[um,wt] at h
  intro x hx y hy e
  rcases uq.mp hx with ex|hx<;>rcases uq.mp hy with ey|hy
  · rw[ex,ey]
  · exact absurd (by rw[←ex,show thN x=y.1 from e];exact uu (f:=thN) hy) h.1
  · exact absurd (by rw[←ey,show thN y=x.1 from e.symm];exact uu (f:=thN) hx) h.1
  · exact ih h.2 x hx y hy e
def Ss (ys:List TH)(nm:Str)(b e:Int):Str:=if Hj ys nm=1 then "Full" else if Hj ys nm=2 then "NoThing" else if Hj ys nm=3 then "Known" else if e<=b then "NoSpan" else ""
def Xd:Sp:=λvs H Q _=>∃(p:Addr)(ys:List TH)(nm:Str)(b e:Int)(g:Bool),vs=[.ref p,.str nm,.int b,.int e,.bl g]/\PlainAt H p ys/\g=Gi nm.cps.toList/\Q (.str (Ss ys nm b e)) H
def Sl:Sp:=λvs H Q _=>∃(p:Addr)(ys:List TH)(s e:Int),vs=[.ref p,.int s,.int e]/\PlainAt H p ys/\∀(l:Addr)(qs:List (List Key×Addr))H',Same H H'->H l=none->TupsAt H' l qs->(qs.map (·.1)).Perm (K7 ys s e)->jb (qs.map (·.1))->Q (.ref l) H'
theorem Ry {ys:List TH}{s e:Int}(h:e<=s):K7 ys s e=[]:=by
 unfold K7
 rw[List.filter_eq_nil_iff.mpr λx _ z=>?_]
 · rfl
 ·
  have:=tw z
  lia
theorem fm {x:TH}{s e:Int}(h:thB x<thE x)(hs:s<e):J3 x s e=(decide (thB x<e)&&decide (thE x>s)):=by
 unfold J3
 rw[zr,vh,Aa0,Aa0,Aa0]
 lia
theorem jo {xs:List TH}{nm:Str}(h:40<=xs.length):Hj xs nm=1:=by unfold Hj;rw[if_pos h]
theorem j8 {xs:List TH}{nm:Str}(h:¬40<=xs.length)(h2:Gi nm.cps.toList=false):Hj xs nm=2:=by unfold Hj;rw[if_neg h,if_pos h2]
theorem kl {xs:List TH}{nm:Str}(h:¬40<=xs.length)(h2:Gi nm.cps.toList=true)(h3:nm∈xs.map thN):Hj xs nm=3:=by unfold Hj;rw[if_neg h,if_neg (by rw[h2];decide),if_pos h3]
theorem Vg {xs:List TH}{nm:Str}(h:¬40<=xs.length)(h2:Gi nm.cps.toList=true)(h3:¬nm∈xs.map thN):Hj xs nm=0:=by unfold Hj;rw[if_neg h,if_neg (by rw[h2];decide),if_neg h3]
theorem lg {ys:List TH}{nm:Str}{b e:Int}(h:Hj ys nm=1):Ss ys nm b e="Full":=by unfold Ss;rw[h,if_pos rfl]
theorem l9 {ys:List TH}{nm:Str}{b e:Int}(h:Hj ys nm=2):Ss ys nm b e="NoThing":=by unfold Ss;rw[h,if_neg (by decide),if_pos rfl]
theorem me {ys:List TH}{nm:Str}{b e:Int}(h:Hj ys nm=3):Ss ys nm b e="Known":=by unfold Ss;rw[h,if_neg (by decide),if_neg (by decide),if_pos rfl]
theorem ku {ys:List TH}{nm:Str}{b e:Int}(h:Hj ys nm=0)(hb:e<=b):Ss ys nm b e="NoSpan":=by unfold Ss;rw[h,if_neg (by decide),if_neg (by decide),if_neg (by decide),if_pos hb]
theorem lx {ys:List TH}{nm:Str}{b e:Int}(h:Hj ys nm=0)(hb:¬e<=b):Ss ys nm b e="":=by unfold Ss;rw[h,if_neg (by decide),if_neg (by decide),if_neg (by decide),if_neg hb]
def Pj:Sp:=λvs H Q _=>∃(L p:Addr)(s:Int)(ys:List TH),vs=[.ref L,.ref p]/\H L=some (.lst [.int s])/\Rg s/\PlainAt H p ys/\∀(q:Addr)(s' b e:Int)H',Rg s'->SameX L H H'->H' L=some (.lst [.int s'])->H' q=some (.tup [.int b,.int e])->Q (.ref q) H'
theorem PlainAt.updL {H:Hp}{p L:Addr}{ys:List TH}{o:HO}{xs:List V}(h:PlainAt H p ys)(hL:H L=some (.lst xs)):PlainAt (upd H L o) p ys:=by
 refine⟨by rw[Ad (Bg h.at_ hL (λz=>nomatch z))];exact h.at_,λx hx=>?_,h.nd,h.good,h.few⟩
 rw[Ad (Bg (h.ok x hx) hL (λz=>nomatch z))]
 exact h.ok x hx
theorem Fw {L:Addr}{H:Hp}{o:HO}:SameX L H (upd H L o):=λb u n e=>by rw[Ad n];exact e
theorem _root_.L2.SameX.tr {L:Addr}{H H1 H2:Hp}(a:SameX L H H1)(b:SameX L H1 H2):SameX L H H2:=λc o n e=>b c o n (a c o n e)
theorem _root_.L2.SameX.of {L:Addr}{H H':Hp}(s:Same H H'):SameX L H H':=λb o _ e=>s b o e
def Fs (k:Int)(xs:List TH)(nm:Str)(b e:Int):Str:=if k=0 then(if nm∈xs.map thN then "" else "NoThing") else Ss xs nm b e
def Qp (C O:Addr):Sp:=λvs H Q _=>∃(b d:Addr)(xs:List TH)(k:Int)(nm:Str)(s e:Int),vs=[.ref b,.int k,.str nm,.int s,.int e]/\BookAt C O H b d xs/\nm.length<=1000/\
 (Fs k xs nm s e≠""->∀H',Same H H'->Q (.str (Fs k xs nm s e)) H')/\
 (Fs k xs nm s e=""->∀(o:Addr)H',SameX d H H'->BookAt C O H' b d (if k=0 then Kt xs nm else xs++[(nm,o,s,e)])->Q (.str "") H')
theorem Tb {xs:List TH}{nm:Str}{b e k:Int}(h:¬k=0):Fs k xs nm b e=Ss xs nm b e:=by unfold Fs;rw[if_neg h]
abbrev mkS (l:List Nat):Str:=⟨l.toArray⟩
theorem Q3 (l m:List Nat):mkS l++mkS m=mkS (l++m):=by
 show(⟨l.toArray++m.toArray⟩:Str)=⟨(l++m).toArray⟩
 rw[List.append_toArray]
theorem Mb (l:List Nat):(mkS l).length=l.length:=by show l.toArray.size=_;rw[su]
theorem jw (l:List Nat):(mkS l).cps.toList=l:=rfl
structure BsOk (l:List Nat):Prop where
 al:∀c∈l,c∈AL
 hd:∀c,l[0]?=some c->c∈LT
theorem jh {c:Nat}(h:c∈LT):c∈AL:=by rw[nv];exact vc _ h
def Q0:Sp:=λvs H Q _=>∃(L:Addr)(s m:Int),vs=[.ref L,.int m]/\H L=some (.lst [.int s])/\Rg s/\1<=m/\m<=42/\∀(D:Addr)(ns:List Str)(s':Int)H',Rg s'->SameX L H H'->H' L=some (.lst [.int s'])->D≠L->H' D=some (.lst (ns.map V.str))->(ns.length:Int)=m->(∀t∈ns,Gi t.cps.toList=true/\t.length<=8)->ns.Nodup->Q (.ref D) H'
theorem BsOk.snoc {l:List Nat}{c:Nat}(h:BsOk l)(hl:0<l.length)(hc:c∈AL):BsOk (l++[c]):=by
 refine⟨λd hd=>?_,λd hd=>?_⟩
 ·
  rcases uh.mp hd with hd|hd
  · exact h.al d hd
  · rw[tj] at hd;rw[hd];exact hc
 ·
  rw[yk hl] at hd
  exact h.hd d hd
theorem BsOk.take {l:List Nat}(h:BsOk l)(n:Nat):BsOk (l.take n):=by
 refine⟨λc hc=>h.al c (zi hc),λc hc=>?_⟩
 rw[Aa5] at hc
 split at hc
 · exact h.hd c hc
 · cases hc
def ltC (j:Nat):Nat:=Pp.getD (j%26) 0
def nmL (cs:List Nat)(a f k:Nat):List Nat:=cs.take a++[ltC (f+k)]++cs.drop a++if 26<=k then[122] else[]
abbrev nmS (cs:List Nat)(a f k:Nat):Str:=mkS (nmL cs a f k)
theorem Zr (j:Nat):ltC j∈LT/\Pp[j%26]?=some (ltC j):=by
 have h:∀n:Fin 26,Pp.getD n.val 0∈LT/\Pp[n.val]?=some (Pp.getD n.val 0):=by decide+kernel
 exact h ⟨j%26,yp _ (by decide)⟩
theorem gg {i j:Nat}(h:ltC i=ltC j):i%26=j%26:=by
 have h':∀a b:Fin 26,Pp.getD a.val 0=Pp.getD b.val 0->a=b:=by decide+kernel
 have:=h' ⟨i%26,yp _ (by decide)⟩ ⟨j%26,yp _ (by decide)⟩ h
 exact vi Fin.val this
theorem Uc {cs:List Nat}{a f k:Nat}:(nmL cs a f k).length=cs.length+1+if 26<=k then 1 else 0:=by
 unfold nmL
 rw[ue,ue,ue,ux,vy]
 split<;>simp<;>lia
theorem jd {cs:List Nat}{a f k:Nat}(h:BsOk cs)(hl:cs.length<=6)(ha:a<=cs.length):Gi (nmS cs a f k).cps.toList=true/\(nmS cs a f k).length<=8:=by
 have hn:=Uc (cs:=cs) (a:=a) (f:=f) (k:=k)
 have h8:(nmL cs a f k).length<=8:=by rw[hn];split<;>lia
 have h1:1<=(nmL cs a f k).length:=by rw[hn];lia
 refine⟨?_,by rw[Mb];exact h8⟩
 rw[jw]
 have hall:∀c∈nmL cs a f k,c∈AL:=λc hc=>by
  unfold nmL at hc
  rw[uh,uh,uh] at hc
  rcases hc with((hc|hc)|hc)|hc
  · exact h.al c (zi hc)
  · rw[tj] at hc;rw[hc];exact jh (Zr _).1
  · exact h.al c (Aau hc)
  ·
   split at hc
   · rw[tj] at hc;rw[hc];decide+kernel
   · cases hc
 obtain⟨c,hc,hcl⟩:∃c,(nmL cs a f k)[0]?=some c/\c∈LT:=by
  unfold nmL
  cases a with
  | zero=>exact⟨_,rfl,(Zr _).1⟩
  |
   succ a=>
   cases cs with
   | nil=>exact absurd ha (by simp)
   | cons d cs=>exact⟨d,rfl,h.hd d rfl⟩
 rw[Q8 (by lia) (by lia) hc,so hcl,zk,List.all_eq_true]
 exact λc hc=>so (hall c hc)
theorem ke {cs:List Nat}{a f m:Nat}(hm:m<=42):((List.range m).map (nmS cs a f)).Nodup:=by
 refine List.pairwise_map.mpr ((Aal (n:=m)).imp_of_mem λ{i j}hi hj lt e=>?_)
 have hi:=vb.mp hi
 have hj:=vb.mp hj
 have e1:nmL cs a f i=nmL cs a f j:=by have:=vi (λs:Str=>s.cps.toList) e;exact this
 have hl:=vi List.length e1
 rw[Uc,Uc] at hl
 have same:(26<=i↔26<=j):=by
  constructor
  · intro w;lia
  ·
   intro w
   by_cases v:26<=i
   · exact v
   · rw[if_neg v,if_pos w] at hl;lia
 have e2:ltC (f+i)=ltC (f+j):=by
  unfold nmL at e1
  have h1:=List.append_inj_left e1 (by simp)
  have h2:=List.append_inj_left h1 (by simp)
  have h3:=List.append_inj_right h2 rfl
  exact(List.cons.inj h3).1
 have:=gg e2
 lia
theorem BookAt.upX {C O:Addr}{H H':Hp}{b d L:Addr}{xs:List TH}{vs:List V}(h:BookAt C O H b d xs)(s:SameX L H H')(hL:H L=some (.lst vs)):BookAt C O H' b d xs:=
 ⟨let ⟨db,e⟩:=h.ins;⟨db,s _ _ (Bg e hL (λz=>nomatch z)) e⟩,s _ _ (Bg h.at_ hL (λz=>nomatch z)) h.at_,λx hx=>let ⟨dx,e⟩:=h.ok x hx;⟨dx,s _ _ (Bg e hL (λz=>nomatch z)) e⟩,h.nd,h.good,h.few⟩
theorem PlainAt.upX {H H':Hp}{p L:Addr}{ys:List TH}{vs:List V}(h:PlainAt H p ys)(s:SameX L H H')(hL:H L=some (.lst vs)):PlainAt H' p ys:=
 ⟨s _ _ (Bg h.at_ hL (λz=>nomatch z)) h.at_,λx hx=>s _ _ (Bg (h.ok x hx) hL (λz=>nomatch z)) (h.ok x hx),h.nd,h.good,h.few⟩
def Off3 (d p L:Addr)(H H':Hp):Prop:=∀b o,H b=some o->b≠d->b≠p->b≠L->H' b=some o
structure Ld (C O:Addr)(H:Hp)(b d p NL L:Addr)(xs ys:List TH)(ns:List Str)(s:Int):Prop where
 bk:BookAt C O H b d xs
 pl:PlainAt H p ys
 tk:xs.map Mn=ys.map Mn
 nl:H NL=some (.lst (ns.map V.str))
 n1:1<=ns.length
 nn:∀t∈ns,Gi t.cps.toList=true/\t.length<=8
 st:H L=some (.lst [.int s])
 rg:Rg s
 dp:d≠p
def Tg (C O:Addr):Sp:=λvs H Q _=>∃(b d p NL L:Addr)(xs ys:List TH)(ns:List Str)(s c:Int),vs=[.ref b,.ref p,.ref NL,.ref L,.int c]/\Ld C O H b d p NL L xs ys ns s/\
 ∀(xs' ys':List TH)(s':Int)H',Off3 d p L H H'->Ld C O H' b d p NL L xs' ys' ns s'->Q (.bl true) H'
theorem gc {xs ys:List TH}(h:xs.map Mn=ys.map Mn):xs.map thN=ys.map thN:=by
 have:=vi (List.map Prod.fst) h
 rw[uo,uo] at this
 exact this
theorem jg {xs ys:List TH}(h:xs.map Mn=ys.map Mn):xs.length=ys.length:=by have:=vi List.length h;rw[sf,sf] at this;exact this
theorem d4 {xs ys:List TH}{nm:Str}(h:xs.map Mn=ys.map Mn):Hj xs nm=Hj ys nm:=by unfold Hj;rw[jg h,gc h]
theorem cc {xs ys:List TH}{nm:Str}{k b e:Int}(h:xs.map Mn=ys.map Mn):Fs k xs nm b e=Fs k ys nm b e:=by unfold Fs Ss;rw[d4 h,gc h]
theorem f6 {ys:List TH}{nm:Str}{b e:Int}(h:Ss ys nm b e=""):Hj ys nm=0/\b<e:=by
 unfold Ss at h
 by_cases h1:Hj ys nm=1
 · rw[if_pos h1] at h;exact absurd h (by decide)
 rw[if_neg h1] at h
 by_cases h2:Hj ys nm=2
 · rw[if_pos h2] at h;exact absurd h (by decide)
 rw[if_neg h2] at h
 by_cases h3:Hj ys nm=3
 · rw[if_pos h3] at h;exact absurd h (by decide)
 rw[if_neg h3] at h
 by_cases h4:e<=b
 · rw[if_pos h4] at h;exact absurd h (by decide)
 refine⟨?_,by lia⟩
 unfold Hj at h1 h2 h3 ⊢
 by_cases a1:40<=ys.length
 · rw[if_pos a1] at h1;exact absurd rfl h1
 rw[if_neg a1] at h2 h3 ⊢
 by_cases a2:Gi nm.cps.toList=false
 · rw[if_pos a2] at h2;exact absurd rfl h2
 rw[if_neg a2] at h3 ⊢
 by_cases a3:nm∈ys.map thN
 · rw[if_pos a3] at h3;exact absurd rfl h3
 rw[if_neg a3]
theorem fo {xs ys:List TH}{nm:Str}(h:xs.map Mn=ys.map Mn):(Kt xs nm).map Mn=(Kt ys nm).map Mn:=by
 have e:∀zs:List TH,(Kt zs nm).map Mn=(zs.map Mn).filter λq=>decide (q.1≠nm):=λzs=>by unfold Kt;rw[x9];rfl
 rw[e,e,h]
theorem PlainAt.drop {H:Hp}{p:Addr}{ys:List TH}(h:PlainAt H p ys)(nm:Str):PlainAt (upd H p (.dK (kvT (Kt ys nm)))) p (Kt ys nm):=by
 refine⟨Ab,λx hx=>?_,h.nd.sublist (Aaz.map _),λx hx=>h.good x (va.mp hx).1,uy (v9 _ _) h.few⟩
 have hx:=(va.mp hx).1
 rw[Ad (Bg (h.ok x hx) h.at_ (λz=>nomatch z))]
 exact h.ok x hx
theorem PlainAt.add {H:Hp}{p t:Addr}{ys:List TH}{nm:Str}{s e:Int}(h:PlainAt H p ys)(ht:H t=some (.tup [.int s,.int e]))(hl:ys.length<40)(hn:¬nm∈ys.map thN)(hb:s<e):PlainAt (upd H p (.dK (kvT (ys++[(nm,t,s,e)])))) p (ys++[(nm,t,s,e)]):=by
 refine⟨Ab,λx hx=>?_,?_,λx hx=>?_,by rw[ue];show ys.length+1<=40;lia⟩
 ·
  rcases uh.mp hx with hx|hx
  · rw[Ad (Bg (h.ok x hx) h.at_ (λz=>nomatch z))];exact h.ok x hx
  ·
   rw[tj] at hx
   subst hx
   rw[Ad (Bg ht h.at_ (λz=>nomatch z))];exact ht
 ·
  rw[uv]
  refine Abd.mpr ⟨h.nd,wt.mpr ⟨ym,.nil⟩,λa ha c hc=>?_⟩
  rw[zu,tj] at hc
  subst hc
  exact λz=>hn (z▸ha)
 ·
  rcases uh.mp hx with hx|hx
  · exact h.good x hx
  · rw[tj] at hx;subst hx;exact hb
def qa:List Str:=["","A","9a","abcdefghi","a b","aB","a_","a-"]
theorem ip:∀t∈qa,Gi t.cps.toList=false/\t.length<=1000:=by decide+kernel
structure HeldAt (L hl:Addr)(H:Hp)(hs:List Addr):Prop where
 at_:H hl=some (.lst (hs.map V.ref))
 ok:∀r∈hs,∃(l1 l2:Addr)(ks:List NK),H r=some (.tup [.ref l1,.ref l2])/\LsAt H l1 ks/\LsAt H l2 ks/\l1≠L/\l2≠L/\l1≠hl/\l2≠hl
theorem HeldAt.up {L hl:Addr}{H H':Hp}{hs:List Addr}{vs:List V}(h:HeldAt L hl H hs)(hL:H L=some (.lst vs))(h1:H' hl=some (.lst (hs.map V.ref)))(s:∀b o,H b=some o->b≠L->b≠hl->H' b=some o):HeldAt L hl H' hs:=by
 have tp:∀b xs,H b=some (.tup xs)->H' b=some (.tup xs):=λb xs e=>s _ _ e (Bg e hL (λz=>nomatch z)) (Bg e h.at_ (λz=>nomatch z))
 refine⟨h1,λr hr=>?_⟩
 obtain⟨l1,l2,ks,e,a1,a2,n1,n2,n3,n4⟩:=h.ok r hr
 exact⟨l1,l2,ks,tp _ _ e,a1.upT (λxs e=>s _ _ e n1 n3) tp,a2.upT (λxs e=>s _ _ e n2 n4) tp,n1,n2,n3,n4⟩
def cW (c0 c1 c2:List NK)(w:Nat):List NK:=if w=0 then c0 else if w=1 then c1 else c2
def whN (t:Int)(j:Nat):Int:=(t+(j:Int)*(1+t/3%2))%3
theorem ni {t:Int}{i j:Nat}(hi:i<3)(hj:j<i):whN t j≠whN t i:=by
 unfold whN
 have h2:t/3%2=0∨t/3%2=1:=by lia
 rcases h2 with e|e<;>rw[e]
 · simp only[Int.add_zero,Int.mul_one];lia
 ·
  show(t+(j:Int)*2)%3≠(t+(i:Int)*2)%3
  lia
def Te (C O:Addr):Sp:=λvs H Q _=>∃(b d p L hl:Addr)(xs ys:List TH)(s:Int)(hs:List Addr),vs=[.ref b,.ref p,.ref L,.ref hl]/\BookAt C O H b d xs/\PlainAt H p ys/\xs.map Mn=ys.map Mn/\H L=some (.lst [.int s])/\Rg s/\HeldAt L hl H hs/\L≠hl/\hs.length<=200/\
 ∀(s':Int)(hs':List Addr)H',(∀b o,H b=some o->b≠L->b≠hl->H' b=some o)->H' L=some (.lst [.int s'])->Rg s'->HeldAt L hl H' hs'->hs'.length<=hs.length+3->Q (.bl true) H'
def g8 (L:List (Int×Int)):List NK:=L.map λq=>.inr [.inl q.1,.inl q.2]
theorem d6 {H:Hp}{D:Addr}{qs:List RA}(h:RowAt H D qs):LsAt H D (g8 (sps qs)):=by
 refine⟨_,h.1,?_⟩
 have ok:=h.2
 clear h
 induction qs with
 | nil=>exact .nil
 | cons y qs ih=>exact .cons ⟨y.1,rfl,ok y sk⟩ (ih λz hz=>ok z (sq _ hz))
theorem cq {l m:List (List Key)}(h:l.Perm m)(h1:jb l)(h2:jb m):l=m:=Ux (λa b x y=>Xs (Nm.tot _ _ y x)) h h1 h2
theorem tpu {H:Hp}{a:Addr}{o:HO}(h:∀xs,H a≠some (.tup xs)):∀b xs,H b=some (.tup xs)->(upd H a o) b=some (.tup xs):=λb xs e=>by
 rw[Ad (λz=>h xs (by rw[←z];exact e))]
 exact e
theorem i6 {n w:Nat}(h:w<n):ixN n (w:Int)=some w:=by
 unfold ixN
 rw[if_pos (by lia),if_pos (by lia)]
 congr 1
theorem HeldAt.up2 {L hl dl:Addr}{H H':Hp}{hs:List Addr}{vs:List V}(h:HeldAt L hl H hs)(h1:H' hl=some (.lst (hs.map V.ref)))(s:∀b o,H b=some o->b≠dl->H' b=some o)(hd:H dl=some (.lst vs))(nd:∀r∈hs,∀l1 l2,H r=some (.tup [.ref l1,.ref l2])->l1≠dl/\l2≠dl):HeldAt L hl H' hs:=by
 have tp:∀b xs,H b=some (.tup xs)->H' b=some (.tup xs):=λb xs e=>s _ _ e (Bg e hd (λz=>nomatch z))
 refine⟨h1,λr hr=>?_⟩
 obtain⟨l1,l2,ks,e,a1,a2,n1,n2,n3,n4⟩:=h.ok r hr
 obtain⟨m1,m2⟩:=nd r hr l1 l2 e
 exact⟨l1,l2,ks,tp _ _ e,a1.upT (λxs e=>s _ _ e m1) tp,a2.upT (λxs e=>s _ _ e m2) tp,n1,n2,n3,n4⟩
theorem je {xs ys:List TH}{s e:Int}(h:xs.map Mn=ys.map Mn):K7 xs s e=K7 ys s e:=by
 have e':∀zs:List TH,K7 zs s e=((zs.map Mn).filter λq=>decide (max q.2.1 s<min q.2.2 e)).map λq=>[.inl q.2.1,.inl q.2.2,.inr q.1]:=λzs=>by
  unfold K7
  rw[x9,uo]
  rfl
 rw[e',e',h]
theorem mw {xs ys:List TH}{m:Int}(h:xs.map Mn=ys.map Mn):(∃x∈xs,thB x<=m/\m<thE x)↔(∃x∈ys,thB x<=m/\m<thE x):=by
 have e':∀zs:List TH,(∃x∈zs,thB x<=m/\m<thE x)↔ ∃q∈zs.map Mn,q.2.1<=m/\m<q.2.2:=λzs=>by
  constructor
  · rintro⟨x,hx,h1⟩;exact⟨_,uu hx,h1⟩
  · rintro⟨q,hq,h1⟩;obtain⟨x,hx,rfl⟩:=t6.mp hq;exact⟨x,hx,h1⟩
 rw[e',e',h]
theorem Vm {C O:Addr}{H:Hp}{b db d:Addr}(nb:H b=none)(ndb:H db=none)(ne:db≠b)(hd:(upd (upd H db (.own b)) b (.ins C db [])) d=none):
  Same H (upd (upd (upd (upd H db (.own b)) b (.ins C db [])) d (.dK [])) b (.ins C db [("by_name",.ref d)]))/\BookAt C O (upd (upd (upd (upd H db (.own b)) b (.ins C db [])) d (.dK [])) b (.ins C db [("by_name",.ref d)])) b d []/\H d=none:=by
 have nd:d≠b:=λz=>by rw[z,Ab] at hd;cases hd
 rw[Ad nd] at hd
 have nd2:d≠db:=λz=>by rw[z,Ab] at hd;cases hd
 rw[Ad nd2] at hd
 refine⟨λc o e=>?_,⟨⟨db,Ab⟩,?_,(λ_ z=>nomatch z),.nil,(λ_ z=>nomatch z),u5 _⟩,hd⟩
 ·
  rw[Ad (Am e nb),Ad (Am e hd),Ad (Am e nb),Ad (Am e ndb)]
  exact e
 · rw[Ad nd];exact Ab
structure WI (C O:Addr)(H0 H:Hp)(b d p NL L hl ob od o0:Addr)(nms:List Str)(nm0:Str)(xs ys:List TH)(s:Int)(hs:List Addr):Prop where
 sm:Same H0 H
 de:Ld C O H b d p NL L xs ys nms s
 ot:BookAt C O H ob od [(nm0,o0,5,9)]
 he:HeldAt L hl H hs
 n1:od≠d
 n2:od≠p
 n3:L≠hl
 n4:NL≠hl
 z1:H0 d=none
 z2:H0 p=none
 z3:H0 L=none
 z4:H0 hl=none
theorem WI.deed {C O:Addr}{H0 H H':Hp}{b d p NL L hl ob od o0:Addr}{nms:List Str}{nm0:Str}{xs ys xs' ys':List TH}{s s':Int}{hs:List Addr}(h:WI C O H0 H b d p NL L hl ob od o0 nms nm0 xs ys s hs)(f:Off3 d p L H H')(g:Ld C O H' b d p NL L xs' ys' nms s'):WI C O H0 H' b d p NL L hl ob od o0 nms nm0 xs' ys' s' hs:=by
 have A:=h.de.bk.at_
 have B:=h.de.pl.at_
 have S:=h.de.st
 have insU:∀{c C' dx:Addr}{fs:List (Str×V)},H c=some (.ins C' dx fs)->H' c=some (.ins C' dx fs):=λ{c C' dx fs}e=>f _ _ e (Bg e A (λz=>nomatch z)) (Bg e B (λz=>nomatch z)) (Bg e S (λz=>nomatch z))
 have tupU:∀c xs,H c=some (.tup xs)->H' c=some (.tup xs):=λc xs e=>f _ _ e (Bg e A (λz=>nomatch z)) (Bg e B (λz=>nomatch z)) (Bg e S (λz=>nomatch z))
 have lstU:∀{c xs},c≠L->H c=some (.lst xs)->H' c=some (.lst xs):=λ{c xs}n e=>f _ _ e (Bg e A (λz=>nomatch z)) (Bg e B (λz=>nomatch z)) n
 refine⟨λc o e=>f _ _ (h.sm _ _ e) (Am e h.z1) (Am e h.z2) (Am e h.z3),g,⟨let ⟨x,e⟩:=h.ot.ins;⟨x,insU e⟩,f _ _ h.ot.at_ h.n1 h.n2 (Bg h.ot.at_ S (λz=>nomatch z)),λx hx=>let ⟨dx,e⟩:=h.ot.ok x hx;⟨dx,insU e⟩,h.ot.nd,h.ot.good,h.ot.few⟩,⟨lstU h.n3.symm h.he.at_,λr hr=>?_⟩,h.n1,h.n2,h.n3,h.n4,h.z1,h.z2,h.z3,h.z4⟩
 obtain⟨l1,l2,ks,e,a1,a2,m1,m2,m3,m4⟩:=h.he.ok r hr
 exact⟨l1,l2,ks,tupU _ _ e,a1.upT (λ_ e=>lstU m1 e) tupU,a2.upT (λ_ e=>lstU m2 e) tupU,m1,m2,m3,m4⟩
theorem WI.same {C O:Addr}{H0 H H':Hp}{b d p NL L hl ob od o0:Addr}{nms:List Str}{nm0:Str}{xs ys:List TH}{s s':Int}{hs hs':List Addr}(h:WI C O H0 H b d p NL L hl ob od o0 nms nm0 xs ys s hs)(f:∀c o,H c=some o->c≠L->c≠hl->H' c=some o)(hL:H' L=some (.lst [.int s']))(hr:Rg s')(hh:HeldAt L hl H' hs'):WI C O H0 H' b d p NL L hl ob od o0 nms nm0 xs ys s' hs':=by
 have S:=h.de.st
 have T:=h.he.at_
 have U:∀{c:Addr}{o:HO},(∀xs,o≠ .lst xs)->H c=some o->H' c=some o:=λ{c o}n e=>f _ _ e (Bg e S (n _)) (Bg e T (n _))
 have bk:∀{b d:Addr}{xs:List TH},BookAt C O H b d xs->BookAt C O H' b d xs:=λ{b d xs}q=>⟨let ⟨x,e⟩:=q.ins;⟨x,U (λ_ z=>nomatch z) e⟩,U (λ_ z=>nomatch z) q.at_,λx hx=>let ⟨dx,e⟩:=q.ok x hx;⟨dx,U (λ_ z=>nomatch z) e⟩,q.nd,q.good,q.few⟩
 have P:=h.de.pl
 exact⟨λc o e=>f _ _ (h.sm _ _ e) (Am e h.z3) (Am e h.z4),⟨bk h.de.bk,⟨U (λ_ z=>nomatch z) P.at_,λx hx=>U (λ_ z=>nomatch z) (P.ok x hx),P.nd,P.good,P.few⟩,h.de.tk,f _ _ h.de.nl (λz=>by
  have e:=h.de.nl
  rw[z,S] at e
  have e:=sy e
  injection e with e
  have n1:=h.de.n1
  cases nms with
  | nil=>simp at n1
  | cons t l=>injection e with e _;cases e) h.n4,h.de.n1,h.de.nn,hL,hr,h.de.dp⟩,bk h.ot,hh,h.n1,h.n2,h.n3,h.n4,h.z1,h.z2,h.z3,h.z4⟩
theorem WI.up {C O:Addr}{H0 H H':Hp}{b d p NL L hl ob od o0:Addr}{nms:List Str}{nm0:Str}{xs ys:List TH}{s:Int}{hs:List Addr}(h:WI C O H0 H b d p NL L hl ob od o0 nms nm0 xs ys s hs)(f:Same H H'):WI C O H0 H' b d p NL L hl ob od o0 nms nm0 xs ys s hs:=
 h.same (λc o e _ _=>f _ _ e) (f _ _ h.de.st) h.de.rg (h.he.up h.de.st (f _ _ h.he.at_) λc o e _ _=>f _ _ e)
theorem dj {C O:Addr}{H H4:Hp}{b d p NL L o t:Addr}{xs ys:List TH}{ns:List Str}{s bg en:Int}{nm:Str}(h:Ld C O H b d p NL L xs ys ns s)(sx:SameX d H H4)(hB:BookAt C O H4 b d (xs++[(nm,o,bg,en)]))(ht:H4 t=some (.tup [.int bg,.int en]))(hl:ys.length<40)(hn:¬nm∈ys.map thN)(hb:bg<en):
  Ld C O (upd H4 p (.dK (kvT (ys++[(nm,t,bg,en)])))) b d p NL L (xs++[(nm,o,bg,en)]) (ys++[(nm,t,bg,en)]) ns s:=by
 have A:=h.bk.at_
 have P:=h.pl
 have hP4:PlainAt H4 p ys:=⟨sx _ _ h.dp.symm P.at_,λx hx=>sx _ _ (Bg (P.ok x hx) A (λz=>nomatch z)) (P.ok x hx),P.nd,P.good,P.few⟩
 have hN:=sx _ _ (Bg h.nl A (λz=>nomatch z)) h.nl
 have hL:=sx _ _ (Bg h.st A (λz=>nomatch z)) h.st
 refine⟨⟨let ⟨x,e⟩:=hB.ins;⟨x,by rw[Ad (Bg e hP4.at_ (λz=>nomatch z))];exact e⟩,by rw[Ad h.dp];exact hB.at_,λx hx=>let ⟨dx,e⟩:=hB.ok x hx;⟨dx,by rw[Ad (Bg e hP4.at_ (λz=>nomatch z))];exact e⟩,hB.nd,hB.good,hB.few⟩,hP4.add ht hl hn hb,by rw[uv,uv,h.tk];rfl,?_,h.n1,h.nn,?_,h.rg,h.dp⟩
 · rw[Ad (Bg hN hP4.at_ (λz=>nomatch z))];exact hN
 · rw[Ad (Bg hL hP4.at_ (λz=>nomatch z))];exact hL
theorem jv {α:Type}(f:α->V)(l:List α)(lo hi:Option Int):∃l':List α,a8 (l.map f) lo hi=l'.map f/\l'.length<=l.length:=by
 unfold a8
 rw[←List.map_drop,←List.map_take]
 exact⟨_,rfl,by rw[ux,vy];lia⟩
theorem my (gs:List Str):a8 (gs.map V.str) none (some 40)=(gs.take 40).map V.str:=by
 unfold a8
 have e0:HT.sIx (gs.map V.str).length 0 none=0:=rfl
 have e1:HT.sIx (gs.map V.str).length (gs.map V.str).length (some 40)=min 40 (gs.map V.str).length:=by
  unfold HT.sIx
  simp
 rw[e0,e1,List.drop_zero,Nat.sub_zero,←List.map_take,sf]
 congr 1
 by_cases h:gs.length<=40
 · rw[Abo h,yl,xh h]
 · rw[Nat.min_eq_left (by lia)]
def Vi (K:W.Frag):Sp:=λvs H Q _=>∃(a:Addr)(ns:List Int),vs=[.ref a]/\SqL K H a (ns.map V.int)/\ns.length<=63/\∀H',Q (.bl true) H'
section
variable {P:Program}{w:World}{K:W.Frag}{mg:Str->Option Value}{base:Heap}{a:Adr}
theorem Pt:A3 ["text","signs"] ["text","signs"] (Ai Dh):=⟨rfl,rfl,rfl,by decide+kernel,rfl,by decide+kernel,by decide+kernel⟩
theorem Qh (T:Txt K mg a):FnOk P w K mg base CX0 true 1 a.Gw a.Gm ["text","signs"] (Qd):=by
 refine T.Ma.ok Pt (λvs H Q E h=>?_) (λcdv A outer s H vs Q E hr h=>?_)
 · obtain⟨t,g,rfl,_⟩:=h;rfl
 ·
  obtain⟨t,g,rfl,hl,k⟩:=h
  refine⟨_,(Aj (A5 (An (X5 (K:=K) rfl rfl) rfl T.Z6 (by decide+kernel) (Aa (Lh (N:=["sign","signs"]) (cap:=[none,some 1]) (by show D6 (Ai Dh) _ ["text","signs"] _ _;exact⟨rfl,by decide+kernel,by decide+kernel,by decide+kernel,by decide+kernel,rfl,by decide+kernel⟩) rfl (l6 (pv 0)) (λC s H fp=>⟨(Ca (i:=0) (by show(["sign","signs"]:List Str).Nodup;decide+kernel) rfl (Or.inl rfl) (.inr rfl)),Pe,(J2 Rz (pv 0) (pv 1) (by with_unfolding_all rfl))⟩)) Ac)))),?_⟩
  refine⟨_,rfl,t,rfl,?_⟩
  refine Zh (fk t H) (λ_=>true) (λv=>V.bl (match v with| .str y=>decide (y.cps.toList.headD 0∈g.cps.toList)|_=>false)) ?_ ?_ ?_ ?_
  ·
   rw[sf,sv]
   exact uy hl (by decide)
  · exact λx _ H' _ R hR=>hR H' (Same.refl _)
  ·
   intro x hx _ H' _ R hR
   obtain⟨c,_,rfl⟩:=t6.mp hx
   exact⟨_,rfl,_,rfl,c,g,rfl,rfl,hR H' (Same.refl _)⟩
  ·
   intro D H' sm _ hD
   refine⟨D,t.cps.toList.map λc=>decide (c∈g.cps.toList),rfl,SqL.of ?_,?_⟩
   ·
    rw[hD,zm.mpr (λ_ _=>rfl),uo,uo]
    rfl
   ·
    have:=k H' sm
    rw[List.all_map]
    exact this
theorem Wg:A3 ["begin","end"] ["begin","end"] (Ai G3):=⟨rfl,rfl,rfl,by decide+kernel,rfl,by decide+kernel,by decide+kernel⟩
theorem Wm (T:Txt K mg a):FnOk P w K mg base CX0 true 1 a.Kb a.Km ["begin","end"] (Xg):=by
 refine T.Se.ok Wg (λvs H Q E h=>?_) (λcdv A outer s H vs Q E hr h=>?_)
 · obtain⟨b,e,rfl,_⟩:=h;rfl
 ·
  obtain⟨b,e,rfl,k⟩:=h
  refine⟨_,(Aj (A5 (J2 V6 (pv 1) (pv 0) (A4 _)))),?_⟩
  exact⟨_,rfl,_,rfl,_,_,rfl,rfl,k⟩
theorem cv:A3 ["span","begin","end"] ["span","begin","end"] (Ai Lo):=⟨rfl,rfl,rfl,by decide+kernel,rfl,by decide+kernel,by decide+kernel⟩
theorem b3 (T:Txt K mg a):FnOk P w K mg base CX0 true 1 a.Pf a.P6 ["span","begin","end"] (da):=by
 refine T.Y7.ok cv (λvs H Q E h=>?_) (λcdv A outer s H vs Q E hr h=>?_)
 · obtain⟨p,b0,e0,b,e,rfl,_⟩:=h;rfl
 ·
  obtain⟨p,b0,e0,b,e,rfl,hp,k⟩:=h
  refine⟨_,(Aj (A5 (J2 N1 (An (Jd rfl) rfl T.P2 (by decide+kernel) (Aa (A7 (A0 (K:=K) rfl) (pv 0) Ae (λ_ _=>rfl)) (Aa (pv 1) Ac))) (An (M9 rfl) rfl T.Td (by decide+kernel) (Aa (A7 (A0 (K:=K) rfl) (pv 0) Ae (λ_ _=>rfl)) (Aa (pv 2) Ac))) (A4 _)))),?_⟩
  refine⟨_,rfl,p,_,_,_,rfl,rfl,SqT.of hp,rfl,_,rfl,_,_,rfl,?_⟩
  refine⟨_,rfl,p,_,_,_,rfl,rfl,SqT.of hp,rfl,_,rfl,_,_,rfl,_,_,rfl,rfl,?_⟩
  show Q (.bl (decide ((if b>b0 then b else b0)<if e<e0 then e else e0))) H
  rw[show(if b>b0 then b else b0)=max b0 b by split<;>lia,show(if e<e0 then e else e0)=min e0 e by split<;>lia]
  exact k
theorem N8:A3 ["self"] ["self"] (Ai Dn):=⟨rfl,rfl,rfl,by decide+kernel,rfl,by decide+kernel,by decide+kernel⟩
theorem Jt (T:Txt K mg a):FnOk P w K mg base CX0 true 1 a.Fy a.Fz ["self"] (R6 a.Ao):=by
 refine T.Pk.ok N8 (λvs H Q E h=>?_) (λcdv A outer s H vs Q E hr h=>?_)
 · obtain⟨x,dx,rfl,_⟩:=h;rfl
 ·
  obtain⟨x,dx,rfl,hx,k⟩:=h
  refine⟨_,(Aj (Tc (K:=K) rfl (pv 0) Qe)),?_⟩
  refine λd hd=>?_
  have nk:x≠d:=Am hx hd
  refine⟨_,rfl,x,_,dx,_,rfl,(by rw[Ad nk];exact hx),T.Cm,T.Bj,(by show 0<1000;decide),?_⟩
  exact k d hd
theorem R8:A3 ["self","name"] ["self","name"] (Ai Fg):=⟨rfl,rfl,rfl,by decide+kernel,rfl,by decide+kernel,by decide+kernel⟩
theorem Qu (T:Txt K mg a):FnOk P w K mg base (CXe P w) true 1 a.Ia a.Ig ["self","name"] (Lz a.Ao a.Ar a.Ag):=by
 refine T.Ui.okE R8 (λvs H Q E h=>?_) (λcdv A outer s H vs Q E hr h=>?_)
 · obtain⟨b,d,xs,nm,rfl,_⟩:=h;rfl
 ·
  obtain⟨b,d,xs,nm,rfl,hB,k1,k2⟩:=h
  refine⟨_,(Af (C3 (Ve (Y6 (Ny hr) (pv 1) (G1 (K:=K) rfl (pv 0))) (by with_unfolding_all rfl)) (Aj (Kf G5 rfl rfl T.Gh T.Ag (Aa C1 Ac))) Ba)
   (Aj (Dx (U3 (G1 (K:=K) rfl (pv 0)) (pv 1) ⟨rfl,rfl,rfl,rfl⟩)))),?_⟩
  obtain⟨db,hb⟩:=hB.ins
  refine⟨_,rfl,_,rfl,b,_,db,_,_,rfl,hb,T.Cm,T.Bj,rfl,d,_,rfl,DGet.k (k:=Sum.inr nm) hB.at_,_,rfl,?_⟩
  rw[Qx]
  by_cases hm:nm∈xs.map thN
  ·
   rw[so hm]
   refine Jw ?_
   obtain⟨x,hx,rfl⟩:=t6.mp hm
   refine⟨_,rfl,b,_,db,_,_,rfl,hb,T.Cm,T.Bj,rfl,d,rfl,.inl ⟨_,.inl hB.at_⟩,_,rfl,kvT xs,Sum.inr x.1,_,hB.at_,rfl,Sg hB.nd hx,?_⟩
   have:=k1 hm (hB.drop x.1)
   rw[Yg]
   exact this
  ·
   rw[ua hm]
   exact P8 ⟨(by show 1<=sizeLine;decide),k2 hm⟩
theorem N3:A3 ["self"] ["self"] (Ai Dp):=⟨rfl,rfl,rfl,by decide+kernel,rfl,by decide+kernel,by decide+kernel⟩
theorem Jv (T:Txt K mg a):FnOk P w K mg base CX0 true 1 a.F0 a.F3 ["self"] (G0 a.Ao a.Ar):=by
 refine T.Px.ok N3 (λvs H Q E h=>?_) (λcdv A outer s H vs Q E hr h=>?_)
 · obtain⟨b,d,xs,rfl,_⟩:=h;rfl
 ·
  obtain⟨b,d,xs,rfl,hB,k⟩:=h
  refine⟨_,(Aj (A5 (An (Ph rfl) rfl T.E2 (by decide+kernel) (Aa (G1 (K:=K) rfl (pv 0)) Ac)))),?_⟩
  obtain⟨db,hb⟩:=hB.ins
  exact⟨_,rfl,b,_,db,_,_,rfl,hb,T.Cm,T.Bj,rfl,d,_,xs.map thN,rfl,hB.at_,T8 xs,(by rw[sf];have:=hB.few;lia),λD ms hD hp hs=>k D ms hD hp hs⟩
theorem Tw:A3 ["_law_script","_law_k"] ["_law_script","_law_k"] (Ai Gb):=⟨rfl,rfl,rfl,by decide+kernel,rfl,by decide+kernel,by decide+kernel⟩
theorem Tq (T:Txt K mg a):FnOk P w K mg base CX0 true 1 a.Jq a.Ji ["_law_script","_law_k"] (N6 K):=by
 refine T.Od.ok Tw (λvs H Q E h=>?_) (λcdv A outer s H vs Q E hr h=>?_)
 · obtain⟨p,ns,i,rfl,_⟩:=h;rfl
 ·
  obtain⟨p,ns,i,rfl,hS,h0,k⟩:=h
  refine⟨_,(Af (C3 (Aw N1 (pv 1) (An (E9 (K:=K) rfl) rfl T.K9 (by decide+kernel) (Aa (pv 0) Ac)) (A4 _)) (Aj (A5 (A7 (Bb (K:=K) rfl) (pv 0) (pv 1) (λ_ _=>rfl)))) Ba)
   (Aj (A5 Ae))),?_⟩
  refine⟨_,rfl,_,rfl,p,_,rfl,.inl hS,_,_,rfl,rfl,_,rfl,?_⟩
  refine He (λe1=>?_) (λe1=>k 0)
  have e1':=tw e1
  rw[sf] at e1'
  obtain⟨t,_,et⟩:=Vz h0 e1'
  exact⟨_,rfl,_,rfl,p,_,_,_,rfl,rfl,hS,et,k t⟩
theorem V9:A3 ["_law_state","_law_cell_here"] ["_law_state","_law_cell_here"] (Ai Hf):=⟨rfl,rfl,rfl,by decide+kernel,rfl,by decide+kernel,by decide+kernel⟩
theorem A1 (T:Txt K mg a):FnOk P w K mg base CX0 true 1 a.Kh a.Ky ["_law_state","_law_cell_here"] (Xl):=by
 refine T.A8.ok V9 (λvs H Q E h=>?_) (λcdv A outer s H vs Q E hr h=>?_)
 · obtain⟨L,s,c,rfl,_⟩:=h;rfl
 ·
  obtain⟨L,s0,c,rfl,hL,hs,k⟩:=h
  refine⟨_,(Af (V2 (Av Bz (Av B0 (Av B0 (Av Sh (A7 (Bb (K:=K) rfl) (pv 0) Ae (λ_ _=>rfl)) Ae) (Av Sh (pv 1) Ae)) Ae) Ae) (Z2 (pv 0) Ae set_list))
   (Aj (A5 (Av T9 (Av Bz (Av Sh (A7 (Bb (K:=K) rfl) (pv 0) Ae (λ_ _=>rfl)) (A7 (Bb (K:=K) rfl) (pv 0) Ae (λ_ _=>rfl))) Ae) Ae)))),?_⟩
  refine⟨_,rfl,L,_,_,_,rfl,rfl,SqL.of hL,rfl,_,_,rfl,rfl,.inl ⟨by have:=hs.1;lia,by have:=hs.2;lia⟩,_,rfl,_,_,rfl,rfl,.inr ⟨by decide,by decide⟩,_,_,rfl,rfl,_,_,rfl,rfl,_,_,rfl,rfl,(by show(0:Int)<2147483647;decide),?_⟩
  refine⟨_,rfl,L,_,0,0,rfl,rfl,hL,rfl,?_⟩
  have h0:0<=(s0*48271+c*16807+11)%2147483647:=vf _ (by decide)
  have h1:(s0*48271+c*16807+11)%2147483647<2147483647:=u0 _ (by decide)
  refine⟨_,rfl,L,_,_,_,rfl,rfl,SqL.of Ab,rfl,_,rfl,L,_,_,_,rfl,rfl,SqL.of Ab,rfl,_,_,rfl,rfl,.inl ⟨by lia,by lia⟩,_,_,rfl,rfl,(by show(0:Int)<2147483647;decide),_,_,rfl,rfl,⟨by decide,by decide⟩,?_⟩
  exact k _ _ ⟨h0,h1⟩ (Int.ediv_nonneg (vf _ (by decide)) (by decide))
theorem Fb:A3 ["_law_e","_law_found"] ["_law_e"] (Ai Ga):=⟨rfl,rfl,rfl,by decide+kernel,rfl,by decide+kernel,by decide+kernel⟩
theorem Ut (T:Txt K mg a):FnOk P w K mg base CX0 false 1 a.Jg a.Jh ["_law_e"] (S5 a.Ak a.Ag a.Al a.Aq):=by
 refine T.Ol.ok Fb (λvs H Q E h=>?_) (λcdv A outer s H vs Q E hr h=>?_)
 · obtain⟨e,x,rfl,_⟩:=h;rfl
 ·
  obtain⟨e,x,rfl,he,hx,k⟩:=h
  refine⟨_,(Af (Au (i:=1) Fb.nd rfl (Or.inl rfl) (Av B0 (Av B0 (Bh Bx rfl T.Ht (by decide+kernel) (Aa (An (A6 (K:=K) rfl) rfl T.Ap (by decide+kernel) (Aa (pv 0) (Aa (B2 rfl T.M0) Ac))) Ac)) (Bh Bx rfl T.Ht (by decide+kernel) (Aa (An (A6 (K:=K) rfl) rfl T.Ap (by decide+kernel) (Aa (pv 0) (Aa (B2 rfl T.Ks) Ac))) Ac))) (Bh Bx rfl T.Ht (by decide+kernel) (Aa (An (A6 (K:=K) rfl) rfl T.Ap (by decide+kernel) (Aa (pv 0) (Aa (B2 rfl T.J8) Ac))) Ac))))
   (Af (Au (i:=1) Fb.nd rfl (Or.inl rfl) (Av B0 (Av B0 (Av B0 (pv 1) (Bh Bx rfl T.Ht (by decide+kernel) (Aa (An (A6 (K:=K) rfl) rfl T.Ap (by decide+kernel) (Aa (pv 0) (Aa (B2 rfl T.Jc) Ac))) Ac))) (Bh Bx rfl T.Ht (by decide+kernel) (Aa (An (A6 (K:=K) rfl) rfl T.Ap (by decide+kernel) (Aa (pv 0) (Aa (B2 rfl T.Ho) Ac))) Ac))) (Bh Bx rfl T.Ht (by decide+kernel) (Aa (An (A6 (K:=K) rfl) rfl T.Ap (by decide+kernel) (Aa (pv 0) (Aa (B2 rfl T.Gh) Ac))) Ac))))
   (Af (Au (i:=1) Fb.nd rfl (Or.inl rfl) (Av B0 (Av B0 (Av B0 (pv 1) (Bh Bx rfl T.Ht (by decide+kernel) (Aa (An (A6 (K:=K) rfl) rfl T.Ap (by decide+kernel) (Aa (pv 0) (Aa (B2 rfl T.J0) Ac))) Ac))) (Bh Bx rfl T.Ht (by decide+kernel) (Aa (An (A6 (K:=K) rfl) rfl T.Ap (by decide+kernel) (Aa (pv 0) (Aa (B2 rfl T.Nj) Ac))) Ac))) (Bh Bx rfl T.Ht (by decide+kernel) (Aa (An (A6 (K:=K) rfl) rfl T.Ap (by decide+kernel) (Aa (pv 0) (Aa (B2 rfl T.G6) Ac))) Ac))))
   (Af (Au (i:=1) Fb.nd rfl (Or.inl rfl) (Av B0 (Av B0 (Av B0 (pv 1) (Bh Bx rfl T.Ht (by decide+kernel) (Aa (An (A6 (K:=K) rfl) rfl T.Ap (by decide+kernel) (Aa (pv 0) (Aa (B2 rfl T.Kp) Ac))) Ac))) (Bh Bx rfl T.Ht (by decide+kernel) (Aa (An (A6 (K:=K) rfl) rfl T.Ap (by decide+kernel) (Aa (pv 0) (Aa (B2 rfl T.Ku) Ac))) Ac))) (Bh Bx rfl T.Ht (by decide+kernel) (Aa (An (A6 (K:=K) rfl) rfl T.Ap (by decide+kernel) (Aa (pv 0) (Aa (B2 rfl T.Gg) Ac))) Ac))))
   (Af (Au (i:=1) Fb.nd rfl (Or.inl rfl) (Av B0 (Av B0 (pv 1) (Bh Bx rfl T.Ht (by decide+kernel) (Aa (An (A6 (K:=K) rfl) rfl T.Ap (by decide+kernel) (Aa (pv 0) (Aa (B2 rfl T.Kw) Ac))) Ac))) (Bh Bx rfl T.Ht (by decide+kernel) (Aa (An (A6 (K:=K) rfl) rfl T.Ap (by decide+kernel) (Aa (pv 0) (Aa (B2 rfl T.Sa) Ac))) Ac))))
   (Aj (A5 (e7 (An (A6 (K:=K) rfl) rfl T.Ap (by decide+kernel) (Aa (pv 0) (Aa (Yt (v:=.ty "ValueError") rfl T.Fv (by decide+kernel) rfl) Ac))) (fb (J2 Kn (pv 1) Ae (A4 _))))))))))),?_⟩
  rcases hx with rfl|rfl|rfl|rfl
  ·
   refine⟨_,rfl,e,_,_,_,_,rfl,he,T.By,.inl ⟨_,rfl,rfl⟩,T.Ea,.inr ⟨_,rfl,_,rfl,e,_,_,_,_,rfl,he,T.By,.inl ⟨_,rfl,rfl⟩,T.Df,.inr ⟨_,rfl,_,_,rfl,rfl,_,rfl,e,_,_,_,_,rfl,he,T.By,.inl ⟨_,rfl,rfl⟩,T.C8,.inr ⟨_,rfl,_,_,rfl,rfl,?_⟩⟩⟩⟩
   refine⟨_,rfl,_,rfl,e,_,_,_,_,rfl,he,T.By,.inl ⟨_,rfl,rfl⟩,T.Cs,.inr ⟨_,rfl,_,_,rfl,rfl,_,rfl,e,_,_,_,_,rfl,he,T.By,.inl ⟨_,rfl,rfl⟩,T.Ce,.inr ⟨_,rfl,_,_,rfl,rfl,_,rfl,e,_,_,_,_,rfl,he,T.By,.inl ⟨_,rfl,rfl⟩,T.Cu,.inr ⟨_,rfl,_,_,rfl,rfl,?_⟩⟩⟩⟩
   refine⟨_,rfl,_,rfl,e,_,_,_,_,rfl,he,T.By,.inl ⟨_,rfl,rfl⟩,T.C0,.inr ⟨_,rfl,_,_,rfl,rfl,_,rfl,e,_,_,_,_,rfl,he,T.By,.inl ⟨_,rfl,rfl⟩,T.Dj,.inr ⟨_,rfl,_,_,rfl,rfl,_,rfl,e,_,_,_,_,rfl,he,T.By,.inl ⟨_,rfl,rfl⟩,T.Ck,.inr ⟨_,rfl,_,_,rfl,rfl,?_⟩⟩⟩⟩
   refine⟨_,rfl,_,rfl,e,_,_,_,_,rfl,he,T.By,.inl ⟨_,rfl,rfl⟩,T.C7,.inr ⟨_,rfl,_,_,rfl,rfl,_,rfl,e,_,_,_,_,rfl,he,T.By,.inl ⟨_,rfl,rfl⟩,T.C9,.inr ⟨_,rfl,_,_,rfl,rfl,_,rfl,e,_,_,_,_,rfl,he,T.By,.inl ⟨_,rfl,rfl⟩,T.B4,.inr ⟨_,rfl,_,_,rfl,rfl,?_⟩⟩⟩⟩
   refine⟨_,rfl,_,rfl,e,_,_,_,_,rfl,he,T.By,.inl ⟨_,rfl,rfl⟩,T.C6,.inr ⟨_,rfl,_,_,rfl,rfl,_,rfl,e,_,_,_,_,rfl,he,T.By,.inl ⟨_,rfl,rfl⟩,T.E7,.inr ⟨_,rfl,_,_,rfl,rfl,?_⟩⟩⟩
   refine⟨_,rfl,e,_,_,_,_,rfl,he,T.By,.inr ⟨_,rfl,rfl⟩,T.Bu,_,rfl,P8 ?_⟩
   exact⟨_,rfl,rfl,k⟩
  ·
   refine⟨_,rfl,e,_,_,_,_,rfl,he,T.A9,.inl ⟨_,rfl,rfl⟩,T.C5,.inr ⟨_,rfl,_,rfl,e,_,_,_,_,rfl,he,T.A9,.inl ⟨_,rfl,rfl⟩,T.Ct,.inr ⟨_,rfl,_,_,rfl,rfl,_,rfl,e,_,_,_,_,rfl,he,T.A9,.inl ⟨_,rfl,rfl⟩,T.Cq,.inr ⟨_,rfl,_,_,rfl,rfl,?_⟩⟩⟩⟩
   refine⟨_,rfl,_,rfl,e,_,_,_,_,rfl,he,T.A9,.inl ⟨_,rfl,rfl⟩,T.Cg,.inr ⟨_,rfl,_,_,rfl,rfl,_,rfl,e,_,_,_,_,rfl,he,T.A9,.inl ⟨_,rfl,rfl⟩,T.Bl,.inr ⟨_,rfl,_,_,rfl,rfl,_,rfl,e,_,_,_,_,rfl,he,T.A9,.inl ⟨_,rfl,rfl⟩,T.Cj,.inr ⟨_,rfl,_,_,rfl,rfl,?_⟩⟩⟩⟩
   refine⟨_,rfl,_,rfl,e,_,_,_,_,rfl,he,T.A9,.inl ⟨_,rfl,rfl⟩,T.Bv,.inr ⟨_,rfl,_,_,rfl,rfl,_,rfl,e,_,_,_,_,rfl,he,T.A9,.inl ⟨_,rfl,rfl⟩,T.B8,.inr ⟨_,rfl,_,_,rfl,rfl,_,rfl,e,_,_,_,_,rfl,he,T.A9,.inl ⟨_,rfl,rfl⟩,T.B7,.inr ⟨_,rfl,_,_,rfl,rfl,?_⟩⟩⟩⟩
   refine⟨_,rfl,_,rfl,e,_,_,_,_,rfl,he,T.A9,.inl ⟨_,rfl,rfl⟩,T.Cw,.inr ⟨_,rfl,_,_,rfl,rfl,_,rfl,e,_,_,_,_,rfl,he,T.A9,.inl ⟨_,rfl,rfl⟩,T.Cz,.inr ⟨_,rfl,_,_,rfl,rfl,_,rfl,e,_,_,_,_,rfl,he,T.A9,.inl ⟨_,rfl,rfl⟩,T.Bs,.inr ⟨_,rfl,_,_,rfl,rfl,?_⟩⟩⟩⟩
   refine⟨_,rfl,_,rfl,e,_,_,_,_,rfl,he,T.A9,.inl ⟨_,rfl,rfl⟩,T.Cr,.inr ⟨_,rfl,_,_,rfl,rfl,_,rfl,e,_,_,_,_,rfl,he,T.A9,.inl ⟨_,rfl,rfl⟩,T.D4,.inr ⟨_,rfl,_,_,rfl,rfl,?_⟩⟩⟩
   refine⟨_,rfl,e,_,_,_,_,rfl,he,T.A9,.inr ⟨_,rfl,rfl⟩,T.Bn,_,rfl,P8 ?_⟩
   exact⟨_,rfl,rfl,k⟩
  ·
   refine⟨_,rfl,e,_,_,_,_,rfl,he,T.C4,.inl ⟨_,rfl,rfl⟩,T.Ew,.inr ⟨_,rfl,_,rfl,e,_,_,_,_,rfl,he,T.C4,.inl ⟨_,rfl,rfl⟩,T.Ee,.inr ⟨_,rfl,_,_,rfl,rfl,_,rfl,e,_,_,_,_,rfl,he,T.C4,.inl ⟨_,rfl,rfl⟩,T.Dy,.inr ⟨_,rfl,_,_,rfl,rfl,?_⟩⟩⟩⟩
   refine⟨_,rfl,_,rfl,e,_,_,_,_,rfl,he,T.C4,.inl ⟨_,rfl,rfl⟩,T.Dd,.inr ⟨_,rfl,_,_,rfl,rfl,_,rfl,e,_,_,_,_,rfl,he,T.C4,.inl ⟨_,rfl,rfl⟩,T.D5,.inr ⟨_,rfl,_,_,rfl,rfl,_,rfl,e,_,_,_,_,rfl,he,T.C4,.inl ⟨_,rfl,rfl⟩,T.Di,.inr ⟨_,rfl,_,_,rfl,rfl,?_⟩⟩⟩⟩
   refine⟨_,rfl,_,rfl,e,_,_,_,_,rfl,he,T.C4,.inl ⟨_,rfl,rfl⟩,T.Ds,.inr ⟨_,rfl,_,_,rfl,rfl,_,rfl,e,_,_,_,_,rfl,he,T.C4,.inl ⟨_,rfl,rfl⟩,T.Eo,.inr ⟨_,rfl,_,_,rfl,rfl,_,rfl,e,_,_,_,_,rfl,he,T.C4,.inl ⟨_,rfl,rfl⟩,T.Cy,.inr ⟨_,rfl,_,_,rfl,rfl,?_⟩⟩⟩⟩
   refine⟨_,rfl,_,rfl,e,_,_,_,_,rfl,he,T.C4,.inl ⟨_,rfl,rfl⟩,T.Dz,.inr ⟨_,rfl,_,_,rfl,rfl,_,rfl,e,_,_,_,_,rfl,he,T.C4,.inl ⟨_,rfl,rfl⟩,T.D9,.inr ⟨_,rfl,_,_,rfl,rfl,_,rfl,e,_,_,_,_,rfl,he,T.C4,.inl ⟨_,rfl,rfl⟩,T.Cn,.inr ⟨_,rfl,_,_,rfl,rfl,?_⟩⟩⟩⟩
   refine⟨_,rfl,_,rfl,e,_,_,_,_,rfl,he,T.C4,.inl ⟨_,rfl,rfl⟩,T.Ed,.inr ⟨_,rfl,_,_,rfl,rfl,_,rfl,e,_,_,_,_,rfl,he,T.C4,.inl ⟨_,rfl,rfl⟩,T.Ft,.inr ⟨_,rfl,_,_,rfl,rfl,?_⟩⟩⟩
   refine⟨_,rfl,e,_,_,_,_,rfl,he,T.C4,.inr ⟨_,rfl,rfl⟩,T.B3,_,rfl,P8 ?_⟩
   exact⟨_,rfl,rfl,k⟩
  ·
   refine⟨_,rfl,e,_,_,_,_,rfl,he,T.Fx,.inl ⟨_,rfl,rfl⟩,T.Fp,.inr ⟨_,rfl,_,rfl,e,_,_,_,_,rfl,he,T.Fx,.inl ⟨_,rfl,rfl⟩,T.E5,.inr ⟨_,rfl,_,_,rfl,rfl,_,rfl,e,_,_,_,_,rfl,he,T.Fx,.inl ⟨_,rfl,rfl⟩,T.Ey,.inr ⟨_,rfl,_,_,rfl,rfl,?_⟩⟩⟩⟩
   refine⟨_,rfl,_,rfl,e,_,_,_,_,rfl,he,T.Fx,.inl ⟨_,rfl,rfl⟩,T.D7,.inr ⟨_,rfl,_,_,rfl,rfl,_,rfl,e,_,_,_,_,rfl,he,T.Fx,.inl ⟨_,rfl,rfl⟩,T.E6,.inr ⟨_,rfl,_,_,rfl,rfl,_,rfl,e,_,_,_,_,rfl,he,T.Fx,.inl ⟨_,rfl,rfl⟩,T.Ec,.inr ⟨_,rfl,_,_,rfl,rfl,?_⟩⟩⟩⟩
   refine⟨_,rfl,_,rfl,e,_,_,_,_,rfl,he,T.Fx,.inl ⟨_,rfl,rfl⟩,T.Fu,.inr ⟨_,rfl,_,_,rfl,rfl,_,rfl,e,_,_,_,_,rfl,he,T.Fx,.inl ⟨_,rfl,rfl⟩,T.Fn,.inr ⟨_,rfl,_,_,rfl,rfl,_,rfl,e,_,_,_,_,rfl,he,T.Fx,.inl ⟨_,rfl,rfl⟩,T.De,.inr ⟨_,rfl,_,_,rfl,rfl,?_⟩⟩⟩⟩
   refine⟨_,rfl,_,rfl,e,_,_,_,_,rfl,he,T.Fx,.inl ⟨_,rfl,rfl⟩,T.E8,.inr ⟨_,rfl,_,_,rfl,rfl,_,rfl,e,_,_,_,_,rfl,he,T.Fx,.inl ⟨_,rfl,rfl⟩,T.Eu,.inr ⟨_,rfl,_,_,rfl,rfl,_,rfl,e,_,_,_,_,rfl,he,T.Fx,.inl ⟨_,rfl,rfl⟩,T.Cv,.inr ⟨_,rfl,_,_,rfl,rfl,?_⟩⟩⟩⟩
   refine⟨_,rfl,_,rfl,e,_,_,_,_,rfl,he,T.Fx,.inl ⟨_,rfl,rfl⟩,T.Er,.inr ⟨_,rfl,_,_,rfl,rfl,_,rfl,e,_,_,_,_,rfl,he,T.Fx,.inl ⟨_,rfl,rfl⟩,T.Ge,.inr ⟨_,rfl,_,_,rfl,rfl,?_⟩⟩⟩
   refine⟨_,rfl,e,_,_,_,_,rfl,he,T.Fx,.inr ⟨_,rfl,rfl⟩,T.Cf,_,rfl,P8 ?_⟩
   exact⟨_,rfl,rfl,k⟩
theorem Hq:A3 ["_law_row","_law_found","_law_begin","_law_end"] ["_law_row"] (Ai F9):=⟨rfl,rfl,rfl,by decide+kernel,rfl,by decide+kernel,by decide+kernel⟩
theorem Uk (
      T:Txt K mg a):FnOk P w K mg base CX0 true 1 a.Jf a.Jo ["_law_row"] (aa):=by
 refine T.Ot.ok Hq (λvs H Q E h=>?_) (λcdv A outer s H vs Q E hr h=>?_)
 · obtain⟨l,rs,rfl,_⟩:=h;rfl
 ·
  obtain⟨l,rs,rfl,hl,hg,h64,k⟩:=h
  refine⟨_,(Af (Au (i:=1) Hq.nd rfl (Or.inl rfl) (Ef Ac))
   (Af (Js wj rfl (Et (K:=K) rfl (An L8 rfl T.E2 (by decide+kernel) (Aa (pv 0) Ac))) (Zx rfl (Jn (Ca (i:=2) Hq.nd rfl (Or.inl rfl)) (Jn (Ca (i:=3) Hq.nd rfl (Or.inl rfl)) Tt))) (Aj (C3 (PW.pt (Of (Aw (dn (hu2 hr)) (pv 1) (Ef Ac) (A4 _)) (Lm (Aw ji (pv 2) (A7 (A0 (K:=K) rfl) (A7 (Bb (K:=K) rfl) (pv 1) (Wu Oe Ae) (λ_ _=>rfl)) Ae (λ_ _=>rfl)) (A4 _))))) (Aj (V2 (E3 (Aa (A7 (A0 (K:=K) rfl) (A7 (Bb (K:=K) rfl) (pv 1) (Wu Oe Ae) (λ_ _=>rfl)) Ae (λ_ _=>rfl)) (Aa (An (Jd rfl) rfl T.P2 (by decide+kernel) (Aa (A7 (A0 (K:=K) rfl) (A7 (Bb (K:=K) rfl) (pv 1) (Wu Oe Ae) (λ_ _=>rfl)) Ae (λ_ _=>rfl)) (Aa (pv 3) Ac))) Ac))) (Z2 (pv 1) (Wu Oe Ae) set_list))) (Aj (Dx (Sf vm vp vo D8 (pv 1) (Aa (E3 (Aa (pv 2) (Aa (pv 3) Ac))) Ac)))))))
   (Aj (A5 (pv 1))))),?_⟩
  refine⟨by decide,λF hF=>?_⟩
  refine⟨_,rfl,l,rs,rfl,Ah hF _ _ hl.1,hl.2.up (Ah hF),h64,λD qs hD hp hs=>⟨D,rfl,⟨_,SqL.of Ab⟩,?_⟩⟩
  have hDF:D≠F:=λe=>by rw[e,Ab] at hD;cases hD
  have hD0:H D=none:=by rw[Ad hDF] at hD;exact hD
  have hok:RowOk H qs:=λx hx=>hl.2 x (hp.mem_iff.mp hx)
  have hgq:DL.Good (sps qs):=λp hpq=>hg p ((hp.map (·.2)).mem_iff.mp hpq)
  refine Iw (H0:=upd H D (.lst (refs qs))) (Eg (SqL.of Ab)) (λi σ H'=>Same (upd H D (.lst (refs qs))) H'/\∃fs,RowAt H' F fs/\DL.Part (sps fs) (sps (qs.take i))/\∃y z,σ=[some (.ref l),some (.ref F),y,z]) ?_ (λ_ _ _ _ h=>h.1) ?_ ?_
  ·
   refine⟨d7 hF,[],⟨?_,RowOk.nil⟩,DL.Part.nil,_,_,rfl⟩
   rw[Ad (λe=>hDF e.symm)]
   exact Ab
  ·
   rintro i x σ H2 hx ⟨s2,fs,hfs,part,x1,x2,rfl⟩
   obtain⟨y,hy,hm,rfl⟩:=Pd hx
   have hyp:H2 y.1=some (.tup [.int y.2.1,.int y.2.2]):=s2 _ _ ((Ah hD0) _ _ (hok y hm))
   have hbe:y.2.1<y.2.2:=hgq _ (Us hm)
   have hFn:∀(b:Addr)(o:HO),upd H D (.lst (refs qs)) b=some o->b≠F:=λb o e z=>by
    rw[z,Ad (λe=>hDF e.symm),hF] at e
    cases e
   have few:fs.length<=63:=by
    have h1:=part.few
    rw[Ek,Ek,ux,hp.length_eq] at h1
    lia
   refine⟨y.1,_,rfl,SqT.of hyp,rfl,_,_,rfl,_,_,rfl,rfl,?_⟩
   refine⟨_,rfl,by decide,λE1 hE1=>?_⟩
   have u1:=Ah (o:=.lst []) hE1
   refine⟨F,E1,_,rfl,rfl,u1 _ _ hfs.1,Ab,_,rfl,?_⟩
   replace s2:=s2.trans u1
   replace hyp:=u1 _ _ hyp
   replace hfs:=hfs.up u1
   generalize upd H2 E1 (.lst [])=H3 at u1 s2 hyp hfs ⊢
   have add:∀(b:Addr),(∀o z,sps fs=o++[z]->z.2<y.2.1)->H3 b=none->(∃fs',RowAt (upd (upd H3 b (.tup [.int y.2.1,.int y.2.2])) F (.lst (refs fs++[.ref b]))) F fs'/\DL.Part (sps fs') (sps (qs.take (i+1))))/\Same (upd H D (.lst (refs qs))) (upd (upd H3 b (.tup [.int y.2.1,.int y.2.2])) F (.lst (refs fs++[.ref b]))):=by
    intro b hlast hb
    have hbF:b≠F:=λe=>by rw[e,hfs.1] at hb;cases hb
    have hF2:upd H3 b (.tup [.int y.2.1,.int y.2.2]) F=some (.lst (refs fs)):=by rw[Ad (λe=>hbF e.symm)];exact hfs.1
    refine⟨⟨fs++[(b,y.2.1,y.2.2)],⟨by rw[Ab,Kg _ _ y.2.1 y.2.2],RowOk.app (((hfs.2).up (Ah hb)).upd hF2) (by rw[Ad hbF];exact Ab)⟩,?_⟩,λc o e=>?_⟩
    ·
     rw[Aa6 hy,Fc,show sps (qs.take i++[y])=sps (qs.take i)++[(y.2.1,y.2.2)] from Fc _ y.1 _ _]
     exact part.add (λo x z e=>hlast o (x,z) e) hbe
    ·
     rw[Ad (hFn c o e)]
     exact Ah hb _ _ (s2 _ _ e)
   refine He (λhne=>?_) (λhne=>?_)
   ·
    obtain⟨o,z,rfl⟩:=Ys hne
    have hz:=hfs.2 z (t4 _ (tj.mpr rfl))
    refine⟨_,rfl,_,rfl,_,rfl,F,_,_,_,rfl,rfl,SqL.of hfs.1,F2 o z,z.1,_,_,_,rfl,rfl,SqT.of hz,rfl,_,_,rfl,rfl,_,rfl,?_⟩
    refine He (λhle=>?_) (λhle=>?_)
    ·
     have hle':=tw hle
     refine⟨_,rfl,_,rfl,F,_,_,_,rfl,rfl,SqL.of hfs.1,F2 o z,z.1,_,_,_,rfl,rfl,SqT.of hz,rfl,_,rfl,_,rfl,F,_,_,_,rfl,rfl,SqL.of hfs.1,F2 o z,z.1,_,_,_,rfl,rfl,SqT.of hz,rfl,_,rfl,_,_,rfl,(by show 2<=sizeLine;decide),λb hb=>?_⟩
     have hbF:b≠F:=λe=>by rw[e,hfs.1] at hb;cases hb
     refine⟨_,rfl,_,rfl,F,_,_,o.length,rfl,rfl,by rw[Ad (λe=>hbF e.symm)];exact hfs.1,by rw[Gq,ue];exact bz _,?_⟩
     rw[di]
     refine⟨λc p e=>?_,o++[(b,z.2.1,if y.2.2>z.2.2 then y.2.2 else z.2.2)],⟨by rw[Ab,Kg _ _ z.2.1 (if y.2.2>z.2.2 then y.2.2 else z.2.2)],?_⟩,?_,_,_,rfl⟩
     ·
      rw[Ad (hFn c p e)]
      exact Ah hb _ _ (s2 _ _ e)
     ·
      refine RowOk.app ?_ (by rw[Ad hbF];exact Ab)
      exact((hfs.2.init).up (Ah hb)).upd (l:=F) (xs:=refs (o++[z])) (by rw[Ad (λe=>hbF e.symm)];exact hfs.1)
     ·
      rw[Aa6 hy,Fc,show sps (qs.take i++[y])=sps (qs.take i)++[(y.2.1,y.2.2)] from Fc _ y.1 _ _]
      rw[show sps (o++[z])=sps o++[(z.2.1,z.2.2)] from Fc _ z.1 _ _] at part
      exact part.join (U8 hs hy) hle' rfl hbe
    ·
     have hle':¬y.2.1<=z.2.2:=λq=>hle (so q)
     refine⟨_,rfl,.inl ⟨rfl,_,SqL.of hfs.1⟩,_,rfl,_,rfl,(by show 2<=sizeLine;decide),λb hb=>?_⟩
     obtain⟨⟨fs',q1,q2⟩,q3⟩:=add b (λo' z' e=>by
      rw[show sps (o++[z])=sps o++[(z.2.1,z.2.2)] from Fc _ z.1 _ _] at e
      have:=(List.append_inj' e rfl).2
      injection this with this
      rw[←this]
      show z.2.2<y.2.1
      lia) hb
     have hbF:b≠F:=λe=>by rw[e,hfs.1] at hb;cases hb
     exact⟨F,_,_,rfl,rfl,by rw[Ad (λe=>hbF e.symm)];exact hfs.1,mj few (by decide),q3,fs',q1,q2,_,_,rfl⟩
   ·
    have e0:=nil_of hne
    refine Jw ?_
    refine⟨_,rfl,.inl ⟨rfl,_,SqL.of hfs.1⟩,_,rfl,_,rfl,(by show 2<=sizeLine;decide),λb hb=>?_⟩
    obtain⟨⟨fs',q1,q2⟩,q3⟩:=add b (λo' z' e=>by
     rw[e0] at e
     exact absurd e.symm (by simp[sps])) hb
    have hbF:b≠F:=λe=>by rw[e,hfs.1] at hb;cases hb
    exact⟨F,_,_,rfl,rfl,by rw[Ad (λe=>hbF e.symm)];exact hfs.1,mj few (by decide),q3,fs',q1,q2,_,_,rfl⟩
  ·
   rintro σ H2 ⟨s2,fs,hfs,part,x1,x2,rfl⟩
   rw[Gq,yl] at part
   refine⟨_,rfl,?_⟩
   have sm:Same H H2:=(Ah hD0).trans s2
   refine k F H2 fs sm hF hfs part.laid (λm=>(part.same m).trans (DL.az (Vf hp))) ?_
   have:=part.few
   rw[Ek,Ek,hp.length_eq] at this
   exact this
theorem Wx:A3 ["_law_plain","_law_name","_law_begin","_law_end","_law_good"] ["_law_plain","_law_name","_law_begin","_law_end","_law_good"] (Ai G7):=⟨rfl,rfl,rfl,by decide+kernel,rfl,by decide+kernel,by decide+kernel⟩
theorem Wt (T:Txt K mg a):FnOk P w K mg base CX0 true 1 a.Kj a.Kv ["_law_plain","_law_name","_law_begin","_law_end","_law_good"] (Xd):=by
 refine T.Sd.ok Wx (λvs H Q E h=>?_) (λcdv A outer s H vs Q E hr h=>?_)
 · obtain⟨p,ys,nm,b,e,g,rfl,_⟩:=h;rfl
 ·
  obtain⟨p,ys,nm,b,e,g,rfl,hP,hg,k⟩:=h
  refine⟨_,(Af (C3 (Aw Zz (An Q6 rfl T.K9 (by decide+kernel) (Aa (pv 0) Ac)) Ae (A4 _)) (Aj (A5 C1)) Ba)
   (Af (C3 (L6 (I0 (pv 4))) (Aj (A5 C1)) Ba)
   (Af (C3 (Ve (Zd (Ny hr) (pv 1) (pv 0)) (by with_unfolding_all rfl)) (Aj (A5 C1)) Ba)
   (Aj (A5 (Je (Aw Zz (pv 2) (pv 3) (A4 _)) C1 C1)))))),?_⟩
  refine⟨_,rfl,p,_,rfl,hP.at_,_,_,rfl,rfl,_,rfl,?_⟩
  refine He (λz=>?_) (λz=>?_)
  ·
   have hz:40<=ys.length:=by have:=tw z;rw[Qq] at this;lia
   rw[lg (jo hz)] at k
   exact k
  have hz:¬40<=ys.length:=λw=>z (so (by rw[Qq];lia))
  refine⟨_,rfl,_,rfl,?_⟩
  rw[hg]
  by_cases hn:Gi nm.cps.toList=true
  case neg=>
   have hn':=yd.mpr hn
   rw[l9 (j8 hz hn')] at k
   rw[hn']
   exact P8 k
  rw[hn]
  refine Jw ?_
  refine⟨_,rfl,_,rfl,p,_,rfl,DGet.k (k:=Sum.inr nm) hP.at_,_,rfl,?_⟩
  rw[Qx]
  by_cases hm:nm∈ys.map thN
  ·
   rw[me (kl hz hn hm)] at k
   rw[so hm]
   exact P8 k
  rw[ua hm]
  refine Jw ?_
  refine⟨_,rfl,_,rfl,_,_,rfl,rfl,_,rfl,?_⟩
  refine He (λz=>?_) (λz=>?_)
  ·
   rw[ku (Vg hz hn hm) (by have:=tw z;lia)] at k
   exact k
  ·
   rw[lx (Vg hz hn hm) (λw=>z (so (by lia)))] at k
   exact k
theorem L9:A3 ["_law_plain","_law_begin","_law_end","_law_found"] ["_law_plain","_law_begin","_law_end"] (Ai Dc):=⟨rfl,rfl,rfl,by decide+kernel,rfl,by decide+kernel,by decide+kernel⟩
theorem Rk (T:Txt K mg a):FnOk P w K mg base CX0 true 1 a.Hr a.Ic ["_law_plain","_law_begin","_law_end"] (Sl):=by
 refine T.Mv.ok L9 (λvs H Q E h=>?_) (λcdv A outer s H vs Q E hr h=>?_)
 · obtain⟨p,ys,s,e,rfl,_⟩:=h;rfl
 ·
  obtain⟨p,ys,s0,e0,rfl,hP,k⟩:=h
  refine⟨_,(Af (C3 (Aw Zz (pv 1) (pv 2) (A4 _)) (Aj (A5 (Ef Ac))) Ba)
   (Af (Xy (Xf (i0:=3) L9.nd rfl rfl (N:=["_law_name","_law_plain"]) (cap:=[none,some 0]) (by show D6 (Ai Dc) _ ["_law_plain","_law_begin","_law_end","_law_found"] _ _;exact⟨rfl,by decide+kernel,by decide+kernel,by decide+kernel,by decide+kernel,rfl,by decide+kernel⟩) rfl (Zv (pv 0)) (λC s H fp=>⟨(Ca (i:=0) (by show(["_law_name","_law_plain"]:List Str).Nodup;decide+kernel) rfl (Or.inl rfl) (.inr rfl)),Pe,(E3 (Aa (A7 (A0 (K:=K) rfl) (O6 (Ny hr) (pv 1) (pv 0) (λ_ _=>rfl)) Ae (λ_ _=>rfl)) (Aa (A7 (A0 (K:=K) rfl) (O6 (Ny hr) (pv 1) (pv 0) (λ_ _=>rfl)) Ae (λ_ _=>rfl)) (Aa (pv 0) Ac))))⟩)))
   (Aj (A5 (An (Rc (hu2 hr)) rfl T.E2 (by decide+kernel) (Aa (Lh (N:=["_law_one","_law_end","_law_begin"]) (cap:=[none,some 2,some 1]) (by show D6 (Ai Dc) _ ["_law_plain","_law_begin","_law_end","_law_found"] _ _;exact⟨rfl,by decide+kernel,by decide+kernel,by decide+kernel,by decide+kernel,rfl,by decide+kernel⟩) rfl (Et (K:=K) rfl (pv 3)) (λC s H fp=>⟨(Ca (i:=0) (by show(["_law_one","_law_end","_law_begin"]:List Str).Nodup;decide+kernel) rfl (Or.inl rfl) (.inr rfl)),(Yr (PW.pt (Of (Aw N1 (A7 (A0 (K:=K) rfl) (pv 0) Ae (λ_ _=>rfl)) (pv 1) (A4 _)) (Lm (Aw V6 (A7 (A0 (K:=K) rfl) (pv 0) Ae (λ_ _=>rfl)) (pv 2) (A4 _)))))),(pv 0)⟩)) Ac)))))),?_⟩
  refine⟨_,rfl,_,rfl,_,_,rfl,rfl,_,rfl,?_⟩
  refine He (λz=>?_) (λz=>?_)
  ·
   have hz:=tw z
   refine⟨by decide,λl hl=>k l [] _ (Ah hl) hl ⟨Ab,λ_ z=>nomatch z⟩ (by rw[Ry (by lia)];exact .nil) .nil⟩
  have hse:s0<e0:=by
   rcases Int.lt_or_le s0 e0 with w|w
   · exact w
   · exact absurd (so (show s0≥e0 from w)) z
  refine⟨p,kvT ys,hP.at_,_,rfl,p,kvT ys,rfl,hP.at_,λo=>?_⟩
  have hz:∀b' o',H b'=some o'->b'≠p->(upd H p (.frz o (.dK (kvT ys)))) b'=some o':=λb' o' e' n=>by rw[Ad n];exact e'
  have hzp:(upd H p (.frz o (.dK (kvT ys)))) p=some (.frz o (.dK (kvT ys))):=Ab
  have hzn:∀b',(upd H p (.frz o (.dK (kvT ys)))) b'=none->H b'=none:=λb' e'=>by
   by_cases eb:b'=p
   · rw[eb,hzp] at e';cases e'
   · rw[Ad eb] at e';exact e'
  generalize upd H p (.frz o (.dK (kvT ys)))=Hz at hz hzp hzn ⊢
  have npt:∀x∈ys,x.2.1≠p:=λx hx e=>by have:=hP.ok x hx;rw[e,hP.at_] at this;cases this
  have hsq:Seq (Itd p o) Hz (ys.map λx=>V.str x.1):=by
   have:=U0 hzp
   unfold kvT at this
   rw[uo] at this
   exact this
  refine Kc (us:=ys) (λx=>V.str x.1) (λ_=>true) k3 hsq (λx hx y hy e=>⟨rfl,by rw[lj hP.nd x hx y hy (V.str.inj e)]⟩) (by have:=hP.few;lia) (λx hx H' sm R hR=>hR H' (Same.refl _)) (λx hx _ H' sm R hR=>?_) (λD H1 qs s1 hD0 hD er=>?_)
  ·
   have hg:DGet H' p (V.str x.1) (some (.ref x.2.1)):=.inl ⟨kvT ys,Sum.inr x.1,.inr ⟨o,sm _ _ hzp⟩,rfl,(Sg hP.nd hx).symm⟩
   have ht:=sm _ _ (hz _ _ (hP.ok x hx) (npt x hx))
   exact⟨_,rfl,_,rfl,p,_,rfl,hg,x.2.1,_,_,_,rfl,rfl,SqT.of ht,rfl,_,rfl,_,rfl,p,_,rfl,hg,x.2.1,_,_,_,rfl,rfl,SqT.of ht,rfl,_,rfl,(by show 3<=sizeLine;decide),λq hq=>hR q _ (Ah hq) Ab⟩
  rw[zm.mpr (λ_ _=>rfl)] at er
  have hp1:=s1 _ _ hzp
  refine⟨o,hp1,?_⟩
  have S1:Same H (upd H1 p (.dK (kvT ys))):=λb' o' e'=>by
   by_cases eb:b'=p
   ·
    subst eb
    rw[hP.at_] at e'
    rw[←e']
    exact Ab
   · rw[Ad eb];exact s1 _ _ (hz _ _ e' eb)
  have hDp:D≠p:=λz=>by rw[z,hzp] at hD0;cases hD0
  have hD1:TupsAt (upd H1 p (.dK (kvT ys))) D qs:=⟨by rw[Ad hDp];exact hD.1,λx hx=>by
   have:=hD.2 x hx
   rw[Ad (λz=>by rw[z,hp1] at this;cases this)]
   exact this⟩
  generalize upd H1 p (.dK (kvT ys))=H2 at S1 hD1 ⊢
  have sh:∀x∈qs,∃t∈ys,x.1=k3 t:=λx hx=>by
   have hm:x.1∈ys.map k3:=by rw[←er];exact uu hx
   obtain⟨t,ht,e⟩:=t6.mp hm
   exact⟨t,ht,e.symm⟩
  have hlen:qs.length<=40:=by
   have:=vi List.length er
   rw[sf,sf] at this
   have:=hP.few
   lia
  refine⟨_,rfl,D,rfl,⟨_,SqL.of hD1.1⟩,?_⟩
  refine Kc (us:=qs) (λx=>V.ref x.2) (λx=>inW s0 e0 x.1) (λx=>x.1) (Eg (K:=K) (SqL.of hD1.1)) (λx hx y hy e=>by rw[hD1.one x hx y hy e];exact⟨rfl,rfl⟩) (by lia) (λx hx H' sm R hR=>?_) (λx hx _ H' sm R hR=>?_) (λD2 H3 rs s3 hD20 hD2 er2=>?_)
  ·
   obtain⟨t,_,ex⟩:=sh x hx
   have hx2:=sm _ _ (hD1.2 x hx)
   rw[ex] at hx2
   have hR':∀H'',Same H' H''->R (decide (thB t<e0)&&decide (thE t>s0)) H'':=λH'' s''=>by have:=hR H'' s'';rw[ex] at this;exact this
   refine⟨_,rfl,x.2,_,_,_,rfl,rfl,SqT.of hx2,rfl,_,rfl,_,_,rfl,rfl,_,rfl,?_⟩
   refine He (λz=>?_) (λz=>?_)
   ·
    refine⟨_,rfl,x.2,_,_,_,rfl,rfl,SqT.of hx2,rfl,_,rfl,_,_,rfl,rfl,_,rfl,?_⟩
    have:=hR' H' (Same.refl _)
    rw[show decide (thB t<e0)=true from z,zk] at this
    exact this
   ·
    have:=hR' H' (Same.refl _)
    rw[show decide (thB t<e0)=false from yd.mpr z,y8] at this
    exact this
  · exact⟨_,rfl,hR x.2 H' (Same.refl _) (sm _ _ (hD1.2 x hx))⟩
  have er3:rs.map (·.1)=K7 ys s0 e0:=by
   rw[er2,show(qs.filter λx=>inW s0 e0 x.1).map (λx=>x.1)=(qs.map (·.1)).filter (inW s0 e0) by rw[x9];rfl,er,x9]
   unfold K7
   congr 1
   exact Abe λx hx=>(fm (hP.good x hx) hse).symm
  have sh3:∀x∈rs,∃t∈ys,x.1=k3 t:=λx hx=>by
   have hm:x.1∈K7 ys s0 e0:=by rw[←er3];exact uu hx
   unfold K7 at hm
   obtain⟨t,ht,e⟩:=t6.mp hm
   exact⟨t,(va.mp ht).1,e.symm⟩
  have hlen3:rs.length<=40:=by
   have:=vi List.length er3
   rw[sf] at this
   have:=Jj ys s0 e0
   have:=hP.few
   lia
  refine⟨D2,rs.map (λx=>(nkF x.1,x.2)),rfl,(by rw[uo];exact hD2.1),(λx hx=>?_),(by rw[sf];lia),.inr (λx hx=>?_),(λx hx y hy=>?_),λD3 qs3 hD3 hp hs=>?_⟩
  ·
   obtain⟨y,hy,rfl⟩:=t6.mp hx
   exact d8 (hD2.2 y hy)
  ·
   obtain⟨y,hy,rfl⟩:=t6.mp hx
   obtain⟨t,_,e⟩:=sh3 y hy
   exact⟨_,_,(vi nkF e:nkF y.1=nkF (k3 t))⟩
  ·
   obtain⟨x',hx',rfl⟩:=t6.mp hx
   obtain⟨y',hy',rfl⟩:=t6.mp hy
   obtain⟨t,_,e⟩:=sh3 x' hx'
   obtain⟨t',_,e'⟩:=sh3 y' hy'
   show okL (nkF x'.1) (nkF y'.1)=true
   rw[e,e']
   exact ok3 ..
  obtain⟨qs4,p4,e4⟩:=Hm (f:=λx:List Key×Addr=>((nkF x.1,x.2):List NK×Addr)) hp rs rfl
  subst e4
  have kk:(qs4.map λx:List Key×Addr=>((nkF x.1,x.2):List NK×Addr)).map (·.1)=(qs4.map (·.1)).map nkF:=by rw[uo,uo];rfl
  have hs':jb (qs4.map (·.1)):=by
   have hs:(keysOf (qs4.map λx:List Key×Addr=>((nkF x.1,x.2):List NK×Addr))).Pairwise (λx y=>ltL y x=false):=hs
   unfold keysOf at hs
   rw[kk,yc] at hs
   exact hs
  exact k D3 qs4 _ ((S1.trans s3).trans (Ah hD3)) (S1.free (s3.free hD3)) ⟨by rw[show(qs4.map λx=>V.ref x.2)=(qs4.map λx:List Key×Addr=>((nkF x.1,x.2):List NK×Addr)).map λx=>V.ref x.2 by rw[uo];rfl];exact Ab,λx hx=>Ah hD3 _ _ (hD2.2 x (p4.mem_iff.mp hx))⟩ (by rw[←er3];exact p4.map _) (hs')
theorem Xk:A3 ["text"] ["text"] (Ai Hg):=⟨rfl,rfl,rfl,by decide+kernel,rfl,by decide+kernel,by decide+kernel⟩
theorem W2 (T:Txt K mg a):FnOk P w K mg base CX0 true 2 a.Ko a.Kl ["text"] (Wi):=by
 refine T.R5.ok Xk (λvs H Q E h=>?_) (λcdv A outer s H vs Q E hr h=>?_)
 · obtain⟨t,rfl,_⟩:=h;rfl
 ·
  obtain⟨t,rfl,hl,k⟩:=h
  refine⟨_,(Af (C3 (PW.pt (Yv (Aw N1 (An L7 rfl T.K9 (by decide+kernel) (Aa (pv 0) Ac)) Ae (A4 _)) (Qv (Aw V6 (An L7 rfl T.K9 (by decide+kernel) (Aa (pv 0) Ac)) (Uw rfl T.Fq) (A4 _))))) (Aj (A5 Sn)) Ba)
   (Aj (A5 (e7 (J2 Rz (A7 Vu (pv 0) Ae (λ_ _=>rfl)) (P4 rfl T.G9) (by with_unfolding_all rfl)) (fb (As ((Qh T).mono (by decide)) hr rfl T.Rt T.Ma.kp T.Ro .nil Bm (Aa (pv 0) (Aa (Av G8 (P4 rfl T.G9) (P4 rfl T.Iz)) Ac)))))))),?_⟩
  have hz:t.length<=sizeLine:=zc (ve hl kj)
  have el:t.cps.toList.length=t.length:=sv
  refine⟨_,rfl,t,rfl,hz,_,_,rfl,rfl,_,rfl,?_⟩
  refine He (λh1=>?_) (λh1=>?_)
  ·
   refine P8 ?_
   have q:=k H (Same.refl _)
   rw[T2 (by rw[el];have:=tw h1;lia)] at q
   exact q
  ·
   have h1':¬((t.length:Int)<1):=λz=>h1 (so z)
   refine⟨_,rfl,t,rfl,hz,_,_,rfl,rfl,_,rfl,?_⟩
   refine He (λh2=>?_) (λh2=>?_)
   ·
    have q:=k H (Same.refl _)
    rw[Wq (by rw[el];have:=tw h2;lia)] at q
    exact q
   ·
    have h2':¬((8:Int)<t.length):=λz=>h2 (so z)
    obtain⟨c0,e0⟩:∃c,t.cps.toList[0]?=some c:=⟨t.cps.toList[0]'(by rw[el];lia),by simp⟩
    refine⟨_,rfl,t,0,c0,rfl,rfl,hz,Dv e0,c0,_,rfl,rfl,_,rfl,?_⟩
    have en:=Q8 (l:=t.cps.toList) (by rw[el];lia) (by rw[el];lia) e0
    refine He (λh3=>?_) (λh3=>?_)
    ·
     refine⟨_,rfl,_,_,rfl,rfl,by decide+kernel,t,_,rfl,hl,λH' sm=>?_⟩
     have q:=k H' sm
     rw[en,show decide (c0∈LT)=true from h3,zk] at q
     exact q
    ·
     have q:=k H (Same.refl _)
     rw[en,show decide (c0∈LT)=false from ua (λz=>h3 (so z)),y8] at q
     exact q
theorem Py:A3 ["begin","end"] ["begin","end"] (Ai Ep):=⟨rfl,rfl,rfl,by decide+kernel,rfl,by decide+kernel,by decide+kernel⟩
theorem Kk (T:Txt K mg a):FnOk P w K mg base (CXe P w) true 2 a.Gj a.Gp ["begin","end"] (O4 a.Ak):=by
 refine T.Io.okE Py (λvs H Q E h=>?_) (λcdv A outer s H vs Q E hr h=>?_)
 · obtain⟨b,e,rfl,_⟩:=h;rfl
 ·
  obtain⟨b,e,rfl,k1,k2⟩:=h
  refine⟨_,(Aj (C3 (L6 (I0 (As ((Wm T).mono (by decide)) hr rfl T.Zj T.Se.kp T.Xu .nil Bm (Aa (pv 0) (Aa (pv 1) Ac))))) (Aj (Kf G5 rfl rfl T.Ho T.Ak (Aa C1 Ac))) Ba)),?_⟩
  refine⟨_,rfl,_,rfl,b,e,rfl,_,rfl,?_⟩
  by_cases hb:b<e
  ·
   rw[so hb]
   exact Jw (k1 hb)
  ·
   rw[ua hb]
   exact P8 ⟨(by show 1<=sizeLine;decide),k2 hb⟩
theorem Ij:A3 ["self","begin","end","span"] ["self","begin","end"] (Ai Cd):=⟨rfl,rfl,rfl,by decide+kernel,rfl,by decide+kernel,by decide+kernel⟩
theorem Md (T:Txt K mg a):FnOk P w K mg base CX0 true 2 a.Es a.Ez ["self","begin","end"] (Ik a.Ar):=by
 refine T.M5.ok Ij (λvs H Q E h=>?_) (λcdv A outer s H vs Q E hr h=>?_)
 · obtain⟨x,dx,b0,e0,b,e,rfl,_⟩:=h;rfl
 ·
  obtain⟨x,dx,b0,e0,b,e,rfl,hx,k⟩:=h
  refine⟨_,(Af (Au (i:=3) Ij.nd rfl (Or.inl rfl) (E3 (Aa (G1 (K:=K) rfl (pv 0)) (Aa (G1 (K:=K) rfl (pv 0)) Ac))))
   (Aj (A5 (Je (I0 (As ((b3 T).mono (by decide)) hr rfl T.i7 T.Y7.kp T.f7 .nil Bm (Aa (pv 3) (Aa (pv 1) (Aa (pv 2) Ac))))) (Ef (Aa (pv 3) Ac)) (Ef Ac))))),?_⟩
  refine⟨_,rfl,x,_,dx,_,_,rfl,hx,T.Nt,T.Lv,rfl,_,rfl,x,_,dx,_,_,rfl,hx,T.Nt,T.Oq,rfl,(by show 2<=sizeLine;decide),λp hp=>?_⟩
  refine⟨_,rfl,_,rfl,_,rfl,p,b0,e0,b,e,rfl,Ab,_,rfl,?_⟩
  refine He (λz=>?_) (λz=>?_)
  ·
   have hm:=tw z
   refine⟨_,rfl,(by show 1<=sizeLine;decide),λl hl=>k l p _ ((Ah hp).trans (Ah hl)) ((Ah hp).free hl) (by rw[if_pos hm];exact Ab) (Ah hl _ _ Ab)⟩
  ·
   have hm:¬max b0 b<min e0 e:=λw=>z (so w)
   refine⟨(by show 0<=sizeLine;decide),λl hl=>k l p _ ((Ah hp).trans (Ah hl)) ((Ah hp).free hl) (by rw[if_neg hm];exact Ab) (Ah hl _ _ Ab)⟩
theorem Bd:A3 ["_law_state","_law_many","_law_signs","_law_size","_law_base","_law_k","_law_at","_law_first","_law_found","_law_name"] ["_law_state","_law_many"] (Ai Fe):=⟨rfl,rfl,rfl,by decide+kernel,rfl,by decide+kernel,by decide+kernel⟩
theorem Rn (T:Txt K mg a):FnOk P w K mg base CX0 true 2 a.Hv a.Hw ["_law_state","_law_many"] (Q0):=by
 refine T.Ng.ok Bd (λvs H Q E h=>?_) (λcdv A outer s H vs Q E hr h=>?_)
 · obtain⟨L,s,m,rfl,_⟩:=h;rfl
 ·
  obtain⟨L,s0,m,rfl,hL,hs,m1,m2,k⟩:=h
  refine⟨_,(Af (Au (i:=2) Bd.nd rfl (Or.inl rfl) C1)
   (Af (Au (i:=3) Bd.nd rfl (Or.inl rfl) (Av Bz (As ((A1 T).mono (by decide)) hr rfl T.Bc T.A8.kp T.Be .nil Bm (Aa (pv 0) (Aa Ae Ac))) Ae))
   (Af (Au (i:=4) Bd.nd rfl (Or.inl rfl) (A7 Vu (pv 2) (Av Bz (As ((A1 T).mono (by decide)) hr rfl T.Bc T.A8.kp T.Be .nil Bm (Aa (pv 0) (Aa Ae Ac))) Ae) (λ_ _=>rfl)))
   (Af (Js wj rfl (Mx rfl T.Jy (Aa (pv 3) Ac)) (Ca (i:=5) Bd.nd rfl (Or.inl rfl)) (Aj (Au (i:=4) Bd.nd rfl (Or.inl rfl) (Av G8 (pv 4) (A7 Vu (pv 2) (Av Bz (As ((A1 T).mono (by decide)) hr rfl T.Bc T.A8.kp T.Be .nil Bm (Aa (pv 0) (Aa Ae Ac))) Ae) (λ_ _=>rfl))))))
   (Af (Au (i:=4) Bd.nd rfl (Or.inl rfl) (Jm Z5 (pv 4) Mt (Jx (pv 3))))
   (Af (Au (i:=6) Bd.nd rfl (Or.inl rfl) (Av Bz (As ((A1 T).mono (by decide)) hr rfl T.Bc T.A8.kp T.Be .nil Bm (Aa (pv 0) (Aa Ae Ac))) (Av B0 (pv 3) Ae)))
   (Af (Au (i:=7) Bd.nd rfl (Or.inl rfl) (Av Bz (As ((A1 T).mono (by decide)) hr rfl T.Bc T.A8.kp T.Be .nil Bm (Aa (pv 0) (Aa Ae Ac))) Ae))
   (Af (Au (i:=8) Bd.nd rfl (Or.inl rfl) (Ef Ac))
   (Af (Js wj rfl (Mx rfl T.Jy (Aa (pv 1) Ac)) (Ca (i:=5) Bd.nd rfl (Or.inl rfl)) (Af (Au (i:=9) Bd.nd rfl (Or.inl rfl) (Av G8 (Av G8 (Jm Z5 (pv 4) Mt (Jx (pv 6))) (A7 Vu (pv 2) (Av Bz (Av B0 (pv 7) (pv 5)) Ae) (λ_ _=>rfl))) (Jm Z5 (pv 4) (Jx (pv 6)) Mt)))
   (Af (C3 (Aw Zz (pv 5) Ae (A4 _)) (Aj (Au (i:=9) Bd.nd rfl (Or.inl rfl) (Av G8 (pv 9) C1))) Ba)
   (Aj (Dx (Sf vm vp vo D8 (pv 8) (Aa (pv 9) Ac)))))))
   (Aj (A5 (pv 8)))))))))))),?_⟩
  refine⟨_,rfl,L,s0,_,rfl,hL,hs,λs1 v1 h1 w1=>⟨_,_,rfl,rfl,(by show(0:Int)<7;decide),?_⟩⟩
  have z0:0<=v1%7:=vf _ (by decide)
  have z1:v1%7<7:=u0 _ (by decide)
  obtain⟨n,hn⟩:∃n:Nat,v1%7=n:=⟨(v1%7).toNat,by lia⟩
  rw[show(λi j=>V.int (i%j)) v1 7=V.int (n:Int) by show V.int (v1%7)=_;rw[hn]]
  refine⟨_,rfl,_,rfl,L,s1,_,rfl,Ab,h1,λs2 v2 h2 w2=>⟨_,_,rfl,rfl,(by show(0:Int)<26;decide),?_⟩⟩
  obtain⟨c0,hc0,e0⟩:=qm (i:=v2%26) (vf _ (by decide)) (u0 _ (by decide))
  refine⟨_,_,_,rfl,rfl,by decide+kernel,e0,?_⟩
  rw[Dw]
  refine⟨_,rfl,n,rfl,by lia,by lia,?_⟩
  refine Nl (n:=n) (λi σ H'=>∃(s':Int)(cs:List Nat)(y:Option V),Rg s'/\H'=upd H L (.lst [.int s'])/\cs.length=i+1/\BsOk cs/\σ=[some (.ref L),some (.int m),some (.str "abcdefghijklmnopqrstuvwxyz0123456789"),some (.int n),some (.str (mkS cs)),y,none,none,none,none]) ⟨s2,[c0],_,h2,rfl,rfl,⟨λc hc=>by rw[tj] at hc;rw[hc];exact jh hc0,λc hc=>by have:=sy hc;rw[←this];exact hc0⟩,rfl⟩ ?_ ?_
  ·
   rintro i σ H1 hi ⟨s3,cs,y,h3,rfl,hcl,hok,rfl⟩
   refine⟨_,rfl,_,rfl,_,rfl,L,s3,_,rfl,Ab,h3,λs4 v4 h4 w4=>⟨_,_,rfl,rfl,(by show(0:Int)<36;decide),?_⟩⟩
   obtain⟨c,hc,e⟩:=qq (i:=v4%36) (vf _ (by decide)) (u0 _ (by decide))
   refine⟨_,_,_,rfl,rfl,by decide+kernel,e,_,_,rfl,rfl,?_,?_⟩
   ·
    rw[Mb,show(⟨#[c]⟩:Str).length=1 from rfl]
    exact uy (by lia:cs.length+1<=10) (by decide)
   rw[Dw]
   exact⟨s4,cs++[c],_,h4,rfl,by rw[ue,hcl];rfl,hok.snoc (by lia) hc,by rw[show mkS cs++(⟨#[c]⟩:Str)=mkS (cs++[c]) from Q3 cs [c]];rfl⟩
  rintro σ H1 ⟨s3,cs0,y,h3,rfl,hcl0,hok0,rfl⟩
  refine⟨_,rfl,_,rfl,_,rfl,_,rfl,(by rw[Mb];exact uy (by lia:cs0.length<=10) (by decide)),?_⟩
  rw[DQ.cp]
  have hok:BsOk (cs0.take n):=hok0.take n
  have hcl:(cs0.take n).length=n:=by rw[ux];lia
  generalize cs0.take n=cs at hok hcl ⊢
  refine⟨_,rfl,L,s3,_,rfl,Ab,h3,λs4 v4 h4 w4=>⟨_,rfl,_,_,rfl,rfl,_,_,rfl,rfl,(by show(0:Int)<(n:Int)+1;lia),?_⟩⟩
  obtain⟨at0,hat,hle⟩:∃at0:Nat,v4%((n:Int)+1)=at0/\at0<=n:=⟨(v4%((n:Int)+1)).toNat,by have:=vf v4 (show(n:Int)+1≠0 by lia);lia,by have:=u0 v4 (show(0:Int)<(n:Int)+1 by lia);lia⟩
  rw[show(λi j=>V.int (i%j)) v4 ((n:Int)+1)=V.int (at0:Int) by show V.int (v4%((n:Int)+1))=_;rw[hat]]
  refine⟨_,rfl,L,s4,_,rfl,Ab,h4,λs5 v5 h5 w5=>⟨_,_,rfl,rfl,(by show(0:Int)<26;decide),?_⟩⟩
  obtain⟨f0,hf0,hf1⟩:∃f0:Nat,v5%26=f0/\f0<26:=⟨(v5%26).toNat,by have:=vf v5 (show(26:Int)≠0 by decide);lia,by have:=u0 v5 (show(0:Int)<26 by decide);lia⟩
  rw[show(λi j=>V.int (i%j)) v5 26=V.int (f0:Int) by show V.int (v5%26)=_;rw[hf0]]
  rw[Dw,Dw]
  refine⟨by decide,λD hD=>?_⟩
  have hDL:D≠L:=λe=>by rw[e,Ab] at hD;cases hD
  refine⟨_,rfl,m,rfl,by lia,by lia,?_⟩
  refine Nl (n:=m.toNat) (λi σ H'=>∃(y z:Option V),H'=upd (upd H L (.lst [.int s5])) D (.lst (((List.range i).map (nmS cs at0 f0)).map V.str))/\σ=[some (.ref L),some (.int m),some (.str "abcdefghijklmnopqrstuvwxyz0123456789"),some (.int n),some (.str (mkS cs)),y,some (.int at0),some (.int f0),some (.ref D),z]) ⟨_,_,rfl,rfl⟩ ?_ ?_
  ·
   rintro i σ H1 hi ⟨y,z,rfl,rfl⟩
   have lenb:(mkS cs).length<=sizeLine:=by rw[Mb];exact uy (by lia:cs.length<=10) (by decide)
   have ei:atI (Str.ofString "abcdefghijklmnopqrstuvwxyz0123456789").cps.toList (((f0:Int)+(0+(i:Int)))%26)=some (ltC (f0+i)):=by
    rw[show((f0:Int)+(0+(i:Int)))%26=(((f0+i)%26:Nat):Int) by lia]
    exact Dv (Zr (f0+i)).2
   have hin:i<42:=by lia
   refine⟨_,rfl,_,rfl,_,rfl,_,rfl,lenb,_,rfl,_,rfl,_,rfl,_,_,rfl,rfl,_,_,rfl,rfl,(by show(0:Int)<26;decide),_,_,_,rfl,rfl,by decide+kernel,ei,_,_,rfl,rfl,?_,?_⟩
   ·
    rw[DQ.cp,Mb,ux,show(⟨#[ltC (f0+i)]⟩:Str).length=1 from rfl]
    exact uy (by lia:min at0 cs.length+1<=10) (by decide)
   refine⟨_,rfl,_,rfl,_,rfl,_,rfl,lenb,_,_,rfl,rfl,?_,?_⟩
   ·
    rw[DQ.cp,DQ.Xt,show mkS (cs.take at0)++(⟨#[ltC (f0+i)]⟩:Str)=mkS (cs.take at0++[ltC (f0+i)]) from Q3 _ [_],Mb,Mb,ue,ux,vy,xp]
    exact uy (by lia:min at0 cs.length+1+(cs.length-at0)<=20) (by decide)
   rw[DQ.cp,DQ.Xt,show mkS (cs.take at0)++(⟨#[ltC (f0+i)]⟩:Str)=mkS (cs.take at0++[ltC (f0+i)]) from Q3 _ [_],Q3]
   have hl2:(((List.range i).map (nmS cs at0 f0)).map V.str).length<sizeLine:=by rw[sf,sf,vw];exact Nat.lt_trans hin (by decide)
   have er:((List.range i).map (nmS cs at0 f0)).map V.str++[.str (nmS cs at0 f0 i)]=((List.range (i+1)).map (nmS cs at0 f0)).map V.str:=by rw[List.range_succ,uv,uv];rfl
   refine⟨_,rfl,_,_,rfl,rfl,_,rfl,?_⟩
   refine He (λz=>?_) (λz=>?_)
   ·
    have h26:26<=i:=by have:=tw z;lia
    refine⟨_,rfl,_,_,rfl,rfl,?_,?_⟩
    ·
     rw[Mb,ue,ue,ux,vy,xp]
     exact uy (by
      have:(Str.ofString "z":Str).length=1:=by decide+kernel
      lia:min at0 cs.length+1+(cs.length-at0)+(Str.ofString "z":Str).length<=20) (by decide)
    have en:mkS (cs.take at0++[ltC (f0+i)]++cs.drop at0)++(Str.ofString "z":Str)=nmS cs at0 f0 i:=by
     rw[show(Str.ofString "z":Str)=mkS [122] by decide+kernel,Q3]
     unfold nmS nmL
     rw[if_pos h26]
    rw[en]
    refine⟨_,rfl,.inl ⟨rfl,_,SqL.of Ab⟩,_,rfl,D,_,_,rfl,rfl,Ab,hl2,?_⟩
    rw[Dw,er]
    exact⟨_,_,rfl,rfl⟩
   ·
    have h26:¬26<=i:=λw=>z (so (by lia))
    have en:mkS (cs.take at0++[ltC (f0+i)]++cs.drop at0)=nmS cs at0 f0 i:=by
     unfold nmS nmL
     rw[if_neg h26,xg]
    rw[en]
    refine⟨_,rfl,.inl ⟨rfl,_,SqL.of Ab⟩,_,rfl,D,_,_,rfl,rfl,Ab,hl2,?_⟩
    rw[Dw,er]
    exact⟨_,_,rfl,rfl⟩
  ·
   rintro σ H1 ⟨y,z,rfl,rfl⟩
   refine⟨_,rfl,?_⟩
   refine k D ((List.range m.toNat).map (nmS cs at0 f0)) s5 _ h5 (λb' o' nb e'=>?_) (by rw[Ad hDL.symm];exact Ab) hDL Ab (by rw[sf,vw];lia) (λt ht=>?_) (ke (by lia))
   ·
    have hDH:H D=none:=by rw[Ad hDL] at hD;exact hD
    rw[Ad (Am e' hDH),Ad nb]
    exact e'
   ·
    obtain⟨j,hj,rfl⟩:=t6.mp ht
    exact jd hok (by lia) (by lia)
theorem Xn:A3 ["_law_row","_law_begin","_law_end"] ["_law_row","_law_begin","_law_end"] (Ai Gf):=⟨rfl,rfl,rfl,by decide+kernel,rfl,by decide+kernel,by decide+kernel⟩
theorem Wn (T:Txt K mg a):FnOk P w K mg base CX0 true 2 a.J9 a.J7 ["_law_row","_law_begin","_law_end"] (Wy):=by
 refine T.Rb.ok Xn (λvs H Q E h=>?_) (λcdv A outer s H vs Q E hr h=>?_)
 · obtain⟨l,rs,s,e,rfl,_⟩:=h;rfl
 ·
  obtain⟨l,rs,s0,e0,rfl,hT,hP,hse,h60,k⟩:=h
  refine⟨_,(Aj (A5 (As ((Uk T).mono (by decide)) hr rfl T.W3 T.Ot.kp T.Xh .nil Bm (Aa (Lh (N:=["_law_one","_law_begin","_law_end"]) (cap:=[none,some 1,some 2]) (by show D6 (Ai Gf) _ ["_law_row","_law_begin","_law_end"] _ _;exact⟨rfl,by decide+kernel,by decide+kernel,by decide+kernel,by decide+kernel,rfl,by decide+kernel⟩) rfl (Et (K:=K) rfl (pv 0)) (λC s H fp=>⟨(Ca (i:=0) (by show(["_law_one","_law_begin","_law_end"]:List Str).Nodup;decide+kernel) rfl (Or.inl rfl) (.inr rfl)),(Yr (PW.pt (Of (Aw N1 (A7 (A0 (K:=K) rfl) (pv 0) Ae (λ_ _=>rfl)) (pv 2) (A4 _)) (Lm (Aw V6 (A7 (A0 (K:=K) rfl) (pv 0) Ae (λ_ _=>rfl)) (pv 1) (A4 _)))))),(E3 (Aa (An (Jd rfl) rfl T.P2 (by decide+kernel) (Aa (A7 (A0 (K:=K) rfl) (pv 0) Ae (λ_ _=>rfl)) (Aa (pv 1) Ac))) (Aa (An (M9 rfl) rfl T.Td (by decide+kernel) (Aa (A7 (A0 (K:=K) rfl) (pv 0) Ae (λ_ _=>rfl)) (Aa (pv 2) Ac))) Ac)))⟩)) Ac)))),?_⟩
  refine⟨_,rfl,l,rfl,⟨_,SqL.of hT.1⟩,?_⟩
  refine Kc (us:=rs) (λx=>V.ref x.2) (λx=>inW s0 e0 x.1) (λx=>bq s0 e0 x.1) (Eg (K:=K) (SqL.of hT.1)) (λx hx y hy e=>by rw[hT.one x hx y hy e];exact⟨rfl,rfl⟩) (by lia) (λx hx H' sm R hR=>?_) (λx hx _ H' sm R hR=>?_) (λD H2 qs s2 hD0 hD er=>?_)
  ·
   obtain⟨⟨b,e,ex⟩,_⟩:=hP x hx
   have hx2:=sm _ _ (hT.2 x hx)
   rw[ex] at hx2
   have hR':∀H'',Same H' H''->R (decide (b<e0)&&decide (e>s0)) H'':=λH'' s''=>by have:=hR H'' s'';rw[ex] at this;exact this
   refine⟨_,rfl,x.2,_,_,_,rfl,rfl,SqT.of hx2,rfl,_,rfl,_,_,rfl,rfl,_,rfl,?_⟩
   refine He (λz=>?_) (λz=>?_)
   ·
    refine⟨_,rfl,x.2,_,_,_,rfl,rfl,SqT.of hx2,rfl,_,rfl,_,_,rfl,rfl,_,rfl,?_⟩
    have:=hR' H' (Same.refl _)
    rw[show decide (b<e0)=true from z,zk] at this
    exact this
   ·
    have:=hR' H' (Same.refl _)
    rw[show decide (b<e0)=false from yd.mpr z,y8] at this
    exact this
  ·
   obtain⟨⟨b,e,ex⟩,_⟩:=hP x hx
   have hx2:=sm _ _ (hT.2 x hx)
   rw[ex] at hx2
   exact⟨_,rfl,x.2,_,_,_,rfl,rfl,SqT.of hx2,rfl,_,rfl,_,_,rfl,_,rfl,x.2,_,_,_,rfl,rfl,SqT.of hx2,rfl,_,rfl,_,_,rfl,(by show 2<=sizeLine;decide),λq hq=>hR q _ (Ah hq) (by rw[ex];exact Ab)⟩
  have er':qs.map (·.1)=((rs.map (·.1)).filter (inW s0 e0)).map (bq s0 e0):=by
   rw[er,x9,uo]
   rfl
  have hL:∀c∈rs.map (·.1),PrK c:=λc hc=>by obtain⟨x,hx,rfl⟩:=t6.mp hc;exact(hP x hx).1
  have sh:∀x∈qs,∃b e:Int,x.1=[.inl b,.inl e]/\b<e:=λx hx=>by
   have hm:x.1∈(rs.filter λx=>inW s0 e0 x.1).map λx=>bq s0 e0 x.1:=by rw[←er];exact uu hx
   obtain⟨y,hy,e⟩:=t6.mp hm
   obtain⟨hy,hw⟩:=va.mp hy
   obtain⟨⟨b,c,ex⟩,hbe⟩:=hP y hy
   rw[ex] at e hw hbe
   refine⟨_,_,e.symm,?_⟩
   have hse:s0<e0:=hse.resolve_right λz=>by rw[z] at hy;cases hy
   have hw:(decide (b<e0)&&decide (c>s0))=true:=hw
   rw[vh] at hw
   have w1:=tw hw.1
   have w2:=tw hw.2
   have hbe:b<c:=hbe
   split<;>split<;>lia
  obtain⟨ps,hps,eps⟩:=Oc hD λx hx=>let ⟨b,e,h,_⟩:=sh x hx;⟨b,e,h⟩
  have hg:DL.Good (sps ps):=λq hq=>by
   rw[eps] at hq
   obtain⟨c,hc,rfl⟩:=t6.mp hq
   obtain⟨x,hx,rfl⟩:=t6.mp hc
   obtain⟨b,e,ex,hbe⟩:=sh x hx
   rw[ex]
   exact hbe
  have hlen:ps.length<=rs.length:=by
   have h1:=vi List.length eps
   rw[Ek,sf,er,sf] at h1
   have:=v9 (λx:List Key×Addr=>inW s0 e0 x.1) rs
   lia
  exact⟨D,ps,rfl,hps,hg,by lia,λD2 H3 ls s3 hD20 hD2 hLd tk few=>k D2 H3 ls (s2.trans s3) (s2.free hD20) hD2 hLd (λm=>by rw[tk m,eps,er',gh hL]) (by lia)⟩
theorem Ki:A3 ["_law_state","_law_way"] ["_law_state"] (Ai En):=⟨rfl,rfl,rfl,by decide+kernel,rfl,by decide+kernel,by decide+kernel⟩
theorem Kd (T:Txt K mg a):FnOk P w K mg base CX0 true 2 a.Gr a.Gn ["_law_state"] (Pu):=by
 refine T.Ir.ok Ki (λvs H Q E h=>?_) (λcdv A outer s H vs Q E hr h=>?_)
 · obtain⟨L,s,rfl,_⟩:=h;rfl
 ·
  obtain⟨L,s0,rfl,hL,hs,k⟩:=h
  refine⟨_,(Af (Au (i:=1) Ki.nd rfl (Or.inl rfl) (As ((A1 T).mono (by decide)) hr rfl T.Bc T.A8.kp T.Be .nil Bm (Aa (pv 0) (Aa Ae Ac))))
   (Af (C3 (Aw Kn (Av Bz (pv 1) Ae) Ae (A4 _)) (Aj (A5 (Av Lw (Av Bz (As ((A1 T).mono (by decide)) hr rfl T.Bc T.A8.kp T.Be .nil Bm (Aa (pv 0) (Aa Ae Ac))) (Av Sh Ae (Av e9 Ae Ae))) (Av e9 Ae Ae)))) Ba)
   (Aj (A5 (Av Lw (Av Bz (As ((A1 T).mono (by decide)) hr rfl T.Bc T.A8.kp T.Be .nil Bm (Aa (pv 0) (Aa Ae Ac))) Ae) Ae))))),?_⟩
  refine⟨_,rfl,L,s0,_,rfl,hL,hs,λs1 v h1 v0=>?_⟩
  refine⟨_,rfl,_,_,rfl,rfl,(by show(0:Int)<5;decide),rfl,_,rfl,?_⟩
  refine He (λ_=>?_) (λ_=>?_)
  ·
   refine⟨_,rfl,L,s1,_,rfl,Ab,h1,λs2 v2 h2 w0=>?_⟩
   refine⟨_,_,rfl,rfl,⟨by decide,by decide,by decide⟩,_,_,rfl,rfl,.inl ⟨by decide,by decide⟩,_,_,rfl,rfl,(by show(0:Int)<2*10 ^ 12;decide),_,_,rfl,rfl,⟨by decide,by decide,by decide⟩,_,_,rfl,rfl,?_⟩
   have:=k s2 (v2%(2*10 ^ 12)-10 ^ 12) h2
   rw[Dw]
   exact this
  ·
   refine⟨_,rfl,L,s1,_,rfl,Ab,h1,λs2 v2 h2 w0=>?_⟩
   refine⟨_,_,rfl,rfl,(by show(0:Int)<6000;decide),_,_,rfl,rfl,?_⟩
   have:=k s2 (v2%6000-3000) h2
   rw[Dw]
   exact this
theorem Lk:A3 ["row","span","found","begin","end","last"] ["row"] (Ai Ob):=⟨rfl,rfl,rfl,by decide+kernel,rfl,by decide+kernel,by decide+kernel⟩
theorem Ur (
      T:Txt K mg a):FnOk P w K mg base CX0 true 3 a.V1 a.Uy ["row"] (aa):=by
 refine T.Vn.ok Lk (λvs H Q E h=>?_) (λcdv A outer s H vs Q E hr h=>?_)
 · obtain⟨l,rs,rfl,_⟩:=h;rfl
 ·
  obtain⟨l,rs,rfl,hl,hg,h64,k⟩:=h
  refine⟨_,(Af (Js wj rfl (Et (K:=K) rfl (pv 0)) (Ca (i:=1) Lk.nd rfl (Or.inl rfl)) (Aj (Dx (As ((Kk T).mono (by decide)) hr rfl T.Ly T.Io.kp T.Ls .nil i5 (Aa (A7 (A0 (K:=K) rfl) (pv 1) Ae (λ_ _=>rfl)) (Aa (A7 (A0 (K:=K) rfl) (pv 1) Ae (λ_ _=>rfl)) Ac))))))
   (Af (Au (i:=2) Lk.nd rfl (Or.inl rfl) (Ef Ac))
   (Af (Js wj rfl (Et (K:=K) rfl (An L8 rfl T.E2 (by decide+kernel) (Aa (pv 0) Ac))) (Zx rfl (Jn (Ca (i:=3) Lk.nd rfl (Or.inl rfl)) (Jn (Ca (i:=4) Lk.nd rfl (Or.inl rfl)) Tt))) (Aj (C3 (PW.pt (Of (c7 (pv 2) (λ_=>rfl)) (Lm (Aw ji (pv 3) (A7 (A0 (K:=K) rfl) (A7 (Bb (K:=K) rfl) (pv 2) (Wu Oe Ae) (λ_ _=>rfl)) Ae (λ_ _=>rfl)) (A4 _))))) (Af (Au (i:=5) Lk.nd rfl (Or.inl rfl) (j9 vm PySem.F.slot_list_pop PySem.F.type_list_pop kh (pv 2)))
   (Aj (Dx (Sf vm vp vo D8 (pv 2) (Aa (E3 (Aa (A7 (A0 (K:=K) rfl) (pv 5) Ae (λ_ _=>rfl)) (Aa (An (Jd rfl) rfl T.P2 (by decide+kernel) (Aa (A7 (A0 (K:=K) rfl) (pv 5) Ae (λ_ _=>rfl)) (Aa (pv 4) Ac))) Ac))) Ac))))) (Aj (Dx (Sf vm vp vo D8 (pv 2) (Aa (E3 (Aa (pv 3) (Aa (pv 4) Ac))) Ac)))))))
   (Aj (A5 (pv 2)))))),?_⟩
  refine⟨_,rfl,l,rfl,⟨_,SqL.of hl.1⟩,?_⟩
  refine Iw (Eg (SqL.of hl.1)) (λi σ H'=>H'=H/\∃x,σ=[some (.ref l),x,none,none,none,none]) ⟨rfl,none,rfl⟩ (λ_ _ _ _ h=>h.1▸Same.refl _) ?_ ?_
  ·
   rintro i x σ H1 hx ⟨rfl,x1,rfl⟩
   obtain⟨y,hy,hm,rfl⟩:=Pd hx
   have hp:=hl.2 y hm
   exact⟨_,rfl,y.1,_,_,_,rfl,rfl,SqT.of hp,rfl,_,rfl,y.1,_,_,_,rfl,rfl,SqT.of hp,rfl,_,_,rfl,λ_=>⟨rfl,_,rfl⟩,λz=>absurd (hg _ (Us hm)) z⟩
  rintro σ H1 ⟨rfl,x1,rfl⟩
  refine⟨by decide,λF hF=>?_⟩
  refine⟨_,rfl,l,rs,rfl,Ah hF _ _ hl.1,hl.2.up (Ah hF),h64,λD qs hD hp hs=>⟨D,rfl,⟨_,SqL.of Ab⟩,?_⟩⟩
  have hDF:D≠F:=λe=>by rw[e,Ab] at hD;cases hD
  have hD0:H1 D=none:=by rw[Ad hDF] at hD;exact hD
  have hok:RowOk H1 qs:=λx hx=>hl.2 x (hp.mem_iff.mp hx)
  have hgq:DL.Good (sps qs):=λp hpq=>hg p ((hp.map (·.2)).mem_iff.mp hpq)
  refine Iw (H0:=upd H1 D (.lst (refs qs))) (Eg (SqL.of Ab)) (λi σ H'=>Same (upd H1 D (.lst (refs qs))) H'/\∃fs,RowAt H' F fs/\DL.Part (sps fs) (sps (qs.take i))/\∃x y z u,σ=[some (.ref l),x,some (.ref F),y,z,u]) ?_ (λ_ _ _ _ h=>h.1) ?_ ?_
  ·
   refine⟨d7 hF,[],⟨?_,RowOk.nil⟩,DL.Part.nil,_,_,_,_,rfl⟩
   rw[Ad (λe=>hDF e.symm)]
   exact Ab
  ·
   rintro i x σ H2 hx ⟨s2,fs,hfs,part,x1,x2,x3,x4,rfl⟩
   obtain⟨y,hy,hm,rfl⟩:=Pd hx
   have hyp:H2 y.1=some (.tup [.int y.2.1,.int y.2.2]):=s2 _ _ ((Ah hD0) _ _ (hok y hm))
   have hbe:y.2.1<y.2.2:=hgq _ (Us hm)
   have hFn:∀(b:Addr)(o:HO),upd H1 D (.lst (refs qs)) b=some o->b≠F:=λb o e z=>by
    rw[z,Ad (λe=>hDF e.symm),hF] at e
    cases e
   have few:fs.length<=63:=by
    have h1:=part.few
    rw[Ek,Ek,ux,hp.length_eq] at h1
    lia
   refine⟨y.1,_,rfl,SqT.of hyp,rfl,_,_,rfl,_,_,rfl,rfl,?_⟩
   refine⟨_,rfl,_,.inl ⟨_,SqL.of hfs.1,rfl⟩,?_⟩
   have add:∀(b:Addr),(∀o z,sps fs=o++[z]->z.2<y.2.1)->H2 b=none->(∃fs',RowAt (upd (upd H2 b (.tup [.int y.2.1,.int y.2.2])) F (.lst (refs fs++[.ref b]))) F fs'/\DL.Part (sps fs') (sps (qs.take (i+1))))/\Same (upd H1 D (.lst (refs qs))) (upd (upd H2 b (.tup [.int y.2.1,.int y.2.2])) F (.lst (refs fs++[.ref b]))):=by
    intro b hlast hb
    have hbF:b≠F:=λe=>by rw[e,hfs.1] at hb;cases hb
    have hF2:upd H2 b (.tup [.int y.2.1,.int y.2.2]) F=some (.lst (refs fs)):=by rw[Ad (λe=>hbF e.symm)];exact hfs.1
    refine⟨⟨fs++[(b,y.2.1,y.2.2)],⟨by rw[Ab,Kg _ _ y.2.1 y.2.2],RowOk.app (((hfs.2).up (Ah hb)).upd hF2) (by rw[Ad hbF];exact Ab)⟩,?_⟩,λc o e=>?_⟩
    ·
     rw[Aa6 hy,Fc,show sps (qs.take i++[y])=sps (qs.take i)++[(y.2.1,y.2.2)] from Fc _ y.1 _ _]
     exact part.add (λo x z e=>hlast o (x,z) e) hbe
    ·
     rw[Ad (hFn c o e)]
     exact Ah hb _ _ (s2 _ _ e)
   refine He (λhne=>?_) (λhne=>?_)
   ·
    obtain⟨o,z,rfl⟩:=Ys hne
    have hz:=hfs.2 z (t4 _ (tj.mpr rfl))
    refine⟨_,rfl,_,rfl,_,rfl,F,_,_,_,rfl,rfl,SqL.of hfs.1,F2 o z,z.1,_,_,_,rfl,rfl,SqT.of hz,rfl,_,_,rfl,rfl,_,rfl,?_⟩
    refine He (λhle=>?_) (λhle=>?_)
    ·
     have hle':=tw hle
     refine⟨_,rfl,.inl ⟨rfl,_,SqL.of hfs.1⟩,F,_,_,rfl,rfl,hfs.1,Z0 o z,?_⟩
     rw[Qf]
     have ok3:RowOk (upd H2 F (.lst (refs o))) (o++[z]):=hfs.2.upd hfs.1
     have hz3:=ok3 z (t4 _ (tj.mpr rfl))
     refine⟨_,rfl,.inl ⟨rfl,_,SqL.of Ab⟩,_,rfl,z.1,_,_,_,rfl,rfl,SqT.of hz3,rfl,_,rfl,z.1,_,_,_,rfl,rfl,SqT.of hz3,rfl,_,rfl,_,_,rfl,(by show 2<=sizeLine;decide),λb hb=>?_⟩
     have hbF:b≠F:=λe=>by rw[e,Ab] at hb;cases hb
     have few2:(refs o).length<sizeLine:=by
      rw[Gq]
      rw[ue] at few
      exact ve (by lia:o.length<=63) (by decide)
     refine⟨F,_,_,rfl,rfl,by rw[Ad (λe=>hbF e.symm)];exact Ab,few2,?_⟩
     refine⟨λc p e=>?_,o++[(b,z.2.1,if y.2.2>z.2.2 then y.2.2 else z.2.2)],⟨by rw[Ab,Kg _ _ z.2.1 (if y.2.2>z.2.2 then y.2.2 else z.2.2)],?_⟩,?_,_,_,_,_,rfl⟩
     ·
      rw[Ad (hFn c p e)]
      refine Ah hb _ _ ?_
      rw[Ad (hFn c p e)]
      exact s2 _ _ e
     ·
      refine RowOk.app ?_ (by rw[Ad hbF];exact Ab)
      exact((ok3.init).up (Ah hb)).upd (l:=F) (xs:=refs o) (by rw[Ad (λe=>hbF e.symm)];exact Ab)
     ·
      rw[Aa6 hy,Fc,show sps (qs.take i++[y])=sps (qs.take i)++[(y.2.1,y.2.2)] from Fc _ y.1 _ _]
      rw[show sps (o++[z])=sps o++[(z.2.1,z.2.2)] from Fc _ z.1 _ _] at part
      exact part.join (U8 hs hy) hle' rfl hbe
    ·
     have hle':¬y.2.1<=z.2.2:=λq=>hle (so q)
     refine⟨_,rfl,.inl ⟨rfl,_,SqL.of hfs.1⟩,_,rfl,_,rfl,(by show 2<=sizeLine;decide),λb hb=>?_⟩
     obtain⟨⟨fs',q1,q2⟩,q3⟩:=add b (λo' z' e=>by
      rw[show sps (o++[z])=sps o++[(z.2.1,z.2.2)] from Fc _ z.1 _ _] at e
      have:=(List.append_inj' e rfl).2
      injection this with this
      rw[←this]
      show z.2.2<y.2.1
      lia) hb
     have hbF:b≠F:=λe=>by rw[e,hfs.1] at hb;cases hb
     exact⟨F,_,_,rfl,rfl,by rw[Ad (λe=>hbF e.symm)];exact hfs.1,mj few (by decide),q3,fs',q1,q2,_,_,_,_,rfl⟩
   ·
    have e0:=nil_of hne
    refine Jw ?_
    refine⟨_,rfl,.inl ⟨rfl,_,SqL.of hfs.1⟩,_,rfl,_,rfl,(by show 2<=sizeLine;decide),λb hb=>?_⟩
    obtain⟨⟨fs',q1,q2⟩,q3⟩:=add b (λo' z' e=>by
     rw[e0] at e
     exact absurd e.symm (by simp[sps])) hb
    have hbF:b≠F:=λe=>by rw[e,hfs.1] at hb;cases hb
    exact⟨F,_,_,rfl,rfl,by rw[Ad (λe=>hbF e.symm)];exact hfs.1,mj few (by decide),q3,fs',q1,q2,_,_,_,_,rfl⟩
  ·
   rintro σ H2 ⟨s2,fs,hfs,part,x1,x2,x3,x4,rfl⟩
   rw[Gq,yl] at part
   refine⟨_,rfl,?_⟩
   have sm:Same H1 H2:=(Ah hD0).trans s2
   refine k F H2 fs sm hF hfs part.laid (λm=>(part.same m).trans (DL.az (Vf hp))) ?_
   have:=part.few
   rw[Ek,Ek,hp.length_eq] at this
   exact this
theorem N4:A3 ["self","begin","end"] ["self","begin","end"] (Ai Dk):=⟨rfl,rfl,rfl,by decide+kernel,rfl,by decide+kernel,by decide+kernel⟩
theorem N7 (T:Txt K mg a):FnOk P w K mg base (CXe P w) true 3 a.F1 a.F4 ["self","begin","end"] (Sq a.Ar a.Ak):=by
 refine T.P9.okE N4 (λvs H Q E h=>?_) (λcdv A outer s H vs Q E hr h=>?_)
 · obtain⟨x,dx,b,e,rfl,_⟩:=h;rfl
 ·
  obtain⟨x,dx,b,e,rfl,hx,k1,k2⟩:=h
  refine⟨_,(Af (Dx (As ((Kk T).mono (by decide)) hr rfl T.Ly T.Io.kp T.Ls .nil La (Aa (pv 1) (Aa (pv 2) Ac))))
   (Af (Tc (K:=K) rfl (pv 0) (pv 1))
   (Aj (Tc (K:=K) rfl (pv 0) (pv 2))))),?_⟩
  refine⟨_,rfl,_,rfl,b,e,rfl,λhb=>?_,λhb=>k2 hb⟩
  refine⟨_,rfl,_,rfl,x,_,dx,_,rfl,hx,T.Nt,T.Lv,by decide,?_⟩
  refine⟨_,rfl,_,rfl,x,_,dx,_,rfl,Ab,T.Nt,T.Oq,(by show 1<1000;decide),?_⟩
  exact cast (vi (Q V.non) (Dw.symm)) (k1 hb)
theorem Ll:A3 ["self","name"] ["self","name"] (Ai B1):=⟨rfl,rfl,rfl,by decide+kernel,rfl,by decide+kernel,by decide+kernel⟩
theorem Ln (T:Txt K mg a):FnOk P w K mg base (CXe P w) true 3 a.Eh a.Ei ["self","name"] (Hi a.Ao a.Ar a.Aq a.Ag a.Al):=by
 refine T.Mh.okE Ll (λvs H Q E h=>?_) (λcdv A outer s H vs Q E hr h=>?_)
 · obtain⟨b,d,xs,nm,rfl,_⟩:=h;rfl
 ·
  obtain⟨b,d,xs,nm,rfl,hB,hl,k0,k1,k2,k3⟩:=h
  refine⟨_,(Af (C3 (Aw Zz (An Q6 rfl T.K9 (by decide+kernel) (Aa (G1 (K:=K) rfl (pv 0)) Ac)) (Uw rfl T.Ex) (A4 _)) (Aj (Kf G5 rfl rfl T.Nj T.Aq (Aa C1 Ac))) Ba)
   (Af (C3 (L6 (I0 (As ((W2 T).mono (by decide)) hr rfl T.X1 T.R5.kp T.Xr .nil Bm (Aa (pv 1) Ac)))) (Aj (Kf G5 rfl rfl T.Gh T.Ag (Aa C1 Ac))) Ba)
   (Aj (C3 (Ve (Zd (Ny hr) (pv 1) (G1 (K:=K) rfl (pv 0))) (by with_unfolding_all rfl)) (Aj (Kf G5 rfl rfl T.J0 T.Al (Aa C1 Ac))) Ba)))),?_⟩
  obtain⟨db,hb⟩:=hB.ins
  refine⟨_,rfl,b,_,db,_,_,rfl,hb,T.Cm,T.Bj,rfl,d,_,rfl,hB.at_,_,_,rfl,rfl,_,rfl,?_⟩
  have el:(kvT xs).length=xs.length:=by unfold kvT;rw[sf]
  refine He (λz=>?_) (λz=>?_)
  ·
   have hz:40<=xs.length:=by have:=tw z;rw[el] at this;lia
   exact⟨(by show 1<=sizeLine;decide),k1 (by unfold Hj;rw[if_pos hz])⟩
  have hz:¬40<=xs.length:=λw=>z (so (by rw[el];lia))
  refine⟨_,rfl,nm,rfl,hl,λH1 s1=>⟨_,rfl,?_⟩⟩
  by_cases hn:Gi nm.cps.toList=true
  case neg=>
   have hn':=yd.mpr hn
   rw[hn']
   exact P8 ⟨(by show 1<=sizeLine;decide),k2 (by unfold Hj;rw[if_neg hz,if_pos hn']) H1 s1⟩
  rw[hn]
  refine Jw ?_
  have hB1:=hB.up s1
  refine⟨_,rfl,_,rfl,b,_,db,_,_,rfl,s1 _ _ hb,T.Cm,T.Bj,rfl,d,_,rfl,DGet.k (k:=Sum.inr nm) hB1.at_,_,rfl,?_⟩
  rw[Qx]
  by_cases hm:nm∈xs.map thN
  ·
   rw[so hm]
   exact P8 ⟨(by show 1<=sizeLine;decide),k3 (by unfold Hj;rw[if_neg hz,if_neg (by rw[hn];decide),if_pos hm]) H1 s1⟩
  ·
   rw[ua hm]
   exact Jw (k0 (by unfold Hj;rw[if_neg hz,if_neg (by rw[hn];decide),if_neg hm]) H1 s1)
theorem Dm:A3 ["_law_state","_law_plain","_law_begin","_law_far","_law_way","_law_names_here","_law_one"] ["_law_state","_law_plain"] (Ai El):=⟨rfl,rfl,rfl,by decide+kernel,rfl,by decide+kernel,by decide+kernel⟩
theorem Po (T:Txt K mg a):FnOk P w K mg base CX0 true 3 a.Gv a.Gs ["_law_state","_law_plain"] (Pj):=by
 refine T.Lu.ok Dm (λvs H Q E h=>?_) (λcdv A outer s H vs Q E hr h=>?_)
 · obtain⟨L,p,s,ys,rfl,_⟩:=h;rfl
 ·
  obtain⟨L,p,s0,ys,rfl,hL,hs,hP,k⟩:=h
  refine⟨_,(Af (Au (i:=2) Dm.nd rfl (Or.inl rfl) (As ((Kd T).mono (by decide)) hr rfl T.L5 T.Ir.kp T.Lr .nil Bm (Aa (pv 0) Ac)))
   (Af (Au (i:=3) Dm.nd rfl (Or.inl rfl) (Av Lw (Av Bz (As ((A1 T).mono (by decide)) hr rfl T.Bc T.A8.kp T.Be .nil Bm (Aa (pv 0) (Aa Ae Ac))) Ae) Ae))
   (Af (Au (i:=4) Dm.nd rfl (Or.inl rfl) (Av Bz (As ((A1 T).mono (by decide)) hr rfl T.Bc T.A8.kp T.Be .nil Bm (Aa (pv 0) (Aa Ae Ac))) Ae))
   (Af (C3 (PW.pt (Yv (Aw Kn (pv 4) Ae (A4 _)) (Qv (Aw (gp (hu2 hr)) (pv 1) Qe (A4 _))))) (Aj (A5 (E3 (Aa (pv 2) (Aa (Av B0 (pv 2) (pv 3)) Ac))))) Ba)
   (Af (Au (i:=5) Dm.nd rfl (Or.inl rfl) (An Ke rfl T.E2 (by decide+kernel) (Aa (Bh (Nr rfl) rfl T.Nf (by decide+kernel) (Aa (pv 1) Ac)) Ac)))
   (Af (Au (i:=6) Dm.nd rfl (Or.inl rfl) (O6 (Ny hr) (pv 1) (A7 (Bb (K:=K) rfl) (pv 5) (Av Bz (As ((A1 T).mono (by decide)) hr rfl T.Bc T.A8.kp T.Be .nil Bm (Aa (pv 0) (Aa Ae Ac))) (An (E9 (K:=K) rfl) rfl T.K9 (by decide+kernel) (Aa (pv 5) Ac))) (λ_ _=>rfl)) (λ_ _=>rfl)))
   (Af (C3 (Aw Kn (pv 4) Ae (A4 _)) (Aj (A5 (E3 (Aa (Av Lw (A7 (A0 (K:=K) rfl) (pv 6) Ae (λ_ _=>rfl)) (Av Bz (pv 3) Ae)) (Aa (Av B0 (Av B0 (A7 (A0 (K:=K) rfl) (pv 6) Ae (λ_ _=>rfl)) Ae) (An Mj rfl T.Qz (by decide+kernel) (Aa (pv 3) Ac))) Ac))))) Ba)
   (Af (C3 (Aw Kn (pv 4) Ae (A4 _)) (Aj (A5 (E3 (Aa (Av Lw (Av Lw (A7 (A0 (K:=K) rfl) (pv 6) Ae (λ_ _=>rfl)) Ae) (An Mj rfl T.Qz (by decide+kernel) (Aa (pv 3) Ac))) (Aa (Av B0 (A7 (A0 (K:=K) rfl) (pv 6) Ae (λ_ _=>rfl)) (Av Bz (pv 3) Ae)) Ac))))) Ba)
   (Aj (A5 (E3 (Aa (Av Lw (A7 (A0 (K:=K) rfl) (pv 6) Ae (λ_ _=>rfl)) (An Mj rfl T.Qz (by decide+kernel) (Aa (pv 3) Ac))) (Aa (Av B0 (A7 (A0 (K:=K) rfl) (pv 6) Ae (λ_ _=>rfl)) (An Mj rfl T.Qz (by decide+kernel) (Aa (pv 3) Ac))) Ac))))))))))))),?_⟩
  refine⟨_,rfl,L,s0,rfl,hL,hs,λs1 v1 h1=>?_⟩
  have hP1:=hP.updL (o:=.lst [.int s1]) hL
  refine⟨_,rfl,L,s1,_,rfl,Ab,h1,λs2 v2 h2 w2=>⟨_,_,rfl,rfl,(by show(0:Int)<4000;decide),_,_,rfl,rfl,?_⟩⟩
  have hP2:=hP1.updL (o:=.lst [.int s2]) Ab
  refine⟨_,rfl,L,s2,_,rfl,Ab,h2,λs3 v3 h3 w3=>⟨_,_,rfl,rfl,(by show(0:Int)<4;decide),?_⟩⟩
  have hP3:=hP2.updL (o:=.lst [.int s3]) Ab
  rw[Dw,Dw] at hP3 ⊢
  have hL3:(upd H L (.lst [.int s3])) L=some (.lst [.int s3]):=Ab
  have sx3:SameX L H (upd H L (.lst [.int s3])):=Fw
  generalize upd H L (.lst [.int s3])=H3 at hP3 hL3 sx3 ⊢
  have fin:∀{s':Int}{H':Hp},Rg s'->SameX L H H'->H' L=some (.lst [.int s'])->∀(b e:Int)(q:Addr),H' q=none->Q (.ref q) (upd H' q (.tup [.int b,.int e])):=λ{s' H'}h' sx hl b e q hq=>k q s' b e _ h' (sx.tr (SameX.of (Ah hq))) (Ah hq _ _ hl) Ab
  refine⟨_,rfl,rfl,_,rfl,?_⟩
  refine He (λ_=>?_) (λ_=>?_)
  · exact⟨_,rfl,_,rfl,_,rfl,_,_,rfl,rfl,(by show 2<=sizeLine;decide),λq hq=>fin h3 sx3 hL3 _ _ q hq⟩
  refine⟨_,rfl,λd hd=>⟨p,d,kvT ys,rfl,rfl,Ah hd _ _ hP3.at_,Ab,_,rfl,?_⟩⟩
  have u1:=Ah (o:=.dK []) hd
  replace hP3:=hP3.up u1
  replace hL3:=u1 _ _ hL3
  replace sx3:=sx3.tr (SameX.of u1)
  generalize upd H3 d (.dK [])=H4 at hP3 hL3 sx3 ⊢
  refine He (λ_=>?_) (λz=>?_)
  · exact⟨_,rfl,_,rfl,_,rfl,_,_,rfl,rfl,(by show 2<=sizeLine;decide),λq hq=>fin h3 sx3 hL3 _ _ q hq⟩
  have hne:ys.length≠0:=λw=>z (so (by rw[Qq];exact w))
  refine⟨_,rfl,p,kvT ys,ys.map thN,rfl,hP3.at_,T8 ys,λD hD=>⟨D,ys.map thN,rfl,Ab,(by rw[sf];have:=hP.few;lia),λD2 ms hD2 hp hs=>?_⟩⟩
  have u2:=(Ah (o:=.lst ((ys.map thN).map V.str)) hD).trans (Ah (o:=.lst (ms.map V.str)) hD2)
  have hD2m:(upd (upd H4 D (.lst ((ys.map thN).map V.str))) D2 (.lst (ms.map V.str))) D2=some (.lst (ms.map V.str)):=Ab
  replace hP3:=hP3.up u2
  replace hL3:=u2 _ _ hL3
  replace sx3:=sx3.tr (SameX.of u2)
  generalize upd (upd H4 D (.lst ((ys.map thN).map V.str))) D2 (.lst (ms.map V.str))=H5 at hP3 hL3 sx3 hD2m ⊢
  have hml:ms.length=ys.length:=by rw[hp.length_eq,sf]
  refine⟨_,rfl,_,rfl,_,rfl,L,s3,_,rfl,hL3,h3,λs4 v4 h4 w4=>?_⟩
  have hP4:=hP3.updL (o:=.lst [.int s4]) hL3
  have hD4:(upd H5 L (.lst [.int s4])) D2=some (.lst (ms.map V.str))∨D2=L:=by
   by_cases e:D2=L
   · exact .inr e
   · exact .inl (by rw[Ad e];exact hD2m)
  have hD4:(upd H5 L (.lst [.int s4])) D2=some (.lst (ms.map V.str)):=by
   rcases hD4 with e|e
   · exact e
   ·
    exfalso
    rw[e,hL3] at hD2m
    have:=sy hD2m
    injection this with this
    cases ms with
    | nil=>cases this
    | cons m ms=>injection this with this _;cases this
  have hL4:(upd H5 L (.lst [.int s4])) L=some (.lst [.int s4]):=Ab
  have sx4:SameX L H (upd H5 L (.lst [.int s4])):=sx3.tr Fw
  generalize upd H5 L (.lst [.int s4])=H6 at hP4 hD4 hL4 sx4 ⊢
  refine⟨_,rfl,D2,_,rfl,.inl (SqL.of hD4),_,_,rfl,rfl,(by rw[sf];lia),?_⟩
  rw[sf]
  have i0:0<=v4%(ms.length:Int):=vf _ (by lia)
  have i1:v4%(ms.length:Int)<ms.length:=u0 _ (by lia)
  obtain⟨nm,hnm,ea⟩:=Pm (ts:=ms) i0 i1
  refine⟨D2,_,_,_,rfl,rfl,SqL.of hD4,ea,?_⟩
  obtain⟨x,hx,rfl⟩:=t6.mp (hp.mem_iff.mp hnm)
  refine⟨p,_,rfl,by have:=DGet.k (k:=Sum.inr (thN x)) hP4.at_;rw[Sg hP4.nd hx] at this;exact this,?_⟩
  have ht:=hP4.ok x hx
  refine⟨_,rfl,rfl,_,rfl,?_⟩
  refine He (λ_=>?_) (λ_=>?_)
  · exact⟨_,rfl,x.2.1,_,_,_,rfl,rfl,SqT.of ht,rfl,_,rfl,_,_,rfl,rfl,(by show(0:Int)<2;decide),_,_,rfl,rfl,_,rfl,x.2.1,_,_,_,rfl,rfl,SqT.of ht,rfl,_,_,rfl,rfl,_,rfl,_,rfl,_,_,rfl,rfl,(by show 2<=sizeLine;decide),λq hq=>fin h4 sx4 hL4 _ _ q hq⟩
  refine⟨_,rfl,rfl,_,rfl,?_⟩
  refine He (λ_=>?_) (λ_=>?_)
  · exact⟨_,rfl,x.2.1,_,_,_,rfl,rfl,SqT.of ht,rfl,_,_,rfl,rfl,_,rfl,_,rfl,_,_,rfl,rfl,_,rfl,x.2.1,_,_,_,rfl,rfl,SqT.of ht,rfl,_,rfl,_,_,rfl,rfl,(by show(0:Int)<2;decide),_,_,rfl,rfl,(by show 2<=sizeLine;decide),λq hq=>fin h4 sx4 hL4 _ _ q hq⟩
  · exact⟨_,rfl,x.2.1,_,_,_,rfl,rfl,SqT.of ht,rfl,_,rfl,_,rfl,_,_,rfl,rfl,_,rfl,x.2.1,_,_,_,rfl,rfl,SqT.of ht,rfl,_,rfl,_,rfl,_,_,rfl,rfl,(by show 2<=sizeLine;decide),λq hq=>fin h4 sx4 hL4 _ _ q hq⟩
theorem Gz:A3 ["one","other","found","left","right","place","goal","begin","end"] ["one","other"] (Ai Oz):=⟨rfl,rfl,rfl,by decide+kernel,rfl,by decide+kernel,by decide+kernel⟩
theorem ib (
      T:Txt K mg a):FnOk P w K mg base CX0 true 4 a.f_both a.Vd ["one","other"] (iq):=by
 refine T.fi.ok Gz (λvs H Q E h=>?_) (λcdv A outer s H vs Q E hr h=>?_)
 · obtain⟨l,m,rs,ps,rfl,_⟩:=h;rfl
 ·
  obtain⟨l,m,rs,ps,rfl,hl,hm,hg,hg2,h64,h642,k⟩:=h
  refine⟨_,(Af (Au (i:=2) Gz.nd rfl (Or.inl rfl) (Ef Ac))
   (Af (Au (i:=3) Gz.nd rfl (Or.inl rfl) (As ((Ur T).mono (by decide)) hr rfl T.aj T.Vn.kp T.Y2 .nil Bm (Aa (pv 0) Ac)))
   (Af (Au (i:=4) Gz.nd rfl (Or.inl rfl) (As ((Ur T).mono (by decide)) hr rfl T.aj T.Vn.kp T.Y2 .nil Bm (Aa (pv 1) Ac)))
   (Af (Au (i:=5) Gz.nd rfl (Or.inl rfl) Ae)
   (Af (Au (i:=6) Gz.nd rfl (Or.inl rfl) Ae)
   (Af (b8 wj (PW.pt (Of (Aw N1 (pv 5) (An (E9 (K:=K) rfl) rfl T.K9 (by decide+kernel) (Aa (pv 3) Ac)) (A4 _)) (Lm (Aw N1 (pv 6) (An (E9 (K:=K) rfl) rfl T.K9 (by decide+kernel) (Aa (pv 4) Ac)) (A4 _))))) (Af (Au (i:=7) Gz.nd rfl (Or.inl rfl) (An (Jd rfl) rfl T.P2 (by decide+kernel) (Aa (A7 (A0 (K:=K) rfl) (A7 (Bb (K:=K) rfl) (pv 3) (pv 5) (λ_ _=>rfl)) Ae (λ_ _=>rfl)) (Aa (A7 (A0 (K:=K) rfl) (A7 (Bb (K:=K) rfl) (pv 4) (pv 6) (λ_ _=>rfl)) Ae (λ_ _=>rfl)) Ac))))
   (Af (Au (i:=8) Gz.nd rfl (Or.inl rfl) (An (M9 rfl) rfl T.Td (by decide+kernel) (Aa (A7 (A0 (K:=K) rfl) (A7 (Bb (K:=K) rfl) (pv 3) (pv 5) (λ_ _=>rfl)) Ae (λ_ _=>rfl)) (Aa (A7 (A0 (K:=K) rfl) (A7 (Bb (K:=K) rfl) (pv 4) (pv 6) (λ_ _=>rfl)) Ae (λ_ _=>rfl)) Ac))))
   (Af (C3 (Aw N1 (pv 7) (pv 8) (A4 _)) (Aj (Dx (Sf vm vp vo D8 (pv 2) (Aa (E3 (Aa (pv 7) (Aa (pv 8) Ac))) Ac)))) Ba)
   (Aj (C3 (Aw N1 (A7 (A0 (K:=K) rfl) (A7 (Bb (K:=K) rfl) (pv 3) (pv 5) (λ_ _=>rfl)) Ae (λ_ _=>rfl)) (A7 (A0 (K:=K) rfl) (A7 (Bb (K:=K) rfl) (pv 4) (pv 6) (λ_ _=>rfl)) Ae (λ_ _=>rfl)) (A4 _)) (Aj (ee (i:=5) Gz.nd rfl (Or.inl rfl) Ae dz)) (Aj (ee (i:=6) Gz.nd rfl (Or.inl rfl) Ae dz))))))))
   (Aj (A5 (pv 2))))))))),?_⟩
  refine⟨by decide,λF hF=>?_⟩
  have s0:=Ah (o:=.lst []) hF
  refine⟨_,rfl,l,rs,rfl,hl.up s0,hg,h64,λL1 H1 ls s1 hL0 hL1 hLl tkL fewL=>?_⟩
  refine⟨_,rfl,m,ps,rfl,(hm.up s0).up s1,hg2,h642,λR1 H2 gs s2 hR0 hR1 hRl tkR fewR=>?_⟩
  have hF2:RowAt H2 F []:=⟨s2 _ _ (s1 _ _ Ab),RowOk.nil⟩
  have hL2:=hL1.up s2
  have sm:Same H H2:=(s0.trans s1).trans s2
  have hLF:L1≠F:=λe=>by rw[e,Ab] at hL0;cases hL0
  have hRF:R1≠F:=λe=>by rw[e,s1 _ _ Ab] at hR0;cases hR0
  refine⟨λm' σ H'=>∃(p gl:Nat),m'=(ls.length-p)+(gs.length-gl)/\SameX F H2 H'/\∃fs,RowAt H' F fs/\DL.Bo (sps ls) (sps gs) (sps fs) p gl/\p<=ls.length/\gl<=gs.length/\∃x y,σ=[some (.ref l),some (.ref m),some (.ref F),some (.ref L1),some (.ref R1),some (.int (p:Int)),some (.int (gl:Int)),x,y],⟨_,0,0,rfl,SameX.refl _ _,[],hF2,DL.Bo.nil _ _,u5 _,u5 _,_,_,rfl⟩,?_⟩
  rintro m' σ H3 ⟨p,gl,rfl,sx,fs,hfs,bo,hp,hgl0,x1,x2,rfl⟩
  have hL:=hL2.upX hLF hF2.1 sx
  have hR:=hR1.upX hRF hF2.1 sx
  have few:fs.length<=200:=by
   have:=bo.few
   rw[Ek] at this
   lia
  have fin:(ls.length<=p∨gs.length<=gl)->∀m,DL.Tk (sps fs) m↔DL.Tk (sps rs) m/\DL.Tk (sps ps) m:=λe m=>by
   rw[bo.fin (by rw[Ek,Ek];exact e) m,tkL m,tkR m]
  have out:(ls.length<=p∨gs.length<=gl)->fs.length<=rs.length+ps.length:=λ_=>by
   have:=bo.few
   rw[Ek] at this
   lia
  refine⟨_,rfl,_,rfl,L1,_,rfl,.inl (SqL.of hL.1),_,_,rfl,rfl,_,rfl,?_⟩
  rw[Gq]
  refine He (λhp1=>?_) (λhp1=>?_)
  ·
   refine⟨_,rfl,_,rfl,R1,_,rfl,.inl (SqL.of hR.1),_,_,rfl,rfl,_,rfl,?_⟩
   rw[Gq]
   refine He (λhg1=>?_) (λhg1=>?_)
   ·
    have hpl:=int_lt hp1
    have hgl:=int_lt hg1
    obtain⟨y,hy⟩:=fg hpl
    obtain⟨z,hz⟩:=fg hgl
    have hyp:=hL.2 y (uz hy)
    have hzp:=hR.2 z (uz hz)
    refine⟨λσ' H'=>∃(p' gl':Nat),((p'=p+1/\gl'=gl)∨(p'=p/\gl'=gl+1))/\SameX F H2 H'/\∃fs,RowAt H' F fs/\DL.Bo (sps ls) (sps gs) (sps fs) p' gl'/\p'<=ls.length/\gl'<=gs.length/\∃x y,σ'=[some (.ref l),some (.ref m),some (.ref F),some (.ref L1),some (.ref R1),some (.int (p':Int)),some (.int (gl':Int)),x,y],?_,?_⟩
    ·
     rintro σ' H' ⟨p',gl',hh,rest⟩
     exact⟨ls.length-p'+(gs.length-gl'),by lia,p',gl',rfl,rest⟩
    refine⟨_,rfl,_,rfl,L1,_,_,_,rfl,rfl,SqL.of hL.1,Dv (Iv hy),y.1,_,_,_,rfl,rfl,SqT.of hyp,rfl,_,rfl,_,rfl,R1,_,_,_,rfl,rfl,SqL.of hR.1,Dv (Iv hz),z.1,_,_,_,rfl,rfl,SqT.of hzp,rfl,_,_,rfl,?_⟩
    refine⟨_,rfl,_,rfl,L1,_,_,_,rfl,rfl,SqL.of hL.1,Dv (Iv hy),y.1,_,_,_,rfl,rfl,SqT.of hyp,rfl,_,rfl,_,rfl,R1,_,_,_,rfl,rfl,SqL.of hR.1,Dv (Iv hz),z.1,_,_,_,rfl,rfl,SqT.of hzp,rfl,_,_,rfl,?_⟩
    refine⟨_,rfl,_,rfl,_,_,rfl,rfl,_,rfl,?_⟩
    refine He (λhbe=>?_) (λhbe=>?_)
    ·
     refine⟨_,rfl,.inl ⟨rfl,_,SqL.of hfs.1⟩,_,rfl,_,rfl,(by show 2<=sizeLine;decide),λt ht=>?_⟩
     refine⟨F,_,_,rfl,rfl,hfs.at2 ht,lu few (by decide),?_⟩
     have mid:=bo.add (Ii hy) (Ii hz) rfl rfl (tw hbe)
     rw[←Fc _ t] at mid
     replace sx:=sx.put (o:=.tup [.int (if z.2.1>y.2.1 then z.2.1 else y.2.1),.int (if z.2.2<y.2.2 then z.2.2 else y.2.2)]) (xs:=refs fs++[.ref t]) ht
     replace hfs:=hfs.put (b:=if z.2.1>y.2.1 then z.2.1 else y.2.1) (e:=if z.2.2<y.2.2 then z.2.2 else y.2.2) ht
     generalize hfs':fs++[(t,(if z.2.1>y.2.1 then z.2.1 else y.2.1),(if z.2.2<y.2.2 then z.2.2 else y.2.2))]=fs2 at hfs mid
     replace hL:=hL2.upX hLF hF2.1 sx
     replace hR:=hR1.upX hRF hF2.1 sx
     replace hyp:=hL.2 y (uz hy)
     replace hzp:=hR.2 z (uz hz)
     refine⟨_,rfl,_,rfl,L1,_,_,_,rfl,rfl,SqL.of hL.1,Dv (Iv hy),y.1,_,_,_,rfl,rfl,SqT.of hyp,rfl,_,rfl,_,rfl,R1,_,_,_,rfl,rfl,SqL.of hR.1,Dv (Iv hz),z.1,_,_,_,rfl,rfl,SqT.of hzp,rfl,_,_,rfl,rfl,_,rfl,?_⟩
     refine He (λhlt=>?_) (λhlt=>?_)
     ·
      refine⟨_,rfl,_,_,rfl,rfl,?_⟩
      exact⟨p+1,gl,.inl ⟨rfl,rfl⟩,sx,fs2,hfs,mid.left hLl hRl (Ii hy) (Ii hz) (tw hlt),hpl,by lia,_,_,rfl⟩
     ·
      refine⟨_,rfl,_,_,rfl,rfl,?_⟩
      exact⟨p,gl+1,.inr ⟨rfl,rfl⟩,sx,fs2,hfs,mid.right hLl hRl (Ii hy) (Ii hz) (λw=>hlt (so w)),by lia,hgl,_,_,rfl⟩
    ·
     have mid:=bo.skip (Ii hy) (Ii hz) rfl rfl (λw=>hbe (so w))
     refine⟨_,rfl,_,rfl,L1,_,_,_,rfl,rfl,SqL.of hL.1,Dv (Iv hy),y.1,_,_,_,rfl,rfl,SqT.of hyp,rfl,_,rfl,_,rfl,R1,_,_,_,rfl,rfl,SqL.of hR.1,Dv (Iv hz),z.1,_,_,_,rfl,rfl,SqT.of hzp,rfl,_,_,rfl,rfl,_,rfl,?_⟩
     refine He (λhlt=>?_) (λhlt=>?_)
     ·
      refine⟨_,rfl,_,_,rfl,rfl,?_⟩
      exact⟨p+1,gl,.inl ⟨rfl,rfl⟩,sx,fs,hfs,mid.left hLl hRl (Ii hy) (Ii hz) (tw hlt),hpl,by lia,_,_,rfl⟩
     ·
      refine⟨_,rfl,_,_,rfl,rfl,?_⟩
      exact⟨p,gl+1,.inr ⟨rfl,rfl⟩,sx,fs,hfs,mid.right hLl hRl (Ii hy) (Ii hz) (λw=>hlt (so w)),by lia,hgl,_,_,rfl⟩
   ·
    have e:gs.length<=gl:=by
     have:¬(gl:Int)<(gs.length:Int):=λw=>hg1 (so w)
     lia
    exact⟨_,rfl,k F H3 fs (sx.same sm hF) hF hfs bo.laid (fin (.inr e)) (out (.inr e))⟩
  ·
   have e:ls.length<=p:=by
    have:¬(p:Int)<(ls.length:Int):=λw=>hp1 (so w)
    lia
   refine Jw ?_
   exact⟨_,rfl,k F H3 fs (sx.same sm hF) hF hfs bo.laid (fin (.inl e)) (out (.inl e))⟩
theorem F5:A3 ["self","begin","end","found","name","span"] ["self","begin","end"] (Ai Em):=⟨rfl,rfl,rfl,by decide+kernel,rfl,by decide+kernel,by decide+kernel⟩
theorem Hk (
      T:Txt K mg a):FnOk P w K mg base CX0 true 4 a.Gk a.Gu ["self","begin","end"] (F6 a.Ao a.Ar):=by
 refine T.Sk.ok F5 (λvs H Q E h=>?_) (λcdv A outer s H vs Q E hr h=>?_)
 · obtain⟨b,d,xs,s,e,rfl,_⟩:=h;rfl
 ·
  obtain⟨b,d,xs,s0,e0,rfl,hB,k⟩:=h
  refine⟨_,(Af (Au (i:=3) F5.nd rfl (Or.inl rfl) (Ef Ac))
   (Af (Xy (Js wj rfl (Zv (G1 (K:=K) rfl (pv 0))) (Ca (i:=4) F5.nd rfl (Or.inl rfl)) (Aj (Js wj rfl (Et (K:=K) rfl (Gy (n:=2) (D:=λC R=>(C=a.Ar/\R=λx vs H Q=>(Ik a.Ar) (x::(vs++([]:List V))) H Q E0)) (O6 (Ny hr) (G1 (K:=K) rfl (pv 0)) (pv 4) (λ_ _=>rfl)) (by rintro C R ⟨rfl,rfl⟩<;>first|exact⟨T.Nt,_,_,_,_,_,_,_,_,_,_,T.Mg,(Md T).mono (by decide),hr,T.Mr,.nil,Bm,λ_ _ _ _ _ h=>h⟩) (Aa (pv 1) (Aa (pv 2) Ac)))) (Ca (i:=5) F5.nd rfl (Or.inl rfl)) (Aj (Dx (Sf vm vp vo D8 (pv 3) (Aa (E3 (Aa (A7 (A0 (K:=K) rfl) (pv 5) Ae (λ_ _=>rfl)) (Aa (A7 (A0 (K:=K) rfl) (pv 5) Ae (λ_ _=>rfl)) (Aa (pv 4) Ac)))) Ac))))))))
   (Aj (A5 (An (Nz rfl (hu2 hr)) rfl T.E2 (by decide+kernel) (Aa (Bh (S6 rfl (qv hr)) rfl T.Yl (by decide+kernel) (Aa (pv 3) Ac)) Ac)))))),?_⟩
  obtain⟨db,hb⟩:=hB.ins
  refine⟨by decide,λF hF=>?_⟩
  have nFd:d≠F:=Am hB.at_ hF
  refine⟨d,kvT xs,by rw[Ad nFd];exact hB.at_,?_⟩
  refine⟨_,rfl,b,_,db,_,_,rfl,Ah hF _ _ hb,T.Cm,T.Bj,rfl,d,kvT xs,rfl,Ah hF _ _ hB.at_,λo=>?_⟩
  have nbd:=hB.ne
  have hz:∀b' o',H b'=some o'->b'≠d->(upd (upd H F (.lst [])) d (.frz o (.dK (kvT xs)))) b'=some o':=λb' o' e' n=>by rw[Ad n,Ad (Am e' hF)];exact e'
  have hzF:(upd (upd H F (.lst [])) d (.frz o (.dK (kvT xs)))) F=some (.lst []):=by rw[Ad nFd.symm];exact Ab
  have hzd:(upd (upd H F (.lst [])) d (.frz o (.dK (kvT xs)))) d=some (.frz o (.dK (kvT xs))):=Ab
  generalize upd (upd H F (.lst [])) d (.frz o (.dK (kvT xs)))=Hz at hz hzF hzd ⊢
  refine Iw (H0:=λb'=>if b'=d then some (.frz o (.dK (kvT xs))) else none) (U0 (if_pos rfl)) (λi σ H'=>SameX F Hz H'/\∃(qs:List (List Key×Addr))(y z:Option V),TupsAt H' F qs/\qs.map (·.1)=K7 (xs.take i) s0 e0/\σ=[some (.ref b),some (.int s0),some (.int e0),some (.ref F),y,z]) ⟨SameX.refl _ _,[],_,_,⟨hzF,λ_ z=>nomatch z⟩,rfl,rfl⟩ (λi σ H' _ h b' o' e'=>?_) ?_ ?_
  ·
   by_cases eb:b'=d
   ·
    subst eb
    have e':some (HO.frz o (.dK (kvT xs)))=some o':=by rw[←e'];exact(if_pos rfl).symm
    rw[←e']
    exact h.1 _ _ nFd hzd
   ·
    have e':(none:Option HO)=some o':=by rw[←e'];exact(if_neg eb).symm
    cases e'
  ·
   rintro i x σ H1 hx ⟨sx,qs,y,z,hq,eq,rfl⟩
   unfold kvT at hx
   rw[uo,ur] at hx
   obtain⟨t,ht,rfl⟩:=vg.mp hx
   have htm:=uz ht
   obtain⟨dt,hto⟩:=hB.ok t htm
   have nF:∀{b' o'},H b'=some o'->b'≠F:=λ{b' o'}e'=>Am e' hF
   have up1:∀{b' o'},H b'=some o'->b'≠d->H1 b'=some o':=λ{b' o'}e' n=>sx _ _ (nF e') (hz _ _ e' n)
   have hd1:=sx _ _ nFd hzd
   refine⟨_,rfl,b,_,db,_,_,rfl,up1 hb nbd.1,T.Cm,T.Bj,rfl,_,rfl,d,_,rfl,.inl ⟨kvT xs,Sum.inr t.1,.inr ⟨o,hd1⟩,rfl,(Sg hB.nd htm).symm⟩,?_⟩
   refine⟨t.2.1,_,dt,_,_,rfl,up1 hto (nbd.2 t htm),rfl,⟨rfl,rfl⟩,_,rfl,_,rfl,rfl,?_⟩
   refine⟨t.2.1,dt,thB t,thE t,s0,e0,rfl,up1 hto (nbd.2 t htm),λl p H2 s2 hl0 hl hp=>?_⟩
   refine⟨l,rfl,⟨_,SqL.of hl⟩,?_⟩
   have nlF:l≠F:=λz=>by rw[z,hq.1] at hl0;cases hl0
   have sx2:SameX F Hz H2:=λb' o' n e'=>s2 _ _ (sx _ _ n e')
   have hq2:TupsAt H2 F qs:=⟨s2 _ _ hq.1,λx hx=>s2 _ _ (hq.2 x hx)⟩
   have hfew:qs.length<=40:=by
    have:=vi List.length eq
    rw[sf] at this
    rw[this]
    have h40:=Jj (xs.take i) s0 e0
    rw[ux] at h40
    have:=hB.few
    lia
   rw[Zy ht]
   by_cases hm:max (thB t) s0<min (thE t) e0
   ·
    rw[if_pos hm] at hl
    rw[show J3 t s0 e0=true from so hm,if_pos rfl]
    refine Iw (H0:=λb'=>if b'=l then some (.lst [.ref p]) else none) (Eg (K:=K) (SqL.of (if_pos rfl))) (λj σ H'=>H' l=some (.lst [.ref p])/\SameX F Hz H'/\H' p=some (.tup [.int (thB t),.int (thE t)])/\∃(qs':List (List Key×Addr))(z:Option V),TupsAt H' F qs'/\qs'.length<=41/\qs'.map (·.1)=K7 (xs.take i) s0 e0++(if j=0 then[] else[k3 t])/\σ=[some (.ref b),some (.int s0),some (.int e0),some (.ref F),some (.str t.1),z]) ⟨hl,sx2,hp,qs,_,hq2,by lia,by rw[if_pos rfl,xg];exact eq,rfl⟩ (λj σ H' _ h b' o' e'=>?_) ?_ ?_
    ·
     by_cases eb:b'=l
     ·
      subst eb
      have e':some (HO.lst [.ref p])=some o':=by rw[←e'];exact(if_pos rfl).symm
      rw[←e']
      exact h.1
     ·
      have e':(none:Option HO)=some o':=by rw[←e'];exact(if_neg eb).symm
      cases e'
    ·
     rintro j x σ H3 hx ⟨hl3,sx3,hp3,qs3,z3,hq3,few3,eq3,rfl⟩
     have ej:j=0:=by have:=(t8.mp hx).1;simpa using this
     subst ej
     have ex:V.ref p=x:=sy hx
     subst ex
     rw[if_pos rfl,xg] at eq3
     refine⟨_,rfl,.inl ⟨rfl,_,SqL.of hq3.1⟩,_,rfl,p,_,_,_,rfl,rfl,SqT.of hp3,rfl,_,rfl,p,_,_,_,rfl,rfl,SqT.of hp3,rfl,_,rfl,(by show 3<=sizeLine;decide),λtt htt=>?_⟩
     have nttF:tt≠F:=λz=>by rw[z,hq3.1] at htt;cases htt
     refine⟨F,_,_,rfl,rfl,Ah htt _ _ hq3.1,by rw[sf];exact ve few3 (by decide),?_⟩
     refine⟨?_,sx3.put htt,?_,qs3++[(k3 t,tt)],_,⟨by rw[uv];exact Ab,λx hx=>?_⟩,?_,by rw[uv,eq3];rfl,rfl⟩
     · rw[Ad nlF,Ad (Am hl3 htt)];exact hl3
     · rw[Ad (λz=>by rw[z,hq3.1] at hp3;cases hp3),Ad (Am hp3 htt)];exact hp3
     ·
      rcases uh.mp hx with hx|hx
      ·
       have:=hq3.2 x hx
       rw[Ad (λz=>by rw[z,hq3.1] at this;cases this),Ad (Am this htt)];exact this
      ·
       rw[tj] at hx
       subst hx
       rw[Ad nttF];exact Ab
     ·
      rw[ue]
      have:=vi List.length eq3
      rw[sf] at this
      have h40:=Jj (xs.take i) s0 e0
      rw[ux] at h40
      have:=hB.few
      show qs3.length+1<=41
      lia
    ·
     rintro σ H3 ⟨_,sx3,_,qs3,z3,hq3,_,eq3,rfl⟩
     rw[if_neg (show ¬[V.ref p].length=0 from Nat.one_ne_zero)] at eq3
     exact⟨sx3,qs3,_,_,hq3,eq3,rfl⟩
   ·
    rw[if_neg hm] at hl
    rw[show J3 t s0 e0=false from ua hm,if_neg (by decide),xg]
    refine Iw (H0:=λb'=>if b'=l then some (.lst []) else none) (Eg (K:=K) (SqL.of (if_pos rfl))) (λj σ H'=>H'=H2/\σ=[some (.ref b),some (.int s0),some (.int e0),some (.ref F),some (.str t.1),z]) ⟨rfl,rfl⟩ (λj σ H' _ h b' o' e'=>?_) (λj x σ H' hx=>by cases hx) ?_
    ·
     by_cases eb:b'=l
     ·
      subst eb
      have e':some (HO.lst [])=some o':=by rw[←e'];exact(if_pos rfl).symm
      rw[←e',h.1]
      exact hl
     ·
      have e':(none:Option HO)=some o':=by rw[←e'];exact(if_neg eb).symm
      cases e'
    ·
     rintro σ H3 ⟨rfl,rfl⟩
     exact⟨sx2,qs,_,_,hq2,eq,rfl⟩
  ·
   rintro σ H1 ⟨sx,qs,y,z,hq,eq,rfl⟩
   have hd1:=sx _ _ nFd hzd
   rw[show((kvT xs).map λkv=>kV kv.1).length=xs.length by unfold kvT;rw[sf,sf],yl] at eq
   refine⟨o,hd1,?_⟩
   have S1:Same H (upd H1 d (.dK (kvT xs))):=λb' o' e'=>by
    by_cases eb:b'=d
    ·
     subst eb
     rw[hB.at_] at e'
     rw[←e']
     exact Ab
    · rw[Ad eb];exact sx _ _ (Am e' hF) (hz _ _ e' eb)
   have hq1:TupsAt (upd H1 d (.dK (kvT xs))) F qs:=⟨by rw[Ad nFd.symm];exact hq.1,λx hx=>by
    have:=hq.2 x hx
    rw[Ad (λz=>by rw[z,hd1] at this;cases this)]
    exact this⟩
   generalize upd H1 d (.dK (kvT xs))=H2 at S1 hq1 ⊢
   have hfew:qs.length<=40:=by
    have:=vi List.length eq
    rw[sf] at this
    have:=Jj xs s0 e0
    have:=hB.few
    lia
   have nk1:∀{H':Hp},Same H2 H'->∀x∈qs.map λx=>((nkF x.1,x.2):List NK×Addr),jc H' x.1 x.2:=λ{H'}s' x hx=>by
    obtain⟨y,hy,rfl⟩:=t6.mp hx
    exact d8 (s' _ _ (hq1.2 y hy))
   have sh:∀x∈qs.map λx=>((nkF x.1,x.2):List NK×Addr),∃t∈xs,x.1=nkF (k3 t):=λx hx=>by
    obtain⟨y,hy,rfl⟩:=t6.mp hx
    have hm:y.1∈K7 xs s0 e0:=by rw[←eq];exact uu hy
    unfold K7 at hm
    obtain⟨t,ht,e⟩:=t6.mp hm
    exact⟨t,(va.mp ht).1,by rw[←e]⟩
   refine⟨_,rfl,F,qs.map (λx=>(nkF x.1,x.2)),rfl,(by rw[uo];exact hq1.1),nk1 (Same.refl _),(by rw[sf];lia),λD ds hD hk hsub hnd=>?_⟩
   have hds:ds.length<64:=by
    have h1:=hnd.length_le_of_subset (l₂:=(qs.map λx=>((nkF x.1,x.2):List NK×Addr)).map (·.1)) λk hk'=>(hk k).mp hk'
    rw[sf,sf,sf] at h1
    lia
   refine⟨D,ds,rfl,Ab,λx hx=>nk1 (Ah hD) x (hsub x hx),hds,.inr (λx hx=>?_),(λx hx y hy=>?_),λD2 qs2 hD2 hp hs=>?_⟩
   ·
    obtain⟨t,_,e⟩:=sh x (hsub x hx)
    exact⟨_,_,e⟩
   ·
    obtain⟨t,_,e⟩:=sh x (hsub x hx)
    obtain⟨t',_,e'⟩:=sh y (hsub y hy)
    rw[e,e']
    exact ok3 ..
   ·
    obtain⟨qs3,e3,h3⟩:=ar (f:=λx:List Key×Addr=>((nkF x.1,x.2):List NK×Addr)) (l:=qs2) (m:=qs) λx hx=>t6.mp (hsub x (hp.mem_iff.mp hx))
    subst e3
    have kk:(qs3.map λx:List Key×Addr=>((nkF x.1,x.2):List NK×Addr)).map (·.1)=(qs3.map (·.1)).map nkF:=by rw[uo,uo];rfl
    have km:(qs.map λx:List Key×Addr=>((nkF x.1,x.2):List NK×Addr)).map (·.1)=(qs.map (·.1)).map nkF:=by rw[uo,uo];rfl
    have nd2:=(hp.map (·.1)).nodup_iff.mpr hnd
    rw[kk] at nd2
    have pm:(qs3.map (·.1)).Perm (K7 xs s0 e0):=by
     rw[←eq]
     refine(List.perm_ext_iff_of_nodup (Q2 nd2) (by rw[eq];exact fy hB.nd)).mpr λc=>?_
     rw[←Y9,←kk,(hp.map (·.1)).mem_iff,hk,km,Y9]
    have hs':jb (qs3.map (·.1)):=by
     have hs:(keysOf (qs3.map λx:List Key×Addr=>((nkF x.1,x.2):List NK×Addr))).Pairwise (λx y=>ltL y x=false):=hs
     unfold keysOf at hs
     rw[kk,yc] at hs
     exact hs
    refine k D2 qs3 _ ((S1.trans (Ah hD)).trans (Ah hD2)) (S1.free ((Ah hD).free hD2)) ⟨by rw[show(qs3.map λx=>V.ref x.2)=(qs3.map λx:List Key×Addr=>((nkF x.1,x.2):List NK×Addr)).map λx=>V.ref x.2 by rw[uo];rfl];exact Ab,λx hx=>Ah hD2 _ _ (Ah hD _ _ (hq1.2 x (h3 x hx)))⟩ pm hs'

theorem jm:A3 ["row","begin","end"] ["row","begin","end"] (Ai W5):=⟨rfl,rfl,rfl,by decide+kernel,rfl,by decide+kernel,by decide+kernel⟩
theorem jk (T:Txt K mg a):FnOk P w K mg base CX0 true 5 a.b4 a.dh ["row","begin","end"] (lr):=by
 refine T.lp.ok jm (λvs H Q E h=>?_) (λcdv A outer s H vs Q E hr h=>?_)
 · obtain⟨l,rs,b,e,rfl,_⟩:=h;rfl
 ·
  obtain⟨l,rs,b,e,rfl,hl,hg,hz,k⟩:=h
  refine⟨_,(Af (C3 (Aw N1 (pv 1) (pv 2) (A4 _)) (Aj (A5 (As ((ib T).mono (by decide)) hr rfl T.kx T.fi.kp T.l5 .nil Bm (Aa (pv 0) (Aa (Ef (Aa (E3 (Aa (pv 1) (Aa (pv 2) Ac))) Ac)) Ac))))) Ba)
   (Af (Dx (As ((Ur T).mono (by decide)) hr rfl T.aj T.Vn.kp T.Y2 .nil Bm (Aa (pv 0) Ac)))
   (Aj (A5 (Ef Ac))))),?_⟩
  refine⟨_,rfl,_,rfl,_,_,rfl,rfl,_,rfl,?_⟩
  refine He (λz=>?_) (λz=>?_)
  ·
   have hbe:=tw z
   refine⟨_,rfl,_,rfl,_,rfl,(by show 2<=sizeLine;decide),λt ht=>⟨(by show 1<=sizeLine;decide),λL1 hL1=>?_⟩⟩
   have u1:=Ah (o:=.tup [.int b,.int e]) ht
   have u2:=Ah (o:=.lst [.ref t]) hL1
   have hL:RowAt (upd (upd H t (.tup [.int b,.int e])) L1 (.lst [.ref t])) L1 [(t,b,e)]:=⟨Ab,λq hq=>by rw[tj] at hq;subst hq;exact u2 _ _ Ab⟩
   refine⟨l,L1,rs,[(t,b,e)],rfl,(hl.up u1).up u2,hL,hg,(λq hq=>by rw[show sps [(t,b,e)]=[(b,e)] from rfl,tj] at hq;subst hq;exact hbe),by lia,(by show 1<64;decide),λD H1 qs s1 hD0 hD hDl tk few=>?_⟩
   refine k D H1 qs ((u1.trans u2).trans s1) ((u1.trans u2).free hD0) hD hDl (λm=>?_) few
   rw[tk m]
   show DL.Tk (sps rs) m/\DL.Tk [(b,e)] m↔_
   rw[DL.So]
  ·
   have hbe:¬b<e:=λw=>z (so w)
   refine⟨_,rfl,l,rs,rfl,hl,hg,by lia,λD1 H1 qs s1 _ _ _ _ _=>⟨(by show 0<=sizeLine;decide),λD hD=>?_⟩⟩
   exact k D _ [] (s1.trans (Ah hD)) (s1.free hD) ⟨Ab,RowOk.nil⟩ DL.Pc (λm=>⟨λt=>(DL.M7 t).elim,λt=>by lia⟩) (u5 _)
theorem Qr:A3 ["self","name","begin","end"] ["self","name","begin","end"] (Ai Fh):=⟨rfl,rfl,rfl,by decide+kernel,rfl,by decide+kernel,by decide+kernel⟩
theorem Iu (T:Txt K mg a):FnOk P w K mg base (CXe P w) true 5 a.Ih a.Ib ["self","name","begin","end"] (Gx a.Ao a.Ar a.Aq a.Ag a.Al a.Ak):=by
 refine T.T6.okE Qr (λvs H Q E h=>?_) (λcdv A outer s H vs Q E hr h=>?_)
 · obtain⟨b,d,xs,nm,s,e,rfl,_⟩:=h;rfl
 ·
  obtain⟨b,d,xs,nm,s0,e0,rfl,hB,hl,k0,k1,k2,k3,k4⟩:=h
  refine⟨_,(Af (Dx (Gy (n:=1) (D:=λC R=>(C=a.Ao/\R=λx vs H Q=>(Hi a.Ao a.Ar a.Aq a.Ag a.Al) (x::(vs++([]:List V))) H Q E)) (pv 0) (by rintro C R ⟨rfl,rfl⟩<;>first|exact⟨T.Cm,_,_,_,_,_,_,_,_,_,_,T.Lj,(Ln T).mono (by decide),hr,T.Me,.nil,La,λ_ _ _ _ _ h=>h⟩) (Aa (pv 1) Ac)))
   (Aj (Ug (Ny hr) (G1 (K:=K) rfl (pv 0)) (pv 1) (ie T.Nv ((N7 T).mono (by decide)) hr rfl T.ma T.O7 .nil La (Aa (pv 2) (Aa (pv 3) Ac))) rfl))),?_⟩
  obtain⟨db,hb0⟩:=hB.ins
  refine⟨_,rfl,b,_,db,_,_,rfl,hb0,rfl,⟨rfl,rfl⟩,_,rfl,rfl,b,d,xs,nm,rfl,hB,hl,λh0 H1 s1=>?_,λh=>k1 h,λh H1 s1=>k2 h H1 s1,λh H1 s1=>k3 h H1 s1⟩
  have hB1:=hB.up s1
  refine⟨_,rfl,_,rfl,λx dx nx ndx nex=>⟨x,dx,s0,e0,rfl,Ab,λhb=>⟨rfl,?_⟩,λhb=>k4 h0 hb _ ((s1.trans (Ah ndx)).trans (Ah (by rw[Ad nex.symm];exact nx)))⟩⟩
  have sX:Same H1 (upd (upd (upd H1 dx (.own x)) x (.ins a.Ar dx [])) x (.ins a.Ar dx [("begin",.int s0),("end",.int e0)])):=λb' o' e'=>by
   rw[Ad (Am e' nx),Ad (Am e' nx),Ad (Am e' ndx)]
   exact e'
  have hx2:(upd (upd (upd H1 dx (.own x)) x (.ins a.Ar dx [])) x (.ins a.Ar dx [("begin",.int s0),("end",.int e0)])) x=some (.ins a.Ar dx [("begin",.int s0),("end",.int e0)]):=Ab
  generalize upd (upd (upd H1 dx (.own x)) x (.ins a.Ar dx [])) x (.ins a.Ar dx [("begin",.int s0),("end",.int e0)])=H2 at sX hx2 ⊢
  have hB2:=hB1.up sX
  refine⟨_,rfl,b,_,db,_,_,rfl,sX _ _ (s1 _ _ hb0),T.Cm,T.Bj,rfl,_,rfl,d,_,rfl,DPut.k (k:=Sum.inr nm) hB2.at_ (by unfold kvT;rw[sf];exact ve hB.few (by decide)),?_⟩
  obtain⟨r1,r2,r3⟩:=gk h0
  rw[Yz (b:=s0) (e:=e0) r3]
  exact k0 h0 hb x _ (λb' o' nb e'=>by rw[Ad nb];exact sX _ _ (s1 _ _ e')) (hB2.add hx2 (by lia) r3 hb)
theorem Q9:A3 ["self","begin","end"] ["self","begin","end"] (Ai Ej):=⟨rfl,rfl,rfl,by decide+kernel,rfl,by decide+kernel,by decide+kernel⟩
theorem Qw (T:Txt K mg a):FnOk P w K mg base CX0 true 7 a.Hn a.Hu ["self","begin","end"] (Lp a.Ao a.Ar):=by
 refine T.Th.ok Q9 (λvs H Q E h=>?_) (λcdv A outer s H vs Q E hr h=>?_)
 · obtain⟨b,d,xs,s,e,rfl,_⟩:=h;rfl
 ·
  obtain⟨b,d,xs,s0,e0,rfl,hB,k⟩:=h
  refine⟨_,(Aj (A5 (As ((jk T).mono (by decide)) hr rfl T.n9 T.lp.kp T.n5 .nil Bm (Aa (Lh (N:=["span"]) (cap:=[none]) (by show D6 (Ai Ej) _ ["self","begin","end"] _ _;exact⟨rfl,by decide+kernel,by decide+kernel,by decide+kernel,by decide+kernel,rfl,by decide+kernel⟩) rfl (Et (K:=K) rfl (Gy (n:=2) (D:=λC R=>(C=a.Ao/\R=λx vs H Q=>(F6 a.Ao a.Ar) (x::(vs++([]:List V))) H Q E0)) (pv 0) (by rintro C R ⟨rfl,rfl⟩<;>first|exact⟨T.Cm,_,_,_,_,_,_,_,_,_,_,T.Hl,(Hk T).mono (by decide),hr,T.Iy,.nil,Bm,λ_ _ _ _ _ h=>h⟩) (Aa (pv 1) (Aa (pv 2) Ac)))) (λC s H fp=>⟨(Ca (i:=0) (by show(["span"]:List Str).Nodup;decide+kernel) rfl (Or.inl rfl) (.inr rfl)),Pe,(E3 (Aa (A7 (A0 (K:=K) rfl) (pv 0) Ae (λ_ _=>rfl)) (Aa (A7 (A0 (K:=K) rfl) (pv 0) Ae (λ_ _=>rfl)) Ac)))⟩)) (Aa (pv 1) (Aa (pv 2) Ac)))))),?_⟩
  obtain⟨db,hb⟩:=hB.ins
  refine⟨_,rfl,b,_,db,_,_,rfl,hb,rfl,⟨rfl,rfl⟩,_,rfl,_,rfl,rfl,b,d,xs,s0,e0,rfl,hB,λl qs H1 s1 hl0 hT hp hs=>⟨l,rfl,⟨_,SqL.of hT.1⟩,?_⟩⟩
  have sh:∀x∈qs,∃t∈xs,x.1=k3 t:=λx hx=>by
   have hm:=hp.mem_iff.mp (uu (f:=(·.1)) hx)
   unfold K7 at hm
   obtain⟨t,ht,e⟩:=t6.mp hm
   exact⟨t,(va.mp ht).1,e.symm⟩
  have hlq:qs.length<=40:=by
   have:=hp.length_eq
   rw[sf] at this
   have:=Jj xs s0 e0
   have:=hB.few
   lia
  refine Kc (us:=qs) (λx=>V.ref x.2) (λ_=>true) (λx=>x.1.take 2) (Eg (K:=K) (SqL.of hT.1)) (λx hx y hy e=>⟨rfl,by rw[hT.one x hx y hy e]⟩) (by lia) (λx hx H' sm R hR=>hR H' (Same.refl _)) (λx hx _ H' sm R hR=>?_) (λD H2 rs s2 hD0 hD er=>?_)
  ·
   obtain⟨t,_,ex⟩:=sh x hx
   have hx2:=sm _ _ (hT.2 x hx)
   rw[ex] at hx2
   refine⟨_,rfl,x.2,_,_,_,rfl,rfl,SqT.of hx2,rfl,_,rfl,x.2,_,_,_,rfl,rfl,SqT.of hx2,rfl,(by show 2<=sizeLine;decide),λq hq=>hR q _ (Ah hq) (by rw[ex];exact Ab)⟩
  rw[zm.mpr (λ_ _=>rfl)] at er
  have sh2:∀x∈rs,∃b e:Int,x.1=[.inl b,.inl e]:=λx hx=>by
   have hm:x.1∈qs.map (λx=>x.1.take 2):=by rw[←er];exact uu hx
   obtain⟨y,hy,e⟩:=t6.mp hm
   obtain⟨t,_,ex⟩:=sh y hy
   rw[ex] at e
   exact⟨_,_,e.symm⟩
  obtain⟨ps,hps,eps⟩:=Oc hD sh2
  have hL:(sps ps).Perm ((xs.filter λx=>J3 x s0 e0).map λx=>x.2.2):=by
   have e1:sps ps=(qs.map (·.1)).map pairOf:=by
    rw[eps,er,uo,uo]
    refine Aay λy hy=>?_
    obtain⟨t,_,ex⟩:=sh y hy
    show pairOf (y.1.take 2)=pairOf y.1
    rw[ex]
    rfl
   rw[e1]
   refine(hp.map pairOf).trans ?_
   unfold K7
   rw[uo]
   exact List.Perm.refl _
  have hg:DL.Good (sps ps):=λq hq=>by
   obtain⟨x,hx,rfl⟩:=t6.mp (hL.mem_iff.mp hq)
   exact hB.good x (va.mp hx).1
  have hlen:ps.length<=40:=by
   have:=hL.length_eq
   rw[Ek,sf] at this
   have:=v9 (λx=>J3 x s0 e0) xs
   have:=hB.few
   lia
  exact⟨_,rfl,_,rfl,D,ps,s0,e0,rfl,hps,hg,by lia,λD2 H3 ls s3 hD20 hD2 hLd tk few=>k D2 H3 ls ((s1.trans s2).trans s3) (s1.free (s2.free hD20)) hD2 hLd (λm=>(tk m).trans (Z4 hL)) (by lia)⟩
theorem Ja:A3 ["_law_book","_law_kind","_law_name","_law_begin","_law_end","_law_told","_law_e"] ["_law_book","_law_kind","_law_name","_law_begin","_law_end"] (Ai Fm):=⟨rfl,rfl,rfl,by decide+kernel,rfl,by decide+kernel,by decide+kernel⟩
theorem Qs (T:Txt K mg a):FnOk P w K mg base CX0 true 7 a.Hy a.Ie ["_law_book","_law_kind","_law_name","_law_begin","_law_end"] (Qp a.Ao a.Ar):=by
 refine T.Nd.ok Ja (λvs H Q E h=>?_) (λcdv A outer s H vs Q E hr h=>?_)
 · obtain⟨b,d,xs,k,nm,s,e,rfl,_⟩:=h;rfl
 ·
  obtain⟨b,d,xs,kd,nm,s0,e0,rfl,hB,hnl,k1,k2⟩:=h
  refine⟨_,(Aj (cz (i:=6) rfl T.Fo T.R3 Ja.nd rfl rfl rfl (λpins Eb E hx=>(Af (Au (i:=5) Ja.nd rfl (Or.inl rfl) (Je (Aw Kn (pv 1) Ae (A4 _)) (U7 (n:=1) (D:=λC R=>(C=a.Ao/\R=λx vs H Q E=>(Lz a.Ao a.Ar a.Ag) (x::(vs++([]:List V))) H Q E)) hx (pv 0) (by rintro C R ⟨rfl,rfl⟩<;>first|exact⟨T.Cm,_,_,_,_,_,_,_,_,T.Q1,(Qu T).mono (by decide),hr,T.S9,.nil,λ_ _ _ _ _ _ h=>h⟩) (Aa (pv 2) Ac)) (U7 (n:=3) (D:=λC R=>(C=a.Ao/\R=λx vs H Q E=>(Gx a.Ao a.Ar a.Aq a.Ag a.Al a.Ak) (x::(vs++([]:List V))) H Q E)) hx (pv 0) (by rintro C R ⟨rfl,rfl⟩<;>first|exact⟨T.Cm,_,_,_,_,_,_,_,_,T.Jb,(Iu T).mono (by decide),hr,T.Jz,.nil,λ_ _ _ _ _ _ h=>h⟩) (Aa (pv 2) (Aa (pv 3) (Aa (pv 4) Ac))))))
   (Aj (A5 (Je (Aw mf (pv 5) ef (A4 _)) C1 C1))))) (λe=>(Af (C3 (L6 (I0 (As ((Ut T).mono (by decide)) (hr.mark _) rfl T.Wj T.Ol.kp T.Wv .nil Bm (Aa (pv 6) Ac)))) (Aj (A5 C1)) Ba)
   (Af (C3 (I0 (An (A6 (K:=K) rfl) rfl T.Ap (by decide+kernel) (Aa (pv 6) (Aa (B2 rfl T.Nj) Ac)))) (Aj (A5 C1)) Ba)
   (Af (C3 (I0 (An (A6 (K:=K) rfl) rfl T.Ap (by decide+kernel) (Aa (pv 6) (Aa (B2 rfl T.J0) Ac)))) (Aj (A5 C1)) Ba)
   (Aj (A5 (A7 (Bb (K:=K) rfl) (Ef (Pg [.str "NoThing",.str "NoSpan"] (by decide+kernel))) (Bh Bx rfl T.Ht (by decide+kernel) (Aa (An (A6 (K:=K) rfl) rfl T.Ap (by decide+kernel) (Aa (pv 6) (Aa (B2 rfl T.Ho) Ac))) Ac)) (λ_ _=>rfl)))))))))),?_⟩
  obtain⟨db,hb⟩:=hB.ins
  refine⟨_,rfl,rfl,_,rfl,?_⟩
  refine He (λz=>?_) (λz=>?_)
  ·
   have hk:kd=0:=V.int.inj (tw z)
   subst hk
   refine⟨_,rfl,b,_,db,_,_,rfl,hb,rfl,⟨rfl,rfl⟩,_,rfl,rfl,b,d,xs,nm,rfl,hB,λhm hB2=>?_,λhm=>?_⟩
   ·
    have e1:Fs 0 xs nm s0 e0="":=by unfold Fs;rw[if_pos rfl,if_pos hm]
    refine⟨_,rfl,rfl,_,rfl,P8 ?_⟩
    exact k2 e1 d _ (λb' o' n e'=>by rw[Ad n];exact e') (by rw[if_pos rfl];exact hB2)
   ·
    have e1:Fs 0 xs nm s0 e0="NoThing":=by unfold Fs;rw[if_pos rfl,if_neg hm]
    rw[e1] at k1
    have kk:=k1 (by decide)
    refine⟨a.Ag,rfl,T.Bf,λe he=>?_⟩
    have u1:=Ah (o:=exo e a.Ag) he
    have he2:=Ab (H:=H) (a:=e) (o:=exo e a.Ag)
    generalize upd H e (exo e a.Ag)=Hh at u1 he2 ⊢
    refine⟨_,rfl,e,a.Ag,rfl,he2,(.inr (.inl rfl)),_,rfl,?_⟩
    refine Jw ?_
    refine⟨_,rfl,e,_,_,_,_,rfl,he2,T.A9,.inl ⟨_,rfl,rfl⟩,T.B8,_,rfl,?_⟩
    refine Jw ?_
    refine⟨_,rfl,e,_,_,_,_,rfl,he2,T.A9,.inl ⟨_,rfl,rfl⟩,T.Bv,_,rfl,?_⟩
    refine Jw ?_
    refine⟨(by show 2<=sizeLine;decide),λl hl=>?_⟩
    have u2:=Ah (o:=.lst [.str "NoThing",.str "NoSpan"]) hl
    replace he2:=u2 _ _ he2
    exact⟨_,rfl,e,_,_,_,_,rfl,he2,T.A9,.inl ⟨_,rfl,rfl⟩,T.Bl,.inr ⟨_,rfl,l,_,_,_,rfl,rfl,SqL.of Ab,rfl,kk _ (((Same.refl H).trans u1).trans u2)⟩⟩
  have hk:¬kd=0:=λw=>z (so (by rw[w]))
  rw[Tb hk] at k1 k2
  refine⟨_,rfl,b,_,db,_,_,rfl,hb,rfl,⟨rfl,rfl⟩,_,rfl,_,rfl,_,rfl,rfl,b,d,xs,nm,s0,e0,rfl,hB,hnl,λh0 hbe o H1 sx hB2=>?_,λh1=>?_,λh2 H1 s1=>?_,λh3 H1 s1=>?_,λh0 hbe H1 s1=>?_⟩
  ·
   refine⟨_,rfl,rfl,_,rfl,P8 ?_⟩
   exact k2 (lx h0 (by lia)) o H1 sx (by rw[if_neg hk];exact hB2)
  ·
   rw[lg h1] at k1
   have kk:=k1 (by decide)
   refine⟨a.Aq,rfl,T.Ci,λe he=>?_⟩
   have u1:=Ah (o:=exo e a.Aq) he
   have he2:=Ab (H:=H) (a:=e) (o:=exo e a.Aq)
   generalize upd H e (exo e a.Aq)=Hh at u1 he2 ⊢
   refine⟨_,rfl,e,a.Aq,rfl,he2,(.inr (.inr (.inr (rfl)))),_,rfl,?_⟩
   refine Jw ?_
   refine⟨_,rfl,e,_,_,_,_,rfl,he2,T.Fx,.inl ⟨_,rfl,rfl⟩,T.Fn,_,rfl,?_⟩
   exact P8 (kk _ ((Same.refl H).trans u1))
  ·
   rw[l9 h2] at k1
   have kk:=k1 (by decide)
   refine⟨a.Ag,rfl,T.Bf,λe he=>?_⟩
   have u1:=Ah (o:=exo e a.Ag) he
   have he2:=Ab (H:=H1) (a:=e) (o:=exo e a.Ag)
   generalize upd H1 e (exo e a.Ag)=Hh at u1 he2 ⊢
   refine⟨_,rfl,e,a.Ag,rfl,he2,(.inr (.inl rfl)),_,rfl,?_⟩
   refine Jw ?_
   refine⟨_,rfl,e,_,_,_,_,rfl,he2,T.A9,.inl ⟨_,rfl,rfl⟩,T.B8,_,rfl,?_⟩
   refine Jw ?_
   refine⟨_,rfl,e,_,_,_,_,rfl,he2,T.A9,.inl ⟨_,rfl,rfl⟩,T.Bv,_,rfl,?_⟩
   refine Jw ?_
   refine⟨(by show 2<=sizeLine;decide),λl hl=>?_⟩
   have u2:=Ah (o:=.lst [.str "NoThing",.str "NoSpan"]) hl
   replace he2:=u2 _ _ he2
   exact⟨_,rfl,e,_,_,_,_,rfl,he2,T.A9,.inl ⟨_,rfl,rfl⟩,T.Bl,.inr ⟨_,rfl,l,_,_,_,rfl,rfl,SqL.of Ab,rfl,kk _ ((s1.trans u1).trans u2)⟩⟩
  ·
   rw[me h3] at k1
   have kk:=k1 (by decide)
   refine⟨a.Al,rfl,T.B6,λe he=>?_⟩
   have u1:=Ah (o:=exo e a.Al) he
   have he2:=Ab (H:=H1) (a:=e) (o:=exo e a.Al)
   generalize upd H1 e (exo e a.Al)=Hh at u1 he2 ⊢
   refine⟨_,rfl,e,a.Al,rfl,he2,(.inr (.inr (.inl rfl))),_,rfl,?_⟩
   refine Jw ?_
   refine⟨_,rfl,e,_,_,_,_,rfl,he2,T.C4,.inl ⟨_,rfl,rfl⟩,T.Eo,_,rfl,?_⟩
   refine Jw ?_
   refine⟨_,rfl,e,_,_,_,_,rfl,he2,T.C4,.inl ⟨_,rfl,rfl⟩,T.Ds,_,rfl,?_⟩
   exact P8 (kk _ (s1.trans u1))
  ·
   rw[ku h0 (by lia)] at k1
   have kk:=k1 (by decide)
   refine⟨a.Ak,rfl,T.Br,λe he=>?_⟩
   have u1:=Ah (o:=exo e a.Ak) he
   have he2:=Ab (H:=H1) (a:=e) (o:=exo e a.Ak)
   generalize upd H1 e (exo e a.Ak)=Hh at u1 he2 ⊢
   refine⟨_,rfl,e,a.Ak,rfl,he2,(.inl rfl),_,rfl,?_⟩
   refine Jw ?_
   refine⟨_,rfl,e,_,_,_,_,rfl,he2,T.By,.inl ⟨_,rfl,rfl⟩,T.Dj,_,rfl,?_⟩
   refine Jw ?_
   refine⟨_,rfl,e,_,_,_,_,rfl,he2,T.By,.inl ⟨_,rfl,rfl⟩,T.C0,_,rfl,?_⟩
   refine Jw ?_
   refine⟨(by show 2<=sizeLine;decide),λl hl=>?_⟩
   have u2:=Ah (o:=.lst [.str "NoThing",.str "NoSpan"]) hl
   replace he2:=u2 _ _ he2
   exact⟨_,rfl,e,_,_,_,_,rfl,he2,T.By,.inl ⟨_,rfl,rfl⟩,T.Ce,.inr ⟨_,rfl,l,_,_,_,rfl,rfl,SqL.of Ab,rfl,kk _ ((s1.trans u1).trans u2)⟩⟩
theorem Cb:A3 ["_law_book","_law_plain","_law_state","_law_held","_law_begin","_law_end","_law_spans_here","_law_dues","_law_turn","_law_k","_law_which","_law_found"] ["_law_book","_law_plain","_law_state","_law_held"] (Ai Fd):=⟨rfl,rfl,rfl,by decide+kernel,rfl,by decide+kernel,by decide+kernel⟩
theorem Ta (
      T:Txt K mg a):FnOk P w K mg base CX0 true 9 a.Jk a.Jp ["_law_book","_law_plain","_law_state","_law_held"] (Te a.Ao a.Ar):=by
 refine T.O0.ok Cb (λvs H Q E h=>?_) (λcdv A outer s H vs Q E hr h=>?_)
 · obtain⟨b,d,p,L,hl,xs,ys,s,hs,rfl,_⟩:=h;rfl
 ·
  obtain⟨b,d,p,L,hl,xs,ys,s0,hs,rfl,hB,hP,tk,hL,hrg,hH,nLh,hlen,k⟩:=h
  refine⟨_,(Af (V2 (As ((Po T).mono (by decide)) hr rfl T.Q5 T.Lu.kp T.Sb .nil Bm (Aa (pv 2) (Aa (pv 1) Ac))) (Zx rfl (Jn (Ca (i:=4) Cb.nd rfl (Or.inl rfl)) (Jn (Ca (i:=5) Cb.nd rfl (Or.inl rfl)) Tt))))
   (Af (Au (i:=6) Cb.nd rfl (Or.inl rfl) (As ((Rk T).mono (by decide)) hr rfl T.Tj T.Mv.kp T.Uu .nil Bm (Aa (pv 1) (Aa (pv 4) (Aa (pv 5) Ac)))))
   (Af (Au (i:=7) Cb.nd rfl (Or.inl rfl) (Ef (Aa (An Ke rfl T.E2 (by decide+kernel) (Aa (Bh (Nr rfl) rfl T.Nf (by decide+kernel) (Aa (pv 1) Ac)) Ac)) (Aa (pv 6) (Aa (As ((Wn T).mono (by decide)) hr rfl T.Yb T.Rb.kp T.Y4 .nil Bm (Aa (Lh (N:=["_law_one"]) (cap:=[none]) (by show D6 (Ai Fd) _ ["_law_book","_law_plain","_law_state","_law_held","_law_begin","_law_end","_law_spans_here","_law_dues","_law_turn","_law_k","_law_which","_law_found"] _ _;exact⟨rfl,by decide+kernel,by decide+kernel,by decide+kernel,by decide+kernel,rfl,by decide+kernel⟩) rfl (Et (K:=K) rfl (pv 6)) (λC s H fp=>⟨(Ca (i:=0) (by show(["_law_one"]:List Str).Nodup;decide+kernel) rfl (Or.inl rfl) (.inr rfl)),Pe,(Jm (ig (K:=K) rfl) (pv 0) Mt (Jx Ae))⟩)) (Aa (pv 4) (Aa (pv 5) Ac)))) Ac)))))
   (Af (Au (i:=8) Cb.nd rfl (Or.inl rfl) (As ((A1 T).mono (by decide)) hr rfl T.Bc T.A8.kp T.Be .nil Bm (Aa (pv 2) (Aa Ae Ac))))
   (Af (Js wj rfl (Mx rfl T.Jy (Aa Ae Ac)) (Ca (i:=9) Cb.nd rfl (Or.inl rfl)) (Af (Au (i:=10) Cb.nd rfl (Or.inl rfl) (Av Bz (Av B0 (pv 8) (Av Sh (pv 9) (Av B0 Ae (Av Bz (Av T9 (pv 8) Ae) Ae)))) Ae))
   (Af (Au (i:=11) Cb.nd rfl (Or.inl rfl) (Qn (D:=λC R=>(C=a.Ao/\R=λx vs H Q=>(G0 a.Ao a.Ar) (x::(vs++([]:List V))) H Q E0)) (pv 0) (by rintro C R ⟨rfl,rfl⟩<;>first|exact⟨T.Cm,_,_,_,_,_,_,_,_,_,_,T.Ju,(Jv T).mono (by decide),hr,T.Kz,.nil,Bm,λ_ _ _ _ _ h=>h⟩)))
   (K8 (C3 (Aw V6 (pv 10) Ae (A4 _)) (Aj (Au (i:=11) Cb.nd rfl (Or.inl rfl) (Je (Aw Kn (pv 10) Ae (A4 _)) (Gy (n:=2) (D:=λC R=>(C=a.Ao/\R=λx vs H Q=>(F6 a.Ao a.Ar) (x::(vs++([]:List V))) H Q E0)) (pv 0) (by rintro C R ⟨rfl,rfl⟩<;>first|exact⟨T.Cm,_,_,_,_,_,_,_,_,_,_,T.Hl,(Hk T).mono (by decide),hr,T.Iy,.nil,Bm,λ_ _ _ _ _ h=>h⟩) (Aa (pv 4) (Aa (pv 5) Ac))) (Gy (n:=2) (D:=λC R=>(C=a.Ao/\R=λx vs H Q=>(Lp a.Ao a.Ar) (x::(vs++([]:List V))) H Q E0)) (pv 0) (by rintro C R ⟨rfl,rfl⟩<;>first|exact⟨T.Cm,_,_,_,_,_,_,_,_,_,_,T.Q4,(Qw T).mono (by decide),hr,T.Ua,.nil,Bm,λ_ _ _ _ _ h=>h⟩) (Aa (pv 4) (Aa (pv 5) Ac)))))) Ba)
   (Af (C3 (PW.pt (Yv (L6 (I0 (An (R7 (K:=K) rfl) rfl T.Ap (by decide+kernel) (Aa (pv 11) (Aa (Yt (v:=.ty "list") rfl T.Nf (by decide+kernel) rfl) Ac))))) (Qv (Aw (Pa (hu2 hr)) (pv 11) (A7 (Bb (K:=K) rfl) (pv 7) (pv 10) (λ_ _=>rfl)) (A4 _))))) (Aj (A5 Sn)) Ba)
   (K8 (C3 (Aw Kn (Av Bz (Av T9 (pv 8) Ae) Ae) Ae (A4 _)) (Af (Dx (Sf vm vp vo D8 (pv 11) (Aa C1 Ac)))
   (Aj (V2 (Av jj (A7 (Bb (K:=K) rfl) (pv 7) (pv 10) (λ_ _=>rfl)) (Ef (Aa C1 Ac))) (Z2 (pv 7) (pv 10) set_list)))) Ba)
   (Aj (Dx (Sf vm vp vo D8 (pv 3) (Aa (E3 (Aa (pv 11) (Aa (A7 (Bb (K:=K) rfl) (pv 7) (pv 10) (λ_ _=>rfl)) Ac))) Ac))))))))))
   (Aj (A5 Sn))))))),?_⟩
  refine⟨_,rfl,_,rfl,L,p,s0,ys,rfl,hL,hrg,hP,λq s1 bg en H1 h1 sx1 hL1 hq=>?_⟩
  refine⟨q,_,rfl,SqT.of hq,rfl,_,_,rfl,_,_,rfl,rfl,?_⟩
  have hB1:=hB.upX sx1 hL
  have hP1:=hP.upX sx1 hL
  refine⟨_,rfl,_,rfl,_,rfl,p,ys,bg,en,rfl,hP1,λD1 qs H2 s2 hD10 hT hp hri=>?_⟩
  have hP2:=hP1.up s2
  refine⟨_,rfl,p,kvT ys,ys.map thN,rfl,hP2.at_,T8 ys,λDa hDa=>⟨Da,ys.map thN,rfl,Ab,(by rw[sf];have:=hP.few;lia),λD0 ms hD0 hpm hsm=>?_⟩⟩
  have u3:=(Ah (o:=.lst ((ys.map thN).map V.str)) hDa).trans (Ah (o:=.lst (ms.map V.str)) hD0)
  have hD0m:(upd (upd H2 Da (.lst ((ys.map thN).map V.str))) D0 (.lst (ms.map V.str))) D0=some (.lst (ms.map V.str)):=Ab
  have hD0n:H2 D0=none:=(Ah hDa).free hD0
  generalize upd (upd H2 Da (.lst ((ys.map thN).map V.str))) D0 (.lst (ms.map V.str))=H3 at u3 hD0m ⊢
  have hT3:=hT.up u3
  have sh:∀x∈qs,∃t∈ys,x.1=k3 t:=λx hx=>by
   have hm:=hp.mem_iff.mp (uu (f:=(·.1)) hx)
   unfold K7 at hm
   obtain⟨t,ht,e⟩:=t6.mp hm
   exact⟨t,(va.mp ht).1,e.symm⟩
  have hlq:qs.length<=40:=by
   have:=hp.length_eq
   rw[sf] at this
   have:=Jj ys bg en
   have:=hP.few
   lia
  refine⟨_,rfl,_,rfl,D1,rfl,⟨_,SqL.of hT3.1⟩,?_⟩
  refine Kc (us:=qs) (λx=>V.ref x.2) (λ_=>true) (λx=>x.1.take 2) (Eg (K:=K) (SqL.of hT3.1)) (λx hx y hy e=>⟨rfl,by rw[hT3.one x hx y hy e]⟩) (by lia) (λx hx H' sm R hR=>hR H' (Same.refl _)) (λx hx _ H' sm R hR=>?_) (λD H4 rs s4 hD4 hD er=>?_)
  ·
   obtain⟨t,_,ex⟩:=sh x hx
   have hx2:=sm _ _ (hT3.2 x hx)
   rw[ex] at hx2
   refine⟨_,rfl,_,rfl,x.2,_,rfl,SqT.of hx2,(show ¬(HT.sIx 3 0 none=0/\HT.sIx 3 3 (some 2)=3) by decide),λq hq=>hR q _ (Ah hq) (by rw[ex];exact Ab)⟩
  rw[zm.mpr (λ_ _=>rfl)] at er
  have sh2:∀x∈rs,∃t∈ys,x.1=[.inl (thB t),.inl (thE t)]:=λx hx=>by
   have hm:x.1∈qs.map (λx=>x.1.take 2):=by rw[←er];exact uu hx
   obtain⟨y,hy,e⟩:=t6.mp hm
   obtain⟨t,ht,ex⟩:=sh y hy
   rw[ex] at e
   exact⟨t,ht,e.symm⟩
  have hlr:rs.length=qs.length:=by have:=vi List.length er;rw[sf,sf] at this;exact this
  have hpr:((rs.map (·.1)).map pairOf).Perm ((ys.filter λx=>J3 x bg en).map λx=>x.2.2):=by
   have e1:(rs.map (·.1)).map pairOf=(qs.map (·.1)).map pairOf:=by
    rw[er,uo,uo]
    refine Aay λy hy=>?_
    obtain⟨t,_,ex⟩:=sh y hy
    show pairOf (y.1.take 2)=pairOf y.1
    rw[ex]
    rfl
   rw[e1]
   refine(hp.map pairOf).trans ?_
   unfold K7
   rw[uo]
   exact List.Perm.refl _
  have hempty:bg<en∨rs=[]:=by
   rcases Int.lt_or_le bg en with w|w
   · exact .inl w
   ·
    right
    have:=hp.length_eq
    rw[Ry w,sf] at this
    exact List.length_eq_zero_iff.mp (by rw[hlr];exact this)
  refine⟨_,rfl,_,rfl,D,rs,bg,en,rfl,hD,(λx hx=>?_),hempty,by lia,λD2 H5 ls s5 hD20 hD2 hLd tkr few=>⟨(by show 3<=sizeLine;decide),λdl hdl=>?_⟩⟩
  ·
   obtain⟨t,ht,e⟩:=sh2 x hx
   rw[e]
   exact⟨⟨_,_,rfl⟩,hP.good t ht⟩
  have hLd2:DL.Laid (sps ls):=hLd
  have tk2:∀m,DL.Tk (sps ls) m↔(∃x∈ys,thB x<=m/\m<thE x)/\(bg<=m/\m<en):=λm=>(tkr m).trans (Z4 hpr)
  have s35:=s4.trans s5
  have S25:Same H2 H5:=u3.trans s35
  have S15:Same H1 H5:=s2.trans S25
  have L0:LsAt H5 D0 (ms.map λt=>.inl (.inr t)):=⟨_,s35 _ _ hD0m,Mu ms⟩
  have L1:LsAt H5 D1 (qs.map λx=>.inr x.1):=(hT3.up s35).ls
  have L2':LsAt H5 D2 (g8 (sps ls)):=d6 hD2
  have hH1:HeldAt L hl H1 hs:=hH.up hL (sx1 _ _ nLh.symm hH.at_) (λb' o' e' n1 _=>sx1 _ _ n1 e')
  have hn:∀{D':Addr},H1 D'=none->D'≠L/\D'≠hl:=λ{D'}e=>⟨λz=>(by rw[z,hL1] at e;exact nomatch e),λz=>(by rw[z,hH1.at_] at e;exact nomatch e)⟩
  have nD0:=hn (s2.free hD0n)
  have nD1:=hn hD10
  have nD2:=hn ((s2.trans (u3.trans s4)).free hD20)
  have ndl:=hn (S15.free hdl)
  have u6:=Ah (o:=.lst [.ref D0,.ref D1,.ref D2]) hdl
  have hdlx:∀{D':Addr}{o:HO},H5 D'=some o->D'≠dl:=λ{D' o}e=>Am e hdl
  have nD0':D0≠dl:=by obtain⟨_,e,_⟩:=L0;exact hdlx e
  have nD1':D1≠dl:=by obtain⟨_,e,_⟩:=L1;exact hdlx e
  have nD2':D2≠dl:=by obtain⟨_,e,_⟩:=L2';exact hdlx e
  have S16:Same H1 (upd H5 dl (.lst [.ref D0,.ref D1,.ref D2])):=S15.trans u6
  replace L0:=L0.up u6
  replace L1:=L1.up u6
  replace L2':=L2'.up u6
  have hdl6:(upd H5 dl (.lst [.ref D0,.ref D1,.ref D2])) dl=some (.lst ([D0,D1,D2].map V.ref)):=Ab
  generalize upd H5 dl (.lst [.ref D0,.ref D1,.ref D2])=H6 at S16 L0 L1 L2' hdl6 ⊢
  have hB6:=hB1.up S16
  have hL6:=S16 _ _ hL1
  have hH6:HeldAt L hl H6 hs:=hH1.up hL1 (S16 _ _ hH1.at_) (λb' o' e' _ _=>S16 _ _ e')
  refine⟨_,rfl,L,s1,_,rfl,hL6,h1,λs7 tn h7 w7=>?_⟩
  have off7:∀b' o',H b'=some o'->b'≠L->b'≠hl->(upd H6 L (.lst [.int s7])) b'=some o':=λb' o' e' n1 _=>by rw[Ad n1];exact S16 _ _ (sx1 _ _ n1 e')
  have hB7:BookAt a.Ao a.Ar (upd H6 L (.lst [.int s7])) b d xs:=hB6.upX Fw hL6
  have tp7:∀b' xs',H6 b'=some (.tup xs')->(upd H6 L (.lst [.int s7])) b'=some (.tup xs'):=λb' xs' e'=>by rw[Ad (Bg e' hL6 (λz=>nomatch z))];exact e'
  replace L0:=L0.upT (H':=upd H6 L (.lst [.int s7])) (λxs' e'=>by rw[Ad nD0.1];exact e') tp7
  replace L1:=L1.upT (H':=upd H6 L (.lst [.int s7])) (λxs' e'=>by rw[Ad nD1.1];exact e') tp7
  replace L2':=L2'.upT (H':=upd H6 L (.lst [.int s7])) (λxs' e'=>by rw[Ad nD2.1];exact e') tp7
  have hH7:HeldAt L hl (upd H6 L (.lst [.int s7])) hs:=hH6.up hL6 (by rw[Ad nLh.symm];exact hH6.at_) (λb' o' e' n1 _=>by rw[Ad n1];exact e')
  have nd7:∀r∈hs,∀l1 l2,(upd H6 L (.lst [.int s7])) r=some (.tup [.ref l1,.ref l2])->l1≠dl/\l2≠dl:=λr hr l1 l2 e=>by
   obtain⟨m1,m2,ks,e1,⟨_,a1,_⟩,⟨_,a2,_⟩,_⟩:=hH1.ok r hr
   have e2:=tp7 _ _ (S16 _ _ e1)
   rw[e] at e2
   cases e2
   exact⟨hdlx (S15 _ _ a1),hdlx (S15 _ _ a2)⟩
  have hdl7:(upd H6 L (.lst [.int s7])) dl=some (.lst ([D0,D1,D2].map V.ref)):=by rw[Ad ndl.1];exact hdl6
  have hL7:(upd H6 L (.lst [.int s7])) L=some (.lst [.int s7]):=Ab
  generalize upd H6 L (.lst [.int s7])=H7 at off7 hB7 L0 L1 L2' hH7 nd7 hdl7 hL7 ⊢
  obtain⟨db,hb7⟩:=hB7.ins
  refine⟨3,rfl,by decide,by decide,?_⟩
  refine Nl (n:=3) (λi σ H'=>∃(es hs':List Addr)(y1 y2 y3:Option V),(∀b' o',H7 b'=some o'->b'≠hl->b'≠dl->H' b'=some o')/\H' dl=some (.lst (es.map V.ref))/\es.length=3/\(∀e∈es,e≠L/\e≠hl/\e≠dl)/\(∀(w:Nat)(e:Addr),es[w]?=some e->(∀j:Nat,j<i->whN tn j≠(w:Int))->LsAt H' e (cW (ms.map λt=>.inl (.inr t)) (qs.map λx=>.inr x.1) (g8 (sps ls)) w))/\HeldAt L hl H' hs'/\(∀r∈hs',∀l1 l2,H' r=some (.tup [.ref l1,.ref l2])->l1≠dl/\l2≠dl)/\hs'.length<=hs.length+i/\σ=[some (.ref b),some (.ref p),some (.ref L),some (.ref hl),some (.int bg),some (.int en),some (.ref D1),some (.ref dl),some (.int tn),y1,y2,y3]) ?_ ?_ ?_
  ·
   refine⟨[D0,D1,D2],hs,_,_,_,λ_ _ e _ _=>e,hdl7,rfl,λe he=>?_,λw e he _=>?_,hH7,nd7,tq _,rfl⟩
   ·
    rcases uq.mp he with rfl|he
    · exact⟨nD0.1,nD0.2,nD0'⟩
    rcases uq.mp he with rfl|he
    · exact⟨nD1.1,nD1.2,nD1'⟩
    rw[tj] at he
    subst he
    exact⟨nD2.1,nD2.2,nD2'⟩
   ·
    match w,he with
    | 0,he=>have:=sy he;subst this;exact L0
    | 1,he=>have:=sy he;subst this;exact L1
    | 2,he=>have:=sy he;subst this;exact L2'
  ·
   rintro i σ Hh hi ⟨es,hs',y1,y2,y3,fr,hdl',hel,hen,hdu,hHh,hndh,hlh,rfl⟩
   refine⟨_,rfl,_,rfl,_,rfl,_,_,rfl,rfl,⟨by decide,by decide⟩,_,_,rfl,rfl,(by show(0:Int)<2;decide),_,_,rfl,rfl,_,_,rfl,rfl,.inl ⟨by lia,by lia⟩,_,_,rfl,rfl,_,_,rfl,rfl,(by show(0:Int)<3;decide),?_⟩
   have e3:(λi j=>V.int (i%j)) (tn+(0+(i:Int))*(1+tn/3%2)) 3=V.int (whN tn i):=by
    show V.int ((tn+(0+(i:Int))*(1+tn/3%2))%3)=_
    unfold whN
    rw[Int.zero_add]
   rw[e3]
   obtain⟨w,hw,hw3⟩:∃w:Nat,whN tn i=(w:Int)/\w<3:=⟨(whN tn i).toNat,by have:0<=whN tn i:=vf _ (by decide);lia,by have:whN tn i<3:=u0 _ (by decide);lia⟩
   rw[hw]
   have hun:∀j:Nat,j<i->whN tn j≠(w:Int):=λj hj z=>ni hi hj (z.trans hw.symm)
   have hBh:BookAt a.Ao a.Ar Hh b d xs:=⟨⟨db,fr _ _ hb7 (Bg hb7 hH7.at_ (λz=>nomatch z)) (Bg hb7 hdl7 (λz=>nomatch z))⟩,fr _ _ hB7.at_ (Bg hB7.at_ hH7.at_ (λz=>nomatch z)) (Bg hB7.at_ hdl7 (λz=>nomatch z)),λx hx=>let ⟨dx,e⟩:=hB7.ok x hx;⟨dx,fr _ _ e (Bg e hH7.at_ (λz=>nomatch z)) (Bg e hdl7 (λz=>nomatch z))⟩,hB7.nd,hB7.good,hB7.few⟩
   have hbh:=fr _ _ hb7 (Bg hb7 hH7.at_ (λz=>nomatch z)) (Bg hb7 hdl7 (λz=>nomatch z))
   have hLh:=fr _ _ hL7 nLh ndl.1.symm
   refine⟨_,rfl,b,_,db,_,_,rfl,hbh,rfl,⟨rfl,rfl⟩,b,d,xs,rfl,hBh,λl0 ms' hl0 hp0 hs0=>?_⟩
   have ems:ms'=ms:=dq ((hp0.trans (by rw[gc tk])).trans hpm.symm) hs0 hsm
   subst ems
   have v1:=Ah (o:=.lst (ms'.map V.str)) hl0
   have hBi:=hBh.up v1
   refine⟨λσ H'=>∃fd:Addr,Same Hh H'/\Hh fd=none/\LsAt H' fd (cW (ms'.map λt=>.inl (.inr t)) (qs.map λx=>.inr x.1) (g8 (sps ls)) w)/\σ=[some (.ref b),some (.ref p),some (.ref L),some (.ref hl),some (.int bg),some (.int en),some (.ref D1),some (.ref dl),some (.int tn),some (.int (0+(i:Int))),some (.int (w:Int)),some (.ref fd)],?_,?_⟩
   ·
    refine⟨_,rfl,_,_,rfl,rfl,_,rfl,?_⟩
    refine He (λz=>?_) (λz=>?_)
    ·
     have w0:¬w=0:=by have:=tw z;lia
     refine⟨_,rfl,rfl,_,rfl,?_⟩
     refine He (λz2=>?_) (λz2=>?_)
     ·
      have w1:w=1:=by have:=V.int.inj (tw z2);lia
      refine⟨_,rfl,b,_,db,_,_,rfl,v1 _ _ hbh,rfl,⟨rfl,rfl⟩,_,rfl,_,rfl,rfl,b,d,xs,bg,en,rfl,hBi,λl1 qs1 H' s' hl1 hT1 hp1 hr1=>?_⟩
      have ek:qs1.map (·.1)=qs.map (·.1):=cq ((hp1.trans (by rw[je tk])).trans hp.symm) hr1 hri
      refine⟨l1,v1.trans s',v1.free hl1,?_,rfl⟩
      unfold cW
      rw[if_neg w0,if_pos w1]
      have e5:(qs1.map λx=>(.inr x.1:NK))=qs.map λx=>.inr x.1:=by
       rw[show(qs1.map λx=>(.inr x.1:NK))=(qs1.map (·.1)).map Sum.inr by rw[uo];rfl,ek,uo]
       rfl
      rw[←e5]
      exact hT1.ls
     ·
      have w1:¬w=1:=λw1=>z2 (so (by rw[w1];rfl))
      refine⟨_,rfl,b,_,db,_,_,rfl,v1 _ _ hbh,rfl,⟨rfl,rfl⟩,_,rfl,_,rfl,rfl,b,d,xs,bg,en,rfl,hBi,λl1 H' ls1 s' hl1 hR1 hLd1 tk1 few1=>?_⟩
      refine⟨l1,v1.trans s',v1.free hl1,?_,rfl⟩
      unfold cW
      rw[if_neg w0,if_neg w1,←DL.uniq hLd1 hLd2 λm=>(tk1 m).trans ((and_congr_left λ_=>mw tk).trans (tk2 m).symm)]
      exact d6 hR1
    ·
     have w0:w=0:=by
      rcases Nat.eq_zero_or_pos w with e|e
      · exact e
      · exact absurd (so (show(0:Int)<(w:Int) by lia)) z
     refine⟨l0,v1,hl0,?_,rfl⟩
     unfold cW
     rw[if_pos w0]
     exact⟨_,Ab,Mu ms'⟩
   rintro _ H9 ⟨fd,s9,hfd0,hfd,rfl⟩
   obtain⟨du,hdu0⟩:∃du,es[w]?=some du:=⟨es[w]'(by lia),vq _⟩
   have hduL:=(hdu w du hdu0 hun).up s9
   obtain⟨ndu1,ndu2,ndu3⟩:=hen du (uz hdu0)
   have hdl9:=s9 _ _ hdl'
   have atw:atI (es.map V.ref) (w:Int)=some (.ref du):=Dv (by rw[ur,hdu0];rfl)
   have nfd:fd≠L/\fd≠hl/\fd≠dl:=⟨λz=>(by rw[z,hLh] at hfd0;exact nomatch hfd0),λz=>(by rw[z,hHh.at_] at hfd0;exact nomatch hfd0),λz=>(by rw[z,hdl'] at hfd0;exact nomatch hfd0)⟩
   obtain⟨fv,hfv,hfn⟩:=id hfd
   refine⟨_,rfl,_,_,_,_,rfl,Tz.lst hfv,rfl,_,rfl,?_⟩
   refine Jw ?_
   refine⟨_,rfl,_,rfl,_,rfl,dl,_,_,_,rfl,rfl,SqL.of hdl9,atw,fd,du,_,rfl,rfl,hfd,hduL,_,rfl,Jw ?_⟩
   have nfdu:du≠fd:=λz=>by
    obtain⟨dv,hdv,_⟩:=hdu w du hdu0 hun
    rw[z,hfd0] at hdv
    cases hdv
   have hcl:(cW (ms'.map λt=>.inl (.inr t)) (qs.map λx=>.inr x.1) (g8 (sps ls)) w).length<=100:=by
    have h1:ms'.length<=40:=by rw[hpm.length_eq,sf];exact hP.few
    have h2:(g8 (sps ls)).length<=41:=by unfold g8;rw[sf,Ek];lia
    unfold cW
    split
    · rw[sf];lia
    ·
     split
     · rw[sf];lia
     · lia
   refine⟨λσ H'=>∃(es':List Addr)(du':Addr)(ks:List NK),LsAt H' fd ks/\LsAt H' du' ks/\(∀b' o',Hh b'=some o'->b'≠dl->H' b'=some o')/\H' dl=some (.lst (es'.map V.ref))/\es'.length=3/\es'[w]?=some du'/\(∀v:Nat,v≠w->es'[v]?=es[v]?)/\(∀e∈es',e≠L/\e≠hl/\e≠dl)/\σ=[some (.ref b),some (.ref p),some (.ref L),some (.ref hl),some (.int bg),some (.int en),some (.ref D1),some (.ref dl),some (.int tn),some (.int (0+(i:Int))),some (.int (w:Int)),some (.ref fd)],?_,?_⟩
   ·
    refine⟨_,rfl,_,_,rfl,rfl,⟨by decide,by decide⟩,_,_,rfl,rfl,(by show(0:Int)<3;decide),rfl,_,rfl,?_⟩
    refine He (λ_=>?_) (λ_=>⟨es,du,_,hfd,hduL,λb' o' e' _=>s9 _ _ e',hdl9,hel,hdu0,λ_ _=>rfl,hen,rfl⟩)
    have hfl:fv.length<=100:=by rw[←hfn.length];exact hcl
    refine⟨_,rfl,.inl ⟨rfl,_,SqL.of hfv⟩,fd,_,_,rfl,rfl,hfv,ve hfl (by decide),?_⟩
    have tp1:=tpu (H:=H9) (a:=fd) (o:=.lst (fv++[.str "more"])) λxs' e=>by rw[hfv] at e;cases e
    have hdl10:(upd H9 fd (.lst (fv++[.str "more"]))) dl=some (.lst (es.map V.ref)):=by rw[Ad nfd.2.2.symm];exact hdl9
    have fr10:∀b' o',Hh b'=some o'->(upd H9 fd (.lst (fv++[.str "more"]))) b'=some o':=λb' o' e'=>by rw[Ad (Am e' hfd0)];exact s9 _ _ e'
    have hfd10:(upd H9 fd (.lst (fv++[.str "more"]))) fd=some (.lst (fv++[.str "more"])):=Ab
    obtain⟨dv,hdv,hdn⟩:=hduL
    have hdv10:(upd H9 fd (.lst (fv++[.str "more"]))) du=some (.lst dv):=by rw[Ad nfdu];exact hdv
    have hdl2:dv.length<=100:=by rw[←hdn.length];exact hcl
    generalize upd H9 fd (.lst (fv++[.str "more"]))=Ha at tp1 hdl10 fr10 hfd10 hdv10 ⊢
    refine⟨_,rfl,_,rfl,dl,_,_,_,rfl,rfl,SqL.of hdl10,atw,(by show 1<=sizeLine;decide),λm1 hm1=>?_⟩
    have v2:=Ah (o:=.lst [.str "more"]) hm1
    refine⟨du,m1,_,_,rfl,rfl,v2 _ _ hdv10,Ab,uy (show dv.length+1<=101 by lia) (by decide),λn hn=>?_⟩
    have v3:=v2.trans (Ah (o:=.lst (dv++[.str "more"])) hn)
    have hnv:(upd (upd Ha m1 (.lst [.str "more"])) n (.lst (dv++[.str "more"]))) n=some (.lst (dv++[.str "more"])):=Ab
    have hn0:Ha n=none:=v2.free hn
    generalize upd (upd Ha m1 (.lst [.str "more"])) n (.lst (dv++[.str "more"]))=Hb at v3 hnv ⊢
    have hdlb:=v3 _ _ hdl10
    refine⟨_,rfl,_,rfl,dl,_,_,w,rfl,rfl,hdlb,i6 (by rw[sf,hel];exact hw3),?_⟩
    rw[show(es.map V.ref).set w (.ref n)=(es.set w n).map V.ref from (List.map_set ..).symm]
    have tp2:=tpu (H:=Hb) (a:=dl) (o:=.lst ((es.set w n).map V.ref)) λxs' e=>by rw[hdlb] at e;cases e
    have tpA:∀b' xs',H9 b'=some (.tup xs')->(upd Hb dl (.lst ((es.set w n).map V.ref))) b'=some (.tup xs'):=λb' xs' e=>tp2 _ _ (v3 _ _ (tp1 _ _ e))
    have nn:∀{D':Addr}{o':HO},Hh D'=some o'->n≠D':=λ{D' o'}e z=>by rw[z] at hn0;rw[fr10 _ _ e] at hn0;cases hn0
    have more1:∀{Hx:Hp}{ks:List NK}{vs':List V},NkVs Hx ks vs'->NkVs Hx (ks++[.inl (.inr "more")]) (vs'++[.str "more"]):=λ{Hx ks vs'}h=>h.app (.cons rfl .nil)
    refine⟨es.set w n,n,_,⟨_,by rw[Ad nfd.2.2];exact v3 _ _ hfd10,more1 (hfn.up tpA)⟩,⟨_,by rw[Ad (nn hdl')];exact hnv,more1 (hdn.up tpA)⟩,λb' o' e' nb=>by rw[Ad nb];exact v3 _ _ (fr10 _ _ e'),Ab,by rw[List.length_set];exact hel,by rw[yz (by lia)],λv hv=>by rw[zj (zg hv)],λe he=>?_,rfl⟩
    rcases List.mem_or_eq_of_mem_set he with he|rfl
    · exact hen e he
    · exact⟨nn hLh,nn hHh.at_,nn hdl'⟩
   rintro _ Hc ⟨es',du',ks,hfc,hdc,frc,hdlc,helc,hduc,hsame,henc,rfl⟩
   have atc:atI (es'.map V.ref) (w:Int)=some (.ref du'):=Dv (by rw[ur,hduc];rfl)
   obtain⟨nd1,nd2,nd3⟩:=henc du' (uz hduc)
   have hhc:=frc _ _ hHh.at_ ndl.2.symm
   have hLc:=frc _ _ hLh ndl.1.symm
   have hHc:HeldAt L hl Hc hs':=hHh.up2 hhc frc hdl' hndh
   refine⟨_,rfl,.inl ⟨rfl,_,SqL.of hhc⟩,_,rfl,_,rfl,_,rfl,dl,_,_,_,rfl,rfl,SqL.of hdlc,atc,(by show 2<=sizeLine;decide),λr hr=>?_⟩
   have v4:=Ah (o:=.tup [.ref fd,.ref du']) hr
   have hrt:(upd Hc r (.tup [.ref fd,.ref du'])) r=some (.tup [.ref fd,.ref du']):=Ab
   have hrh:r≠hl:=λz=>by rw[z,hhc] at hr;cases hr
   have hrd:r≠dl:=λz=>by rw[z,hdlc] at hr;cases hr
   have hHd:=hHc.up hLc (v4 _ _ hhc) (λb' o' e' _ _=>v4 _ _ e')
   replace hfc:=hfc.up v4
   replace hdc:=hdc.up v4
   have frd:∀b' o',Hh b'=some o'->b'≠dl->(upd Hc r (.tup [.ref fd,.ref du'])) b'=some o':=λb' o' e' n=>v4 _ _ (frc _ _ e' n)
   have hdld:=v4 _ _ hdlc
   have hhd:=v4 _ _ hhc
   have hLd':=v4 _ _ hLc
   generalize upd Hc r (.tup [.ref fd,.ref du'])=Hd at v4 hrt hHd hfc hdc frd hdld hhd hLd' ⊢
   refine⟨hl,_,_,rfl,rfl,hhd,by rw[sf];exact ve (show hs'.length<=300 by lia) (by decide),?_⟩
   rw[show hs'.map V.ref++[.ref r]=(hs'++[r]).map V.ref by rw[uv];rfl]
   have tp4:=tpu (H:=Hd) (a:=hl) (o:=.lst ((hs'++[r]).map V.ref)) λxs' e=>by rw[hhd] at e;cases e
   have lsU:∀{D':Addr}{ks':List NK},D'≠hl->LsAt Hd D' ks'->LsAt (upd Hd hl (.lst ((hs'++[r]).map V.ref))) D' ks':=λ{D' ks'}n h=>h.upT (λxs' e=>by rw[Ad n];exact e) tp4
   refine⟨es',hs'++[r],_,_,_,λb' o' e' n1 n2=>by rw[Ad n1];exact frd _ _ (fr _ _ e' n1 n2) n2,by rw[Ad ndl.2];exact hdld,helc,henc,λw' e he hu=>?_,⟨Ab,λx hx=>?_⟩,λx hx l1 l2 e=>?_,by rw[ue];show hs'.length+1<=_;lia,rfl⟩
   ·
    have nw:w'≠w:=λz=>hu i (vt i) (by rw[z];exact hw)
    rw[hsame w' nw] at he
    have h1:=hdu w' e he λj hj=>hu j (wo hj)
    obtain⟨n1,n2,n3⟩:=hen e (uz he)
    refine lsU n2 (h1.upT (λxs' e'=>frd _ _ e' n3) λb' xs' e'=>frd _ _ e' (Bg e' hdl' (λz=>nomatch z)))
   ·
    rcases uh.mp hx with hx|hx
    ·
     obtain⟨l1,l2,ks',e,a1,a2,n1,n2,n3,n4⟩:=hHd.ok x hx
     exact⟨l1,l2,ks',tp4 _ _ e,lsU n3 a1,lsU n4 a2,n1,n2,n3,n4⟩
    ·
     rw[tj] at hx
     subst hx
     exact⟨fd,du',ks,tp4 _ _ hrt,lsU nfd.2.1 hfc,lsU nd2 hdc,nfd.1,nd1,nfd.2.1,nd2⟩
   ·
    rcases uh.mp hx with hx|hx
    ·
     obtain⟨m1,m2,ks',e1,_⟩:=hHh.ok x hx
     have e2:=tp4 _ _ (frd _ _ e1 (Bg e1 hdl' (λz=>nomatch z)))
     rw[e] at e2
     cases e2
     exact hndh x hx _ _ e1
    ·
     rw[tj] at hx
     subst hx
     have e2:=tp4 _ _ hrt
     rw[e] at e2
     cases e2
     exact⟨nfd.2.2,nd3⟩
  ·
   rintro σ Hh ⟨es,hs',y1,y2,y3,fr,hdl',hel,hen,hdu,hHh,hndh,hlh,rfl⟩
   refine k s7 hs' Hh (λb' o' e' n1 n2=>?_) (fr _ _ hL7 nLh ndl.1.symm) h7 hHh (by lia)
   refine fr _ _ (off7 b' o' e' n1 n2) n2 (λz=>?_)
   rw[z] at e'
   have:=S15 _ _ (sx1 _ _ ndl.1 e')
   rw[hdl] at this
   cases this
theorem B9:A3 ["_law_book","_law_plain","_law_names_here","_law_state","_law_cell_here","_law_kind","_law_name","_law_good","_law_begin","_law_far","_law_end","_law_due_here"] ["_law_book","_law_plain","_law_names_here","_law_state","_law_cell_here"] (Ai F7):=⟨rfl,rfl,rfl,by decide+kernel,rfl,by decide+kernel,by decide+kernel⟩
theorem Um (T:Txt K mg a):FnOk P w K mg base CX0 true 9 a.Jl a.Jr ["_law_book","_law_plain","_law_names_here","_law_state","_law_cell_here"] (Tg a.Ao a.Ar):=by
 refine T.O2.ok B9 (λvs H Q E h=>?_) (λcdv A outer s H vs Q E hr h=>?_)
 · obtain⟨b,d,p,NL,L,xs,ys,ns,s,c,rfl,_⟩:=h;rfl
 ·
  obtain⟨b,d,p,NL,L,xs,ys,ns,s0,c,rfl,hD,k⟩:=h
  refine⟨_,(Af (Au (i:=5) B9.nd rfl (Or.inl rfl) (Av Bz (As ((A1 T).mono (by decide)) hr rfl T.Bc T.A8.kp T.Be .nil Bm (Aa (pv 3) (Aa (pv 4) Ac))) Ae))
   (Af (Au (i:=6) B9.nd rfl (Or.inl rfl) (A7 (Bb (K:=K) rfl) (pv 2) (Av Bz (As ((A1 T).mono (by decide)) hr rfl T.Bc T.A8.kp T.Be .nil Bm (Aa (pv 3) (Aa Ae Ac))) (An (E9 (K:=K) rfl) rfl T.K9 (by decide+kernel) (Aa (pv 2) Ac))) (λ_ _=>rfl)))
   (Af (Au (i:=7) B9.nd rfl (Or.inl rfl) (J2 V6 (Av Bz (As ((A1 T).mono (by decide)) hr rfl T.Bc T.A8.kp T.Be .nil Bm (Aa (pv 3) (Aa Ae Ac))) Ae) Ae (A4 _)))
   (K8 (C3 (L6 (I0 (pv 7))) (Aj (Au (i:=6) B9.nd rfl (Or.inl rfl) (A7 (Bb (K:=K) rfl) (Ef (Pg [.str "",.str "A",.str "9a",.str "abcdefghi",.str "a b",.str "aB",.str "a_",.str "a-"] (by decide+kernel))) (Av Bz (As ((A1 T).mono (by decide)) hr rfl T.Bc T.A8.kp T.Be .nil Bm (Aa (pv 3) (Aa Ae Ac))) Ae) (λ_ _=>rfl)))) Ba)
   (Af (Au (i:=8) B9.nd rfl (Or.inl rfl) (As ((Kd T).mono (by decide)) hr rfl T.L5 T.Ir.kp T.Lr .nil Bm (Aa (pv 3) Ac)))
   (Af (Au (i:=9) B9.nd rfl (Or.inl rfl) (Av Bz (As ((A1 T).mono (by decide)) hr rfl T.Bc T.A8.kp T.Be .nil Bm (Aa (pv 3) (Aa Ae Ac))) Ae))
   (Af (Au (i:=10) B9.nd rfl (Or.inl rfl) (Av B0 (pv 8) (A7 (Bb (K:=K) rfl) (Ef (Aa Ae (Aa (Av Lw Ae (Av Bz (pv 9) Ae)) (Aa Ae (Aa (Av B0 Ae (pv 9)) (Aa (Av B0 Ae (pv 9)) (Aa (Av B0 Ae (Av Bz (pv 9) Ae)) Ac))))))) (Av Bz (As ((A1 T).mono (by decide)) hr rfl T.Bc T.A8.kp T.Be .nil Bm (Aa (pv 3) (Aa Ae Ac))) Ae) (λ_ _=>rfl))))
   (Af (Au (i:=11) B9.nd rfl (Or.inl rfl) (As ((Wt T).mono (by decide)) hr rfl T.Zs T.Sd.kp T.Y3 .nil Bm (Aa (pv 1) (Aa (pv 6) (Aa (pv 8) (Aa (pv 10) (Aa (pv 7) Ac)))))))
   (K8 (C3 (Aw Kn (pv 5) Ae (A4 _)) (Aj (Au (i:=11) B9.nd rfl (Or.inl rfl) (Je (Ve (Zd (Ny hr) (pv 6) (pv 1)) (by with_unfolding_all rfl)) C1 C1))) Ba)
   (Af (C3 (Aw o3 (As ((Qs T).mono (by decide)) hr rfl T.Tp T.Nd.kp T.Tf .nil Bm (Aa (pv 0) (Aa (pv 5) (Aa (pv 6) (Aa (pv 8) (Aa (pv 10) Ac)))))) (pv 11) (A4 _)) (Aj (A5 Sn)) Ba)
   (Af (C3 (PW.pt (Of (Aw Kn (pv 11) C1 (A4 _)) (Lm (Aw Kn (pv 5) Ae (A4 _))))) (Aj (Dx (U3 (pv 1) (pv 6) ⟨rfl,rfl,rfl,rfl⟩))) (Aj (C3 (Aw Kn (pv 11) C1 (A4 _)) (Aj (Ug (Ny hr) (pv 1) (pv 6) (E3 (Aa (pv 8) (Aa (pv 10) Ac))) rfl)) Ba)))
   (Aj (A5 Sn))))))))))))),?_⟩
  have nNL:NL≠L:=λe=>by
   have h1:=hD.nl
   rw[e,hD.st] at h1
   have h1:=sy h1
   injection h1 with h1
   cases ns with
   | nil=>have:=hD.n1;simp at this
   | cons t ns=>injection h1 with h1 _;cases h1
  have sx0:=SameX.refl L H
  refine⟨_,rfl,_,rfl,L,s0,_,rfl,hD.st,hD.rg,λs1 v1 h1 w1=>⟨_,_,rfl,rfl,(by show(0:Int)<4;decide),?_⟩⟩
  refine⟨_,rfl,_,rfl,L,s1,_,rfl,Ab,h1,λs2 v2 h2 w2=>?_⟩
  rw[Dw]
  have hN2:(upd H L (.lst [.int s2])) NL=some (.lst (ns.map V.str)):=by rw[Ad nNL];exact hD.nl
  refine⟨_,rfl,NL,_,rfl,.inl (SqL.of hN2),_,_,rfl,rfl,(by rw[sf];have:=hD.n1;lia),?_⟩
  rw[sf]
  obtain⟨nm0,hnm0,ea⟩:=Pm (ts:=ns) (i:=v2%(ns.length:Int)) (vf _ (by have:=hD.n1;lia)) (u0 _ (by have:=hD.n1;lia))
  refine⟨NL,_,_,_,rfl,rfl,SqL.of hN2,ea,?_⟩
  refine⟨_,rfl,L,s2,_,rfl,Ab,h2,λs3 v3 h3 w3=>⟨_,_,rfl,rfl,(by show(0:Int)<9;decide),_,_,rfl,rfl,?_⟩⟩
  rw[Dw]
  refine⟨λσ H'=>∃(nm:Str)(g:Bool)(s':Int),SameX L H H'/\H' L=some (.lst [.int s'])/\Rg s'/\g=Gi nm.cps.toList/\nm.length<=1000/\σ=[some (.ref b),some (.ref p),some (.ref NL),some (.ref L),some (.int c),some (.int (v1%4)),some (.str nm),some (.bl g),none,none,none,none],?_,?_⟩
  ·
   refine⟨_,rfl,_,rfl,?_⟩
   by_cases hg:v3%9>0
   ·
    rw[so hg]
    refine Jw ?_
    obtain⟨q1,q2⟩:=hD.nn nm0 hnm0
    exact⟨nm0,decide (0<v3%9),s3,Fw,Ab,h3,by rw[so hg];exact q1.symm,by lia,rfl⟩
   ·
    rw[ua hg]
    refine P8 ?_
    refine⟨(by show 8<=sizeLine;decide),λl hl=>⟨_,rfl,L,s3,_,rfl,Ah hl _ _ Ab,h3,λs4 v4 h4 w4=>⟨_,_,rfl,rfl,(by show(0:Int)<8;decide),?_⟩⟩⟩
    have hlL:l≠L:=λe=>by rw[e,Ab] at hl;cases hl
    obtain⟨nm1,hnm1,ea1⟩:=Pm (ts:=qa) (i:=v4%8) (vf _ (by decide)) (u0 _ (by decide))
    refine⟨l,_,_,_,rfl,rfl,SqL.of (by rw[Ad hlL];exact Ab),ea1,?_⟩
    obtain⟨q1,q2⟩:=ip nm1 hnm1
    exact⟨nm1,decide (0<v3%9),s4,(Fw.tr (SameX.of (Ah hl))).tr Fw,Ab,h4,by rw[ua hg];exact q1.symm,q2,rfl⟩
  rintro _ H1 ⟨nm,gd,s4,sx1,hL1,h4,hgd,hnl,rfl⟩
  refine⟨_,rfl,L,s4,rfl,hL1,h4,λs5 bg h5=>?_⟩
  refine⟨_,rfl,L,s5,_,rfl,Ab,h5,λs6 v6 h6 w6=>⟨_,_,rfl,rfl,(by show(0:Int)<3000;decide),?_⟩⟩
  rw[Dw]
  have sx2:SameX L H (upd H1 L (.lst [.int s6])):=sx1.tr Fw
  have hL2:(upd H1 L (.lst [.int s6])) L=some (.lst [.int s6]):=Ab
  generalize upd H1 L (.lst [.int s6])=H2 at sx2 hL2 ⊢
  refine⟨_,rfl,_,rfl,_,_,rfl,rfl,(by show(0:Int)<300;decide),_,_,rfl,rfl,_,rfl,_,_,rfl,rfl,_,rfl,_,_,rfl,rfl,_,rfl,_,_,rfl,rfl,(by show(0:Int)<100;decide),_,_,rfl,rfl,(by show 6<=sizeLine;decide),λl hl=>⟨_,rfl,L,s6,_,rfl,Ah hl _ _ hL2,h6,λs7 v7 h7 w7=>⟨_,_,rfl,rfl,(by show(0:Int)<6;decide),?_⟩⟩⟩
  have hlL:l≠L:=λe=>by rw[e,hL2] at hl;cases hl
  obtain⟨far,hfar,ea3⟩:=Vz (ts:=[0,0-v6%3000%300,1,1+v6%3000,1+v6%3000,1+v6%3000%100]) (i:=v7%6) (vf _ (by decide)) (u0 _ (by decide))
  refine⟨l,_,_,_,rfl,rfl,SqL.of (by rw[Ad hlL];exact Ab),ea3,_,_,rfl,rfl,?_⟩
  have sx3:=(sx2.tr (SameX.of (Ah (o:=.lst [.int 0,.int (0-v6%3000%300),.int 1,.int (1+v6%3000),.int (1+v6%3000),.int (1+v6%3000%100)]) hl))).tr (Fw (L:=L) (o:=.lst [.int s7]))
  have hL3:(upd (upd H2 l (.lst [.int 0,.int (0-v6%3000%300),.int 1,.int (1+v6%3000),.int (1+v6%3000),.int (1+v6%3000%100)])) L (.lst [.int s7])) L=some (.lst [.int s7]):=Ab
  show ph _ _ _ _ (upd (upd H2 l (.lst [.int 0,.int (0-v6%3000%300),.int 1,.int (1+v6%3000),.int (1+v6%3000),.int (1+v6%3000%100)])) L (.lst [.int s7]))
  generalize upd (upd H2 l (.lst [.int 0,.int (0-v6%3000%300),.int 1,.int (1+v6%3000),.int (1+v6%3000),.int (1+v6%3000%100)])) L (.lst [.int s7])=H3 at sx3 hL3 ⊢
  have hB3:=hD.bk.upX sx3 hD.st
  have hP3:=hD.pl.upX sx3 hD.st
  refine⟨_,rfl,_,rfl,_,rfl,_,rfl,_,rfl,p,ys,nm,bg,bg+far,gd,rfl,hP3,hgd,?_⟩
  refine⟨λσ H'=>H'=H3/\σ=[some (.ref b),some (.ref p),some (.ref NL),some (.ref L),some (.int c),some (.int (v1%4)),some (.str nm),some (.bl gd),some (.int bg),some (.int (v6%3000)),some (.int (bg+far)),some (.str (Fs (v1%4) ys nm bg (bg+far)))],?_,?_⟩
  ·
   refine⟨_,rfl,rfl,_,rfl,?_⟩
   refine He (λz=>?_) (λz=>?_)
   ·
    have hk:v1%4=0:=V.int.inj (tw z)
    refine⟨_,rfl,_,rfl,p,_,rfl,DGet.k (k:=Sum.inr nm) hP3.at_,_,rfl,?_⟩
    rw[Qx]
    by_cases hm:nm∈ys.map thN
    ·
     rw[so hm]
     exact P8 ⟨rfl,by unfold Fs;rw[if_pos hk,if_pos hm];rfl⟩
    ·
     rw[ua hm]
     exact Jw ⟨rfl,by unfold Fs;rw[if_pos hk,if_neg hm];rfl⟩
   ·
    have hk:¬v1%4=0:=λw=>z (so (vi V.int w))
    exact⟨rfl,by rw[Tb hk];rfl⟩
  rintro _ H3 ⟨rfl,rfl⟩
  have etr:=cc (nm:=nm) (k:=v1%4) (b:=bg) (e:=bg+far) hD.tk
  have hNL3:=sx3 _ _ nNL hD.nl
  have off3:Off3 d p L H H3:=λb' o' e' _ _ nL=>sx3 _ _ nL e'
  refine⟨_,rfl,_,rfl,_,rfl,_,rfl,_,rfl,b,d,xs,v1%4,nm,bg,bg+far,rfl,hB3,hnl,λhne H4 s4=>?_,λhe o H4 sx4 hB4=>?_⟩
  ·
   rw[etr] at hne ⊢
   refine⟨_,rfl,rfl,_,rfl,?_⟩
   refine He (λz=>by rw[so rfl] at z;cases z) (λ_=>?_)
   have hnv:¬decide (V.str (Fs (v1%4) ys nm bg (bg+far))=V.str "")=true:=λw=>hne (V.str.inj (tw w))
   refine⟨_,rfl,rfl,_,rfl,?_⟩
   refine He (λz=>absurd z hnv) (λ_=>Jw ?_)
   refine⟨_,rfl,rfl,_,rfl,?_⟩
   refine He (λz=>absurd z hnv) (λ_=>?_)
   refine k xs ys s7 H4 (λb' o' e' n1 n2 n3=>s4 _ _ (off3 b' o' e' n1 n2 n3)) ⟨hB3.up s4,hP3.up s4,hD.tk,s4 _ _ hNL3,hD.n1,hD.nn,s4 _ _ hL3,h7,hD.dp⟩
  rw[etr] at he
  rw[he]
  refine⟨_,rfl,rfl,_,rfl,?_⟩
  refine He (λz=>by rw[so rfl] at z;cases z) (λ_=>?_)
  have hP4:PlainAt H4 p ys:=⟨sx4 _ _ hD.dp.symm hP3.at_,λx hx=>sx4 _ _ (Bg (hP3.ok x hx) hB3.at_ (λz=>nomatch z)) (hP3.ok x hx),hP3.nd,hP3.good,hP3.few⟩
  have hNL4:=sx4 _ _ (Bg hNL3 hB3.at_ (λz=>nomatch z)) hNL3
  have hL4:=sx4 _ _ (Bg hL3 hB3.at_ (λz=>nomatch z)) hL3
  have off4:Off3 d p L H H4:=λb' o' e' n1 n2 n3=>sx4 _ _ n1 (off3 b' o' e' n1 n2 n3)
  refine⟨_,rfl,rfl,_,rfl,?_⟩
  refine He (λ_=>?_) (λz=>absurd (so rfl) z)
  refine⟨_,rfl,rfl,_,rfl,?_⟩
  have bkU:∀{H':Hp}{zs:List TH}{o':HO},BookAt a.Ao a.Ar H' b d zs->H' p=some (.dK (kvT ys))->BookAt a.Ao a.Ar (upd H' p o') b d zs:=λ{H' zs o'}h hp=>by
   refine⟨let ⟨db,e⟩:=h.ins;⟨db,by rw[Ad (Bg e hp (λz=>nomatch z))];exact e⟩,by rw[Ad hD.dp];exact h.at_,λx hx=>let ⟨dx,e⟩:=h.ok x hx;⟨dx,by rw[Ad (Bg e hp (λz=>nomatch z))];exact e⟩,h.nd,h.good,h.few⟩
  refine He (λz=>?_) (λz=>?_)
  ·
   have hk:v1%4=0:=V.int.inj (tw z)
   rw[if_pos hk] at hB4
   have hm:nm∈ys.map thN:=by
    unfold Fs at he
    rw[if_pos hk] at he
    by_cases hm:nm∈ys.map thN
    · exact hm
    · rw[if_neg hm] at he;exact absurd he (by decide)
   obtain⟨x,hx,rfl⟩:=t6.mp hm
   refine⟨_,rfl,p,rfl,.inl ⟨_,.inl hP4.at_⟩,_,rfl,kvT ys,Sum.inr (thN x),_,hP4.at_,rfl,Sg hP4.nd hx,?_⟩
   rw[Yg]
   refine k _ _ s7 _ (λb' o' e' n1 n2 n3=>by rw[Ad n2];exact off4 b' o' e' n1 n2 n3) ⟨bkU hB4 hP4.at_,hP4.drop _,fo hD.tk,?_,hD.n1,hD.nn,?_,h7,hD.dp⟩
   · rw[Ad (Bg hNL4 hP4.at_ (λz=>nomatch z))];exact hNL4
   · rw[Ad (Bg hL4 hP4.at_ (λz=>nomatch z))];exact hL4
  ·
   have hk:¬v1%4=0:=λw=>z (so (vi V.int w))
   rw[if_neg hk] at hB4
   rw[Tb hk] at he
   obtain⟨r0,hbe⟩:=f6 he
   obtain⟨r1,r2,r3⟩:=gk r0
   refine⟨_,rfl,rfl,_,rfl,?_⟩
   refine He (λ_=>?_) (λz=>absurd (so rfl) z)
   refine⟨_,rfl,_,rfl,(by show 2<=sizeLine;decide),λt ht=>?_⟩
   have u1:=Ah (o:=.tup [.int bg,.int (bg+far)]) ht
   refine⟨_,rfl,_,rfl,p,_,rfl,DPut.k (k:=Sum.inr nm) (u1 _ _ hP4.at_) (by rw[Qq];exact ve hP4.few (by decide)),?_⟩
   rw[Yz (b:=bg) (e:=bg+far) (o:=t) r3]
   refine k (xs++[(nm,o,bg,bg+far)]) (ys++[(nm,t,bg,bg+far)]) s7 _ (λb' o' e' n1 n2 n3=>by rw[Ad n2];exact u1 _ _ (off4 b' o' e' n1 n2 n3)) ⟨bkU (hB4.up u1) (u1 _ _ hP4.at_),(hP4.up u1).add Ab r1 r3 hbe,by rw[uv,uv,hD.tk];rfl,?_,hD.n1,hD.nn,?_,h7,hD.dp⟩
   · rw[Ad (Bg hNL4 hP4.at_ (λz=>nomatch z))];exact u1 _ _ hNL4
   · rw[Ad (Bg hL4 hP4.at_ (λz=>nomatch z))];exact u1 _ _ hL4
theorem Ip:A3 ["_law_script","_law_state","_law_many","_law_names_here","_law_book","_law_other","_law_plain","_law_held","_law_name","_law_cell_here"] ["_law_script"] (Ai T4):=⟨rfl,rfl,rfl,by decide+kernel,rfl,by decide+kernel,by decide+kernel⟩
theorem jf (T:Txt K mg a):FnOk P w K mg base CX0 true 11 a.Wc a.S8 ["_law_script"] (Vi K):=by
 refine T.m8.ok Ip (λvs H Q E h=>?_) (λcdv A outer s H vs Q E hr h=>?_)
 · obtain⟨sa,ns,rfl,_⟩:=h;rfl
 ·
  obtain⟨sa,ns,rfl,hS,hlen,k⟩:=h
  refine⟨_,(Af (Au (i:=1) Ip.nd rfl (Or.inl rfl) (Ef (Aa (Av B0 Ae (Av Bz (As ((Tq T).mono (by decide)) hr rfl T.Xj T.Od.kp T.W8 .nil Bm (Aa (pv 0) (Aa Ae Ac))) Ae)) Ac)))
   (Af (Au (i:=2) Ip.nd rfl (Or.inl rfl) (Av B0 Ae (Av Bz (As ((A1 T).mono (by decide)) hr rfl T.Bc T.A8.kp T.Be .nil Bm (Aa (pv 1) (Aa Ae Ac))) Ae)))
   (K8 (C3 (Aw Kn (Av Bz (As ((A1 T).mono (by decide)) hr rfl T.Bc T.A8.kp T.Be .nil Bm (Aa (pv 1) (Aa Ae Ac))) Ae) Ae (A4 _)) (Aj (Au (i:=2) Ip.nd rfl (Or.inl rfl) Ae)) Ba)
   (Af (Au (i:=3) Ip.nd rfl (Or.inl rfl) (As ((Rn T).mono (by decide)) hr rfl T.T3 T.Ng.kp T.S7 .nil Bm (Aa (pv 1) (Aa (pv 2) Ac))))
   (Af (Au (i:=4) Ip.nd rfl (Or.inl rfl) (Vk T.Lf ((Jt T).mono (by decide)) hr rfl T.d3 T.Kr .nil Bm))
   (Af (Au (i:=5) Ip.nd rfl (Or.inl rfl) (Vk T.Lf ((Jt T).mono (by decide)) hr rfl T.d3 T.Kr .nil Bm))
   (Af (Dx (Gy (n:=3) (D:=λC R=>(C=a.Ao/\R=λx vs H Q=>(Gx a.Ao a.Ar a.Aq a.Ag a.Al a.Ak) (x::(vs++([]:List V))) H Q (λ_ _ _=>False))) (pv 5) (by rintro C R ⟨rfl,rfl⟩<;>first|exact⟨T.Cm,_,_,_,_,_,_,_,_,_,_,T.Jb,(Iu T).mono (by decide),hr,T.Jz,.nil,i5,λ_ _ _ _ _ h=>h⟩) (Aa (A7 (Bb (K:=K) rfl) (pv 3) Ae (λ_ _=>rfl)) (Aa Ae (Aa Ae Ac)))))
   (Af (Au (i:=6) Ip.nd rfl (Or.inl rfl) Qe)
   (Af (Au (i:=7) Ip.nd rfl (Or.inl rfl) (Ef Ac))
   (K8 (C3 (Aw Kn (pv 2) Ae (A4 _)) (Aj (Js wj rfl (Et (K:=K) rfl (Jm (Uv (K:=K) rfl) (pv 3) Mt (Jx Ae))) (Ca (i:=8) Ip.nd rfl (Or.inl rfl)) (Af (Dx (Gy (n:=3) (D:=λC R=>(C=a.Ao/\R=λx vs H Q=>(Gx a.Ao a.Ar a.Aq a.Ag a.Al a.Ak) (x::(vs++([]:List V))) H Q (λ_ _ _=>False))) (pv 4) (by rintro C R ⟨rfl,rfl⟩<;>first|exact⟨T.Cm,_,_,_,_,_,_,_,_,_,_,T.Jb,(Iu T).mono (by decide),hr,T.Jz,.nil,i5,λ_ _ _ _ _ h=>h⟩) (Aa (pv 8) (Aa Ae (Aa Ae Ac)))))
   (Aj (Ug (Ny hr) (pv 6) (pv 8) (E3 (Pg [.int 7,.int 8] (by decide+kernel))) rfl))))) Ba)
   (Af (Js wj rfl (Et (K:=K) rfl (Jm (Uv (K:=K) rfl) (pv 0) (Jx Ae) (Jx Ae))) (Ca (i:=9) Ip.nd rfl (Or.inl rfl)) (Aj (C3 (PW.pt (Yv (L6 (I0 (As ((Um T).mono (by decide)) hr rfl T.Xm T.O2.kp T.Xo .nil Bm (Aa (pv 4) (Aa (pv 6) (Aa (pv 3) (Aa (pv 1) (Aa (pv 9) Ac)))))))) (Qv (L6 (I0 (As ((Ta T).mono (by decide)) hr rfl T.Wd T.O0.kp T.W7 .nil Bm (Aa (pv 4) (Aa (pv 6) (Aa (pv 1) (Aa (pv 7) Ac)))))))))) (Aj (A5 Sn)) Ba)))
   (Af (C3 (PW.pt (Yv (Aw (Pa (hu2 hr)) (Gy (n:=2) (D:=λC R=>(C=a.Ao/\R=λx vs H Q=>(F6 a.Ao a.Ar) (x::(vs++([]:List V))) H Q E0)) (pv 5) (by rintro C R ⟨rfl,rfl⟩<;>first|exact⟨T.Cm,_,_,_,_,_,_,_,_,_,_,T.Hl,(Hk T).mono (by decide),hr,T.Iy,.nil,Bm,λ_ _ _ _ _ h=>h⟩) (Pg [.int 5,.int 6] (by decide+kernel))) (Ef (Aa (E3 (Aa Ae (Aa Ae (Aa (A7 (Bb (K:=K) rfl) (pv 3) Ae (λ_ _=>rfl)) Ac)))) Ac)) (A4 _)) (Qv (Aw (Pa (hu2 hr)) (Qn (D:=λC R=>(C=a.Ao/\R=λx vs H Q=>(G0 a.Ao a.Ar) (x::(vs++([]:List V))) H Q E0)) (pv 5) (by rintro C R ⟨rfl,rfl⟩<;>first|exact⟨T.Cm,_,_,_,_,_,_,_,_,_,_,T.Ju,(Jv T).mono (by decide),hr,T.Kz,.nil,Bm,λ_ _ _ _ _ h=>h⟩)) (Ef (Aa (A7 (Bb (K:=K) rfl) (pv 3) Ae (λ_ _=>rfl)) Ac)) (A4 _))))) (Aj (A5 Sn)) Ba)
   (Aj (A5 (J2 (bw (hu2 hr)) (Lh (N:=["_law_one"]) (cap:=[none]) (by show D6 (Ai T4) _ ["_law_script","_law_state","_law_many","_law_names_here","_law_book","_law_other","_law_plain","_law_held","_law_name","_law_cell_here"] _ _;exact⟨rfl,by decide+kernel,by decide+kernel,by decide+kernel,by decide+kernel,rfl,by decide+kernel⟩) rfl (Et (K:=K) rfl (pv 7)) (λC s H fp=>⟨(Ca (i:=0) (by show(["_law_one"]:List Str).Nodup;decide+kernel) rfl (Or.inl rfl) (.inr rfl)),(Yr (Aw (Pa (hu2 hr)) (A7 (A0 (K:=K) rfl) (pv 0) Ae (λ_ _=>rfl)) (A7 (A0 (K:=K) rfl) (pv 0) Ae (λ_ _=>rfl)) (A4 _))),(pv 0)⟩)) (Ef Ac) (A4 _)))))))))))))))),?_⟩
  refine⟨_,rfl,sa,ns,_,rfl,hS,by decide,λv0=>⟨_,_,rfl,rfl,(by show(0:Int)<2147483646;decide),_,_,rfl,rfl,(by show 1<=sizeLine;decide),λL hL=>?_⟩⟩
  have r0:Rg (1+v0%2147483646):=⟨by have:=vf v0 (show(2147483646:Int)≠0 by decide);lia,by have:=u0 v0 (show(0:Int)<2147483646 by decide);lia⟩
  refine⟨_,rfl,L,_,_,rfl,Ab,r0,λs1 v1 h1 w1=>⟨_,_,rfl,rfl,(by show(0:Int)<12;decide),_,_,rfl,rfl,?_⟩⟩
  rw[Dw]
  refine⟨λσ H'=>∃(m s':Int),1<=m/\m<=42/\Rg s'/\H'=upd H L (.lst [.int s'])/\σ=[some (.ref sa),some (.ref L),some (.int m),none,none,none,none,none,none,none],?_,?_⟩
  ·
   refine⟨_,rfl,L,s1,_,rfl,Ab,h1,λs2 v2 h2 w2=>⟨_,_,rfl,rfl,(by show(0:Int)<4;decide),rfl,_,rfl,?_⟩⟩
   rw[Dw]
   refine He (λ_=>?_) (λ_=>?_)
   · exact⟨42,s2,by decide,by decide,h2,rfl,rfl⟩
   · exact⟨1+v1%12,s2,by have:=vf v1 (show(12:Int)≠0 by decide);lia,by have:=u0 v1 (show(0:Int)<12 by decide);lia,h2,rfl,rfl⟩
  rintro _ H1 ⟨m,s2,m1,m2,h2,rfl,rfl⟩
  refine⟨_,rfl,_,rfl,L,s2,m,rfl,Ab,h2,m1,m2,λNL nms s3 H2 h3 sx2 hL2 nNL hNL hnl hnn hnd=>?_⟩
  have S2:Same H H2:=λb' o' e'=>sx2 _ _ (Am e' hL) (by rw[Ad (Am e' hL)];exact e')
  have hn1:1<=nms.length:=by lia
  refine λb db nb ndb neb=>⟨b,db,rfl,Ab,λd hd=>⟨rfl,?_⟩⟩
  obtain⟨S3,hB3,hd0⟩:=Vm (O:=a.Ar) nb ndb neb hd
  generalize upd (upd (upd (upd H2 db (.own b)) b (.ins a.Ao db [])) d (.dK [])) b (.ins a.Ao db [("by_name",.ref d)])=H3 at S3 hB3 ⊢
  refine λob odb nob nodb neob=>⟨ob,odb,rfl,Ab,λod hod=>⟨rfl,?_⟩⟩
  obtain⟨S4,hO4,hod0⟩:=Vm (O:=a.Ar) nob nodb neob hod
  generalize upd (upd (upd (upd H3 odb (.own ob)) ob (.ins a.Ao odb [])) od (.dK [])) ob (.ins a.Ao odb [("by_name",.ref od)])=H4 at S4 hO4 ⊢
  have hB4:=hB3.up S4
  have nod:od≠d:=λz=>by rw[z,hB3.at_] at hod0;cases hod0
  have S24:=S3.trans S4
  have hNL4:=S24 _ _ hNL
  obtain⟨nm0,nr,enm⟩:∃nm0 nr,nms=nm0::nr:=by cases nms with|nil=>simp at hn1|cons x y=>exact⟨x,y,rfl⟩
  have hnm0:=hnn nm0 (by rw[enm];exact sk)
  have at0:atI (nms.map V.str) 0=some (.str nm0):=by rw[enm];exact Dv (j:=0) rfl
  obtain⟨odb',hob4⟩:=hO4.ins
  have r0':Hj [] nm0=0:=Vg (by show ¬40<=0;decide) hnm0.1 (λz=>nomatch z)
  refine⟨_,rfl,ob,_,odb',_,_,rfl,hob4,rfl,⟨rfl,rfl⟩,_,rfl,NL,_,_,_,rfl,rfl,SqL.of hNL4,at0,rfl,ob,od,[],nm0,5,9,rfl,hO4,by lia,λ_ _ o0 H5 sx5 hO5=>?_,λh=>absurd (h.symm.trans r0') (by decide),λh=>absurd (h.symm.trans r0') (by decide),λh=>absurd (h.symm.trans r0') (by decide),λ_ h=>absurd (show(5:Int)<9 by decide) h⟩
  have S25:Same H2 H5:=λc o e=>sx5 _ _ (λz=>by rw[z,S3.free hod0] at e;cases e) (S24 _ _ e)
  have hB5:BookAt a.Ao a.Ar H5 b d []:=⟨let ⟨x,e⟩:=hB4.ins;⟨x,sx5 _ _ (Bg e hO4.at_ (λz=>nomatch z)) e⟩,sx5 _ _ nod.symm hB4.at_,(λ_ z=>nomatch z),.nil,(λ_ z=>nomatch z),u5 _⟩
  refine λp hp=>⟨by decide,λhl hhl=>?_⟩
  have u6:=Ah (o:=.dK []) hp
  have u7:=u6.trans (Ah (o:=.lst []) hhl)
  have hp7:(upd (upd H5 p (.dK [])) hl (.lst [])) p=some (.dK (kvT [])):=Ah hhl _ _ Ab
  have hh7:(upd (upd H5 p (.dK [])) hl (.lst [])) hl=some (.lst (([]:List Addr).map V.ref)):=Ab
  have hl0:=u6.free hhl
  generalize upd (upd H5 p (.dK [])) hl (.lst [])=H7 at u7 hp7 hh7 ⊢
  have hL7:=u7 _ _ (S25 _ _ hL2)
  have W0:WI a.Ao a.Ar H H7 b d p NL L hl ob od o0 nms nm0 [] [] s3 []:=by
   refine⟨(S2.trans S25).trans u7,⟨hB5.up u7,⟨hp7,(λ_ z=>nomatch z),.nil,(λ_ z=>nomatch z),u5 _⟩,rfl,u7 _ _ (S25 _ _ hNL),hn1,hnn,hL7,h3,λz=>?_⟩,hO5.up u7,⟨hh7,(λ_ z=>nomatch z)⟩,nod,λz=>?_,λz=>?_,λz=>?_,S2.free hd0,(S2.trans S25).free hp,hL,(S2.trans S25).free hl0⟩
   · rw[←z,hB5.at_] at hp;cases hp
   · rw[←z,hO5.at_] at hp;cases hp
   · rw[←z,S25 _ _ hL2] at hl0;cases hl0
   · rw[←z,S25 _ _ hNL] at hl0;cases hl0
  refine⟨λσ H'=>∃(xs ys:List TH)(y:Option V),WI a.Ao a.Ar H H' b d p NL L hl ob od o0 nms nm0 xs ys s3 []/\σ=[some (.ref sa),some (.ref L),some (.int m),some (.ref NL),some (.ref b),some (.ref ob),some (.ref p),some (.ref hl),y,none],?_,?_⟩
  ·
   refine⟨_,rfl,rfl,_,rfl,?_⟩
   refine He (λz=>?_) (λ_=>⟨[],[],_,W0,rfl⟩)
   have hm:m=42:=V.int.inj (tw z)
   refine⟨_,rfl,_,rfl,NL,_,rfl,SqL.of W0.de.nl,λl1 hl1=>⟨l1,rfl,⟨_,SqL.of Ab⟩,?_⟩⟩
   rw[my]
   refine Iw (H0:=λb'=>if b'=l1 then some (.lst ((nms.take 40).map V.str)) else none) (Eg (K:=K) (SqL.of (if_pos rfl))) (λi σ H'=>H' l1=some (.lst ((nms.take 40).map V.str))/\∃(xs ys:List TH)(y:Option V),WI a.Ao a.Ar H H' b d p NL L hl ob od o0 nms nm0 xs ys s3 []/\xs.map thN=(nms.take 40).take i/\σ=[some (.ref sa),some (.ref L),some (.int m),some (.ref NL),some (.ref b),some (.ref ob),some (.ref p),some (.ref hl),y,none]) ⟨Ab,[],[],_,W0.up (Ah hl1),rfl,rfl⟩ (λj σ H' _ h b' o' e'=>?_) ?_ ?_
   ·
    by_cases eb:b'=l1
    ·
     subst eb
     have e':some (HO.lst ((nms.take 40).map V.str))=some o':=by rw[←e'];exact(if_pos rfl).symm
     rw[←e']
     exact h.1
    ·
     have e':(none:Option HO)=some o':=by rw[←e'];exact(if_neg eb).symm
     cases e'
   ·
    rintro i x σ H8 hx ⟨hl8,xs,ys,y,hW,hnx,rfl⟩
    rw[ur] at hx
    obtain⟨nm,hnm,rfl⟩:=vg.mp hx
    have hnm':=uz hnm
    have hnmn:=zi hnm'
    have hi40:i<40:=by have:=(t8.mp hnm).1;rw[ux] at this;lia
    have hxl:xs.length=i:=by
     have:=vi List.length hnx
     rw[sf,ux] at this
     have:=(t8.mp hnm).1
     lia
    have nin:¬nm∈xs.map thN:=λw=>by
     rw[hnx] at w
     have nd:=hnd.sublist (Abb 40 nms)
     have ts:=Aa6 hnm
     have nd2:=nd.sublist (Abb (i+1) _)
     rw[ts,List.nodup_append] at nd2
     exact nd2.2.2 nm w nm (tj.mpr rfl) rfl
    have r1:Hj xs nm=0:=Vg (by lia) (hnn nm hnmn).1 nin
    have r2:=gk ((d4 hW.de.tk).symm.trans r1)
    obtain⟨db8,hb8⟩:=hW.de.bk.ins
    refine⟨_,rfl,b,_,db8,_,_,rfl,hb8,rfl,⟨rfl,rfl⟩,_,rfl,rfl,b,d,xs,nm,7,8,rfl,hW.de.bk,by have:=(hnn nm hnmn).2;lia,λ_ _ o H9 sx9 hB9=>?_,λh=>absurd (h.symm.trans r1) (by decide),λh=>absurd (h.symm.trans r1) (by decide),λh=>absurd (h.symm.trans r1) (by decide),λ_ h=>absurd (show(7:Int)<8 by decide) h⟩
    refine⟨(by show 2<=sizeLine;decide),λt ht=>?_⟩
    have u9:=Ah (o:=.tup [.int 7,.int 8]) ht
    have hp9:=sx9 _ _ hW.de.dp.symm hW.de.pl.at_
    refine⟨_,rfl,_,rfl,p,_,rfl,DPut.k (k:=Sum.inr nm) (u9 _ _ hp9) (by rw[Qq];exact ve hW.de.pl.few (by decide)),?_⟩
    rw[Yz (b:=7) (e:=8) (o:=t) r2.2.2]
    have sx10:SameX d H8 (upd H9 t (.tup [.int 7,.int 8])):=sx9.tr (SameX.of u9)
    refine⟨?_,xs++[(nm,o,7,8)],ys++[(nm,t,7,8)],_,hW.deed (λc o' e n1 n2 _=>by rw[Ad n2];exact sx10 _ _ n1 e) (dj hW.de sx10 (hB9.up u9) Ab r2.1 r2.2.2 (by decide)),by rw[uv,hnx,Aa6 hnm];rfl,rfl⟩
    rw[Ad (Bg hl8 hW.de.pl.at_ (λz=>nomatch z))]
    exact sx10 _ _ (Bg hl8 hW.de.bk.at_ (λz=>nomatch z)) hl8
   ·
    rintro σ H8 ⟨_,xs,ys,y,hW,_,rfl⟩
    exact⟨xs,ys,y,hW,rfl⟩
  rintro _ H8 ⟨xs,ys,y,hW,rfl⟩
  refine⟨_,rfl,_,rfl,_,rfl,sa,_,rfl,hW.sm.seq hS,λcl hcl=>⟨cl,rfl,⟨_,SqL.of Ab⟩,?_⟩⟩
  obtain⟨cs,el,hc2⟩:=jv V.int ns (some 1) (some 24)
  rw[el]
  have hclL:cl≠L:=λz=>by rw[z,hW.de.st] at hcl;cases hcl
  have hclh:cl≠hl:=λz=>by rw[z,hW.he.at_] at hcl;cases hcl
  refine Iw (H0:=λb'=>if b'=cl then some (.lst (cs.map V.int)) else none) (Eg (K:=K) (SqL.of (if_pos rfl))) (λi σ H'=>H' cl=some (.lst (cs.map V.int))/\∃(xs ys:List TH)(s:Int)(hs:List Addr)(y z:Option V),WI a.Ao a.Ar H H' b d p NL L hl ob od o0 nms nm0 xs ys s hs/\hs.length<=3*i/\σ=[some (.ref sa),some (.ref L),some (.int m),some (.ref NL),some (.ref b),some (.ref ob),some (.ref p),some (.ref hl),y,z]) ⟨Ab,xs,ys,s3,[],_,_,hW.up (Ah hcl),tq _,rfl⟩ (λj σ H' _ h b' o' e'=>?_) ?_ ?_
  ·
   by_cases eb:b'=cl
   ·
    subst eb
    have e':some (HO.lst (cs.map V.int))=some o':=by rw[←e'];exact(if_pos rfl).symm
    rw[←e']
    exact h.1
   ·
    have e':(none:Option HO)=some o':=by rw[←e'];exact(if_neg eb).symm
    cases e'
  ·
   rintro i x σ H9 hx ⟨hc9,xs,ys,s9,hs,y,z,hW9,hlen9,rfl⟩
   have hi9:i<cs.length:=by have:=(t8.mp hx).1;rw[sf] at this;exact this
   rw[ur] at hx
   obtain⟨c,hc,rfl⟩:=vg.mp hx
   refine⟨_,rfl,_,rfl,_,rfl,_,rfl,_,rfl,b,d,p,NL,L,xs,ys,nms,s9,c,rfl,hW9.de,λxs' ys' s' Ha off hDa=>⟨_,rfl,?_⟩⟩
   have hWa:=hW9.deed off hDa
   have hca:Ha cl=some (.lst (cs.map V.int)):=off _ _ hc9 (Bg hc9 hW9.de.bk.at_ (λz=>nomatch z)) (Bg hc9 hW9.de.pl.at_ (λz=>nomatch z)) hclL
   refine Jw ?_
   refine⟨_,rfl,_,rfl,_,rfl,_,rfl,b,d,p,L,hl,xs',ys',s',hs,rfl,hDa.bk,hDa.pl,hDa.tk,hDa.st,hDa.rg,hWa.he,hWa.n3,by lia,λs'' hs'' Hb fr hLb hrb hHb hlb=>⟨_,rfl,Jw ?_⟩⟩
   exact⟨fr _ _ hca hclL hclh,xs',ys',s'',hs'',_,_,hWa.same fr hLb hrb hHb,by lia,rfl⟩
  rintro σ H9 ⟨hc9,xs,ys,s9,hs,y,z,hW9,hlen9,rfl⟩
  obtain⟨od9,hob9⟩:=hW9.ot.ins
  refine⟨_,rfl,ob,_,od9,_,_,rfl,hob9,rfl,⟨rfl,rfl⟩,rfl,ob,od,[(nm0,o0,5,9)],5,6,rfl,hW9.ot,λl1 q1 Ha sa1 hl1 hT1 hp1 hr1=>?_⟩
  have hWa:=hW9.up sa1
  refine⟨_,rfl,NL,_,_,_,rfl,rfl,SqL.of hWa.de.nl,at0,(by show 3<=sizeLine;decide),λt ht=>⟨(by show 1<=sizeLine;decide),λl2 hl2=>?_⟩⟩
  have ub:=(Ah (o:=.tup [.int 5,.int 9,.str nm0]) ht).trans (Ah (o:=.lst [.ref t]) hl2)
  have eq1:q1.map (·.1)=[k3 (nm0,o0,5,9)]:=List.perm_singleton.mp hp1
  have L1:LsAt (upd (upd Ha t (.tup [.int 5,.int 9,.str nm0])) l2 (.lst [.ref t])) l1 [.inr (k3 (nm0,o0,5,9))]:=by
   have h:=(hT1.up ub).ls
   rw[show(q1.map λx=>(.inr x.1:NK))=(q1.map (·.1)).map Sum.inr by rw[uo];rfl,eq1] at h
   exact h
  have L2':LsAt (upd (upd Ha t (.tup [.int 5,.int 9,.str nm0])) l2 (.lst [.ref t])) l2 [.inr (k3 (nm0,o0,5,9))]:=⟨_,Ab,.cons ⟨t,rfl,Ah hl2 _ _ Ab⟩ .nil⟩
  refine⟨l1,l2,_,rfl,rfl,L1,L2',_,rfl,Jw ?_⟩
  have hWb:=hWa.up ub
  generalize upd (upd Ha t (.tup [.int 5,.int 9,.str nm0])) l2 (.lst [.ref t])=Hb at hWb ub ⊢
  refine⟨_,rfl,ob,_,od9,_,_,rfl,ub _ _ (sa1 _ _ hob9),rfl,⟨rfl,rfl⟩,ob,od,[(nm0,o0,5,9)],rfl,hWb.ot,λl3 ms3 hl3 hp3 hs3=>?_⟩
  have e3:ms3=[nm0]:=List.perm_singleton.mp hp3
  subst e3
  have uc:=Ah (o:=.lst ([nm0].map V.str)) hl3
  refine⟨_,rfl,NL,_,_,_,rfl,rfl,SqL.of (uc _ _ hWb.de.nl),at0,(by show 1<=sizeLine;decide),λl4 hl4=>?_⟩
  have ud:=Ah (o:=.lst [.str nm0]) hl4
  refine⟨l3,l4,[.inl (.inr nm0)],rfl,rfl,⟨_,ud _ _ Ab,Mu [nm0]⟩,⟨_,Ab,Mu [nm0]⟩,_,rfl,Jw ?_⟩
  have hWd:=(hWb.up uc).up ud
  generalize upd (upd Hb l3 (.lst ([nm0].map V.str))) l4 (.lst [.str nm0])=Hd at hWd ⊢
  refine⟨_,rfl,hl,rfl,⟨_,SqL.of hWd.he.at_⟩,?_⟩
  refine V0 (Eg (K:=K) (SqL.of hWd.he.at_)) (λ_=>false) (λ_ _ _=>False) (λ_ _ _ _ _ h=>h) (by rw[sf] at hlen9 ⊢;lia) (λx hx H' sm R hR=>?_) (λx hx h=>by cases h) (λD H' ys' sm hD hlD hP=>?_)
  ·
   obtain⟨r,hr',rfl⟩:=t6.mp hx
   obtain⟨m1',m2',ks,e,a1,a2,_⟩:=hWd.he.ok r hr'
   have e':=sm _ _ e
   exact⟨_,rfl,r,_,_,_,rfl,rfl,SqT.of e',rfl,_,rfl,r,_,_,_,rfl,rfl,SqT.of e',rfl,m1',m2',ks,rfl,rfl,a1.up sm,a2.up sm,_,rfl,hR _ (Same.refl _)⟩
  rw[List.filter_eq_nil_iff.mpr (λ_ _ z=>by cases z)] at hP
  cases hP
  exact⟨(by show 0<=sizeLine;decide),λE hE=>⟨D,E,[],rfl,rfl,Ah hE _ _ hlD,Ab,k _⟩⟩
end
theorem txt_mk {K:W.Frag}{h:Heap}{mg:Str->Option Value}(X:K.In h)(G:h.Ns mainGlobals mg)
  {Ao:Addr}
  {Ar:Addr}
  {fq7:Addr} {ocq7 kVq7 dcq7 pmq7 cdq7 ctq7:Value} {odq7 anq7:Option Addr} {slq7:Array (Option Value)}
  {fql:Addr} {ocql kVql dcql pmql cdql ctql:Value} {odql anql:Option Addr} {slql:Array (Option Value)}
  {fqq:Addr} {ocqq kVqq dcqq pmqq cdqq ctqq:Value} {odqq anqq:Option Addr} {slqq:Array (Option Value)}
  {fq2:Addr} {ocq2 kVq2 dcq2 pmq2 cdq2 ctq2:Value} {odq2 anq2:Option Addr} {slq2:Array (Option Value)}
  {fqe:Addr} {ocqe kVqe dcqe pmqe cdqe ctqe:Value} {odqe anqe:Option Addr} {slqe:Array (Option Value)}
  {fq3:Addr} {ocq3 kVq3 dcq3 pmq3 cdq3 ctq3:Value} {odq3 anq3:Option Addr} {slq3:Array (Option Value)}
  {fqi:Addr} {ocqi kVqi dcqi pmqi cdqi ctqi:Value} {odqi anqi:Option Addr} {slqi:Array (Option Value)}
  {fqn:Addr} {ocqn kVqn dcqn pmqn cdqn ctqn:Value} {odqn anqn:Option Addr} {slqn:Array (Option Value)}
  {fqj:Addr} {ocqj kVqj dcqj pmqj cdqj ctqj:Value} {odqj anqj:Option Addr} {slqj:Array (Option Value)}
  {fqg:Addr} {ocqg kVqg dcqg pmqg cdqg ctqg:Value} {odqg anqg:Option Addr} {slqg:Array (Option Value)}
  {fqo:Addr} {ocqo kVqo dcqo pmqo cdqo ctqo:Value} {odqo anqo:Option Addr} {slqo:Array (Option Value)}
  {fqd:Addr} {ocqd kVqd dcqd pmqd cdqd ctqd:Value} {odqd anqd:Option Addr} {slqd:Array (Option Value)}
  {fqp:Addr} {ocqp kVqp dcqp pmqp cdqp ctqp:Value} {odqp anqp:Option Addr} {slqp:Array (Option Value)}
  {fq6:Addr} {ocq6 kVq6 dcq6 pmq6 cdq6 ctq6:Value} {odq6 anq6:Option Addr} {slq6:Array (Option Value)}
  {fq1:Addr} {ocq1 kVq1 dcq1 pmq1 cdq1 ctq1:Value} {odq1 anq1:Option Addr} {slq1:Array (Option Value)}
  {fqf:Addr} {ocqf kVqf dcqf pmqf cdqf ctqf:Value} {odqf anqf:Option Addr} {slqf:Array (Option Value)}
  {fqm:Addr} {ocqm kVqm dcqm pmqm cdqm ctqm:Value} {odqm anqm:Option Addr} {slqm:Array (Option Value)}
  {fq9:Addr} {ocq9 kVq9 dcq9 pmq9 cdq9 ctq9:Value} {odq9 anq9:Option Addr} {slq9:Array (Option Value)}
  {fqr:Addr} {ocqr kVqr dcqr pmqr cdqr ctqr:Value} {odqr anqr:Option Addr} {slqr:Array (Option Value)}
  {fq4:Addr} {ocq4 kVq4 dcq4 pmq4 cdq4 ctq4:Value} {odq4 anq4:Option Addr} {slq4:Array (Option Value)}
  {fq0:Addr} {ocq0 kVq0 dcq0 pmq0 cdq0 ctq0:Value} {odq0 anq0:Option Addr} {slq0:Array (Option Value)}
  {fq5:Addr} {ocq5 kVq5 dcq5 pmq5 cdq5 ctq5:Value} {odq5 anq5:Option Addr} {slq5:Array (Option Value)}
  {fqs:Addr} {ocqs kVqs dcqs pmqs cdqs ctqs:Value} {odqs anqs:Option Addr} {slqs:Array (Option Value)}
  {fq8:Addr} {ocq8 kVq8 dcq8 pmq8 cdq8 ctq8:Value} {odq8 anq8:Option Addr} {slq8:Array (Option Value)}
  {fqu:Addr} {ocqu kVqu dcqu pmqu cdqu ctqu:Value} {odqu anqu:Option Addr} {slqu:Array (Option Value)}
  {fqc:Addr} {ocqc kVqc dcqc pmqc cdqc ctqc:Value} {odqc anqc:Option Addr} {slqc:Array (Option Value)}
  {fqa:Addr} {ocqa kVqa dcqa pmqa cdqa ctqa:Value} {odqa anqa:Option Addr} {slqa:Array (Option Value)}
  {fqb:Addr} {ocqb kVqb dcqb pmqb cdqb ctqb:Value} {odqb anqb:Option Addr} {slqb:Array (Option Value)}
  {fqh:Addr} {ocqh kVqh dcqh pmqh cdqh ctqh:Value} {odqh anqh:Option Addr} {slqh:Array (Option Value)}
  {fqk:Addr} {ocqk kVqk dcqk pmqk cdqk ctqk:Value} {odqk anqk:Option Addr} {slqk:Array (Option Value)}
  {fqt:Addr} {ocqt kVqt dcqt pmqt cdqt ctqt:Value} {odqt anqt:Option Addr} {slqt:Array (Option Value)}
  {t_FIGURES:Tok}
  {t_LETTERS:Tok}
  {t_MOST_THINGS:Tok}
  {t_NAME_SIGNS:Tok}
  {G2:Addr}
  {Du:Addr}
  {Aq:Addr}
  {Ay:Addr}
  {Al:Addr}
  {Fi:Addr}
  {Dt:Addr}
  {Bq:Addr}
  {Bi:Addr}
  {Co:Addr}
  {Dl:Addr}
  {Ak:Addr}
  {Dq:Addr}
  {Ag:Addr}
  {Dr:Addr}
  (aC_Book:W.nsIn K mainGlobals "Book"=some (some (.ref Ao)))
  (pg_Book:W.plainGet K Ao Str.empty=true)
  (hd_Book:W.hasDictIn K Ao=true)
  (po_Book:W.plainOver K Ao=true)
  (sa_Book:W.findIn K (.ref Ao) "__setattr__"=some (some (.builtin "object.__setattr__")))
  (Lf:W.makesIn K Ao=true)
  (kc_Book:W.keepIn K (.ref Ao)=true)
  (nf_by_name_Book:W.findIn K (.ref Ao) "by_name"=some none)
  (aC_Once:W.nsIn K mainGlobals "Once"=some (some (.ref Ar)))
  (pg_Once:W.plainGet K Ar Str.empty=true)
  (hd_Once:W.hasDictIn K Ar=true)
  (po_Once:W.plainOver K Ar=true)
  (sa_Once:W.findIn K (.ref Ar) "__setattr__"=some (some (.builtin "object.__setattr__")))
  (Nv:W.makesIn K Ar=true)
  (kc_Once:W.keepIn K (.ref Ar)=true)
  (nf_begin_Once:W.findIn K (.ref Ar) "begin"=some none)
  (nf_end_Once:W.findIn K (.ref Ar) "end"=some none)
  (aq7:W.nsIn K mainGlobals "is_made_of"=some (some (.ref fq7))) (lq7:K.lookup fq7=some ⟨ocq7,odq7,.func (W.fnOf "is_made_of" "is_made_of" (A2 Dh) (Az Dh) (Ai Dh) .none kVq7 dcq7 pmq7 anq7 cdq7 ctq7),slq7⟩) (eq7:W.codeIn K cdq7 "is_made_of"=true) (kq7:W.keepIn K (.ref fq7)=true)
  (aql:W.nsIn K mainGlobals "is_span"=some (some (.ref fql))) (lql:K.lookup fql=some ⟨ocql,odql,.func (W.fnOf "is_span" "is_span" (A2 G3) (Az G3) (Ai G3) .none kVql dcql pmql anql cdql ctql),slql⟩) (eql:W.codeIn K cdql "is_span"=true) (kql:W.keepIn K (.ref fql)=true)
  (aqq:W.nsIn K mainGlobals "meets"=some (some (.ref fqq))) (lqq:K.lookup fqq=some ⟨ocqq,odqq,.func (W.fnOf "meets" "meets" (A2 Lo) (Az Lo) (Ai Lo) .none kVqq dcqq pmqq anqq cdqq ctqq),slqq⟩) (eqq:W.codeIn K cdqq "meets"=true) (kqq:W.keepIn K (.ref fqq)=true)
  (aq2:W.findIn K (.ref Ao) "__init__"=some (some (.ref fq2))) (lq2:K.lookup fq2=some ⟨ocq2,odq2,.func (W.fnOf "__init__" "Book.__init__" (A2 Dn) (Az Dn) (Ai Dn) .none kVq2 dcq2 pmq2 anq2 cdq2 ctq2),slq2⟩) (eq2:W.codeIn K cdq2 "Book.__init__"=true) (kq2:W.keepIn K (.ref fq2)=true)
  (iq2:W.isFn K (.ref fq2)=true)
  (aqe:W.findIn K (.ref Ao) "drop"=some (some (.ref fqe))) (lqe:K.lookup fqe=some ⟨ocqe,odqe,.func (W.fnOf "drop" "Book.drop" (A2 Fg) (Az Fg) (Ai Fg) .none kVqe dcqe pmqe anqe cdqe ctqe),slqe⟩) (eqe:W.codeIn K cdqe "Book.drop"=true) (kqe:W.keepIn K (.ref fqe)=true)
  (iqe:W.isFn K (.ref fqe)=true)
  (aq3:W.findIn K (.ref Ao) "things"=some (some (.ref fq3))) (lq3:K.lookup fq3=some ⟨ocq3,odq3,.func (W.fnOf "things" "Book.things" (A2 Dp) (Az Dp) (Ai Dp) .none kVq3 dcq3 pmq3 anq3 cdq3 ctq3),slq3⟩) (eq3:W.codeIn K cdq3 "Book.things"=true) (kq3:W.keepIn K (.ref fq3)=true)
  (iq3:W.isFn K (.ref fq3)=true)
  (aqi:W.nsIn K mainGlobals "_law_cell"=some (some (.ref fqi))) (lqi:K.lookup fqi=some ⟨ocqi,odqi,.func (W.fnOf "_law_cell" "_law_cell" (A2 Gb) (Az Gb) (Ai Gb) .none kVqi dcqi pmqi anqi cdqi ctqi),slqi⟩) (eqi:W.codeIn K cdqi "_law_cell"=true) (kqi:W.keepIn K (.ref fqi)=true)
  (aqn:W.nsIn K mainGlobals "_law_mix"=some (some (.ref fqn))) (lqn:K.lookup fqn=some ⟨ocqn,odqn,.func (W.fnOf "_law_mix" "_law_mix" (A2 Hf) (Az Hf) (Ai Hf) .none kVqn dcqn pmqn anqn cdqn ctqn),slqn⟩) (eqn:W.codeIn K cdqn "_law_mix"=true) (kqn:W.keepIn K (.ref fqn)=true)
  (aqj:W.nsIn K mainGlobals "_law_lone"=some (some (.ref fqj))) (lqj:K.lookup fqj=some ⟨ocqj,odqj,.func (W.fnOf "_law_lone" "_law_lone" (A2 Ga) (Az Ga) (Ai Ga) .none kVqj dcqj pmqj anqj cdqj ctqj),slqj⟩) (eqj:W.codeIn K cdqj "_law_lone"=true) (kqj:W.keepIn K (.ref fqj)=true)
  (aqg:W.nsIn K mainGlobals "_law_laid"=some (some (.ref fqg))) (lqg:K.lookup fqg=some ⟨ocqg,odqg,.func (W.fnOf "_law_laid" "_law_laid" (A2 F9) (Az F9) (Ai F9) .none kVqg dcqg pmqg anqg cdqg ctqg),slqg⟩) (eqg:W.codeIn K cdqg "_law_laid"=true) (kqg:W.keepIn K (.ref fqg)=true)
  (aqo:W.nsIn K mainGlobals "_law_due"=some (some (.ref fqo))) (lqo:K.lookup fqo=some ⟨ocqo,odqo,.func (W.fnOf "_law_due" "_law_due" (A2 G7) (Az G7) (Ai G7) .none kVqo dcqo pmqo anqo cdqo ctqo),slqo⟩) (eqo:W.codeIn K cdqo "_law_due"=true) (kqo:W.keepIn K (.ref fqo)=true)
  (aqd:W.nsIn K mainGlobals "_law_spans"=some (some (.ref fqd))) (lqd:K.lookup fqd=some ⟨ocqd,odqd,.func (W.fnOf "_law_spans" "_law_spans" (A2 Dc) (Az Dc) (Ai Dc) .none kVqd dcqd pmqd anqd cdqd ctqd),slqd⟩) (eqd:W.codeIn K cdqd "_law_spans"=true) (kqd:W.keepIn K (.ref fqd)=true)
  (aqp:W.nsIn K mainGlobals "is_name"=some (some (.ref fqp))) (lqp:K.lookup fqp=some ⟨ocqp,odqp,.func (W.fnOf "is_name" "is_name" (A2 Hg) (Az Hg) (Ai Hg) .none kVqp dcqp pmqp anqp cdqp ctqp),slqp⟩) (eqp:W.codeIn K cdqp "is_name"=true) (kqp:W.keepIn K (.ref fqp)=true)
  (aq6:W.nsIn K mainGlobals "check_span"=some (some (.ref fq6))) (lq6:K.lookup fq6=some ⟨ocq6,odq6,.func (W.fnOf "check_span" "check_span" (A2 Ep) (Az Ep) (Ai Ep) .none kVq6 dcq6 pmq6 anq6 cdq6 ctq6),slq6⟩) (eq6:W.codeIn K cdq6 "check_span"=true) (kq6:W.keepIn K (.ref fq6)=true)
  (aq1:W.findIn K (.ref Ar) "spans_in"=some (some (.ref fq1))) (lq1:K.lookup fq1=some ⟨ocq1,odq1,.func (W.fnOf "spans_in" "Once.spans_in" (A2 Cd) (Az Cd) (Ai Cd) .none kVq1 dcq1 pmq1 anq1 cdq1 ctq1),slq1⟩) (eq1:W.codeIn K cdq1 "Once.spans_in"=true) (kq1:W.keepIn K (.ref fq1)=true)
  (iq1:W.isFn K (.ref fq1)=true)
  (aqf:W.nsIn K mainGlobals "_law_names"=some (some (.ref fqf))) (lqf:K.lookup fqf=some ⟨ocqf,odqf,.func (W.fnOf "_law_names" "_law_names" (A2 Fe) (Az Fe) (Ai Fe) .none kVqf dcqf pmqf anqf cdqf ctqf),slqf⟩) (eqf:W.codeIn K cdqf "_law_names"=true) (kqf:W.keepIn K (.ref fqf)=true)
  (aqm:W.nsIn K mainGlobals "_law_cut"=some (some (.ref fqm))) (lqm:K.lookup fqm=some ⟨ocqm,odqm,.func (W.fnOf "_law_cut" "_law_cut" (A2 Gf) (Az Gf) (Ai Gf) .none kVqm dcqm pmqm anqm cdqm ctqm),slqm⟩) (eqm:W.codeIn K cdqm "_law_cut"=true) (kqm:W.keepIn K (.ref fqm)=true)
  (aq9:W.nsIn K mainGlobals "_law_moment"=some (some (.ref fq9))) (lq9:K.lookup fq9=some ⟨ocq9,odq9,.func (W.fnOf "_law_moment" "_law_moment" (A2 En) (Az En) (Ai En) .none kVq9 dcq9 pmq9 anq9 cdq9 ctq9),slq9⟩) (eq9:W.codeIn K cdq9 "_law_moment"=true) (kq9:W.keepIn K (.ref fq9)=true)
  (aqr:W.nsIn K mainGlobals "laid"=some (some (.ref fqr))) (lqr:K.lookup fqr=some ⟨ocqr,odqr,.func (W.fnOf "laid" "laid" (A2 Ob) (Az Ob) (Ai Ob) .none kVqr dcqr pmqr anqr cdqr ctqr),slqr⟩) (eqr:W.codeIn K cdqr "laid"=true) (kqr:W.keepIn K (.ref fqr)=true)
  (aq4:W.findIn K (.ref Ar) "__init__"=some (some (.ref fq4))) (lq4:K.lookup fq4=some ⟨ocq4,odq4,.func (W.fnOf "__init__" "Once.__init__" (A2 Dk) (Az Dk) (Ai Dk) .none kVq4 dcq4 pmq4 anq4 cdq4 ctq4),slq4⟩) (eq4:W.codeIn K cdq4 "Once.__init__"=true) (kq4:W.keepIn K (.ref fq4)=true)
  (iq4:W.isFn K (.ref fq4)=true)
  (aq0:W.findIn K (.ref Ao) "check_new"=some (some (.ref fq0))) (lq0:K.lookup fq0=some ⟨ocq0,odq0,.func (W.fnOf "check_new" "Book.check_new" (A2 B1) (Az B1) (Ai B1) .none kVq0 dcq0 pmq0 anq0 cdq0 ctq0),slq0⟩) (eq0:W.codeIn K cdq0 "Book.check_new"=true) (kq0:W.keepIn K (.ref fq0)=true)
  (iq0:W.isFn K (.ref fq0)=true)
  (aq5:W.nsIn K mainGlobals "_law_window"=some (some (.ref fq5))) (lq5:K.lookup fq5=some ⟨ocq5,odq5,.func (W.fnOf "_law_window" "_law_window" (A2 El) (Az El) (Ai El) .none kVq5 dcq5 pmq5 anq5 cdq5 ctq5),slq5⟩) (eq5:W.codeIn K cdq5 "_law_window"=true) (kq5:W.keepIn K (.ref fq5)=true)
  (aqs:W.nsIn K mainGlobals "both"=some (some (.ref fqs))) (lqs:K.lookup fqs=some ⟨ocqs,odqs,.func (W.fnOf "both" "both" (A2 Oz) (Az Oz) (Ai Oz) .none kVqs dcqs pmqs anqs cdqs ctqs),slqs⟩) (eqs:W.codeIn K cdqs "both"=true) (kqs:W.keepIn K (.ref fqs)=true)
  (aq8:W.findIn K (.ref Ao) "spans"=some (some (.ref fq8))) (lq8:K.lookup fq8=some ⟨ocq8,odq8,.func (W.fnOf "spans" "Book.spans" (A2 Em) (Az Em) (Ai Em) .none kVq8 dcq8 pmq8 anq8 cdq8 ctq8),slq8⟩) (eq8:W.codeIn K cdq8 "Book.spans"=true) (kq8:W.keepIn K (.ref fq8)=true)
  (iq8:W.isFn K (.ref fq8)=true)
  (aqu:W.nsIn K mainGlobals "cut"=some (some (.ref fqu))) (lqu:K.lookup fqu=some ⟨ocqu,odqu,.func (W.fnOf "cut" "cut" (A2 W5) (Az W5) (Ai W5) .none kVqu dcqu pmqu anqu cdqu ctqu),slqu⟩) (equ:W.codeIn K cdqu "cut"=true) (kqu:W.keepIn K (.ref fqu)=true)
  (aqc:W.findIn K (.ref Ao) "once"=some (some (.ref fqc))) (lqc:K.lookup fqc=some ⟨ocqc,odqc,.func (W.fnOf "once" "Book.once" (A2 Fh) (Az Fh) (Ai Fh) .none kVqc dcqc pmqc anqc cdqc ctqc),slqc⟩) (eqc:W.codeIn K cdqc "Book.once"=true) (kqc:W.keepIn K (.ref fqc)=true)
  (iqc:W.isFn K (.ref fqc)=true)
  (aqa:W.findIn K (.ref Ao) "busy"=some (some (.ref fqa))) (lqa:K.lookup fqa=some ⟨ocqa,odqa,.func (W.fnOf "busy" "Book.busy" (A2 Ej) (Az Ej) (Ai Ej) .none kVqa dcqa pmqa anqa cdqa ctqa),slqa⟩) (eqa:W.codeIn K cdqa "Book.busy"=true) (kqa:W.keepIn K (.ref fqa)=true)
  (iqa:W.isFn K (.ref fqa)=true)
  (aqb:W.nsIn K mainGlobals "_law_tried"=some (some (.ref fqb))) (lqb:K.lookup fqb=some ⟨ocqb,odqb,.func (W.fnOf "_law_tried" "_law_tried" (A2 Fm) (Az Fm) (Ai Fm) .none kVqb dcqb pmqb anqb cdqb ctqb),slqb⟩) (eqb:W.codeIn K cdqb "_law_tried"=true) (kqb:W.keepIn K (.ref fqb)=true)
  (aqh:W.nsIn K mainGlobals "_law_same"=some (some (.ref fqh))) (lqh:K.lookup fqh=some ⟨ocqh,odqh,.func (W.fnOf "_law_same" "_law_same" (A2 Fd) (Az Fd) (Ai Fd) .none kVqh dcqh pmqh anqh cdqh ctqh),slqh⟩) (eqh:W.codeIn K cdqh "_law_same"=true) (kqh:W.keepIn K (.ref fqh)=true)
  (aqk:W.nsIn K mainGlobals "_law_deed"=some (some (.ref fqk))) (lqk:K.lookup fqk=some ⟨ocqk,odqk,.func (W.fnOf "_law_deed" "_law_deed" (A2 F7) (Az F7) (Ai F7) .none kVqk dcqk pmqk anqk cdqk ctqk),slqk⟩) (eqk:W.codeIn K cdqk "_law_deed"=true) (kqk:W.keepIn K (.ref fqk)=true)
  (aqt:W.nsIn K mainGlobals "law"=some (some (.ref fqt))) (lqt:K.lookup fqt=some ⟨ocqt,odqt,.func (W.fnOf "law" "law" (A2 T4) (Az T4) (Ai T4) .none kVqt dcqt pmqt anqt cdqt ctqt),slqt⟩) (eqt:W.codeIn K cdqt "law"=true) (kqt:W.keepIn K (.ref fqt)=true)
  (Iz:W.nsIn K mainGlobals "FIGURES"=some (some (.str "0123456789" t_FIGURES)))
  (G9:W.nsIn K mainGlobals "LETTERS"=some (some (.str "abcdefghijklmnopqrstuvwxyz" t_LETTERS)))
  (Ex:W.nsIn K mainGlobals "MOST_THINGS"=some (some (.int 40 t_MOST_THINGS)))
  (Fq:W.nsIn K mainGlobals "NAME_SIGNS"=some (some (.int 8 t_NAME_SIGNS)))
  (Sa:W.nsIn K mainGlobals "Busy"=some (some (.ref G2)))
  (Kw:W.nsIn K mainGlobals "Closed"=some (some (.ref Du)))
  (Nj:W.nsIn K mainGlobals "Full"=some (some (.ref Aq)))
  (x_Full':W.excIn K Aq [.type "ValueError",.type "Exception",.type "BaseException",.type "object"] "ValueError.__new__"=true)
  (Fo:W.nsIn K mainGlobals "HouseError"=some (some (.ref Ay)))
  (ct_HouseError:W.typeIn K (.ref Ay)=some (.type "type")) (cb_HouseError:W.mroIn K Ay (.type "BaseException")=some true)
  (J0:W.nsIn K mainGlobals "Known"=some (some (.ref Al)))
  (x_Known':W.excIn K Al [.type "ValueError",.type "Exception",.type "BaseException",.type "object"] "ValueError.__new__"=true)
  (M0:W.nsIn K mainGlobals "NoDay"=some (some (.ref Fi)))
  (Kp:W.nsIn K mainGlobals "NoHand"=some (some (.ref Dt)))
  (G6:W.nsIn K mainGlobals "NoLetter"=some (some (.ref Bq)))
  (Gg:W.nsIn K mainGlobals "NoMeeting"=some (some (.ref Bi)))
  (Jc:W.nsIn K mainGlobals "NoPlace"=some (some (.ref Co)))
  (J8:W.nsIn K mainGlobals "NoRule"=some (some (.ref Dl)))
  (Ho:W.nsIn K mainGlobals "NoSpan"=some (some (.ref Ak)))
  (x_NoSpan':W.excIn K Ak [.type "ValueError",.type "Exception",.type "BaseException",.type "object"] "ValueError.__new__"=true)
  (Ks:W.nsIn K mainGlobals "NoText"=some (some (.ref Dq)))
  (Gh:W.nsIn K mainGlobals "NoThing"=some (some (.ref Ag)))
  (x_NoThing':W.excIn K Ag [.type "ValueError",.type "Exception",.type "BaseException",.type "object"] "ValueError.__new__"=true)
  (Ku:W.nsIn K mainGlobals "NoWord"=some (some (.ref Dr)))
  (Br:W.mroIn K Ak (.ref Ay)=some true)
  (Bf:W.mroIn K Ag (.ref Ay)=some true)
  (B6:W.mroIn K Al (.ref Ay)=some true)
  (Ci:W.mroIn K Aq (.ref Ay)=some true)
  (e0_NoSpan:W.findIn K (.ref Ak) "__getattribute__"=some (some (.builtin "BaseException.__getattribute__")))
  (e1_NoSpan:W.findIn K (.ref Ak) "__getattr__"=some none)
  (e2_NoSpan:W.findIn K (.ref Ak) "__class__"=some (some (.builtin "object.__class__")))
  (e3_NoSpan:W.specialIn K (.builtin "object.__class__") "__get__"=some (some (.builtin "getset_descriptor.__get__")))
  (e4_NoSpan:W.takesIn K (.builtin "object.__class__")=some true)
  (e5_NoSpan:W.mroIn K Ak (.type "object")=some true)
  (e6_NoSpan:W.mroIn K Ak (.type "BaseException")=some true)
  (Ea:W.kitOne K (.ref Ak) (.ref Fi)=some false)
  (Df:W.kitOne K (.ref Ak) (.ref Dq)=some false)
  (C8:W.kitOne K (.ref Ak) (.ref Dl)=some false)
  (Cs:W.kitOne K (.ref Ak) (.ref Co)=some false)
  (Ce:W.kitOne K (.ref Ak) (.ref Ak)=some true)
  (Cu:W.kitOne K (.ref Ak) (.ref Ag)=some false)
  (C0:W.kitOne K (.ref Ak) (.ref Al)=some false)
  (Dj:W.kitOne K (.ref Ak) (.ref Aq)=some false)
  (Ck:W.kitOne K (.ref Ak) (.ref Bq)=some false)
  (C7:W.kitOne K (.ref Ak) (.ref Dt)=some false)
  (C9:W.kitOne K (.ref Ak) (.ref Dr)=some false)
  (B4:W.kitOne K (.ref Ak) (.ref Bi)=some false)
  (C6:W.kitOne K (.ref Ak) (.ref Du)=some false)
  (E7:W.kitOne K (.ref Ak) (.ref G2)=some false)
  (Bu:W.kitOne K (.ref Ak) (.type "ValueError")=some true)
  (e0_NoThing:W.findIn K (.ref Ag) "__getattribute__"=some (some (.builtin "BaseException.__getattribute__")))
  (e1_NoThing:W.findIn K (.ref Ag) "__getattr__"=some none)
  (e2_NoThing:W.findIn K (.ref Ag) "__class__"=some (some (.builtin "object.__class__")))
  (e3_NoThing:W.specialIn K (.builtin "object.__class__") "__get__"=some (some (.builtin "getset_descriptor.__get__")))
  (e4_NoThing:W.takesIn K (.builtin "object.__class__")=some true)
  (e5_NoThing:W.mroIn K Ag (.type "object")=some true)
  (e6_NoThing:W.mroIn K Ag (.type "BaseException")=some true)
  (C5:W.kitOne K (.ref Ag) (.ref Fi)=some false)
  (Ct:W.kitOne K (.ref Ag) (.ref Dq)=some false)
  (Cq:W.kitOne K (.ref Ag) (.ref Dl)=some false)
  (Cg:W.kitOne K (.ref Ag) (.ref Co)=some false)
  (Bl:W.kitOne K (.ref Ag) (.ref Ak)=some false)
  (Cj:W.kitOne K (.ref Ag) (.ref Ag)=some true)
  (Bv:W.kitOne K (.ref Ag) (.ref Al)=some false)
  (B8:W.kitOne K (.ref Ag) (.ref Aq)=some false)
  (B7:W.kitOne K (.ref Ag) (.ref Bq)=some false)
  (Cw:W.kitOne K (.ref Ag) (.ref Dt)=some false)
  (Cz:W.kitOne K (.ref Ag) (.ref Dr)=some false)
  (Bs:W.kitOne K (.ref Ag) (.ref Bi)=some false)
  (Cr:W.kitOne K (.ref Ag) (.ref Du)=some false)
  (D4:W.kitOne K (.ref Ag) (.ref G2)=some false)
  (Bn:W.kitOne K (.ref Ag) (.type "ValueError")=some true)
  (e0_Known:W.findIn K (.ref Al) "__getattribute__"=some (some (.builtin "BaseException.__getattribute__")))
  (e1_Known:W.findIn K (.ref Al) "__getattr__"=some none)
  (e2_Known:W.findIn K (.ref Al) "__class__"=some (some (.builtin "object.__class__")))
  (e3_Known:W.specialIn K (.builtin "object.__class__") "__get__"=some (some (.builtin "getset_descriptor.__get__")))
  (e4_Known:W.takesIn K (.builtin "object.__class__")=some true)
  (e5_Known:W.mroIn K Al (.type "object")=some true)
  (e6_Known:W.mroIn K Al (.type "BaseException")=some true)
  (Ew:W.kitOne K (.ref Al) (.ref Fi)=some false)
  (Ee:W.kitOne K (.ref Al) (.ref Dq)=some false)
  (Dy:W.kitOne K (.ref Al) (.ref Dl)=some false)
  (Dd:W.kitOne K (.ref Al) (.ref Co)=some false)
  (D5:W.kitOne K (.ref Al) (.ref Ak)=some false)
  (Di:W.kitOne K (.ref Al) (.ref Ag)=some false)
  (Ds:W.kitOne K (.ref Al) (.ref Al)=some true)
  (Eo:W.kitOne K (.ref Al) (.ref Aq)=some false)
  (Cy:W.kitOne K (.ref Al) (.ref Bq)=some false)
  (Dz:W.kitOne K (.ref Al) (.ref Dt)=some false)
  (D9:W.kitOne K (.ref Al) (.ref Dr)=some false)
  (Cn:W.kitOne K (.ref Al) (.ref Bi)=some false)
  (Ed:W.kitOne K (.ref Al) (.ref Du)=some false)
  (Ft:W.kitOne K (.ref Al) (.ref G2)=some false)
  (B3:W.kitOne K (.ref Al) (.type "ValueError")=some true)
  (e0_Full:W.findIn K (.ref Aq) "__getattribute__"=some (some (.builtin "BaseException.__getattribute__")))
  (e1_Full:W.findIn K (.ref Aq) "__getattr__"=some none)
  (e2_Full:W.findIn K (.ref Aq) "__class__"=some (some (.builtin "object.__class__")))
  (e3_Full:W.specialIn K (.builtin "object.__class__") "__get__"=some (some (.builtin "getset_descriptor.__get__")))
  (e4_Full:W.takesIn K (.builtin "object.__class__")=some true)
  (e5_Full:W.mroIn K Aq (.type "object")=some true)
  (e6_Full:W.mroIn K Aq (.type "BaseException")=some true)
  (Fp:W.kitOne K (.ref Aq) (.ref Fi)=some false)
  (E5:W.kitOne K (.ref Aq) (.ref Dq)=some false)
  (Ey:W.kitOne K (.ref Aq) (.ref Dl)=some false)
  (D7:W.kitOne K (.ref Aq) (.ref Co)=some false)
  (E6:W.kitOne K (.ref Aq) (.ref Ak)=some false)
  (Ec:W.kitOne K (.ref Aq) (.ref Ag)=some false)
  (Fu:W.kitOne K (.ref Aq) (.ref Al)=some false)
  (Fn:W.kitOne K (.ref Aq) (.ref Aq)=some true)
  (De:W.kitOne K (.ref Aq) (.ref Bq)=some false)
  (E8:W.kitOne K (.ref Aq) (.ref Dt)=some false)
  (Eu:W.kitOne K (.ref Aq) (.ref Dr)=some false)
  (Cv:W.kitOne K (.ref Aq) (.ref Bi)=some false)
  (Er:W.kitOne K (.ref Aq) (.ref Du)=some false)
  (Ge:W.kitOne K (.ref Aq) (.ref G2)=some false)
  (Cf:W.kitOne K (.ref Aq) (.type "ValueError")=some true)
  (Fv:W.nsIn K mainGlobals "ValueError"=some none)
  (Qz:W.nsIn K mainGlobals "abs"=some none)
  (Z6:W.nsIn K mainGlobals "all"=some none)
  (Ht:W.nsIn K mainGlobals "int"=some none)
  (Ap:W.nsIn K mainGlobals "isinstance"=some none)
  (K9:W.nsIn K mainGlobals "len"=some none)
  (Nf:W.nsIn K mainGlobals "list"=some none)
  (P2:W.nsIn K mainGlobals "max"=some none)
  (Td:W.nsIn K mainGlobals "min"=some none)
  (Jy:W.nsIn K mainGlobals "range"=some none)
  (Yl:W.nsIn K mainGlobals "set"=some none)
  (E2:W.nsIn K mainGlobals "sorted"=some none):
  ∃a:Adr,Txt K mg a/\a.Wc=fqt/\∀(s:Shared)(v:Value),BindsTo s a.S8 ⟨[v],[]⟩ [("_law_script",v)]:=by
 have Fq7:=Bt (st:=Dh) lq7 eq7 kq7
 have bq7:=Fq7.binds (ps:=["text","signs"]) λ_ _ _ _ _ _ us hl=>by obtain⟨_,_,rfl⟩:=L2.ex2 hl;exact rfl
 have Fql:=Bt (st:=G3) lql eql kql
 have bql:=Fql.binds (ps:=["begin","end"]) λ_ _ _ _ _ _ us hl=>by obtain⟨_,_,rfl⟩:=L2.ex2 hl;exact rfl
 have Fqq:=Bt (st:=Lo) lqq eqq kqq
 have bqq:=Fqq.binds (ps:=["span","begin","end"]) λ_ _ _ _ _ _ us hl=>by obtain⟨_,_,_,rfl⟩:=L2.ex3 hl;exact rfl
 have Fq2:=Bt (st:=Dn) lq2 eq2 kq2
 have bq2:=Fq2.binds (ps:=["self"]) λ_ _ _ _ _ _ us hl=>by obtain⟨_,rfl⟩:=L2.ex1 hl;exact rfl
 have Fqe:=Bt (st:=Fg) lqe eqe kqe
 have bqe:=Fqe.binds (ps:=["self","name"]) λ_ _ _ _ _ _ us hl=>by obtain⟨_,_,rfl⟩:=L2.ex2 hl;exact rfl
 have Fq3:=Bt (st:=Dp) lq3 eq3 kq3
 have bq3:=Fq3.binds (ps:=["self"]) λ_ _ _ _ _ _ us hl=>by obtain⟨_,rfl⟩:=L2.ex1 hl;exact rfl
 have Fqi:=Bt (st:=Gb) lqi eqi kqi
 have bqi:=Fqi.binds (ps:=["_law_script","_law_k"]) λ_ _ _ _ _ _ us hl=>by obtain⟨_,_,rfl⟩:=L2.ex2 hl;exact rfl
 have Fqn:=Bt (st:=Hf) lqn eqn kqn
 have bqn:=Fqn.binds (ps:=["_law_state","_law_cell_here"]) λ_ _ _ _ _ _ us hl=>by obtain⟨_,_,rfl⟩:=L2.ex2 hl;exact rfl
 have Fqj:=Bt (st:=Ga) lqj eqj kqj
 have bqj:=Fqj.binds (ps:=["_law_e"]) λ_ _ _ _ _ _ us hl=>by obtain⟨_,rfl⟩:=L2.ex1 hl;exact rfl
 have Fqg:=Bt (st:=F9) lqg eqg kqg
 have bqg:=Fqg.binds (ps:=["_law_row"]) λ_ _ _ _ _ _ us hl=>by obtain⟨_,rfl⟩:=L2.ex1 hl;exact rfl
 have Fqo:=Bt (st:=G7) lqo eqo kqo
 have bqo:=Fqo.binds (ps:=["_law_plain","_law_name","_law_begin","_law_end","_law_good"]) λ_ _ _ _ _ _ us hl=>by obtain⟨_,_,_,_,_,rfl⟩:=L2.ex5 hl;exact rfl
 have Fqd:=Bt (st:=Dc) lqd eqd kqd
 have bqd:=Fqd.binds (ps:=["_law_plain","_law_begin","_law_end"]) λ_ _ _ _ _ _ us hl=>by obtain⟨_,_,_,rfl⟩:=L2.ex3 hl;exact rfl
 have Fqp:=Bt (st:=Hg) lqp eqp kqp
 have bqp:=Fqp.binds (ps:=["text"]) λ_ _ _ _ _ _ us hl=>by obtain⟨_,rfl⟩:=L2.ex1 hl;exact rfl
 have Fq6:=Bt (st:=Ep) lq6 eq6 kq6
 have bq6:=Fq6.binds (ps:=["begin","end"]) λ_ _ _ _ _ _ us hl=>by obtain⟨_,_,rfl⟩:=L2.ex2 hl;exact rfl
 have Fq1:=Bt (st:=Cd) lq1 eq1 kq1
 have bq1:=Fq1.binds (ps:=["self","begin","end"]) λ_ _ _ _ _ _ us hl=>by obtain⟨_,_,_,rfl⟩:=L2.ex3 hl;exact rfl
 have Fqf:=Bt (st:=Fe) lqf eqf kqf
 have bqf:=Fqf.binds (ps:=["_law_state","_law_many"]) λ_ _ _ _ _ _ us hl=>by obtain⟨_,_,rfl⟩:=L2.ex2 hl;exact rfl
 have Fqm:=Bt (st:=Gf) lqm eqm kqm
 have bqm:=Fqm.binds (ps:=["_law_row","_law_begin","_law_end"]) λ_ _ _ _ _ _ us hl=>by obtain⟨_,_,_,rfl⟩:=L2.ex3 hl;exact rfl
 have Fq9:=Bt (st:=En) lq9 eq9 kq9
 have bq9:=Fq9.binds (ps:=["_law_state"]) λ_ _ _ _ _ _ us hl=>by obtain⟨_,rfl⟩:=L2.ex1 hl;exact rfl
 have Fqr:=Bt (st:=Ob) lqr eqr kqr
 have bqr:=Fqr.binds (ps:=["row"]) λ_ _ _ _ _ _ us hl=>by obtain⟨_,rfl⟩:=L2.ex1 hl;exact rfl
 have Fq4:=Bt (st:=Dk) lq4 eq4 kq4
 have bq4:=Fq4.binds (ps:=["self","begin","end"]) λ_ _ _ _ _ _ us hl=>by obtain⟨_,_,_,rfl⟩:=L2.ex3 hl;exact rfl
 have Fq0:=Bt (st:=B1) lq0 eq0 kq0
 have bq0:=Fq0.binds (ps:=["self","name"]) λ_ _ _ _ _ _ us hl=>by obtain⟨_,_,rfl⟩:=L2.ex2 hl;exact rfl
 have Fq5:=Bt (st:=El) lq5 eq5 kq5
 have bq5:=Fq5.binds (ps:=["_law_state","_law_plain"]) λ_ _ _ _ _ _ us hl=>by obtain⟨_,_,rfl⟩:=L2.ex2 hl;exact rfl
 have Fqs:=Bt (st:=Oz) lqs eqs kqs
 have bqs:=Fqs.binds (ps:=["one","other"]) λ_ _ _ _ _ _ us hl=>by obtain⟨_,_,rfl⟩:=L2.ex2 hl;exact rfl
 have Fq8:=Bt (st:=Em) lq8 eq8 kq8
 have bq8:=Fq8.binds (ps:=["self","begin","end"]) λ_ _ _ _ _ _ us hl=>by obtain⟨_,_,_,rfl⟩:=L2.ex3 hl;exact rfl
 have Fqu:=Bt (st:=W5) lqu equ kqu
 have bqu:=Fqu.binds (ps:=["row","begin","end"]) λ_ _ _ _ _ _ us hl=>by obtain⟨_,_,_,rfl⟩:=L2.ex3 hl;exact rfl
 have Fqc:=Bt (st:=Fh) lqc eqc kqc
 have bqc:=Fqc.binds (ps:=["self","name","begin","end"]) λ_ _ _ _ _ _ us hl=>by obtain⟨_,_,_,_,rfl⟩:=L2.ex4 hl;exact rfl
 have Fqa:=Bt (st:=Ej) lqa eqa kqa
 have bqa:=Fqa.binds (ps:=["self","begin","end"]) λ_ _ _ _ _ _ us hl=>by obtain⟨_,_,_,rfl⟩:=L2.ex3 hl;exact rfl
 have Fqb:=Bt (st:=Fm) lqb eqb kqb
 have bqb:=Fqb.binds (ps:=["_law_book","_law_kind","_law_name","_law_begin","_law_end"]) λ_ _ _ _ _ _ us hl=>by obtain⟨_,_,_,_,_,rfl⟩:=L2.ex5 hl;exact rfl
 have Fqh:=Bt (st:=Fd) lqh eqh kqh
 have bqh:=Fqh.binds (ps:=["_law_book","_law_plain","_law_state","_law_held"]) λ_ _ _ _ _ _ us hl=>by obtain⟨_,_,_,_,rfl⟩:=L2.ex4 hl;exact rfl
 have Fqk:=Bt (st:=F7) lqk eqk kqk
 have bqk:=Fqk.binds (ps:=["_law_book","_law_plain","_law_names_here","_law_state","_law_cell_here"]) λ_ _ _ _ _ _ us hl=>by obtain⟨_,_,_,_,_,rfl⟩:=L2.ex5 hl;exact rfl
 have Fqt:=Bt (st:=T4) lqt eqt kqt
 have bqt:=Fqt.binds (ps:=["_law_script"]) λ_ _ _ _ _ _ us hl=>by obtain⟨_,rfl⟩:=L2.ex1 hl;exact rfl
 exact⟨{Gw:=fq7,Gm:=_,Kb:=fql,Km:=_,Pf:=fqq,P6:=_,Fy:=fq2,Fz:=_,Ia:=fqe,Ig:=_,F0:=fq3,F3:=_,Jq:=fqi,Ji:=_,Kh:=fqn,Ky:=_,Jg:=fqj,Jh:=_,Jf:=fqg,Jo:=_,Kj:=fqo,Kv:=_,Hr:=fqd,Ic:=_,Ko:=fqp,Kl:=_,Gj:=fq6,Gp:=_,Es:=fq1,Ez:=_,Hv:=fqf,Hw:=_,J9:=fqm,J7:=_,Gr:=fq9,Gn:=_,V1:=fqr,Uy:=_,F1:=fq4,F4:=_,Eh:=fq0,Ei:=_,Gv:=fq5,Gs:=_,f_both:=fqs,Vd:=_,Gk:=fq8,Gu:=_,b4:=fqu,dh:=_,Ih:=fqc,Ib:=_,Hn:=fqa,Hu:=_,Hy:=fqb,Ie:=_,Jk:=fqh,Jp:=_,Jl:=fqk,Jr:=_,Wc:=fqt,S8:=_,G2:=G2,Du:=Du,Aq:=Aq,Ay:=Ay,Al:=Al,Fi:=Fi,Dt:=Dt,Bq:=Bq,Bi:=Bi,Co:=Co,Dl:=Dl,Ak:=Ak,Dq:=Dq,Ag:=Ag,Dr:=Dr,Ao:=Ao,Ar:=Ar},⟨Fq7,vk X G aq7,bq7,Fql,vk X G aql,bql,Fqq,vk X G aqq,bqq,Fq2,bq2,Fqe,bqe,Fq3,bq3,Fqi,vk X G aqi,bqi,Fqn,vk X G aqn,bqn,Fqj,vk X G aqj,bqj,Fqg,vk X G aqg,bqg,Fqo,vk X G aqo,bqo,Fqd,vk X G aqd,bqd,Fqp,vk X G aqp,bqp,Fq6,vk X G aq6,bq6,Fq1,bq1,Fqf,vk X G aqf,bqf,Fqm,vk X G aqm,bqm,Fq9,vk X G aq9,bq9,Fqr,vk X G aqr,bqr,Fq4,bq4,Fq0,bq0,Fq5,vk X G aq5,bq5,Fqs,vk X G aqs,bqs,Fq8,bq8,Fqu,vk X G aqu,bqu,Fqc,bqc,Fqa,bqa,Fqb,vk X G aqb,bqb,Fqh,vk X G aqh,bqh,Fqk,vk X G aqk,bqk,Fqt,vk X G aqt,bqt,⟨_,vk X G Iz⟩,⟨_,vk X G G9⟩,⟨_,vk X G Ex⟩,⟨_,vk X G Fq⟩,vk X G Sa,vk X G Kw,vk X G Nj,x_Full',vk X G Fo,⟨ct_HouseError,cb_HouseError⟩,vk X G J0,x_Known',vk X G M0,vk X G Kp,vk X G G6,vk X G Gg,vk X G Jc,vk X G J8,vk X G Ho,x_NoSpan',vk X G Ks,vk X G Gh,x_NoThing',vk X G Ku,Br,Bf,B6,Ci,⟨Vh e5_NoSpan,e0_NoSpan,e1_NoSpan,e2_NoSpan,e3_NoSpan,e4_NoSpan,e5_NoSpan,e6_NoSpan⟩,Ea,Df,C8,Cs,Ce,Cu,C0,Dj,Ck,C7,C9,B4,C6,E7,Bu,⟨Vh e5_NoThing,e0_NoThing,e1_NoThing,e2_NoThing,e3_NoThing,e4_NoThing,e5_NoThing,e6_NoThing⟩,C5,Ct,Cq,Cg,Bl,Cj,Bv,B8,B7,Cw,Cz,Bs,Cr,D4,Bn,⟨Vh e5_Known,e0_Known,e1_Known,e2_Known,e3_Known,e4_Known,e5_Known,e6_Known⟩,Ew,Ee,Dy,Dd,D5,Di,Ds,Eo,Cy,Dz,D9,Cn,Ed,Ft,B3,⟨Vh e5_Full,e0_Full,e1_Full,e2_Full,e3_Full,e4_Full,e5_Full,e6_Full⟩,Fp,E5,Ey,D7,E6,Ec,Fu,Fn,De,E8,Eu,Cv,Er,Ge,Cf,vk X G aC_Book,⟨pg_Book,hd_Book,po_Book,sa_Book⟩,⟨Lf,aq2,iq2,kc_Book⟩,nf_by_name_Book,⟨aqa,iqa,kqa⟩,⟨aq0,iq0,kq0⟩,⟨aqe,iqe,kqe⟩,⟨aqc,iqc,kqc⟩,⟨aq8,iq8,kq8⟩,⟨aq3,iq3,kq3⟩,vk X G aC_Once,⟨pg_Once,hd_Once,po_Once,sa_Once⟩,⟨Nv,aq4,iq4,kc_Once⟩,nf_begin_Once,nf_end_Once,⟨aq1,iq1,kq1⟩,xi X G Fv,xi X G Qz,xi X G Z6,xi X G Ht,xi X G Ap,xi X G K9,xi X G Nf,xi X G P2,xi X G Td,xi X G Jy,xi X G Yl,xi X G E2⟩,rfl,λs v=>.of_eq rfl⟩
theorem walk {l:W.OpenLaw}{q:Program}{loose:List Str}{XP:(Str->Option Value)->Heap->Prop}{YP:World->Heap->Prop}{d:DefRec}{K:Params->W.Frag}(hn:l.most=some 63)(hdf:d.params.defaults=[])
  (hY:∀(w:World)(h:Heap),YP w h->(K w.params).In h)
  (F:∀(w:World)(mg:Str->Option Value)(fa:Addr)(h:Heap),(K w.params).In h->h.Ns mainGlobals mg->mg d.name=some (.ref fa)->
   ∃fd:FuncData,(∀(s:Shared)(u:Value),BindsTo s fd ⟨[u],[]⟩ [("_law_script",u)])/\∀base:Heap,(K w.params).In base->base.Ns mainGlobals mg->FnOk l.prog w (K w.params) mg base CX0 true 11 fa fd ["_law_script"] (Vi (K w.params))):
  W.WalkO q loose XP YP l.row.toRowW d [] (λf vs=>PySem.call f vs):=
 L2.fw (cm:=true) (n:=63) (k:=11) (x:="_law_script") (CX:=λ_=>CX0) (sp:=λw=>Vi (K w.params)) hn (by decide) hdf ⟨λ_=>rfl,by decide,by decide⟩ hY F (λ_ _ a ns hl _ hS=>⟨a,ns,rfl,hS,hl,λ_=>rfl⟩) λ_ _ _ _ _ z=>z
theorem all_ok {l:W.OpenLaw}{w:World}{K:W.Frag}{mg:Str->Option Value}{fa f:Addr}(hfa:mg "law"=some (.ref fa))
  (h:∃a:Adr,Txt K mg a/\a.Wc=f/\∀(s:Shared)(v:Value),BindsTo s a.S8 ⟨[v],[]⟩ [("_law_script",v)]):
  ∃fd:FuncData,(∀(s:Shared)(u:Value),BindsTo s fd ⟨[u],[]⟩ [("_law_script",u)])/\∀base:Heap,K.In base->base.Ns mainGlobals mg->FnOk l.prog w K mg base CX0 true 11 fa fd ["_law_script"] (Vi K):=by
 obtain⟨a,T,_,hb⟩:=h
 have e:=T.oo
 rw[hfa] at e
 cases e
 exact⟨a.S8,hb,λbase _ _=>jf T⟩
end K51
open PySem PySem.W PyProof.Rows
set_option maxRecDepth 100000 in
set_option maxHeartbeats 0 in
theorem PySem.Challenge.cw_hourhouse_k51_things_that_come_once_holds : PySem.Challenge.rw_hourhouse_k51_things_that_come_once.Holds := by
 w_on; o_law; k_head; (case hw => w_witness2)
 k_fill
 refine K51.walk (l := PySem.Challenge.rw_hourhouse_k51_things_that_come_once) rfl rfl (λ w h Y => W.kIn_of Y) ?F
 case F =>
  intro w mg fa h KX G hmg
  refine' K51.all_ok hmg (K51.txt_mk KX G ?aC_Book ?pg_Book ?hd_Book ?po_Book ?sa_Book ?Lf ?kc_Book ?nf_by_name_Book ?aC_Once ?pg_Once ?hd_Once ?po_Once ?sa_Once ?Nv ?kc_Once ?nf_begin_Once ?nf_end_Once ?aq7 ?lq7 ?eq7 ?kq7 ?aql ?lql ?eql ?kql ?aqq ?lqq ?eqq ?kqq ?aq2 ?lq2 ?eq2 ?kq2 ?iq2 ?aqe ?lqe ?eqe ?kqe ?iqe ?aq3 ?lq3 ?eq3 ?kq3 ?iq3 ?aqi ?lqi ?eqi ?kqi ?aqn ?lqn ?eqn ?kqn ?aqj ?lqj ?eqj ?kqj ?aqg ?lqg ?eqg ?kqg ?aqo ?lqo ?eqo ?kqo ?aqd ?lqd ?eqd ?kqd ?aqp ?lqp ?eqp ?kqp ?aq6 ?lq6 ?eq6 ?kq6 ?aq1 ?lq1 ?eq1 ?kq1 ?iq1 ?aqf ?lqf ?eqf ?kqf ?aqm ?lqm ?eqm ?kqm ?aq9 ?lq9 ?eq9 ?kq9 ?aqr ?lqr ?eqr ?kqr ?aq4 ?lq4 ?eq4 ?kq4 ?iq4 ?aq0 ?lq0 ?eq0 ?kq0 ?iq0 ?aq5 ?lq5 ?eq5 ?kq5 ?aqs ?lqs ?eqs ?kqs ?aq8 ?lq8 ?eq8 ?kq8 ?iq8 ?aqu ?lqu ?equ ?kqu ?aqc ?lqc ?eqc ?kqc ?iqc ?aqa ?lqa ?eqa ?kqa ?iqa ?aqb ?lqb ?eqb ?kqb ?aqh ?lqh ?eqh ?kqh ?aqk ?lqk ?eqk ?kqk ?aqt ?lqt ?eqt ?kqt ?Iz ?G9 ?Ex ?Fq ?Sa ?Kw ?Nj ?x_Full' ?Fo ?ct_HouseError ?cb_HouseError ?J0 ?x_Known' ?M0 ?Kp ?G6 ?Gg ?Jc ?J8 ?Ho ?x_NoSpan' ?Ks ?Gh ?x_NoThing' ?Ku ?Br ?Bf ?B6 ?Ci ?e0_NoSpan ?e1_NoSpan ?e2_NoSpan ?e3_NoSpan ?e4_NoSpan ?e5_NoSpan ?e6_NoSpan ?Ea ?Df ?C8 ?Cs ?Ce ?Cu ?C0 ?Dj ?Ck ?C7 ?C9 ?B4 ?C6 ?E7 ?Bu ?e0_NoThing ?e1_NoThing ?e2_NoThing ?e3_NoThing ?e4_NoThing ?e5_NoThing ?e6_NoThing ?C5 ?Ct ?Cq ?Cg ?Bl ?Cj ?Bv ?B8 ?B7 ?Cw ?Cz ?Bs ?Cr ?D4 ?Bn ?e0_Known ?e1_Known ?e2_Known ?e3_Known ?e4_Known ?e5_Known ?e6_Known ?Ew ?Ee ?Dy ?Dd ?D5 ?Di ?Ds ?Eo ?Cy ?Dz ?D9 ?Cn ?Ed ?Ft ?B3 ?e0_Full ?e1_Full ?e2_Full ?e3_Full ?e4_Full ?e5_Full ?e6_Full ?Fp ?E5 ?Ey ?D7 ?E6 ?Ec ?Fu ?Fn ?De ?E8 ?Eu ?Cv ?Er ?Ge ?Cf ?Fv ?Qz ?Z6 ?Ht ?Ap ?K9 ?Nf ?P2 ?Td ?Jy ?Yl ?E2)
  (case aC_Book => k_is)
  (case pg_Book => k_is)
  (case hd_Book => k_is)
  (case po_Book => k_is)
  (case sa_Book => k_is)
  (case Lf => k_is)
  (case kc_Book => k_is)
  (case nf_by_name_Book => k_is)
  (case aC_Once => k_is)
  (case pg_Once => k_is)
  (case hd_Once => k_is)
  (case po_Once => k_is)
  (case sa_Once => k_is)
  (case Nv => k_is)
  (case kc_Once => k_is)
  (case nf_begin_Once => k_is)
  (case nf_end_Once => k_is)
  (case aq7 => k_is)
  (case lq7 => k_is)
  (case eq7 => k_is)
  (case kq7 => k_is)
  (case aql => k_is)
  (case lql => k_is)
  (case eql => k_is)
  (case kql => k_is)
  (case aqq => k_is)
  (case lqq => k_is)
  (case eqq => k_is)
  (case kqq => k_is)
  (case aq2 => k_is)
  (case lq2 => k_is)
  (case eq2 => k_is)
  (case kq2 => k_is)
  (case iq2 => k_is)
  (case aqe => k_is)
  (case lqe => k_is)
  (case eqe => k_is)
  (case kqe => k_is)
  (case iqe => k_is)
  (case aq3 => k_is)
  (case lq3 => k_is)
  (case eq3 => k_is)
  (case kq3 => k_is)
  (case iq3 => k_is)
  (case aqi => k_is)
  (case lqi => k_is)
  (case eqi => k_is)
  (case kqi => k_is)
  (case aqn => k_is)
  (case lqn => k_is)
  (case eqn => k_is)
  (case kqn => k_is)
  (case aqj => k_is)
  (case lqj => k_is)
  (case eqj => k_is)
  (case kqj => k_is)
  (case aqg => k_is)
  (case lqg => k_is)
  (case eqg => k_is)
  (case kqg => k_is)
  (case aqo => k_is)
  (case lqo => k_is)
  (case eqo => k_is)
  (case kqo => k_is)
  (case aqd => k_is)
  (case lqd => k_is)
  (case eqd => k_is)
  (case kqd => k_is)
  (case aqp => k_is)
  (case lqp => k_is)
  (case eqp => k_is)
  (case kqp => k_is)
  (case aq6 => k_is)
  (case lq6 => k_is)
  (case eq6 => k_is)
  (case kq6 => k_is)
  (case aq1 => k_is)
  (case lq1 => k_is)
  (case eq1 => k_is)
  (case kq1 => k_is)
  (case iq1 => k_is)
  (case aqf => k_is)
  (case lqf => k_is)
  (case eqf => k_is)
  (case kqf => k_is)
  (case aqm => k_is)
  (case lqm => k_is)
  (case eqm => k_is)
  (case kqm => k_is)
  (case aq9 => k_is)
  (case lq9 => k_is)
  (case eq9 => k_is)
  (case kq9 => k_is)
  (case aqr => k_is)
  (case lqr => k_is)
  (case eqr => k_is)
  (case kqr => k_is)
  (case aq4 => k_is)
  (case lq4 => k_is)
  (case eq4 => k_is)
  (case kq4 => k_is)
  (case iq4 => k_is)
  (case aq0 => k_is)
  (case lq0 => k_is)
  (case eq0 => k_is)
  (case kq0 => k_is)
  (case iq0 => k_is)
  (case aq5 => k_is)
  (case lq5 => k_is)
  (case eq5 => k_is)
  (case kq5 => k_is)
  (case aqs => k_is)
  (case lqs => k_is)
  (case eqs => k_is)
  (case kqs => k_is)
  (case aq8 => k_is)
  (case lq8 => k_is)
  (case eq8 => k_is)
  (case kq8 => k_is)
  (case iq8 => k_is)
  (case aqu => k_is)
  (case lqu => k_is)
  (case equ => k_is)
  (case kqu => k_is)
  (case aqc => k_is)
  (case lqc => k_is)
  (case eqc => k_is)
  (case kqc => k_is)
  (case iqc => k_is)
  (case aqa => k_is)
  (case lqa => k_is)
  (case eqa => k_is)
  (case kqa => k_is)
  (case iqa => k_is)
  (case aqb => k_is)
  (case lqb => k_is)
  (case eqb => k_is)
  (case kqb => k_is)
  (case aqh => k_is)
  (case lqh => k_is)
  (case eqh => k_is)
  (case kqh => k_is)
  (case aqk => k_is)
  (case lqk => k_is)
  (case eqk => k_is)
  (case kqk => k_is)
  (case aqt => k_is)
  (case lqt => k_is)
  (case eqt => k_is)
  (case kqt => k_is)
  (case Iz => k_is)
  (case G9 => k_is)
  (case Ex => k_is)
  (case Fq => k_is)
  (case Sa => k_is)
  (case Kw => k_is)
  (case Nj => k_is)
  (case x_Full' => k_exc)
  (case Fo => k_is)
  (case ct_HouseError => k_is)
  (case cb_HouseError => k_is)
  (case J0 => k_is)
  (case x_Known' => k_exc)
  (case M0 => k_is)
  (case Kp => k_is)
  (case G6 => k_is)
  (case Gg => k_is)
  (case Jc => k_is)
  (case J8 => k_is)
  (case Ho => k_is)
  (case x_NoSpan' => k_exc)
  (case Ks => k_is)
  (case Gh => k_is)
  (case x_NoThing' => k_exc)
  (case Ku => k_is)
  (case Br => k_is)
  (case Bf => k_is)
  (case B6 => k_is)
  (case Ci => k_is)
  (case e0_NoSpan => k_is)
  (case e1_NoSpan => k_is)
  (case e2_NoSpan => k_is)
  (case e3_NoSpan => k_is)
  (case e4_NoSpan => k_is)
  (case e5_NoSpan => k_is)
  (case e6_NoSpan => k_is)
  (case Ea => kit_is)
  (case Df => kit_is)
  (case C8 => kit_is)
  (case Cs => kit_is)
  (case Ce => kit_is)
  (case Cu => kit_is)
  (case C0 => kit_is)
  (case Dj => kit_is)
  (case Ck => kit_is)
  (case C7 => kit_is)
  (case C9 => kit_is)
  (case B4 => kit_is)
  (case C6 => kit_is)
  (case E7 => kit_is)
  (case Bu => kit_is)
  (case e0_NoThing => k_is)
  (case e1_NoThing => k_is)
  (case e2_NoThing => k_is)
  (case e3_NoThing => k_is)
  (case e4_NoThing => k_is)
  (case e5_NoThing => k_is)
  (case e6_NoThing => k_is)
  (case C5 => kit_is)
  (case Ct => kit_is)
  (case Cq => kit_is)
  (case Cg => kit_is)
  (case Bl => kit_is)
  (case Cj => kit_is)
  (case Bv => kit_is)
  (case B8 => kit_is)
  (case B7 => kit_is)
  (case Cw => kit_is)
  (case Cz => kit_is)
  (case Bs => kit_is)
  (case Cr => kit_is)
  (case D4 => kit_is)
  (case Bn => kit_is)
  (case e0_Known => k_is)
  (case e1_Known => k_is)
  (case e2_Known => k_is)
  (case e3_Known => k_is)
  (case e4_Known => k_is)
  (case e5_Known => k_is)
  (case e6_Known => k_is)
  (case Ew => kit_is)
  (case Ee => kit_is)
  (case Dy => kit_is)
  (case Dd => kit_is)
  (case D5 => kit_is)
  (case Di => kit_is)
  (case Ds => kit_is)
  (case Eo => kit_is)
  (case Cy => kit_is)
  (case Dz => kit_is)
  (case D9 => kit_is)
  (case Cn => kit_is)
  (case Ed => kit_is)
  (case Ft => kit_is)
  (case B3 => kit_is)
  (case e0_Full => k_is)
  (case e1_Full => k_is)
  (case e2_Full => k_is)
  (case e3_Full => k_is)
  (case e4_Full => k_is)
  (case e5_Full => k_is)
  (case e6_Full => k_is)
  (case Fp => kit_is)
  (case E5 => kit_is)
  (case Ey => kit_is)
  (case D7 => kit_is)
  (case E6 => kit_is)
  (case Ec => kit_is)
  (case Fu => kit_is)
  (case Fn => kit_is)
  (case De => kit_is)
  (case E8 => kit_is)
  (case Eu => kit_is)
  (case Cv => kit_is)
  (case Er => kit_is)
  (case Ge => kit_is)
  (case Cf => kit_is)
  (case Fv => k_is)
  (case Qz => k_is)
  (case Z6 => k_is)
  (case Ht => k_is)
  (case Ap => k_is)
  (case K9 => k_is)
  (case Nf => k_is)
  (case P2 => k_is)
  (case Td => k_is)
  (case Jy => k_is)
  (case Yl => k_is)
  (case E2 => k_is)
