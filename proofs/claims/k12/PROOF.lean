import PyProof.Rows.All
import Wide.All
import OpenK.AllK
import Wide.FinOn
import Lean
import PyProof.EqAt
import PyProof.EqKinds
import PyProof.TupleCall
import PySem.Challenge.RW_hourhouse_k12_simple_next
set_option Elab.async false
set_option linter.all false
set_option maxRecDepth 100000
/-! These names are taken so that the head makes no twins of its heaps, trees and objects: the compiled file would be too big. Nothing refers to them, and they prove nothing. -/
namespace PySem.W.Fast
def tw7327978139332511827 := ()
def tw15437622507602386231 := ()
def tw9211677104797872208 := ()
def tw952980565831532580 := ()
def tw16479359166922684629 := ()
def tw13124891888847899087 := ()
def tw18183346137428373761 := ()
def tw5315401994430250739 := ()
def tw3948276035440228446 := ()
def tw9374492034277027630 := ()
def tw1990285670722392616 := ()
def tw7342322539434958806 := ()
def tw13243167830147784658 := ()
def tw6097253860344272367 := ()
def tw12640466992124561255 := ()
def tw7508315954955430333 := ()
def tw17317257485315041771 := ()
def tw15839381729080261969 := ()
def tw2733378350756927649 := ()
def tw3667116725056846971 := ()
def tw11356312233056957001 := ()
def tw13324535842259076796 := ()
def tw6709982327802194433 := ()
def tw11902724650727887787 := ()
def tw16610030765440747336 := ()
def tw16224098478161620710 := ()
def tw11234123792348595612 := ()
def tw16257707339976689258 := ()
def tw6817443909669305434 := ()
def tw14064769786482240231 := ()
def tw872071715458110613 := ()
def tw14393425094789922696 := ()
def tw4577450313499143197 := ()
def tw10620616084585623089 := ()
def tw13946214554159722541 := ()
def tw7249711439004483267 := ()
def tw731963510916078758 := ()
def tw15425043792523050217 := ()
def tw15332512233160158071 := ()
def tw10084270695609466650 := ()
def tw1540707962305966383 := ()
def tw7665184332089758463 := ()
def tw11363219345937218955 := ()
def tw7752807524063384920 := ()
def tw7219595031888565799 := ()
def tw17674357799096057962 := ()
def tw2926844041705532111 := ()
def tw1051685191627932625 := ()
def tw10744749030810617290 := ()
def tw18003336537268655675 := ()
def tw13729609742449308256 := ()
def tw17105158855196807835 := ()
def tw7131336128588309955 := ()
def tw10783287647672716047 := ()
def tw1134136815403161669 := ()
def tw7037081999032054773 := ()
def tw13300711810767641884 := ()
def tw4539123793804166980 := ()
def tw11155430255544914150 := ()
def tw1475402869680848896 := ()
def tw14075691986664811291 := ()
def tw8074019443762728785 := ()
def tw11533263477161618014 := ()
def tw200414530758506566 := ()
def tw17282145099551911655 := ()
def tw17048404179788080425 := ()
def tw6698264388384804767 := ()
def tw16664082183483844602 := ()
def tw16206764729710851520 := ()
def tw9961437344531095541 := ()
def tw12523643230988260856 := ()
def tw10543724782678506694 := ()
def tw5642402797415851962 := ()
def tw5714737513845459842 := ()
def tw14203639945891561058 := ()
def tw17547897594726583077 := ()
def tw15084299549103472363 := ()
def tw509602821689523248 := ()
def tw12188139689409318157 := ()
def tw17796938331533692926 := ()
def tw11924412708450943063 := ()
def tw11949293541901663507 := ()
def tw4463431183326258675 := ()
def tw1316571390667011998 := ()
def tw16614650395813330850 := ()
def tw14613290671762145897 := ()
def tw6667867383914446161 := ()
def tw7139195129313350927 := ()
def tw9090788863525348832 := ()
def tw17623476931415651501 := ()
def tw11906259210812690438 := ()
def tw3448159954441853523 := ()
def tw10979682931903238376 := ()
def tw7935163484273466530 := ()
def tw1600591738365652123 := ()
def tw4197923750226285489 := ()
def tw5435082627792820751 := ()
def tw8287437336250386903 := ()
def tw5327672691458325992 := ()
def tw3235801435142239241 := ()
def tw9368444167287168752 := ()
def tw2994577652285085155 := ()
def tw11206845746715224685 := ()
def tw6946126971143165653 := ()
def tw15938917638218377412 := ()
def tw8965896954758266582 := ()
def tw17471236366084487113 := ()
def tw12868723322012905989 := ()
def tw13702266155536224004 := ()
def tw7984216968716303994 := ()
def tw288419113668410638 := ()
def tw906344724778496626 := ()
def tw8745815643146528292 := ()
def tw16978069872008130888 := ()
def tw10665008562376463220 := ()
def tw1787698971297260121 := ()
def tw7992227630780319254 := ()
def tw13352209163670997398 := ()
def tw11521278071630183412 := ()
def tw1914944112122786774 := ()
def tw5282634421974406205 := ()
def tw1561857749229245206 := ()
def tw8996285990719201845 := ()
def tw1435646405132817843 := ()
def tw16307333096369148035 := ()
def tw3939866322306829457 := ()
def tw4567087678479153425 := ()
def tw16423376836127365777 := ()
def tw1836850834280772380 := ()
def tw11581402088834324224 := ()
def tw7799458456723221121 := ()
def tw17677533808920002120 := ()
def tw5445435534520489333 := ()
def tw4787346869880719371 := ()
def tw226937546716361935 := ()
def tw12633291613765449966 := ()
def tw15663682166682283726 := ()
def tw9577276226850078962 := ()
def tw9873445266719205041 := ()
def tw15943180581127230922 := ()
def tw14280159576447013909 := ()
def tw792844506287585465 := ()
def tw3566974485540504720 := ()
def tw6947690131017098348 := ()
def tw6715459721232444136 := ()
def tw11356520609439673338 := ()
def tw8077798266493804120 := ()
def tw4319970381092458904 := ()
def tw7265301401033249665 := ()
def tw14905281386222320483 := ()
def tw10645959456269335057 := ()
def tw11804444134458683712 := ()
def tw16620298948493870438 := ()
def tw12803980670186146075 := ()
def tw3351309204743669672 := ()
def tw15187789691290125560 := ()
def tw5831691731359598240 := ()
def tw16780299277403160001 := ()
def tw17388918040861323694 := ()
def tw12333399877267257200 := ()
def tw9823846645115510563 := ()
def tw694085619406314624 := ()
def tw15011410664214824406 := ()
def tw3823367652653365701 := ()
def tw5572709510013003242 := ()
def tw14151169759090484664 := ()
def tw3982127388800691955 := ()
def tw16922189317477617385 := ()
def tw14745052093774045345 := ()
def tw1843828992879416077 := ()
def tw12438285651536637587 := ()
def tw7924737295864243327 := ()
def tw11544616842044077547 := ()
def tw841824329432174408 := ()
def tw9279905168339186301 := ()
def tw4955922481838092226 := ()
def tw5122006751555656577 := ()
def tw695651126374739599 := ()
def tw5082713330182488336 := ()
def tw6712064059794151262 := ()
def tw12911486455225383488 := ()
def tw6162781584177050456 := ()
def tw10966361660212489860 := ()
def tw11148646425233852621 := ()
def tw11681864208267345764 := ()
def tw4868622839203475924 := ()
def tw4015905145171945209 := ()
def tw3334527704487446226 := ()
def tw7378706925938982974 := ()
def tw1546254089498045936 := ()
def tw10247749007224102225 := ()
def tw12179705835821076279 := ()
def tw12879893306152461537 := ()
def tw11183999786319082645 := ()
def tw4736881312866240436 := ()
def tw10154139577772028142 := ()
def tw922035815589986885 := ()
def tw17675963401698249117 := ()
def tw11819337869087873358 := ()
def tw13678016238440232439 := ()
def tw5992879204459187641 := ()
def tw15984919496230902238 := ()
def tw8005402883338314433 := ()
def tw144002776521233490 := ()
def tw3078758457289875809 := ()
def tw4971406716793758940 := ()
def tw11700848515098668224 := ()
def tw3462007660451160471 := ()
def tw5479273096979853932 := ()
def tw4284501907169149055 := ()
def tw2583367817965633030 := ()
def tw12333595629158686696 := ()
def tw7949535951548389598 := ()
def tw8866973529620887831 := ()
def tw17596697430193807159 := ()
def tw5129645188019321005 := ()
def tw13007250438144333461 := ()
def tw11780179802120125896 := ()
def tw5832012534467700679 := ()
def tw16902340587260304136 := ()
def tw15667128110074240697 := ()
def tw8865211701322559411 := ()
def tw13648813502988791965 := ()
def tw3512499153614646872 := ()
def tw9413427665098201997 := ()
def tw9184180097587306019 := ()
def tw14236489396195197442 := ()
def tw4377307402783271603 := ()
def tw17144063159747608653 := ()
def tw5170973942556399510 := ()
def tw5374643694951446784 := ()
def tw12887058175509285645 := ()
def tw746419606048078836 := ()
def tw15595145286839865110 := ()
def tw13971838012385313042 := ()
def tw9453411688259625196 := ()
def tw2479297480029845921 := ()
def tw3981119871749096136 := ()
def tw7991557024664350775 := ()
def tw328494384419532396 := ()
def tw4388420672108092893 := ()
def tw15509566667114743055 := ()
def tw12666111580412545476 := ()
def tw16233246306859801888 := ()
def tw9103673078578898374 := ()
def tw8584801318566246397 := ()
def tw15292556843365103324 := ()
def tw12648647265729570564 := ()
def tw11321227316385136393 := ()
def tw2399220579586665014 := ()
def tw15164397073223276645 := ()
def tw14937320923785058046 := ()
def tw6388080553478589530 := ()
def tw12304533012354202465 := ()
def tw6502293339947714087 := ()
def tw11588805019498529382 := ()
def tw15383812019131603352 := ()
def tw9097087648171532443 := ()
def tw14344303876138346748 := ()
def tw14121174663786922699 := ()
def tw5336003556010564028 := ()
def tw13581826312078178341 := ()
def tw11360403157406790676 := ()
def tw12162288190447609694 := ()
def tw4133021344815226571 := ()
def tw13801116440093469270 := ()
def tw12573750411393055019 := ()
def tw18257994915469124017 := ()
def tw13332108243676875872 := ()
def tw15151068738310396945 := ()
def tw10114821206200204574 := ()
def tw14586482692590758025 := ()
def tw6199243867934958352 := ()
def tw12382537852726677744 := ()
def tw689967677149885391 := ()
def tw6321546944087230163 := ()
def tw6478226787586802376 := ()
def tw10436857961324253544 := ()
def tw16252324768658918693 := ()
def tw5782433156568744528 := ()
def tw11170008983816704204 := ()
def tw1072205039854297792 := ()
def tw4931506743129622679 := ()
def tw192627986132528135 := ()
def tw5514692578488891881 := ()
def tw230390210997534435 := ()
def tw5649451966347485035 := ()
def tw2927172543456058612 := ()
def tw10237538086503825476 := ()
def tw11623708168563817568 := ()
def tw3948608607669130426 := ()
def tw9932501715907130706 := ()
def tw4237908819885540183 := ()
def tw13502702324860984312 := ()
def tw12364994105752627420 := ()
def tw17653893834318914279 := ()
def tw8034622704281550888 := ()
def tw15878634369430509427 := ()
def tw4746311549173750032 := ()
def tw4449168918199078108 := ()
def tw7186972760350597956 := ()
def tw14498069088320470195 := ()
def tw8417724185503538878 := ()
def tw6939794429942415195 := ()
def tw9600126307417365689 := ()
def tw7280466761326195932 := ()
def tw16297953538025517015 := ()
def tw8894887038154712708 := ()
def tw11300303490915101874 := ()
def tw11681952873935056091 := ()
def tw3652857553603937165 := ()
def tw2712340478299048705 := ()
def tw1376222162338729054 := ()
def tw16856782101467818005 := ()
def tw15608370128623265524 := ()
def tw4021988592530823766 := ()
def tw13138811054661609704 := ()
def tw12613808107049540248 := ()
def tw7649077952524680308 := ()
def tw18153029159891824922 := ()
def tw17857997892860536252 := ()
def tw16023324353209584892 := ()
def tw16368644698117601564 := ()
def tw5001050599385893771 := ()
def tw9494574495518146197 := ()
def tw1925273048761258305 := ()
def tw3652350203188213499 := ()
def tw12083874464567873861 := ()
def tw15806611065122443094 := ()
def tw13926079597322292836 := ()
def tw8221422622845850487 := ()
def tw1051381724090672435 := ()
def tw11554531456797451760 := ()
def tw10000540721553575421 := ()
def tw15359750959254869227 := ()
def tw17113625701557232255 := ()
def tw4008326828297322047 := ()
def tw6624762998043314151 := ()
def tw2375856067915751409 := ()
def tw16617006828491544397 := ()
def tw12418061183729826303 := ()
def tw6551065935106898430 := ()
def tw11598476883530365655 := ()
def tw10600900253299532133 := ()
def tw6617772563843728496 := ()
def tw6468792850100455368 := ()
def tw4120258862534648708 := ()
def tw12176830729920415290 := ()
def tw18377225139921464195 := ()
def tw3805694688124084083 := ()
def tw3741701916109380444 := ()
def tw8959454365332530094 := ()
def tw18339018836146540795 := ()
def tw7806828890991279161 := ()
def tw14557621205007337032 := ()
def tw13615837392998786815 := ()
def tw78779219870821332 := ()
def tw803375692099087268 := ()
def tw3054969101603652928 := ()
def tw3187778539790398886 := ()
def tw12084147772164477961 := ()
def tw6001205788478853785 := ()
def tw12186705756525985611 := ()
def tw9184569193919495454 := ()
def tw6699241049273333676 := ()
def tw6059417073717264729 := ()
def tw16275246290520540487 := ()
def tw5089733787717554345 := ()
def tw8385737112233871635 := ()
def tw14963502732662700930 := ()
def tw15310256140294708258 := ()
def tw8073574996503191183 := ()
def tw156124204355902071 := ()
def tw9619303135427384396 := ()
def tw3949246862048616709 := ()
def tw12959599290023926559 := ()
def tw15345448352406164394 := ()
def tw6672719588395567964 := ()
def tw12433824409686939920 := ()
def tw15256524320656879304 := ()
def tw12259240694745917761 := ()
def tw11192402621598054240 := ()
def tw3990004480657180212 := ()
def tw16642476924799137648 := ()
def tw9887534747221875735 := ()
def tw4197465785714564410 := ()
def tw1072641692832091203 := ()
def tw2656114752240855254 := ()
def tw1963716062797794069 := ()
def tw7422794644868654236 := ()
def tw12895969830001448627 := ()
def tw839505122030049088 := ()
def tw7273614464715443947 := ()
def tw13668251590301806505 := ()
def tw2638492560786140505 := ()
def tw1518715337638905961 := ()
def tw15391560657560485190 := ()
def tw5644442207533714844 := ()
def tw16187622704679246405 := ()
def tw12071477713596541807 := ()
def tw4858581068572421524 := ()
def tw4587085034869511201 := ()
def tw13638388129665295844 := ()
def tw6429896844207934467 := ()
def tw310077805619210508 := ()
def tw10835294732981097049 := ()
def tw13776186036589871545 := ()
def tw14839492293698082897 := ()
def tw10199047731363439741 := ()
def tw1758757165497789965 := ()
def tw16534215291538679405 := ()
def tw10445856332050795830 := ()
def tw17953593895486307850 := ()
def tw4927920961821315471 := ()
def tw7601150407090152238 := ()
def tw14445404526050649869 := ()
def tw13372643731925214514 := ()
def tw12008382808908271709 := ()
def tw9731203917796868397 := ()
def tw598547691690984827 := ()
def tw13649984137738202473 := ()
def tw17835878733043688506 := ()
def tw3636415822053913711 := ()
def tw11542695459672249023 := ()
def tw18220705890325589085 := ()
def tw2331480567326842353 := ()
def tw11998058585745362327 := ()
def tw4076194979740375167 := ()
def tw14817026130261692086 := ()
def tw8661150985920366308 := ()
def tw10040067697996966047 := ()
def tw255056876231694543 := ()
def tw15540655600288690922 := ()
def tw1745924813793614479 := ()
def tw15238780686829422325 := ()
def tw16005124589507446312 := ()
def tw5532227389761900561 := ()
def tw11005113272781887965 := ()
def tw14474814664415337436 := ()
def tw2454720797656191523 := ()
def tw6134152267308725126 := ()
def tw4198433773845851888 := ()
def tw950911590424234695 := ()
def tw14698567588297858561 := ()
def tw17318692166055702297 := ()
def tw8008225086060027220 := ()
def tw7390594521341504311 := ()
def tw12957327192943742674 := ()
def tw14249261688496208157 := ()
def tw6489490242955065806 := ()
def tw463274209056487526 := ()
def tw5593956735999825072 := ()
def tw10450731642662330063 := ()
def tw7260117342992825432 := ()
def tw18418485091576046157 := ()
def tw11572808304331929414 := ()
def tw2607924331139584095 := ()
def tw15804557167015976428 := ()
def tw9938537319390508805 := ()
def tw3988344165185064323 := ()
def tw2285793234028897512 := ()
def tw7904344974354432764 := ()
def tw1941549664967738024 := ()
def tw14491361479164834096 := ()
def tw4856587061950299185 := ()
def tw15101584618539595244 := ()
def tw10437334692289369382 := ()
def tw13013508684131053062 := ()
def tw6666119350146121901 := ()
def tw7670927194850037859 := ()
def tw16304649642485066589 := ()
def tw1518909887929501821 := ()
def tw3777350108793186861 := ()
def tw16983093730080703744 := ()
def tw8504246172237879108 := ()
def tw4084350995505718208 := ()
def tw6583242202021646775 := ()
def tw8163180076629861102 := ()
def tw14504392264892102729 := ()
def tw6710732249625661131 := ()
def tw920432678780101579 := ()
def tw10050724938463120427 := ()
def tw7878600119099050079 := ()
def tw14272344506045300540 := ()
def tw5202621567520880756 := ()
def tw1413865132511815839 := ()
def tw17786084777627616429 := ()
def tw11027823806802450140 := ()
def tw8018782908150715430 := ()
def tw3003910862983104534 := ()
def tw5126078265194311497 := ()
def tw5069319579006111194 := ()
def tw5446100140709911127 := ()
def tw1654468144436332973 := ()
def tw8327003425571965801 := ()
def tw8887364301953186883 := ()
def tw15631817010452536067 := ()
def tw5084237974387919211 := ()
def tw10018043396794348818 := ()
def tw13056193555018605527 := ()
def tw18444846711786522887 := ()
def tw9913348131823266562 := ()
def tw14598701357448556500 := ()
def tw3501005713014403524 := ()
def tw2477334342593736814 := ()
def tw14360193648682212740 := ()
def tw13132627727826314770 := ()
def tw7220066590057181255 := ()
def tw16864417394163067560 := ()
def tw1855991010559481699 := ()
def tw520387828849581134 := ()
def tw15954659371479393133 := ()
def tw6384322542920813169 := ()
def tw5698630604530347258 := ()
def tw12136231548006879006 := ()
def tw17831526514668483769 := ()
def tw2967437756770490202 := ()
def tw4121907227402537277 := ()
def tw8580183674125893762 := ()
def tw12062384843533348670 := ()
def tw12323745350185510809 := ()
def tw5413532531164301230 := ()
def tw14773372020118059656 := ()
def tw3264531480595227977 := ()
def tw11665583630631047821 := ()
def tw9246673596872705039 := ()
def tw1512313055275638810 := ()
def tw10862520416762782908 := ()
def tw3608514651562286072 := ()
def tw329779071068685839 := ()
def tw6652898918487990475 := ()
def tw2819022979051119847 := ()
def tw8570193441603456074 := ()
def tw3484145128834469980 := ()
def tw15612521258420879643 := ()
def tw5125151746213711544 := ()
def tw9428805590549214188 := ()
def tw14502673756416900182 := ()
def tw4154218385458812685 := ()
def tw610439422494405871 := ()
def tw13829404326070748327 := ()
def tw17810894059884914166 := ()
def tw4064864314284864379 := ()
def tw13744289923135151099 := ()
def tw11269733166471722528 := ()
def tw15868413968122530069 := ()
def tw2356815337758161354 := ()
def tw6862590421953501514 := ()
def tw13455020441476381149 := ()
def tw13693026788940101510 := ()
def tw10637634146730357827 := ()
def tw15966589133924399854 := ()
def tw18245409127875647954 := ()
def tw7248011099667811421 := ()
def tw17312063543663014577 := ()
def tw7858462750434281917 := ()
def tw10429477894756994389 := ()
def tw16692642488625521433 := ()
def tw7848303869451446275 := ()
def tw6080276405073048923 := ()
def tw3242386691637727793 := ()
def tw1943244962686301846 := ()
def tw14812567930355759726 := ()
def tw8239711315445327624 := ()
def tw3100598750598836808 := ()
def tw5964602319816102544 := ()
def tw1011039967974283077 := ()
def tw16369153674106864727 := ()
def tw9091621296322071039 := ()
def tw11824524257633609020 := ()
def tw13196052268934512536 := ()
def tw6472356794232943739 := ()
def tw9717718483682740455 := ()
def tw931984000720623871 := ()
def tw6007977124375557791 := ()
def tw10463915507487144925 := ()
def tw16954271799273624034 := ()
def tw7819508769637328861 := ()
def tw13550792333223092084 := ()
def tw17133971238878083064 := ()
def tw11723094376140070421 := ()
def tw13422966495482720193 := ()
def tw11384539353941328531 := ()
def tw4684803903071354860 := ()
def tw5125208438426599082 := ()
def tw1027993578372006363 := ()
def tw11628625568855058781 := ()
def tw14376015367220030062 := ()
def tw1532697950371856710 := ()
def tw2694058654310589883 := ()
def tw8868257002554710082 := ()
def tw10320492941528443112 := ()
def tw3814780492822222747 := ()
def tw11223280326314813265 := ()
def tw14565947534942880137 := ()
def tw11540686517855659944 := ()
def tw3507753821212745377 := ()
def tw12532502575435320520 := ()
def tw9499360019436191887 := ()
def tw790459606372265910 := ()
def tw14151763581015877450 := ()
def tw13319806773295902207 := ()
end PySem.W.Fast
namespace L2
open PySem PySem.Spec PyProof.Rows
abbrev Key := Sum Int Str
def keyIs : Key → Value → Bool
  | .inl k, v => Value.isInt k v
  | .inr x, v => Value.isStrOf x v
def keyH (w : World) : Key → Int
  | .inl k => hashInt k
  | .inr x => hashStr w x
theorem keyIs_shape : ∀ {k : Key} {v : Value}, keyIs k v = true → (∃ i t, k = Sum.inl i ∧ v = Value.int i t) ∨ (∃ x t, k = Sum.inr x ∧ v = Value.str x t)
  | .inl i, v, h => by
    obtain ⟨t, e⟩ := Value.isInt_shape (k := i) (v := v) h
    exact .inl ⟨i, t, rfl, e⟩
  | .inr x, v, h => by
    obtain ⟨t, e⟩ := Value.isStrOf_shape (x := x) (v := v) h
    exact .inr ⟨x, t, rfl, e⟩
theorem key_ll (a b : Int) : decide ((Sum.inl a : Key) = Sum.inl b) = (a == b) := by
  by_cases e : a = b
  · subst e; simp
  · have h : ¬ (Sum.inl a : Key) = Sum.inl b := fun q => e (Sum.inl.inj q)
    rw [decide_eq_false h]
    exact (beq_eq_false_iff_ne.mpr e).symm
theorem key_rr (a b : Str) : decide ((Sum.inr a : Key) = Sum.inr b) = decide (a = b) := by
  by_cases e : a = b
  · subst e; simp
  · have h : ¬ (Sum.inr a : Key) = Sum.inr b := fun q => e (Sum.inr.inj q)
    rw [decide_eq_false h, decide_eq_false e]
theorem key_lr (a : Int) (b : Str) : decide ((Sum.inl a : Key) = Sum.inr b) = false := decide_eq_false (fun q => nomatch q)
theorem key_rl (a : Str) (b : Int) : decide ((Sum.inr a : Key) = Sum.inl b) = false := decide_eq_false (fun q => nomatch q)
def mixKind (prog : Program) (w : World) : PySem.KeyKind prog w Key where
  is := keyIs
  hash := keyH w
  inj := fun v a b ha hb => by
    rcases keyIs_shape ha with ⟨i, t, rfl, rfl⟩ | ⟨x, t, rfl, rfl⟩
    · rcases keyIs_shape hb with ⟨j, u, rfl, e⟩ | ⟨y, u, rfl, e⟩
      · injection e with e1 _; rw [e1]
      · exact nomatch e
    · rcases keyIs_shape hb with ⟨j, u, rfl, e⟩ | ⟨y, u, rfl, e⟩
      · exact nomatch e
      · injection e with e1 _; rw [e1]
  byValue := fun k v h => by
    rcases keyIs_shape h with ⟨i, t, rfl, rfl⟩ | ⟨x, t, rfl, rfl⟩ <;> rfl
  pyHash := fun hv h => by
    rcases keyIs_shape hv with ⟨i, t, rfl, rfl⟩ | ⟨x, t, rfl, rfl⟩
    · exact wpAny_pyHash_int h
    · exact wpAny_pyHash_str h
  eqBool := fun hu hv h => by
    rcases keyIs_shape hu with ⟨i, t, rfl, rfl⟩ | ⟨x, t, rfl, rfl⟩
    · rcases keyIs_shape hv with ⟨j, u, rfl, rfl⟩ | ⟨y, u, rfl, rfl⟩
      · rw [key_ll] at h; exact wpAny_eqBool_int h
      · rw [key_lr] at h; exact SeqAt.EqAt.int_str i t y u _ _ _ _ h
    · rcases keyIs_shape hv with ⟨j, u, rfl, rfl⟩ | ⟨y, u, rfl, rfl⟩
      · rw [key_rl] at h; exact SeqAt.EqAt.str_int x t j u _ _ _ _ h
      · rw [key_rr] at h; exact wpAny_eqBool_str h
  «strs» := fun k x t v h => by
    rcases keyIs_shape h with ⟨i, u, rfl, e⟩ | ⟨y, u, rfl, e⟩
    · exact nomatch e
    · injection e with e1 _
      subst e1
      cases v <;> rfl
end L2
namespace L2
open PySem PySem.Spec PyProof.Rows
inductive V where
  | non | bl (b : Bool) | int (i : Int) | str (x : Str) | byt (b : Array UInt8) | flt (b : UInt64) | ref (a : Addr) | ty (n : String)
  deriving DecidableEq
def RelV : V → Value → Prop
  | .non, u => u = Value.none
  | .bl b, u => u = Value.bool b
  | .int i, u => ∃ t, u = Value.int i t
  | .str x, u => ∃ t, u = Value.str x t
  | .byt b, u => ∃ t, u = Value.bytes b t
  | .flt b, u => ∃ t, u = Value.float b t
  | .ref a, u => u = Value.ref a
  | .ty n, u => u = Value.type n
abbrev Vals : List V → List Value → Prop := Paired RelV
theorem Vals.length {xs : List V} {us : List Value} (r : Vals xs us) : xs.length = us.length := Paired.length r
theorem Vals.get : ∀ {xs : List V} {us : List Value} {i : Nat} {x : V}, Vals xs us → xs[i]? = some x → ∃ u, us[i]? = some u ∧ RelV x u
  | _, _, _, _, .nil, e => by simp at e
  | _, _, 0, _, .cons r _, e => by simp at e; subst e; exact ⟨_, rfl, r⟩
  | _, _, i + 1, x, .cons _ t, e => by
    obtain ⟨u, h1, h2⟩ := Vals.get (i := i) (x := x) t (by simpa using e)
    exact ⟨u, by simpa using h1, h2⟩
theorem Vals.set {x : V} {u : Value} (r : RelV x u) : ∀ {xs : List V} {us : List Value} (i : Nat), Vals xs us → Vals (xs.set i x) (us.set i u)
  | _, _, _, .nil => .nil
  | _, _, 0, .cons _ t => .cons r t
  | _, _, i + 1, .cons q t => .cons q (Vals.set r i t)
theorem Vals.append : ∀ {xs ys : List V} {us ws : List Value}, Vals xs us → Vals ys ws → Vals (xs ++ ys) (us ++ ws)
  | _, _, _, _, .nil, s => s
  | _, _, _, _, .cons r t, s => .cons r (Vals.append t s)
theorem Vals.take : ∀ {xs : List V} {us : List Value} (n : Nat), Vals xs us → Vals (xs.take n) (us.take n)
  | _, _, 0, _ => .nil
  | _, _, _ + 1, .nil => .nil
  | _, _, n + 1, .cons r t => .cons r (Vals.take n t)
theorem Vals.drop : ∀ {xs : List V} {us : List Value} (n : Nat), Vals xs us → Vals (xs.drop n) (us.drop n)
  | _, _, 0, r => r
  | _, _, _ + 1, .nil => .nil
  | _, _, n + 1, .cons _ t => Vals.drop n t
theorem Vals.none_of : ∀ {xs : List V} {us : List Value} {i : Nat}, Vals xs us → xs[i]? = none → us[i]? = none := fun {xs us i} r e => by
  have h1 := r.length
  have h2 : xs.length ≤ i := List.getElem?_eq_none_iff.mp e
  exact List.getElem?_eq_none_iff.mpr (by omega)
def RelO : Option V → Option Value → Prop
  | some v, some u => RelV v u
  | none, none => True
  | _, _ => False
def KV {κ : Type} : List (κ × V) → List (κ × Value) → Prop := Paired fun (p : κ × V) (q : κ × Value) => p.1 = q.1 ∧ RelV p.2 q.2
def kV : Key → V
  | .inl i => .int i
  | .inr x => .str x
inductive HO where
  | lst (xs : List V)
  | tup (xs : List V)
  | dK (kvs : List (Key × V)) | dT (kvs : List (List Key × V))
  | set (S : Int → Bool) (n : Nat)
  | ins (C dx : Addr) (fs : List (Str × V))
  | own (x : Addr)
  | xd (fs : List (Str × V))
  | met (f x : Addr)
  | rng (lo hi : Int)
  | frz (o : Obj) (u : HO)
  | tbl (ps : Array Value)
  | ext (φ : Heap → Prop)
abbrev Hp := Addr → Option HO
def upd (H : Hp) (a : Addr) (o : HO) : Hp := fun b => if b = a then some o else H b
theorem upd_same {H : Hp} {a : Addr} {o : HO} : upd H a o a = some o := by unfold upd; rw [if_pos rfl]
theorem upd_ne {H : Hp} {a b : Addr} {o : HO} (h : b ≠ a) : upd H a o b = H b := by unfold upd; rw [if_neg h]
theorem ne_of_none {H : Hp} {a b : Addr} {o : HO} (h : H a = some o) (h' : H b = none) : a ≠ b := by
  intro e; subst e; rw [h] at h'; cases h'
section
variable (P : Program) (w : World)
def ObjOk (H : Hp) (h : Heap) (a : Addr) : HO → Prop
  | .lst xs => xs.length ≤ sizeLine ∧ ∃ (its : List Value) (n : Nat), Vals xs its ∧ h.get? a = some { cls := .type "list", data := .seq its.toArray n }
  | .tup xs => xs.length ≤ sizeLine ∧ ∃ its : List Value, Vals xs its ∧ IsTup h a its.toArray
  | .dK kvs => kvs.length ≤ sizeLine ∧ (a == sysModules) = false ∧ ∃ vs, KV kvs vs ∧ h.DictOf (mixKind P w) a vs
  | .dT kvs => kvs.length ≤ sizeLine ∧ (a == sysModules) = false ∧ ∃ xs : List (List Key × Addr × Value),
      Paired (fun (p : List Key × V) (q : List Key × Addr × Value) => p.1 = q.1 ∧ H q.2.1 = some (.tup (p.1.map kV)) ∧ RelV p.2 q.2.2) kvs xs ∧
      ∃ o es ep, h.get? a = some o ∧ o.ExactDict ∧ o.data = .dict es ep ∧ es.toList = xs.map (entryOfKey (tupleKind (mixKind P w))) ∧ (xs.map (·.1)).Nodup
  | .set S n => h.SetOf (intKind P w) a S n
  | .ins C dx fs => H dx = some (.own a) ∧ fs.length ≤ 1000 ∧ dx ≠ a ∧ h.get? a = some (PySem.W.instObj C dx) ∧
      ∃ mA, h.Ns1 dx mA ∧ (∀ f, RelO (fs.lookup f) (mA f)) ∧ PySem.Within mA (fs.map (·.1))
  | .own _ => ∃ o, h.get? a = some o
  | .xd fs => ∃ mA, h.Ns1 a mA ∧ ∀ f, RelO (fs.lookup f) (mA f)
  | .rng lo hi => ∃ t u v, h.get? a = some { cls := .type "range", data := .fields #[.int lo t, .int hi u, .int 1 v] }
  | .frz o u => h.get? a = some o ∧ ObjOk H h a u
  | .tbl ps => h.get? a = some { cls := .none, data := .fields ps }
  | .met f x => h.get? a = some (PySem.W.methodObj (.ref f) (.ref x))
  | .ext φ => φ h ∧ (∃ o, h.get? a = some o) ∧ ∀ h1 h2 : Heap, φ h1 → (∀ o, h1.get? a = some o → h2.get? a = some o) → φ h2
def HOk (H : Hp) (h : Heap) : Prop := ∀ a o, H a = some o → ObjOk P w H h a o
end
section
variable {P : Program} {w : World} {H H' : Hp} {h h' : Heap} {a : Addr} {o : HO}
theorem ObjOk.lt (x : ObjOk P w H h a o) : a < h.objs.size := by
  cases o with
  | lst xs => obtain ⟨_, _, _, _, e⟩ := x; exact Heap.lt_size e
  | tup xs => obtain ⟨_, _, _, p⟩ := x; exact p.lt
  | dK kvs => obtain ⟨_, _, _, _, o, _, _, e, _⟩ := x; exact Heap.lt_size e
  | dT kvs => obtain ⟨_, _, _, _, o, _, _, e, _⟩ := x; exact Heap.lt_size e
  | set S n => obtain ⟨o, _, _, _, e, _⟩ := x; exact Heap.lt_size e
  | ins C dx fs => obtain ⟨_, _, _, e, _⟩ := x; exact Heap.lt_size e
  | own y => obtain ⟨_, e⟩ := x; exact Heap.lt_size e
  | xd fs => obtain ⟨_, ⟨_, _, _, e, _⟩, _⟩ := x; exact Heap.lt_size e
  | rng lo hi => obtain ⟨_, _, _, e⟩ := x; exact Heap.lt_size e
  | frz ob u => obtain ⟨e, _⟩ := x; exact Heap.lt_size e
  | tbl ps => exact Heap.lt_size (show h.get? a = some _ from x)
  | met f y => exact Heap.lt_size (show h.get? a = some _ from x)
  | ext φ => obtain ⟨_, ⟨_, e⟩, _⟩ := x; exact Heap.lt_size e
theorem Paired.mapP {α β : Type} {F G : α → β → Prop} : ∀ {l₁ : List α} {l₂ : List β}, Paired F l₁ l₂ → (∀ a b, F a b → G a b) → Paired G l₁ l₂
  | _, _, .nil, _ => .nil
  | _, _, .cons r t, f => .cons (f _ _ r) (Paired.mapP t f)
theorem ObjOk.stay (x : ObjOk P w H h a o) (k : ∀ b u, (b = a ∨ H b = some (.own a)) → h.get? b = some u → h'.get? b = some u)
    (ho : ∀ b, H b = some (.own a) → H' b = some (.own a)) (ht : ∀ b xs, H b = some (.tup xs) → H' b = some (.tup xs)) : ObjOk P w H' h' a o := by
  induction o with
  | lst xs => obtain ⟨z, its, n, r, e⟩ := x; exact ⟨z, its, n, r, k _ _ (.inl rfl) e⟩
  | tup xs => obtain ⟨z, its, r, ob, e, c⟩ := x; exact ⟨z, its, r, ob, k _ _ (.inl rfl) e, c⟩
  | dK kvs => obtain ⟨z, y, vs, r, ob, es, ep, e, c⟩ := x; exact ⟨z, y, vs, r, ob, es, ep, k _ _ (.inl rfl) e, c⟩
  | dT kvs =>
    obtain ⟨z, y, xs, r, ob, es, ep, e, c⟩ := x
    exact ⟨z, y, xs, Paired.mapP r fun p q z => ⟨z.1, ht _ _ z.2.1, z.2.2⟩, ob, es, ep, k _ _ (.inl rfl) e, c⟩
  | set S n => obtain ⟨ob, es, ep, t, e, c⟩ := x; exact ⟨ob, es, ep, t, k _ _ (.inl rfl) e, c⟩
  | ins C dx fs =>
    obtain ⟨d, z, ne, e, mA, ⟨od, es, ep, e2, c⟩, r⟩ := x
    exact ⟨ho _ d, z, ne, k _ _ (.inl rfl) e, mA, ⟨od, es, ep, k _ _ (.inr d) e2, c⟩, r⟩
  | own y => obtain ⟨ob, e⟩ := x; exact ⟨ob, k _ _ (.inl rfl) e⟩
  | xd fs => obtain ⟨mA, ⟨od, es, ep, e, c⟩, r⟩ := x; exact ⟨mA, ⟨od, es, ep, k _ _ (.inl rfl) e, c⟩, r⟩
  | rng lo hi => obtain ⟨t, u, v, e⟩ := x; exact ⟨t, u, v, k _ _ (.inl rfl) e⟩
  | frz ob u ih => obtain ⟨e, q⟩ := x; exact ⟨k _ _ (.inl rfl) e, ih q⟩
  | tbl ps =>
    have e : h.get? a = some { cls := .none, data := .fields ps } := x
    show h'.get? a = some { cls := .none, data := .fields ps }
    exact k a _ (.inl rfl) e
  | met f y =>
    have e : h.get? a = some (PySem.W.methodObj (.ref f) (.ref y)) := x
    show h'.get? a = some (PySem.W.methodObj (.ref f) (.ref y))
    exact k a _ (.inl rfl) e
  | ext φ => obtain ⟨p, ⟨o, e⟩, st⟩ := x; exact ⟨st _ _ p fun o q => k _ _ (.inl rfl) q, ⟨o, k _ _ (.inl rfl) e⟩, st⟩
theorem HOk.lt (x : HOk P w H h) (e : H a = some o) : a < h.objs.size := (x a o e).lt
theorem HOk.fresh (x : HOk P w H h) (e : h.objs.size ≤ a) : H a = none := by
  cases q : H a with
  | none => rfl
  | some u => exact absurd (Nat.lt_of_lt_of_le (x.lt q) e) (Nat.lt_irrefl _)
theorem HOk.kept (x : HOk P w H h) (k : ∀ b u, h.get? b = some u → h'.get? b = some u) : HOk P w H h' := fun a o e =>
  (x a o e).stay (fun b u _ q => k b u q) (fun _ q => q) fun _ _ q => q
theorem HOk.laid (x : HOk P w H h) (k : ∀ b u, h.get? b = some u → h'.get? b = some u) (hp : h.objs.size ≤ a) (new : ObjOk P w (upd H a o) h' a o) : HOk P w (upd H a o) h' := fun b u e => by
  have hn := x.fresh hp
  by_cases hb : b = a
  · subst hb; rw [upd_same] at e; cases e; exact new
  · rw [upd_ne hb] at e
    exact (x b u e).stay (fun c v _ q => k c v q) (fun c q => by rw [upd_ne (ne_of_none q hn)]; exact q) fun c xs q => by rw [upd_ne (ne_of_none q hn)]; exact q
end
def Rd (H : Hp) (a : Addr) (u : HO) : Prop := H a = some u ∨ ∃ o, H a = some (.frz o u)
theorem Rd.of {H : Hp} {a : Addr} {u : HO} (h : H a = some u) : Rd H a u := .inl h
theorem Rd.ok {P : Program} {w : World} {H : Hp} {h : Heap} {a : Addr} {u : HO} (r : Rd H a u) (x : HOk P w H h) : ObjOk P w H h a u := by
  rcases r with r | ⟨o, r⟩
  · exact x a u r
  · obtain ⟨_, q⟩ := x a _ r
    exact q
def Mut : Option HO → Prop
  | some (.lst _) => True
  | some (.dK _) => True
  | some (.dT _) => True
  | some (.set _ _) => True
  | some (.ins _ _ _) => True
  | some (.ext _) => True
  | _ => False
section
variable {P : Program} {w : World} {H : Hp} {h h' : Heap} {x e : Addr} {o' : HO}
theorem HOk.write (ok : HOk P w H h) (mu : Mut (H x)) (he : e = x ∨ H e = some (.own x)) (k : ∀ b u, b ≠ e → h.get? b = some u → h'.get? b = some u) (heo : ∃ u, h'.get? e = some u)
    (new : ObjOk P w (upd H x o') h' x o') : HOk P w (upd H x o') h' := fun b u q => by
  have nown : ∀ c y, H c = some (.own y) → c ≠ x := fun c y r z => by subst z; rw [r] at mu; exact mu
  have ntup : ∀ c xs, H c = some (.tup xs) → c ≠ x := fun c xs r z => by subst z; rw [r] at mu; exact mu
  by_cases hb : b = x
  · subst hb; rw [upd_same] at q; cases q; exact new
  · rw [upd_ne hb] at q
    by_cases hbe : b = e
    · have q' : H b = some (.own x) := by
        rcases he with z | z
        · exact absurd (hbe.trans z) hb
        · rw [hbe]; exact z
      rw [q] at q'; cases q'
      obtain ⟨v, hv⟩ := heo
      exact ⟨v, by rw [hbe]; exact hv⟩
    · refine (ok b u q).stay (fun c v hc r => k c v ?_ r) (fun c r => by rw [upd_ne (nown c b r)]; exact r) fun c xs r => by rw [upd_ne (ntup c xs r)]; exact r
      rcases hc with rfl | hc
      · exact hbe
      · rintro rfl
        rcases he with z | z
        · exact nown c b hc z
        · rw [hc] at z; cases z; exact hb rfl
end
structure Un (fs ex : List Addr) (H H' : Hp) (h h' : Heap) : Prop where
  keep : ∀ b o, h.get? b = some o → H b = none → b ∉ fs → b ∉ ex → h'.get? b = some o
  slot : ∀ b o, h.get? b = some o → H b = none → b ∈ fs → b ∉ ex → ∃ sl, h'.get? b = some { o with slots := sl }
  free : ∀ b o, h.get? b = some o → H b = none → b ∉ ex → H' b = none
  there : ∀ b o, h.get? b = some o → b ∉ ex → ∃ o', h'.get? b = some o'
  tups : ∀ b xs, H b = some (.tup xs) → H' b = some (.tup xs)
  frzs : ∀ b o u, H b = some (.frz o u) → H' b = some (.frz o u)
  tbls : ∀ b ps, H b = some (.tbl ps) → ∃ more, H' b = some (.tbl (ps ++ more))
section
variable {fs fs' ex ex' : List Addr} {H H1 H2 : Hp} {h h1 h2 h' : Heap} {a x e : Addr} {o : HO}
theorem Un.any (u : Un fs ex H H1 h h1) {b : Addr} {ob : Obj} (q : h.get? b = some ob) (n : H b = none) (hx : b ∉ ex) : ∃ sl, h1.get? b = some { ob with slots := sl } := by
  by_cases hb : b ∈ fs
  · exact u.slot b ob q n hb hx
  · exact ⟨ob.slots, u.keep b ob q n hb hx⟩
theorem Un.trans (a : Un fs ex H H1 h h1) (b : Un fs ex H1 H2 h1 h2) : Un fs ex H H2 h h2 where
  keep := fun c ob q n hc hx => b.keep c ob (a.keep c ob q n hc hx) (a.free c ob q n hx) hc hx
  slot := fun c ob q n hc hx => by
    obtain ⟨sl, e1⟩ := a.slot c ob q n hc hx
    obtain ⟨sl', e2⟩ := b.slot c _ e1 (a.free c ob q n hx) hc hx
    exact ⟨sl', e2⟩
  free := fun c ob q n hx => by
    obtain ⟨o', e1⟩ := a.there c ob q hx
    exact b.free c o' e1 (a.free c ob q n hx) hx
  there := fun c ob q hx => by
    obtain ⟨o', e1⟩ := a.there c ob q hx
    exact b.there c o' e1 hx
  tups := fun c xs q => b.tups c xs (a.tups c xs q)
  frzs := fun c ob xs q => b.frzs c ob xs (a.frzs c ob xs q)
  tbls := fun c ps q => by
    obtain ⟨m1, e1⟩ := a.tbls c ps q
    obtain ⟨m2, e2⟩ := b.tbls c _ e1
    exact ⟨m1 ++ m2, by rw [e2, Array.append_assoc]⟩
theorem Un.kept (k : ∀ b u, h.get? b = some u → h'.get? b = some u) : Un fs ex H H h h' :=
  ⟨fun b ob q _ _ _ => k b ob q, fun b ob q _ _ _ => ⟨ob.slots, k b ob q⟩, fun _ _ _ n _ => n, fun b ob q _ => ⟨ob, k b ob q⟩, fun _ _ q => q, fun _ _ _ q => q, fun _ ps q => ⟨#[], by rw [q]; simp⟩⟩
theorem Un.refl : Un fs ex H H h h := Un.kept fun _ _ q => q
theorem Un.laid (k : ∀ b u, h.get? b = some u → h'.get? b = some u) (hp : h.objs.size ≤ a) (hn : H a = none) : Un fs ex H (upd H a o) h h' where
  keep := fun b u q _ _ _ => k b u q
  slot := fun b u q _ _ _ => ⟨u.slots, k b u q⟩
  free := fun b u q n _ => by rw [upd_ne (Nat.ne_of_lt (Nat.lt_of_lt_of_le (Heap.lt_size q) hp))]; exact n
  there := fun b u q _ => ⟨u, k b u q⟩
  tups := fun b xs q => by rw [upd_ne (ne_of_none q hn)]; exact q
  frzs := fun b u xs q => by rw [upd_ne (ne_of_none q hn)]; exact q
  tbls := fun b ps q => ⟨#[], by rw [upd_ne (ne_of_none q hn), q]; simp⟩
theorem Un.write (mu : Mut (H x)) (he : e = x ∨ H e = some (.own x)) (k : ∀ b u, b ≠ e → h.get? b = some u → h'.get? b = some u) (heo : ∃ u, h'.get? e = some u) : Un fs ex H (upd H x o) h h' := by
  have hx : ∀ b, H b = none → b ≠ x := fun b n z => by subst z; rw [n] at mu; exact mu
  have hb : ∀ b, H b = none → b ≠ e := fun b n z => by
    subst z
    rcases he with r | r
    · exact hx b n r
    · rw [n] at r; cases r
  have hm : ∀ b u, H b = some u → ¬ Mut (some u) → b ≠ x := fun b u q nm z => by subst z; rw [q] at mu; exact nm mu
  refine ⟨fun b u q n _ _ => k b u (hb b n) q, fun b u q n _ _ => ⟨u.slots, k b u (hb b n) q⟩, fun b u q n _ => by rw [upd_ne (hx b n)]; exact n, fun b u q _ => ?_,
    fun b xs q => by rw [upd_ne (hm b _ q fun z => z)]; exact q, fun b u xs q => by rw [upd_ne (hm b _ q fun z => z)]; exact q, fun b ps q => ⟨#[], by rw [upd_ne (hm b _ q fun z => z), q]; simp⟩⟩
  by_cases hbe : b = e
  · subst hbe; exact heo
  · exact ⟨u, k b u hbe q⟩
theorem Un.mono (u : Un fs ex H H1 h h1) (hs : ∀ b ∈ fs, b ∈ fs') (hx : ∀ b ∈ ex, b ∈ ex') : Un fs' ex' H H1 h h1 :=
  ⟨fun b ob q n hb he => u.keep b ob q n (fun z => hb (hs b z)) fun z => he (hx b z), fun _ _ q n _ he => u.any q n fun z => he (hx _ z), fun b ob q n he => u.free b ob q n fun z => he (hx b z), fun b ob q he => u.there b ob q fun z => he (hx b z), u.tups, u.frzs, u.tbls⟩
end
def trk (h : Heap) (H : Hp) : List Addr := (List.range h.objs.size).filter fun a => (H a).isSome
def hidT (h : Heap) (H : Hp) : Heap := PySem.W.hideAll h (trk h H)
theorem hidT_size (h : Heap) (H : Hp) : (hidT h H).objs.size = h.objs.size := PySem.W.hideAll_size _ _
theorem hidT_get {h : Heap} {H : Hp} {b : Addr} {o : Obj} (e : h.get? b = some o) (n : H b = none) : (hidT h H).get? b = some o :=
  PySem.W.hideAll_get _ e fun hm => by
    have q : (H b).isSome = true := (List.mem_filter.mp hm).2
    rw [n] at q; simp at q
theorem of_hidT {h : Heap} {H : Hp} {b : Addr} {o : Obj} (e : (hidT h H).get? b = some o) : h.get? b = some o ∧ H b = none := by
  have e' : h.get? b = some o := PySem.W.of_hideAll (trk h H) e
  refine ⟨e', ?_⟩
  cases q : H b with
  | none => rfl
  | some x =>
    have hm : b ∈ trk h H := List.mem_filter.mpr ⟨List.mem_range.mpr (Heap.lt_size e'), by simp [q]⟩
    have z : (hidT h H).get? b = none := PySem.W.hideAll_none (trk h H) hm
    rw [z] at e; cases e
def allNews (g h : Heap) (L : Addr) : List (Addr × Obj) := (List.range h.objs.size).filterMap fun a => if a = L ∨ (g.get? a).isSome = true then none else (h.get? a).map fun o => (a, o)
def rest (g h : Heap) (L d : Addr) : List (Addr × Obj) := (allNews g h L).filter fun p => decide (p.1 ≠ d)
end L2
namespace L2
open PySem PySem.Spec PyProof.Rows
structure Mod (K : PySem.W.Frag) (mg : Str → Option Value) (base : Heap) : Prop where
  kin : K.In base
  glob : base.Ns mainGlobals mg
  blt : ∃ mb, base.Ns builtinsNs mb ∧ ∀ x : Str, x ≠ "__name__" → mb x = bootBuiltins x
  nolimit : base.NoLimit
structure Cx where
  prog : Program
  w : World
  K : PySem.W.Frag
  mg : Str → Option Value
  base : Heap
  A : Around
  N : List Str
  s₀ : Shared
  H₀ : Hp
  env : Env
  outer : List Env
  stack : List Env
  ex : List Addr
  fn : Str → Bool
  calm : Bool
  pn : List (Addr × Obj)
  xe : Value → Shared → Prop
def frs (l : List Env) : List Addr := l.filterMap (·.frame)
abbrev Cx.fs (X : Cx) : List Addr := frs X.outer
def Vis (sc : Scope) (x : Str) : Prop := sc.names.lookup x = some .local ∨ sc.names.lookup x = some .cell ∨ sc.names.lookup x = some .free
def Loc (sc : Scope) (x : Str) : Prop := sc.names.lookup x = some .local ∨ sc.names.lookup x = some .cell
def Look (env : Env) (h : Heap) (m : Str → Option Value) (x : Str) (u : Value) : Prop :=
  (env.kindOf x = some .local ∧ m x = some u) ∨ ((env.kindOf x = some .cell ∨ env.kindOf x = some .free) ∧ ∃ c, env.cells.lookup x = some c ∧ h.IsCell c (some u))
structure Cx.Ok (X : Cx) : Prop where
  mod : Mod X.K X.mg X.base
  kind : X.env.scope.kind = .function
  glob : X.env.globals = mainGlobals
  blt : X.env.builtins = builtinsNs
  above : X.s₀.heap.objs.size ≤ X.env.locals
  inj : ∀ x y c, X.env.cells.lookup x = some c → X.env.cells.lookup y = some c → x = y
  has : ∀ x, (X.env.kindOf x = some .cell ∨ X.env.kindOf x = some .free) → ∃ c, X.env.cells.lookup x = some c
  cab : ∀ x c, X.fn x = true → X.env.cells.lookup x = some c → X.s₀.heap.objs.size ≤ c
  hd : X.calm = true → X.A.handled = none
  frames : X.A.frames = some X.stack
  stk : X.stack = X.outer ∨ (X.stack = X.env :: X.outer ∧ X.env.frame = some X.env.locals)
  exf : ∀ b ∈ X.ex, b ≠ X.env.locals ∧ ∀ x c, X.env.cells.lookup x = some c → c ≠ b
  bs : ∀ b o, X.base.get? b = some o → X.s₀.heap.get? b = some o ∧ X.H₀ b = none
  bsz : X.base.objs.size ≤ X.s₀.heap.objs.size
  noex : ∀ b o, X.base.get? b = some o → b ∉ X.ex
  exfs : ∀ b ∈ X.ex, b ∉ X.fs
  funs : X.s₀.heap.FunFrames X.base X.outer
  frf : ∀ b ∈ X.fs, X.H₀ b = none
structure Inv (X : Cx) (pins : List (Addr × Obj)) (σ : List (Option V)) (H : Hp) (s : Shared) : Prop where
  ok : X.Ok
  os : s.os = X.s₀.os
  bare : AllBare s.gens
  base : Un X.fs X.ex X.H₀ H X.s₀.heap s.heap
  loc : ∃ m, s.heap.Ns X.env.locals m ∧ ∀ (i : Nat) (x : Str) (v : V), X.N[i]? = some x → σ[i]? = some (some v) → Vis X.env.scope x → ∃ u, RelV v u ∧ Look X.env s.heap m x u
  cell : ∀ x c, X.env.cells.lookup x = some c → ∃ v, s.heap.IsCell c v
  free : H X.env.locals = none
  freeC : ∀ x c, X.env.cells.lookup x = some c → H c = none
  pin : ∀ p ∈ X.pn ++ pins, s.heap.get? p.1 = some p.2 ∧ H p.1 = none ∧ p.1 ≠ X.env.locals ∧ p.1 ∉ X.fs ∧ ∀ v, p.2.data ≠ .cell v
  hok : HOk X.prog X.w H s.heap
  len : σ.length = X.N.length
section
variable {X : Cx} {pins : List (Addr × Obj)} {σ : List (Option V)} {H H' : Hp} {s : Shared} {h' : Heap}
theorem Cx.Ok.nofr (ok : X.Ok) {b : Addr} {o : Obj} (e : X.base.get? b = some o) : b ∉ X.fs := fun hb => by
  have := (ok.funs.mem hb).1
  rw [e] at this; cases this
theorem Inv.bs (I : Inv X pins σ H s) : ∀ b o, X.base.get? b = some o → s.heap.get? b = some o ∧ H b = none := fun b o e =>
  ⟨I.base.keep b o (I.ok.bs b o e).1 (I.ok.bs b o e).2 (I.ok.nofr e) (I.ok.noex b o e), I.base.free b o (I.ok.bs b o e).1 (I.ok.bs b o e).2 (I.ok.noex b o e)⟩
theorem Inv.bk (I : Inv X pins σ H s) : ∀ b o, X.base.get? b = some o → s.heap.get? b = some o := fun b o e => (I.bs b o e).1
theorem Inv.mod (I : Inv X pins σ H s) : Mod X.K X.mg X.base := I.ok.mod
theorem Inv.kIn (I : Inv X pins σ H s) : X.K.In s.heap := I.ok.mod.kin.keeps I.bk
theorem Inv.nolimit (I : Inv X pins σ H s) : s.heap.NoLimit := I.ok.mod.nolimit.keeps I.bk
theorem Inv.fr (I : Inv X pins σ H s) : ∃ m, Fr X.base X.env.locals s.heap m :=
  let ⟨m, hn, _⟩ := I.loc
  ⟨m, hn, I.bk, Nat.le_trans I.ok.bsz I.ok.above⟩
theorem Inv.lt (I : Inv X pins σ H s) : X.env.locals < s.heap.objs.size := let ⟨_, hn, _⟩ := I.loc; hn.lt
theorem Inv.sz (I : Inv X pins σ H s) : X.s₀.heap.objs.size ≤ s.heap.objs.size := Nat.le_trans I.ok.above (Nat.le_of_lt I.lt)
theorem Inv.nofs (I : Inv X pins σ H s) {a : Addr} (h : s.heap.objs.size ≤ a) : a ∉ X.fs := fun hb => by
  obtain ⟨_, o, ho, _⟩ := I.ok.funs.mem hb
  exact absurd (Nat.lt_of_lt_of_le (Heap.lt_size ho) (Nat.le_trans I.sz h)) (Nat.lt_irrefl _)
theorem Inv.cne (I : Inv X pins σ H s) : ∀ x c, X.env.cells.lookup x = some c → c ≠ X.env.locals := fun x c e z => by
  obtain ⟨v, o, ho, hd⟩ := I.cell x c e
  obtain ⟨m, ⟨o', es, ep, ho', hd', _⟩, _⟩ := I.loc
  rw [z, ho'] at ho; cases ho; rw [hd'] at hd; cases hd
theorem Inv.funs (I : Inv X pins σ H s) : s.heap.FunFrames X.base X.outer := by
  have all : ∀ (l : List Env), (∀ b ∈ frs l, b ∈ X.fs) → X.s₀.heap.FunFrames X.base l → s.heap.FunFrames X.base l := by
    intro l
    induction l with
    | nil => intro _ _; trivial
    | cons env r ih =>
      intro hs hl
      obtain ⟨hk, ⟨L, o, hf, hn, ho, hd⟩, hr⟩ := hl
      have hL : L ∈ X.fs := hs L (by unfold frs; rw [List.filterMap_cons, hf]; exact List.mem_cons_self)
      obtain ⟨sl, e⟩ := I.base.slot L o ho (I.ok.frf L hL) hL fun z => I.ok.exfs L z hL
      exact ⟨hk, ⟨L, _, hf, hn, e, hd⟩, ih (fun b hb => hs b (by unfold frs; rw [List.filterMap_cons, hf]; exact List.mem_cons_of_mem _ hb)) hr⟩
  exact all X.outer (fun _ hb => hb) I.ok.funs
theorem Inv.stack (I : Inv X pins σ H s) : s.heap.FunFrames X.base X.stack := by
  rcases I.ok.stk with e | ⟨e, hf⟩
  · rw [e]; exact I.funs
  · rw [e]
    obtain ⟨m, hn, _⟩ := I.loc
    refine .cons (by rw [I.ok.kind]; decide) hf hn ?_ I.funs
    exact Heap.get?_none_of_le (Nat.le_trans I.ok.bsz I.ok.above)
theorem Inv.stkSub (I : Inv X pins σ H s) : ∀ b ∈ frs X.stack, b ∈ X.env.locals :: X.fs := fun b hb => by
  rcases I.ok.stk with e | ⟨e, hf⟩
  · rw [e] at hb; exact List.mem_cons_of_mem _ hb
  · rw [e] at hb
    unfold frs at hb
    rw [List.filterMap_cons, hf] at hb
    exact hb
theorem Inv.stkFree (I : Inv X pins σ H s) : ∀ b ∈ frs X.stack, H b = none := fun b hb => by
  rcases List.mem_cons.mp (I.stkSub b hb) with e | hb
  · rw [e]; exact I.free
  · obtain ⟨_, o, ho, _⟩ := I.ok.funs.mem hb
    exact I.base.free b o ho (I.ok.frf b hb) fun z => I.ok.exfs b z hb
theorem Inv.step {g' : Array GenState} {t' : Nat} {d' : Drawn} {ch : List Addr} (I : Inv X pins σ H s)
    (hch : ∀ b ∈ ch, (b ∈ X.ex ∨ X.s₀.heap.objs.size ≤ b) ∧ b ≠ X.env.locals ∧ (∀ x c, X.env.cells.lookup x = some c → c ≠ b) ∧ ∀ p ∈ X.pn ++ pins, p.1 ≠ b)
    (keep : ∀ b o, b ≠ X.env.locals → b ∉ X.fs → b ∉ ch → s.heap.get? b = some o → H b = none → h'.get? b = some o)
    (slot : ∀ b o, b ≠ X.env.locals → b ∈ X.fs → b ∉ ch → s.heap.get? b = some o → H b = none → ∃ sl, h'.get? b = some { o with slots := sl }) (free : ∀ b o, b ∉ ch → s.heap.get? b = some o → H b = none → H' b = none)
    (there : ∀ b o, b ∉ ch → s.heap.get? b = some o → ∃ o', h'.get? b = some o')
    (tups : ∀ b xs, H b = some (.tup xs) → H' b = some (.tup xs)) (frzs : ∀ b o u, H b = some (.frz o u) → H' b = some (.frz o u)) (tbls : ∀ b ps, H b = some (.tbl ps) → ∃ more, H' b = some (.tbl (ps ++ more)))
    (ns : ∀ m, s.heap.Ns X.env.locals m → h'.Ns X.env.locals m) (hok : HOk X.prog X.w H' h') (hg : AllBare g') :
    Inv X pins σ H' { s with heap := h', gens := g', drawn := d', toks := t' } := by
  have neL : ∀ b o, X.s₀.heap.get? b = some o → b ≠ X.env.locals := fun b o e => Nat.ne_of_lt (Nat.lt_of_lt_of_le (Heap.lt_size e) I.ok.above)
  have neC : ∀ b o, X.s₀.heap.get? b = some o → b ∉ X.ex → b ∉ ch := fun b o e hx hb => by
    rcases (hch b hb).1 with z | z
    · exact hx z
    · exact absurd (Nat.lt_of_lt_of_le (Heap.lt_size e) z) (Nat.lt_irrefl _)
  have cellK : ∀ x c, X.env.cells.lookup x = some c → ∀ v, s.heap.IsCell c v → h'.IsCell c v := fun x c e v ⟨o, ho, hd⟩ => by
    have nch : c ∉ ch := fun z => (hch c z).2.2.1 x c e rfl
    by_cases hc : c ∈ X.fs
    · obtain ⟨sl, q⟩ := slot c o (I.cne x c e) hc nch ho (I.freeC x c e)
      exact ⟨_, q, hd⟩
    · exact ⟨o, keep c o (I.cne x c e) hc nch ho (I.freeC x c e), hd⟩
  refine ⟨I.ok, I.os, hg, ⟨fun b o e n hb hx => ?_, fun b o e n hb hx => ?_, fun b o e n hx => ?_, fun b o e hx => ?_, fun b xs e => tups b xs (I.base.tups b xs e), fun b o xs e => frzs b o xs (I.base.frzs b o xs e), fun b ps e => ?_⟩, ?_, fun x c e => ?_, ?_, fun x c e => ?_, fun p hp => ?_, hok, I.len⟩
  · exact keep b o (neL b o e) hb (neC b o e hx) (I.base.keep b o e n hb hx) (I.base.free b o e n hx)
  · obtain ⟨sl, e1⟩ := I.base.slot b o e n hb hx
    obtain ⟨sl', e2⟩ := slot b _ (neL b o e) hb (neC b o e hx) e1 (I.base.free b o e n hx)
    exact ⟨sl', e2⟩
  · obtain ⟨o', e1⟩ := I.base.there b o e hx
    exact free b o' (neC b o e hx) e1 (I.base.free b o e n hx)
  · obtain ⟨o', e1⟩ := I.base.there b o e hx
    exact there b o' (neC b o e hx) e1
  · obtain ⟨m1, e1⟩ := I.base.tbls b ps e
    obtain ⟨m2, e2⟩ := tbls b _ e1
    exact ⟨m1 ++ m2, by rw [e2, Array.append_assoc]⟩
  · obtain ⟨m, hn, hl⟩ := I.loc
    refine ⟨m, ns m hn, fun i x v e1 e2 e3 => ?_⟩
    obtain ⟨u, r, l⟩ := hl i x v e1 e2 e3
    refine ⟨u, r, ?_⟩
    rcases l with l | ⟨k, c, e, z⟩
    · exact .inl l
    · exact .inr ⟨k, c, e, cellK x c e _ z⟩
  · obtain ⟨v, z⟩ := I.cell x c e
    exact ⟨v, cellK x c e v z⟩
  · obtain ⟨m, ⟨o, _, _, ho, _⟩, _⟩ := I.loc
    exact free _ o (fun z => (hch _ z).2.1 rfl) ho I.free
  · obtain ⟨v, o, ho, hd⟩ := I.cell x c e
    exact free c o (fun z => (hch c z).2.2.1 x c e rfl) ho (I.freeC x c e)
  · obtain ⟨e, n, ne, nf, d⟩ := I.pin p hp
    have nch : p.1 ∉ ch := fun z => (hch p.1 z).2.2.2 p hp rfl
    exact ⟨keep p.1 p.2 ne nf nch e n, free p.1 p.2 nch e n, ne, nf, d⟩
theorem Inv.un {t' : Nat} (I : Inv X pins σ H s) (u : Un X.fs [] H H' s.heap h') (hok : HOk X.prog X.w H' h') : Inv X pins σ H' { s with heap := h', toks := t' } := by
  obtain ⟨m, ⟨o, es, ep, ho, r⟩, _⟩ := id I.loc
  obtain ⟨sl, hL⟩ := u.any ho I.free (by simp)
  exact I.step (g' := s.gens) (d' := s.drawn) (ch := []) (fun _ z => nomatch z) (fun b o _ hb _ e n => u.keep b o e n hb (by simp)) (fun b o _ hb _ e n => u.slot b o e n hb (by simp)) (fun b o _ e n => u.free b o e n (by simp)) (fun b o _ e => u.there b o e (by simp)) u.tups u.frzs u.tbls (fun m' hm => by
    obtain ⟨o', es', ep', ho', r'⟩ := hm
    rw [ho] at ho'; cases ho'
    exact ⟨_, es', ep', hL, r'⟩) hok I.bare
theorem Inv.call {g' : Array GenState} {t' : Nat} {d' : Drawn} {ch : List Addr} (I : Inv X pins σ H s) (u : Un (frs X.stack) ch H H' s.heap h') (hok : HOk X.prog X.w H' h') (hg : AllBare g')
    (hch : ∀ b ∈ ch, (b ∈ X.ex ∨ X.s₀.heap.objs.size ≤ b) ∧ b ≠ X.env.locals ∧ (∀ x c, X.env.cells.lookup x = some c → c ≠ b) ∧ ∀ p ∈ X.pn ++ pins, p.1 ≠ b) :
    Inv X pins σ H' { s with heap := h', gens := g', drawn := d', toks := t' } := by
  obtain ⟨m, ⟨o, es, ep, ho, r⟩, _⟩ := id I.loc
  obtain ⟨sl, hL⟩ := u.any ho I.free fun z => (hch _ z).2.1 rfl
  exact I.step (ch := ch) hch (fun b o hL hb hc e n => u.keep b o e n (fun z => (List.mem_cons.mp (I.stkSub b z)).elim hL hb) hc) (fun b o _ _ hc e n => u.any e n hc) (fun b o hc e n => u.free b o e n hc) (fun b o hc e => u.there b o e hc) u.tups u.frzs u.tbls (fun m' hm => by
    obtain ⟨o', es', ep', ho', r'⟩ := hm
    rw [ho] at ho'; cases ho'
    exact ⟨_, es', ep', hL, r'⟩) hok hg
theorem Inv.turned {t' : Nat} {it : Addr} (I : Inv X pins σ H s) (k : ∀ b o, b ≠ it → s.heap.get? b = some o → h'.get? b = some o) (hn : H it = none) (hL : it ≠ X.env.locals)
    (h1 : it ∈ X.ex ∨ X.s₀.heap.objs.size ≤ it) (h2 : ∀ x c, X.env.cells.lookup x = some c → c ≠ it) (h3 : ∀ p ∈ X.pn ++ pins, p.1 ≠ it) : Inv X pins σ H { s with heap := h', toks := t' } := by
  have nit : ∀ b u, H b = some u → b ≠ it := fun b u e z => by rw [z, hn] at e; cases e
  refine I.step (g' := s.gens) (d' := s.drawn) (ch := [it]) (fun b hb => ?_) (fun b o _ _ hc e _ => k b o (fun z => hc (by simp [z])) e) (fun b o _ _ hc e _ => ⟨o.slots, k b o (fun z => hc (by simp [z])) e⟩) (fun _ _ _ _ n => n)
    (fun b o hc e => ⟨o, k b o (fun z => hc (by simp [z])) e⟩) (fun _ _ e => e) (fun _ _ _ e => e) (fun b ps e => ⟨#[], by rw [e]; simp⟩) (fun m hm => ?_) (fun b u e => ?_) I.bare
  · have e : b = it := by simpa using hb
    subst e
    exact ⟨h1, hL, h2, h3⟩
  · obtain ⟨o, es, ep, ho, r⟩ := hm
    exact ⟨o, es, ep, k _ o (Ne.symm hL) ho, r⟩
  · refine (I.hok b u e).stay (fun c v hc q => k c v ?_ q) (fun _ q => q) fun _ _ q => q
    rcases hc with z | z
    · rw [z]; exact nit b u e
    · exact nit c _ z
theorem Inv.tok (I : Inv X pins σ H s) (t : Nat) : Inv X pins σ H { s with toks := t } := I.un (h' := s.heap) (t' := t) Un.refl I.hok
theorem Inv.kept {t' : Nat} (I : Inv X pins σ H s) (k : ∀ b u, s.heap.get? b = some u → h'.get? b = some u) : Inv X pins σ H { s with heap := h', toks := t' } := I.un (Un.kept k) (I.hok.kept k)
theorem Inv.laid {a : Addr} {o : HO} {t' : Nat} (I : Inv X pins σ H s) (k : ∀ b u, s.heap.get? b = some u → h'.get? b = some u) (hp : s.heap.objs.size ≤ a) (new : ObjOk X.prog X.w (upd H a o) h' a o) :
    Inv X pins σ (upd H a o) { s with heap := h', toks := t' } := I.un (Un.laid k hp (I.hok.fresh hp)) (I.hok.laid k hp new)
theorem Inv.write {x e : Addr} {o : HO} {t' : Nat} (I : Inv X pins σ H s) (mu : Mut (H x)) (he : e = x ∨ H e = some (.own x)) (k : ∀ b u, b ≠ e → s.heap.get? b = some u → h'.get? b = some u) (heo : ∃ u, h'.get? e = some u)
    (new : ObjOk X.prog X.w (upd H x o) h' x o) : Inv X pins σ (upd H x o) { s with heap := h', toks := t' } := I.un (Un.write mu he k heo) (I.hok.write mu he k heo new)
theorem Inv.pins_of {pins' : List (Addr × Obj)} (I : Inv X pins σ H s) (h : ∀ p ∈ pins', s.heap.get? p.1 = some p.2 ∧ H p.1 = none ∧ p.1 ≠ X.env.locals ∧ p.1 ∉ X.fs ∧ ∀ v, p.2.data ≠ .cell v) : Inv X pins' σ H s :=
  ⟨I.ok, I.os, I.bare, I.base, I.loc, I.cell, I.free, I.freeC, fun p hp => (List.mem_append.mp hp).elim (fun z => I.pin p (List.mem_append_left _ z)) (h p), I.hok, I.len⟩
theorem nodup_ix {N : List Str} (hN : N.Nodup) {i j : Nat} {x : Str} (a : N[i]? = some x) (b : N[j]? = some x) : i = j := by
  obtain ⟨h1, e1⟩ := List.getElem?_eq_some_iff.mp a
  obtain ⟨h2, e2⟩ := List.getElem?_eq_some_iff.mp b
  exact (List.getElem_inj hN).mp (e1.trans e2.symm)
theorem store_ok2 {M : Model} {A : Around} {E : Value → Shared → Prop} {i : Nat} {x : Str} {v : V} {u : Value} {Q : Unit → Shared → Prop} (I : Inv X pins σ H s) (hN : X.N.Nodup) (hi : X.N[i]? = some x) (hx : Loc X.env.scope x) (r : RelV v u)
    (h : ∀ s', Inv X pins (σ.set i (some v)) H s' → (∃ a, Heap.SameBut a s.heap s'.heap ∧ (a = X.env.locals ∨ X.env.cells.lookup x = some a)) → Q () s') (hf : X.fn x = true ∨ X.env.scope.names.lookup x = some .local := by first | exact .inl rfl | exact .inr rfl | assumption) : wpAny M A (storeName X.env x u) Q E s := by
  obtain ⟨m, hn, hl⟩ := id I.loc
  have hcls : (X.env.scope.kind == .class || (X.env.scope.kind == .module && X.env.locals != X.env.globals)) = false := by rw [I.ok.kind]; rfl
  have hiσ : i < σ.length := by rw [I.len]; exact (List.getElem?_eq_some_iff.mp hi).1
  have cne := I.cne
  have tracked : ∀ {a : Addr} {h' : Heap}, (∃ o, s.heap.get? a = some o ∧ H a = none) → Heap.SameBut a s.heap h' → HOk X.prog X.w H h' := fun {a h'} ha hs b ob e => by
    obtain ⟨_, _, hfree⟩ := ha
    refine (I.hok b ob e).stay (fun c w' hc q => (hs.2 c ?_).trans q) (fun _ q => q) fun _ _ q => q
    rintro rfl
    rcases hc with rfl | hc
    · rw [hfree] at e; cases e
    · rw [hfree] at hc; cases hc
  rcases hx with hk | hk
  · refine wpAny_storeName_local hk hn (fun h' hn' hs => ?_) hcls
    obtain ⟨oL, _, _, hoL, _⟩ := id hn
    refine h _ ⟨I.ok, I.os, I.bare, ⟨fun b o e n hb hx => ?_, fun b o e n hb hx => ?_, I.base.free, fun b o e hx => ?_, I.base.tups, I.base.frzs, I.base.tbls⟩, ⟨_, hn', fun j y v' e1 e2 e3 => ?_⟩, fun y c e => ?_, I.free, I.freeC, fun p hp => ?_, tracked ⟨oL, hoL, I.free⟩ hs, by simpa using I.len⟩ ⟨_, hs, .inl rfl⟩
    · exact (hs.2 b (Nat.ne_of_lt (Nat.lt_of_lt_of_le (Heap.lt_size e) I.ok.above))).trans (I.base.keep b o e n hb hx)
    · obtain ⟨sl, e1⟩ := I.base.slot b o e n hb hx
      exact ⟨sl, (hs.2 b (Nat.ne_of_lt (Nat.lt_of_lt_of_le (Heap.lt_size e) I.ok.above))).trans e1⟩
    · obtain ⟨o', e1⟩ := I.base.there b o e hx
      exact ⟨o', (hs.2 b (Nat.ne_of_lt (Nat.lt_of_lt_of_le (Heap.lt_size e) I.ok.above))).trans e1⟩
    · by_cases hj : j = i
      · subst hj
        rw [hi] at e1; cases e1
        rw [List.getElem?_set_self hiσ] at e2
        cases e2
        exact ⟨u, r, .inl ⟨hk, by simp⟩⟩
      · rw [List.getElem?_set_ne (Ne.symm hj)] at e2
        obtain ⟨u', r', q⟩ := hl j y v' e1 e2 e3
        refine ⟨u', r', ?_⟩
        rcases q with ⟨k, e⟩ | ⟨k, c, e, z⟩
        · refine .inl ⟨k, ?_⟩
          have : y ≠ x := fun e => hj (nodup_ix hN e1 (e ▸ hi))
          simp [this, e]
        · exact .inr ⟨k, c, e, z.sameBut hs (cne y c e)⟩
    · obtain ⟨w', z⟩ := I.cell y c e
      exact ⟨w', z.sameBut hs (cne y c e)⟩
    · obtain ⟨e, n, ne, nf, d⟩ := I.pin p hp
      exact ⟨(hs.2 p.1 ne).trans e, n, ne, nf, d⟩
  · have hfn : X.fn x = true := by
      rcases hf with z | z
      · exact z
      · rw [z] at hk; cases hk
    obtain ⟨c, hc⟩ := I.ok.has x (.inl hk)
    obtain ⟨w', z⟩ := I.cell x c hc
    refine wpAny_storeName_cell I.ok.kind hk hc z (fun h' hc' hs => ?_)
    obtain ⟨oc, hoc, hocd⟩ := id z
    refine h { s with heap := h' } ⟨I.ok, I.os, I.bare, ⟨fun b o e n hb hx => ?_, fun b o e n hb hx => ?_, I.base.free, fun b o e hx => ?_, I.base.tups, I.base.frzs, I.base.tbls⟩, ⟨m, hn.sameBut hs (Ne.symm (cne x c hc)), fun j y v' e1 e2 e3 => ?_⟩, fun y c' e => ?_, I.free, I.freeC, fun p hp => ?_, tracked ⟨oc, hoc, I.freeC x c hc⟩ hs, by simpa using I.len⟩ ⟨c, hs, .inr hc⟩
    · exact (hs.2 b (Nat.ne_of_lt (Nat.lt_of_lt_of_le (Heap.lt_size e) (I.ok.cab x c hfn hc)))).trans (I.base.keep b o e n hb hx)
    · obtain ⟨sl, e1⟩ := I.base.slot b o e n hb hx
      exact ⟨sl, (hs.2 b (Nat.ne_of_lt (Nat.lt_of_lt_of_le (Heap.lt_size e) (I.ok.cab x c hfn hc)))).trans e1⟩
    · obtain ⟨o', e1⟩ := I.base.there b o e hx
      exact ⟨o', (hs.2 b (Nat.ne_of_lt (Nat.lt_of_lt_of_le (Heap.lt_size e) (I.ok.cab x c hfn hc)))).trans e1⟩
    · by_cases hj : j = i
      · subst hj
        rw [hi] at e1; cases e1
        rw [List.getElem?_set_self hiσ] at e2
        cases e2
        exact ⟨u, r, .inr ⟨.inl hk, c, hc, hc'⟩⟩
      · rw [List.getElem?_set_ne (Ne.symm hj)] at e2
        obtain ⟨u', r', q⟩ := hl j y v' e1 e2 e3
        refine ⟨u', r', ?_⟩
        rcases q with q | ⟨k, c', e, z'⟩
        · exact .inl q
        · refine .inr ⟨k, c', e, z'.sameBut hs ?_⟩
          rintro rfl
          exact hj (nodup_ix hN e1 (I.ok.inj _ _ _ e hc ▸ hi))
    · by_cases hcc : c' = c
      · subst hcc; exact ⟨_, hc'⟩
      · obtain ⟨w2, z2⟩ := I.cell y c' e
        exact ⟨w2, z2.sameBut hs hcc⟩
    · obtain ⟨e, n, ne, nf, d⟩ := I.pin p hp
      refine ⟨(hs.2 p.1 ?_).trans e, n, ne, nf, d⟩
      intro q
      rw [q, hoc] at e
      have q' : oc = p.2 := Option.some.inj e
      exact d w' (by rw [← q']; exact hocd)
theorem store_ok {M : Model} {A : Around} {E : Value → Shared → Prop} {i : Nat} {x : Str} {v : V} {u : Value} {Q : Unit → Shared → Prop} (I : Inv X pins σ H s) (hN : X.N.Nodup) (hi : X.N[i]? = some x) (hx : Loc X.env.scope x) (r : RelV v u)
    (h : ∀ s', Inv X pins (σ.set i (some v)) H s' → Q () s') (hf : X.fn x = true ∨ X.env.scope.names.lookup x = some .local := by first | exact .inl rfl | exact .inr rfl | assumption) : wpAny M A (storeName X.env x u) Q E s :=
  store_ok2 I hN hi hx r (fun s' I' _ => h s' I') hf
theorem Inv.call' {s' : Shared} {ch : List Addr} (I : Inv X pins σ H s) (ho : s'.os = s.os) (u : Un (frs X.stack) ch H H' s.heap s'.heap) (hok : HOk X.prog X.w H' s'.heap) (hg : AllBare s'.gens)
    (hch : ∀ b ∈ ch, (b ∈ X.ex ∨ X.s₀.heap.objs.size ≤ b) ∧ b ≠ X.env.locals ∧ (∀ x c, X.env.cells.lookup x = some c → c ≠ b) ∧ ∀ p ∈ X.pn ++ pins, p.1 ≠ b) : Inv X pins σ H' s' := by
  obtain ⟨h', g', d', t', o'⟩ := s'
  have e : o' = s.os := ho
  subst e
  exact I.call (g' := g') (t' := t') (d' := d') u hok hg hch
end
abbrev XK := Value → Option Addr → Hp → Prop
abbrev St := List (Option V)
abbrev VK := V → Hp → Prop
abbrev TE := St → Hp → VK → Prop
abbrev TT := St → Hp → (Bool → Hp → Prop) → Prop
abbrev TA := St → Hp → (List V → Hp → Prop) → Prop
structure Ends where
  nx : St → Hp → Prop
  rt : St → VK
  bk : St → Hp → Prop := fun _ _ => False
  ct : St → Hp → Prop := fun _ _ => False
abbrev TS := Ends → St → Hp → Prop
def EP (X : Cx) (pins : List (Addr × Obj)) (σ : St) (Q : VK) (u : Value) (s' : Shared) : Prop := ∃ v H', Inv X pins σ H' s' ∧ RelV v u ∧ Q v H'
def TP (X : Cx) (pins : List (Addr × Obj)) (σ : St) (Q : Bool → Hp → Prop) (b : Bool) (s' : Shared) : Prop := ∃ H', Inv X pins σ H' s' ∧ Q b H'
def AP (X : Cx) (pins : List (Addr × Obj)) (σ : St) (Q : List V → Hp → Prop) (us : List Value) (s' : Shared) : Prop := ∃ vs H', Inv X pins σ H' s' ∧ Vals vs us ∧ Q vs H'
def SP (X : Cx) (pins : List (Addr × Obj)) (D : Ends) (f : Flow) (s' : Shared) : Prop :=
  match f with
  | .next => ∃ σ' H', Inv X pins σ' H' s' ∧ D.nx σ' H'
  | .brk => ∃ σ' H', Inv X pins σ' H' s' ∧ D.bk σ' H'
  | .cont => ∃ σ' H', Inv X pins σ' H' s' ∧ D.ct σ' H'
  | .ret u => ∃ v σ' H', Inv X pins σ' H' s' ∧ RelV v u ∧ D.rt σ' v H'
def PE (X : Cx) (e : Expr) (t : TE) : Prop :=
  ∀ (pins : List (Addr × Obj)) (s : Shared) (σ : St) (H : Hp) (Q : VK), Inv X pins σ H s → t σ H Q → wpAny (model X.prog X.w) X.A (eval e X.env) (EP X pins σ Q) X.xe s
def PT (X : Cx) (e : Expr) (t : TT) : Prop :=
  ∀ (pins : List (Addr × Obj)) (s : Shared) (σ : St) (H : Hp) (Q : Bool → Hp → Prop), Inv X pins σ H s → t σ H Q → wpAny (model X.prog X.w) X.A (isTrue e X.env (eval e X.env)) (TP X pins σ Q) X.xe s
def PW (X : Cx) (e : Expr) (t : TT) : Prop :=
  ∀ (whole : Sem Value) (pins : List (Addr × Obj)) (s : Shared) (σ : St) (H : Hp) (Q : Bool → Hp → Prop), Inv X pins σ H s → t σ H Q → wpAny (model X.prog X.w) X.A (isTrue e X.env whole) (TP X pins σ Q) X.xe s
theorem PW.pt {X : Cx} {e : Expr} {t : TT} (h : PW X e t) : PT X e t := h _
def PA (X : Cx) (es : List Expr) (t : TA) : Prop :=
  ∀ (pos : Pos) (pins : List (Addr × Obj)) (s : Shared) (σ : St) (H : Hp) (Q : List V → Hp → Prop), Inv X pins σ H s → t σ H Q → wpAny (model X.prog X.w) X.A (spliced (backTo pos (starEach es X.env))) (AP X pins σ Q) X.xe s
def PS (X : Cx) (st : Stmt) (t : TS) : Prop :=
  ∀ (pins : List (Addr × Obj)) (s : Shared) (σ : St) (H : Hp) (D : Ends), Inv X pins σ H s → t D σ H → wpAny (model X.prog X.w) X.A (exec st X.env) (SP X pins D) X.xe s
def PSs (X : Cx) (st : List Stmt) (t : TS) : Prop :=
  ∀ (pins : List (Addr × Obj)) (s : Shared) (σ : St) (H : Hp) (D : Ends), Inv X pins σ H s → t D σ H → wpAny (model X.prog X.w) X.A (execs st X.env) (SP X pins D) X.xe s
theorem thn {α : Type} {t : Sem α} {Q Q' : α → Shared → Prop} {M : Model} {A : Around} {E : Value → Shared → Prop} {s : Shared} (h : wpAny M A t Q E s) (hQ : ∀ a s, Q a s → Q' a s) : wpAny M A t Q' E s := wpAny_mono h hQ fun _ _ x => x
end L2
namespace L2
open PySem PySem.Spec PyProof.Rows
section
variable {X : Cx}
def tVar (i : Nat) : TE := fun σ H Q => ∃ v, σ[i]? = some (some v) ∧ Q v H
def tC (v : V) : TE := fun _ H Q => Q v H
theorem pe_var {i : Nat} {x : Str} {pos : Pos} (hN : X.N[i]? = some x) (hv : Vis X.env.scope x) (hd : (x == ("__debug__" : Str)) = false := by decide) (hcd : (x == ("__classdict__" : Str)) = false := by decide) : PE X (.Name x pos) (tVar i) := by
  intro pins s σ H Q I h
  obtain ⟨v, e, h⟩ := h
  obtain ⟨m, hn, hl⟩ := I.loc
  obtain ⟨u, r, l⟩ := hl i x v hN e hv
  have fin : EP X pins σ Q u s := ⟨v, H, I, r, h⟩
  rcases l with ⟨hk, hm⟩ | ⟨hk, c, hc, hcell⟩
  · exact wpAny_Name (wpAny_loadName_local I.ok.kind hk hn hm fin) hd
  · rcases hk with hk | hk
    · exact wpAny_Name (wpAny_loadName_cell I.ok.kind hk hc hcell fin) hd
    · exact wpAny_Name (wpAny_loadName_free I.ok.kind hk hc hcell fin hcd) hd
theorem pe_int {i j pos} : PE X (.Constant (.int i) j pos) (tC (.int i)) := fun _ _ _ H _ I h => wpAny_Constant_int ⟨.int i, H, I.tok _, ⟨_, rfl⟩, h⟩
theorem pe_bl {b j pos} : PE X (.Constant (.bool b) j pos) (tC (.bl b)) := fun _ _ _ H _ I h => Constant_bool ⟨.bl b, H, I, rfl, h⟩
theorem pe_non {j pos} : PE X (.Constant .none j pos) (tC .non) := fun _ _ _ H _ I h => Constant_none ⟨.non, H, I, rfl, h⟩
theorem pe_str {x j pos} : PE X (.Constant (.str x) j pos) (tC (.str x)) := fun _ _ _ H _ I h => Calls.Constant_str ⟨.str x, H, I.tok _, ⟨_, rfl⟩, h⟩
def Gl (X : Cx) (x : Str) : Prop := X.env.kindOf x = some .globalImplicit
theorem ld_glob {E : Value → Shared → Prop} {pins : List (Addr × Obj)} {s : Shared} {σ : St} {H : Hp} {x : Str} {u : Value} {pos : Pos} {Q : Value → Shared → Prop} (I : Inv X pins σ H s) (hg : Gl X x) (hm : X.mg x = some u) (h : Q u s)
    (hd : (x == ("__debug__" : Str)) = false := by decide) : wpAny (model X.prog X.w) X.A (eval (.Name x pos) X.env) Q E s :=
  Calls.Name_function_global I.ok.kind hg (Calls.loadGlobal_global (by rw [I.ok.glob]; exact I.mod.glob.keeps I.bk) hm h) hd
theorem ld_blt {E : Value → Shared → Prop} {pins : List (Addr × Obj)} {s : Shared} {σ : St} {H : Hp} {x : Str} {u : Value} {pos : Pos} {Q : Value → Shared → Prop} (I : Inv X pins σ H s) (hg : Gl X x) (hm : X.mg x = none) (hv : bootBuiltins x = some u) (h : Q u s)
    (hn : x ≠ "__name__" := by decide) (hd : (x == ("__debug__" : Str)) = false := by decide) : wpAny (model X.prog X.w) X.A (eval (.Name x pos) X.env) Q E s := by
  obtain ⟨mb, h1, h2⟩ := I.mod.blt
  exact Calls.Name_function_global I.ok.kind hg (Calls.loadGlobal_builtin (by rw [I.ok.glob]; exact I.mod.glob.keeps I.bk) hm (by rw [I.ok.blt]; exact h1.keeps I.bk) ((h2 x hn).trans hv) h) hd
theorem pe_glob {x : Str} {v : V} {u : Value} {pos : Pos} (hg : Gl X x) (hm : X.mg x = some u) (r : RelV v u) (hd : (x == ("__debug__" : Str)) = false := by decide) : PE X (.Name x pos) (tC v) :=
  fun _ _ _ H _ I h => ld_glob I hg hm ⟨v, H, I, r, h⟩ hd
theorem pe_bltn {x : Str} {v : V} {u : Value} {pos : Pos} (hg : Gl X x) (hm : X.mg x = none) (hv : bootBuiltins x = some u) (r : RelV v u) (hn : x ≠ "__name__" := by decide) (hd : (x == ("__debug__" : Str)) = false := by decide) : PE X (.Name x pos) (tC v) :=
  fun _ _ _ H _ I h => ld_blt I hg hm hv ⟨v, H, I, r, h⟩ hn hd
variable {a b : Expr} {ta tb : TE} {pos : Pos}
def tB (t : TE) : TT := fun σ H Q => t σ H fun x H1 => ∃ c, x = .bl c ∧ Q c H1
theorem pt_val {e : Expr} {t : TE} (h : PE X e t) (he : ∀ whole, isTrue e X.env whole = (do let v ← whole; standAt e.pos; holding [v] (truthy v)) := by intro _; rfl) : PT X e (tB t) := by
  intro pins s σ H Q I hw
  refine isTrue_plain (thn (h pins s σ H _ I hw) fun v s1 ⟨x, H1, I1, r1, q1⟩ => ?_) (he _)
  obtain ⟨d, rfl, q⟩ := q1
  cases r1
  exact wpAny_truthy_bool ⟨H1, I1, q⟩
variable {tA tB' : TT} {rest : List Expr}
def tAnd (t u : TT) : TT := fun σ H Q => t σ H fun c H1 => if c = true then u σ H1 Q else Q false H1
def tOr (t u : TT) : TT := fun σ H Q => t σ H fun c H1 => if c = true then Q true H1 else u σ H1 Q
def tNot (t : TT) : TT := fun σ H Q => t σ H fun c H1 => Q (!c) H1
theorem pw_and1 (ha : PT X a tA) : PW X (.BoolOp .And [a] pos) tA := by
  intro wh pins s σ H Q I h
  refine isTrue_and (thn (ha pins s σ H Q I h) fun c s1 e => ?_)
  cases c with
  | true => exact isTrue_and_nil e
  | false => exact e
theorem pw_or1 (ha : PT X a tA) : PW X (.BoolOp .Or [a] pos) tA := by
  intro wh pins s σ H Q I h
  refine isTrue_or (thn (ha pins s σ H Q I h) fun c s1 e => ?_)
  cases c with
  | false => exact isTrue_or_nil e
  | true => exact e
theorem pw_and (ha : PT X a tA) (hb : PW X (.BoolOp .And (b :: rest) pos) tB') : PW X (.BoolOp .And (a :: b :: rest) pos) (tAnd tA tB') := by
  intro wh pins s σ H Q I h
  refine isTrue_and (thn (ha pins s σ H _ I h) fun c s1 ⟨H1, I1, q1⟩ => ?_)
  cases c with
  | true => exact hb wh pins s1 σ H1 Q I1 q1
  | false => exact ⟨H1, I1, q1⟩
theorem pw_or (ha : PT X a tA) (hb : PW X (.BoolOp .Or (b :: rest) pos) tB') : PW X (.BoolOp .Or (a :: b :: rest) pos) (tOr tA tB') := by
  intro wh pins s σ H Q I h
  refine isTrue_or (thn (ha pins s σ H _ I h) fun c s1 ⟨H1, I1, q1⟩ => ?_)
  cases c with
  | true => exact ⟨H1, I1, q1⟩
  | false => exact hb wh pins s1 σ H1 Q I1 q1
theorem pt_not (ha : PT X a tA) : PT X (.UnaryOp .Not a pos) (tNot tA) := by
  intro pins s σ H Q I h
  exact isTrue_not (ha pins s σ H (fun c H1 => Q (!c) H1) I h)
def tAndV (ta tb : TE) : TE := fun σ H Q => ta σ H fun x H1 => ∃ c, x = .bl c ∧ if c = true then tb σ H1 Q else Q (.bl false) H1
def tOrV (ta tb : TE) : TE := fun σ H Q => ta σ H fun x H1 => ∃ c, x = .bl c ∧ if c = true then Q (.bl true) H1 else tb σ H1 Q
def tNotV (ta : TE) : TE := fun σ H Q => ta σ H fun x H1 => ∃ c, x = .bl c ∧ Q (.bl (!c)) H1
theorem pe_one {op} {t : TE} (h : PE X a t) : PE X (.BoolOp op [a] pos) t := fun pins s σ H Q I hw => BoolOp_one (h pins s σ H Q I hw)
theorem pe_and (ha : PE X a ta) (hb : PE X (.BoolOp .And (b :: rest) pos) tb) : PE X (.BoolOp .And (a :: b :: rest) pos) (tAndV ta tb) := by
  intro pins s σ H Q I h
  refine BoolOp_and (thn (ha pins s σ H _ I h) fun v s1 ⟨x, H1, I1, r1, q1⟩ => ?_)
  obtain ⟨c, rfl, q1⟩ := q1
  cases r1
  refine wpAny_truthy_bool ?_
  cases c with
  | true => exact hb pins s1 σ H1 Q I1 q1
  | false => exact ⟨.bl false, H1, I1, rfl, q1⟩
theorem pe_or (ha : PE X a ta) (hb : PE X (.BoolOp .Or (b :: rest) pos) tb) : PE X (.BoolOp .Or (a :: b :: rest) pos) (tOrV ta tb) := by
  intro pins s σ H Q I h
  refine BoolOp_or (thn (ha pins s σ H _ I h) fun v s1 ⟨x, H1, I1, r1, q1⟩ => ?_)
  obtain ⟨c, rfl, q1⟩ := q1
  cases r1
  refine wpAny_truthy_bool ?_
  cases c with
  | false => exact hb pins s1 σ H1 Q I1 q1
  | true => exact ⟨.bl true, H1, I1, rfl, q1⟩
theorem pe_not (ha : PE X a ta) : PE X (.UnaryOp .Not a pos) (tNotV ta) := by
  intro pins s σ H Q I h
  refine UnaryOp_ (thn (ha pins s σ H _ I h) fun v s1 ⟨x, H1, I1, r1, q1⟩ => ?_)
  obtain ⟨c, rfl, q1⟩ := q1
  cases r1
  exact not_of (wpAny_truthy_bool ⟨.bl (!c), H1, I1, rfl, q1⟩)
def tIf (t : TT) (ta tb : TE) : TE := fun σ H Q => t σ H fun c H1 => if c = true then ta σ H1 Q else tb σ H1 Q
theorem pe_ifExp {c : Expr} (hc : PT X c tA) (ha : PE X a ta) (hb : PE X b tb) : PE X (.IfExp c a b pos) (tIf tA ta tb) := by
  intro pins s σ H Q I h
  refine wpAny_IfExp (thn (hc pins s σ H _ I h) fun d s1 ⟨H1, I1, q1⟩ => ?_)
  cases d with
  | true => exact ha pins s1 σ H1 Q I1 q1
  | false => exact hb pins s1 σ H1 Q I1 q1
end
end L2
namespace L2
open PySem PySem.Spec PyProof.Rows
def SqL (K : PySem.W.Frag) (H : Hp) (a : Addr) (xs : List V) : Prop :=
  Rd H a (.lst xs) ∨
    ∃ (o : Obj) (its : Array Value) (n : Nat), K.lookup a = some o ∧ o.cls = .type "list" ∧ o.dict = none ∧ o.data = .seq its n ∧ its.size ≤ sizeLine ∧ Vals xs its.toList
def SqT (K : PySem.W.Frag) (H : Hp) (a : Addr) (xs : List V) : Prop :=
  Rd H a (.tup xs) ∨
    ∃ (o : Obj) (its : Array Value) (n : Nat), K.lookup a = some o ∧ o.cls = .type "tuple" ∧ o.data = .seq its n ∧ its.size ≤ sizeLine ∧ Vals xs its.toList
def absV : Value → Option V
  | .none => some .non
  | .bool b => some (.bl b)
  | .int i _ => some (.int i)
  | .str x _ => some (.str x)
  | .bytes b _ => some (.byt b)
  | .float b _ => some (.flt b)
  | .ref a => some (.ref a)
  | .type n => some (.ty n)
  | _ => none
theorem RelV.abs {x : V} {u : Value} (r : RelV x u) : absV u = some x := by
  cases x with
  | non => cases r; rfl
  | bl _ => cases r; rfl
  | int _ => obtain ⟨t, rfl⟩ := r; rfl
  | str _ => obtain ⟨t, rfl⟩ := r; rfl
  | byt _ => obtain ⟨t, rfl⟩ := r; rfl
  | flt _ => obtain ⟨t, rfl⟩ := r; rfl
  | ref _ => cases r; rfl
  | ty _ => cases r; rfl
theorem RelV.inj {x y : V} {u : Value} (r : RelV x u) (q : RelV y u) : x = y := Option.some.inj (r.abs.symm.trans q.abs)
theorem Vals.inj : ∀ {xs ys : List V} {us : List Value}, Vals xs us → Vals ys us → xs = ys
  | _, _, _, .nil, .nil => rfl
  | _, _, _, .cons r t, .cons r' t' => by rw [r.inj r', Vals.inj t t']
section
variable {X : Cx} {pins : List (Addr × Obj)} {σ : St} {H : Hp} {s : Shared} {a : Addr} {xs ys : List V}
theorem SqL.of {K : PySem.W.Frag} (h : H a = some (.lst xs)) : SqL K H a xs := .inl (.inl h)
theorem SqT.of {K : PySem.W.Frag} (h : H a = some (.tup xs)) : SqT K H a xs := .inl (.inl h)
theorem Inv.list (I : Inv X pins σ H s) (h : SqL X.K H a xs) : ∃ its : List Value, Vals xs its ∧ PlainL s.heap a its.toArray ∧ xs.length ≤ sizeLine := by
  rcases h with h | ⟨o, its, n, hk, hc, hd, hs, hz, r⟩
  · obtain ⟨z, its, n, r, e⟩ := h.ok I.hok
    exact ⟨its, r, ⟨_, n, e, rfl, rfl, rfl⟩, z⟩
  · refine ⟨its.toList, r, ⟨o, n, I.kIn a o hk, hc, hd, by simpa using hs⟩, ?_⟩
    have e := r.length
    simp only [Array.length_toList] at e
    omega
theorem Inv.tuple (I : Inv X pins σ H s) (h : SqT X.K H a xs) : ∃ its : List Value, Vals xs its ∧ IsTup s.heap a its.toArray ∧ xs.length ≤ sizeLine := by
  rcases h with h | ⟨o, its, n, hk, hc, hs, hz, r⟩
  · obtain ⟨z, its, r, p⟩ := h.ok I.hok
    exact ⟨its, r, p, z⟩
  · refine ⟨its.toList, r, ⟨o, I.kIn a o hk, hc, n, by simpa using hs⟩, ?_⟩
    have e := r.length
    simp only [Array.length_toList] at e
    omega
theorem Inv.list_inj (I : Inv X pins σ H s) (h : SqL X.K H a xs) (h' : SqL X.K H a ys) : xs = ys := by
  obtain ⟨its, r, ⟨o, n, e, _, _, d⟩, _⟩ := I.list h
  obtain ⟨its', r', ⟨o', n', e', _, _, d'⟩, _⟩ := I.list h'
  rw [e] at e'; cases e'
  rw [d] at d'
  injection d' with d1 _
  have : its = its' := by simpa using congrArg Array.toList d1
  subst this
  exact r.inj r'
theorem Inv.tuple_inj (I : Inv X pins σ H s) (h : SqT X.K H a xs) (h' : SqT X.K H a ys) : xs = ys := by
  obtain ⟨its, r, ⟨o, e, _, n, d⟩, _⟩ := I.tuple h
  obtain ⟨its', r', ⟨o', e', _, n', d'⟩, _⟩ := I.tuple h'
  rw [e] at e'; cases e'
  rw [d] at d'
  injection d' with d1 _
  have : its = its' := by simpa using congrArg Array.toList d1
  subst this
  exact r.inj r'
end
abbrev Cx.wish (X : Cx) (E : Value → Shared → Prop) : Cx := { X with xe := E }
abbrev Cx.nox (X : Cx) : Cx := X.wish fun _ _ => False
theorem Cx.Ok.wish {X : Cx} (ok : X.Ok) (E : Value → Shared → Prop) : (X.wish E).Ok :=
  ⟨ok.mod, ok.kind, ok.glob, ok.blt, ok.above, ok.inj, ok.has, ok.cab, ok.hd, ok.frames, ok.stk, ok.exf, ok.bs, ok.bsz, ok.noex, ok.exfs, ok.funs, ok.frf⟩
theorem Cx.Ok.unwish {X : Cx} {E : Value → Shared → Prop} (ok : (X.wish E).Ok) : X.Ok :=
  ⟨ok.mod, ok.kind, ok.glob, ok.blt, ok.above, ok.inj, ok.has, ok.cab, ok.hd, ok.frames, ok.stk, ok.exf, ok.bs, ok.bsz, ok.noex, ok.exfs, ok.funs, ok.frf⟩
section
variable {X : Cx} {pins : List (Addr × Obj)} {σ : St} {H : Hp} {s : Shared} {E : Value → Shared → Prop}
theorem Inv.wish (I : Inv X pins σ H s) (E : Value → Shared → Prop) : Inv (X.wish E) pins σ H s := ⟨I.ok.wish E, I.os, I.bare, I.base, I.loc, I.cell, I.free, I.freeC, I.pin, I.hok, I.len⟩
theorem Inv.unwish (I : Inv (X.wish E) pins σ H s) : Inv X pins σ H s := ⟨I.ok.unwish, I.os, I.bare, I.base, I.loc, I.cell, I.free, I.freeC, I.pin, I.hok, I.len⟩
theorem SP.unwish {D : Ends} {f : Flow} {s' : Shared} (h : SP (X.wish E) pins D f s') : SP X pins D f s' := by
  cases f with
  | next => obtain ⟨σ', H', I, q⟩ := h; exact ⟨σ', H', I.unwish, q⟩
  | brk => obtain ⟨σ', H', I, q⟩ := h; exact ⟨σ', H', I.unwish, q⟩
  | cont => obtain ⟨σ', H', I, q⟩ := h; exact ⟨σ', H', I.unwish, q⟩
  | ret u => obtain ⟨v, σ', H', I, r, q⟩ := h; exact ⟨v, σ', H', I.unwish, r, q⟩
theorem PE.nox {e : Expr} {t : TE} (h : PE X.nox e t) : PE X e t := fun pins s σ H Q I hw =>
  wpAny_mono (h pins s σ H Q (I.wish _) hw) (fun _ _ ⟨v, H', I', r, q⟩ => ⟨v, H', I'.unwish, r, q⟩) fun _ _ z => False.elim z
theorem PT.nox {e : Expr} {t : TT} (h : PT X.nox e t) : PT X e t := fun pins s σ H Q I hw =>
  wpAny_mono (h pins s σ H Q (I.wish _) hw) (fun _ _ ⟨H', I', q⟩ => ⟨H', I'.unwish, q⟩) fun _ _ z => False.elim z
theorem PSs.nox {st : List Stmt} {t : TS} (h : PSs X.nox st t) : PSs X st t := fun pins s σ H D I hw =>
  wpAny_mono (h pins s σ H D (I.wish _) hw) (fun _ _ q => q.unwish) fun _ _ z => False.elim z
end
section
variable {X : Cx} {st : Stmt} {rest : List Stmt} {t u : TS} {e : Expr} {te : TE} {pos : Pos}
def tNext : TS := fun D σ H => D.nx σ H
def tSeq (t u : TS) : TS := fun D σ H => t { D with nx := u D } σ H
theorem pss_nil : PSs X [] tNext := fun _ _ σ H _ I h => wpAny_execs_nil ⟨σ, H, I, h⟩
theorem pss_cons (h1 : PS X st t) (h2 : PSs X rest u) : PSs X (st :: rest) (tSeq t u) := by
  intro pins s σ H D I h
  refine wpAny_execs_cons (thn (h1 pins s σ H { D with nx := u D } I h) fun f s1 q => ?_)
  cases f with
  | next =>
    obtain ⟨σ', H', I', q⟩ := q
    exact h2 pins s1 σ' H' D I' q
  | ret v => exact q
  | brk => exact q
  | cont => exact q
theorem pss_one (h1 : PS X st t) : PSs X [st] t := by
  intro pins s σ H D I h
  refine wpAny_execs_cons (thn (h1 pins s σ H D I h) fun f s1 q => ?_)
  cases f with
  | next => exact wpAny_execs_nil q
  | ret v => exact q
  | brk => exact q
  | cont => exact q
theorem Inv.quiet {pins : List (Addr × Obj)} {σ : St} {H : Hp} {s : Shared} (I : Inv X pins σ H s) : interactive X.env = false := by simp [interactive, I.ok.kind]
def tDrop (te : TE) : TS := fun D σ H => te σ H fun _ H1 => D.nx σ H1
theorem ps_expr (he : PE X e te) (hs : swapsWith e none pos.line X.env = pure false := by rfl) : PS X (.Expr e pos) (tDrop te) := by
  intro pins s σ H D I h
  exact wpAny_Expr_any (thn (he pins s σ H _ I h) fun v s1 ⟨x, H1, I1, r1, q1⟩ => ⟨σ, H1, I1, q1⟩) I.quiet hs
def tRet (te : TE) : TS := fun D σ H => te σ H (D.rt σ)
theorem ps_ret (he : PE X e te) : PS X (.Return (some e) pos) (tRet te) := by
  intro pins s σ H D I h
  exact wpAny_Return_some (thn (he pins s σ H _ I h) fun v s1 ⟨x, H1, I1, r1, q1⟩ => ⟨x, σ, H1, I1, r1, q1⟩)
def tIfS (c : TT) (t u : TS) : TS := fun D σ H => c σ H fun b H1 => if b = true then t D σ H1 else u D σ H1
theorem ps_if {c : Expr} {a b : List Stmt} {tc : TT} (hc : PT X c tc) (ha : PSs X a t) (hb : PSs X b u) : PS X (.If c a b pos) (tIfS tc t u) := by
  intro pins s σ H D I h
  refine wpAny_If (thn (hc pins s σ H _ I h) fun d s1 ⟨H1, I1, q1⟩ => ?_)
  cases d with
  | true => exact ha pins s1 σ H1 D I1 q1
  | false => exact hb pins s1 σ H1 D I1 q1
def tNever : TS := fun _ _ _ => False
theorem ps_never : PS X st tNever := fun _ _ _ _ _ _ h => h.elim
end
abbrev TG := V → St → Hp → (St → Hp → Prop) → Prop
abbrev TGs := List V → St → Hp → (St → Hp → Prop) → Prop
def PG (X : Cx) (target : Expr) (t : TG) : Prop :=
  ∀ (pins : List (Addr × Obj)) (s : Shared) (σ : St) (H : Hp) (v : V) (u : Value) (Q : St → Hp → Prop), Inv X pins σ H s → RelV v u → t v σ H Q →
    wpAny (model X.prog X.w) X.A (assign target X.env u) (fun _ s' => ∃ σ' H', Inv X pins σ' H' s' ∧ Q σ' H') X.xe s
def PGs (X : Cx) (ts : List Expr) (t : TGs) : Prop :=
  ∀ (pins : List (Addr × Obj)) (s : Shared) (σ : St) (H : Hp) (vs : List V) (us : List Value) (Q : St → Hp → Prop), Inv X pins σ H s → Vals vs us → t vs σ H Q →
    wpAny (model X.prog X.w) X.A (assignInOrder ((assignEach ts X.env).map (·.2)) us) (fun _ s' => ∃ σ' H', Inv X pins σ' H' s' ∧ Q σ' H') X.xe s
abbrev TIp := V → V → Hp → VK → Prop
def PIp (X : Cx) (op : Operator) (t : TIp) : Prop :=
  ∀ (pins : List (Addr × Obj)) (s : Shared) (σ : St) (H : Hp) (x y : V) (v u : Value) (Q : VK), Inv X pins σ H s → RelV x v → RelV y u → t x y H Q →
    wpAny (model X.prog X.w) X.A (inplaceOp op v u) (EP X pins σ Q) X.xe s
section
variable {X : Cx} {pos : Pos}
def gName (i : Nat) : TG := fun v σ H Q => Q (σ.set i (some v)) H
theorem pg_name {i : Nat} {x : Str} (hN : X.N.Nodup) (hi : X.N[i]? = some x) (hx : Loc X.env.scope x) (hf : X.fn x = true ∨ X.env.scope.names.lookup x = some .local := by first | exact .inl rfl | exact .inr rfl | assumption) : PG X (.Name x pos) (gName i) := by
  intro pins s σ H v u Q I r h
  exact wpAny_assign_Name (store_ok I hN hi hx r (fun s' I' => ⟨_, H, I', h⟩) hf)
def gNil : TGs := fun vs σ H Q => vs = [] ∧ Q σ H
def gCons (t : TG) (u : TGs) : TGs := fun vs σ H Q => ∃ v r, vs = v :: r ∧ t v σ H fun σ' H' => u r σ' H' Q
theorem pgs_nil : PGs X [] gNil := by
  intro pins s σ H vs us Q I r h
  obtain ⟨e, h⟩ := h
  subst e
  cases r
  exact assignInOrder_nil ⟨σ, H, I, h⟩
theorem pgs_cons {e : Expr} {es : List Expr} {t : TG} {u : TGs} (h1 : PG X e t) (h2 : PGs X es u)
    (hs : (assignEach (e :: es) X.env).map (·.2) = assign e X.env :: (assignEach es X.env).map (·.2) := by rfl) : PGs X (e :: es) (gCons t u) := by
  intro pins s σ H vs us Q I r h
  obtain ⟨v, vr, e1, h⟩ := h
  subst e1
  cases r with
  | cons r rr =>
    rw [hs]
    refine assignInOrder_cons (thn (h1 pins s σ H _ _ _ I r h) fun _ s1 ⟨σ1, H1, I1, q1⟩ => ?_)
    exact h2 pins s1 σ1 H1 _ _ Q I1 rr q1
def gTup (K : PySem.W.Frag) (n : Nat) (t : TGs) : TG := fun v σ H Q => ∃ a xs, v = .ref a ∧ SqT K H a xs ∧ xs.length = n ∧ t xs σ H Q
theorem pg_tup {es : List Expr} {k : Nat} {t : TGs} {n : Nat} (hc : X.calm = true) (h : PGs X es t)
    (hn : (assignEach es X.env).length = n := by rfl) (hst : (assignEach es X.env).findIdx? (·.1) = none := by rfl) : PG X (.Tuple es k pos) (gTup X.K n t) := by
  intro pins s σ H v u Q I r hw
  obtain ⟨a, xs, e1, hq, hl, hw⟩ := hw
  subst e1
  cases r
  obtain ⟨its, rv, ht, hz⟩ := I.tuple hq
  refine assign_Tuple_tuple (I.ok.hd hc) ht (by simp [hn, ← hl, rv.length]) hst fun h' hx => ?_
  have I1 : Inv X pins σ H { s with heap := h' } := I.kept (t' := s.toks) fun b o e => hx b o (Nat.ne_of_lt (Heap.lt_size e)) e
  exact h pins _ σ H xs _ Q I1 (by simpa using rv) hw
def tAsg (te : TE) (g : TG) : TS := fun D σ H => te σ H fun x H1 => g x σ H1 D.nx
theorem ps_asg {tg e : Expr} {te : TE} {g : TG} (he : PE X e te) (hg : PG X tg g) (hs : swapsWithSole [tg] e pos.line X.env = pure false := by rfl) (hw : swappedStores [tg] e X.env = pure none := by rfl)
    (h1 : (assignEach [tg] X.env).map (·.2) = [assign tg X.env] := by rfl) : PS X (.Assign [tg] e pos) (tAsg te g) := by
  intro pins s σ H D I h
  refine wpAny_Assign_stores (thn (he pins s σ H _ I h) fun v s1 ⟨x, H1, I1, r1, q1⟩ => ?_) hs hw
  rw [h1]
  exact thn (hg pins s1 σ H1 x v _ I1 r1 q1) fun _ s2 q => q
theorem ps_set {i : Nat} {x : Str} {e : Expr} {te : TE} {pos' : Pos} (hN : X.N.Nodup) (hi : X.N[i]? = some x) (hx : Loc X.env.scope x) (he : PE X e te) (hs : swapsWith e (some (.Name x pos')) pos.line X.env = pure false := by rfl) (hf : X.fn x = true ∨ X.env.scope.names.lookup x = some .local := by first | exact .inl rfl | exact .inr rfl | assumption) :
    PS X (.Assign [.Name x pos'] e pos) (tAsg te (gName i)) := by
  intro pins s σ H D I h
  refine wpAny_Assign_Name (thn (he pins s σ H _ I h) fun v s1 ⟨y, H1, I1, r1, q1⟩ => ?_) hs
  exact store_ok I1 hN hi hx r1 (fun s2 I2 => ⟨_, H1, I2, q1⟩) hf
def tAug (i : Nat) (te : TE) (ti : TIp) : TS := fun D σ H => ∃ x, σ[i]? = some (some x) ∧ te σ H fun y H1 => ti x y H1 fun z H2 => D.nx (σ.set i (some z)) H2
theorem ps_aug {i : Nat} {x : Str} {e : Expr} {te : TE} {op : Operator} {ti : TIp} {pos' : Pos} (hN : X.N.Nodup) (hi : X.N[i]? = some x) (hx : Loc X.env.scope x) (he : PE X e te) (ho : PIp X op ti) (hf : X.fn x = true ∨ X.env.scope.names.lookup x = some .local := by first | exact .inl rfl | exact .inr rfl | assumption) :
    PS X (.AugAssign (.Name x pos') op e pos) (tAug i te ti) := by
  intro pins s σ H D I h
  obtain ⟨v, e1, h⟩ := h
  obtain ⟨m, hn, hl⟩ := I.loc
  have vis : Vis X.env.scope x := by rcases hx with k | k; exact .inl k; exact .inr (.inl k)
  obtain ⟨u, r, l⟩ := hl i x v hi e1 vis
  refine wpAny_AugAssign_Name ?_
  have go : wpAny (model X.prog X.w) X.A (eval e X.env) (fun w s₂ => wpAny (model X.prog X.w) X.A (inplaceOp op u w) (fun r s₃ => wpAny (model X.prog X.w) X.A (storeName X.env x r) (fun _ => SP X pins D .next) X.xe s₃) X.xe s₂) X.xe s := by
    refine thn (he pins s σ H _ I h) fun w s1 ⟨y, H1, I1, r1, q1⟩ => ?_
    refine thn (ho pins s1 σ H1 v y u w _ I1 r r1 q1) fun z s2 ⟨zv, H2, I2, r2, q2⟩ => ?_
    exact store_ok I2 hN hi hx r2 (fun s3 I3 => ⟨_, H2, I3, q2⟩) hf
  rcases l with ⟨hk, hm⟩ | ⟨hk, c, hc, hcell⟩
  · exact wpAny_loadName_local I.ok.kind hk hn hm go
  · rcases hk with hk | hk
    · exact wpAny_loadName_cell I.ok.kind hk hc hcell go
    · rcases hx with k | k
      · have : X.env.scope.names.lookup x = some .free := hk
        rw [k] at this; cases this
      · have : X.env.scope.names.lookup x = some .free := hk
        rw [k] at this; cases this
def ipI (f : Int → Int → Int) : TIp := fun x y H Q => ∃ i j, x = .int i ∧ y = .int j ∧ Q (.int (f i j)) H
theorem ip_add : PIp X .Add (ipI fun i j => i + j) := by
  intro pins s σ H x y v u Q I r1 r2 h
  obtain ⟨i, j, e1, e2, q⟩ := h
  subst e1; subst e2
  obtain ⟨t, rfl⟩ := r1
  obtain ⟨t', rfl⟩ := r2
  exact iadd_int ⟨.int _, H, I.tok _, ⟨_, rfl⟩, q⟩
end
section
variable {X : Cx} {pos : Pos}
def tWhile (c : TT) (tb : TS) : TS := fun D σ H => ∃ W : Nat → St → Hp → Prop, (∃ m, W m σ H) ∧ ∀ m σ H, W m σ H →
  c σ H fun b H1 => if b = true then ∃ N : St → Hp → Prop, (∀ σ' H', N σ' H' → ∃ m', m' < m ∧ W m' σ' H') ∧ tb { D with nx := N, ct := N, bk := D.nx } σ H1 else D.nx σ H1
theorem ps_while {c : Expr} {body : List Stmt} {tc : TT} {tb : TS} (hp : PassesOwn (model X.prog X.w) X.A X.env X.xe) (hc : PT X c tc) (hb : PSs X body tb) : PS X (.While c body [] pos) (tWhile tc tb) := by
  intro pins s σ H D I h
  obtain ⟨W, ⟨m0, w0⟩, turn⟩ := h
  refine wpAny_While (codeAny_whileLoop (fun n s' => ∃ σ' H', Inv X pins σ' H' s' ∧ W n σ' H') ?_ m0 ⟨σ, H, I, w0⟩)
  rintro n s1 ⟨σ1, H1, I1, w1⟩
  refine wpAny_passesOwn hp (thn (hc pins s1 σ1 H1 _ I1 (turn n σ1 H1 w1)) fun b s2 ⟨H2, I2, q2⟩ => ?_)
  cases b with
  | true =>
    obtain ⟨N, hN, q2⟩ := q2
    rw [if_pos rfl]
    refine wpAny_passesOwn hp (thn (hb pins s2 σ1 H2 _ I2 q2) fun f s3 q3 => ?_)
    cases f with
    | next =>
      obtain ⟨σ3, H3, I3, n3⟩ := q3
      obtain ⟨m', hm, w3⟩ := hN σ3 H3 n3
      exact ⟨m', hm, σ3, H3, I3, w3⟩
    | cont =>
      obtain ⟨σ3, H3, I3, n3⟩ := q3
      obtain ⟨m', hm, w3⟩ := hN σ3 H3 n3
      exact ⟨m', hm, σ3, H3, I3, w3⟩
    | brk => exact q3
    | ret v => exact q3
  | false =>
    rw [if_neg Bool.false_ne_true]
    exact wpAny_execs_nil ⟨σ1, H2, I2, q2⟩
end
structure It where
  go : Nat → Hp → Prop
  yld : Nat → Hp → V → Hp → Prop
  stop : Nat → Hp → Prop
def FpOk (X : Cx) (pins : List (Addr × Obj)) (H : Hp) (b : Addr) : Prop :=
  H b = none ∧ b ≠ X.env.locals ∧ b ∉ X.fs ∧ (b ∈ X.ex ∨ X.s₀.heap.objs.size ≤ b) ∧ (∀ x c, X.env.cells.lookup x = some c → c ≠ b) ∧ ∀ p ∈ X.pn ++ pins, p.1 ≠ b
theorem Inv.fpOk {X : Cx} {pins : List (Addr × Obj)} {σ : St} {H H' : Hp} {s : Shared} {b : Addr} (I : Inv X pins σ H s) (hb : s.heap.objs.size ≤ b) (hn : H' b = none) : FpOk X pins H' b := by
  refine ⟨hn, Nat.ne_of_gt (Nat.lt_of_lt_of_le I.lt hb), I.nofs hb, .inr (Nat.le_trans I.sz hb), fun x c e z => ?_, fun p hp z => ?_⟩
  · obtain ⟨v, q⟩ := I.cell x c e
    exact absurd (Nat.lt_of_lt_of_le q.lt (by rw [z]; exact hb)) (Nat.lt_irrefl _)
  · exact absurd (Nat.lt_of_lt_of_le (Heap.lt_size (I.pin p hp).1) (by rw [z]; exact hb)) (Nat.lt_irrefl _)
structure Turn (P : Program) (w : World) (K : PySem.W.Frag) (tg : Expr) (J : It) (fp : List Addr) (it : Addr) (tn : Nat → Heap → Prop) : Prop where
  mem : it ∈ fp
  obj : ∀ i h, tn i h → ∀ b ∈ fp, ∃ o, h.get? b = some o ∧ ∀ v, o.data ≠ .cell v
  keep : ∀ i h h', tn i h → (∀ b ∈ fp, ∀ o, h.get? b = some o → h'.get? b = some o) → tn i h'
  item : ∀ (X : Cx), X.prog = P → X.w = w → X.K = K → X.calm = true → ∀ (i : Nat) (pins : List (Addr × Obj)) (s : Shared) (σ : St) (H : Hp) (E : Value → Shared → Prop), Inv X pins σ H s → (∀ b ∈ fp, FpOk X pins H b) → tn i s.heap → J.go i H →
    wpAny (model P w) X.A (pyNext (.ref it)) (fun r s1 => ∃ u, r = some u ∧
      wpAny (model P w) X.A (letOwnedTupleGo tg (.ref it) u) (fun _ s2 => ∃ x H', Inv X pins σ H' s2 ∧ RelV x u ∧ J.yld i H x H' ∧ tn (i + 1) s2.heap ∧ ∀ b ∈ fp, H' b = none) E s1) E s
  done : ∀ (X : Cx), X.prog = P → X.w = w → X.K = K → X.calm = true → ∀ (i : Nat) (pins : List (Addr × Obj)) (s : Shared) (σ : St) (H : Hp) (E : Value → Shared → Prop), Inv X pins σ H s → (∀ b ∈ fp, FpOk X pins H b) → tn i s.heap → J.stop i H →
    wpAny (model P w) X.A (pyNext (.ref it)) (fun r s1 => r = none ∧ Inv X pins σ H s1) E s
  self : ∀ (A : Around) (i : Nat) (s : Shared) (Q : Value → Shared → Prop) (E : Value → Shared → Prop), tn i s.heap → Q (.ref it) s → wpAny (model P w) A (pyIter (.ref it)) Q E s
abbrev TI := St → Hp → (It → Hp → Prop) → Prop
def PIE (X : Cx) (pins : List (Addr × Obj)) (σ : St) (tg : Expr) (R : It → Hp → Prop) (itv : Value) (s2 : Shared) : Prop :=
  ∃ (it : Addr) (fp : List Addr) (tn : Nat → Heap → Prop) (J : It) (H' : Hp), itv = .ref it ∧ Inv X pins σ H' s2 ∧ Turn X.prog X.w X.K tg J fp it tn ∧ tn 0 s2.heap ∧ (∀ b ∈ fp, FpOk X pins H' b) ∧ R J H'
def PI (X : Cx) (tg iter : Expr) (wi : TI) : Prop :=
  ∀ (pins : List (Addr × Obj)) (s : Shared) (σ : St) (H : Hp) (R : It → Hp → Prop), Inv X pins σ H s → wi σ H R →
    wpAny (model X.prog X.w) X.A (eval iter X.env) (fun v s1 => wpAny (model X.prog X.w) X.A (pyIter v) (PIE X pins σ tg R) X.xe s1) X.xe s
theorem go_of {M : Model} {A : Around} {E : Value → Shared → Prop} {s : Shared} {tg : Expr} {it : Addr} {u : Value} {o : Obj} {n : String} {vs : Array Value} {Q : Unit → Shared → Prop} (ho : s.heap.get? it = some o) (hc : o.cls = .type n) (hd : o.data = .fields vs)
    (hn : ["enumerate", "zip", "dict_itemiterator", "dict_reverseitemiterator", "odict_iterator", "itertools.zip_longest", "itertools.pairwise"].contains n = false) (hQ : Q () s) : wpAny M A (letOwnedTupleGo tg (.ref it) u) Q E s := by
  unfold letOwnedTupleGo
  cases tg <;> first
    | exact wpAny_pure hQ
    | (cases u <;> first
        | exact wpAny_pure hQ
        | (refine wpAny_bind (wpAny_load ho ?_)
           rw [hc, hd]
           show wpAny M A (if (["enumerate", "zip", "dict_itemiterator", "dict_reverseitemiterator", "odict_iterator", "itertools.zip_longest", "itertools.pairwise"].contains n && vs[0]? == some (rawInt _)) = true then _ else _) Q E s
           rw [if_neg (by intro h; rw [hn, Bool.false_and] at h; cases h)]
           exact wpAny_pure hQ))
def Itl (K : PySem.W.Frag) (a : Addr) : It :=
  ⟨fun i H => ∃ xs x, SqL K H a xs ∧ xs[i]? = some x, fun i H x H' => H' = H ∧ ∀ xs, SqL K H a xs → xs[i]? = some x, fun i H => ∃ xs, SqL K H a xs ∧ xs.length ≤ i⟩
def Itt (K : PySem.W.Frag) (a : Addr) : It :=
  ⟨fun i H => ∃ xs x, SqT K H a xs ∧ xs[i]? = some x, fun i H x H' => H' = H ∧ ∀ xs, SqT K H a xs → xs[i]? = some x, fun i H => ∃ xs, SqT K H a xs ∧ xs.length ≤ i⟩
def Itr (lo : Int) (n : Nat) : It := ⟨fun i _ => i < n, fun i H x H' => H' = H ∧ x = .int (lo + i), fun i _ => n ≤ i⟩
theorem turn_list {P : Program} {w : World} {K : PySem.W.Frag} {tg : Expr} (a it : Addr) : Turn P w K tg (Itl K a) [it] it (fun i h => h.IsListIter it a i) where
  mem := by simp
  obj := fun i h st b hb => by
    have e : b = it := by simpa using hb
    subst e
    obtain ⟨o, e, c, d⟩ := st
    exact ⟨o, e, fun v z => by rw [d] at z; cases z⟩
  keep := fun i h h' st k => st.at fun o e => k it (by simp) o e
  item := by
    intro X hP hw hK hc i pins s σ H E I hf st hg
    subst hP hw hK
    obtain ⟨xs, x, hq, hx⟩ := hg
    obtain ⟨its, rv, p, hz⟩ := I.list hq
    obtain ⟨u, hu, ru⟩ := rv.get hx
    obtain ⟨f0, f1, f2, f3, f4, f5⟩ := hf it (by simp)
    refine wpAny_pyNext_list_item st p.isList (x := u) (by simpa using hu) fun h' st' sb => ?_
    have I1 : Inv X pins σ H { s with heap := h' } := I.turned (t' := s.toks) (fun b o hb e => (sb.2 b hb).trans e) f0 f1 f3 f4 f5
    obtain ⟨o, e, c, d⟩ := id st'
    exact ⟨u, rfl, go_of (s := { s with heap := h' }) e c d (by decide) ⟨x, H, I1, ru, ⟨rfl, fun ys hy => by rw [I.list_inj hy hq]; exact hx⟩, st', fun b hb => (hf b hb).1⟩⟩
  done := by
    intro X hP hw hK hc i pins s σ H E I hf st hg
    subst hP hw hK
    obtain ⟨xs, hq, hx⟩ := hg
    obtain ⟨its, rv, p, hz⟩ := I.list hq
    obtain ⟨f0, f1, f2, f3, f4, f5⟩ := hf it (by simp)
    have hl := rv.length
    exact wpAny_pyNext_list_end (I.ok.hd hc) st p.isList (by simp; omega) fun h' eb => ⟨rfl, I.turned (t' := s.toks) (fun b o hb e => eb b o hb e) f0 f1 f3 f4 f5⟩
  self := fun _ _ _ _ _ st h => wpAny_pyIter_listiter st h
theorem turn_tuple {P : Program} {w : World} {K : PySem.W.Frag} {tg : Expr} (a it : Addr) : Turn P w K tg (Itt K a) [it] it (fun i h => h.IsTupleIter it a i) where
  mem := by simp
  obj := fun i h st b hb => by
    have e : b = it := by simpa using hb
    subst e
    obtain ⟨o, e, c, d⟩ := st
    exact ⟨o, e, fun v z => by rw [d] at z; cases z⟩
  keep := fun i h h' st k => st.at fun o e => k it (by simp) o e
  item := by
    intro X hP hw hK hc i pins s σ H E I hf st hg
    subst hP hw hK
    obtain ⟨xs, x, hq, hx⟩ := hg
    obtain ⟨its, rv, p, hz⟩ := I.tuple hq
    obtain ⟨u, hu, ru⟩ := rv.get hx
    obtain ⟨f0, f1, f2, f3, f4, f5⟩ := hf it (by simp)
    refine wpAny_pyNext_tuple_item st (show s.heap.IsTuple a its.toArray from p) (x := u) (by simpa using hu) fun h' st' sb => ?_
    have I1 : Inv X pins σ H { s with heap := h' } := I.turned (t' := s.toks) (fun b o hb e => (sb.2 b hb).trans e) f0 f1 f3 f4 f5
    obtain ⟨o, e, c, d⟩ := id st'
    exact ⟨u, rfl, go_of (s := { s with heap := h' }) e c d (by decide) ⟨x, H, I1, ru, ⟨rfl, fun ys hy => by rw [I.tuple_inj hy hq]; exact hx⟩, st', fun b hb => (hf b hb).1⟩⟩
  done := by
    intro X hP hw hK hc i pins s σ H E I hf st hg
    subst hP hw hK
    obtain ⟨xs, hq, hx⟩ := hg
    obtain ⟨its, rv, p, hz⟩ := I.tuple hq
    obtain ⟨f0, f1, f2, f3, f4, f5⟩ := hf it (by simp)
    have hl := rv.length
    exact wpAny_pyNext_tuple_end (I.ok.hd hc) st (show s.heap.IsTuple a its.toArray from p) (by simp; omega) fun h' eb => ⟨rfl, I.turned (t' := s.toks) (fun b o hb e => eb b o hb e) f0 f1 f3 f4 f5⟩
  self := fun _ _ _ _ _ st h => wpAny_pyIter_tupleiter st h
theorem turn_range {P : Program} {w : World} {K : PySem.W.Frag} {tg : Expr} (it : Addr) (lo : Int) (n : Nat) : Turn P w K tg (Itr lo n) [it] it (fun i h => IsRangeIter h it (lo + (i : Nat) * 1) ((n : Int) - (i : Nat)) 1) where
  mem := by simp
  obj := fun i h st b hb => by
    have e : b = it := by simpa using hb
    subst e
    exact ⟨_, st, fun v z => by
      have z' : Data.fields _ = Data.cell v := z
      cases z'⟩
  keep := fun i h h' st k => k it (by simp) _ st
  item := by
    intro X hP hw hK hc i pins s σ H E I hf st hg
    subst hP hw hK
    obtain ⟨f0, f1, f2, f3, f4, f5⟩ := hf it (by simp)
    have W := Walks.range (prog := X.prog) (w := X.w) (I.ok.hd hc) it lo 1 n
    refine W.item i s _ _ hg st fun v h' tk hv st' kk => ?_
    obtain ⟨t, rfl⟩ := hv
    have I1 : Inv X pins σ H { s with heap := h', toks := tk } := I.turned (fun b o hb e => kk b o (by simpa using hb) e) f0 f1 f3 f4 f5
    refine ⟨_, rfl, go_of (s := { s with heap := h', toks := tk }) (n := "range_iterator") st' rfl rfl (by decide) ⟨.int (lo + i), H, I1, ⟨t, ?_⟩, ⟨rfl, rfl⟩, st', fun b hb => (hf b hb).1⟩⟩
    rw [Int.mul_one]
  done := by
    intro X hP hw hK hc i pins s σ H E I hf st hg
    subst hP hw hK
    obtain ⟨f0, f1, f2, f3, f4, f5⟩ := hf it (by simp)
    exact wpAny_pyNext_range_end (I.ok.hd hc) st (by have : n ≤ i := hg; omega) fun h' eb => ⟨rfl, I.turned (t' := s.toks) (fun b o hb e => eb b o hb e) f0 f1 f3 f4 f5⟩
  self := fun _ _ _ _ _ st h => wpAny_pyIter_rangeiter st h
end L2
namespace L2
open PySem PySem.Spec PyProof.Rows
section
variable {X : Cx} {tg : Expr}
def iList (K : PySem.W.Frag) (tl : TE) : TI := fun σ H R => tl σ H fun x H1 => ∃ a, x = .ref a ∧ (∃ xs, SqL K H1 a xs) ∧ R (Itl K a) H1
def iTup (K : PySem.W.Frag) (tl : TE) : TI := fun σ H R => tl σ H fun x H1 => ∃ a, x = .ref a ∧ (∃ xs, SqT K H1 a xs) ∧ R (Itt K a) H1
theorem pi_list {l : Expr} {tl : TE} (hl : PE X l tl) : PI X tg l (iList X.K tl) := by
  intro pins s σ H R I h
  refine thn (hl pins s σ H _ I h) fun v s1 ⟨x, H1, I1, r1, q1⟩ => ?_
  obtain ⟨a, e, ⟨xs, hq⟩, q⟩ := q1
  subst e
  cases r1
  obtain ⟨its, rv, p, hz⟩ := I1.list hq
  refine wpAny_pyIter_list p.isList ?_
  refine ⟨s1.heap.objs.size, [s1.heap.objs.size], _, _, H1, rfl, I1.kept (t' := s1.toks) fun b o e => Heap.get?_push_of_some _ e, turn_list a _, ⟨_, Heap.get?_push_size _ rfl, rfl, rfl⟩, fun b hb => ?_, q⟩
  have e : b = s1.heap.objs.size := by simpa using hb
  subst e
  exact I1.fpOk (Nat.le_refl _) (I1.hok.fresh (Nat.le_refl _))
theorem pi_tup {l : Expr} {tl : TE} (hl : PE X l tl) : PI X tg l (iTup X.K tl) := by
  intro pins s σ H R I h
  refine thn (hl pins s σ H _ I h) fun v s1 ⟨x, H1, I1, r1, q1⟩ => ?_
  obtain ⟨a, e, ⟨xs, hq⟩, q⟩ := q1
  subst e
  cases r1
  obtain ⟨its, rv, p, hz⟩ := I1.tuple hq
  refine wpAny_pyIter_tuple (show s1.heap.IsTuple a its.toArray from p) ?_
  refine ⟨s1.heap.objs.size, [s1.heap.objs.size], _, _, H1, rfl, I1.kept (t' := s1.toks) fun b o e => Heap.get?_push_of_some _ e, turn_tuple a _, ⟨_, Heap.get?_push_size _ rfl, rfl, rfl⟩, fun b hb => ?_, q⟩
  have e : b = s1.heap.objs.size := by simpa using hb
  subst e
  exact I1.fpOk (Nat.le_refl _) (I1.hok.fresh (Nat.le_refl _))
theorem range_it {pins : List (Addr × Obj)} {σ : St} {H : Hp} {s : Shared} {R : It → Hp → Prop} {E : Value → Shared → Prop} {lo hi : Int} {t u v : Tok} {tk : Nat} (I : Inv X pins σ H s) (h1 : -(2 ^ 62) ≤ lo) (h2 : lo < 2 ^ 62) (h3 : -(2 ^ 62) ≤ hi) (h4 : hi < 2 ^ 62)
    (q : R (Itr lo (hi - lo).toNat) H) : wpAny (model X.prog X.w) X.A (pyIter (.ref s.heap.objs.size)) (PIE X pins σ tg R) E { s with heap := s.heap.push { cls := .type "range", data := .fields #[.int lo t, .int hi u, .int 1 v] }, toks := tk } := by
  refine wpAny_pyIter_range (IsRange.new ..) (small_one h1 h2 h3 h4) ?_
  have I1 : Inv X pins σ H { s with heap := s.heap.push { cls := .type "range", data := .fields #[.int lo t, .int hi u, .int 1 v] }, toks := tk } := I.kept fun b o e => Heap.get?_push_of_some _ e
  refine ⟨(s.heap.push { cls := .type "range", data := .fields #[.int lo t, .int hi u, .int 1 v] }).objs.size, [(s.heap.push { cls := .type "range", data := .fields #[.int lo t, .int hi u, .int 1 v] }).objs.size], _, _, H, rfl,
    I1.kept (t' := tk) fun b o e => Heap.get?_push_of_some _ e, turn_range _ lo (hi - lo).toNat, ?_, fun b hb => ?_, q⟩
  · have e1 : lo + ((0 : Nat) : Int) * 1 = lo := by simp
    have e2 : (((hi - lo).toNat : Nat) : Int) - ((0 : Nat) : Int) = Builtin.Range.rangeSize lo hi 1 := by rw [rangeSize_one]; split <;> omega
    show IsRangeIter _ _ (lo + ((0 : Nat) : Int) * 1) ((((hi - lo).toNat : Nat) : Int) - ((0 : Nat) : Int)) 1
    rw [e1, e2]
    exact Heap.get?_push_size _ rfl
  · have e : b = (s.heap.push { cls := .type "range", data := .fields #[.int lo t, .int hi u, .int 1 v] }).objs.size := by simpa using hb
    subst e
    exact I1.fpOk (Nat.le_refl _) (I1.hok.fresh (Nat.le_refl _))
def iRng1 (ta : TA) : TI := fun σ H R => ta σ H fun vs H1 => ∃ j : Int, vs = [.int j] ∧ -(2 ^ 62) ≤ j ∧ j < 2 ^ 62 ∧ R (Itr 0 j.toNat) H1
def iRng2 (ta : TA) : TI := fun σ H R => ta σ H fun vs H1 => ∃ i j : Int, vs = [.int i, .int j] ∧ (-(2 ^ 62) ≤ i ∧ i < 2 ^ 62 ∧ -(2 ^ 62) ≤ j ∧ j < 2 ^ 62) ∧ R (Itr i (j - i).toNat) H1
theorem pi_range1 {a : Expr} {ta : TA} {p pos : Pos} (hg : Gl X "range") (hm : X.mg "range" = none) (ha : PA X [a] ta) (hs : starEach [a] X.env = [(false, eval a X.env)] := by rfl) : PI X tg (.Call (.Name "range" p) [a] [] pos) (iRng1 ta) := by
  intro pins s σ H R I h
  refine Call_ (ld_blt I hg hm boot_range (PyProof.Rows.callWith_type1 (thn (ha pos pins s σ H _ I h) fun us s1 ⟨vs, H1, I1, r1, q1⟩ => ?_) hs rfl))
  obtain ⟨j, e, q1, q2, q⟩ := q1
  subst e
  cases r1 with
  | cons r rr =>
    cases rr
    obtain ⟨t, rfl⟩ := r
    exact call_range_1 (range_it I1 (by omega) (by omega) q1 q2 (by simpa using q))
theorem pi_range2 {a b : Expr} {ta : TA} {p pos : Pos} (hg : Gl X "range") (hm : X.mg "range" = none) (ha : PA X [a, b] ta) (hs : starEach [a, b] X.env = [(false, eval a X.env), (false, eval b X.env)] := by rfl) (hs2 : starEach [b] X.env = [(false, eval b X.env)] := by rfl) :
    PI X tg (.Call (.Name "range" p) [a, b] [] pos) (iRng2 ta) := by
  intro pins s σ H R I h
  refine Call_ (ld_blt I hg hm boot_range (PyProof.Rows.callWith_type1 (thn (ha pos pins s σ H _ I h) fun us s1 ⟨vs, H1, I1, r1, q1⟩ => ?_) (by rw [hs, hs2]) (by rw [hs2]; rfl)))
  obtain ⟨i, j, e, ⟨q1, q2, q3, q4⟩, q⟩ := q1
  subst e
  cases r1 with
  | cons r rr =>
    cases rr with
    | cons r' rr =>
      cases rr
      obtain ⟨t, rfl⟩ := r
      obtain ⟨t', rfl⟩ := r'
      exact call_range_2 (range_it I1 q1 q2 q3 q4 q)
def tFor (wi : TI) (g : TG) (tb : TS) : TS := fun D σ H => wi σ H fun J H1 => ∃ W : Nat → Nat → St → Hp → Prop, (∃ m, W 0 m σ H1) ∧ ∀ i m σ H, W i m σ H →
  (J.stop i H ∧ D.nx σ H) ∨ (J.go i H ∧ ∃ N : St → Hp → Prop, (∀ σ' H', N σ' H' → ∃ m', m' < m ∧ W (i + 1) m' σ' H') ∧ ∀ x H', J.yld i H x H' → g x σ H' fun σ2 H2 => tb { D with nx := N, ct := N, bk := D.nx } σ2 H2)
def pinsAt (fp : List Addr) (h : Heap) : List (Addr × Obj) := fp.filterMap fun b => (h.get? b).map fun o => (b, o)
theorem mem_pinsAt {fp : List Addr} {h : Heap} {b : Addr} {o : Obj} (hb : b ∈ fp) (e : h.get? b = some o) : (b, o) ∈ pinsAt fp h := List.mem_filterMap.mpr ⟨b, hb, by rw [e]; rfl⟩
theorem of_pinsAt {fp : List Addr} {h : Heap} {p : Addr × Obj} (hp : p ∈ pinsAt fp h) : p.1 ∈ fp ∧ h.get? p.1 = some p.2 := by
  obtain ⟨b, hb, e⟩ := List.mem_filterMap.mp hp
  cases q : h.get? b with
  | none => rw [q] at e; cases e
  | some o =>
    rw [q] at e
    have e' : (b, o) = p := Option.some.inj e
    subst e'
    exact ⟨hb, q⟩
theorem Inv.pinned {pins : List (Addr × Obj)} {σ : St} {H : Hp} {s : Shared} {fp : List Addr} (I : Inv X pins σ H s) (hf : ∀ b ∈ fp, FpOk X pins H b) (ho : ∀ b ∈ fp, ∃ o, s.heap.get? b = some o ∧ ∀ v, o.data ≠ .cell v) : Inv X (pins ++ pinsAt fp s.heap) σ H s :=
  I.pins_of fun p hp => (List.mem_append.mp hp).elim (fun z => I.pin p (List.mem_append_right _ z)) fun z => by
    obtain ⟨hb, e⟩ := of_pinsAt z
    obtain ⟨f0, f1, f2, _⟩ := hf p.1 hb
    obtain ⟨o, e', d⟩ := ho p.1 hb
    rw [e] at e'; cases e'
    exact ⟨e, f0, f1, f2, d⟩
theorem Inv.unpinned {pins pl : List (Addr × Obj)} {σ : St} {H : Hp} {s : Shared} (I : Inv X (pins ++ pl) σ H s) : Inv X pins σ H s := I.pins_of fun p hp => I.pin p (List.mem_append_right _ (List.mem_append_left _ hp))
theorem ps_for {iter : Expr} {body : List Stmt} {wi : TI} {g : TG} {tb : TS} {pos : Pos} (hp : PassesOwn (model X.prog X.w) X.A X.env X.xe) (hc : X.calm = true) (hi : PI X tg iter wi) (hg : PG X tg g) (hb : PSs X body tb)
    (hs : ∀ x, foldedSetIterable iter X.env x = pure x := by intro _; rfl) : PS X (.For tg iter body [] pos) (tFor wi g tb) := by
  intro pins s σ H D I h
  refine wpAny_For (thn (hi pins s σ H _ I h) fun v s1 h1 => thn h1 fun itv s2 h2 => ?_) hs
  obtain ⟨it, fp, tn, J, H2, e, I2, T, st2, f2, W, ⟨m0, w0⟩, turn⟩ := h2
  subst e
  -- what stays true of the iterator's objects through the loop
  have stat : ∀ {H' : Hp}, (∀ b ∈ fp, H' b = none) → ∀ b ∈ fp, FpOk X pins H' b := fun hn b hb => ⟨hn b hb, (f2 b hb).2⟩
  refine codeAny_forLoop_any (fun n s' => ∃ i σ' H', Inv X pins σ' H' s' ∧ tn i s'.heap ∧ (∀ b ∈ fp, H' b = none) ∧ W i n σ' H') ?_ m0 ⟨0, σ, H2, I2, st2, fun b hb => (f2 b hb).1, w0⟩
  rintro n s3 ⟨i, σ3, H3, I3, st3, fr3, w3⟩
  rcases turn i n σ3 H3 w3 with ⟨stop, qn⟩ | ⟨go, N, hN, step⟩
  · refine wpAny_passesOwn hp (thn (T.done X rfl rfl rfl hc i pins s3 σ3 H3 X.xe I3 (stat fr3) st3 stop) fun r s4 ⟨hr, I4⟩ => ?_)
    subst hr
    exact wpAny_execs_nil ⟨σ3, H3, I4, qn⟩
  · refine wpAny_passesOwn hp (thn (T.item X rfl rfl rfl hc i pins s3 σ3 H3 X.xe I3 (stat fr3) st3 go) fun r s4 ⟨u, hr, h4⟩ => ?_)
    subst hr
    refine wpAny_passesOwn hp (thn h4 fun _ s5 ⟨x, H5, I5, r5, y5, st5, fr5⟩ => ?_)
    have I5' := I5.pinned (stat fr5) (T.obj _ _ st5)
    refine wpAny_passesOwn hp (thn (hg _ s5 σ3 H5 x u _ I5' r5 (step x H5 y5)) fun _ s6 ⟨σ6, H6, I6, q6⟩ => ?_)
    refine wpAny_passesOwn hp (thn (hb _ s6 σ6 H6 _ I6 q6) fun f s7 q7 => ?_)
    have again : ∀ {σ7 : St} {H7 : Hp}, Inv X (pins ++ pinsAt fp s5.heap) σ7 H7 s7 → N σ7 H7 → ∃ m, m < n ∧ ∃ i σ' H', Inv X pins σ' H' s7 ∧ tn i s7.heap ∧ (∀ b ∈ fp, H' b = none) ∧ W i m σ' H' := fun {σ7 H7} I7 n7 => by
      obtain ⟨m', hm, w7⟩ := hN σ7 H7 n7
      refine ⟨m', hm, i + 1, σ7, H7, I7.unpinned, T.keep _ _ _ st5 fun b hb o e => (I7.pin (b, o) (List.mem_append_right _ (List.mem_append_right _ (mem_pinsAt hb e)))).1, fun b hb => ?_, w7⟩
      obtain ⟨o, e, d⟩ := T.obj _ _ st5 b hb
      exact (I7.pin (b, o) (List.mem_append_right _ (List.mem_append_right _ (mem_pinsAt hb e)))).2.1
    cases f with
    | next => obtain ⟨σ7, H7, I7, n7⟩ := q7; exact again I7 n7
    | cont => obtain ⟨σ7, H7, I7, n7⟩ := q7; exact again I7 n7
    | brk => obtain ⟨σ7, H7, I7, q7⟩ := q7; exact ⟨σ7, H7, I7.unpinned, q7⟩
    | ret v => obtain ⟨x7, σ7, H7, I7, r7, q7⟩ := q7; exact ⟨x7, σ7, H7, I7.unpinned, r7, q7⟩
end
theorem for_range {lo : Int} {n : Nat} {g : TG} {tb : TS} {D : Ends} {σ : St} {H : Hp} (Pv : Nat → St → Hp → Prop) (h0 : Pv 0 σ H)
    (hs : ∀ i σ H, i < n → Pv i σ H → g (.int (lo + i)) σ H fun σ2 H2 => tb { D with nx := Pv (i + 1), ct := Pv (i + 1), bk := D.nx } σ2 H2) (hd : ∀ σ H, Pv n σ H → D.nx σ H) :
    ∃ W : Nat → Nat → St → Hp → Prop, (∃ m, W 0 m σ H) ∧ ∀ i m σ H, W i m σ H →
      ((Itr lo n).stop i H ∧ D.nx σ H) ∨ ((Itr lo n).go i H ∧ ∃ N : St → Hp → Prop, (∀ σ' H', N σ' H' → ∃ m', m' < m ∧ W (i + 1) m' σ' H') ∧ ∀ x H', (Itr lo n).yld i H x H' → g x σ H' fun σ2 H2 => tb { D with nx := N, ct := N, bk := D.nx } σ2 H2) := by
  refine ⟨fun i m σ H => m = n - i ∧ i ≤ n ∧ Pv i σ H, ⟨n, by simp, Nat.zero_le _, h0⟩, ?_⟩
  rintro i m σ H ⟨rfl, hi, p⟩
  by_cases hlt : i < n
  · refine .inr ⟨hlt, Pv (i + 1), fun σ' H' p' => ⟨n - (i + 1), by omega, rfl, hlt, p'⟩, fun x H' y => ?_⟩
    obtain ⟨e, y⟩ := y
    subst e y
    exact hs i σ _ hlt p
  · have e : i = n := by omega
    subst e
    exact .inl ⟨Nat.le_refl _, hd σ H p⟩
end L2
namespace L2
open PySem PySem.Spec PyProof.Rows
abbrev R2 := V → V → Hp → VK → Prop
def OpR (X : Cx) (f : Value → Value → Sem Value) (r : R2) : Prop :=
  ∀ (pins : List (Addr × Obj)) (s : Shared) (σ : St) (H : Hp) (x y : V) (v u : Value) (Q : VK), Inv X pins σ H s → RelV x v → RelV y u → r x y H Q →
    wpAny (model X.prog X.w) X.A (f v u) (EP X pins σ Q) X.xe s
def UnR (X : Cx) (f : Value → Sem Value) (r : V → Hp → VK → Prop) : Prop :=
  ∀ (pins : List (Addr × Obj)) (s : Shared) (σ : St) (H : Hp) (x : V) (v : Value) (Q : VK), Inv X pins σ H s → RelV x v → r x H Q →
    wpAny (model X.prog X.w) X.A (f v) (EP X pins σ Q) X.xe s
def CallR (X : Cx) (f : Value) (r : List V → Hp → VK → Prop) : Prop :=
  ∀ (pins : List (Addr × Obj)) (s : Shared) (σ : St) (H : Hp) (xs : List V) (us : List Value) (Q : VK), Inv X pins σ H s → Vals xs us → r xs H Q →
    wpAny (model X.prog X.w) X.A (call f us) (EP X pins σ Q) X.xe s
def tOp (r : R2) (ta tb : TE) : TE := fun σ H Q => ta σ H fun x H1 => tb σ H1 fun y H2 => r x y H2 Q
def tUn (r : V → Hp → VK → Prop) (ta : TE) : TE := fun σ H Q => ta σ H fun x H1 => r x H1 Q
def rI (C : Int → Int → Prop) (g : Int → Int → V) : R2 := fun x y H Q => ∃ i j, x = .int i ∧ y = .int j ∧ C i j ∧ Q (g i j) H
def rI0 (g : Int → Int → V) : R2 := fun x y H Q => ∃ i j, x = .int i ∧ y = .int j ∧ Q (g i j) H
def rU (g : Int → V) : V → Hp → VK → Prop := fun x H Q => ∃ i, x = .int i ∧ Q (g i) H
section
variable {X : Cx} {a b c : Expr} {ta tb tc : TE} {pos : Pos}
theorem binT (ha : PE X a ta) (hb : PE X b tb) {pins : List (Addr × Obj)} {s : Shared} {σ : St} {H : Hp} {R : V → V → Hp → Prop} (I : Inv X pins σ H s)
    (h : ta σ H fun x H1 => tb σ H1 fun y H2 => R x y H2) {Q : Value → Shared → Prop} {f : Value → Value → Sem Value}
    (hf : ∀ v u s2 x y H2, Inv X pins σ H2 s2 → RelV x v → RelV y u → R x y H2 → wpAny (model X.prog X.w) X.A (f v u) Q X.xe s2) :
    wpAny (model X.prog X.w) X.A (eval a X.env) (fun v s₁ => wpAny (model X.prog X.w) X.A (eval b X.env) (fun u s₂ => wpAny (model X.prog X.w) X.A (f v u) Q X.xe s₂) X.xe s₁) X.xe s := by
  refine thn (ha pins s σ H _ I h) fun v s1 ⟨x, H1, I1, r1, q1⟩ => ?_
  refine thn (hb pins s1 σ H1 _ I1 q1) fun u s2 ⟨y, H2, I2, r2, q2⟩ => ?_
  exact hf v u s2 x y H2 I2 r1 r2 q2
theorem pe_op {op : Operator} {r : R2} (ho : OpR X (binaryOp op) r) (ha : PE X a ta) (hb : PE X b tb) : PE X (.BinOp a op b pos) (tOp r ta tb) := by
  intro pins s σ H Q I h
  exact wpAny_BinOp (binT ha hb I h fun v u s2 x y H2 I2 rx ry q => ho pins s2 σ H2 x y v u Q I2 rx ry q)
theorem pe_un {op : UnaryOp} {r : V → Hp → VK → Prop} (ho : UnR X (unaryOp op) r) (ha : PE X a ta) : PE X (.UnaryOp op a pos) (tUn r ta) := by
  intro pins s σ H Q I h
  exact UnaryOp_ (thn (ha pins s σ H _ I h) fun v s1 ⟨x, H1, I1, r1, q1⟩ => ho pins s1 σ H1 x v Q I1 r1 q1)
theorem opI {f : Value → Value → Sem Value} {C : Int → Int → Prop} {g : Int → Int → Int}
    (rule : ∀ (i j : Int) (t u : Tok) (s : Shared) (Q : Value → Shared → Prop) (E : Value → Shared → Prop), C i j → Q (.int (g i j) s.toks) { s with toks := s.toks + 1 } → wpAny (model X.prog X.w) X.A (f (.int i t) (.int j u)) Q E s) :
    OpR X f (rI C fun i j => .int (g i j)) := by
  intro pins s σ H x y v u Q I rx ry h
  obtain ⟨i, j, rfl, rfl, hc, q⟩ := h
  obtain ⟨t, rfl⟩ := rx
  obtain ⟨t', rfl⟩ := ry
  exact rule i j t t' s _ _ hc ⟨.int (g i j), H, I.tok _, ⟨_, rfl⟩, q⟩
theorem opI0 {f : Value → Value → Sem Value} {g : Int → Int → Int}
    (rule : ∀ (i j : Int) (t u : Tok) (s : Shared) (Q : Value → Shared → Prop) (E : Value → Shared → Prop), Q (.int (g i j) s.toks) { s with toks := s.toks + 1 } → wpAny (model X.prog X.w) X.A (f (.int i t) (.int j u)) Q E s) :
    OpR X f (rI0 fun i j => .int (g i j)) := by
  intro pins s σ H x y v u Q I rx ry h
  obtain ⟨i, j, rfl, rfl, q⟩ := h
  obtain ⟨t, rfl⟩ := rx
  obtain ⟨t', rfl⟩ := ry
  exact rule i j t t' s _ _ ⟨.int (g i j), H, I.tok _, ⟨_, rfl⟩, q⟩
theorem opB0 {f : Value → Value → Sem Value} {g : Int → Int → Bool}
    (rule : ∀ (i j : Int) (t u : Tok) (s : Shared) (Q : Value → Shared → Prop) (E : Value → Shared → Prop), Q (.bool (g i j)) s → wpAny (model X.prog X.w) X.A (f (.int i t) (.int j u)) Q E s) :
    OpR X f (rI0 fun i j => .bl (g i j)) := by
  intro pins s σ H x y v u Q I rx ry h
  obtain ⟨i, j, rfl, rfl, q⟩ := h
  obtain ⟨t, rfl⟩ := rx
  obtain ⟨t', rfl⟩ := ry
  exact rule i j t t' s _ _ ⟨.bl (g i j), H, I, rfl, q⟩
def CDiv (i j : Int) : Prop := 0 < j ∧ j < 1073741824
def CPow (i j : Int) : Prop := 0 ≤ j ∧ j ≤ 1000000 ∧ i.natAbs < 2 ^ 64
def CMul (i j : Int) : Prop := (-(2 ^ 64) < i ∧ i < 2 ^ 64) ∨ (-(2 ^ 64) < j ∧ j < 2 ^ 64)
theorem CMul.ok {i j : Int} (h : CMul i j) : IntMulOk i j := by
  rcases h with ⟨h1, h2⟩ | ⟨h1, h2⟩
  · exact .of_left (intBits_le_64 h1 h2)
  · exact .of_right (intBits_le_64 h1 h2)
theorem two_pow_nn (k : Nat) : (0 : Int) ≤ 2 ^ k := by
  rw [two_pow_cast]
  exact Int.natCast_nonneg _
theorem op_add : OpR X (binaryOp .Add) (rI0 fun i j => .int (i + j)) := opI0 fun _ _ _ _ _ _ _ q => add_int q
theorem op_sub : OpR X (binaryOp .Sub) (rI0 fun i j => .int (i - j)) := opI0 fun _ _ _ _ _ _ _ q => sub_int q
theorem op_mul : OpR X (binaryOp .Mult) (rI CMul fun i j => .int (i * j)) := opI fun _ _ _ _ _ _ _ hc q => mul_int q hc.ok
theorem op_fdiv : OpR X (binaryOp .FloorDiv) (rI CDiv fun i j => .int (i / j)) := opI fun i j _ _ _ _ _ hc q => by
  have h1 : (0 : Int) < j := hc.1
  have h2 : j < 1073741824 := hc.2
  exact floordiv_int (by omega) (by rw [Int.fdiv_eq_ediv_of_nonneg i (by omega)]; exact q) (.inl (PyProof.noPylong_small (by omega)))
theorem op_mod : OpR X (binaryOp .Mod) (rI (fun _ j => 0 < j) fun i j => .int (i % j)) := opI fun i j _ _ _ _ _ hc q => by
  have h1 : (0 : Int) < j := hc
  exact mod_int' (by omega) (by rw [Int.fmod_eq_emod_of_nonneg i (by omega)]; exact q)
theorem op_pow : OpR X (binaryOp .Pow) (rI CPow fun i j => .int (i ^ j.toNat)) := opI fun _ _ _ _ _ _ _ hc q => pow_int_small hc.1 hc.2.1 hc.2.2 q
theorem op_shr : OpR X (binaryOp .RShift) (rI (fun _ j => 0 ≤ j) fun i j => .int (i / 2 ^ j.toNat)) := opI fun i j _ _ _ _ _ hc q =>
  rshift_int hc (by rw [Int.fdiv_eq_ediv_of_nonneg i (two_pow_nn _)]; exact q)
theorem unI {f : Value → Sem Value} {g : Int → Int}
    (rule : ∀ (i : Int) (t : Tok) (s : Shared) (Q : Value → Shared → Prop) (E : Value → Shared → Prop), Q (.int (g i) s.toks) { s with toks := s.toks + 1 } → wpAny (model X.prog X.w) X.A (f (.int i t)) Q E s) :
    UnR X f (rU fun i => .int (g i)) := by
  intro pins s σ H x v Q I rx h
  obtain ⟨i, rfl, q⟩ := h
  obtain ⟨t, rfl⟩ := rx
  exact rule i t s _ _ ⟨.int (g i), H, I.tok _, ⟨_, rfl⟩, q⟩
theorem un_neg : UnR X (unaryOp .USub) (rU fun i => .int (-i)) := unI fun _ _ _ _ _ q => neg_int q
end
def scal : V → V → Bool
  | .non, .non => true | .non, .int _ => true | .int _, .non => true | .non, .bl _ => true | .bl _, .non => true | .non, .str _ => true | .str _, .non => true
  | .int _, .int _ => true | .bl _, .bl _ => true | .str _, .str _ => true | .byt _, .byt _ => true
  | .int _, .str _ => true | .str _, .int _ => true | .bl _, .str _ => true | .str _, .bl _ => true
  | _, _ => false
def rEq : R2 := fun x y H Q => scal x y = true ∧ Q (.bl (decide (x = y))) H
def rNe : R2 := fun x y H Q => scal x y = true ∧ Q (.bl (!decide (x = y))) H
theorem dec_int {i j : Int} : decide (V.int i = V.int j) = (i == j) := by
  rw [Bool.eq_iff_iff]
  simp
theorem dec_bl {i j : Bool} : decide (V.bl i = V.bl j) = (i == j) := by
  rw [Bool.eq_iff_iff]
  simp
theorem dec_str {i j : Str} : decide (V.str i = V.str j) = (i == j) := by
  rw [Bool.eq_iff_iff]
  simp
theorem dec_byt {i j : Array UInt8} : decide (V.byt i = V.byt j) = (i.toList == j.toList) := by
  rw [Bool.eq_iff_iff]
  cases i
  cases j
  simp
section
variable {X : Cx} {a b c : Expr} {ta tb tc : TE} {pos : Pos}
theorem fin_bl {pins : List (Addr × Obj)} {σ : St} {H : Hp} {s : Shared} {Q : VK} {k k' : Bool} (I : Inv X pins σ H s) (q : Q (.bl k) H) (e : k = k') : EP X pins σ Q (.bool k') s := by
  subst e
  exact ⟨.bl k, H, I, rfl, q⟩
theorem op_eq : OpR X (compareOp .Eq) rEq := by
  intro pins s σ H x y v u Q I rx ry h
  obtain ⟨hs, q⟩ := h
  cases x with
  | non =>
    cases rx
    cases y with
    | non => cases ry; exact PySem.EqNone.eq_none_none (fin_bl I q (by simp))
    | bl j => cases ry; exact PySem.EqNone.eq_none_bool (fin_bl I q (by simp))
    | int j => obtain ⟨t', rfl⟩ := ry; exact PySem.EqNone.eq_none_int (fin_bl I q (by simp))
    | str j => obtain ⟨t', rfl⟩ := ry; exact PySem.EqNone.eq_none_str (fin_bl I q (by simp))
    | _ => exact absurd (show false = true from hs) Bool.false_ne_true
  | bl i =>
    cases rx
    cases y with
    | non => cases ry; exact PySem.EqNone.eq_bool_none (fin_bl I q (by simp))
    | bl j => cases ry; exact eq_bool (fin_bl I q dec_bl)
    | str j => obtain ⟨t', rfl⟩ := ry; exact PySem.EqMixed.eq_bool_str (fin_bl I q (by simp))
    | _ => exact absurd (show false = true from hs) Bool.false_ne_true
  | int i =>
    obtain ⟨t, rfl⟩ := rx
    cases y with
    | non => cases ry; exact PySem.EqNone.eq_int_none (fin_bl I q (by simp))
    | int j => obtain ⟨t', rfl⟩ := ry; exact eq_int (fin_bl I q dec_int)
    | str j => obtain ⟨t', rfl⟩ := ry; exact PySem.EqMixed.eq_int_str (fin_bl I q (by simp))
    | _ => exact absurd (show false = true from hs) Bool.false_ne_true
  | str i =>
    obtain ⟨t, rfl⟩ := rx
    cases y with
    | non => cases ry; exact PySem.EqNone.eq_str_none (fin_bl I q (by simp))
    | bl j => cases ry; exact PySem.EqMixed.eq_str_bool (fin_bl I q (by simp))
    | int j => obtain ⟨t', rfl⟩ := ry; exact PySem.EqMixed.eq_str_int (fin_bl I q (by simp))
    | str j => obtain ⟨t', rfl⟩ := ry; exact eq_str (fin_bl I q dec_str)
    | _ => exact absurd (show false = true from hs) Bool.false_ne_true
  | byt i =>
    obtain ⟨t, rfl⟩ := rx
    cases y with
    | byt j => obtain ⟨t', rfl⟩ := ry; exact PySem.W.eq_bytes (fin_bl I q dec_byt)
    | _ => exact absurd (show false = true from hs) Bool.false_ne_true
  | _ => cases y <;> exact absurd (show false = true from hs) Bool.false_ne_true
theorem op_ne : OpR X (compareOp .NotEq) rNe := by
  intro pins s σ H x y v u Q I rx ry h
  obtain ⟨hs, q⟩ := h
  cases x with
  | non =>
    cases rx
    cases y with
    | non => cases ry; exact PySem.EqNone.ne_none_none (fin_bl I q (by simp))
    | bl j => cases ry; exact PySem.EqNone.ne_none_bool (fin_bl I q (by simp))
    | int j => obtain ⟨t', rfl⟩ := ry; exact PySem.EqNone.ne_none_int (fin_bl I q (by simp))
    | str j => obtain ⟨t', rfl⟩ := ry; exact PySem.EqNone.ne_none_str (fin_bl I q (by simp))
    | _ => exact absurd (show false = true from hs) Bool.false_ne_true
  | bl i =>
    cases rx
    cases y with
    | non => cases ry; exact PySem.EqNone.ne_bool_none (fin_bl I q (by simp))
    | bl j => cases ry; exact ne_bool (fin_bl I q (congrArg not dec_bl))
    | str j => obtain ⟨t', rfl⟩ := ry; exact PySem.EqMixed.ne_bool_str (fin_bl I q (by simp))
    | _ => exact absurd (show false = true from hs) Bool.false_ne_true
  | int i =>
    obtain ⟨t, rfl⟩ := rx
    cases y with
    | non => cases ry; exact PySem.EqNone.ne_int_none (fin_bl I q (by simp))
    | int j => obtain ⟨t', rfl⟩ := ry; exact ne_int (fin_bl I q (congrArg not dec_int))
    | str j => obtain ⟨t', rfl⟩ := ry; exact PySem.EqMixed.ne_int_str (fin_bl I q (by simp))
    | _ => exact absurd (show false = true from hs) Bool.false_ne_true
  | str i =>
    obtain ⟨t, rfl⟩ := rx
    cases y with
    | non => cases ry; exact PySem.EqNone.ne_str_none (fin_bl I q (by simp))
    | bl j => cases ry; exact PySem.EqMixed.ne_str_bool (fin_bl I q (by simp))
    | int j => obtain ⟨t', rfl⟩ := ry; exact PySem.EqMixed.ne_str_int (fin_bl I q (by simp))
    | str j => obtain ⟨t', rfl⟩ := ry; exact ne_str (fin_bl I q (congrArg not dec_str))
    | _ => exact absurd (show false = true from hs) Bool.false_ne_true
  | byt i =>
    obtain ⟨t, rfl⟩ := rx
    cases y with
    | byt j => obtain ⟨t', rfl⟩ := ry; exact PySem.W.ne_bytes (fin_bl I q (congrArg not dec_byt))
    | _ => exact absurd (show false = true from hs) Bool.false_ne_true
  | _ => cases y <;> exact absurd (show false = true from hs) Bool.false_ne_true
theorem op_lt : OpR X (compareOp .Lt) (rI0 fun i j => .bl (decide (i < j))) := opB0 fun _ _ _ _ _ _ _ q => lt_int q
theorem op_le : OpR X (compareOp .LtE) (rI0 fun i j => .bl (decide (i ≤ j))) := opB0 fun _ _ _ _ _ _ _ q => le_int q
theorem op_gt : OpR X (compareOp .Gt) (rI0 fun i j => .bl (decide (j < i))) := opB0 fun _ _ _ _ _ _ _ q => gt_int q
theorem op_ge : OpR X (compareOp .GtE) (rI0 fun i j => .bl (decide (j ≤ i))) := opB0 fun _ _ _ _ _ _ _ q => ge_int q
theorem op_isN : OpR X (compareOp .Is) (fun x y H Q => y = .non ∧ Q (.bl (decide (x = .non))) H) := by
  intro pins s σ H x y v u Q I rx ry h
  obtain ⟨rfl, q⟩ := h
  cases ry
  refine is_none_gen (fin_bl I q ?_)
  cases x <;> first
    | (cases rx; rfl)
    | (obtain ⟨t, rfl⟩ := rx; rfl)
theorem op_notN : OpR X (compareOp .IsNot) (fun x y H Q => y = .non ∧ Q (.bl (!decide (x = .non))) H) := by
  intro pins s σ H x y v u Q I rx ry h
  obtain ⟨rfl, q⟩ := h
  cases ry
  refine isnot_none_gen (fin_bl I q ?_)
  cases x <;> first
    | (cases rx; rfl)
    | (obtain ⟨t, rfl⟩ := rx; rfl)
theorem OpR.or {f : Value → Value → Sem Value} {r r' : R2} (h : OpR X f r) (h' : OpR X f r') : OpR X f (fun x y H Q => r x y H Q ∨ r' x y H Q) := by
  intro pins s σ H x y v u Q I rx ry q
  rcases q with q | q
  · exact h pins s σ H x y v u Q I rx ry q
  · exact h' pins s σ H x y v u Q I rx ry q
theorem nomark (b : Expr) {op : CmpOp} (h : op ≠ .In := by decide) (h2 : op ≠ .NotIn := by decide) : behindInMarks op b = false := by
  have e1 : (op == CmpOp.In) = false := by cases op <;> first | rfl | exact absurd rfl h
  have e2 : (op == CmpOp.NotIn) = false := by cases op <;> first | rfl | exact absurd rfl h2
  cases b <;> simp [behindInMarks, e1, e2]
theorem pe_cmpR {op : CmpOp} {r : R2} (ho : OpR X (compareOp op) r) (ha : PE X a ta) (hb : PE X b tb) (hm : behindInMarks op b = false) : PE X (.Compare a [op] [b] pos) (tOp r ta tb) := by
  intro pins s σ H Q I h
  exact wpAny_Compare1 (binT ha hb I h fun v u s2 x y H2 I2 rx ry q => ho pins s2 σ H2 x y v u Q I2 rx ry q) hm
def tTest (t : TE) : TT := fun σ H Q => t σ H fun x H' => ∃ k, x = .bl k ∧ Q k H'
theorem pt_cmpR {op : CmpOp} {r : R2} (ho : OpR X (compareOp op) r) (ha : PE X a ta) (hb : PE X b tb) (hm : behindInMarks op b = false) : PT X (.Compare a [op] [b] pos) (tTest (tOp r ta tb)) := by
  intro pins s σ H Q I h
  refine wpAny_isTrue_Compare1 (thn (ha pins s σ H _ I h) fun v s1 ⟨x, H1, I1, r1, q1⟩ => thn (hb pins s1 σ H1 _ I1 q1) fun u s2 ⟨y, H2, I2, r2, q2⟩ =>
    thn (ho pins s2 σ H2 x y v u _ I2 r1 r2 q2) fun c s3 ⟨z, H3, I3, r3, k, e, q3⟩ => ?_) hm
  subst e
  cases r3
  exact wpAny_truthy_bool ⟨H3, I3, q3⟩
def tChain (r r' : R2) (ta tb tc : TE) : TE := fun σ H Q => ta σ H fun x H1 => tb σ H1 fun y H2 => r x y H2 fun z H3 => ∃ k, z = .bl k ∧
  (if k = true then tc σ H3 fun w' H4 => r' y w' H4 Q else Q (.bl false) H3)
theorem pe_chain {op op' : CmpOp} {r r' : R2} (ho : OpR X (compareOp op) r) (ho' : OpR X (compareOp op') r') (ha : PE X a ta) (hb : PE X b tb) (hc : PE X c tc)
    (hm : lastMarks [op, op'] [b, c] = false := by with_unfolding_all rfl) : PE X (.Compare a [op, op'] [b, c] pos) (tChain r r' ta tb tc) := by
  intro pins s σ H Q I h
  refine Compare_chain (thn (ha pins s σ H _ I h) fun v s1 ⟨x, H1, I1, r1, q1⟩ => chain_link (thn (hb pins s1 σ H1 _ I1 q1) fun u s2 ⟨y, H2, I2, r2, q2⟩ =>
    thn (ho pins s2 σ H2 x y v u _ I2 r1 r2 q2) fun d s3 ⟨z, H3, I3, r3, k, e, q3⟩ => ?_)) hm
  subst e
  cases r3
  refine wpAny_truthy_bool ?_
  cases k with
  | false => exact ite_ff ⟨.bl false, H3, I3, rfl, q3⟩
  | true => exact ite_tt (chain_last (thn (hc pins s3 σ H3 _ I3 q3) fun w' s4 ⟨z', H4, I4, r4, q4⟩ => ho' pins s4 σ H4 y z' u w' Q I4 r2 r4 q4))
theorem pt_chain {op op' : CmpOp} {r r' : R2} (ho : OpR X (compareOp op) r) (ho' : OpR X (compareOp op') r') (ha : PE X a ta) (hb : PE X b tb) (hc : PE X c tc)
    (hm : lastMarks [op, op'] [b, c] = false := by with_unfolding_all rfl) : PT X (.Compare a [op, op'] [b, c] pos) (tTest (tChain r r' ta tb tc)) := by
  intro pins s σ H Q I h
  refine isTrue_chain (thn (ha pins s σ H _ I h) fun v s1 ⟨x, H1, I1, r1, q1⟩ => test_link (thn (hb pins s1 σ H1 _ I1 q1) fun u s2 ⟨y, H2, I2, r2, q2⟩ =>
    thn (ho pins s2 σ H2 x y v u _ I2 r1 r2 q2) fun d s3 ⟨z, H3, I3, r3, k, e, q3⟩ => ?_)) hm
  subst e
  cases r3
  refine wpAny_truthy_bool ?_
  cases k with
  | false =>
    obtain ⟨k', e', q'⟩ := q3
    cases e'
    exact ite_ff ⟨H3, I3, q'⟩
  | true =>
    refine ite_tt (test_last (thn (hc pins s3 σ H3 _ I3 q3) fun w' s4 ⟨z', H4, I4, r4, q4⟩ => thn (ho' pins s4 σ H4 y z' u w' _ I4 r2 r4 q4) fun d' s5 ⟨z2, H5, I5, r5, k2, e2, q5⟩ => ?_))
    subst e2
    cases r5
    exact wpAny_truthy_bool ⟨H5, I5, q5⟩
theorem line63 : (sizeLine : Nat) < 2 ^ 63 := by rw [sizeLine_eq]; decide
theorem vals1 {x : V} {us : List Value} (r : Vals [x] us) : ∃ u, us = [u] ∧ RelV x u := by
  cases r with
  | cons r1 r2 => cases r2; exact ⟨_, rfl, r1⟩
theorem vals2 {x y : V} {us : List Value} (r : Vals [x, y] us) : ∃ u w', us = [u, w'] ∧ RelV x u ∧ RelV y w' := by
  cases r with
  | cons r1 r2 =>
    cases r2 with
    | cons r3 r4 => cases r4; exact ⟨_, _, rfl, r1, r3⟩
theorem call_abs : CallR X (.builtin "abs") (fun xs H Q => ∃ i, xs = [.int i] ∧ Q (.int (if i < 0 then -i else i)) H) := by
  intro pins s σ H xs us Q I r h
  obtain ⟨i, rfl, q⟩ := h
  obtain ⟨u, rfl, t, rfl⟩ := vals1 r
  exact call_abs_int fun u tk => ⟨.int (if i < 0 then -i else i), H, I.tok _, ⟨_, rfl⟩, q⟩
theorem call_max2 (hc : X.calm = true) : CallR X (.builtin "max") (fun xs H Q => ∃ i j, xs = [.int i, .int j] ∧ Q (.int (if j > i then j else i)) H) := by
  intro pins s σ H xs us Q I r h
  obtain ⟨i, j, rfl, q⟩ := h
  obtain ⟨u, w', rfl, ⟨t, rfl⟩, ⟨t', rfl⟩⟩ := vals2 r
  refine max_two_ints (I.ok.hd hc) fun h' tk k => ⟨_, H, I.kept k, ?_, q⟩
  by_cases hj : j > i
  · rw [if_pos hj, if_pos hj]; exact ⟨_, rfl⟩
  · rw [if_neg hj, if_neg hj]; exact ⟨_, rfl⟩
theorem call_min2 (hc : X.calm = true) : CallR X (.builtin "min") (fun xs H Q => ∃ i j, xs = [.int i, .int j] ∧ Q (.int (if j < i then j else i)) H) := by
  intro pins s σ H xs us Q I r h
  obtain ⟨i, j, rfl, q⟩ := h
  obtain ⟨u, w', rfl, ⟨t, rfl⟩, ⟨t', rfl⟩⟩ := vals2 r
  refine min_two_ints (I.ok.hd hc) fun h' tk k => ⟨_, H, I.kept k, ?_, q⟩
  by_cases hj : j < i
  · rw [if_pos hj, if_pos hj]; exact ⟨_, rfl⟩
  · rw [if_neg hj, if_neg hj]; exact ⟨_, rfl⟩
theorem call_int1 : CallR X (.type "int") (fun xs H Q => (∃ i, xs = [.int i] ∧ Q (.int i) H) ∨ ∃ k, xs = [.bl k] ∧ Q (.int (if k then 1 else 0)) H) := by
  intro pins s σ H xs us Q I r h
  rcases h with ⟨i, rfl, q⟩ | ⟨k, rfl, q⟩
  · obtain ⟨u, rfl, t, rfl⟩ := vals1 r
    exact call_int_int ⟨.int i, H, I, ⟨_, rfl⟩, q⟩
  · obtain ⟨u, rfl, r1⟩ := vals1 r
    cases r1
    exact call_int_bool ⟨.int (if k then 1 else 0), H, I.tok _, ⟨_, rfl⟩, q⟩
theorem call_bool1 : CallR X (.type "bool") (fun xs H Q => (∃ i, xs = [.int i] ∧ Q (.bl (i != 0)) H) ∨ ∃ k, xs = [.bl k] ∧ Q (.bl k) H) := by
  intro pins s σ H xs us Q I r h
  rcases h with ⟨i, rfl, q⟩ | ⟨k, rfl, q⟩
  · obtain ⟨u, rfl, t, rfl⟩ := vals1 r
    exact call_bool_int ⟨.bl (i != 0), H, I, rfl, q⟩
  · obtain ⟨u, rfl, r1⟩ := vals1 r
    cases r1
    exact call_bool_bool ⟨.bl k, H, I, rfl, q⟩
end
end L2
namespace L2
open PySem PySem.Spec PyProof.Rows
structure ObjM (h : Heap) (x dx C : Addr) (mA : Str → Option Value) : Prop where
  obj : h.get? x = some (PySem.W.instObj C dx)
  ns : h.Ns1 dx mA
  ne : dx ≠ x
theorem lookIn_ns {h : Heap} {dx : Addr} {mA : Str → Option Value} (n : h.Ns1 dx mA) : ∃ od, h.get? dx = some od ∧ ∀ name, PySem.W.lookIn name od = some (mA name) := by
  obtain ⟨o, es, ep, ho, hd, hk, _, hm⟩ := n
  refine ⟨o, ho, fun name => ?_⟩
  have e := hm name
  unfold nsFind findBy at e
  rw [← Array.find?_toList] at e
  unfold PySem.W.lookIn
  rw [hd]
  dsimp only
  split
  · rename_i y q
    rw [q] at e
    exact congrArg some e
  · rename_i q
    rw [q] at e
    have a : es.toList.any (·.refKey) = false := by
      rw [List.any_eq_false]
      intro y hy
      obtain ⟨z, t, hkey⟩ := hk y (Array.mem_toList_iff.mp hy)
      simp [DictEntry.refKey, hkey]
    have a' : ¬ es.toList.any (·.refKey) = true := by rw [a]; exact Bool.false_ne_true
    rw [if_neg a']
    exact congrArg some e
theorem ObjM.look {h : Heap} {x dx C : Addr} {mA : Str → Option Value} (I : ObjM h x dx C mA) : ∃ od, PySem.W.InstAt h x (PySem.W.instObj C dx) C (some od) ∧ ∀ name, PySem.W.lookIn name od = some (mA name) :=
  let ⟨od, ho, hl⟩ := lookIn_ns I.ns
  ⟨od, ⟨I.obj, rfl, rfl, ho⟩, hl⟩
section
variable {prog : Program} {w : World} {A : Around} {E : Value → Shared → Prop} {s : Shared} {K : PySem.W.Frag} {x dx C f : Addr} {mA : Str → Option Value} {name : Str} {v : Value}
theorem get_map {expr : Bool} {Q : Value → Shared → Prop} (X : K.In s.heap) (I : ObjM s.heap x dx C mA) (hg : PySem.W.plainGet K C name = true) (hh : PySem.W.hasDictIn K C = true)
    (ha : PySem.W.findIn K (.ref C) name = some none) (hv : mA name = some v) (hv' : PySem.W.handedIn v = true) (h : Q v { s with toks := s.toks + 1 }) :
    wpAny (model prog w) A (getAttr (.ref x) name expr) Q E s := by
  obtain ⟨od, J, hl⟩ := I.look
  exact PySem.W.get_value X J (PySem.W.plainGet_of hg).1 (PySem.W.findObj_own hh ha rfl (by rw [hl, hv])) hv' h
theorem get_meth {pl : Sem Bool} {Q : Value × List Value → Shared → Prop} (X : K.In s.heap) (I : ObjM s.heap x dx C mA) (hg : PySem.W.plainGet K C name = true)
    (hf : PySem.W.findIn K (.ref C) name = some (some (.ref f))) (ht : PySem.W.isFn K (.ref f) = true) (hv : mA name = none) (h : Q (.ref f, [.ref x]) s) :
    wpAny (model prog w) A (getMethod (.ref x) name pl) Q E s := by
  obtain ⟨od, J, hl⟩ := I.look
  exact PySem.W.method_fn X J (PySem.W.plainGet_of hg).1 (PySem.W.plainGet_of hg).2 hf (beq_iff_eq.mp ht) (by show (PySem.W.lookIn name od).map (·.isSome) = some false; rw [hl, hv]; rfl) h
theorem set_map {ns : List Str} {Q : Unit → Shared → Prop} (X : K.In s.heap) (I : ObjM s.heap x dx C mA)
    (hs : PySem.W.findIn K (.ref C) "__setattr__" = some (some (.builtin "object.__setattr__"))) (hp : PySem.W.plainOver K C = true) (ht : PySem.W.takerIn K C name = some none) (hh : PySem.W.hasDictIn K C = true)
    (hw : PySem.Within mA ns) (hsz : ns.length ≤ sizeLine)
    (h : ∀ h', ObjM h' x dx C (fun y => if y = name then some v else mA y) → Heap.SameBut dx s.heap h' → Q () { s with heap := h', toks := s.toks + 2 }) :
    wpAny (model prog w) A (setAttr (.ref x) name v) Q E s := by
  obtain ⟨od, J, hl⟩ := I.look
  refine PySem.W.set_plain X J hs (PySem.W.osa_open (s := { s with toks := s.toks + 1 }) (r := none) X J hp ht fun b => ?_)
  obtain ⟨cd, hc, hd'⟩ := PySem.W.any_some hh
  have hx : s.heap.get? x = some ⟨.ref C, some dx, .plain, #[]⟩ := I.obj
  refine wpAny_bind (wpAny_pure (wpAny_bind (wpAny_bind (wpAny_loadPart hx (wpAny_bind (PySem.W.Looks.here (s := { s with toks := s.toks + 1 }) (PySem.W.looks_clsIn X hc) ?_))))))
  rw [hd']
  refine wpAny_pure (a := some dx) (wpAny_bind (wpAny_pure (wpAny_bind ?_)))
  refine wpAny_nsSet1 (s := { s with toks := s.toks + 1 }) I.ns fun h' hn2 hs2 => ?_
  obtain ⟨oD, esD, epD, hoD, hdD, hcD⟩ := hn2.count (PySem.Within.cons name v hw)
  refine wpAny_bind (wpAny_lookBehind hoD (by rw [hdD]; exact pastItsLine_dict (Nat.le_trans hcD (by rw [List.length_cons]; omega))) ?_)
  exact wpAny_pure (h _ ⟨(hs2.2 _ (Ne.symm I.ne)).trans I.obj, hn2, I.ne⟩ hs2)
theorem make_map {R : Result → Shared → Prop} {vs : List Value} {kw : List (Str × Value)} (X : K.In s.heap) (hm : PySem.W.makesIn K C = true)
    (hi : PySem.W.findIn K (.ref C) "__init__" = some (some (.ref f))) (hf : PySem.W.typeIn K (.ref f) = some (.type "function"))
    (h : codeAny (model prog w) (A.under (.builtin "type.__call__" ⟨.ref C :: vs, kw⟩)) (.call (.ref f) ⟨.ref (s.heap.objs.size + 1) :: vs, kw⟩) (PySem.W.InitBack (s.heap.objs.size + 1) R)
      { s with heap := (s.heap.push PySem.W.emptyDict).push (PySem.W.instObj C s.heap.objs.size) }) :
    codeAny (model prog w) A (.call (.ref C) ⟨vs, kw⟩) R s := by
  obtain ⟨hh, g, d, t, os⟩ := s
  exact PySem.W.make_core (PySem.W.makes_of X hm) (PySem.W.looks_findIn X hi) (fun self => PySem.W.bind_fn X self hf) (.inl rfl) h
end
def putF (f : Str) (v : V) : List (Str × V) → List (Str × V)
  | [] => [(f, v)]
  | (g, x) :: r => if g = f then (g, v) :: r else (g, x) :: putF f v r
theorem lookup_putF (f g : Str) (v : V) : ∀ fs : List (Str × V), (putF f v fs).lookup g = if g = f then some v else fs.lookup g
  | [] => by
    show List.lookup g [(f, v)] = _
    by_cases h : g = f
    · have hb : (g == f) = true := beq_iff_eq.mpr h
      simp only [List.lookup, hb, if_pos h]
    · have hb : (g == f) = false := beq_eq_false_iff_ne.mpr h
      simp only [List.lookup, hb, if_neg h]
  | (k, x) :: r => by
    have ih := lookup_putF f g v r
    rw [show putF f v ((k, x) :: r) = (if k = f then (k, v) :: r else (k, x) :: putF f v r) from rfl]
    by_cases hk : k = f
    · rw [if_pos hk]
      by_cases h : g = k
      · have hb : (g == k) = true := beq_iff_eq.mpr h
        simp only [List.lookup, hb, if_pos (h.trans hk)]
      · have hb : (g == k) = false := beq_eq_false_iff_ne.mpr h
        simp only [List.lookup, hb, if_neg (fun e : g = f => h (e.trans hk.symm))]
    · rw [if_neg hk]
      by_cases h : g = k
      · have hb : (g == k) = true := beq_iff_eq.mpr h
        simp only [List.lookup, hb, if_neg (fun e : g = f => hk (h.symm.trans e))]
      · have hb : (g == k) = false := beq_eq_false_iff_ne.mpr h
        simp only [List.lookup, hb]
        exact ih
theorem keys_putF (f : Str) (v : V) : ∀ fs : List (Str × V), f ∈ (putF f v fs).map (·.1) ∧ ∀ g, g ∈ fs.map (·.1) → g ∈ (putF f v fs).map (·.1)
  | [] => ⟨by simp [putF], fun g h => by simp at h⟩
  | (k, x) :: r => by
    obtain ⟨i1, i2⟩ := keys_putF f v r
    rw [show putF f v ((k, x) :: r) = (if k = f then (k, v) :: r else (k, x) :: putF f v r) from rfl]
    by_cases hk : k = f
    · rw [if_pos hk]
      subst hk
      exact ⟨by simp, fun g h => by simpa using h⟩
    · rw [if_neg hk]
      refine ⟨?_, fun g h => ?_⟩
      · rw [List.map_cons]
        exact List.mem_cons_of_mem _ i1
      · rw [List.map_cons] at h ⊢
        rcases List.mem_cons.mp h with e | e
        · exact List.mem_cons.mpr (.inl e)
        · exact List.mem_cons_of_mem _ (i2 g e)
theorem length_putF (f : Str) (v : V) : ∀ fs : List (Str × V), (putF f v fs).length ≤ fs.length + 1
  | [] => by simp [putF]
  | (k, x) :: r => by
    have ih := length_putF f v r
    rw [show putF f v ((k, x) :: r) = (if k = f then (k, v) :: r else (k, x) :: putF f v r) from rfl]
    by_cases hk : k = f
    · rw [if_pos hk, List.length_cons, List.length_cons]; omega
    · rw [if_neg hk, List.length_cons, List.length_cons]; omega
theorem RelO.some_of {v : V} {o : Option Value} (r : RelO (some v) o) : ∃ u, o = some u ∧ RelV v u := by
  cases o with
  | none => exact (show False from r).elim
  | some u => exact ⟨u, rfl, r⟩
theorem RelO.none_of {o : Option Value} (r : RelO none o) : o = none := by
  cases o with
  | none => rfl
  | some u => exact (show False from r).elim
theorem handed_of {v : V} {u : Value} (r : RelV v u) : PySem.W.handedIn u = true := by
  cases v with
  | non => cases (show u = Value.none from r); rfl
  | bl b => cases (show u = Value.bool b from r); rfl
  | int i => obtain ⟨t, e⟩ := (show ∃ t, u = Value.int i t from r); cases e; rfl
  | str x => obtain ⟨t, e⟩ := (show ∃ t, u = Value.str x t from r); cases e; rfl
  | byt b => obtain ⟨t, e⟩ := (show ∃ t, u = Value.bytes b t from r); cases e; rfl
  | flt b => obtain ⟨t, e⟩ := (show ∃ t, u = Value.float b t from r); cases e; rfl
  | ref a => cases (show u = Value.ref a from r); rfl
  | ty n => cases (show u = Value.type n from r); rfl
section
variable {P : Program} {w : World} {H H' : Hp} {h h' : Heap} {a C dx : Addr} {fs fs' : List (Str × V)}
theorem ins_get (hok : HOk P w H h) (e : H a = some (.ins C dx fs)) : ∃ mA, ObjM h a dx C mA ∧ (∀ f, RelO (fs.lookup f) (mA f)) ∧ PySem.Within mA (fs.map (·.1)) ∧ fs.length ≤ 1000 ∧ H dx = some (.own a) := by
  obtain ⟨d, z, ne, ob, mA, n, r, q⟩ := (show ObjOk P w H h a (.ins C dx fs) from hok a _ e)
  exact ⟨mA, ⟨ob, n, ne⟩, r, q, z, d⟩
end
structure Cls (K : PySem.W.Frag) (C : Addr) : Prop where
  pg : PySem.W.plainGet K C Str.empty = true
  hd : PySem.W.hasDictIn K C = true
  po : PySem.W.plainOver K C = true
  sa : PySem.W.findIn K (.ref C) "__setattr__" = some (some (.builtin "object.__setattr__"))
theorem Cls.get {K : PySem.W.Frag} {C : Addr} (c : Cls K C) (f : Str) : PySem.W.plainGet K C f = true := c.pg
def NoAttr (K : PySem.W.Frag) (C : Addr) (f : Str) : Prop := PySem.W.findIn K (.ref C) f = some none
theorem NoAttr.taker {K : PySem.W.Frag} {C : Addr} {f : Str} (n : NoAttr K C f) : PySem.W.takerIn K C f = some none := by
  unfold PySem.W.takerIn
  rw [show PySem.W.findIn K (.ref C) f = some none from n]
  rfl
structure Con (K : PySem.W.Frag) (C : Addr) (f : Str) (v : V) (u : Value) : Prop where
  at_ : PySem.W.findIn K (.ref C) f = some (some u)
  rel : RelV v u
  get : PySem.W.specialIn K u "__get__" = some none
  cp : PySem.W.copiedNames.contains f = false
structure Meth (K : PySem.W.Frag) (C : Addr) (m : Str) (f : Addr) : Prop where
  at_ : PySem.W.findIn K (.ref C) m = some (some (.ref f))
  fn : PySem.W.isFn K (.ref f) = true
  kp : PySem.W.keepIn K (.ref f) = true
section
variable {X : Cx} {pins : List (Addr × Obj)} {σ : St} {H : Hp} {s : Shared} {a C dx : Addr} {fs : List (Str × V)} {f : Str} {v : V} {A : Around} {E : Value → Shared → Prop}
theorem getattr_ok {b : Bool} {Q : Value → Shared → Prop} (I : Inv X pins σ H s) (e : H a = some (.ins C dx fs)) (c : Cls X.K C) (n : NoAttr X.K C f) (l : fs.lookup f = some v)
    (h : ∀ u s', Inv X pins σ H s' → RelV v u → Q u s') : wpAny (model X.prog X.w) A (getAttr (.ref a) f b) Q E s := by
  obtain ⟨mA, O, r, _, _, _⟩ := ins_get I.hok e
  obtain ⟨u, hu, ru⟩ := RelO.some_of (v := v) (o := mA f) (by rw [← l]; exact r f)
  exact get_map I.kIn O (c.get f) c.hd n hu (handed_of ru) (h u _ (I.tok _) ru)
theorem getmeth_ok {m : Str} {g : Addr} {pl : Sem Bool} {Q : Value × List Value → Shared → Prop} (I : Inv X pins σ H s) (e : H a = some (.ins C dx fs)) (c : Cls X.K C) (k : Meth X.K C m g) (l : fs.lookup m = none)
    (h : Q (.ref g, [.ref a]) s) : wpAny (model X.prog X.w) A (getMethod (.ref a) m pl) Q E s := by
  obtain ⟨mA, O, r, _, _, _⟩ := ins_get I.hok e
  have hn : mA m = none := RelO.none_of (by rw [← l]; exact r m)
  exact get_meth I.kIn O (c.get m) k.at_ k.fn hn h
theorem setattr_ok {y : V} {u : Value} {Q : Unit → Shared → Prop} (I : Inv X pins σ H s) (e : H a = some (.ins C dx fs)) (c : Cls X.K C) (n : NoAttr X.K C f) (hl : fs.length < 1000) (ry : RelV y u)
    (h : ∀ s', Inv X pins σ (upd H a (.ins C dx (putF f y fs))) s' → Q () s') : wpAny (model X.prog X.w) A (setAttr (.ref a) f u) Q E s := by
  obtain ⟨mA, O, r, wi, _, ho⟩ := ins_get I.hok e
  have hz : (fs.map (·.1)).length ≤ sizeLine := by rw [List.length_map, sizeLine_eq]; omega
  refine set_map I.kIn O c.sa c.po n.taker c.hd wi hz fun h' O' sb => h _ ?_
  have hd : ∃ o, h'.get? dx = some o := let ⟨o, _, _, e', _⟩ := O'.ns; ⟨o, e'⟩
  refine I.write (x := a) (e := dx) (by rw [e]; exact True.intro) (.inr ho) (fun b q hb z => (sb.2 b hb).trans z) hd ?_
  refine ⟨by rw [upd_ne O.ne]; exact ho, ?_, O.ne, O'.obj, _, O'.ns, fun g => ?_, fun g hg => ?_⟩
  · have := length_putF f y fs; omega
  · show RelO ((putF f y fs).lookup g) (if g = f then some u else mA g)
    rw [lookup_putF]
    by_cases q : g = f
    · rw [if_pos q, if_pos q]; exact ry
    · rw [if_neg q, if_neg q]; exact r g
  · by_cases q : g = f
    · rw [q]; exact (keys_putF f y fs).1
    · refine (keys_putF f y fs).2 g (wi g fun z => hg ?_)
      show (if g = f then some u else mA g) = none
      rw [if_neg q]; exact z
theorem Inv.made (I : Inv X pins σ H s) : Inv X pins σ (upd (upd H s.heap.objs.size (.own (s.heap.objs.size + 1))) (s.heap.objs.size + 1) (.ins C s.heap.objs.size []))
    { s with heap := (s.heap.push PySem.W.emptyDict).push (PySem.W.instObj C s.heap.objs.size) } := by
  have e1 : (s.heap.push PySem.W.emptyDict).get? s.heap.objs.size = some PySem.W.emptyDict := Heap.get?_push_size s.heap rfl
  have e2 : ((s.heap.push PySem.W.emptyDict).push (PySem.W.instObj C s.heap.objs.size)).get? (s.heap.objs.size + 1) = some (PySem.W.instObj C s.heap.objs.size) := by
    have := Heap.get?_push_size (s.heap.push PySem.W.emptyDict) (o := PySem.W.instObj C s.heap.objs.size) rfl
    rwa [Heap.size_push] at this
  have e3 : (s.heap.push PySem.W.emptyDict).Ns s.heap.objs.size (fun _ => none) := ⟨PySem.W.emptyDict, #[], _, e1, rfl, (fun e he => absurd he (by simp)), fun _ => rfl⟩
  have I1 := I.laid (a := s.heap.objs.size) (o := .own (s.heap.objs.size + 1)) (h' := s.heap.push PySem.W.emptyDict) (t' := s.toks) (fun b u q => Heap.get?_push_of_some _ q) (Nat.le_refl _) ⟨_, e1⟩
  refine I1.laid (a := s.heap.objs.size + 1) (o := .ins C s.heap.objs.size []) (t' := s.toks) (fun b u q => Heap.get?_push_of_some _ q) (Nat.le_of_eq (Heap.size_push _ _)) ?_
  have ne : s.heap.objs.size ≠ s.heap.objs.size + 1 := Nat.ne_of_lt (Nat.lt_succ_self _)
  refine ⟨by rw [upd_ne ne, upd_same], Nat.zero_le _, ne, e2, fun _ => none, (Heap.Ns1.of_empty e3).at fun o q => Heap.get?_push_of_some _ q, fun _ => True.intro, fun y hy => absurd rfl hy⟩
theorem attr_of {prog : Program} {w : World} {env : Env} {e : Expr} {f : Str} {pos : Pos} {s : Shared} {Q : Value → Shared → Prop} (hb : attributeBase e f env (eval e env) = eval e env)
    (h : wpAny (model prog w) A (eval e env) (fun o s₁ => wpAny (model prog w) A (getAttr o f true) Q E s₁) E s) : wpAny (model prog w) A (eval (.Attribute e f pos) env) Q E s :=
  Attribute_any_ h (by rw [arm_eval_Attribute, hb])
end
def tFld (K : PySem.W.Frag) (ta : TE) (f : Str) : TE := fun σ H Q => ta σ H fun x H1 => ∃ a C dx fs v, x = .ref a ∧ H1 a = some (.ins C dx fs) ∧ Cls K C ∧ NoAttr K C f ∧ fs.lookup f = some v ∧ Q v H1
def sFld (K : PySem.W.Frag) (ta tv : TE) (f : Str) : TS := fun D σ H => tv σ H fun y H1 => ta σ H1 fun x H2 => ∃ a C dx fs, x = .ref a ∧ H2 a = some (.ins C dx fs) ∧ Cls K C ∧ NoAttr K C f ∧ fs.length < 1000 ∧
  D.nx σ (upd H2 a (.ins C dx (putF f y fs)))
section
variable {X : Cx} {o e value : Expr} {f : Str} {pos pos' tpos : Pos} {ta tv : TE}
theorem pe_fld (he : PE X e ta) (hb : attributeBase e f X.env (eval e X.env) = eval e X.env) : PE X (.Attribute e f pos) (tFld X.K ta f) := by
  intro pins s σ H Q I h
  refine attr_of hb (thn (he pins s σ H _ I h) fun u s1 ⟨x, H1, I1, rx, a, C, dx, fs, v, ex, ea, c, n, l, q⟩ => ?_)
  subst ex
  obtain rfl : u = Value.ref a := rx
  exact getattr_ok I1 ea c n l fun u' s2 I2 ru => ⟨v, H1, I2, ru, q⟩
theorem ps_fld (ha : PE X o ta) (hv : PE X value tv) (hs : swapsWith value (some (.Attribute o f pos')) pos.line X.env = pure false) : PS X (.Assign [.Attribute o f pos'] value pos) (sFld X.K ta tv f) := by
  intro pins s σ H D I h
  refine plainObj_wpAny_Assign_Attribute (thn (hv pins s σ H _ I h) fun u s1 ⟨y, H1, I1, ry, q⟩ => thn (ha pins s1 σ H1 _ I1 q) fun ov s2 ⟨x, H2, I2, rx, a, C, dx, fs, ex, ea, c, n, l, q2⟩ => ?_) hs
  subst ex
  obtain rfl : ov = Value.ref a := rx
  exact setattr_ok I2 ea c n l ry fun s3 I3 => ⟨σ, _, I3, q2⟩
end
section
variable {X : Cx} {pins : List (Addr × Obj)} {σ : St} {H : Hp} {s : Shared} {A : Around} {E : Value → Shared → Prop} {Q : Value → Shared → Prop} {c : Value} {b : Bool}
inductive TyOf (K : PySem.W.Frag) (H : Hp) : V → Value → Prop where
  | non : TyOf K H .non (.type "NoneType")
  | bl (x : Bool) : TyOf K H (.bl x) (.type "bool")
  | int (i : Int) : TyOf K H (.int i) (.type "int")
  | str (x : Str) : TyOf K H (.str x) (.type "str")
  | flt (x : UInt64) : TyOf K H (.flt x) (.type "float")
  | lst {a : Addr} {xs : List V} (e : H a = some (.lst xs)) : TyOf K H (.ref a) (.type "list")
  | frz {a : Addr} {o : Obj} {xs : List V} (e : H a = some (.frz o (.lst xs))) : TyOf K H (.ref a) (.type "list")
  | tup {a : Addr} {xs : List V} (e : H a = some (.tup xs)) : TyOf K H (.ref a) (.type "tuple")
  | dK {a : Addr} {kvs : List (Key × V)} (e : H a = some (.dK kvs)) : TyOf K H (.ref a) (.type "dict")
  | dT {a : Addr} {kvs : List (List Key × V)} (e : H a = some (.dT kvs)) : TyOf K H (.ref a) (.type "dict")
  | ins {a C dx : Addr} {fs : List (Str × V)} (e : H a = some (.ins C dx fs)) (cl : Cls K C) (ha : PySem.W.findIn K (.ref C) "__class__" = some (some (.builtin "object.__class__")))
      (hn : PySem.W.specialIn K (.builtin "object.__class__") "__get__" = some (some (.builtin "getset_descriptor.__get__"))) (htk : PySem.W.takesIn K (.builtin "object.__class__") = some true)
      (hm : PySem.W.mroIn K C (.type "object") = some true) : TyOf K H (.ref a) (.ref C)
theorem isinst_ok {x : V} {u t : Value} (I : Inv X pins σ H s) (rx : RelV x u) (ty : TyOf X.K H x t) (e : PySem.W.kitOne X.K t c = some b) (h : ∀ tk, Q (.bool b) { s with toks := tk }) :
    wpAny (model X.prog X.w) A (call (.builtin "isinstance") [u, c]) Q E s := by
  cases ty with
  | non => cases (show u = Value.none from rx); exact PySem.W.kia_one PySem.W.kitx_none I.kIn True.intro e (fun z => nomatch z) h
  | bl y => cases (show u = Value.bool y from rx); exact PySem.W.kia_one PySem.W.kitx_bool I.kIn True.intro e (fun z => nomatch z) h
  | int i => obtain ⟨t, q⟩ := (show ∃ t, u = Value.int i t from rx); cases q; exact PySem.W.kia_one PySem.W.kitx_int I.kIn True.intro e (fun z => nomatch z) h
  | str y => obtain ⟨t, q⟩ := (show ∃ t, u = Value.str y t from rx); cases q; exact PySem.W.kia_one PySem.W.kitx_str I.kIn True.intro e (fun z => nomatch z) h
  | flt y => obtain ⟨t, q⟩ := (show ∃ t, u = Value.float y t from rx); cases q; exact PySem.W.kia_one PySem.W.kitx_float I.kIn True.intro e (fun z => nomatch z) h
  | @lst a xs ea =>
    cases (show u = Value.ref a from rx)
    obtain ⟨_, _, n, _, h1⟩ := (show ObjOk X.prog X.w H s.heap a (.lst xs) from I.hok a _ ea)
    exact PySem.W.kia_one PySem.W.kitx_list I.kIn ⟨_, h1, rfl⟩ e (fun z => nomatch z) h
  | @frz a ob xs ea =>
    cases (show u = Value.ref a from rx)
    obtain ⟨_, _, _, n, _, h1⟩ := (show ObjOk X.prog X.w H s.heap a (.frz ob (.lst xs)) from I.hok a _ ea)
    exact PySem.W.kia_one PySem.W.kitx_list I.kIn ⟨_, h1, rfl⟩ e (fun z => nomatch z) h
  | @tup a xs ea =>
    cases (show u = Value.ref a from rx)
    obtain ⟨_, _, _, p⟩ := (show ObjOk X.prog X.w H s.heap a (.tup xs) from I.hok a _ ea)
    obtain ⟨o, h1, h2, _⟩ := p
    exact PySem.W.kia_one PySem.W.kitx_tuple I.kIn ⟨o, h1, h2⟩ e (fun z => nomatch z) h
  | @dK a kvs ea =>
    cases (show u = Value.ref a from rx)
    obtain ⟨_, _, vs, _, p⟩ := (show ObjOk X.prog X.w H s.heap a (.dK kvs) from I.hok a _ ea)
    obtain ⟨o, es, ep, h1, h2, _⟩ := p
    exact PySem.W.kia_one PySem.W.kitx_dict I.kIn ⟨o, h1, h2.1⟩ e (fun z => nomatch z) h
  | @dT a kvs ea =>
    cases (show u = Value.ref a from rx)
    obtain ⟨_, _, xs, _, o, es, ep, h1, h2, _⟩ := (show ObjOk X.prog X.w H s.heap a (.dT kvs) from I.hok a _ ea)
    exact PySem.W.kia_one PySem.W.kitx_dict I.kIn ⟨o, h1, h2.1⟩ e (fun z => nomatch z) h
  | @ins a C dx fs ea cl ha hn htk hm =>
    cases (show u = Value.ref a from rx)
    obtain ⟨mA, O, _⟩ := ins_get I.hok ea
    obtain ⟨od, J, _⟩ := O.look
    exact PySem.W.kia_one (PySem.W.kitx_own (cl.get _) cl.hd ha hn htk hm) I.kIn J e (fun z => nomatch z) h
end
end L2
namespace L2
open PySem PySem.Spec PyProof.Rows
structure Room (cm : Bool) (k : Nat) (A : Around) : Prop where
  hd : cm = true → A.handled = none
  dp : A.depth + 3 * k + 5 < recursionLimit
  un : A.units + 16 * k + 200 < cLine
theorem Room.mono {cm : Bool} {j k : Nat} {A : Around} (r : Room cm k A) (h : j ≤ k) : Room cm j A := ⟨r.hd, by have := r.dp; omega, by have := r.un; omega⟩
theorem Room.deeper {cm : Bool} {k : Nat} {A : Around} (r : Room cm (k + 1) A) (env : Env) : Room cm k (A.deeper env) :=
  ⟨r.hd, by have := r.dp; show A.depth + 1 + 3 * k + 5 < _; omega, by have := r.un; show A.units + 3 + 16 * k + 200 < _; omega⟩
theorem Room.in1 {cm : Bool} {k : Nat} {A : Around} (r : Room cm (k + 1) A) : Room cm k A.in1 :=
  ⟨r.hd, by have := r.dp; show A.depth + 3 * k + 5 < _; omega, by have := r.un; show A.units + 1 + 16 * k + 200 < _; omega⟩
theorem make_depth {A : Around} {C : Addr} {us : List Value} {kw : List (Str × Value)} : (A.under (.builtin "type.__call__" ⟨.ref C :: us, kw⟩)).depth = A.depth + 1 := by
  first | rfl | simp [Around.under, Code.weight, Code.isCreation, Code.isGuard, Code.isCaller, Code.frames, Code.isFrame, guardIds]
theorem make_units {A : Around} {C : Addr} {us : List Value} {kw : List (Str × Value)} : (A.under (.builtin "type.__call__" ⟨.ref C :: us, kw⟩)).units = A.units + 1 := by
  first | rfl | simp [Around.under, Code.cUnits, Code.frames, Code.isFrame]
theorem Room.make {cm : Bool} {k : Nat} {A : Around} (r : Room cm (k + 1) A) (C : Addr) (us : List Value) (kw : List (Str × Value)) : Room cm k (A.under (.builtin "type.__call__" ⟨.ref C :: us, kw⟩)) :=
  ⟨r.hd, by have := r.dp; rw [make_depth]; omega, by have := r.un; rw [make_units]; omega⟩
theorem Room.depth {cm : Bool} {k : Nat} {A : Around} (r : Room cm k A) : A.depth < recursionLimit := by have := r.dp; omega
theorem Room.units {cm : Bool} {k : Nat} {A : Around} (r : Room cm k A) : A.units + 64 < cLine := by have := r.un; omega
def tNil : TA := fun _ H Q => Q [] H
def tCons (ta : TE) (tr : TA) : TA := fun σ H Q => ta σ H fun x H1 => tr σ H1 fun xs H2 => Q (x :: xs) H2
section
variable {X : Cx} {e : Expr} {es : List Expr} {te : TE} {t : TA} {pos : Pos}
theorem pa_nil : PA X [] tNil := fun _ _ _ _ H Q I h => Calls.spliced_nil ⟨[], H, I, .nil, h⟩
theorem pa_cons (ha : PE X e te) (hr : PA X es t) (hs : starEach (e :: es) X.env = (false, eval e X.env) :: starEach es X.env := by rfl) : PA X (e :: es) (tCons te t) := by
  intro pos pins s σ H Q I h
  rw [hs]
  show wpAny _ _ (spliced ((false, eval e X.env) :: backTo pos (starEach es X.env))) _ _ s
  refine Calls.spliced_cons (thn (ha pins s σ H _ I h) fun u s1 ⟨x, H1, I1, r1, q1⟩ => ?_)
  exact thn (hr pos pins s1 σ H1 _ I1 q1) fun us s2 ⟨xs, H2, I2, r2, q2⟩ => ⟨x :: xs, H2, I2, .cons r1 r2, q2⟩
def tTup (t : TA) : TE := fun σ H Q => t σ H fun xs H1 => xs.length ≤ sizeLine ∧ ∀ p, H1 p = none → Q (.ref p) (upd H1 p (.tup xs))
def tLst (t : TA) : TE := fun σ H Q => t σ H fun xs H1 => xs.length ≤ sizeLine ∧ ∀ p, H1 p = none → Q (.ref p) (upd H1 p (.lst xs))
theorem pe_tup {x1} (h : PA X es t) : PE X (.Tuple es x1 pos) (tTup t) := by
  intro pins s σ H Q I hq
  refine wpAny_Tuple_spliced (thn (h pos pins s σ H _ I hq) fun us s1 ⟨xs, H1, I1, r, z, q⟩ => ⟨by rw [← r.length]; exact z, ?_⟩)
  have hf : H1 s1.heap.objs.size = none := I1.hok.fresh (Nat.le_refl _)
  refine ⟨.ref s1.heap.objs.size, upd H1 s1.heap.objs.size (.tup xs), I1.laid (t' := s1.toks) (fun b u e => Heap.get?_push_of_some _ e) (Nat.le_refl _) ?_, rfl, q _ hf⟩
  exact ⟨z, us, r, ⟨_, Heap.get?_push_size _ rfl, rfl, _, rfl⟩⟩
theorem pe_lst (h : PA X es t) : PE X (.List es pos) (tLst t) := by
  intro pins s σ H Q I hq
  refine wpAny_List_spliced (thn (h pos pins s σ H _ I hq) fun us s1 ⟨xs, H1, I1, r, z, q⟩ => ⟨by rw [← r.length]; exact z, ?_⟩)
  have hf : H1 s1.heap.objs.size = none := I1.hok.fresh (Nat.le_refl _)
  refine ⟨.ref s1.heap.objs.size, upd H1 s1.heap.objs.size (.lst xs), I1.laid (t' := s1.toks) (fun b u e => Heap.get?_push_of_some _ e) (Nat.le_refl _) ?_, rfl, q _ hf⟩
  exact ⟨z, us, 0, r, Heap.get?_push_size _ rfl⟩
end
abbrev Sp := List V → Hp → VK → XK → Prop
abbrev CXT := List Env → Hp → Shared → XK → Value → Shared → Prop
structure Env0 (P : Program) (w : World) (K : PySem.W.Frag) (mg : Str → Option Value) (base : Heap) (A : Around) (outer : List Env) (s : Shared) (H : Hp) : Prop where
  frames : A.frames = some outer
  mod : Mod K mg base
  bs : ∀ b o, base.get? b = some o → s.heap.get? b = some o ∧ H b = none
  bsz : base.objs.size ≤ s.heap.objs.size
  funs : s.heap.FunFrames base outer
  frf : ∀ b ∈ frs outer, H b = none
  hok : HOk P w H s.heap
  bare : AllBare s.gens
def CE (outer : List Env) (P : Program) (w : World) (H : Hp) (s : Shared) (Q : VK) (u : Value) (s' : Shared) : Prop :=
  ∃ v H', s'.os = s.os ∧ AllBare s'.gens ∧ Un (frs outer) [] H H' s.heap s'.heap ∧ HOk P w H' s'.heap ∧ RelV v u ∧ Q v H'
def CR (CX : CXT) (outer : List Env) (P : Program) (w : World) (H : Hp) (s : Shared) (Q : VK) (E : XK) (r : Result) (s' : Shared) : Prop :=
  match r with
  | .ok (.ret u) => CE outer P w H s Q u s'
  | .ok _ => False
  | .error e => CX outer H s E e s'
structure FnOk (P : Program) (w : World) (K : PySem.W.Frag) (mg : Str → Option Value) (base : Heap) (CX : CXT) (cm : Bool) (k : Nat) (f : Addr) (fd : FuncData) (ps : List Str) (sp : Sp) : Prop where
  len : ∀ vs H Q E, sp vs H Q E → vs.length = ps.length
  run : ∀ (A : Around) (outer : List Env) (s : Shared) (H : Hp) (args : Args) (us : List Value) (vs : List V) (Q : VK) (E : XK), Room cm k A → Env0 P w K mg base A outer s H → BindsTo s fd args (ps.zip us) → Vals vs us → sp vs H Q E →
    codeAny (model P w) A (.call (.ref f) args) (CR CX outer P w H s Q E) s
theorem FnOk.mono {cm : Bool} {P : Program} {w : World} {K : PySem.W.Frag} {mg : Str → Option Value} {base : Heap} {CX : CXT} {j k : Nat} {f : Addr} {fd : FuncData} {ps : List Str} {sp : Sp} (F : FnOk P w K mg base CX cm j f fd ps sp) (h : j ≤ k) :
    FnOk P w K mg base CX cm k f fd ps sp := ⟨F.len, fun A outer s H args us vs Q E hr => F.run A outer s H args us vs Q E (hr.mono h)⟩
theorem FnOk.imp {cm : Bool} {P : Program} {w : World} {K : PySem.W.Frag} {mg : Str → Option Value} {base : Heap} {CX : CXT} {k : Nat} {f : Addr} {fd : FuncData} {ps : List Str} {sp sp' : Sp} (F : FnOk P w K mg base CX cm k f fd ps sp)
    (h : ∀ vs H Q E, sp' vs H Q E → sp vs H Q E) : FnOk P w K mg base CX cm k f fd ps sp' :=
  ⟨fun vs H Q E q => F.len vs H Q E (h _ _ _ _ q), fun A outer s H args us vs Q E hr he hb hv hs => F.run A outer s H args us vs Q E hr he hb hv (h _ _ _ _ hs)⟩
theorem Env0.make {P : Program} {w : World} {K : PySem.W.Frag} {mg : Str → Option Value} {base : Heap} {A : Around} {outer : List Env} {s : Shared} {H : Hp} (e : Env0 P w K mg base A outer s H) (C : Addr) (us : List Value) (kw : List (Str × Value)) :
    Env0 P w K mg base (A.under (.builtin "type.__call__" ⟨.ref C :: us, kw⟩)) outer s H := ⟨by first | exact e.frames | (simpa [Around.under, Code.envs, Code.isFrame, pushEnvs] using e.frames), e.mod, e.bs, e.bsz, e.funs, e.frf, e.hok, e.bare⟩
theorem Env0.in1 {P : Program} {w : World} {K : PySem.W.Frag} {mg : Str → Option Value} {base : Heap} {A : Around} {outer : List Env} {s : Shared} {H : Hp} (e : Env0 P w K mg base A outer s H) :
    Env0 P w K mg base A.in1 outer s H := ⟨e.frames, e.mod, e.bs, e.bsz, e.funs, e.frf, e.hok, e.bare⟩
section
variable {X : Cx} {pins : List (Addr × Obj)} {σ : St} {H : Hp} {s s' : Shared}
theorem Inv.env0 (I : Inv X pins σ H s) : Env0 X.prog X.w X.K X.mg X.base X.A X.stack s H :=
  ⟨I.ok.frames, I.ok.mod, I.bs, Nat.le_trans I.ok.bsz I.sz, I.stack, I.stkFree, I.hok, I.bare⟩
theorem Inv.after {Q : VK} {u : Value} (I : Inv X pins σ H s) (h : CE X.stack X.prog X.w H s Q u s') : EP X pins σ Q u s' := by
  obtain ⟨v, H', os, bare, un, hok, r, q⟩ := h
  obtain ⟨hh, g, d, t, os'⟩ := s'
  obtain rfl : os' = s.os := os
  exact ⟨v, H', I.call (h' := hh) (g' := g) (d' := d) (t' := t) (ch := []) un hok bare (fun b z => absurd z (by simp)), r, q⟩
end
def tCall (sp : Sp) (dvs : List V) (E : XK) (t : TA) : TE := fun σ H Q => t σ H fun vs H1 => sp (vs ++ dvs) H1 Q E
def tMake (C : Addr) (sp : Sp) (dvs : List V) (E : XK) (t : TA) : TE := fun σ H Q => t σ H fun vs H1 => ∀ x dx, H1 x = none → H1 dx = none → dx ≠ x →
  sp (.ref x :: (vs ++ dvs)) (upd (upd H1 dx (.own x)) x (.ins C dx [])) (fun v H2 => v = .non ∧ Q (.ref x) H2) E
def Binds (K : PySem.W.Frag) (fd : FuncData) (ps : List Str) (ds : List Value) : Prop :=
  ∀ (s : Shared) (us : List Value), K.In s.heap → (us ++ ds).length = ps.length → BindsTo s fd ⟨us, []⟩ (ps.zip (us ++ ds))
theorem Binds.all {K : PySem.W.Frag} {fd : FuncData} {ps : List Str} (h : ∀ us : List Value, us.length = ps.length → bindArgs fd ⟨us, []⟩ = pure (ps.zip us)) : Binds K fd ps [] := fun s us _ hl => by
  rw [List.append_nil] at hl ⊢
  exact .of_eq (h us hl)
def Passes (CX : CXT) (X : Cx) (E : XK) : Prop := ∀ (pins : List (Addr × Obj)) (σ : St) (H : Hp) (s : Shared) (e : Value) (s' : Shared), Inv X pins σ H s → CX X.stack H s E e s' → X.xe e s'
section
variable {X : Cx} {CX : CXT} {cm : Bool} {k : Nat} {f C : Addr} {fd : FuncData} {ps : List Str} {sp : Sp} {dvs : List V} {ds : List Value} {E : XK} {x m : Str} {p pos apos : Pos} {e o : Expr} {es : List Expr} {ta : TE} {t : TA}
theorem run_fn {pins : List (Addr × Obj)} {σ : St} {H : Hp} {s : Shared} {Q : VK} {us : List Value} {vs : List V} (F : FnOk X.prog X.w X.K X.mg X.base CX cm k f fd ps sp) (hr : Room cm k X.A) (hb : Binds X.K fd ps ds) (hd : Vals dvs ds) (hx : Passes CX X E)
    (I : Inv X pins σ H s) (r : Vals vs us) (h : sp (vs ++ dvs) H Q E) : wpAny (model X.prog X.w) X.A (call (.ref f) us) (EP X pins σ Q) X.xe s := by
  have r2 : Vals (vs ++ dvs) (us ++ ds) := r.append hd
  have hl : (us ++ ds).length = ps.length := by rw [← r2.length]; exact F.len _ _ _ _ h
  refine wpAny_call (codeAny_mono (F.run X.A X.stack s H ⟨us, []⟩ (us ++ ds) (vs ++ dvs) Q E hr I.env0 (hb s us I.kIn hl) r2 h) fun r s' hq => ?_)
  cases r with
  | error e => exact hx pins σ H s e s' I hq
  | ok fl =>
    cases fl with
    | ret u => exact I.after hq
    | next => exact False.elim hq
    | brk => exact False.elim hq
    | cont => exact False.elim hq
theorem pe_call (F : FnOk X.prog X.w X.K X.mg X.base CX cm k f fd ps sp) (hr : Room cm k X.A) (hg : Gl X x) (hm : X.mg x = some (.ref f)) (hk : PySem.W.keepIn X.K (.ref f) = true) (hb : Binds X.K fd ps ds) (hd : Vals dvs ds) (hx : Passes CX X E)
    (ha : PA X (e :: es) t) (hdb : (x == ("__debug__" : Str)) = false := by decide) (he : starEach (e :: es) X.env = (false, eval e X.env) :: starEach es X.env := by rfl) (hpl : (backTo pos (starEach es X.env)).any (·.1) = false := by rfl) :
    PE X (.Call (.Name x p) (e :: es) [] pos) (tCall sp dvs E t) := by
  intro pins s σ H Q I h
  refine wpAny_Call_Name_kw (ld_glob I hg hm ?_ hdb)
  refine PySem.W.callWith_K (h₀ := X.base) I.ok.mod.kin hk (thn (ha pos pins s σ H _ I h) fun us s1 ⟨vs, H1, I1, r, q⟩ => ⟨I1.kIn, ?_⟩) he hpl
  exact run_fn F hr hb hd hx I1 r q
structure Mk (K : PySem.W.Frag) (C f : Addr) : Prop where
  makes : PySem.W.makesIn K C = true
  init : PySem.W.findIn K (.ref C) "__init__" = some (some (.ref f))
  fn : PySem.W.isFn K (.ref f) = true
  kp : PySem.W.keepIn K (.ref C) = true
theorem run_make {pins : List (Addr × Obj)} {σ : St} {H : Hp} {s : Shared} {Q : VK} {us : List Value} {vs : List V} (M : Mk X.K C f) (F : FnOk X.prog X.w X.K X.mg X.base CX cm k f fd ps sp) (hr : Room cm (k + 1) X.A) (hb : Binds X.K fd ps ds) (hd : Vals dvs ds)
    (hx : Passes CX X E) (I : Inv X pins σ H s) (r : Vals vs us)
    (h : ∀ x dx, H x = none → H dx = none → dx ≠ x → sp (.ref x :: (vs ++ dvs)) (upd (upd H dx (.own x)) x (.ins C dx [])) (fun v H2 => v = .non ∧ Q (.ref x) H2) E) :
    wpAny (model X.prog X.w) X.A (call (.ref C) us) (EP X pins σ Q) X.xe s := by
  have hq := h (s.heap.objs.size + 1) s.heap.objs.size (I.hok.fresh (Nat.le_succ _)) (I.hok.fresh (Nat.le_refl _)) (Nat.ne_of_lt (Nat.lt_succ_self _))
  have I2 := Inv.made (C := C) I
  have r2 : Vals (V.ref (s.heap.objs.size + 1) :: (vs ++ dvs)) (Value.ref (s.heap.objs.size + 1) :: (us ++ ds)) := .cons rfl (r.append hd)
  have hl : (Value.ref (s.heap.objs.size + 1) :: us ++ ds).length = ps.length := by
    have e := r2.length
    rw [F.len _ _ _ _ hq] at e
    exact e.symm
  refine wpAny_call (make_map (f := f) I.kIn M.makes M.init (beq_iff_eq.mp M.fn) (codeAny_mono (F.run _ X.stack _ _ ⟨Value.ref (s.heap.objs.size + 1) :: us, []⟩ (Value.ref (s.heap.objs.size + 1) :: (us ++ ds)) _ _ E (hr.make C us [])
    (I2.env0.make C us []) (hb _ (Value.ref (s.heap.objs.size + 1) :: us) I2.kIn hl) r2 hq) fun r s' hq' => ?_))
  cases r with
  | error e => exact hx pins σ _ _ e s' I2 hq'
  | ok fl =>
    cases fl with
    | ret u =>
      obtain ⟨v, H', I3, rv, ev, q3⟩ := I2.after hq'
      subst ev
      exact ⟨rv, ⟨V.ref (s.heap.objs.size + 1), H', I3, rfl, q3⟩⟩
    | next => exact False.elim hq'
    | brk => exact False.elim hq'
    | cont => exact False.elim hq'
theorem pe_make (M : Mk X.K C f) (F : FnOk X.prog X.w X.K X.mg X.base CX cm k f fd ps sp) (hr : Room cm (k + 1) X.A) (hg : Gl X x) (hm : X.mg x = some (.ref C)) (hb : Binds X.K fd ps ds) (hd : Vals dvs ds) (hx : Passes CX X E)
    (ha : PA X (e :: es) t) (hdb : (x == ("__debug__" : Str)) = false := by decide) (he : starEach (e :: es) X.env = (false, eval e X.env) :: starEach es X.env := by rfl) (hpl : (backTo pos (starEach es X.env)).any (·.1) = false := by rfl) :
    PE X (.Call (.Name x p) (e :: es) [] pos) (tMake C sp dvs E t) := by
  intro pins s σ H Q I h
  refine wpAny_Call_Name_kw (ld_glob I hg hm ?_ hdb)
  refine PySem.W.callWith_K (h₀ := X.base) I.ok.mod.kin M.kp (thn (ha pos pins s σ H _ I h) fun us s1 ⟨vs, H1, I1, r, q⟩ => ⟨I1.kIn, ?_⟩) he hpl
  exact run_make M F hr hb hd hx I1 r q
end
section
variable {X : Cx} {CX : CXT} {cm : Bool} {k : Nat} {f C : Addr} {fd : FuncData} {ps ks : List Str} {sp : Sp} {E : XK} {x m : Str} {p pos apos kpos : Pos} {e o : Expr} {es : List Expr} {kws : List Keyword} {te ta : TE} {t tk : TA} {nm : Option Str}
structure KBinds (K : PySem.W.Frag) (fd : FuncData) (ps ks : List Str) (g : List Value → List Value → List Value) (gV : List V → List V → List V) : Prop where
  to : ∀ (s : Shared) (us ws : List Value), K.In s.heap → (g us ws).length = ps.length → BindsTo s fd ⟨us, ks.zip ws⟩ (ps.zip (g us ws))
  rel : ∀ {vs : List V} {us : List Value} {zs : List V} {ws : List Value}, Vals vs us → Vals zs ws → Vals (gV vs zs) (g us ws)
variable {g : List Value → List Value → List Value} {gV : List V → List V → List V}
end
structure FnScope (N P : List Str) (sc : Scope) : Prop where
  kind : sc.kind = .function
  co : sc.isCoroutine = false
  gen : sc.isGenerator = false
  nd : N.Nodup
  pre : N.take P.length = P
  par : ∀ x ∈ P, sc.names.lookup x = some .local ∨ sc.names.lookup x = some .cell
  nofree : ∀ y ∈ sc.names, y.2 ≠ .free
theorem bindL_out {kindOf : Str → Option NameKind} {x : Str} : ∀ {binds : List (Str × Value)} {m : Str → Option Value}, (∀ v, (x, v) ∉ binds) → bindL kindOf binds m x = m x
  | [], _, _ => rfl
  | (n, v) :: r, m, h => by
    unfold bindL
    rw [bindL_out fun w hw => h w (List.mem_cons_of_mem _ hw)]
    split
    · have : x ≠ n := by rintro rfl; exact h v List.mem_cons_self
      simp [this]
    · rfl
theorem bindC_out {kindOf : Str → Option NameKind} {x : Str} : ∀ {binds : List (Str × Value)} {m : Str → Option Value}, (∀ v, (x, v) ∉ binds) → bindC kindOf binds m x = m x
  | [], _, _ => rfl
  | (n, v) :: r, m, h => by
    unfold bindC
    rw [bindC_out fun w hw => h w (List.mem_cons_of_mem _ hw)]
    split
    · rfl
    · have : x ≠ n := by rintro rfl; exact h v List.mem_cons_self
      simp [this]
theorem bindL_get {kindOf : Str → Option NameKind} {x : Str} {v : Value} : ∀ {P : List Str} {vs : List Value} {i : Nat} {m : Str → Option Value}, P.Nodup → P[i]? = some x → vs[i]? = some v → kindOf x = some .local →
    bindL kindOf (P.zip vs) m x = some v
  | [], _, _, _, _, h, _, _ => by simp at h
  | _ :: _, [], _, _, _, _, h, _ => by simp at h
  | p :: P, w :: vs, 0, m, nd, h1, h2, hk => by
    simp at h1 h2; subst h1; subst h2
    show bindL kindOf ((p, w) :: P.zip vs) m p = _
    unfold bindL
    rw [bindL_out fun v hv => (List.nodup_cons.mp nd).1 (List.of_mem_zip hv).1, if_pos hk]
    simp
  | p :: P, w :: vs, i + 1, m, nd, h1, h2, hk => by
    show bindL kindOf ((p, w) :: P.zip vs) m x = _
    unfold bindL
    exact bindL_get (i := i) (List.nodup_cons.mp nd).2 (by simpa using h1) (by simpa using h2) hk
theorem bindC_get {kindOf : Str → Option NameKind} {x : Str} {v : Value} : ∀ {P : List Str} {vs : List Value} {i : Nat} {m : Str → Option Value}, P.Nodup → P[i]? = some x → vs[i]? = some v → kindOf x ≠ some .local →
    bindC kindOf (P.zip vs) m x = some v
  | [], _, _, _, _, h, _, _ => by simp at h
  | _ :: _, [], _, _, _, _, h, _ => by simp at h
  | p :: P, w :: vs, 0, m, nd, h1, h2, hk => by
    simp at h1 h2; subst h1; subst h2
    show bindC kindOf ((p, w) :: P.zip vs) m p = _
    unfold bindC
    rw [bindC_out fun v hv => (List.nodup_cons.mp nd).1 (List.of_mem_zip hv).1, if_neg hk]
    simp
  | p :: P, w :: vs, i + 1, m, nd, h1, h2, hk => by
    show bindC kindOf ((p, w) :: P.zip vs) m x = _
    unfold bindC
    exact bindC_get (i := i) (List.nodup_cons.mp nd).2 (by simpa using h1) (by simpa using h2) hk
def start (N : List Str) (vs : List V) : St := vs.map some ++ List.replicate (N.length - vs.length) none
def cxOf (CX : CXT) (cm : Bool) (P : Program) (w : World) (K : PySem.W.Frag) (mg : Str → Option Value) (base : Heap) (N : List Str) (qual : Str) (scope : Scope) (f : Addr) (cd : Value) (A : Around) (outer : List Env) (s : Shared) (H : Hp) (E : XK) : Cx where
  prog := P
  w := w
  K := K
  mg := mg
  base := base
  A := A.deeper (envOfC qual scope s.heap.objs.size f cd)
  N := N
  s₀ := s
  H₀ := H
  env := envOfC qual scope s.heap.objs.size f cd
  outer := outer
  stack := envOfC qual scope s.heap.objs.size f cd :: outer
  ex := []
  calm := cm
  fn := fun _ => true
  pn := []
  xe := fun e s' => wpAny (model P w) (A.deeper (envOfC qual scope s.heap.objs.size f cd)) (leaving (envOfC qual scope s.heap.objs.size f cd) e) (fun _ s'' => CX outer H s E e s'') (fun e' s'' => CX outer H s E e' s'') s'
theorem cell_has {sc : Scope} {n : Nat} {x : Str} (h : sc.names.lookup x = some .cell) : ∃ c, (cellsFrom n sc.names []).lookup x = some c := by
  have q := PySem.W.cellsFrom_some sc.names n [] (.inl h)
  exact Option.isSome_iff_exists.mp q
theorem inv_start {cm : Bool} {CX : CXT} {P : Program} {w : World} {K : PySem.W.Frag} {mg : Str → Option Value} {base : Heap} {N ps : List Str} {qual : Str} {scope : Scope} {f : Addr} {cd : Value} {A : Around} {outer : List Env} {s s1 : Shared} {H : Hp} {E : XK} {us : List Value} {vs : List V}
    (S : FnScope N ps scope) (hd : cm = true → A.handled = none) (e0 : Env0 P w K mg base A outer s H) (hl : vs.length = ps.length) (r : Vals vs us)
    (x : InCallC s s.heap.objs.size (bindL (envOfC qual scope s.heap.objs.size f cd).kindOf (ps.zip us) fun _ => none) (cellsFrom (s.heap.objs.size + 1) scope.names []) (bindC (envOfC qual scope s.heap.objs.size f cd).kindOf (ps.zip us) fun _ => none) s1) :
    Inv (cxOf CX cm P w K mg base N qual scope f cd A outer s H E) [] (start N vs) H s1 := by
  have hpl : ps.length ≤ N.length := by have := congrArg List.length S.pre; rw [List.length_take] at this; omega
  obtain ⟨h1, tk, rfl, hk⟩ := x.done
  have noA : ∀ b : Addr, b ∉ (cxOf CX cm P w K mg base N qual scope f cd A outer s H E).ex := fun b z => absurd (show b ∈ ([] : List Addr) from z) (by simp)
  refine ⟨⟨e0.mod, S.kind, rfl, rfl, Nat.le_refl _, fun y z c h1 h2 => ?_, fun y hy => ?_, fun y c _ h => ?_, hd, Around.frames_deeper e0.frames, .inr ⟨rfl, rfl⟩, fun b z => absurd z (noA b), e0.bs, e0.bsz, fun b _ _ => noA b, fun b z => absurd z (noA b), e0.funs, e0.frf⟩,
    rfl, e0.bare, Un.kept hk, ⟨_, x.toInCall.ns, fun i y v h1 h2 h3 => ?_⟩, fun y c h => ⟨_, x.cell y c h⟩, e0.hok.fresh (Nat.le_refl _), fun y c h => ?_, fun p hp => absurd (show p ∈ ([] : List (Addr × Obj)) from hp) (by simp), e0.hok.kept hk, ?_⟩
  · exact name_of_addr x.apart (PySem.mem_of_lookup h1) (PySem.mem_of_lookup h2)
  · have hy : scope.names.lookup y = some .cell ∨ scope.names.lookup y = some .free := hy
    rcases hy with hy | hy
    · exact cell_has hy
    · exact absurd rfl (S.nofree _ (PySem.mem_of_lookup hy))
  · exact Nat.le_of_lt (x.above y c (PySem.mem_of_lookup h))
  · have hi : i < vs.length := by
      unfold start at h2
      by_cases hi : i < vs.length
      · exact hi
      · rw [List.getElem?_append_right (by simpa using hi)] at h2
        rw [List.getElem?_replicate] at h2
        split at h2 <;> cases h2
    have ha : vs[i]? = some v := by
      unfold start at h2
      rw [List.getElem?_append_left (by simpa using hi), List.getElem?_map] at h2
      cases e : vs[i]? with
      | none => rw [e] at h2; cases h2
      | some a => rw [e] at h2; cases h2; rfl
    obtain ⟨u, hu, rv⟩ := r.get ha
    have hp : ps[i]? = some y := by
      rw [← S.pre, List.getElem?_take_of_lt (by omega)]; exact h1
    have ndP : ps.Nodup := by rw [← S.pre]; exact S.nd.sublist (List.take_sublist _ _)
    refine ⟨u, rv, ?_⟩
    rcases S.par y (List.mem_of_getElem? hp) with k | k
    · exact .inl ⟨k, bindL_get ndP hp hu k⟩
    · obtain ⟨c, e⟩ := cell_has (n := s.heap.objs.size + 1) k
      refine .inr ⟨.inl k, c, e, ?_⟩
      have q := x.cell y c e
      rw [bindC_get ndP hp hu (by show scope.names.lookup y ≠ _; rw [k]; decide)] at q
      exact q
  · exact e0.hok.fresh (Nat.le_of_lt (x.above y c (PySem.mem_of_lookup h)))
  · unfold start
    show _ = N.length
    rw [List.length_append, List.length_map, List.length_replicate]
    omega
theorem fn_of {cm : Bool} {CX : CXT} {P : Program} {w : World} {K : PySem.W.Frag} {mg : Str → Option Value} {base : Heap} {k : Nat} {f : Addr} {name qual : Str} {params : Arguments} {body : List Stmt} {scope : Scope} {dV kV doc pm cdv ct oc : Value} {an od : Option Addr}
    {osl : Array (Option Value)} {N ps : List Str} {sp : Sp} (lk : K.lookup f = some ⟨oc, od, .func (PySem.W.fnOf name qual params body scope dV kV doc pm an cdv ct), osl⟩) (hcd : PySem.W.codeIn K cdv qual = true) (S : FnScope N ps scope)
    (len : ∀ vs H Q E, sp vs H Q E → vs.length = ps.length)
    (hbody : ∀ (A : Around) (outer : List Env) (s : Shared) (H : Hp) (vs : List V) (Q : VK) (E : XK), Room cm k (A.deeper (envOfC qual scope s.heap.objs.size f cdv)) → sp vs H Q E →
      ∃ t, PSs (cxOf CX cm P w K mg base N qual scope f cdv A outer s H E) body t ∧ t { nx := fun _ H' => Q .non H', rt := fun _ => Q } (start N vs) H) :
    FnOk P w K mg base CX cm (k + 1) f (PySem.W.fnOf name qual params body scope dV kV doc pm an cdv ct) ps sp := by
  refine ⟨len, fun A outer s H args us vs Q E hr e0 hb r hsp => ?_⟩
  have hl := len _ _ _ _ hsp
  have KX : K.In s.heap := e0.mod.kin.keeps fun b o e => (e0.bs b o e).1
  have lim : s.heap.NoLimit := e0.mod.nolimit.keeps fun b o e => (e0.bs b o e).1
  have hkind : ∀ y ∈ ps.zip us, scope.names.lookup y.1 = some .local ∨ (scope.names.lookup y.1 = some .cell ∧ ((cellsFrom (s.heap.objs.size + 1) scope.names []).lookup y.1).isSome = true) := fun ⟨n, v⟩ hy => by
    rcases S.par n (List.of_mem_zip hy).1 with q | q
    · exact .inl q
    · exact .inr ⟨q, PySem.W.cellsFrom_some _ _ _ (.inl q)⟩
  refine codeAny_call_function hr.depth (KX _ _ lk) rfl S.co S.gen rfl (PySem.W.codeRec_of KX hcd) (hb _ _ _ _ ?_)
  refine wpAny_newFunctionEnv_cells S.kind hkind fun env he s1 x => ?_
  subst he
  refine ⟨lim.keeps x.toInCall.keep, codeAny_func ?_⟩
  obtain ⟨t, ht, hq⟩ := hbody A outer s H vs Q E (hr.deeper _) hsp
  have I : Inv (cxOf CX cm P w K mg base N qual scope f cdv A outer s H E) [] (start N vs) H s1 := inv_start S hr.hd e0 hl r x
  refine wpAny_mono (ht [] s1 (start N vs) H _ I hq) (fun fl s' hs => ?_) fun e s' hs => hs
  have fin : ∀ {σ' : St} {H' : Hp} {v : V} {u : Value}, Inv (cxOf CX cm P w K mg base N qual scope f cdv A outer s H E) [] σ' H' s' → RelV v u → Q v H' → CE outer P w H s Q u s' :=
    fun {σ' H' v u} J rv q => ⟨v, H', J.os, J.bare, J.base, J.hok, rv, q⟩
  cases fl with
  | ret u =>
    obtain ⟨v, σ', H', J, rv, q⟩ := hs
    exact fin J rv q
  | next =>
    obtain ⟨σ', H', J, q⟩ := hs
    exact fin (v := V.non) (u := Value.none) J rfl q
  | brk =>
    obtain ⟨_, _, _, q⟩ := hs
    exact False.elim q
  | cont =>
    obtain ⟨_, _, _, q⟩ := hs
    exact False.elim q
end L2
namespace L2
open PySem PySem.Spec PyProof.Rows
section
variable {X : Cx} {x : Str} {p pos : Pos} {e : Expr} {es : List Expr} {t : TA} {id T : String} {r : List V → Hp → VK → Prop}
def tCB (r : List V → Hp → VK → Prop) (t : TA) : TE := fun σ H Q => t σ H fun vs H1 => r vs H1 Q
theorem pe_callB (hc : CallR X (.builtin id) r) (hg : Gl X x) (hm : X.mg x = none) (hv : bootBuiltins x = some (.builtin id)) (ha : PA X (e :: es) t) (hn : x ≠ "__name__" := by decide) (hdb : (x == ("__debug__" : Str)) = false := by decide)
    (he : starEach (e :: es) X.env = (false, eval e X.env) :: starEach es X.env := by rfl) (hpl : (backTo pos (starEach es X.env)).any (·.1) = false := by rfl) : PE X (.Call (.Name x p) (e :: es) [] pos) (tCB r t) := by
  intro pins s σ H Q I h
  refine wpAny_Call_Name_kw (ld_blt I hg hm hv ?_ hn hdb)
  exact PyProof.Rows.callWith_builtin1 (thn (ha pos pins s σ H _ I h) fun us s1 ⟨vs, H1, I1, r1, q1⟩ => hc pins s1 σ H1 vs us Q I1 r1 q1) he hpl
theorem pe_callTy (hc : CallR X (.type T) r) (hg : Gl X x) (hm : X.mg x = none) (hv : bootBuiltins x = some (.type T)) (ha : PA X (e :: es) t) (hn : x ≠ "__name__" := by decide) (hdb : (x == ("__debug__" : Str)) = false := by decide)
    (he : starEach (e :: es) X.env = (false, eval e X.env) :: starEach es X.env := by rfl) (hpl : (backTo pos (starEach es X.env)).any (·.1) = false := by rfl) : PE X (.Call (.Name x p) (e :: es) [] pos) (tCB r t) := by
  intro pins s σ H Q I h
  refine wpAny_Call_Name_kw (ld_blt I hg hm hv ?_ hn hdb)
  exact PyProof.Rows.callWith_type1 (thn (ha pos pins s σ H _ I h) fun us s1 ⟨vs, H1, I1, r1, q1⟩ => hc pins s1 σ H1 vs us Q I1 r1 q1) he hpl
end
end L2
namespace HT
open PySem PyProof.Rows
section
open PySem.SeqAt
open PySem.AutoSeq1 (wpAny_loadPart')
open PySem.MeetsSeq PySem.MeetsSeq2 PySem.MeetsSeq3
end
section
variable {prog : Program} {w : World} {A : Around} {E : Value → Shared → Prop} {s : Shared}
def sIx (n d : Nat) : Option Int → Nat
  | none => d
  | some v => if v < 0 then (v + (n : Int)).toNat else min v.toNat n
theorem sIx_le (n d : Nat) (hd : d ≤ n) (o : Option Int) : sIx n d o ≤ n := by
  cases o with
  | none => exact hd
  | some v =>
    show (if v < 0 then (v + (n : Int)).toNat else min v.toNat n) ≤ n
    by_cases hv : v < 0
    · rw [if_pos hv]; omega
    · rw [if_neg hv]; exact Nat.min_le_right _ _
theorem clip_eq (v : Int) (n d : Nat) : (if v < 0 then max (v + (n : Int)) 0 else min v (n : Int)) = ((sIx n d (some v) : Nat) : Int) := by
  show (if v < 0 then max (v + (n : Int)) 0 else min v (n : Int)) = (((if v < 0 then (v + (n : Int)).toNat else min v.toNat n) : Nat) : Int)
  by_cases hv : v < 0
  · simp only [if_pos hv]; omega
  · simp only [if_neg hv]; omega
theorem adjust_gen (lo hi : Option Int) (n : Nat) : Builtin.Slice.sliceAdjust lo hi 1 (n : Int) = (((sIx n 0 lo : Nat) : Int), ((sIx n n hi : Nat) : Int)) := by
  have h1 : ¬ ((1 : Int) < 0) := by omega
  unfold Builtin.Slice.sliceAdjust
  simp only [h1, if_false]
  refine Prod.ext ?_ ?_
  · cases lo with
    | none => rfl
    | some v => exact clip_eq v n 0
  · cases hi with
    | none => rfl
    | some v => exact clip_eq v n n
theorem places_gen (i j : Nat) : Builtin.Slice.slicePlaces (i : Int) (j : Int) 1 = j - i := by
  unfold Builtin.Slice.slicePlaces
  have h1 : (1 : Int) > 0 := by omega
  simp only [h1, if_true, Int.ediv_one]
  split <;> omega
theorem slicePart_ {v : Value} {o : Option Int} {Q : Option Int → Shared → Prop} (p : IsPart v o) (h : Q o s) : wpAny (model prog w) A (Builtin.Slice.slicePartIndex v) Q E s := by
  cases p with
  | none => exact slicePart_none h
  | int i t => exact slicePart_int h
theorem sliceApplied_gen {sl : Addr} {vl vu : Value} {lo hi : Option Int} {n : Nat} {Q : Int × Int × Nat → Shared → Prop} (hs : s.heap.IsSliceOf sl vl vu .none) (pl : IsPart vl lo) (pu : IsPart vu hi)
    (h : Q (((sIx n 0 lo : Nat) : Int), 1, sIx n n hi - sIx n 0 lo) s) : wpAny (model prog w) A (Builtin.Slice.sliceApplied (.ref sl) (pure (n : Int))) Q E s := by
  obtain ⟨os, hos, hcs, hds⟩ := id hs
  unfold Builtin.Slice.sliceApplied Builtin.Slice.sliceFields
  refine wpAny_bind (wpAny_bind (wpAny_field hos hds (x := vl) rfl (wpAny_bind (wpAny_field hos hds (x := vu) rfl (wpAny_bind (wpAny_field hos hds (x := .none) rfl (wpAny_pure ?_)))))))
  refine wpAny_bind (slicePart_none ?_)
  show wpAny _ _ (if ((1 : Int) == 0) = true then _ else _) _ _ s
  rw [if_neg (by decide)]
  refine wpAny_bind (slicePart_ pl (wpAny_bind (slicePart_ pu (wpAny_bind (wpAny_pure ?_)))))
  show wpAny _ _ (match Builtin.Slice.sliceAdjust lo hi 1 (n : Int) with | (lo, hi) => pure (lo, (1 : Int), Builtin.Slice.slicePlaces lo hi 1)) _ _ s
  rw [adjust_gen lo hi n]
  show wpAny _ _ (pure (((sIx n 0 lo : Nat) : Int), (1 : Int), Builtin.Slice.slicePlaces ((sIx n 0 lo : Nat) : Int) ((sIx n n hi : Nat) : Int) 1)) _ _ s
  rw [places_gen]
  exact wpAny_pure h
theorem pick_gen (xs : Array Value) (i k : Nat) : ((List.range k).filterMap fun (m : Nat) => xs[((i : Int) + (m : Int) * 1).toNat]?).toArray = ((xs.toList.drop i).take k).toArray := by
  have e : (fun (m : Nat) => xs[((i : Int) + (m : Int) * 1).toNat]?) = fun m => xs[i + m]? := by
    funext m
    have : ((i : Int) + (m : Int) * 1).toNat = i + m := by omega
    rw [this]
  rw [e]
  have := pick_run xs i k
  rw [List.filterMap_map] at this
  have e2 : ((fun x => xs[x]?) ∘ fun x => i + x) = fun m => xs[i + m]? := rfl
  rw [e2] at this
  rw [this]
theorem getItem_tuple_cut {t sl : Addr} {items : Array Value} {vl vu : Value} {lo hi : Option Int} {Q : Value → Shared → Prop} (ht : IsTup s.heap t items) (hs : s.heap.IsSliceOf sl vl vu .none) (pl : IsPart vl lo) (pu : IsPart vu hi)
    (hw : ¬ (sIx items.size 0 lo = 0 ∧ sIx items.size items.size hi = items.size))
    (h : Q (.ref s.heap.objs.size) { s with heap := s.heap.push { cls := .type "tuple", data := .seq ((items.toList.drop (sIx items.size 0 lo)).take (sIx items.size items.size hi - sIx items.size 0 lo)).toArray } })
    (hsz : items.size ≤ sizeLine) : wpAny (model prog w) A (getItem (.ref t) (.ref sl)) Q E s := by
  have htake : sizeOk (.seq ((items.toList.drop (sIx items.size 0 lo)).take (sIx items.size items.size hi - sIx items.size 0 lo)).toArray) := by
    show ((items.toList.drop (sIx items.size 0 lo)).take (sIx items.size items.size hi - sIx items.size 0 lo)).toArray.size ≤ sizeLine
    rw [List.size_toArray, List.length_take, List.length_drop, Array.length_toList]
    omega
  have hj : sIx items.size items.size hi ≤ items.size := sIx_le _ _ (Nat.le_refl _) hi
  obtain ⟨os, hos, hcs, hds⟩ := id hs
  have hTs : s.TypeIs (.ref sl) "slice" := ⟨os, hos, hcs⟩
  unfold getItem
  try with_reducible refine wpAny_holding ?_
  first | refine wpAny_bind (wpAny_pure ?_) | skip
  refine wpAny_bind (wpAny_sequenceKey ht.typeIs (by decide) ?_)
  refine wpAny_bind (wpAny_callSpecial?_slot (name := Str.ofString "__getitem__") ht.typeIs PyProof.Rows.slot_tuple_getitem
    (wpAny_call_entry PyProof.Rows.slot_tuple_getitem ht.typeIs entry_tuple_getitem ?_ (args_tuple_getitem _ _)))
  show wpAny _ _ (Builtin.Tuple.tupleItemsOf (.ref t) >>= _) _ _ s
  refine wpAny_bind (tupleItemsOf_ ht ?_)
  refine wpAny_bind (wpAny_typeOf hTs ?_)
  rw [if_pos (by decide)]
  refine wpAny_bind (sliceApplied_gen hs pl pu ?_)
  have hno : ¬ ((((sIx items.size 0 lo : Nat) : Int) == 0 && (1 : Int) == 1 && (sIx items.size items.size hi - sIx items.size 0 lo) == items.size) = true) := by
    intro q
    rw [Bool.and_eq_true, Bool.and_eq_true] at q
    have q1 : ((sIx items.size 0 lo : Nat) : Int) = 0 := eq_of_beq q.1.1
    have q2 : sIx items.size items.size hi - sIx items.size 0 lo = items.size := eq_of_beq q.2
    exact hw ⟨by omega, by omega⟩
  show wpAny _ _ (if (((sIx items.size 0 lo : Nat) : Int) == 0 && (1 : Int) == 1 && (sIx items.size items.size hi - sIx items.size 0 lo) == items.size) = true then _ else _) _ _ s
  rw [if_neg hno, pick_gen]
  first
    | exact wpAny_bind (m := Builtin.Tuple.tupleExact _) (wpAny_newObj_type (wpAny_pure ⟨_, rfl, wpAny_pure h⟩) htake)
    | exact wpAny_bind (m := Builtin.Tuple.tupleExact _) (wpAny_newObj_type (wpAny_bind (wpAny_pure (wpAny_pure ⟨_, rfl, wpAny_pure h⟩))) htake)
    | exact wpAny_bind (wpAny_bind (m := Builtin.Tuple.tupleExact _) (wpAny_newObj_type (wpAny_pure (wpAny_pure ⟨_, rfl, wpAny_pure h⟩)) htake))
    | exact wpAny_bind (wpAny_bind (m := Builtin.Tuple.tupleExact _) (wpAny_newObj_type (wpAny_pure ⟨_, rfl, wpAny_pure h⟩) htake))
end
end HT
namespace L2
open PySem PySem.Spec PyProof.Rows
abbrev TO := St → Hp → (Option Int → Hp → Prop) → Prop
def PO (X : Cx) (e : Option Expr) (t : TO) : Prop :=
  ∀ (pins : List (Addr × Obj)) (s : Shared) (σ : St) (H : Hp) (Q : Option Int → Hp → Prop), Inv X pins σ H s → t σ H Q →
    wpAny (model X.prog X.w) X.A (evalPart e X.env) (fun u s' => ∃ o H', Inv X pins σ H' s' ∧ IsPart u o ∧ Q o H') X.xe s
def tNoPart : TO := fun _ H Q => Q none H
def tPart (t : TE) : TO := fun σ H Q => t σ H fun x H1 => ∃ i, x = .int i ∧ Q (some i) H1
theorem intsAre_of {ns : List Int} : ∀ {us : List Value}, Vals (ns.map V.int) us → IntsAre us ns := by
  induction ns with
  | nil => intro us r; rw [List.map_nil] at r; cases r; exact .nil
  | cons n ns ih =>
    intro us r
    rw [List.map_cons] at r
    cases r with
    | cons r1 r2 =>
      obtain ⟨t, e⟩ := r1
      subst e
      exact .cons n t (ih r2)
section
variable {X : Cx} {e : Expr} {te : TE} {lo hi : Option Expr} {tl th : TO} {pos p2 : Pos}
theorem po_none : PO X none tNoPart := by
  intro pins s σ H Q I h
  rw [evalPart_none]
  exact wpAny_pure ⟨none, H, I, .none, h⟩
theorem po_some (h : PE X e te) : PO X (some e) (tPart te) := by
  intro pins s σ H Q I hw
  rw [evalPart_some]
  refine thn (h pins s σ H _ I hw) fun u s1 ⟨x, H1, I1, r1, q1⟩ => ?_
  obtain ⟨i, rfl, q⟩ := q1
  obtain ⟨t, rfl⟩ := r1
  exact ⟨some i, H1, I1, .int i t, q⟩
def SlR (X : Cx) (r : V → Option Int → Option Int → Hp → VK → Prop) : Prop :=
  ∀ (pins : List (Addr × Obj)) (s : Shared) (σ : St) (H : Hp) (x : V) (v vl vu : Value) (lo hi : Option Int) (sl : Addr) (Q : VK), Inv X pins σ H s → RelV x v → s.heap.IsSliceOf sl vl vu .none → IsPart vl lo → IsPart vu hi → r x lo hi H Q →
    ∃ T id, typeLookup (.type T) "__getitem__" = pure (some (.builtin id)) ∧ s.TypeIs v T ∧ wpAny (model X.prog X.w) X.A (getItem v (.ref sl)) (EP X pins σ Q) X.xe s
theorem SlR.or {r r' : V → Option Int → Option Int → Hp → VK → Prop} (h : SlR X r) (h' : SlR X r') : SlR X (fun x lo hi H Q => r x lo hi H Q ∨ r' x lo hi H Q) := by
  intro pins s σ H x v vl vu lo hi sl Q I rx hs pl pu q
  rcases q with q | q
  · exact h pins s σ H x v vl vu lo hi sl Q I rx hs pl pu q
  · exact h' pins s σ H x v vl vu lo hi sl Q I rx hs pl pu q
def tSl (r : V → Option Int → Option Int → Hp → VK → Prop) (te : TE) (tl th : TO) : TE := fun σ H Q => te σ H fun x H1 => tl σ H1 fun l H2 => th σ H2 fun u H3 => r x l u H3 Q
theorem pe_slice {r : V → Option Int → Option Int → Hp → VK → Prop} (hr : SlR X r) (he : PE X e te) (hl : PO X lo tl) (hu : PO X hi th) : PE X (.Subscript e (.Slice lo hi none p2) pos) (tSl r te tl th) := by
  intro pins s σ H Q I h
  refine Subscript_ (thn (he pins s σ H _ I h) fun v s1 ⟨x, H1, I1, r1, q1⟩ => ?_)
  refine wpAny_Slice (thn (hl pins s1 σ H1 _ I1 q1) fun vl s2 ⟨l, H2, I2, pl, q2⟩ => thn (hu pins s2 σ H2 _ I2 q2) fun vu s3 ⟨u, H3, I3, pu, q3⟩ => ?_)
  rw [evalPart_none]
  refine wpAny_pure ?_
  have I4 : Inv X pins σ H3 { s3 with heap := s3.heap.push { cls := .type "slice", data := .fields #[vl, vu, .none] } } := I3.kept (t' := s3.toks) fun b ob q => Heap.get?_push_of_some _ q
  obtain ⟨T, id, hT, ht, hg⟩ := hr pins { s3 with heap := s3.heap.push { cls := .type "slice", data := .fields #[vl, vu, .none] } } σ H3 x v vl vu l u s3.heap.objs.size Q I4 r1 (Heap.IsSliceOf.new ..) pl pu q3
  show wpAny (model X.prog X.w) X.A (subscriptTail e (.Slice lo hi none p2) v (.ref s3.heap.objs.size)) (EP X pins σ Q) X.xe { s3 with heap := s3.heap.push { cls := .type "slice", data := .fields #[vl, vu, .none] } }
  exact tail_any (ops := [.ref s3.heap.objs.size, v]) ht hT hg (by with_unfolding_all rfl)
def cutV (xs : List V) (lo hi : Option Int) : List V := (xs.drop (HT.sIx xs.length 0 lo)).take (HT.sIx xs.length xs.length hi - HT.sIx xs.length 0 lo)
theorem cutV_length (xs : List V) (lo hi : Option Int) : (cutV xs lo hi).length ≤ xs.length := by
  unfold cutV
  rw [List.length_take, List.length_drop]
  omega
def rSlT (K : PySem.W.Frag) : V → Option Int → Option Int → Hp → VK → Prop := fun x lo hi H Q => ∃ a xs, x = .ref a ∧ SqT K H a xs ∧
  ¬ (HT.sIx xs.length 0 lo = 0 ∧ HT.sIx xs.length xs.length hi = xs.length) ∧ ∀ p, H p = none → Q (.ref p) (upd H p (.tup (cutV xs lo hi)))
theorem sl_tup : SlR X (rSlT X.K) := by
  intro pins s σ H x v vl vu lo hi sl Q I rx hs pl pu h
  obtain ⟨a, xs, rfl, hx, hw, q⟩ := h
  cases rx
  obtain ⟨its, r, ht, hz⟩ := I.tuple hx
  have hlen : its.toArray.size = xs.length := by rw [List.size_toArray]; exact r.length.symm
  refine ⟨"tuple", _, PyProof.Rows.slot_tuple_getitem.lookup, ht.typeIs, ?_⟩
  refine HT.getItem_tuple_cut ht hs pl pu (by rw [hlen]; exact hw) ?_ (by rw [hlen]; exact hz)
  rw [hlen]
  refine ⟨.ref s.heap.objs.size, _, I.laid (t' := s.toks) (o := .tup (cutV xs lo hi)) (fun b ob q => Heap.get?_push_of_some _ q) (Nat.le_refl _) ?_, rfl, q _ (I.hok.fresh (Nat.le_refl _))⟩
  exact ⟨Nat.le_trans (cutV_length xs lo hi) hz, _, (r.drop (HT.sIx xs.length 0 lo)).take (HT.sIx xs.length xs.length hi - HT.sIx xs.length 0 lo), IsTup.new _ _⟩
end
end L2
namespace L2
open PySem PySem.Spec PyProof.Rows
def ixN (n : Nat) (i : Int) : Option Nat := if 0 ≤ i then (if i < n then some i.toNat else none) else if -(n : Int) ≤ i then some (i + n).toNat else none
def atI {α : Type} (xs : List α) (i : Int) : Option α := (ixN xs.length i).bind fun j => xs[j]?
theorem ixN_seq {n : Nat} {i : Int} {j : Nat} (h : ixN n i = some j) : seqIndex? i n = some j ∧ j < n ∧ -(n : Int) ≤ i ∧ i < n := by
  unfold ixN at h
  by_cases h0 : 0 ≤ i
  · rw [if_pos h0] at h
    by_cases h1 : i < n
    · rw [if_pos h1] at h
      have e : i.toNat = j := Option.some.inj h
      exact ⟨by rw [seqIndex_of h0 h1, e], by omega, by omega, h1⟩
    · rw [if_neg h1] at h; cases h
  · rw [if_neg h0] at h
    by_cases h1 : -(n : Int) ≤ i
    · rw [if_pos h1] at h
      have e : (i + n).toNat = j := Option.some.inj h
      exact ⟨by rw [seqIndex_neg (by omega) h1, e], by omega, h1, by omega⟩
    · rw [if_neg h1] at h; cases h
theorem atI_get {α : Type} {xs : List α} {i : Int} {v : α} (h : atI xs i = some v) : ∃ j, seqIndex? i xs.length = some j ∧ xs[j]? = some v ∧ j < xs.length ∧ -(xs.length : Int) ≤ i ∧ i < xs.length := by
  unfold atI at h
  cases e : ixN xs.length i with
  | none => rw [e] at h; cases h
  | some j =>
    rw [e] at h
    obtain ⟨h1, h2, h3, h4⟩ := ixN_seq e
    exact ⟨j, h1, h, h2, h3, h4⟩
theorem atI_nat {α : Type} {xs : List α} {j : Nat} {v : α} (h : xs[j]? = some v) : atI xs (j : Int) = some v := by
  have hj : j < xs.length := (List.getElem?_eq_some_iff.mp h).1
  have e : ixN xs.length (j : Int) = some j := by
    unfold ixN
    rw [if_pos (by omega), if_pos (by omega)]; simp
  unfold atI; rw [e]; exact h
def PlainIx (b : Expr) : Prop := ∀ o i, subscripted b false o i = operate [o, i] (getItem o i)
def IxR (X : Cx) (r : R2) : Prop :=
  ∀ (value slice : Expr) (pins : List (Addr × Obj)) (s : Shared) (σ : St) (H : Hp) (x y : V) (v u : Value) (Q : VK), Inv X pins σ H s → RelV x v → RelV y u → r x y H Q →
    subscripted slice false v u = operate [v, u] (getItem v u) → wpAny (model X.prog X.w) X.A (subscriptTail value slice v u) (EP X pins σ Q) X.xe s
def MtR (X : Cx) (id : String) (r : V → List V → Hp → VK → Prop) : Prop :=
  ∀ (pins : List (Addr × Obj)) (s : Shared) (σ : St) (H : Hp) (x : V) (xs : List V) (v : Value) (us : List Value) (Q : VK), Inv X pins σ H s → RelV x v → Vals xs us → r x xs H Q →
    wpAny (model X.prog X.w) X.A (call (.builtin id) (v :: us)) (EP X pins σ Q) X.xe s
section
variable {X : Cx} {a b : Expr} {ta tb : TE} {pos : Pos}
theorem IxR.or {r r' : R2} (h : IxR X r) (h' : IxR X r') : IxR X (fun x y H Q => r x y H Q ∨ r' x y H Q) := by
  intro value slice pins s σ H x y v u Q I rx ry q hs
  rcases q with q | q
  · exact h value slice pins s σ H x y v u Q I rx ry q hs
  · exact h' value slice pins s σ H x y v u Q I rx ry q hs
theorem MtR.or {id : String} {r r' : V → List V → Hp → VK → Prop} (h : MtR X id r) (h' : MtR X id r') : MtR X id (fun x xs H Q => r x xs H Q ∨ r' x xs H Q) := by
  intro pins s σ H x xs v us Q I rx rs q
  rcases q with q | q
  · exact h pins s σ H x xs v us Q I rx rs q
  · exact h' pins s σ H x xs v us Q I rx rs q
theorem pe_ix {r : R2} (hr : IxR X r) (ha : PE X a ta) (hb : PE X b tb) (hs : PlainIx b) : PE X (.Subscript a b pos) (tOp r ta tb) := by
  intro pins s σ H Q I h
  exact Subscript_ (binT ha hb I h fun v u s2 x y H2 I2 rx ry q => hr a b pins s2 σ H2 x y v u Q I2 rx ry q (hs _ _))
def rIxL (K : PySem.W.Frag) : R2 := fun x y H Q => ∃ p xs i v, x = .ref p ∧ y = .int i ∧ SqL K H p xs ∧ atI xs i = some v ∧ Q v H
def rIxT (K : PySem.W.Frag) : R2 := fun x y H Q => ∃ p xs i v, x = .ref p ∧ y = .int i ∧ SqT K H p xs ∧ atI xs i = some v ∧ Q v H
theorem ix_list : IxR X (rIxL X.K) := by
  intro value slice pins s σ H x y v u Q I rx ry h hs
  obtain ⟨p, xs, i, z, rfl, rfl, hq, he, q⟩ := h
  cases rx
  obtain ⟨t, rfl⟩ := ry
  obtain ⟨its, r, pl, hz⟩ := I.list hq
  obtain ⟨j, h1, h2, h3, h4, h5⟩ := atI_get he
  obtain ⟨w, ew, rw'⟩ := r.get h2
  have hl := r.length
  have hn := line63
  have fin : EP X pins σ Q w s := ⟨z, H, I, rw', q⟩
  by_cases h0 : 0 ≤ i
  · have hj : i.toNat = j := by
      rw [seqIndex_of h0 h5] at h1
      exact Option.some.inj h1
    exact item_listR pl.isList h0 (by omega) (by rw [hj]; simpa using ew) fin hs
  · have hj : (i + (its.toArray.size : Int)).toNat = j := by
      rw [seqIndex_neg (by omega) h4] at h1
      rw [List.size_toArray, ← hl]
      exact Option.some.inj h1
    exact subscriptTail_builtinR (x := w) pl.isList.typeIs slot_list_getitem.lookup
      (wpAny_getItem_list_neg (Q := fun r s' => r = w ∧ EP X pins σ Q r s') pl.isList (by omega) (by rw [List.size_toArray] <;> omega) (by omega) (by rw [hj]; simpa using ew) ⟨rfl, fin⟩) hs
theorem ix_tup : IxR X (rIxT X.K) := by
  intro value slice pins s σ H x y v u Q I rx ry h hs
  obtain ⟨p, xs, i, z, rfl, rfl, hq, he, q⟩ := h
  cases rx
  obtain ⟨t, rfl⟩ := ry
  obtain ⟨its, r, pl, hz⟩ := I.tuple hq
  obtain ⟨j, h1, h2, h3, h4, h5⟩ := atI_get he
  obtain ⟨w, ew, rw'⟩ := r.get h2
  have hl := r.length
  have hn := line63
  have fin : EP X pins σ Q w s := ⟨z, H, I, rw', q⟩
  exact subscriptTail_builtinR (x := w) pl.typeIs slot_tuple_getitem.lookup
    (getItem_tuple (j := j) (Q := fun r s' => r = w ∧ EP X pins σ Q r s') pl (by omega) (by omega) (by rw [List.size_toArray, ← hl]; exact h1) (by simpa using ew) ⟨rfl, fin⟩) hs
theorem Inv.lst {pins : List (Addr × Obj)} {σ : St} {H : Hp} {s : Shared} {p : Addr} {xs : List V} (I : Inv X pins σ H s) (h : H p = some (.lst xs)) :
    ∃ (its : List Value) (n : Nat), Vals xs its ∧ s.heap.get? p = some { cls := .type "list", data := .seq its.toArray n } ∧ xs.length ≤ sizeLine := by
  obtain ⟨z, its, n, r, e⟩ := I.hok p _ h
  exact ⟨its, n, r, e, z⟩
def flatV : V → Bool
  | .non => true
  | .bl _ => true
  | .int _ => true
  | .str _ => true
  | _ => false
def eqV : V → V → Bool
  | .non, .non => true
  | .bl a, .bl b => a == b
  | .bl a, .int b => (if a then 1 else 0) == b
  | .int a, .bl b => a == (if b then 1 else 0)
  | .int a, .int b => a == b
  | .str a, .str b => a == b
  | _, _ => false
theorem eqAt_V {A : Around} {s : Shared} {y x : V} {u v : Value} (ry : RelV y u) (rx : RelV x v) (fy : flatV y = true) (fx : flatV x = true) : SeqAt.EqAt A s u v (eqV y x) := by
  cases y with
  | non =>
    cases ry
    cases x with
    | non => cases rx; exact SeqAt.EqAt.same _
    | bl b => cases rx; exact SeqAt.EqAt.none_bool b
    | int b => obtain ⟨t, rfl⟩ := rx; exact SeqAt.EqAt.none_int b t
    | str b => obtain ⟨t, rfl⟩ := rx; exact SeqAt.EqAt.none_str b t
    | _ => exact absurd (show false = true from fx) Bool.false_ne_true
  | bl a =>
    cases ry
    cases x with
    | non => cases rx; exact SeqAt.EqAt.bool_none a
    | bl b => cases rx; exact SeqAt.EqAt.bool_bool a b
    | int b => obtain ⟨t, rfl⟩ := rx; exact SeqAt.EqAt.bool_int a b t
    | str b => obtain ⟨t, rfl⟩ := rx; exact SeqAt.EqAt.bool_str a b t
    | _ => exact absurd (show false = true from fx) Bool.false_ne_true
  | int a =>
    obtain ⟨t', rfl⟩ := ry
    cases x with
    | non => cases rx; exact SeqAt.EqAt.int_none a t'
    | bl b => cases rx; exact SeqAt.EqAt.int_bool a t' b
    | int b => obtain ⟨t, rfl⟩ := rx; exact SeqAt.EqAt.int_int a t' b t
    | str b => obtain ⟨t, rfl⟩ := rx; exact SeqAt.EqAt.int_str a t' b t
    | _ => exact absurd (show false = true from fx) Bool.false_ne_true
  | str a =>
    obtain ⟨t', rfl⟩ := ry
    cases x with
    | non => cases rx; exact SeqAt.EqAt.str_none a t'
    | bl b => cases rx; exact SeqAt.EqAt.str_bool a t' b
    | int b => obtain ⟨t, rfl⟩ := rx; exact SeqAt.EqAt.str_int a t' b t
    | str b => obtain ⟨t, rfl⟩ := rx; exact SeqAt.EqAt.str_str a t' b t
    | _ => exact absurd (show false = true from fx) Bool.false_ne_true
  | _ => exact absurd (show false = true from fy) Bool.false_ne_true
def eqU (x : V) (u : Value) : Bool := match u with
  | .none => eqV .non x
  | .bool b => eqV (.bl b) x
  | .int i _ => eqV (.int i) x
  | .str z _ => eqV (.str z) x
  | _ => false
theorem eqU_of {x y : V} {u : Value} (r : RelV y u) (f : flatV y = true) : eqU x u = eqV y x := by
  cases y with
  | non => cases r; rfl
  | bl b => cases r; rfl
  | int i => obtain ⟨t, rfl⟩ := r; rfl
  | str z => obtain ⟨t, rfl⟩ := r; rfl
  | _ => exact absurd (show false = true from f) Bool.false_ne_true
theorem any_eqU {x : V} : ∀ {xs : List V} {us : List Value}, Vals xs us → xs.all flatV = true → us.any (eqU x) = xs.any fun y => eqV y x
  | _, _, .nil, _ => rfl
  | y :: xs, u :: us, .cons r t, f => by
    rw [List.all_cons, Bool.and_eq_true] at f
    rw [List.any_cons, List.any_cons, eqU_of r f.1, any_eqU t f.2]
theorem mem_eqAt {A : Around} {s : Shared} {x : V} {v : Value} (rx : RelV x v) (fx : flatV x = true) : ∀ {xs : List V} {us : List Value}, Vals xs us → xs.all flatV = true → ∀ u ∈ us, SeqAt.EqAt A s u v (eqU x u)
  | _, _, .nil, _ => fun u hu => by cases hu
  | y :: xs, u :: us, .cons r t, f => fun u' hu => by
    rw [List.all_cons, Bool.and_eq_true] at f
    rcases List.mem_cons.mp hu with rfl | hu
    · rw [eqU_of r f.1]; exact eqAt_V r rx f.1 fx
    · exact mem_eqAt rx fx t f.2 u' hu
def inV (x : V) (xs : List V) : Bool := xs.any fun y => eqV y x
def rIn (K : PySem.W.Frag) (neg : Bool) : R2 := fun x y H Q => ∃ p xs, y = .ref p ∧ (SqL K H p xs ∨ SqT K H p xs) ∧ flatV x = true ∧ xs.all flatV = true ∧ Q (.bl (if neg then !inV x xs else inV x xs)) H
theorem op_in_seq : OpR X (compareOp .In) (rIn X.K false) := by
  intro pins s σ H x y v u Q I rx ry h
  obtain ⟨p, xs, rfl, hq, fx, fs, q⟩ := h
  cases ry
  rcases hq with hq | hq
  · obtain ⟨its, r, pl, hz⟩ := I.list hq
    refine SeqAt.in_listAt (eqU x) pl.isList (fun w hw => mem_eqAt rx fx r fs w (by simpa using hw)) ⟨.bl _, H, I, rfl, ?_⟩
    rw [show its.toArray.any (eqU x) = its.any (eqU x) by simp, any_eqU r fs]
    exact q
  · obtain ⟨its, r, pl, hz⟩ := I.tuple hq
    refine SeqAt.in_tupleAt (eqU x) pl (fun w hw => mem_eqAt rx fx r fs w (by simpa using hw)) ⟨.bl _, H, I, rfl, ?_⟩
    rw [show its.toArray.any (eqU x) = its.any (eqU x) by simp, any_eqU r fs]
    exact q
theorem call_len_seq : CallR X (.builtin "len") (fun xs H Q => ∃ p ys, xs = [.ref p] ∧ (SqL X.K H p ys ∨ SqT X.K H p ys) ∧ Q (.int ys.length) H) := by
  intro pins s σ H xs us Q I r h
  obtain ⟨p, ys, rfl, hq, q⟩ := h
  obtain ⟨u, rfl, rx⟩ := vals1 r
  cases rx
  have hn := line63
  rcases hq with hq | hq
  · obtain ⟨its, r', pl, hz⟩ := I.list hq
    have hlen := r'.length
    exact Calls.call_len_list pl.isList (by simp only [List.size_toArray] <;> omega) ⟨.int ys.length, H, I.tok _, ⟨s.toks + 1, by rw [List.size_toArray, hlen]⟩, q⟩
  · obtain ⟨its, r', pl, hz⟩ := I.tuple hq
    have hlen := r'.length
    exact len_tuple pl (by simp only [List.size_toArray] <;> omega) ⟨.int ys.length, H, I.tok _, ⟨s.toks + 1, by rw [List.size_toArray, hlen]⟩, q⟩
theorem CallR.or {f : Value} {r r' : List V → Hp → VK → Prop} (h : CallR X f r) (h' : CallR X f r') : CallR X f (fun xs H Q => r xs H Q ∨ r' xs H Q) := by
  intro pins s σ H xs us Q I rs q
  rcases q with q | q
  · exact h pins s σ H xs us Q I rs q
  · exact h' pins s σ H xs us Q I rs q
theorem call_tuple_of : CallR X (.type "tuple") (fun xs H Q => ∃ p ys, xs = [.ref p] ∧ ((SqL X.K H p ys ∧ ∀ l, H l = none → Q (.ref l) (upd H l (.tup ys))) ∨ (SqT X.K H p ys ∧ Q (.ref p) H))) := by
  intro pins s σ H xs us Q I r h
  obtain ⟨p, ys, rfl, h⟩ := h
  obtain ⟨u, rfl, rx⟩ := vals1 r
  cases rx
  rcases h with ⟨hq, q⟩ | ⟨hq, q⟩
  · obtain ⟨its, r', pl, hz⟩ := I.list hq
    have hlen := r'.length
    refine call_tuple_list pl.isList (fun h' kp => ?_) (by simp only [List.size_toArray] <;> omega)
    have I1 : Inv X pins σ H { s with heap := h' } := I.kept (t' := s.toks) kp
    have I2 : Inv X pins σ (upd H h'.objs.size (.tup ys)) { s with heap := h'.push { cls := .type "tuple", data := .seq its.toArray } } :=
      I1.laid (t' := s.toks) (fun b o e => Heap.get?_push_of_some _ e) (Nat.le_refl _) (show ObjOk X.prog X.w _ _ _ (.tup ys) from ⟨hz, its, r', IsTup.new _ _⟩)
    exact ⟨.ref h'.objs.size, _, I2, rfl, q _ (I1.hok.fresh (Nat.le_refl _))⟩
  · obtain ⟨its, r', pl, hz⟩ := I.tuple hq
    exact call_tuple_same pl ⟨.ref p, H, I, rfl, q⟩
def tyV (K : PySem.W.Frag) (T : String) (x : V) (H : Hp) : Prop := match x with
  | .str _ => T = "str"
  | .int _ => T = "int"
  | .ref p => (T = "list" ∧ ∃ xs, SqL K H p xs) ∨ (T = "tuple" ∧ ∃ o, K.lookup p = some o ∧ o.cls = .type "tuple" ∧ o.dict = none) ∨
      (T = "dict" ∧ ((∃ kvs, H p = some (.dK kvs)) ∨ ∃ kvs, H p = some (.dT kvs))) ∨ (T = "set" ∧ ∃ S n, H p = some (.set S n))
  | _ => False
theorem tyV_is {pins : List (Addr × Obj)} {σ : St} {H : Hp} {s : Shared} {T : String} {x : V} {v : Value} (I : Inv X pins σ H s) (r : RelV x v) (ty : tyV X.K T x H) :
    s.TypeIs v T ∧ ∀ a, v = .ref a → ∃ ob, s.heap.get? a = some ob ∧ ob.dict = none := by
  cases x with
  | str z =>
    obtain ⟨t, rfl⟩ := r
    cases (show T = "str" from ty)
    exact ⟨typeIs_str s z t, fun _ e => nomatch e⟩
  | int i =>
    obtain ⟨t, rfl⟩ := r
    cases (show T = "int" from ty)
    exact ⟨typeIs_int s i t, fun _ e => nomatch e⟩
  | ref p =>
    cases r
    rcases ty with ⟨rfl, xs, hq⟩ | ⟨rfl, o, hk, hc, hd⟩ | ⟨rfl, hk⟩ | ⟨rfl, S, n, hk⟩
    · obtain ⟨its, _, pl, _⟩ := I.list hq
      refine ⟨pl.isList.typeIs, fun a e => ?_⟩
      cases e
      obtain ⟨o, n, e, c, hd, _⟩ := pl
      exact ⟨o, e, hd⟩
    · refine ⟨⟨o, I.kIn p o hk, hc⟩, fun a e => ?_⟩
      cases e
      exact ⟨o, I.kIn _ o hk, hd⟩
    · have z : ∃ o, s.heap.get? p = some o ∧ o.ExactDict := by
        rcases hk with ⟨kvs, hk⟩ | ⟨kvs, hk⟩
        · obtain ⟨_, _, _, _, o, _, _, e, ex, _⟩ := I.hok p _ hk
          exact ⟨o, e, ex⟩
        · obtain ⟨_, _, _, _, o, _, _, e, ex, _⟩ := I.hok p _ hk
          exact ⟨o, e, ex⟩
      obtain ⟨o, e, ex⟩ := z
      refine ⟨⟨o, e, ex.1⟩, fun a e2 => ?_⟩
      cases e2
      exact ⟨o, e, ex.2.1⟩
    · obtain ⟨o, _, _, _, e, ex, _⟩ := I.hok p _ hk
      refine ⟨⟨o, e, ex.1⟩, fun a e2 => ?_⟩
      cases e2
      exact ⟨o, e, ex.2.1⟩
  | _ => exact False.elim ty
def tBM (K : PySem.W.Frag) (T : String) (r : V → List V → Hp → VK → Prop) (to : TE) (t : TA) : TE := fun σ H Q => to σ H fun x H1 => tyV K T x H1 ∧ t σ H1 fun xs H2 => r x xs H2 Q
variable {o e : Expr} {es : List Expr} {to : TE} {t : TA} {name : Str} {apos cpos : Pos} {T id : String} {r : V → List V → Hp → VK → Prop}
theorem pe_bm (pa : PlainAttrs T) (slot : Slot T name id) (hty : typeOf (.builtin id) = pure (.type "method_descriptor")) (hm : MtR X id r) (ho : PE X o to) (ha : PA X (e :: es) t)
    (hbase : attributeBase o name X.env (eval o X.env) = eval o X.env := by rfl)
    (hfew : ((backTo cpos (starEach (e :: es) X.env)).all (fun x => !x.1) && (backToKw cpos (keywordEach [] X.env)).all (fun x => x.1.isSome)
      && decide ((e :: es).length + ([] : List Keyword).length + (if ([] : List Keyword).isEmpty then 0 else 1) < 30)) = true := by rfl)
    (hline : (apos.endLine == cpos.line) = true := by rfl) (hs : starEach (e :: es) X.env = (false, eval e X.env) :: starEach es X.env := by rfl) (hplain : (backTo cpos (starEach es X.env)).any (·.1) = false := by rfl) :
    PE X (.Call (.Attribute o name apos) (e :: es) [] cpos) (tBM X.K T r to t) := by
  intro pins s σ H Q I h
  refine wpAny_Call_method_late hbase hfew hline rfl (thn (ho pins s σ H _ I h) fun v s1 ⟨x, H1, I1, r1, ty, q1⟩ => ?_)
  obtain ⟨h1, h2⟩ := tyV_is I1 r1 ty
  refine ⟨T, id, pa, slot, hty, h1, h2, ?_⟩
  have hA := ha cpos pins s1 σ H1 _ I1 q1
  rw [hs] at hA ⊢
  refine Calls.callWith_builtin (by show (false || (backTo cpos (starEach es X.env)).any (·.1)) = false; rw [hplain] <;> rfl) (Calls.evalArgs_plain ?_)
  exact thn hA fun us s2 ⟨vs, H2, I2, r2, q2⟩ => hm pins s2 σ H2 x vs v us Q I2 r1 r2 q2
end
end L2
namespace L2
open PySem PySem.Spec PyProof.Rows
def MtM (X : Cx) (id : String) (r : V → List V → Hp → VK → Prop) : Prop :=
  ∀ (pins : List (Addr × Obj)) (s : Shared) (σ : St) (H : Hp) (x : V) (xs : List V) (v : Value) (us : List Value) (Q : VK), Inv X pins σ H s → RelV x v → Vals xs us → r x xs H Q →
    wpAny (model X.prog X.w) X.A (call (.builtin id) (v :: us)) (EP X pins σ Q) X.xe s
theorem Vals.one : ∀ {x : V} {us : List Value}, Vals [x] us → ∃ u, us = [u] ∧ RelV x u
  | _, _, .cons r .nil => ⟨_, rfl, r⟩
theorem Vals.two : ∀ {x y : V} {us : List Value}, Vals [x, y] us → ∃ u v, us = [u, v] ∧ RelV x u ∧ RelV y v
  | _, _, _, .cons r (.cons q .nil) => ⟨_, _, rfl, r, q⟩
theorem Vals.zero : ∀ {us : List Value}, Vals [] us → us = []
  | _, .nil => rfl
theorem Vals.eraseIdx : ∀ {xs : List V} {us : List Value} (i : Nat), Vals xs us → Vals (xs.eraseIdx i) (us.eraseIdx i)
  | _, _, _, .nil => .nil
  | _, _, 0, .cons _ t => t
  | _, _, i + 1, .cons r t => .cons r (Vals.eraseIdx i t)
theorem Vals.reverse {xs : List V} {us : List Value} (h : Vals xs us) : Vals xs.reverse us.reverse := by
  induction h with
  | nil => exact .nil
  | cons r t ih => rw [List.reverse_cons, List.reverse_cons]; exact Vals.append ih (.cons r .nil)
section
variable {X : Cx} {pins : List (Addr × Obj)} {σ : St} {H : Hp} {s : Shared} {l b : Addr} {xs ys zs : List V}
theorem Inv.lset {its its' : List Value} {n : Nat} {f : Array Value → Array Value} {t' : Nat} (I : Inv X pins σ H s) (hH : H l = some (.lst xs))
    (e : s.heap.get? l = some { cls := .type "list", data := .seq its.toArray n }) (hf : f its.toArray = its'.toArray) (hv : Vals ys its') (hz : ys.length ≤ sizeLine) :
    Inv X pins σ (upd H l (.lst ys)) { s with heap := s.heap.update l (Obj.mapSeq f), toks := t' } := by
  have q := PySem.IsL.update e f
  rw [hf] at q
  refine I.write (x := l) (e := l) (by rw [hH]; exact trivial) (.inl rfl) (fun b' u hb hu => (Heap.get?_update_other s.heap (Obj.mapSeq f) (Ne.symm hb)).trans hu) ⟨_, q⟩ ?_
  exact ⟨hz, its', _, hv, q⟩
theorem Inv.lnew {its : List Value} {t' : Nat} (I : Inv X pins σ H s) (hv : Vals ys its) (hz : ys.length ≤ sizeLine) :
    Inv X pins σ (upd H s.heap.objs.size (.lst ys)) { s with heap := s.heap.push { cls := .type "list", data := .seq its.toArray }, toks := t' } :=
  I.laid (fun _ _ q => Heap.get?_push_of_some _ q) (Nat.le_refl _) ⟨hz, its, 0, hv, Heap.get?_push_size _ rfl⟩
theorem Inv.fresh (I : Inv X pins σ H s) : H s.heap.objs.size = none := I.hok.fresh (Nat.le_refl _)
theorem Inv.lstM (I : Inv X pins σ H s) (hH : H l = some (.lst xs)) : xs.length ≤ sizeLine ∧ ∃ (its : List Value) (n : Nat), Vals xs its ∧ xs.length = its.length ∧ s.heap.get? l = some { cls := .type "list", data := .seq its.toArray n } := by
  obtain ⟨z, its, n, r, e⟩ := I.hok l _ hH
  exact ⟨z, its, n, r, r.length, e⟩
end
section
variable {X : Cx}
def rAppend : V → List V → Hp → VK → Prop := fun x vs H Q => ∃ l xs y, x = .ref l ∧ vs = [y] ∧ H l = some (.lst xs) ∧ xs.length < sizeLine ∧ Q .non (upd H l (.lst (xs ++ [y])))
theorem mt_append : MtM X "list.append" rAppend := by
  intro pins s σ H x vs v us Q I rx rv h
  obtain ⟨l, xs, y, rfl, rfl, hH, hz, q⟩ := h
  cases rx
  obtain ⟨u, rfl, ru⟩ := rv.one
  obtain ⟨z, its, n, r, hl, e⟩ := I.lstM hH
  refine call_meets F.slot_list_append ⟨_, e, rfl⟩ F.entry_list_append (F.args_list_append_2 _ _) (PySem.list_append l its.toArray n u (by rw [List.size_toArray]; omega)) ⟨e, ?_⟩
  refine ⟨.non, _, I.lset (its' := its ++ [u]) hH e (by simp) (r.append (.cons ru .nil)) ?_, rfl, q⟩
  rw [List.length_append, List.length_singleton]
  omega
end
section
variable {prog : Program} {w : World} {A : Around} {E : Value → Shared → Prop} {s : Shared}
end
section
variable {X : Cx}
end
end L2
namespace Att
open PySem PySem.W PySem.Calls PyProof.Rows
theorem ints_of_wellAll {P : Params} {h : Heap} : ∀ (ns : List Int) (vs : List Value), WellAll P h vs (ns.map WData.int) → IntsAre vs ns := by
  intro ns
  induction ns with
  | nil =>
    intro vs w
    rw [List.map_nil] at w
    cases w
    exact .nil
  | cons n ns ih =>
    intro vs w
    rw [List.map_cons] at w
    cases w with
    | cons a b =>
      cases a
      exact .cons _ _ (ih _ b)
theorem script_of {l : OpenLaw} {n : Nat} (hn : l.most = some n) {P : Params} {h : Heap} {args : List WData} {vals : List Value}
    (hpre : l.row.toRowW.claim.pre args = true) (hwl : WellAll P h vals args) :
    ∃ a vs ns, vals = [Value.ref a] ∧ args = [WData.list (ns.map WData.int)] ∧ h.get? a = some { cls := .type "list", data := .seq vs.toArray } ∧ IntsAre vs ns ∧ ns.length ≤ n := by
  have hsh : WShape.hasAll [] args [.list .int] = true := (pre_splitW hpre).1
  have hc : l.pre.holds [] { args := args } = true := (pre_splitW hpre).2
  obtain ⟨d, r, rfl, h1, h2⟩ := hasAllW_cons hsh
  obtain rfl := hasAllW_nil h2
  obtain ⟨xs, rfl, h3⟩ := hasW_list h1
  obtain ⟨ns, rfl⟩ := items_int h3
  have hlen : ns.length ≤ n := by
    unfold OpenLaw.pre at hc
    have h4 : (WTm.not (.lt (.lit (.int (n : Int))) (.len (.arg 0)))).holds [] { args := [.list (ns.map .int)] } = true := by
      have h4 := (holds_andW hc).1
      rw [hn] at h4
      exact h4
    have h5 := condW_of h4 (w_not (w_lt w_lit (w_len_list (w_arg rfl))))
    rw [List.length_map] at h5
    refine Nat.le_of_not_lt fun q => ?_
    have q' : (n : Int) < ((ns.length : Nat) : Int) := by omega
    first
      | (rw [decide_eq_true q'] at h5; exact absurd h5 (by decide))
      | (simp at h5; omega)
  cases hwl with
  | cons w1 w2 =>
    cases w2
    cases w1 with
    | list ho hall => exact ⟨_, _, ns, rfl, rfl, ho, ints_of_wellAll ns _ hall, hlen⟩
theorem post_true (l : OpenLaw) (args : List WData) : l.row.toRowW.claim.post args (.bool true) args = true :=
  postW_of (r := l.row.toRowW) (X := (true == true))
    (show WShape.has [] (.bool true) .bool = true by first | rfl | decide | simp [WShape.has, WShape.arms, WShape.armsAll])
    (show (WTm.eq .res (.lit (.bool true))).value [] { args := args, res := some (.bool true), after := args } = some (.bool (true == true)) from w_eq_bool (w_res rfl) w_lit) rfl
theorem attach_call {l : OpenLaw} {n : Nat} {q : Program} {loose : List Str} {XP : (Str → Option Value) → Heap → Prop} {YP : World → Heap → Prop} {d : DefRec}
    (hn : l.most = some n) (hdf : d.params.defaults = [])
    (call : ∀ (w : World) (s₀ s₁ : Shared) (mg mb : Str → Option Value) (fa : Addr) (o : Obj) (pm cd doc : Value) (a : Addr) (vs : List Value) (ns : List Int),
      Ground q loose [] XP w s₀ mg mb s₁.heap → YP w s₁.heap →
      s₁.heap.get? fa = some o → o.data = .func (docDef d.name d.params d.body d.scope pm cd doc) → s₁.heap.CodeRec cd d.name → mg d.name = some (.ref fa) →
      s₁.heap.get? a = some { cls := .type "list", data := .seq vs.toArray } → IntsAre vs ns → ns.length ≤ n → s₁.gens = #[] →
      codeAny (model l.prog w) callerA (.call (.ref fa) ⟨[.ref a], []⟩) (fun r s' => r = .ok (.ret (.bool true)) ∧ OldK s₁.heap s'.heap ∧ s'.os = s₁.os ∧ AllBare s'.gens) s₁) :
    WalkO q loose XP YP l.row.toRowW d [] (fun f vs => PySem.call f vs) := by
  intro w s₀ s₁ mg mb G Y fa o pm cd doc dV kV ho hd hcd hD hmg hg args vals as hpre hlay hrd hwl hlo
  obtain rfl : dV = .none := Dflts.none hD hdf
  obtain rfl : kV = .none := Dflts.noKw hD
  obtain ⟨a, vs, ns, rfl, rfl, hobj, hints, hlen⟩ := script_of hn hpre hwl
  refine enter_call (codeAny_mono (call w s₀ s₁ mg mb fa o pm cd doc a vs ns G Y ho (fd_plain hd) hcd hmg hobj hints hlen hg) fun r s' hq => ?_)
  obtain ⟨rfl, h2, h3, h4⟩ := hq
  exact ⟨.inl ⟨.bool true, .bool true, [], rfl, fun _ => rfl, .bool true, post_true l _, fun _ => ⟨List.Pairwise.nil, fun _ hm => (nomatch hm)⟩⟩, h2, h3, h4⟩
section
variable {prog : Program} {w : World} {A : Around} {E : Value → Shared → Prop} {s : Shared} {K : Frag}
def ledger (h : Heap) (L d : Addr) : List (Addr × Obj) := (List.range h.objs.size).filterMap fun a => if a = L ∨ a = d then none else (h.get? a).map fun o => (a, o)
end
end Att
namespace L2
open PySem PySem.Spec PyProof.Rows
theorem vals_ints : ∀ {vs : List Value} {ns : List Int}, IntsAre vs ns → Vals (ns.map V.int) vs
  | _, _, .nil => .nil
  | _, _, .cons n t h => .cons ⟨t, rfl⟩ (vals_ints h)
def Only (H : Hp) : Prop := ∀ b, H b = none ∨ ∃ o xs, H b = some (.frz o (.lst xs))
theorem law_call {cm : Bool} {P : Program} {w : World} {K : PySem.W.Frag} {mg mb : Str → Option Value} {CX : CXT} {k : Nat} {fa a : Addr} {fd : FuncData} {x : Str} {sp : Sp} {s₁ : Shared} {vs : List Value} {ns : List Int}
    (KX : K.In s₁.heap) (hns : s₁.heap.Ns mainGlobals mg) (hb : s₁.heap.Ns builtinsNs mb) (hbb : ∀ x : Str, x ≠ "__name__" → mb x = bootBuiltins x) (hlim : s₁.heap.NoLimit) (hg : s₁.gens = #[])
    (ha : s₁.heap.get? a = some { cls := .type "list", data := .seq vs.toArray }) (hi : IntsAre vs ns) (hl : ns.length ≤ sizeLine) (hr : Room cm k callerA)
    (F : ∀ base : Heap, K.In base → base.Ns mainGlobals mg → FnOk P w K mg base CX cm k fa fd [x] sp) (hbind : ∀ (s : Shared) (u : Value), BindsTo s fd ⟨[u], []⟩ [(x, u)])
    (hsp : ∀ H : Hp, Only H → SqL K H a (ns.map V.int) → sp [.ref a] H (fun v _ => v = .bl true) fun _ _ _ => False)
    (hCX : ∀ H e s', CX [] H s₁ (fun _ _ _ => False) e s' → False) :
    codeAny (model P w) callerA (.call (.ref fa) ⟨[.ref a], []⟩) (fun r s' => r = .ok (.ret (.bool true)) ∧ OldK s₁.heap s'.heap ∧ s'.os = s₁.os ∧ AllBare s'.gens) s₁ := by
  have rv := vals_ints hi
  have lenV := hi.length
  -- from an abstract heap in which nothing but the script may be tracked
  have core : ∀ H : Hp, Only H → SqL K H a (ns.map V.int) → HOk P w H s₁.heap → (∀ b, H b ≠ none → b = a) → (H a ≠ none → K.lookup a = none) →
      codeAny (model P w) callerA (.call (.ref fa) ⟨[.ref a], []⟩) (fun r s' => r = .ok (.ret (.bool true)) ∧ OldK s₁.heap s'.heap ∧ s'.os = s₁.os ∧ AllBare s'.gens) s₁ := by
    intro H hO hS hok hA hK
    have base_of : ∀ {b : Addr} {o : Obj}, s₁.heap.get? b = some o → H b = none → (hidT s₁.heap H).get? b = some o := fun e n => hidT_get e n
    have noA : ∀ {b : Addr} {o : Obj} {es : Array DictEntry} {ep : Nat}, s₁.heap.get? b = some o → o.data = .dict es ep → H b = none := fun {b o es ep} e d => by
      cases q : H b with
      | none => rfl
      | some u =>
        have e' : b = a := hA b (by rw [q]; simp)
        subst e'
        rw [ha] at e; cases e
        have d' : Data.seq vs.toArray _ = Data.dict es ep := d
        cases d'
    have nsK : ∀ {b : Addr} {m : Str → Option Value}, s₁.heap.Ns b m → (hidT s₁.heap H).Ns b m := fun {b m} ⟨o, es, ep, e, d, r⟩ => ⟨o, es, ep, base_of e (noA e d), d, r⟩
    have hKb : K.In (hidT s₁.heap H) := fun b o e => base_of (KX b o e) (by
      cases q : H b with
      | none => rfl
      | some u =>
        have e' : b = a := hA b (by rw [q]; simp)
        subst e'
        rw [hK (by rw [q]; simp)] at e; cases e)
    have hM : Mod K mg (hidT s₁.heap H) := ⟨hKb, nsK hns, ⟨mb, nsK hb, hbb⟩, let ⟨mc, h1, h2⟩ := hlim; ⟨mc, nsK h1, h2⟩⟩
    have e0 : Env0 P w K mg (hidT s₁.heap H) callerA [] s₁ H := ⟨rfl, hM, fun b o e => of_hidT e, Nat.le_of_eq (hidT_size _ _), trivial, fun b hb => absurd (show b ∈ ([] : List Addr) from hb) (by simp), hok, .of_eq hg⟩
    refine codeAny_mono ((F _ hKb (nsK hns)).run callerA [] s₁ H ⟨[.ref a], []⟩ [.ref a] [.ref a] _ _ hr e0 (hbind s₁ (.ref a)) (.cons rfl .nil) (hsp H hO hS)) fun r s' h => ?_
    cases r with
    | error e => exact (hCX H e s' h).elim
    | ok fl =>
      cases fl with
      | next => exact False.elim h
      | brk => exact False.elim h
      | cont => exact False.elim h
      | ret u =>
        obtain ⟨v, H', os, bare, un, hok', r', q⟩ := h
        have q' : v = .bl true := q
        subst q'
        obtain rfl : u = Value.bool true := r'
        refine ⟨rfl, OldK.of_keep fun b o e => ?_, os, bare⟩
        cases q : H b with
        | none => exact un.keep b o e q (by intro z; exact absurd (show b ∈ ([] : List Addr) from z) (by simp)) (by simp)
        | some u =>
          rcases hO b with z | ⟨ob, xs, z⟩
          · rw [q] at z; cases z
          · have z2 := un.frzs b ob _ z
            obtain ⟨e1, _⟩ := hok b _ z
            obtain ⟨e2, _⟩ := hok' b _ z2
            rw [e] at e1; cases e1
            exact e2
  cases hk : K.lookup a with
  | some o =>
    -- the script is one of the module's own objects
    have e := KX a o hk
    rw [ha] at e
    cases e
    refine core (fun _ => none) (fun _ => .inl rfl) (.inr ⟨_, vs.toArray, _, hk, rfl, rfl, rfl, by rw [List.size_toArray, lenV]; exact hl, by simpa using rv⟩) (fun b u z => by have z' : (none : Option HO) = some u := z; cases z') (fun b z => absurd rfl z) fun z => absurd rfl z
  | none =>
    refine core (fun b => if b = a then some (.frz { cls := .type "list", data := .seq vs.toArray } (.lst (ns.map V.int))) else none) (fun b => ?_) (.inl (.inr ⟨{ cls := .type "list", data := .seq vs.toArray }, if_pos rfl⟩)) (fun b u z => ?_) (fun b z => ?_) fun _ => hk
    · by_cases hb : b = a
      · exact .inr ⟨_, _, if_pos hb⟩
      · exact .inl (if_neg hb)
    · by_cases hb : b = a
      · have z' := (if_pos hb).symm.trans z
        cases z'
        subst hb
        exact ⟨ha, by rw [List.length_map]; exact hl, vs, _, rv, ha⟩
      · have z' := (if_neg hb).symm.trans z
        cases z'
    · by_cases hb : b = a
      · exact hb
      · exact absurd (if_neg hb) z
end L2
namespace L2
open PySem PySem.Spec PyProof.Rows
abbrev KOf {K : PySem.W.Frag} {h : Heap} (_ : K.In h) : PySem.W.Frag := K
theorem walk_of {cm : Bool} {l : PySem.W.OpenLaw} {n k : Nat} {q : Program} {loose : List Str} {XP : (Str → Option Value) → Heap → Prop} {YP : World → Heap → Prop} {d : DefRec} {K : Params → PySem.W.Frag} {CX : World → CXT} {sp : World → Sp} {x : Str}
    (hn : l.most = some n) (hn2 : n ≤ sizeLine) (hdf : d.params.defaults = []) (hr : Room cm k callerA)
    (hY : ∀ (w : World) (h : Heap), YP w h → (K w.params).In h)
    (F : ∀ (w : World) (mg : Str → Option Value) (fa : Addr) (h : Heap), (K w.params).In h → h.Ns mainGlobals mg → mg d.name = some (.ref fa) →
      ∃ fd : FuncData, (∀ (s : Shared) (u : Value), BindsTo s fd ⟨[u], []⟩ [(x, u)]) ∧
        ∀ base : Heap, (K w.params).In base → base.Ns mainGlobals mg → FnOk l.prog w (K w.params) mg base (CX w) cm k fa fd [x] (sp w))
    (hsp : ∀ (w : World) (H : Hp) (a : Addr) (ns : List Int), ns.length ≤ n → Only H → SqL (K w.params) H a (ns.map V.int) → sp w [.ref a] H (fun v _ => v = .bl true) fun _ _ _ => False)
    (hCX : ∀ (w : World) (H : Hp) (s : Shared) (e : Value) (s' : Shared), CX w [] H s (fun _ _ _ => False) e s' → False) :
    PySem.W.WalkO q loose XP YP l.row.toRowW d [] (fun f vs => PySem.call f vs) := by
  refine Att.attach_call hn hdf fun w s₀ s₁ mg mb fa o pm cd doc a vs ns G Y ho hd hcd hmg hobj hints hlen hg => ?_
  have KX := hY w _ Y
  obtain ⟨fd, hb, hF⟩ := F w mg fa _ KX G.T.g hmg
  exact law_call KX G.T.g G.T.b G.T.builtins G.T.nolimit hg hobj hints (Nat.le_trans hlen hn2) hr hF hb (fun H hO hS => hsp w H a ns hlen hO hS) fun H e s' => hCX w H s₁ e s'
end L2
namespace L2
open PySem PySem.Spec PyProof.Rows
def inClass (s : Stmt) (j : Nat) : Stmt := match s with
  | .ClassDef _ _ _ body _ _ _ _ _ _ _ => body.getD j (.Pass ⟨0, 0, 0, 0⟩)
  | _ => .Pass ⟨0, 0, 0, 0⟩
def defArgs (s : Stmt) : Arguments := match s with
  | .FunctionDef _ a _ _ _ _ _ _ _ _ => a
  | _ => { posonlyargs := [], args := [], vararg := none, kwonlyargs := [], kw_defaults := [], kwarg := none, defaults := [] }
def defBody (s : Stmt) : List Stmt := match s with
  | .FunctionDef _ _ b _ _ _ _ _ _ _ => b
  | _ => []
def defScope (s : Stmt) : Scope := match s with
  | .FunctionDef _ _ _ _ _ _ sc _ _ _ => sc
  | _ => { kind := .function, names := [], isGenerator := false, isCoroutine := false }
abbrev CX0 : CXT := fun _ _ _ _ _ _ => False
abbrev E0 : XK := fun _ _ _ => False
theorem pass0 {X : Cx} : Passes CX0 X E0 := fun _ _ _ _ _ _ _ h => h.elim
structure Fun (K : PySem.W.Frag) (x qual : Str) (st : Stmt) (f : Addr) (fd : FuncData) : Prop where
  ex : ∃ (oc : Value) (od : Option Addr) (kV doc pm : Value) (an : Option Addr) (cdv ct : Value) (osl : Array (Option Value)),
    fd = PySem.W.fnOf x qual (defArgs st) (defBody st) (defScope st) .none kV doc pm an cdv ct ∧ K.lookup f = some ⟨oc, od, .func fd, osl⟩ ∧ PySem.W.codeIn K cdv qual = true
  kp : PySem.W.keepIn K (.ref f) = true
section
variable {P : Program} {w : World} {K : PySem.W.Frag} {mg : Str → Option Value} {base : Heap}
theorem Fun.ok {cm : Bool} {x qual : Str} {st : Stmt} {f : Addr} {fd : FuncData} {N ps : List Str} {k : Nat} {sp : Sp} (F : Fun K x qual st f fd) (S : FnScope N ps (defScope st)) (len : ∀ vs H Q E, sp vs H Q E → vs.length = ps.length)
    (hbody : ∀ (cdv : Value) (A : Around) (outer : List Env) (s : Shared) (H : Hp) (vs : List V) (Q : VK) (E : XK), Room cm k (A.deeper (envOfC qual (defScope st) s.heap.objs.size f cdv)) → sp vs H Q E →
      ∃ t, PSs (cxOf CX0 cm P w K mg base N qual (defScope st) f cdv A outer s H E).nox (defBody st) t ∧ t { nx := fun _ H' => Q .non H', rt := fun _ => Q } (start N vs) H) : FnOk P w K mg base CX0 cm (k + 1) f fd ps sp := by
  obtain ⟨oc, od, kV, doc, pm, an, cdv, ct, osl, rfl, lk, hcd⟩ := F.ex
  refine fn_of lk hcd S len fun A outer s H vs Q E hr hsp => ?_
  obtain ⟨t, h, q⟩ := hbody cdv A outer s H vs Q E hr hsp
  exact ⟨t, h.nox, q⟩
theorem Fun.binds {x qual : Str} {st : Stmt} {f : Addr} {fd : FuncData} {ps : List Str} (F : Fun K x qual st f fd)
    (h : ∀ (kV doc pm : Value) (an : Option Addr) (cdv ct : Value) (us : List Value), us.length = ps.length → bindArgs (PySem.W.fnOf x qual (defArgs st) (defBody st) (defScope st) .none kV doc pm an cdv ct) ⟨us, []⟩ = pure (ps.zip us)) : Binds K fd ps [] := by
  obtain ⟨oc, od, kV, doc, pm, an, cdv, ct, osl, rfl, lk, hcd⟩ := F.ex
  exact .all (h kV doc pm an cdv ct)
theorem fun_mk {x qual : Str} {st : Stmt} {f : Addr} {oc : Value} {od an : Option Addr} {osl : Array (Option Value)} {kV doc pm cdv ct : Value} (l : K.lookup f = some ⟨oc, od, .func (PySem.W.fnOf x qual (defArgs st) (defBody st) (defScope st) .none kV doc pm an cdv ct), osl⟩)
    (c : PySem.W.codeIn K cdv qual = true) (k : PySem.W.keepIn K (.ref f) = true) : Fun K x qual st f (PySem.W.fnOf x qual (defArgs st) (defBody st) (defScope st) .none kV doc pm an cdv ct) := ⟨⟨oc, od, kV, doc, pm, an, cdv, ct, osl, rfl, l, c⟩, k⟩
end
section
variable {X : Cx}
theorem pv (i : Nat) {x : Str} {pos : Pos} (hN : X.N[i]? = some x := by rfl) (hv : Vis X.env.scope x := by first | exact Or.inl rfl | exact Or.inr (Or.inl rfl) | exact Or.inr (Or.inr rfl)) (hd : (x == ("__debug__" : Str)) = false := by decide)
    (hcd : (x == ("__classdict__" : Str)) = false := by decide) : PE X (.Name x pos) (tVar i) := pe_var hN hv hd hcd
end
theorem iteF {A B : Prop} (h : B) : if false = true then A else B := by
  rw [if_neg Bool.false_ne_true]
  exact h
theorem iteT {A B : Prop} (h : A) : if true = true then A else B := by
  rw [if_pos rfl]
  exact h
theorem ite2 {c A B : Prop} [Decidable c] (h1 : c → A) (h2 : ¬ c → B) : if c then A else B := by
  by_cases h : c
  · rw [if_pos h]
    exact h1 h
  · rw [if_neg h]
    exact h2 h
theorem iteNS {c A B : Prop} [Decidable c] (hc : c) (h : B) : if (!decide c) = true then A else B := by
  rw [decide_eq_true hc]
  exact iteF h
def Same (H H' : Hp) : Prop := ∀ b o, H b = some o → H' b = some o
theorem Same.refl (H : Hp) : Same H H := fun _ _ h => h
theorem Same.trans {H H1 H2 : Hp} (a : Same H H1) (b : Same H1 H2) : Same H H2 := fun c o h => b c o (a c o h)
theorem Same.free {H H' : Hp} (e : Same H H') {l : Addr} (h : H' l = Option.none) : H l = Option.none := by
  cases q : H l with
  | none => rfl
  | some o =>
    rw [e l o q] at h
    cases h
theorem Same.seq {K : PySem.W.Frag} {H H' : Hp} {a : Addr} {xs : List V} (e : Same H H') (h : SqL K H a xs) : SqL K H' a xs := by
  rcases h with (h | ⟨o, h⟩) | h
  · exact .inl (.inl (e _ _ h))
  · exact .inl (.inr ⟨o, e _ _ h⟩)
  · exact .inr h
end L2
namespace L2
open PySem PySem.Spec PyProof.Rows
def clOf (env : Env) : List (Str × NameKind) → List (Str × Addr) → List (Str × Addr)
  | [], acc => acc
  | (n, k) :: r, acc => if k == .free then clOf env r ((n, (env.cells.lookup n).getD 0) :: acc) else clOf env r acc
theorem clOf_old {env : Env} {x : Str} {c : Addr} : ∀ {ns : List (Str × NameKind)} {acc : List (Str × Addr)}, (∃ c, acc.lookup x = some c) → ∃ c, (clOf env ns acc).lookup x = some c
  | [], _, h => h
  | (n, k) :: r, acc, h => by
    unfold clOf
    split
    · refine clOf_old (c := c) ?_
      obtain ⟨c', e⟩ := h
      rw [List.lookup_cons]
      cases q : x == n
      · exact ⟨c', e⟩
      · exact ⟨_, rfl⟩
    · exact clOf_old (c := c) h
theorem clOf_has {env : Env} {x : Str} : ∀ {ns : List (Str × NameKind)} {acc : List (Str × Addr)}, (x, NameKind.free) ∈ ns → ∃ c, (clOf env ns acc).lookup x = some c
  | (n, k) :: r, acc, h => by
    unfold clOf
    rcases List.mem_cons.mp h with e | h
    · cases e
      rw [if_pos (by rfl)]
      exact clOf_old (c := 0) ⟨_, by rw [List.lookup_cons, beq_self_eq_true]⟩
    · split
      · exact clOf_has h
      · exact clOf_has h
theorem clOf_of {env : Env} {x : Str} {c : Addr} : ∀ {ns : List (Str × NameKind)} {acc : List (Str × Addr)}, (∀ y ∈ ns, y.2 = .free → ∃ d, env.cells.lookup y.1 = some d) → (∀ y d, acc.lookup y = some d → env.cells.lookup y = some d) →
    (clOf env ns acc).lookup x = some c → env.cells.lookup x = some c
  | [], _, _, ha, h => ha _ _ h
  | (n, k) :: r, acc, hn, ha, h => by
    unfold clOf at h
    have hr : ∀ y ∈ r, y.2 = .free → ∃ d, env.cells.lookup y.1 = some d := fun y hy => hn y (List.mem_cons_of_mem _ hy)
    split at h
    · rename_i hk
      have hk' : k = .free := by simpa using hk
      obtain ⟨d, hd⟩ := hn (n, k) List.mem_cons_self hk'
      refine clOf_of hr (fun y d' hy => ?_) h
      rw [List.lookup_cons] at hy
      cases q : y == n
      · rw [q] at hy
        exact ha y d' hy
      · rw [q] at hy
        have e : y = n := by simpa using q
        subst e
        have hd' : env.cells.lookup y = some d := hd
        rw [hd'] at hy
        rw [hd']
        exact hy
    · exact clOf_of hr ha h
theorem mem_of_lookup_str {x : Str} {k : NameKind} : ∀ {ns : List (Str × NameKind)}, ns.lookup x = some k → (x, k) ∈ ns
  | (n, j) :: r, h => by
    rw [List.lookup_cons] at h
    cases q : x == n
    · rw [q] at h
      exact List.mem_cons_of_mem _ (mem_of_lookup_str h)
    · rw [q] at h
      have e : x = n := by simpa using q
      subst e
      cases h
      exact List.mem_cons_self
def cxComp (X : Cx) (N : List Str) (scope : Scope) (C : Addr) (s : Shared) (H : Hp) (fp : List Addr) : Cx where
  prog := X.prog
  w := X.w
  K := X.K
  mg := X.mg
  base := X.base
  A := X.A
  N := N
  s₀ := s
  H₀ := H
  env := compEnvC scope (clOf X.env scope.names []) C X.env
  outer := X.stack
  stack := X.stack
  ex := fp
  fn := fun _ => false
  calm := X.calm
  pn := []
  xe := fun _ _ => False
def capOk (sc scope : Scope) (N0 : List Str) : List (Option Nat) → List Str → Bool
  | [], _ => true
  | none :: r, _ :: n => capOk sc scope N0 r n
  | some j :: r, x :: n => decide (N0[j]? = some x) && decide (scope.names.lookup x = some .free) && decide (sc.names.lookup x = some .cell) && capOk sc scope N0 r n
  | _ :: _, [] => false
theorem capOk_get {sc scope : Scope} {N0 : List Str} : ∀ {cap : List (Option Nat)} {N : List Str} {i j : Nat}, capOk sc scope N0 cap N = true → cap[i]? = some (some j) →
    ∃ x, N[i]? = some x ∧ N0[j]? = some x ∧ scope.names.lookup x = some .free ∧ sc.names.lookup x = some .cell
  | [], _, _, _, _, e => by simp at e
  | o :: _, [], _, _, h, _ => by cases o <;> simp [capOk] at h
  | o :: r, y :: n, 0, j, h, e => by
    simp at e
    subst e
    unfold capOk at h
    simp only [Bool.and_eq_true, decide_eq_true_eq] at h
    exact ⟨y, rfl, h.1.1.1, h.1.1.2, h.1.2⟩
  | o :: r, y :: n, i + 1, j, h, e => by
    have h' : capOk sc scope N0 r n = true := by
      cases o with
      | none => exact h
      | some k =>
        unfold capOk at h
        simp only [Bool.and_eq_true] at h
        exact h.2
    obtain ⟨x, a, b⟩ := capOk_get (i := i) (j := j) h' (by simpa using e)
    exact ⟨x, by simpa using a, b⟩
structure CompScope (sc scope : Scope) (N0 N : List Str) (cap : List (Option Nat)) : Prop where
  kind : scope.kind = .function
  cell : ∀ y ∈ scope.names, y.2 ≠ .cell
  names : ∀ y ∈ scope.names, y.2 = .local → scope.names.lookup y.1 = some .local
  free : ∀ y ∈ scope.names, y.2 = .free → sc.names.lookup y.1 = some .cell
  nd : N.Nodup
  len : cap.length = N.length
  cap : capOk sc scope N0 cap N = true
def capt (cap : List (Option Nat)) (σ : St) : St := cap.map fun o => match o with
  | none => none
  | some j => (σ[j]?).join
theorem relabel_free {scope : Scope} {env : Env} (hk : env.scope.kind = .function) (hf : ∀ y ∈ scope.names, y.2 = .free → env.kindOf y.1 = some .cell) {x : Str} (h : scope.names.lookup x = some .free) :
    (relabel scope env).names.lookup x = some .cell := by
  have all : ∀ (ns : List (Str × NameKind)), (∀ y ∈ ns, y.2 = .free → env.kindOf y.1 = some .cell) → ns.lookup x = some .free →
      (ns.map fun (n, k) => if (k == .free && env.scope.kind == .function && env.kindOf n == some .cell) then (n, NameKind.cell) else (n, k)).lookup x = some .cell := by
    intro ns
    induction ns with
    | nil => intro _ h; simp at h
    | cons y r ih =>
      obtain ⟨n, k⟩ := y
      intro hf h
      rw [List.map_cons]
      rw [List.lookup_cons] at h
      cases q : x == n
      · rw [q] at h
        have := ih (fun y hy => hf y (List.mem_cons_of_mem _ hy)) h
        show List.lookup x ((if (k == .free && env.scope.kind == .function && env.kindOf n == some .cell) = true then (n, NameKind.cell) else (n, k)) :: _) = _
        split <;> (rw [List.lookup_cons, q]; exact this)
      · rw [q] at h
        cases h
        have e := hf (n, .free) List.mem_cons_self rfl
        show List.lookup x ((if (NameKind.free == .free && env.scope.kind == .function && env.kindOf n == some .cell) = true then (n, NameKind.cell) else (n, NameKind.free)) :: _) = _
        rw [if_pos (by rw [hk, e]; rfl), List.lookup_cons, q]
  exact all scope.names hf h
theorem relabel_back {scope : Scope} {env : Env} {x : Str} (hc : ∀ y ∈ scope.names, y.2 ≠ .cell) (h : (relabel scope env).names.lookup x = some .cell ∨ (relabel scope env).names.lookup x = some .free) : (x, NameKind.free) ∈ scope.names := by
  have all : ∀ (ns : List (Str × NameKind)), (∀ y ∈ ns, y.2 ≠ .cell) →
      (∀ k, (k = NameKind.cell ∨ k = NameKind.free) → (ns.map fun (n, k) => if (k == .free && env.scope.kind == .function && env.kindOf n == some .cell) then (n, NameKind.cell) else (n, k)).lookup x = some k → (x, NameKind.free) ∈ ns) := by
    intro ns
    induction ns with
    | nil => intro _ k _ h; simp at h
    | cons y r ih =>
      obtain ⟨n, j⟩ := y
      intro hc k hk h
      rw [List.map_cons] at h
      have hr : ∀ y ∈ r, y.2 ≠ NameKind.cell := fun y hy => hc y (List.mem_cons_of_mem _ hy)
      change List.lookup x ((if (j == .free && env.scope.kind == .function && env.kindOf n == some .cell) = true then (n, NameKind.cell) else (n, j)) :: _) = some k at h
      split at h
      · rename_i hj
        rw [Bool.and_eq_true, Bool.and_eq_true] at hj
        have hj' : j = .free := by simpa using hj.1.1
        subst hj'
        rw [List.lookup_cons] at h
        cases q : x == n
        · rw [q] at h
          exact List.mem_cons_of_mem _ (ih hr k hk h)
        · have e : x = n := by simpa using q
          subst e
          exact List.mem_cons_self
      · rw [List.lookup_cons] at h
        cases q : x == n
        · rw [q] at h
          exact List.mem_cons_of_mem _ (ih hr k hk h)
        · rw [q] at h
          cases h
          have e : x = n := by simpa using q
          subst e
          rcases hk with z | z
          · exact absurd z (hc (x, j) List.mem_cons_self)
          · rw [z]; exact List.mem_cons_self
  rcases h with h | h
  · exact all scope.names hc _ (.inl rfl) h
  · exact all scope.names hc _ (.inr rfl) h
section
variable {X : Cx} {pins : List (Addr × Obj)} {σ : St} {H : Hp} {s : Shared} {h₁ : Heap} {scope : Scope} {N : List Str} {cap : List (Option Nat)} {fp : List Addr} {t' : Nat}
theorem comp_start (S : CompScope X.env.scope scope X.N N cap) (I : Inv X pins σ H s) (hf : ∀ b ∈ fp, FpOk X pins H b) (hlt : ∀ b ∈ fp, b < s.heap.objs.size)
    (hns : h₁.Ns s.heap.objs.size (fun x => ([] : List (Str × Value)).reverse.lookup x)) (keep : ∀ b o, s.heap.get? b = some o → h₁.get? b = some o) :
    Inv (cxComp X N scope s.heap.objs.size s H fp) [] (capt cap σ) H { s with heap := h₁, toks := t' } := by
  have hkf : ∀ y ∈ scope.names, y.2 = .free → X.env.kindOf y.1 = some .cell := S.free
  have hcell : ∀ y ∈ scope.names, y.2 = .free → ∃ d, X.env.cells.lookup y.1 = some d := fun y hy e => I.ok.has _ (.inl (hkf y hy e))
  have hcl : ∀ x c, (clOf X.env scope.names []).lookup x = some c → X.env.cells.lookup x = some c := fun x c h => clOf_of hcell (fun y d h => by simp at h) h
  refine ⟨⟨I.ok.mod, S.kind, I.ok.glob, I.ok.blt, Nat.le_refl _, fun x y c h1 h2 => I.ok.inj x y c (hcl x c h1) (hcl y c h2), fun x h => clOf_has (relabel_back S.cell h), (fun x c h => nomatch h), I.ok.hd, I.ok.frames, .inl rfl,
    fun b hb => ⟨Nat.ne_of_lt (hlt b hb), fun x c h => (hf b hb).2.2.2.2.1 x c (hcl x c h)⟩, I.bs, Nat.le_trans I.ok.bsz I.sz, fun b o e hb => ?_, fun b hb h => ?_, I.stack, I.stkFree⟩,
    rfl, I.bare, Un.kept keep, ⟨_, hns, fun i x v e1 e2 e3 => ?_⟩, fun x c h => ?_, I.hok.fresh (Nat.le_refl _), fun x c h => I.freeC x c (hcl x c h), fun p hp => (by simp [cxComp] at hp), I.hok.kept keep, ?_⟩
  · rcases (hf b hb).2.2.2.1 with z | z
    · exact I.ok.noex b o e z
    · exact absurd (Nat.lt_of_lt_of_le (Heap.lt_size (I.ok.bs b o e).1) z) (Nat.lt_irrefl _)
  · rcases List.mem_cons.mp (I.stkSub b h) with z | z
    · exact (hf b hb).2.1 z
    · exact (hf b hb).2.2.1 z
  · have e2' : (capt cap σ)[i]? = some (some v) := e2
    unfold capt at e2'
    rw [List.getElem?_map] at e2'
    cases q : cap[i]? with
    | none => rw [q] at e2'; cases e2'
    | some o =>
      cases o with
      | none => rw [q] at e2'; cases e2'
      | some j =>
        rw [q] at e2'
        obtain ⟨y, n1, n2, n3, n4⟩ := capOk_get S.cap q
        have e1' : N[i]? = some x := e1
        rw [n1] at e1'
        cases e1'
        have ej : σ[j]? = some (some v) := by
          have e3 : (σ[j]?).join = some v := Option.some.inj e2'
          cases r : σ[j]? with
          | none => rw [r] at e3; cases e3
          | some o => rw [r] at e3; rw [show o = some v from e3]
        obtain ⟨m, hn, hl⟩ := I.loc
        obtain ⟨u, ru, l⟩ := hl j x v n2 ej (.inr (.inl n4))
        refine ⟨u, ru, .inr ⟨.inl (relabel_free I.ok.kind hkf n3), ?_⟩⟩
        rcases l with ⟨hk, _⟩ | ⟨_, c, hc, z⟩
        · have n4' : X.env.kindOf x = some .cell := n4
          rw [n4'] at hk; cases hk
        · obtain ⟨c', hc'⟩ := clOf_has (env := X.env) (acc := []) (mem_of_lookup_str n3)
          have := hcl x c' hc'
          rw [hc] at this
          cases this
          exact ⟨c, hc', z.keeps keep⟩
  · obtain ⟨v, z⟩ := I.cell x c (hcl x c h)
    exact ⟨v, z.keeps keep⟩
  · show (capt cap σ).length = N.length
    unfold capt
    rw [List.length_map]
    exact S.len
theorem comp_end {pins' : List (Addr × Obj)} {σ' : St} {H' : Hp} {s' : Shared} {h' : Heap} (I : Inv X pins σ H s) (hf : ∀ b ∈ fp, FpOk X pins H b) (J : Inv (cxComp X N scope s.heap.objs.size s H fp) pins' σ' H' s')
    (sb : Heap.SameBut s.heap.objs.size s'.heap h') : Inv X pins σ H' { s' with heap := h' } := by
  have I1 : Inv X pins σ H' s' := I.call' J.os J.base J.hok J.bare fun b hb => ⟨(hf b hb).2.2.2.1, (hf b hb).2.1, (hf b hb).2.2.2.2.1, (hf b hb).2.2.2.2.2⟩
  have hfree : H' s.heap.objs.size = none := J.free
  refine I1.turned (t' := s'.toks) (it := s.heap.objs.size) (fun b o hb e => (sb.2 b hb).trans e) hfree (Nat.ne_of_gt I.lt) (.inr I.sz) (fun x c h z => ?_) fun p hp z => ?_
  · obtain ⟨v, q⟩ := I.cell x c h
    have := q.lt
    rw [z] at this
    exact Nat.lt_irrefl _ this
  · have := Heap.lt_size (I.pin p hp).1
    rw [z] at this
    exact Nat.lt_irrefl _ this
end
def PIfs (X : Cx) (ifs : List Expr) (t : TT) : Prop :=
  ∀ (pins : List (Addr × Obj)) (s : Shared) (σ : St) (H : Hp) (Q : Bool → Hp → Prop), Inv X pins σ H s → t σ H Q →
    wpAny (model X.prog X.w) X.A (forIn ifs true fun c r => if r = true then do let ok ← isTrue c X.env (eval c X.env); pure (ForInStep.yield ok) else pure (ForInStep.yield r)) (TP X pins σ Q) X.xe s
def tYes : TT := fun _ H Q => Q true H
theorem pf_none {X : Cx} : PIfs X [] tYes := fun pins s σ H Q I h => wpAny_tests_nil ⟨H, I, h⟩
theorem pf_one {X : Cx} {c : Expr} {t : TT} (h : PT X c t) : PIfs X [c] t := fun pins s σ H Q I hq => wpAny_tests_one (h pins s σ H Q I hq)
section
variable {prog : Program} {w : World} {A : Around} {R : Result → Shared → Prop} {s : Shared}
theorem compLoop_gen {elt target iter : Expr} {ifs : List Expr} {scope : Scope} {pos : Pos} {it acc : Value} {env : Env} (I : Nat → Shared → Prop)
    (turn : ∀ n s, I n s → wpAny (model prog w) A (pyNext it) (fun r s₁ => match r with
      | none => R (.ok .next) s₁
      | some v => wpAny (model prog w) A (letOwnedTupleGo target it v) (fun _ s₀ => wpAny (model prog w) A (assign target env v) (fun _ s₂ =>
          wpAny (model prog w) A (forIn ifs true fun c r => if r = true then do let ok ← isTrue c env (eval c env); pure (ForInStep.yield ok) else pure (ForInStep.yield r)) (fun ok s₃ =>
            if ok = true then wpAny (model prog w) A (eval elt env) (fun x s₄ =>
              wpAny (model prog w) A (call (.builtin "list.append") [acc, x]) (fun _ s₅ => ∃ m, m < n ∧ I m s₅) (fun _ _ => False) s₄) (fun _ _ => False) s₃
            else ∃ m, m < n ∧ I m s₃) (fun _ _ => False) s₂) (fun _ _ => False) s₀) (fun _ _ => False) s₁) (fun _ _ => False) s)
    (n : Nat) (h : I n s) : codeAny (model prog w) A (.compLoop (.ListComp elt [⟨target, iter, ifs, 0⟩] scope pos) 0 it acc env) R s := by
  refine codeAny_loop rfl I (fun n s hI => ?_) n h
  show wpAny _ A ((compTurn (.ListComp elt [⟨target, iter, ifs, 0⟩] scope pos) 0 it acc env).onRaise (fun x => do noteFrame x env; theTreesLotGoes x)) _ _ s
  refine wpAny_noted ?_
  rw [compTurn_list]
  refine wpAny_bind (wpAny_standAt (wpAny_bind (wpAny_mono (turn n s hI) (fun r s₁ h₁ => ?_) fun _ _ h' => h'.elim)))
  cases r with
  | none => exact wpAny_pure h₁
  | some v =>
    refine wpAny_bind (wpAny_mono h₁ (fun _ s₀ h₀ => ?_) fun _ _ h' => h'.elim)
    refine wpAny_bind (wpAny_mono h₀ (fun _ s₂ h₂ => wpAny_bind (wpAny_mono h₂ (fun ok s₃ h₃ => ?_) fun _ _ h' => h'.elim)) fun _ _ h' => h'.elim)
    cases ok with
    | false => exact wpAny_pure ⟨rfl, h₃⟩
    | true =>
      exact wpAny_bind (wpAny_bind (wpAny_mono h₃ (fun x s₄ h₄ => wpAny_bind (wpAny_mono h₄ (fun _ s₅ h₅ => wpAny_pure (wpAny_pure ⟨rfl, h₅⟩)) fun _ _ h' => h'.elim)) fun _ _ h' => h'.elim))
end
def compBody (J : It) (H1 : Hp) (cap : List (Option Nat)) (g : TG) (tt : TT) (te : TE) (σ : St) (Q : VK) : Prop := ∀ D, H1 D = none →
  ∃ W : Nat → Nat → List V → St → Hp → Prop, (∃ m, W 0 m [] (capt cap σ) (upd H1 D (.lst []))) ∧ ∀ i m ys σ' H', W i m ys σ' H' → H' D = some (.lst ys) ∧
    ((J.stop i H' ∧ Q (.ref D) H') ∨ (J.go i H' ∧ ∀ x H2, J.yld i H' x H2 → g x σ' H2 fun σ2 H3 => tt σ2 H3 fun b H4 =>
      if b = true then te σ2 H4 fun y H5 => H5 D = some (.lst ys) ∧ ys.length < sizeLine ∧ ∃ m', m' < m ∧ W (i + 1) m' (ys ++ [y]) σ2 (upd H5 D (.lst (ys ++ [y])))
      else ∃ m', m' < m ∧ W (i + 1) m' ys σ2 H4))
def tComp (wi : TI) (cap : List (Option Nat)) (g : TG) (tt : TT) (te : TE) : TE := fun σ H Q => wi σ H fun J H1 => compBody J H1 cap g tt te σ Q
theorem pe_comp {X : Cx} {elt tgt iter : Expr} {ifs : List Expr} {scope : Scope} {pos : Pos} {N : List Str} {cap : List (Option Nat)} {wi : TI} {g : TG} {tt : TT} {te : TE}
    (S : CompScope X.env.scope scope X.N N cap) (hc : X.calm = true) (hi : PI X tgt iter wi)
    (hb : ∀ (C : Addr) (s : Shared) (H : Hp) (fp : List Addr), PG (cxComp X N scope C s H fp) tgt g ∧ PIfs (cxComp X N scope C s H fp) ifs tt ∧ PE (cxComp X N scope C s H fp) elt te)
    (hclos : closureFor scope X.env = pure (clOf X.env scope.names []) := by with_unfolding_all rfl) (hs : ∀ x, foldedSetIterable iter X.env x = pure x := by intro _; rfl) :
    PE X (.ListComp elt [⟨tgt, iter, ifs, 0⟩] scope pos) (tComp wi cap g tt te) := by
  intro pins s σ H Q I h
  rw [eval_ListComp]
  refine wpAny_comprehension_free (use := none) (cl := clOf X.env scope.names []) rfl hs hclos S.kind S.names ?_
  refine thn (hi pins s σ H _ I h) fun v s1 h1 => thn h1 fun itv s2 h2 => ?_
  obtain ⟨it, fp, tn, J, H2, e, I2, T, st2, f2, k⟩ := h2
  subst e
  refine wpAny_newObj_type (wpAny_newFunctionEnv S.cell (by intro y hy; simp at hy) (fun h₁ hns₁ hsb₁ => ?_) S.kind)
  dsimp only at hns₁ hsb₁ ⊢
  have I3 : Inv X pins σ (upd H2 s2.heap.objs.size (.lst [])) { s2 with heap := s2.heap.push { cls := .type "list", dict := none, data := .seq ([] : List Value).toArray } } := I2.lnew (t' := s2.toks) .nil (Nat.zero_le _)
  obtain ⟨W, ⟨m0, w0⟩, turn⟩ := k s2.heap.objs.size I2.fresh
  generalize hD : s2.heap.objs.size = D at *
  generalize hsD : ({ s2 with heap := s2.heap.push { cls := .type "list", dict := none, data := .seq ([] : List Value).toArray } } : Shared) = sD at *
  have hsz : sD.heap.objs.size = D + 1 := by rw [← hsD, ← hD]; exact Heap.size_push ..
  have hheap : s2.heap.push { cls := .type "list", dict := none, data := .seq ([] : List Value).toArray } = sD.heap := by rw [← hsD]
  rw [hheap] at hns₁ hsb₁ ⊢
  have up : ∀ b o, s2.heap.get? b = some o → sD.heap.get? b = some o := fun b o e => by rw [← hheap]; exact Heap.get?_push_of_some _ e
  have keep : ∀ b o, sD.heap.get? b = some o → h₁.get? b = some o := fun b o e => hsb₁.extBut b o (Nat.ne_of_lt (Heap.lt_size e)) (Heap.get?_push_of_some _ e)
  have hfD : D ∉ fp := fun hm => by
    obtain ⟨o, e, _⟩ := T.obj _ _ st2 D hm
    have := Heap.lt_size e
    rw [hD] at this
    exact Nat.lt_irrefl _ this
  have f3 : ∀ b ∈ fp, FpOk X pins (upd H2 D (.lst [])) b := fun b hb => ⟨by rw [upd_ne (fun z => hfD (by rw [← z]; exact hb))]; exact (f2 b hb).1, (f2 b hb).2⟩
  have hlt : ∀ b ∈ fp, b < sD.heap.objs.size := fun b hb => by
    obtain ⟨o, e, _⟩ := T.obj _ _ st2 b hb
    exact Heap.lt_size (up b o e)
  have I4 := comp_start (t' := s2.toks + ([] : List (Str × Value)).length) S I3 f3 hlt hns₁ keep
  obtain ⟨hg, hif, hel⟩ := hb sD.heap.objs.size sD (upd H2 D (.lst [])) fp
  have st4 : tn 0 h₁ := T.keep _ _ _ st2 fun b hb o e => keep b o (up b o e)
  have stat : ∀ {H' : Hp}, (∀ b ∈ fp, H' b = none) → ∀ b ∈ fp, FpOk (cxComp X N scope sD.heap.objs.size sD (upd H2 D (.lst [])) fp) [] H' b := fun hn b hb =>
    ⟨hn b hb, (I4.ok.exf b hb).1, I4.ok.exfs b hb, .inl hb, fun x c h z => (I4.ok.exf b hb).2 x c h z, fun p hp => (by simp [cxComp] at hp)⟩
  have loop : codeAny (model X.prog X.w) X.A (.compLoop (.ListComp elt [⟨tgt, iter, ifs, 0⟩] scope pos) 0 (.ref it) (.ref D) (compEnvC scope (clOf X.env scope.names []) sD.heap.objs.size X.env))
      (compPost (model X.prog X.w) X.A X.xe none (EP X pins σ Q) (.ref D) sD.heap.objs.size) { sD with heap := h₁, toks := s2.toks + ([] : List (Str × Value)).length } := by
    refine compLoop_gen (fun n s' => ∃ i ys σ' H', Inv (cxComp X N scope sD.heap.objs.size sD (upd H2 D (.lst [])) fp) [] σ' H' s' ∧ tn i s'.heap ∧ (∀ b ∈ fp, H' b = none) ∧ W i n ys σ' H') ?_ m0
      ⟨0, [], capt cap σ, _, I4, st4, fun b hb => (f3 b hb).1, w0⟩
    rintro n s5 ⟨i, ys, σ5, H5, I5, st5, fr5, w5⟩
    obtain ⟨hD5, way⟩ := turn i n ys σ5 H5 w5
    rcases way with ⟨stop, q⟩ | ⟨go, step⟩
    · refine thn (T.done (cxComp X N scope sD.heap.objs.size sD (upd H2 D (.lst [])) fp) rfl rfl rfl hc i [] s5 σ5 H5 (fun _ _ => False) I5 (stat fr5) st5 stop) fun r s6 ⟨hr, I6⟩ => ?_
      subst hr
      obtain ⟨m, hn, _⟩ := I6.loc
      exact ⟨m, hn, fun h' sb => ⟨.ref D, H5, comp_end I3 f3 I6 sb, rfl, q⟩⟩
    · refine thn (T.item (cxComp X N scope sD.heap.objs.size sD (upd H2 D (.lst [])) fp) rfl rfl rfl hc i [] s5 σ5 H5 (fun _ _ => False) I5 (stat fr5) st5 go) fun r s6 ⟨u, hr, h6⟩ => ?_
      subst hr
      refine thn h6 fun _ s7 ⟨x, H7, I7, r7, y7, st7, fr7⟩ => ?_
      have I7' := I7.pinned (stat fr7) (T.obj _ _ st7)
      refine thn (hg _ s7 σ5 H7 x u _ I7' r7 (step x H7 y7)) fun _ s8 ⟨σ8, H8, I8, q8⟩ => ?_
      refine thn (hif _ s8 σ8 H8 _ I8 q8) fun b s9 ⟨H9, I9, q9⟩ => ?_
      have back : ∀ {σ' : St} {H' : Hp} {s' : Shared}, Inv (cxComp X N scope sD.heap.objs.size sD (upd H2 D (.lst [])) fp) ([] ++ pinsAt fp s7.heap) σ' H' s' → tn (i + 1) s'.heap ∧ ∀ b ∈ fp, H' b = none := fun {σ' H' s'} J' =>
        ⟨T.keep _ _ _ st7 fun b hb o e => (J'.pin (b, o) (List.mem_append_right _ (List.mem_append_right _ (mem_pinsAt hb e)))).1, fun b hb => by
          obtain ⟨o, e, d⟩ := T.obj _ _ st7 b hb
          exact (J'.pin (b, o) (List.mem_append_right _ (List.mem_append_right _ (mem_pinsAt hb e)))).2.1⟩
      cases b with
      | false =>
        obtain ⟨m', hm, w9⟩ := (show ∃ m', m' < n ∧ W (i + 1) m' ys σ8 H9 from q9)
        exact ⟨m', hm, i + 1, ys, σ8, H9, I9.unpinned, (back I9).1, (back I9).2, w9⟩
      | true =>
        refine thn (hel _ s9 σ8 H9 _ I9 (show te σ8 H9 _ from q9)) fun y s10 ⟨v10, H10, I10, r10, q10⟩ => ?_
        obtain ⟨hD10, hz, m', hm, w10⟩ := q10
        refine thn (mt_append (X := cxComp X N scope sD.heap.objs.size sD (upd H2 D (.lst [])) fp) _ s10 σ8 H10 (.ref D) [v10] (.ref D) [y] (fun _ H' => H' = upd H10 D (.lst (ys ++ [v10]))) I10 rfl (.cons r10 .nil) ⟨D, ys, v10, rfl, rfl, hD10, hz, rfl⟩) fun _ s11 ⟨v11, H11, I11, _, e11⟩ => ?_
        subst e11
        exact ⟨m', hm, i + 1, ys ++ [v10], σ8, _, I11.unpinned, (back I11).1, (back I11).2, w10⟩
  subst hsD
  subst hD
  exact codeAny_compStart_list loop (T.self _ 0 _ _ _ st4 loop)
end L2
namespace L2
open PySem PySem.Spec PyProof.Rows
section
variable {X : Cx} {x : Str} {pos : Pos} {tg : Expr}
theorem pe_globI {i : Int} (hg : Gl X x) (hm : ∃ t, X.mg x = some (.int i t)) (hd : (x == ("__debug__" : Str)) = false := by decide) : PE X (.Name x pos) (tC (.int i)) := by
  obtain ⟨t, e⟩ := hm
  exact pe_glob hg e ⟨t, rfl⟩ hd
theorem pe_globR {a : Addr} (hg : Gl X x) (hm : X.mg x = some (.ref a)) (hd : (x == ("__debug__" : Str)) = false := by decide) : PE X (.Name x pos) (tC (.ref a)) := pe_glob hg hm rfl hd
theorem op_isnotB : OpR X (compareOp .IsNot) (fun x y H Q => ∃ a b, x = .bl a ∧ y = .bl b ∧ Q (.bl (a != b)) H) := by
  intro pins s σ H x y v u Q I rx ry h
  obtain ⟨a, b, rfl, rfl, q⟩ := h
  cases rx; cases ry
  exact isnot_bool ⟨.bl _, H, I, rfl, q⟩
theorem call_isinst : CallR X (.builtin "isinstance") (fun xs H Q => ∃ x T t b, xs = [x, .ty T] ∧ TyOf X.K H x t ∧ PySem.W.kitOne X.K t (.type T) = some b ∧ Q (.bl b) H) := by
  intro pins s σ H xs us Q I r h
  obtain ⟨x, T, t, b, rfl, ty, e, q⟩ := h
  obtain ⟨u, v, rfl, ru, rv⟩ := r.two
  cases rv
  exact isinst_ok I ru ty e fun tk => ⟨.bl b, H, I.tok tk, rfl, q⟩
theorem call_sum (hc : X.calm = true) : CallR X (.builtin "sum") (fun xs H Q => ∃ (p : Addr) (ns : List Int), xs = [.ref p] ∧ SqL X.K H p (ns.map V.int) ∧ Q (.int ns.sum) H) := by
  intro pins s σ H xs us Q I r h
  obtain ⟨p, ns, rfl, hq, q⟩ := h
  obtain ⟨u, rfl, ru⟩ := r.one
  cases ru
  obtain ⟨its, rv, pl, hz⟩ := I.list hq
  have hi := intsAre_of rv
  obtain ⟨xs, hx⟩ := hi.allInts.items
  refine sum_intListG (I.ok.hd hc) (hx ▸ pl.isList) fun h' tk t' hk => ?_
  have e1 : ns = xs.toList.map (·.1) := by
    rw [← nums_intItems, ← hx]
    exact (show numsOf its.toArray.toList = ns from hi.numsOf).symm
  have e2 : preSum (numAt xs) xs.size = ns.sum := by
    rw [preSum_eq, List.take_of_length_le (by simp), e1]
  rw [e2]
  exact ⟨.int _, H, I.kept hk, ⟨_, rfl⟩, q⟩
end
end L2
namespace L2
open PySem PySem.Spec PyProof.Rows
structure FunD (K : PySem.W.Frag) (x qual : Str) (st : Stmt) (f : Addr) (fd : FuncData) : Prop where
  ex : ∃ (oc : Value) (od : Option Addr) (dV kV doc pm : Value) (an : Option Addr) (cdv ct : Value) (osl : Array (Option Value)),
    fd = PySem.W.fnOf x qual (defArgs st) (defBody st) (defScope st) dV kV doc pm an cdv ct ∧ K.lookup f = some ⟨oc, od, .func fd, osl⟩ ∧ PySem.W.codeIn K cdv qual = true
  kp : PySem.W.keepIn K (.ref f) = true
section
variable {P : Program} {w : World} {K : PySem.W.Frag} {mg : Str → Option Value} {base : Heap}
theorem FunD.ok {cm : Bool} {x qual : Str} {st : Stmt} {f : Addr} {fd : FuncData} {N ps : List Str} {k : Nat} {sp : Sp} (F : FunD K x qual st f fd) (S : FnScope N ps (defScope st)) (len : ∀ vs H Q E, sp vs H Q E → vs.length = ps.length)
    (hbody : ∀ (cdv : Value) (A : Around) (outer : List Env) (s : Shared) (H : Hp) (vs : List V) (Q : VK) (E : XK), Room cm k (A.deeper (envOfC qual (defScope st) s.heap.objs.size f cdv)) → sp vs H Q E →
      ∃ t, PSs (cxOf CX0 cm P w K mg base N qual (defScope st) f cdv A outer s H E).nox (defBody st) t ∧ t { nx := fun _ H' => Q .non H', rt := fun _ => Q } (start N vs) H) : FnOk P w K mg base CX0 cm (k + 1) f fd ps sp := by
  obtain ⟨oc, od, dV, kV, doc, pm, an, cdv, ct, osl, rfl, lk, hcd⟩ := F.ex
  exact fn_of lk hcd S len fun A outer s H vs Q E hr h => by
    obtain ⟨t, ht, q⟩ := hbody cdv A outer s H vs Q E hr h
    exact ⟨t, ht.nox, q⟩
theorem funD_mk {x qual : Str} {st : Stmt} {f : Addr} {oc : Value} {od an : Option Addr} {osl : Array (Option Value)} {dV kV doc pm cdv ct : Value} (l : K.lookup f = some ⟨oc, od, .func (PySem.W.fnOf x qual (defArgs st) (defBody st) (defScope st) dV kV doc pm an cdv ct), osl⟩)
    (c : PySem.W.codeIn K cdv qual = true) (k : PySem.W.keepIn K (.ref f) = true) : FunD K x qual st f (PySem.W.fnOf x qual (defArgs st) (defBody st) (defScope st) dV kV doc pm an cdv ct) :=
  ⟨⟨oc, od, dV, kV, doc, pm, an, cdv, ct, osl, rfl, l, c⟩, k⟩
end
end L2
namespace L2
open PySem PySem.Spec PyProof.Rows
def Seq (J : It) (H : Hp) (xs : List V) : Prop := ∀ H', Same H H' → (∀ (i : Nat) x, xs[i]? = some x → J.go i H' ∧ ∀ x' H2, J.yld i H' x' H2 → x' = x ∧ H2 = H') ∧ J.stop xs.length H'
theorem Seq.up {J : It} {H H' : Hp} {xs : List V} (h : Seq J H xs) (s : Same H H') : Seq J H' xs := fun H2 s2 => h H2 (s.trans s2)
theorem seq_range (lo : Int) (n : Nat) (H : Hp) : Seq (Itr lo n) H ((List.range n).map fun (i : Nat) => V.int (lo + (i : Int))) := fun H' _ => by
  refine ⟨fun i x e => ?_, ?_⟩
  · have hi : i < n := by
      have := (List.getElem?_eq_some_iff.mp e).1
      simpa using this
    refine ⟨hi, fun x' H2 hy => ?_⟩
    obtain ⟨e1, e2⟩ := hy
    rw [List.getElem?_map, List.getElem?_range hi] at e
    exact ⟨e2.trans (Option.some.inj e), e1⟩
  · show n ≤ _
    simp
theorem seq_list {K : PySem.W.Frag} {H : Hp} {a : Addr} {xs : List V} (h : SqL K H a xs) : Seq (Itl K a) H xs := fun H' s => by
  have h' := s.seq h
  refine ⟨fun i x e => ⟨⟨xs, x, h', e⟩, fun x' H2 hy => ?_⟩, ⟨xs, h', Nat.le_refl _⟩⟩
  obtain ⟨e1, e2⟩ := hy
  have := e2 xs h'
  rw [e] at this
  exact ⟨(Option.some.inj this).symm, e1⟩
theorem Same.seqT {K : PySem.W.Frag} {H H' : Hp} {a : Addr} {xs : List V} (e : Same H H') (h : SqT K H a xs) : SqT K H' a xs := by
  rcases h with (h | ⟨o, h⟩) | h
  · exact .inl (.inl (e _ _ h))
  · exact .inl (.inr ⟨o, e _ _ h⟩)
  · exact .inr h
theorem seq_tup {K : PySem.W.Frag} {H : Hp} {a : Addr} {xs : List V} (h : SqT K H a xs) : Seq (Itt K a) H xs := fun H' s => by
  have h' := s.seqT h
  refine ⟨fun i x e => ⟨⟨xs, x, h', e⟩, fun x' H2 hy => ?_⟩, ⟨xs, h', Nat.le_refl _⟩⟩
  obtain ⟨e1, e2⟩ := hy
  have := e2 xs h'
  rw [e] at this
  exact ⟨(Option.some.inj this).symm, e1⟩
theorem same_upd {H : Hp} {p : Addr} {o : HO} (h : H p = none) : Same H (upd H p o) := fun b u e => by rw [upd_ne (ne_of_none e h)]; exact e
theorem for_seq {J : It} {xs : List V} {g : TG} {tb : TS} {D : Ends} {σ : St} {H0 H : Hp} (hJ : Seq J H0 xs) (Pv : Nat → St → Hp → Prop) (h0 : Pv 0 σ H) (hsm : ∀ i σ H, i ≤ xs.length → Pv i σ H → Same H0 H)
    (hs : ∀ (i : Nat) x σ H, xs[i]? = some x → Pv i σ H → g x σ H fun σ2 H2 => tb { D with nx := Pv (i + 1), ct := Pv (i + 1), bk := D.nx } σ2 H2) (hd : ∀ σ H, Pv xs.length σ H → D.nx σ H) :
    ∃ W : Nat → Nat → St → Hp → Prop, (∃ m, W 0 m σ H) ∧ ∀ i m σ H, W i m σ H →
      (J.stop i H ∧ D.nx σ H) ∨ (J.go i H ∧ ∃ N : St → Hp → Prop, (∀ σ' H', N σ' H' → ∃ m', m' < m ∧ W (i + 1) m' σ' H') ∧ ∀ x H', J.yld i H x H' → g x σ H' fun σ2 H2 => tb { D with nx := N, ct := N, bk := D.nx } σ2 H2) := by
  refine ⟨fun i m σ H => m = xs.length - i ∧ i ≤ xs.length ∧ Pv i σ H, ⟨xs.length, by simp, Nat.zero_le _, h0⟩, ?_⟩
  rintro i m σ H ⟨rfl, hi, p⟩
  obtain ⟨q1, q2⟩ := hJ H (hsm i σ H hi p)
  by_cases hlt : i < xs.length
  · have e : xs[i]? = some xs[i] := by simp [hlt]
    obtain ⟨go, y⟩ := q1 i _ e
    refine .inr ⟨go, Pv (i + 1), fun σ' H' p' => ⟨xs.length - (i + 1), by omega, rfl, hlt, p'⟩, fun x H' hy => ?_⟩
    obtain ⟨rfl, rfl⟩ := y x H' hy
    exact hs i _ σ _ e p
  · have e : i = xs.length := by omega
    subst e
    exact .inl ⟨q2, hd σ H p⟩
theorem comp_pure {J : It} {cap : List (Option Nat)} {tt : TT} {te : TE} {σ : St} {H1 : Hp} {Q : VK} {xs : List V} (hJ : Seq J H1 xs) (p : V → Bool) (f : V → V) (hsz : xs.length ≤ 100000)
    (hp : ∀ x ∈ xs, ∀ H', Same H1 H' → ∀ R : Bool → Hp → Prop, (∀ H'', Same H' H'' → R (p x) H'') → tt ((capt cap σ).set 0 (some x)) H' R)
    (he : ∀ x ∈ xs, p x = true → ∀ H', Same H1 H' → ∀ R : VK, (∀ H'', Same H' H'' → R (f x) H'') → te ((capt cap σ).set 0 (some x)) H' R)
    (k : ∀ D H', Same H1 H' → H1 D = none → H' D = some (.lst ((xs.filter p).map f)) → Q (.ref D) H') :
    compBody J H1 cap (gName 0) tt te σ Q := by
  intro D hD
  refine ⟨fun i m ys σ' H' => m = xs.length - i ∧ i ≤ xs.length ∧ (∀ v, σ'.set 0 v = (capt cap σ).set 0 v) ∧ H' D = some (.lst ys) ∧ Same H1 H' ∧ ys = ((xs.take i).filter p).map f,
    ⟨xs.length, by simp, Nat.zero_le _, fun _ => rfl, upd_same, same_upd hD, by simp⟩, ?_⟩
  rintro i m ys σ' H' ⟨rfl, hi, hσ, hl, sm, hys⟩
  refine ⟨hl, ?_⟩
  obtain ⟨q1, q2⟩ := hJ H' sm
  by_cases hlt : i < xs.length
  · have e : xs[i]? = some xs[i] := by simp [hlt]
    obtain ⟨go, y⟩ := q1 i _ e
    refine .inr ⟨go, fun x H2 hy => ?_⟩
    obtain ⟨rfl, rfl⟩ := y x H2 hy
    have hm : xs[i] ∈ xs := List.getElem_mem hlt
    have etake : xs.take (i + 1) = xs.take i ++ [xs[i]] := by rw [List.take_add_one, e]; rfl
    show tt (σ'.set 0 (some xs[i])) _ _
    rw [hσ]
    refine hp _ hm _ sm _ fun H4 s4 => ?_
    have hss : ∀ v, ((capt cap σ).set 0 (some xs[i])).set 0 v = (capt cap σ).set 0 v := fun v => by rw [List.set_set]
    cases hb : p xs[i] with
    | false =>
      refine iteF ⟨xs.length - (i + 1), by omega, rfl, hlt, hss, s4 _ _ hl, sm.trans s4, ?_⟩
      rw [etake, List.filter_append, hys]
      simp [hb]
    | true =>
      refine iteT ?_
      refine he _ hm hb _ (sm.trans s4) _ fun H5 s5 => ?_
      have hl5 := s5 _ _ (s4 _ _ hl)
      refine ⟨hl5, ?_, xs.length - (i + 1), by omega, rfl, hlt, hss, upd_same, fun b o eb => ?_, ?_⟩
      · have h1 : ys.length ≤ xs.length := by
          rw [hys, List.length_map]
          exact Nat.le_trans (List.length_filter_le _ _) (List.length_take_le' _ _)
        have h2 : (100000 : Nat) < sizeLine := by decide
        omega
      · rw [upd_ne (ne_of_none eb hD)]
        exact s5 _ _ (s4 _ _ (sm _ _ eb))
      · rw [etake, List.filter_append, hys]
        simp [hb]
  · have e : i = xs.length := by omega
    subst e
    refine .inl ⟨q2, k D _ sm hD ?_⟩
    rw [hl, hys, List.take_length]
end L2
namespace L2
open PySem PySem.Spec PyProof.Rows
section
variable {X : Cx}
end
theorem atI_int {α : Type} {xs : List α} {i : Int} (h0 : 0 ≤ i) (h1 : i < xs.length) : atI xs i = some (xs[i.toNat]'(by omega)) := by
  have := atI_nat (xs := xs) (j := i.toNat) (v := xs[i.toNat]'(by omega)) (by simp)
  rw [show ((i.toNat : Nat) : Int) = i by omega] at this
  exact this
theorem atI_ints {ts : List Int} {i : Int} (h0 : 0 ≤ i) (h1 : i < ts.length) : ∃ t, t ∈ ts ∧ atI (ts.map V.int) i = some (.int t) := by
  refine ⟨ts[i.toNat]'(by omega), List.getElem_mem _, ?_⟩
  rw [atI_int h0 (by simpa using h1)]
  simp
end L2
namespace L2
open PySem PySem.Spec PyProof.Rows
def litOf : Expr → Option V
  | .Constant (.int i) _ _ => some (.int i)
  | .Constant (.str x) _ _ => some (.str x)
  | .Constant (.bool b) _ _ => some (.bl b)
  | .Constant .none _ _ => some .non
  | .UnaryOp .USub (.Constant (.int i) _ _) _ => some (.int (-i))
  | _ => none
def litsOf : List Expr → Option (List V)
  | [] => some []
  | e :: r => match litOf e, litsOf r with
    | some v, some vs => some (v :: vs)
    | _, _ => none
theorem pe_lit {X : Cx} {e : Expr} {v : V} (h : litOf e = some v) : PE X e (tC v) ∧ ∀ es : List Expr, starEach (e :: es) X.env = (false, eval e X.env) :: starEach es X.env := by
  unfold litOf at h
  split at h
  · cases h; exact ⟨pe_int, fun _ => rfl⟩
  · cases h; exact ⟨pe_str, fun _ => rfl⟩
  · cases h; exact ⟨pe_bl, fun _ => rfl⟩
  · cases h; exact ⟨pe_non, fun _ => rfl⟩
  · rename_i i j p q
    cases h
    refine ⟨fun pins s σ H Q I hq => pe_un un_neg pe_int pins s σ H Q I ⟨_, rfl, hq⟩, fun _ => rfl⟩
  · cases h
theorem pa_lits0 {X : Cx} : ∀ {es : List Expr} {vs : List V}, litsOf es = some vs → PA X es (fun _ H Q => Q vs H)
  | [], vs, h => by cases h; exact pa_nil
  | e :: r, vs, h => by
    unfold litsOf at h
    split at h
    · rename_i v ws h1 h2
      cases h
      have p := pe_lit (X := X) h1
      exact pa_cons p.1 (pa_lits0 h2) (p.2 r)
    · cases h
def litsAre (es : List Expr) (vs : List V) : Bool := decide (litsOf es = some vs)
theorem pa_lits {X : Cx} {es : List Expr} (vs : List V) (h : litsAre es vs = true) : PA X es (fun _ H Q => Q vs H) := pa_lits0 (of_decide_eq_true h)
end L2
namespace L2
theorem inV_ints (m : Int) : ∀ ns : List Int, inV (.int m) (ns.map V.int) = decide (m ∈ ns)
  | [] => rfl
  | n :: ns => by
    have ih := inV_ints m ns
    unfold inV at *
    rw [List.map_cons, List.any_cons, ih]
    have e : eqV (.int n) (.int m) = decide (m = n) := by
      show (n == m) = _
      by_cases h : m = n
      · subst h; simp
      · rw [decide_eq_false h]; exact beq_eq_false_iff_ne.mpr (Ne.symm h)
    rw [e, ← Bool.decide_or]
    exact decide_eq_decide.mpr (by rw [List.mem_cons])
end L2
namespace L2
open PySem PySem.Spec PyProof.Rows
theorem HOk.tracked {P : Program} {w : World} {H : Hp} {h h' : Heap} (x : HOk P w H h) (k : ∀ b u o, H b = some u → h.get? b = some o → h'.get? b = some o) : HOk P w H h' := fun a o e =>
  (x a o e).stay (fun b u hb q => by
    rcases hb with hb | hb
    · subst hb; exact k _ _ _ e q
    · exact k _ _ _ hb q) (fun _ q => q) fun _ _ q => q
theorem HOk.there {P : Program} {w : World} {H : Hp} {h : Heap} {b : Addr} {v : HO} (ok : HOk P w H h) (e : H b = some v) : ∃ o', h.get? b = some o' := by
  have := ok b v e
  cases v with
  | lst xs => obtain ⟨_, _, _, _, z⟩ := this; exact ⟨_, z⟩
  | tup xs => obtain ⟨_, _, _, o, z, _⟩ := this; exact ⟨_, z⟩
  | dK kvs => obtain ⟨_, _, _, _, o, _, _, z, _⟩ := this; exact ⟨_, z⟩
  | dT kvs => obtain ⟨_, _, _, _, o, _, _, z, _⟩ := this; exact ⟨_, z⟩
  | set S n => obtain ⟨o, _, _, _, z, _⟩ := this; exact ⟨_, z⟩
  | ins C dx fs => obtain ⟨_, _, _, z, _⟩ := this; exact ⟨_, z⟩
  | own y => exact this
  | xd fs => obtain ⟨_, ⟨_, _, _, z, _⟩, _⟩ := this; exact ⟨_, z⟩
  | rng lo hi => obtain ⟨_, _, _, z⟩ := this; exact ⟨_, z⟩
  | frz ob u => obtain ⟨z, _⟩ := this; exact ⟨_, z⟩
  | tbl ps => exact ⟨_, this⟩
  | met f y => exact ⟨_, this⟩
  | ext φ => exact this.2.1
section
variable {X : Cx} {pins : List (Addr × Obj)} {σ : St} {H H' : Hp} {s : Shared} {h h2 B : Heap}
end
section
variable {cm : Bool} {P : Program} {w : World} {K : PySem.W.Frag} {mg : Str → Option Value} {base : Heap} {N : List Str} {qual : Str} {scope : Scope} {f : Addr} {cd : Value} {A : Around} {outer : List Env} {s : Shared} {H : Hp} {E : XK}
end
section
variable {X : Cx} {E : XK} {x : Str} {C : Addr} {np cpos pos : Pos} {e0 : Expr} {es : List Expr} {t : TA}
end
def Cx.hnd (X : Cx) (e : Value) : Cx := { X with A := X.A.mark (some e), calm := false, xe := fun _ _ => False }
theorem Inv.hnd {X : Cx} {pins : List (Addr × Obj)} {σ : St} {H : Hp} {s : Shared} (I : Inv X pins σ H s) (e : Value) : Inv (X.hnd e) pins σ H s :=
  ⟨⟨I.ok.mod, I.ok.kind, I.ok.glob, I.ok.blt, I.ok.above, I.ok.inj, I.ok.has, I.ok.cab, (fun z => nomatch z), I.ok.frames, I.ok.stk, I.ok.exf, I.ok.bs, I.ok.bsz, I.ok.noex, I.ok.exfs, I.ok.funs, I.ok.frf⟩,
    I.os, I.bare, I.base, I.loc, I.cell, I.free, I.freeC, I.pin, I.hok, I.len⟩
end L2
namespace L2
open PySem PySem.Spec PyProof.Rows
section
variable {X : Cx} {CX : CXT} {cm : Bool} {k : Nat} {f : Addr} {fd : FuncData} {ps : List Str} {sp : Sp} {dvs : List V} {ds : List Value} {E : St → XK} {x : Str} {p pos : Pos} {e : Expr} {es : List Expr} {t : TA}
end
structure Catch (K : PySem.W.Frag) (Cc : Addr) : Prop where
  ty : PySem.W.typeIn K (.ref Cc) = some (.type "type")
  mb : PySem.W.mroIn K Cc (.type "BaseException") = some true
theorem Catch.cls {K : PySem.W.Frag} {Cc : Addr} (c : Catch K Cc) : ∃ cd, PySem.W.clsIn K Cc = some cd := by
  obtain ⟨cd, a, _⟩ := Option.bind_eq_some_iff.mp c.mb
  exact ⟨cd, a⟩
section
variable {X : Cx} {pins pins' : List (Addr × Obj)} {σ : St} {H H' : Hp} {s : Shared} {Eb : Value → Shared → Prop} {h h2 B : Heap}
end
end L2
namespace L2
open PySem PySem.Spec PyProof.Rows
section
variable {X : Cx}
end
end L2
namespace L2
open PySem PySem.Spec PyProof.Rows
section
variable {X : Cx}
end
end L2
namespace L2
open PySem PySem.Spec PySem.Calls PyProof.Rows Builtin Builtin.ObjectAttr Builtin.Getset_descriptor
structure ExC (K : PySem.W.Frag) (C : Addr) : Prop where
  cs : (PySem.W.clsIn K C).isSome = true
  ga : PySem.W.findIn K (.ref C) "__getattribute__" = some (some (.builtin "BaseException.__getattribute__"))
  gn : PySem.W.findIn K (.ref C) "__getattr__" = some none
  ca : PySem.W.findIn K (.ref C) "__class__" = some (some (.builtin "object.__class__"))
  sg : PySem.W.specialIn K (.builtin "object.__class__") "__get__" = some (some (.builtin "getset_descriptor.__get__"))
  tk : PySem.W.takesIn K (.builtin "object.__class__") = some true
  mo : PySem.W.mroIn K C (.type "object") = some true
  mb : PySem.W.mroIn K C (.type "BaseException") = some true
def ExcAt (e C : Addr) (h : Heap) : Prop := ∃ oe, h.get? e = some oe ∧ oe.cls = .ref C
theorem ExcAt.type {M : Model} {e C : Addr} {h : Heap} (p : ExcAt e C h) : PySem.W.Looks M h (typeOf (.ref e)) (.ref C) := by
  obtain ⟨oe, a, b⟩ := p
  exact b ▸ (PySem.W.Looks.ld a).andThen .now
section
variable {prog : Program} {w : World} {K : PySem.W.Frag} {e C : Addr}
end
section
variable {X : Cx}
end
theorem Room.mark {cm : Bool} {k : Nat} {A : Around} (r : Room cm k A) (v : Option Value) : Room false k (A.mark v) := ⟨(fun z => nomatch z), r.dp, r.un⟩
section
variable {X : Cx} {pins pins' : List (Addr × Obj)} {σ : St} {H H' : Hp} {s : Shared} {h h2 B : Heap} {ea C : Addr}
end
end L2
namespace L2
open PySem PySem.Spec PyProof.Rows
section
variable {X : Cx} {K : PySem.W.Frag} (hK : X.K = K)
include hK
theorem ix_tupK : IxR X (rIxT K) := by subst hK; exact ix_tup
theorem ix_listK : IxR X (rIxL K) := by subst hK; exact ix_list
theorem sl_tupK : SlR X (rSlT K) := by subst hK; exact sl_tup
theorem op_in_seqK : OpR X (compareOp .In) (rIn K false) := by subst hK; exact op_in_seq
theorem call_len_seqK : CallR X (.builtin "len") (fun xs H Q => ∃ p ys, xs = [.ref p] ∧ (SqL K H p ys ∨ SqT K H p ys) ∧ Q (.int ys.length) H) := by subst hK; exact call_len_seq
theorem call_tuple_ofK : CallR X (.type "tuple") (fun xs H Q => ∃ p ys, xs = [.ref p] ∧ ((SqL K H p ys ∧ ∀ l, H l = none → Q (.ref l) (upd H l (.tup ys))) ∨ (SqT K H p ys ∧ Q (.ref p) H))) := by subst hK; exact call_tuple_of
theorem call_isinstK : CallR X (.builtin "isinstance") (fun xs H Q => ∃ x T t b, xs = [x, .ty T] ∧ TyOf K H x t ∧ PySem.W.kitOne K t (.type T) = some b ∧ Q (.bl b) H) := by subst hK; exact call_isinst
theorem call_sumK (hc : X.calm = true) : CallR X (.builtin "sum") (fun xs H Q => ∃ (p : Addr) (ns : List Int), xs = [.ref p] ∧ SqL K H p (ns.map V.int) ∧ Q (.int ns.sum) H) := by subst hK; exact call_sum hc
theorem pi_listK {tg l : Expr} {tl : TE} (hl : PE X l tl) : PI X tg l (iList K tl) := by subst hK; exact pi_list hl
theorem pi_tupK {tg l : Expr} {tl : TE} (hl : PE X l tl) : PI X tg l (iTup K tl) := by subst hK; exact pi_tup hl
end
end L2
set_option maxHeartbeats 1000000
namespace L2
open PySem PySem.W PyProof.Rows
section
variable {O : KeyOrd} {key : Nat → O.α} {n : Nat} {cmp : Nat → Nat → (Bool → Shared → Prop) → Shared → Prop} {s : Shared}
def ka {O : KeyOrd} (key : Nat → O.α) (p : Array Nat) (i : Nat) : O.α := key (p.getD i 0)
def Up {O : KeyOrd} (key : Nat → O.α) (p : Array Nat) (k : Nat) : Prop := ∀ i j, i ≤ j → j < k → O.kle (ka key p i) (ka key p j)
def Down {O : KeyOrd} (key : Nat → O.α) (p : Array Nat) (k : Nat) : Prop := ∀ i j, i ≤ j → j < k → O.kle (ka key p j) (ka key p i)
def Rg (n : Nat) (p : Array Nat) : Prop := p.Perm (List.toArray (List.range n))
theorem Rg.size {p : Array Nat} (h : Rg n p) : p.size = n := by rw [Array.Perm.size_eq h]; simp
theorem Rg.at {p : Array Nat} (h : Rg n p) {i : Nat} (hi : i < n) : p.getD i 0 < n := by
  have hz := h.size
  have e : p.getD i 0 = p[i]'(by omega) := by simp [Array.getD, show i < p.size by omega]
  have hm : p[i]'(by omega) ∈ p.toList := by simp
  have := (Array.perm_iff_toList_perm.mp h).mem_iff.mp hm
  simp at this
  omega
theorem Up.more {p : Array Nat} {k : Nat} (h : Up key p k) (hk : O.blt (ka key p k) (ka key p (k - 1)) = false) : Up key p (k + 1) := by
  intro i j hij hj
  by_cases hjk : j < k
  · exact h i j hij hjk
  · obtain rfl : j = k := by omega
    by_cases hi : i = j
    · rw [hi]; exact KeyOrd.kle_refl _
    · exact KeyOrd.kle_trans (h i (j - 1) (by omega) (by omega)) hk
theorem Down.more {p q : Array Nat} {k : Nat} (h : Down key p k) (e : ∀ i, ka key q i = ka key p i) (hk : O.kle (ka key p k) (ka key p (k - 1))) : Down key q (k + 1) := by
  intro i j hij hj
  rw [e, e]
  by_cases hjk : j < k
  · exact h i j hij hjk
  · obtain rfl : j = k := by omega
    by_cases hi : i = j
    · rw [hi]; exact KeyOrd.kle_refl _
    · exact KeyOrd.kle_trans hk (h i (j - 1) (by omega) (by omega))
def Eqs {O : KeyOrd} (key : Nat → O.α) (p : Array Nat) (m q : Nat) : Prop := q + 1 ≤ m ∧ ∀ i, m - (q + 1) ≤ i → i < m → ka key p i = ka key p (m - 1)
theorem Eqs.zero {p : Array Nat} {m : Nat} (h : 1 ≤ m) : Eqs key p m 0 := ⟨by omega, fun i h1 h2 => by rw [show i = m - 1 by omega]⟩
end
abbrev RA := Addr × (Int × Int)
def refs (rs : List RA) : List V := rs.map fun x => V.ref x.1
def RowOk (H : Hp) (rs : List RA) : Prop := ∀ x ∈ rs, H x.1 = some (.tup [.int x.2.1, .int x.2.2])
def TupsH (h : Heap) (rs : List RA) : Prop := ∀ x ∈ rs, ∃ (o : Obj) (t u : Tok) (k : Nat), h.get? x.1 = some o ∧ o.cls = .type "tuple" ∧ o.data = .seq #[.int x.2.1 t, .int x.2.2 u] k
theorem Inv.pair {X : Cx} {pins : List (Addr × Obj)} {σ : St} {H : Hp} {s : Shared} (I : Inv X pins σ H s) {a : Addr} {i j : Int} (h : H a = some (.tup [.int i, .int j])) :
    ∃ (o : Obj) (t u : Tok) (k : Nat), s.heap.get? a = some o ∧ o.cls = .type "tuple" ∧ o.data = .seq #[.int i t, .int j u] k := by
  obtain ⟨its, r, ⟨o, ho, hc, k, hd⟩, _⟩ := I.tuple (SqT.of h)
  cases r with
  | cons r1 r =>
    cases r with
    | cons r2 r =>
      cases r
      obtain ⟨t, rfl⟩ := r1
      obtain ⟨u, rfl⟩ := r2
      exact ⟨o, t, u, k, ho, hc, hd⟩
theorem Inv.tups {X : Cx} {pins : List (Addr × Obj)} {σ : St} {H : Hp} {s : Shared} (I : Inv X pins σ H s) {rs : List RA} (h : RowOk H rs) : TupsH s.heap rs := fun x hx => I.pair (h x hx)
section
variable {prog : Program} {w : World} {A : Around} {E : Value → Shared → Prop} {s : Shared} {rs : List RA}
end
end L2
namespace L2
open PySem PySem.Spec PyProof.Rows PySem.SeqAt
theorem hu2 {cm : Bool} {k : Nat} {A : Around} (hr : Room cm k A) : A.units + 2 < cLine := Nat.lt_of_le_of_lt (Nat.add_le_add_left (by decide : 2 ≤ 64) _) hr.units
theorem RowOk.up {H H' : Hp} {rs : List RA} (h : RowOk H rs) (s : Same H H') : RowOk H' rs := fun x hx => s _ _ (h x hx)
theorem RowOk.upd {H : Hp} {rs : List RA} {l : Addr} {xs : List V} {o : HO} (h : RowOk H rs) (hl : H l = some (.lst xs)) : RowOk (upd H l o) rs := fun x hx => by
  rw [upd_ne (fun e => by have := h x hx; rw [e, hl] at this; cases this)]
  exact h x hx
theorem RowOk.nil {H : Hp} : RowOk H [] := fun _ h => nomatch h
theorem RowOk.app {H : Hp} {rs : List RA} {a : Addr} {b e : Int} (h : RowOk H rs) (ha : H a = some (.tup [.int b, .int e])) : RowOk H (rs ++ [(a, b, e)]) := fun x hx => by
  rcases List.mem_append.mp hx with hx | hx
  · exact h x hx
  · rw [List.mem_singleton] at hx
    subst hx
    exact ha
theorem RowOk.init {H : Hp} {rs : List RA} {y : RA} (h : RowOk H (rs ++ [y])) : RowOk H rs := fun x hx => h x (List.mem_append_left _ hx)
theorem refs_app (rs : List RA) (a : Addr) (b e : Int) : refs rs ++ [.ref a] = refs (rs ++ [(a, b, e)]) := by unfold refs; rw [List.map_append]; rfl
section
variable {X : Cx}
theorem RowOk.same {H : Hp} {rs qs : List RA} (h : RowOk H rs) (h' : RowOk H qs) : ∀ x ∈ rs, ∀ y ∈ qs, x.1 = y.1 → x.2 = y.2 := by
  intro x hx y hy e
  have a := h x hx
  have b := h' y hy
  rw [e, b] at a
  injection a with a
  injection a with a
  injection a with a1 a
  injection a with a2 _
  injection a1 with a1
  injection a2 with a2
  exact Prod.ext a1.symm a2.symm
end
end L2
namespace L2
open PySem PySem.Spec PyProof.Rows PySem.SeqAt
def RowAt (H : Hp) (l : Addr) (rs : List RA) : Prop := H l = some (.lst (refs rs)) ∧ RowOk H rs
theorem RowAt.up {H H' : Hp} {l : Addr} {rs : List RA} (h : RowAt H l rs) (s : Same H H') : RowAt H' l rs := ⟨s _ _ h.1, h.2.up s⟩
def SameX (F : Addr) (H H' : Hp) : Prop := ∀ b o, b ≠ F → H b = some o → H' b = some o
theorem SameX.refl (F : Addr) (H : Hp) : SameX F H H := fun _ _ _ e => e
theorem SameX.same {F : Addr} {H H2 H' : Hp} (s : Same H H2) (x : SameX F H2 H') (hF : H F = none) : Same H H' := fun b o e => x b o (ne_of_none e hF) (s b o e)
theorem SameX.put {F t : Addr} {H H' : Hp} {o : HO} {xs : List V} (x : SameX F H H') (ht : H' t = none) : SameX F H (upd (upd H' t o) F (.lst xs)) := fun b u hb e => by
  rw [upd_ne hb]
  exact same_upd ht _ _ (x b u hb e)
theorem RowAt.upX {F l : Addr} {H H' : Hp} {rs : List RA} {xs : List V} (h : RowAt H l rs) (hl : l ≠ F) (hF : H F = some (.lst xs)) (x : SameX F H H') : RowAt H' l rs :=
  ⟨x _ _ hl h.1, fun y hy => x _ _ (fun e => by have := h.2 y hy; rw [e, hF] at this; cases this) (h.2 y hy)⟩
theorem RowAt.put {H : Hp} {F t : Addr} {fs : List RA} {b e : Int} (h : RowAt H F fs) (ht : H t = none) : RowAt (upd (upd H t (.tup [.int b, .int e])) F (.lst (refs fs ++ [.ref t]))) F (fs ++ [(t, b, e)]) := by
  have htF : t ≠ F := fun z => by rw [z, h.1] at ht; cases ht
  have hF2 : upd H t (.tup [.int b, .int e]) F = some (.lst (refs fs)) := by rw [upd_ne (fun z => htF z.symm)]; exact h.1
  exact ⟨by rw [upd_same, refs_app _ _ b e], RowOk.app ((h.2.up (same_upd ht)).upd hF2) (by rw [upd_ne htF]; exact upd_same)⟩
section
variable {X : Cx}
end
end L2
namespace L2
open PySem PySem.Spec PySem.Calls PyProof.Rows Builtin Builtin.Str
section
variable {X : Cx}
end
end L2
namespace L2
open PySem PySem.Spec PySem.Calls PyProof.Rows
section
variable {X : Cx} {m : Str} {apos pos : Pos} {o e : Expr} {es : List Expr} {ta : TE} {t : TA}
structure Ans (X : Cx) (m : Str) (n : Nat) (C : Addr) (R : V → List V → Hp → VK → Prop) : Prop where
  cls : Cls X.K C
  run : ∃ (f : Addr) (fd : FuncData) (ps : List Str) (ds : List Value) (dvs : List V) (CX : CXT) (cm : Bool) (k : Nat) (sp : Sp) (E : XK), Meth X.K C m f ∧ FnOk X.prog X.w X.K X.mg X.base CX cm k f fd ps sp ∧ Room cm k X.A ∧ Binds X.K fd ps ds ∧ Vals dvs ds ∧ Passes CX X E ∧
    ∀ x vs H Q, vs.length = n → R x vs H Q → sp (x :: (vs ++ dvs)) H Q E
def tMethV (m : Str) (n : Nat) (D : Addr → (V → List V → Hp → VK → Prop) → Prop) (ta : TE) (t : TA) : TE := fun σ H Q => ta σ H fun x H1 => ∃ a C dx fs R, x = .ref a ∧ H1 a = some (.ins C dx fs) ∧ fs.lookup m = none ∧ D C R ∧
  t σ H1 fun vs H2 => vs.length = n ∧ R x vs H2 Q
theorem pe_methV {pl : Sem Bool} {n : Nat} {D : Addr → (V → List V → Hp → VK → Prop) → Prop} (he : PE X o ta) (hD : ∀ C R, D C R → Ans X m n C R) (ha : PA X (e :: es) t)
    (hst : starEach (e :: es) X.env = (false, eval e X.env) :: starEach es X.env := by rfl) (hpl : (backTo pos (starEach es X.env)).any (·.1) = false := by rfl)
    (ht : eval (.Call (.Attribute o m apos) (e :: es) [] pos) X.env = (do
      let ov ← eval o X.env
      standAt apos.atName
      let (f, first) ← holding [ov] (getMethod ov m pl)
      callWith pos f first (backTo pos (starEach (e :: es) X.env)) (backToKw pos (keywordEach [] X.env))) := by rfl) :
    PE X (.Call (.Attribute o m apos) (e :: es) [] pos) (tMethV m n D ta t) := by
  intro pins s σ H Q I h
  refine PySem.W.methodCall_KW (pl := pl) (thn (he pins s σ H _ I h) fun u s1 ⟨x, H1, I1, rx, a, C, dx, fs, R, ex, ea, l, d, q⟩ => ?_) ht
  subst ex
  obtain rfl : u = Value.ref a := rx
  obtain ⟨c, f, fd, ps, ds, dvs, CX, cm, k, sp, E, hm, F, hr, hb, hd, hx, hR⟩ := hD C R d
  refine getmeth_ok I1 ea c hm l ?_
  refine PySem.W.callWith_K (first := [.ref a]) (h₀ := X.base) I.ok.mod.kin hm.kp (thn (ha pos pins s1 σ H1 _ I1 q) fun us s2 ⟨vs, H2, I2, r, hn, q2⟩ => ⟨I2.kIn, ?_⟩) hst hpl
  exact run_fn (us := .ref a :: us) (vs := .ref a :: vs) F hr hb hd hx I2 (.cons rfl r) (hR _ _ _ _ hn q2)
end
section
variable {X : Cx} {K : PySem.W.Frag} {o e value : Expr} {f : Str} {pos pos' : Pos} {ta tv : TE} (hK : X.K = K)
include hK
theorem pe_fldK (he : PE X e ta) (hb : attributeBase e f X.env (eval e X.env) = eval e X.env := by rfl) : PE X (.Attribute e f pos) (tFld K ta f) := by subst hK; exact pe_fld he hb
theorem ps_fldK (ha : PE X o ta) (hv : PE X value tv) (hs : swapsWith value (some (.Attribute o f pos')) pos.line X.env = pure false := by rfl) : PS X (.Assign [.Attribute o f pos'] value pos) (sFld K ta tv f) := by subst hK; exact ps_fld ha hv hs
end
end L2
namespace L2
open PySem PySem.Spec PySem.Calls PyProof.Rows
section
variable {X : Cx} {CX : CXT} {cm : Bool} {k : Nat} {f C : Addr} {fd : FuncData} {ps : List Str} {sp : Sp} {dvs : List V} {ds : List Value} {E : XK} {x m : Str} {p pos apos : Pos} {e : Expr} {es : List Expr} {t : TA}
structure ClsFn (K : PySem.W.Frag) (C : Addr) (m : Str) (f : Addr) : Prop where
  ga : PySem.W.specialIn K (.ref C) "__getattribute__" = some (some (.builtin "type.__getattribute__"))
  rd : PySem.W.readsIn K C (.type "type") = true
  at_ : PySem.W.findCls K (.ref C) (.type "type") m = some (.val (.ref f))
  hi : PySem.W.handedIn (.ref f) = true
  kp : PySem.W.keepIn K (.ref f) = true
theorem pe_clsfn {pl : Sem Bool} (c : ClsFn X.K C m f) (F : FnOk X.prog X.w X.K X.mg X.base CX cm k f fd ps sp) (hr : Room cm k X.A) (hg : Gl X x) (hm : X.mg x = some (.ref C)) (hb : Binds X.K fd ps ds) (hd : Vals dvs ds) (hx : Passes CX X E)
    (ha : PA X (e :: es) t) (hdb : (x == ("__debug__" : Str)) = false := by decide) (he : starEach (e :: es) X.env = (false, eval e X.env) :: starEach es X.env := by rfl) (hpl : (backTo pos (starEach es X.env)).any (·.1) = false := by rfl)
    (ht : eval (.Call (.Attribute (.Name x p) m apos) (e :: es) [] pos) X.env = (do
      let ov ← eval (.Name x p) X.env
      standAt apos.atName
      let (f, first) ← holding [ov] (getMethod ov m pl)
      callWith pos f first (backTo pos (starEach (e :: es) X.env)) (backToKw pos (keywordEach [] X.env))) := by rfl) :
    PE X (.Call (.Attribute (.Name x p) m apos) (e :: es) [] pos) (tCall sp dvs E t) := by
  intro pins s σ H Q I h
  refine PySem.W.methodCall_KW (pl := pl) (ld_glob I hg hm ?_ hdb) ht
  refine PySem.W.method_cls I.kIn c.ga ?_
  refine PySem.W.cls_value I.kIn c.rd c.at_ c.hi ?_
  refine PySem.W.callWith_K (first := []) (h₀ := X.base) I.ok.mod.kin c.kp (thn (ha pos pins _ σ H _ (I.tok _) h) fun us s1 ⟨vs, H1, I1, r, q⟩ => ⟨I1.kIn, ?_⟩) he hpl
  exact run_fn F hr hb hd hx I1 r q
end
end L2
namespace L2
open PySem PySem.Spec PyProof.Rows
end L2
namespace L2
open PySem PySem.Spec PyProof.Rows PySem.SeqAt
section
variable {X : Cx}
end
end L2
namespace L2
open PySem PySem.Spec PyProof.Rows PySem.SeqAt
section
variable {X : Cx}
end
end L2
namespace L2
open PySem PySem.Spec PyProof.Rows
section
variable {X : Cx} {CX : CXT} {cm : Bool} {k : Nat} {f C : Addr} {fd : FuncData} {ps : List Str} {sp : Sp} {dvs : List V} {ds : List Value} {E : St → XK} {x : Str} {p pos : Pos} {e : Expr} {es : List Expr} {t : TA}
end
end L2
namespace L2
open PySem PySem.Spec PyProof.Rows
def tCut (t u : TS) : TS := fun D σ H => ∃ P : St → Hp → Prop, t { D with nx := P } σ H ∧ ∀ σ' H', P σ' H' → u D σ' H'
section
variable {X : Cx} {st : Stmt} {rest : List Stmt} {t u : TS}
theorem pss_cut (h1 : PS X st t) (h2 : PSs X rest u) : PSs X (st :: rest) (tCut t u) := by
  intro pins s σ H D I h
  obtain ⟨P, ha, hb⟩ := h
  refine wpAny_execs_cons (thn (h1 pins s σ H { D with nx := P } I ha) fun f s1 q => ?_)
  cases f with
  | next =>
    obtain ⟨σ', H', I', q⟩ := q
    exact h2 pins s1 σ' H' D I' (hb σ' H' q)
  | ret v => exact q
  | brk => exact q
  | cont => exact q
end
end L2
namespace L2
open PySem PySem.Spec PySem.Calls PyProof.Rows
structure MkN (K : PySem.W.Frag) (C : Addr) : Prop where
  makes : PySem.W.makesIn K C = true
  init : PySem.W.findIn K (.ref C) "__init__" = some (some (.builtin "object.__init__"))
  kp : PySem.W.keepIn K (.ref C) = true
def tMakeN (C : Addr) : TE := fun _ H Q => ∀ x dx, H x = none → H dx = none → dx ≠ x → Q (.ref x) (upd (upd H dx (.own x)) x (.ins C dx []))
section
variable {X : Cx} {C : Addr} {x : Str} {p pos : Pos}
theorem pe_makeN (M : MkN X.K C) (hg : Gl X x) (hm : X.mg x = some (.ref C)) (hdb : (x == ("__debug__" : Str)) = false := by decide) : PE X (.Call (.Name x p) [] [] pos) (tMakeN C) := by
  intro pins s0 σ H Q I0 h
  refine wpAny_Call_Name_kw (ld_glob I0 hg hm ?_ hdb)
  refine PySem.W.callWith_K0 I0.kIn M.kp (wpAny_call ?_)
  have hq := h (s0.heap.objs.size + 1) s0.heap.objs.size (I0.hok.fresh (Nat.le_succ _)) (I0.hok.fresh (Nat.le_refl _)) (Nat.ne_of_lt (Nat.lt_succ_self _))
  have I2 := Inv.made (C := C) I0
  have KX := I0.kIn
  obtain ⟨hh, g, d, t, os⟩ := s0
  have Y := PySem.W.makes_of (M := model X.prog X.w) KX M.makes
  refine PySem.W.make_core Y (PySem.W.looks_findIn KX M.init) (fun self => PySem.W.Looks.of_pure (PySem.W.oi_bind self)) (.inr ⟨rfl, rfl⟩) ?_
  have e2 : ((hh.push PySem.W.emptyDict).push (PySem.W.instObj C hh.objs.size)).get? (hh.objs.size + 1) = some (PySem.W.instObj C hh.objs.size) := by
    have := Heap.get?_push_size (hh.push PySem.W.emptyDict) (o := PySem.W.instObj C hh.objs.size) rfl
    rwa [Heap.size_push] at this
  have t1 : PySem.W.Looks (model X.prog X.w) ((hh.push PySem.W.emptyDict).push (PySem.W.instObj C hh.objs.size)) (typeOf (.ref (hh.objs.size + 1))) (.ref C) := (PySem.W.Looks.ld e2).andThen .now
  have t2 : PySem.W.Looks (model X.prog X.w) ((hh.push PySem.W.emptyDict).push (PySem.W.instObj C hh.objs.size)) (isInstance (.ref (hh.objs.size + 1)) (.type "object")) true := t1.andThen (Y.top.keeps fun b o e => Heap.get?_push_of_some _ (Heap.get?_push_of_some _ e))
  refine codeAny_call_builtin PySem.W.oi_plain PySem.W.entry_oi (@PySem.W.check_slot (model X.prog X.w) _ _ _ "object.__init__" "object" "__init__" (.ref (hh.objs.size + 1)) [] [] _ PySem.W.oi_kind PySem.W.oi_split t2 (PySem.W.oi_args (.ref (hh.objs.size + 1))) ?_)
  rw [show ([] ++ [] : List Value) = [] from rfl, PySem.W.oi_run]
  exact wpAny_pure (And.intro rfl ⟨V.ref (hh.objs.size + 1), _, I2, rfl, hq⟩)
end
theorem ex8 {us : List Value} (h : us.length = 8) : ∃ a b c d e f g k, us = [a, b, c, d, e, f, g, k] := by
  match us, h with
  | [a, b, c, d, e, f, g, k], _ => exact ⟨a, b, c, d, e, f, g, k, rfl⟩
end L2
namespace L2
open PySem PySem.Spec PyProof.Rows
end L2
namespace L2
open PySem PySem.Spec PyProof.Rows
section
variable (P : Program) (w : World)
end
section
variable {P : Program} {w : World} {H H' : Hp} {h h' : Heap} {a : Addr} {o : HO}
end
section
variable {P : Program} {w : World} {H : Hp} {h h' : Heap} {x e : Addr} {o' : HO}
end
section
variable {fs fs' ex ex' : List Addr} {H H1 H2 : Hp} {h h1 h2 h' : Heap} {a x e : Addr} {o : HO}
end
end L2
namespace L2
open PySem PySem.Spec PyProof.Rows
section
variable {X : Cx} {pins : List (Addr × Obj)} {σ : List (Option V)} {H H' : Hp} {s : Shared} {h' : Heap}
end
end L2
namespace L2
open PySem PySem.Spec PyProof.Rows
section
variable {X : Cx}
variable {a b : Expr} {ta tb : TE} {pos : Pos}
variable {tA tB' : TT} {rest : List Expr}
end
end L2
namespace L2
open PySem PySem.Spec PyProof.Rows
section
variable {X : Cx} {pins : List (Addr × Obj)} {σ : St} {H : Hp} {s : Shared} {a : Addr} {xs ys : List V}
end
section
variable {X : Cx} {pins : List (Addr × Obj)} {σ : St} {H : Hp} {s : Shared} {E : Value → Shared → Prop}
end
section
variable {X : Cx} {st : Stmt} {rest : List Stmt} {t u : TS} {e : Expr} {te : TE} {pos : Pos}
end
section
variable {X : Cx} {pos : Pos}
end
section
variable {X : Cx} {pos : Pos}
end
end L2
namespace L2
open PySem PySem.Spec PyProof.Rows
section
variable {X : Cx} {tg : Expr}
end
end L2
namespace L2
open PySem PySem.Spec PyProof.Rows
section
variable {X : Cx} {a b c : Expr} {ta tb tc : TE} {pos : Pos}
end
section
variable {X : Cx} {a b c : Expr} {ta tb tc : TE} {pos : Pos}
end
end L2
namespace L2
open PySem PySem.Spec PyProof.Rows
section
variable {prog : Program} {w : World} {A : Around} {E : Value → Shared → Prop} {s : Shared} {K : PySem.W.Frag} {x dx C f : Addr} {mA : Str → Option Value} {name : Str} {v : Value}
end
section
variable {P : Program} {w : World} {H H' : Hp} {h h' : Heap} {a C dx : Addr} {fs fs' : List (Str × V)}
end
section
variable {X : Cx} {pins : List (Addr × Obj)} {σ : St} {H : Hp} {s : Shared} {a C dx : Addr} {fs : List (Str × V)} {f : Str} {v : V} {A : Around} {E : Value → Shared → Prop}
end
section
variable {X : Cx} {o e value : Expr} {f : Str} {pos pos' tpos : Pos} {ta tv : TE}
end
section
variable {X : Cx} {pins : List (Addr × Obj)} {σ : St} {H : Hp} {s : Shared} {A : Around} {E : Value → Shared → Prop} {Q : Value → Shared → Prop} {c : Value} {b : Bool}
end
end L2
namespace L2
open PySem PySem.Spec PyProof.Rows
section
variable {X : Cx} {e : Expr} {es : List Expr} {te : TE} {t : TA} {pos : Pos}
end
section
variable {X : Cx} {pins : List (Addr × Obj)} {σ : St} {H : Hp} {s s' : Shared}
end
section
variable {X : Cx} {CX : CXT} {cm : Bool} {k : Nat} {f C : Addr} {fd : FuncData} {ps : List Str} {sp : Sp} {dvs : List V} {ds : List Value} {E : XK} {x m : Str} {p pos apos : Pos} {e o : Expr} {es : List Expr} {ta : TE} {t : TA}
end
section
variable {X : Cx} {CX : CXT} {cm : Bool} {k : Nat} {f C : Addr} {fd : FuncData} {ps ks : List Str} {sp : Sp} {E : XK} {x m : Str} {p pos apos kpos : Pos} {e o : Expr} {es : List Expr} {kws : List Keyword} {te ta : TE} {t tk : TA} {nm : Option Str}
variable {g : List Value → List Value → List Value} {gV : List V → List V → List V}
end
end L2
namespace L2
open PySem PySem.Spec PyProof.Rows
section
variable {X : Cx} {x : Str} {p pos : Pos} {e : Expr} {es : List Expr} {t : TA} {id T : String} {r : List V → Hp → VK → Prop}
end
end L2
namespace L2
open PySem PySem.Spec PyProof.Rows
section
variable {κ : Type} [DecidableEq κ]
def valV (kvs : List (κ × V)) (k : κ) : Option V := (kvs.find? fun kv => decide (kv.1 = k)).map (·.2)
def putK (kvs : List (κ × V)) (k : κ) (v : V) : List (κ × V) :=
  if (kvs.any fun kv => decide (kv.1 = k)) = true then kvs.map (fun kv => if kv.1 = k then (kv.1, v) else kv) else kvs ++ [(k, v)]
def dropK (kvs : List (κ × V)) (k : κ) : List (κ × V) := kvs.filter fun kv => decide (kv.1 ≠ k)
theorem valV_pos {p : κ × V} {r : List (κ × V)} {k : κ} (e : p.1 = k) : valV (p :: r) k = some p.2 := by simp [valV, List.find?_cons, e]
theorem valV_neg {p : κ × V} {r : List (κ × V)} {k : κ} (e : ¬ p.1 = k) : valV (p :: r) k = valV r k := by simp [valV, List.find?_cons, e]
theorem valV_any (k : κ) : ∀ kvs : List (κ × V), (kvs.any fun kv => decide (kv.1 = k)) = (valV kvs k).isSome
  | [] => rfl
  | p :: r => by
    rw [List.any_cons]
    by_cases e : p.1 = k
    · simp only [valV_pos e, decide_eq_true e, Bool.true_or, Option.isSome_some]
    · rw [valV_neg e, decide_eq_false e, Bool.false_or]; exact valV_any k r
theorem RelO.isSome_eq {o : Option V} {u : Option Value} (r : RelO o u) : o.isSome = u.isSome := by
  cases o with
  | none => cases u with
    | none => rfl
    | some _ => exact (show False from r).elim
  | some _ => cases u with
    | none => exact (show False from r).elim
    | some _ => rfl
theorem RelO.getD {o : Option V} {u : Option Value} {d : V} {d' : Value} (r : RelO o u) (rd : RelV d d') : RelV (o.getD d) (u.getD d') := by
  cases o with
  | none => cases u with
    | none => exact rd
    | some _ => exact (show False from r).elim
  | some _ => cases u with
    | none => exact (show False from r).elim
    | some _ => exact r
theorem KV.val {kvs : List (κ × V)} {vs : List (κ × Value)} (r : KV kvs vs) (k : κ) : RelO (valV kvs k) (valueAt vs k) := by
  unfold KV at r
  induction r with
  | nil => exact True.intro
  | @cons p q ps qs h t ih =>
    obtain ⟨h1, h2⟩ := h
    by_cases e : p.1 = k
    · have e' : q.1 = k := h1.symm.trans e
      have b : valueAt (q :: qs) k = some q.2 := by simp [valueAt, List.find?_cons, e']
      rw [valV_pos e, b]; exact h2
    · have e' : ¬ q.1 = k := fun z => e (h1.trans z)
      have b : valueAt (q :: qs) k = valueAt qs k := by simp [valueAt, List.find?_cons, e']
      rw [valV_neg e, b]; exact ih
theorem KV.any {kvs : List (κ × V)} {vs : List (κ × Value)} (r : KV kvs vs) (k : κ) : (kvs.any fun kv => decide (kv.1 = k)) = vs.any fun kv => decide (kv.1 = k) := by
  unfold KV at r
  induction r with
  | nil => rfl
  | cons h t ih => rw [List.any_cons, List.any_cons, ih, h.1]
theorem KV.repl {kvs : List (κ × V)} {vs : List (κ × Value)} (r : KV kvs vs) (k : κ) {y : V} {u : Value} (ry : RelV y u) :
    KV (kvs.map fun kv => if kv.1 = k then (kv.1, y) else kv) (vs.map fun kv => if kv.1 = k then (kv.1, u) else kv) := by
  unfold KV at r ⊢
  induction r with
  | nil => exact .nil
  | @cons p q ps qs h t ih =>
    rw [List.map_cons, List.map_cons]
    refine .cons ?_ ih
    obtain ⟨h1, h2⟩ := h
    by_cases e : p.1 = k
    · rw [if_pos e, if_pos (h1.symm.trans e)]; exact ⟨h1, ry⟩
    · rw [if_neg e, if_neg (fun z => e (h1.trans z))]; exact ⟨h1, h2⟩
theorem KV.put {kvs : List (κ × V)} {vs : List (κ × Value)} (r : KV kvs vs) (k : κ) {y : V} {u : Value} (ry : RelV y u) : KV (putK kvs k y) (stored vs k u) := by
  unfold putK stored
  rw [r.any k]
  by_cases e : (vs.any fun kv => decide (kv.1 = k)) = true
  · rw [if_pos e, if_pos e]; exact r.repl k ry
  · rw [if_neg e, if_neg e]; exact Paired.snoc r ⟨rfl, ry⟩
theorem KV.drop {kvs : List (κ × V)} {vs : List (κ × Value)} (r : KV kvs vs) (k : κ) : KV (dropK kvs k) (without vs k) := by
  unfold KV at r ⊢
  unfold dropK without
  induction r with
  | nil => exact .nil
  | @cons p q ps qs h t ih =>
    obtain ⟨h1, h2⟩ := h
    rw [List.filter_cons, List.filter_cons]
    by_cases e : p.1 = k
    · have a : ¬ decide (p.1 ≠ k) = true := by simp [e]
      have b : ¬ decide (q.1 ≠ k) = true := by simp [h1.symm.trans e]
      rw [if_neg a, if_neg b]; exact ih
    · have e' : ¬ q.1 = k := fun z => e (h1.trans z)
      have a : decide (p.1 ≠ k) = true := by simp [e]
      have b : decide (q.1 ≠ k) = true := by simp [e']
      rw [if_pos a, if_pos b]; exact .cons ⟨h1, h2⟩ ih
theorem KV.keys {kvs : List (κ × V)} {vs : List (κ × Value)} (r : KV kvs vs) : kvs.map (·.1) = vs.map (·.1) := by
  unfold KV at r
  induction r with
  | nil => rfl
  | cons h t ih => rw [List.map_cons, List.map_cons, ih, h.1]
theorem KV.length {kvs : List (κ × V)} {vs : List (κ × Value)} (r : KV kvs vs) : kvs.length = vs.length := Paired.length r
end
abbrev KT (H : Hp) : List (List Key × V) → List (List Key × Addr × Value) → Prop := Paired fun p q => p.1 = q.1 ∧ H q.2.1 = some (.tup (p.1.map kV)) ∧ RelV p.2 q.2.2
theorem KT.val {H : Hp} {kvs : List (List Key × V)} {xs : List (List Key × Addr × Value)} (r : KT H kvs xs) (k : List Key) : RelO (valV kvs k) ((atKey xs k).map (·.2)) := by
  induction r with
  | nil => exact True.intro
  | @cons p q ps qs h t ih =>
    obtain ⟨h1, _, h2⟩ := h
    by_cases e : p.1 = k
    · have e' : q.1 = k := h1.symm.trans e
      have b : atKey (q :: qs) k = some q.2 := by simp [atKey, List.find?_cons, e']
      rw [valV_pos e, b]; exact h2
    · have e' : ¬ q.1 = k := fun z => e (h1.trans z)
      have b : atKey (q :: qs) k = atKey qs k := by simp [atKey, List.find?_cons, e']
      rw [valV_neg e, b]; exact ih
theorem KT.repl {H : Hp} {kvs : List (List Key × V)} {xs : List (List Key × Addr × Value)} (r : KT H kvs xs) (k : List Key) {y : V} {u : Value} (ry : RelV y u) :
    KT H (kvs.map fun kv => if kv.1 = k then (kv.1, y) else kv) (xs.map (putAt k u)) := by
  induction r with
  | nil => exact .nil
  | @cons p q ps qs h t ih =>
    rw [List.map_cons, List.map_cons]
    refine .cons ?_ ih
    obtain ⟨h1, h2, h3⟩ := h
    unfold putAt
    by_cases e : p.1 = k
    · rw [if_pos e, if_pos (h1.symm.trans e)]; exact ⟨h1, h2, ry⟩
    · rw [if_neg e, if_neg (fun z => e (h1.trans z))]; exact ⟨h1, h2, h3⟩
theorem KT.put {H : Hp} {kvs : List (List Key × V)} {xs : List (List Key × Addr × Value)} (r : KT H kvs xs) (k : List Key) {b : Addr} {y : V} {u : Value} (hb : H b = some (.tup (k.map kV))) (ry : RelV y u) :
    KT H (putK kvs k y) (storedH xs k b u) := by
  have e : (kvs.any fun kv => decide (kv.1 = k)) = (atKey xs k).isSome := by
    rw [valV_any, (r.val k).isSome_eq, Option.isSome_map]
  unfold putK storedH
  rw [e]
  by_cases q : (atKey xs k).isSome = true
  · rw [if_pos q, if_pos q]; exact r.repl k ry
  · rw [if_neg q, if_neg q]; exact Paired.snoc r ⟨rfl, hb, ry⟩
theorem KT.keeps {H H' : Hp} {kvs : List (List Key × V)} {xs : List (List Key × Addr × Value)} (r : KT H kvs xs) (ht : ∀ b ys, H b = some (.tup ys) → H' b = some (.tup ys)) : KT H' kvs xs :=
  Paired.mapP r fun _ _ z => ⟨z.1, ht _ _ z.2.1, z.2.2⟩
section
variable {P : Program} {w : World} {H : Hp} {h : Heap} {a : Addr}
end
def DGet (H : Hp) (a : Addr) (y : V) (r : Option V) : Prop :=
  (∃ kvs k, Rd H a (.dK kvs) ∧ y = kV k ∧ r = valV kvs k) ∨ ∃ kvs k b, Rd H a (.dT kvs) ∧ y = .ref b ∧ H b = some (.tup (k.map kV)) ∧ r = valV kvs k
def DPut (H : Hp) (a : Addr) (y v : V) (H' : Hp) : Prop :=
  (∃ kvs k, H a = some (.dK kvs) ∧ y = kV k ∧ kvs.length < sizeLine ∧ H' = upd H a (.dK (putK kvs k v))) ∨
  ∃ kvs k b, H a = some (.dT kvs) ∧ y = .ref b ∧ H b = some (.tup (k.map kV)) ∧ kvs.length < sizeLine ∧ H' = upd H a (.dT (putK kvs k v))
theorem DGet.k {H : Hp} {a : Addr} {kvs : List (Key × V)} {k : Key} (e : H a = some (.dK kvs)) : DGet H a (kV k) (valV kvs k) := .inl ⟨kvs, k, .inl e, rfl, rfl⟩
theorem DGet.t {H : Hp} {a b : Addr} {kvs : List (List Key × V)} {k : List Key} (e : H a = some (.dT kvs)) (eb : H b = some (.tup (k.map kV))) : DGet H a (.ref b) (valV kvs k) := .inr ⟨kvs, k, b, .inl e, rfl, eb, rfl⟩
theorem DPut.k {H : Hp} {a : Addr} {kvs : List (Key × V)} {k : Key} {v : V} (e : H a = some (.dK kvs)) (hl : kvs.length < sizeLine) : DPut H a (kV k) v (upd H a (.dK (putK kvs k v))) := .inl ⟨kvs, k, e, rfl, hl, rfl⟩
theorem DPut.t {H : Hp} {a b : Addr} {kvs : List (List Key × V)} {k : List Key} {v : V} (e : H a = some (.dT kvs)) (eb : H b = some (.tup (k.map kV))) (hl : kvs.length < sizeLine) :
    DPut H a (.ref b) v (upd H a (.dT (putK kvs k v))) := .inr ⟨kvs, k, b, e, rfl, eb, hl, rfl⟩
section
variable {X : Cx} {pins : List (Addr × Obj)} {σ : St} {H : Hp} {s : Shared} {a : Addr} {y v : V} {u r : Value} {o : Option V} {A : Around} {E : Value → Shared → Prop}
end
section
variable {X : Cx} {pins : List (Addr × Obj)} {σ : St} {H : Hp} {s : Shared} {a : Addr} {kvs : List (Key × V)} {k : Key} {u : Value} {A : Around} {E : Value → Shared → Prop}
end
section
variable {X : Cx} {o i e value : Expr} {pos pos' tpos : Pos} {td ty tv : TE}
end
section
variable {X : Cx} {pos : Pos}
end
structure M1 (X : Cx) (o : Expr) (m : Str) (apos : Pos) (e : Expr) (cpos : Pos) : Prop where
  base : attributeBase o m X.env (eval o X.env) = eval o X.env
  few : ((backTo cpos (starEach [e] X.env)).all (fun x => !x.1) && (backToKw cpos (keywordEach [] X.env)).all (fun x => x.1.isSome)
    && decide (([e] : List Expr).length + ([] : List Keyword).length + (if ([] : List Keyword).isEmpty then 0 else 1) < 30)) = true
  line : (apos.endLine == cpos.line) = true
  trees : backTo cpos (starEach [e] X.env) = [(false, eval e X.env)]
structure M2 (X : Cx) (o : Expr) (m : Str) (apos : Pos) (e f : Expr) (cpos : Pos) : Prop where
  base : attributeBase o m X.env (eval o X.env) = eval o X.env
  few : ((backTo cpos (starEach [e, f] X.env)).all (fun x => !x.1) && (backToKw cpos (keywordEach [] X.env)).all (fun x => x.1.isSome)
    && decide (([e, f] : List Expr).length + ([] : List Keyword).length + (if ([] : List Keyword).isEmpty then 0 else 1) < 30)) = true
  line : (apos.endLine == cpos.line) = true
  trees : backTo cpos (starEach [e, f] X.env) = [(false, eval e X.env), (false, eval f X.env)]
section
variable {X : Cx} {pins : List (Addr × Obj)} {σ : St} {H : Hp} {s : Shared} {a : Addr} {y d : V} {u r : Value} {o : Option V} {A : Around} {E : Value → Shared → Prop}
end
section
variable {X : Cx} {o e f : Expr} {apos cpos : Pos} {td ty tx : TE}
end
section
variable {X : Cx} {pins : List (Addr × Obj)} {σ : St} {H : Hp} {s : Shared} {a : Addr} {kvs : List (Key × V)} {A : Around} {E : Value → Shared → Prop}
end
section
variable {X : Cx} {pins : List (Addr × Obj)} {σ : St} {H : Hp} {s : Shared} {a : Addr} {y : V} {u : Value} {A : Around} {E : Value → Shared → Prop}
end
end L2
namespace Att
open PySem PySem.W PySem.Calls PyProof.Rows
section
variable {prog : Program} {w : World} {A : Around} {E : Value → Shared → Prop} {s : Shared} {K : Frag}
end
end Att
namespace L2
open PySem PySem.Spec PyProof.Rows
end L2
namespace L2
open PySem PySem.Spec PyProof.Rows
end L2
namespace L2
open PySem PySem.Spec PyProof.Rows
section
variable {P : Program} {w : World} {K : PySem.W.Frag} {mg : Str → Option Value} {base : Heap}
end
section
variable {X : Cx}
end
section
variable {κ : Type} [DecidableEq κ]
end
end L2
namespace L2
open PySem PySem.Spec PyProof.Rows
section
variable {X : Cx} {tg : Expr}
end
section
variable {X : Cx}
theorem op_eqNil (hu : X.A.units + 2 < cLine) : OpR X (compareOp .Eq) (fun x y H Q => ∃ (a b : Addr) (xs : List V), x = .ref a ∧ y = .ref b ∧ H a = some (.lst xs) ∧ H b = some (.lst []) ∧ Q (.bl xs.isEmpty) H) := by
  intro pins s σ H x y v u Q I rx ry h
  obtain ⟨a, b, xs, rfl, rfl, ha, hb, q⟩ := h
  cases rx
  cases ry
  obtain ⟨its, rv, pl, hz⟩ := I.list (SqL.of (K := X.K) ha)
  obtain ⟨its2, rv2, pl2, hz2⟩ := I.list (SqL.of (K := X.K) hb)
  cases rv2
  have hl := rv.length
  cases xs with
  | nil =>
    cases rv
    exact PySem.SeqAt.eq_listAt (e := fun _ => true) pl.isList pl2.isList rfl (by omega) (fun j h1 h2 => absurd h1 (by simp)) ⟨.bl _, H, I, rfl, q⟩
  | cons y ys =>
    exact PySem.SeqAt.eq_list_lengthsAt pl.isList pl2.isList (by rw [List.size_toArray, ← hl]; simp) (by omega) ⟨.bl _, H, I, rfl, q⟩
end
end L2
namespace L2
open PySem PySem.Spec PyProof.Rows PySem.Calls
end L2
namespace L2
section
variable {α : Type} {R : α → α → Prop}
structure MI (R : α → α → Prop) (all out A B : List α) : Prop where
  perm : (out ++ (A ++ B)).Perm all
  so : out.Pairwise R
  la : ∀ x ∈ out, ∀ y ∈ A, R x y
  lb : ∀ x ∈ out, ∀ y ∈ B, R x y
  sa : A.Pairwise R
  sb : B.Pairwise R
theorem MI.lefts {all out X A B : List α} (h : MI R all out (X ++ A) B) (hx : ∀ x ∈ X, ∀ y ∈ B, R x y) : MI R all (out ++ X) A B := by
  obtain ⟨p, so, la, lb, sa, sb⟩ := h
  rw [List.pairwise_append] at sa
  refine ⟨?_, ?_, ?_, ?_, sa.2.1, sb⟩
  · simpa [List.append_assoc] using p
  · rw [List.pairwise_append]
    exact ⟨so, sa.1, fun x hx y hy => la x hx y (List.mem_append_left _ hy)⟩
  · intro x hm y hy
    rcases List.mem_append.mp hm with hm | hm
    · exact la x hm y (List.mem_append_right _ hy)
    · exact sa.2.2 x hm y hy
  · intro x hm y hy
    rcases List.mem_append.mp hm with hm | hm
    · exact lb x hm y hy
    · exact hx x hm y hy
theorem MI.flip {all out A B : List α} (h : MI R all out A B) : MI R all out B A :=
  ⟨(List.Perm.append_left _ List.perm_append_comm).trans h.perm, h.so, h.lb, h.la, h.sb, h.sa⟩
theorem MI.rights {all out X A B : List α} (h : MI R all out A (X ++ B)) (hx : ∀ x ∈ X, ∀ y ∈ A, R x y) : MI R all (out ++ X) A B := (h.flip.lefts hx).flip
theorem MI.left {x : α} {all out A B : List α} (h : MI R all out (x :: A) B) (hx : ∀ y ∈ B, R x y) : MI R all (out ++ [x]) A B :=
  MI.lefts (X := [x]) h fun z hz y hy => by rw [List.mem_singleton.mp hz]; exact hx y hy
def MD (R : α → α → Prop) (all l : List α) : Prop := l.Perm all ∧ l.Pairwise R
theorem MI.doneA {all out A : List α} (h : MI R all out A []) : MD R all (out ++ A) := by
  refine ⟨by simpa using h.perm, ?_⟩
  rw [List.pairwise_append]
  exact ⟨h.so, h.sa, h.la⟩
theorem MI.last {all out A B : List α} (h : MI R all out A B) (hx : ∀ y ∈ B, ∀ x ∈ A, R y x) : MD R all (out ++ (B ++ A)) := by
  have h' : MI R all out A (B ++ []) := by rw [List.append_nil]; exact h
  have := (h'.rights hx).doneA
  rw [List.append_assoc] at this
  exact this
end
section
variable {α : Type} {R : α → α → Prop}
def RunsL (R : α → α → Prop) : List (Nat × Nat × Nat) → Nat → List α → Prop
  | [], _, l => l = []
  | (a, n, _) :: r, x, l => a = x ∧ 1 ≤ n ∧ ∃ S l', l = S ++ l' ∧ S.length = n ∧ S.Pairwise R ∧ RunsL R r (x + n) l'
theorem RunsL.append : ∀ {p q : List (Nat × Nat × Nat)} {x : Nat} {l m : List α}, RunsL R p x l → RunsL R q (x + l.length) m → RunsL R (p ++ q) x (l ++ m)
  | [], q, x, l, m, h1, h2 => by
    cases (h1 : l = [])
    exact h2
  | (a, n, w) :: p, q, x, l, m, h1, h2 => by
    obtain ⟨e, hn, S, l', rfl, hS, hp, h1⟩ := h1
    refine ⟨e, hn, S, l' ++ m, by rw [List.append_assoc], hS, hp, RunsL.append h1 ?_⟩
    rw [List.length_append, hS] at h2
    rw [Nat.add_assoc]; exact h2
theorem RunsL.split : ∀ {p q : List (Nat × Nat × Nat)} {x : Nat} {l : List α}, RunsL R (p ++ q) x l → ∃ l1 l2, l = l1 ++ l2 ∧ RunsL R p x l1 ∧ RunsL R q (x + l1.length) l2
  | [], q, x, l, h => ⟨[], l, rfl, rfl, h⟩
  | (a, n, w) :: p, q, x, l, h => by
    obtain ⟨e, hn, S, l', rfl, hS, hp, h⟩ := h
    obtain ⟨l1, l2, rfl, h1, h2⟩ := RunsL.split h
    refine ⟨S ++ l1, l2, by rw [List.append_assoc], ⟨e, hn, S, l1, rfl, hS, hp, h1⟩, ?_⟩
    rw [List.length_append, hS, ← Nat.add_assoc]; exact h2
theorem RunsL.len : ∀ {p : List (Nat × Nat × Nat)} {x : Nat} {l : List α}, RunsL R p x l → p.length ≤ l.length
  | [], _, _, _ => Nat.zero_le _
  | (a, n, w) :: p, x, l, h => by
    obtain ⟨e, hn, S, l', rfl, hS, hp, h⟩ := h
    have := RunsL.len h
    rw [List.length_append, List.length_cons]; omega
theorem RunsL.two {p q : List (Nat × Nat × Nat)} {u v : Nat × Nat × Nat} {l : List α} (h : RunsL R (p ++ u :: v :: q) 0 l) :
    ∃ l1 X Y l2, l = l1 ++ (X ++ (Y ++ l2)) ∧ u.1 = l1.length ∧ u.2.1 = X.length ∧ v.1 = l1.length + X.length ∧ v.2.1 = Y.length ∧ 1 ≤ X.length ∧ 1 ≤ Y.length ∧ X.Pairwise R ∧ Y.Pairwise R ∧
      ∀ M w, M.Pairwise R → M.length = X.length + Y.length → RunsL R (p ++ (u.1, u.2.1 + v.2.1, w) :: q) 0 (l1 ++ (M ++ l2)) := by
  obtain ⟨l1, l2, rfl, h1, h2⟩ := h.split
  obtain ⟨a, n, w⟩ := u
  obtain ⟨b, m, w2⟩ := v
  obtain ⟨e, hn, X, l', rfl, hX, hpX, e2, hm, Y, l2, rfl, hY, hpY, h3⟩ := h2
  refine ⟨l1, X, Y, l2, rfl, by rw [e]; exact Nat.zero_add _, hX.symm, by rw [e2, hX, Nat.zero_add], hY.symm, by omega, by omega, hpX, hpY, fun M w' hM hl => h1.append ⟨e, by show 1 ≤ n + m; omega, M, l2, rfl, by show M.length = n + m; omega, hM, ?_⟩⟩
  show RunsL R q (0 + l1.length + (n + m)) l2
  rw [← Nat.add_assoc]; exact h3
end
end L2
namespace L2
open PySem PyProof.Rows
section
variable {M : Model} {A : Around} {E : Value → Shared → Prop} {s : Shared}
end
section
variable {prog : Program} {w : World} {A : Around} {E : Value → Shared → Prop} {s : Shared} {O : KeyOrd} {key : Keyed → O.α} {D : Keyed → Prop} {κ : SortKind}
end
end L2
namespace L2
open PySem PyProof.Rows
def Upw (O : KeyOrd) (key : Keyed → O.α) (x y : Keyed) : Prop := O.kle (key x) (key y)
def SameS (st st' : SortSt) : Prop := kindOf st' = kindOf st ∧ arrOf st' = arrOf st ∧ pendingOf st' = pendingOf st ∧ failedOf st' = failedOf st
theorem SameS.refl (st : SortSt) : SameS st st := ⟨rfl, rfl, rfl, rfl⟩
theorem SameS.trans {s1 s2 s3 : SortSt} (h1 : SameS s1 s2) (h2 : SameS s2 s3) : SameS s1 s3 :=
  ⟨h2.1.trans h1.1, h2.2.1.trans h1.2.1, h2.2.2.1.trans h1.2.2.1, h2.2.2.2.trans h1.2.2.2⟩
section lo
variable {prog : Program} {w : World} {A : Around} {E : Value → Shared → Prop} {s : Shared} {O : KeyOrd} {key : Keyed → O.α} {D : Keyed → Prop} {κ : SortKind} {a b : Array Keyed}
structure MPre (O : KeyOrd) (key : Keyed → O.α) (D : Keyed → Prop) (a b : Array Keyed) : Prop where
  ua : a.toList.Pairwise (Upw O key)
  ub : b.toList.Pairwise (Upw O key)
  da : ∀ x ∈ a.toList, D x
  db : ∀ x ∈ b.toList, D x
  na : 1 ≤ a.size
  nb : 1 ≤ b.size
  first : ∀ (h1 : 0 < a.size) (h2 : 0 < b.size), O.kle (key b[0]) (key a[0])
  last : ∀ (h1 : a.size - 1 < a.size) (h2 : b.size - 1 < b.size), O.kle (key b[b.size - 1]) (key a[a.size - 1])
abbrev GI (O : KeyOrd) (key : Keyed → O.α) (a b o : Array Keyed) (i j : Nat) : Prop := MI (Upw O key) (a.toList ++ b.toList) o.toList (a.toList.drop i) (b.toList.drop j)
theorem GI.size {o : Array Keyed} {i j : Nat} (h : GI O key a b o i j) (hi : i ≤ a.size) (hj : j ≤ b.size) : o.size = i + j := by
  have := h.perm.length_eq
  simp only [List.length_append, List.length_drop, Array.length_toList] at this
  omega
structure Go (O : KeyOrd) (key : Keyed → O.α) (a b o : Array Keyed) (i j : Nat) : Prop where
  gi : GI O key a b o i j
  hi : i + 1 < a.size
  hj : j < b.size
end lo
end L2
namespace L2
open PySem PyProof.Rows
section hi
variable {prog : Program} {w : World} {A : Around} {E : Value → Shared → Prop} {s : Shared} {O : KeyOrd} {key : Keyed → O.α} {D : Keyed → Prop} {κ : SortKind} {a b : Array Keyed}
def Dnw (O : KeyOrd) (key : Keyed → O.α) (x y : Keyed) : Prop := O.kle (key y) (key x)
abbrev HI (O : KeyOrd) (key : Keyed → O.α) (a b o : Array Keyed) (i j : Nat) : Prop := MI (Dnw O key) (a.toList ++ b.toList) o.toList (a.toList.take i).reverse (b.toList.take j).reverse
theorem HI.size {o : Array Keyed} {i j : Nat} (h : HI O key a b o i j) (hi : i ≤ a.size) (hj : j ≤ b.size) : o.size + i + j = a.size + b.size := by
  have := h.perm.length_eq
  simp only [List.length_append, List.length_reverse, List.length_take, Array.length_toList] at this
  omega
structure Ho (O : KeyOrd) (key : Keyed → O.α) (a b o : Array Keyed) (i j : Nat) : Prop where
  gi : HI O key a b o i j
  i0 : 0 < i
  hi : i ≤ a.size
  j0 : 1 < j
  hj : j ≤ b.size
end hi
end L2
namespace L2
open PySem PyProof.Rows
section
variable {prog : Program} {w : World} {A : Around} {E : Value → Shared → Prop} {s : Shared} {O : KeyOrd} {key : Keyed → O.α} {D : Keyed → Prop} {κ : SortKind}
end
end L2
namespace L2
open PySem PyProof.Rows
section
variable {prog : Program} {w : World} {A : Around} {E : Value → Shared → Prop} {s : Shared} {O : KeyOrd} {key : Keyed → O.α} {D : Keyed → Prop} {κ : SortKind} {a₀ : Array Keyed} {pd : Array (Nat × Nat × Nat)} {lo : Nat}
def kb {O : KeyOrd} (key : Keyed → O.α) (p : Array Keyed) (i : Nat) : O.α := key (p.getD i (Value.none, Value.none))
def UpS {O : KeyOrd} (key : Keyed → O.α) (p : Array Keyed) (lo hi : Nat) : Prop := ∀ i j, lo ≤ i → i ≤ j → j < hi → O.kle (kb key p i) (kb key p j)
def DnS {O : KeyOrd} (key : Keyed → O.α) (p : Array Keyed) (lo hi : Nat) : Prop := ∀ i j, lo ≤ i → i ≤ j → j < hi → O.kle (kb key p j) (kb key p i)
structure Bs (κ : SortKind) (a₀ : Array Keyed) (pd : Array (Nat × Nat × Nat)) (lo : Nat) (st : SortSt) : Prop where
  perm : (arrOf st).Perm a₀
  kind : kindOf st = κ
  failed : failedOf st = none
  pend : pendingOf st = pd
  pre : ∀ i, i < lo → (arrOf st)[i]? = a₀[i]?
theorem Bs.size {st : SortSt} (h : Bs κ a₀ pd lo st) : (arrOf st).size = a₀.size := h.perm.size_eq
theorem UpS.more {p : Array Keyed} {k : Nat} (h : UpS key p lo k) (hk : O.blt (kb key p k) (kb key p (k - 1)) = false) : UpS key p lo (k + 1) := by
  intro i j hl hij hj
  by_cases hjk : j < k
  · exact h i j hl hij hjk
  · obtain rfl : j = k := by omega
    by_cases hi : i = j
    · rw [hi]; exact KeyOrd.kle_refl _
    · exact KeyOrd.kle_trans (h i (j - 1) hl (by omega) (by omega)) hk
theorem DnS.more {p q : Array Keyed} {k : Nat} (h : DnS key p lo k) (e : ∀ i, kb key q i = kb key p i) (hk : O.kle (kb key p k) (kb key p (k - 1))) : DnS key q lo (k + 1) := by
  intro i j hl hij hj
  rw [e, e]
  by_cases hjk : j < k
  · exact h i j hl hij hjk
  · obtain rfl : j = k := by omega
    by_cases hi : i = j
    · rw [hi]; exact KeyOrd.kle_refl _
    · exact KeyOrd.kle_trans hk (h i (j - 1) hl (by omega) (by omega))
end
end L2
namespace L2
open PySem PyProof.Rows
section
variable {prog : Program} {w : World} {A : Around} {E : Value → Shared → Prop} {s : Shared} {O : KeyOrd} {key : Keyed → O.α} {D : Keyed → Prop} {κ : SortKind} {a₀ : Array Keyed} {pd : Array (Nat × Nat × Nat)} {lo : Nat}
structure RJ (O : KeyOrd) (key : Keyed → O.α) (κ : SortKind) (a₀ : Array Keyed) (tl : List Keyed) (m : Nat) (st : SortSt) : Prop where
  perm : (arrOf st).toList.Perm a₀.toList
  kind : kindOf st = κ
  failed : failedOf st = none
  runs : ∃ C, (arrOf st).toList = C ++ tl ∧ C.length = m ∧ RunsL (Upw O key) (pendingOf st).toList 0 C
theorem RJ.push {st : SortSt} {S rest : List Keyed} {lo n : Nat} (h : RJ O key κ a₀ (S ++ rest) lo st) (hS : S.length = n) (hn : 1 ≤ n) (hu : S.Pairwise (Upw O key)) : RJ O key κ a₀ rest (lo + n) (setPending st ((pendingOf st).push (lo, n, 0))) := by
  obtain ⟨hp, hk, hf', C, hC, hm, hr⟩ := h
  refine ⟨hp, hk, hf', C ++ S, by show (arrOf st).toList = _; rw [hC]; simp, by rw [List.length_append]; omega, ?_⟩
  show RunsL (Upw O key) ((pendingOf st).push (lo, n, 0)).toList 0 (C ++ S)
  rw [Array.toList_push]
  refine hr.append ⟨by show lo = 0 + C.length; omega, hn, S, [], by simp, hS, hu, rfl⟩
end
end L2
namespace L2
open PySem PySem.W PyProof.Rows
structure Sorts (prog : Program) (w : World) (A : Around) (s : Shared) (κ : SortKind) {O : KeyOrd} (key : Value → O.α) (vs : List Value) : Prop where
  kind : ∀ (E : Value → Shared → Prop) (Q : SortKind → Shared → Prop), Q κ s → wpAny (model prog w) A (keyKind' vs.toArray) Q E s
  cmp : ∀ x ∈ vs, ∀ y ∈ vs, ∀ C : Bool → Shared → Prop, C (O.blt (key x) (key y)) s → wpAny (model prog w) A (keyLt' κ x y) C (fun _ _ => False) s
section
variable {prog : Program} {w : World} {A : Around} {E : Value → Shared → Prop} {s : Shared} {vs : List Value} {O : KeyOrd} {key : Value → O.α} {κ : SortKind}
end
theorem TupsH.kept {h h' : Heap} {rs : List RA} (t : TupsH h rs) (kp : ∀ b o, h.get? b = some o → h'.get? b = some o) : TupsH h' rs := fun x hx => by
  obtain ⟨o, t1, u1, n, ho, z⟩ := t x hx
  exact ⟨o, t1, u1, n, kp _ _ ho, z⟩
section
variable {X : Cx}
end
end L2
namespace L2
open PySem PySem.W PyProof.Rows
section
variable {prog : Program} {w : World} {A : Around} {E : Value → Shared → Prop} {s : Shared}
theorem collect_src {T : String} {r d : Addr} {n : Nat} {P : Nat → Value → Prop} {OK : Heap → Prop} {Q : List Value → Shared → Prop} (S : KdlSrc prog w T r d n P OK) (hh : A.handled = none) (hok : OK s.heap) (hn : n ≤ sizeLine)
    (h : ∀ h' tk (acc : Array Value), (∀ b o, s.heap.get? b = some o → h'.get? b = some o) → s.heap.objs.size ≤ h'.objs.size → ItemsOf P acc n → Q acc.toList { s with heap := h', toks := tk }) : wpAny (model prog w) A (collect (.ref r)) Q E s := by
  unfold collect
  refine wpAny_bind (wpAny_runValue (codeAny_builtin entry_proto_collect' ?_))
  show wpAny _ _ (do again (.builtin "list.__iadd__" ⟨[← newList [], .ref r], []⟩)) _ _ s
  refine wpAny_bind (wpAny_newList (wpAny_pure ⟨Code.quiet_builtin _ (by decide +kernel), codeAny_builtin entry_list_iadd' ?_⟩))
  show wpAny _ _ (Builtin.List.listExtendWith (.ref s.heap.objs.size) (.ref r) (.ref s.heap.objs.size)) _ _ { s with heap := s.heap.push (seqObj "list" #[] 0) }
  have hS : (s.heap.push (seqObj "list" #[] 0)).get? s.heap.objs.size = some { cls := .type "list", data := .seq #[] 0 } := Heap.get?_push_size _ rfl
  rw [Around.under_plainId PySem.F.plain_list_iadd _]
  refine kdl_extend (A := A) (R := fun r s' => match r with
      | Except.ok (Flow.ret v) => wpAny (model prog w) A (match v with
        | .ref a => do match (← load a).data with
          | .seq xs _ => pure xs.toList
          | _ => unsupported "internal:collect"
        | _ => unsupported "internal:collect") Q E s'
      | Except.ok _ => False
      | Except.error e => E e s') (s := { s with heap := s.heap.push (seqObj "list" #[] 0) }) S hh (S.keep _ _ hok fun b _ o e => Heap.get?_push_of_some _ e) s.heap.objs.size (Nat.ne_of_gt (S.there _ hok).1) (Nat.ne_of_gt (S.there _ hok).2) (.ref s.heap.objs.size) 0 hS (fun h' tk acc c' hk hS' hacc => ?_) hn
  show wpAny (model prog w) A (do
      let o ← load s.heap.objs.size
      match o.data with
      | .seq xs _ => pure xs.toList
      | _ => unsupported "internal:collect") Q E { s with heap := h', toks := tk }
  refine wpAny_bind (wpAny_load hS' ?_)
  exact wpAny_pure (h h' tk acc (fun b o e => hk b o (Nat.ne_of_lt (Heap.lt_size e)) (Heap.get?_push_of_some _ e)) (Nat.le_of_lt (Heap.lt_size hS')) hacc)
end
def numH : Value → Int
  | .int i _ => i
  | _ => 0
section
variable {X : Cx}
end
end L2
namespace L2
open PySem PySem.W PyProof.Rows
def Rises (xs : List Nat) : Prop := xs.Pairwise (· < ·)
theorem Rises.le {xs : Array Nat} (h : Rises xs.toList) {i k x y : Nat} (hi : xs[i]? = some x) (hk : xs[k]? = some y) (l : i ≤ k) : x ≤ y := by
  rcases Nat.lt_or_ge i k with l' | l'
  · rw [← Array.getElem?_toList] at hi hk
    obtain ⟨a, rfl⟩ := List.getElem?_eq_some_iff.mp hi
    obtain ⟨b, rfl⟩ := List.getElem?_eq_some_iff.mp hk
    exact Nat.le_of_lt (List.pairwise_iff_getElem.mp h i k a b l')
  · have e : i = k := by omega
    subst e
    rw [hi] at hk
    have := Option.some.inj hk
    omega
theorem below_go {xs : Array Nat} (hx : Rises xs.toList) {j : Nat} : ∀ (f lo hi : Nat), lo ≤ hi → hi ≤ xs.size → hi - lo ≤ f → (∀ i x, i < lo → xs[i]? = some x → x < j) → (∀ i x, hi ≤ i → xs[i]? = some x → j ≤ x) →
    (SetTable.below.go xs j f lo hi) ≤ xs.size ∧ (∀ i x, i < SetTable.below.go xs j f lo hi → xs[i]? = some x → x < j) ∧ (∀ i x, SetTable.below.go xs j f lo hi ≤ i → xs[i]? = some x → j ≤ x) := by
  intro f
  induction f with
  | zero =>
    intro lo hi h1 h2 h3 a b
    have e : lo = hi := by omega
    subst e
    exact ⟨h2, a, b⟩
  | succ f ih =>
    intro lo hi h1 h2 h3 a b
    unfold SetTable.below.go
    split
    · rename_i hl
      have hm : (lo + hi) / 2 < xs.size := by omega
      have em : xs[(lo + hi) / 2]? = some (xs[(lo + hi) / 2]) := Array.getElem?_eq_getElem hm
      have eg : xs.getD ((lo + hi) / 2) j = xs[(lo + hi) / 2] := by unfold Array.getD; rw [dif_pos hm]; rfl
      dsimp only
      rw [eg]
      split
      · rename_i hj
        refine ih _ _ (by omega) h2 (by omega) (fun i x hi' hxx => ?_) b
        exact Nat.lt_of_le_of_lt (hx.le hxx em (by omega)) hj
      · rename_i hj
        refine ih _ _ (by omega) (by omega) (by omega) a (fun i x hi' hxx => ?_)
        have := hx.le em hxx hi'
        omega
    · have e : lo = hi := by omega
      subst e
      exact ⟨h2, a, b⟩
theorem below_at {xs : Array Nat} (hx : Rises xs.toList) (j : Nat) : SetTable.below xs j ≤ xs.size ∧ (∀ i x, i < SetTable.below xs j → xs[i]? = some x → x < j) ∧ (∀ i x, SetTable.below xs j ≤ i → xs[i]? = some x → j ≤ x) := by
  unfold SetTable.below
  refine below_go hx _ _ _ (Nat.zero_le _) (Nat.le_refl _) (Nat.le_refl _) (fun i x h => absurd h (Nat.not_lt_zero _)) (fun i x h e => ?_)
  rw [Array.getElem?_eq_none h] at e
  cases e
theorem below_next {xs : Array Nat} (hx : Rises xs.toList) {i p : Nat} (h : xs[i]? = some p) : SetTable.below xs (p + 1) = i + 1 := by
  obtain ⟨b0, b1, b2⟩ := below_at hx (p + 1)
  rcases Nat.lt_trichotomy (SetTable.below xs (p + 1)) (i + 1) with l | l | l
  · have := b2 i p (by omega) h
    omega
  · exact l
  · have hs : i + 1 < xs.size := by omega
    have e1 := Array.getElem?_eq_getElem hs
    have := b1 (i + 1) _ l e1
    have hi : i < xs.size := by omega
    have e0 := Array.getElem?_eq_getElem hi
    rw [e0] at h
    have hp := Option.some.inj h
    have hlt : xs[i] < xs[i + 1] := by
      have := List.pairwise_iff_getElem.mp hx i (i + 1) (by simpa using hi) (by simpa using hs) (Nat.lt_succ_self _)
      simpa using this
    omega
theorem below_zero {xs : Array Nat} (hx : Rises xs.toList) : SetTable.below xs 0 = 0 := by
  obtain ⟨b0, b1, b2⟩ := below_at hx 0
  rcases Nat.eq_zero_or_pos (SetTable.below xs 0) with e | e
  · exact e
  · have hs : 0 < xs.size := by omega
    exact absurd (b1 0 _ e (Array.getElem?_eq_getElem hs)) (Nat.not_lt_zero _)
theorem slot_free {t : SetTable} (ht : Rises t.place.toList) {j : Nat} (h : ∀ i, t.slot j ≠ .live i) : j ∉ t.place.toList := by
  intro hm
  obtain ⟨i, hi⟩ := List.getElem?_of_mem hm
  rw [Array.getElem?_toList] at hi
  obtain ⟨b0, b1, b2⟩ := below_at ht j
  have hbi : SetTable.below t.place j ≤ i := by
    rcases Nat.lt_or_ge i (SetTable.below t.place j) with l | l
    · exact absurd (b1 i j l hi) (Nat.lt_irrefl _)
    · exact l
  have his : i < t.place.size := by
    rcases Nat.lt_or_ge i t.place.size with l | l
    · exact l
    · rw [Array.getElem?_eq_none l] at hi; cases hi
  have eb := Array.getElem?_eq_getElem (show SetTable.below t.place j < t.place.size by omega)
  have e1 := b2 _ _ (Nat.le_refl _) eb
  have e2 := ht.le eb hi hbi
  refine h (SetTable.below t.place j) ?_
  unfold SetTable.slot
  dsimp only
  rw [eb, show t.place[SetTable.below t.place j] = j from by omega]
  simp
theorem put_up {t : SetTable} (ht : Rises t.place.toList) {j : Nat} (h : j ∉ t.place.toList) : Rises (t.put j).1.place.toList := by
  show Rises (SetTable.insertAt t.place (SetTable.below t.place j) j).toList
  rw [SetTable.toList_insertAt]
  obtain ⟨b0, b1, b2⟩ := below_at ht j
  have lo : ∀ x ∈ t.place.toList.take (SetTable.below t.place j), x < j := fun x hx => by
    obtain ⟨i, hi⟩ := List.getElem?_of_mem hx
    rw [List.getElem?_take] at hi
    split at hi
    · rename_i hl
      rw [Array.getElem?_toList] at hi
      exact b1 i x hl hi
    · cases hi
  have hi : ∀ x ∈ t.place.toList.drop (SetTable.below t.place j), j < x := fun x hx => by
    have hm := List.mem_of_mem_drop hx
    obtain ⟨i, hi⟩ := List.getElem?_of_mem hx
    rw [List.getElem?_drop, Array.getElem?_toList] at hi
    have := b2 _ x (Nat.le_add_right _ _) hi
    rcases Nat.lt_or_ge j x with l | l
    · exact l
    · exact absurd (show j = x by omega) (fun z => h (by rw [z]; exact hm))
  have e : Rises (t.place.toList.take (SetTable.below t.place j) ++ t.place.toList.drop (SetTable.below t.place j)) := by rw [List.take_append_drop]; exact ht
  obtain ⟨e1, e2, _⟩ := List.pairwise_append.mp e
  refine List.pairwise_append.mpr ⟨e1, List.pairwise_cons.mpr ⟨hi, e2⟩, fun a ha b hb => ?_⟩
  rcases List.mem_cons.mp hb with rfl | hb
  · exact lo a ha
  · exact Nat.lt_trans (lo a ha) (hi b hb)
theorem probe_free {t : SetTable} {h : Int} : ∀ (f : Nat) (p : SetTable.Probe), (∀ d, p.dummy = some d → t.slot d = .dummy) → ∀ j dm, SetTable.probe.go t (fun _ => h + 1) h f p = some (.empty j dm) → t.slot j = .empty ∧ ∀ d, dm = some d → t.slot d = .dummy := by
  intro f
  induction f with
  | zero => intro p _ j dm e; cases e
  | succ f ih =>
    intro p hp j dm e
    have adv : ∀ (q : SetTable.Probe), (t.advance q).dummy = q.dummy := fun q => by unfold SetTable.advance; split <;> rfl
    unfold SetTable.probe.go at e
    split at e
    · rename_i hs
      injection e with e
      injection e with e1 e2
      subst e1; subst e2
      exact ⟨hs, hp⟩
    · rename_i hs
      refine ih _ (fun d hd => ?_) j dm e
      rw [adv] at hd
      injection hd with hd
      rw [← hd]
      exact hs
    · rw [if_neg (by simp; omega)] at e
      refine ih _ (fun d hd => ?_) j dm e
      rw [adv] at hd
      exact hp d hd
theorem freeSlot_free {t : SetTable} (ht : Rises t.place.toList) {h : Int} {j : Nat} {b : Bool} (e : t.freeSlot h = some (j, b)) : j ∉ t.place.toList := by
  unfold SetTable.freeSlot at e
  split at e
  · rename_i j0 dm hp
    injection e with e
    obtain ⟨s1, s2⟩ := probe_free _ _ (fun d hd => by cases hd) _ _ hp
    injection e with e1 e2
    cases dm with
    | none =>
      have e1' : j0 = j := e1
      subst e1'
      exact slot_free ht fun i z => by rw [s1] at z; cases z
    | some d =>
      have e1' : d = j := e1
      subst e1'
      exact slot_free ht fun i z => by rw [s2 d rfl] at z; cases z
  · cases e
def TbOk (b : Bool) (t : SetTable) : Prop := Rises t.place.toList ∧ t.led = b
theorem range_up : ∀ n, Rises (Array.range n).toList := fun n => by
  rw [Array.toList_range]
  exact List.pairwise_lt_range
theorem standIn_good {b : Bool} {t : SetTable} (n : Nat) (h : TbOk b t) : TbOk b (t.standIn n) := ⟨range_up n, h.2⟩
theorem orStandIn_good {b : Bool} {t : SetTable} (n : Nat) (h : TbOk b t) : TbOk b (t.orStandIn n) := by
  unfold SetTable.orStandIn
  split
  · exact h
  · exact standIn_good n h
theorem layNew_good {b : Bool} {t : SetTable} (h : TbOk b t) (es : Array (Int × Value)) (k : Int) (x : Value) : TbOk b (layNew t es k x).2.1 := by
  unfold layNew
  split
  · rename_i j wd hf
    exact orStandIn_good _ ⟨put_up h.1 (freeSlot_free h.1 hf), h.2⟩
  · exact standIn_good _ h
theorem live_up {f : Nat → Option Nat} : ∀ (n : Nat), Rises (((List.range n).filterMap fun j => (f j).map (j, ·)).map (·.1)) := by
  intro n
  have hr : (List.range n).Pairwise (· < ·) := List.pairwise_lt_range
  generalize List.range n = l at hr
  induction l with
  | nil => exact .nil
  | cons a l ih =>
    obtain ⟨h1, h2⟩ := List.pairwise_cons.mp hr
    cases hf : f a with
    | none => rw [List.filterMap_cons_none (by rw [hf]; rfl)]; exact ih h2
    | some v =>
      rw [List.filterMap_cons_some (b := (a, v)) (by rw [hf]; rfl), List.map_cons]
      refine List.pairwise_cons.mpr ⟨fun x hx => ?_, ih h2⟩
      obtain ⟨⟨y, z⟩, hy, rfl⟩ := List.mem_map.mp hx
      obtain ⟨c, hc, e⟩ := List.mem_filterMap.mp hy
      obtain ⟨_, _, e⟩ := Option.map_eq_some_iff.mp e
      injection e with e1 e2
      subst e1
      exact h1 _ hc
theorem relayAll_good {b : Bool} {t : SetTable} (h : TbOk b t) (es : Array (Int × Value)) (k : Nat) : TbOk b (relayAll t es k).2.1 := by
  unfold relayAll
  split
  · rename_i t' order hr
    dsimp only
    split
    · unfold SetTable.relaid SetTable.laid at hr
      obtain ⟨ow, _, e⟩ := Option.bind_eq_some_iff.mp hr
      have e' := Option.some.inj e
      have e1 := congrArg Prod.fst e'
      dsimp only at e1
      rw [← e1]
      exact ⟨live_up _, h.2⟩
    · exact standIn_good _ h
  · exact standIn_good _ h
end L2
namespace L2
open PySem PySem.W PyProof.Rows
def leds (w : World) : Bool := !w.params.followText "set-order"
section
variable (prog : Program) (w : World)
structure SetP (es : Array (Int × Value)) (t : SetTable) (ds : List Int) : Prop where
  el : ElemsOf (intKind prog w) es.toList
  ks : (es.toList.map fun e => numH e.2).Perm ds
  nd : ds.Nodup
  sz : es.size < scanBound
  ft : t.fits es.size = true
  tb : TbOk (leds w) t
def setObj (es : Array (Int × Value)) (ep : Nat) (t : SetTable) : Obj := { cls := .type "set", dict := none, data := .set es ep t }
def SetI (a : Addr) (ds : List Int) (h : Heap) : Prop := ∃ es ep t, h.get? a = some (setObj es ep t) ∧ SetP prog w es t ds
end
section
variable {prog : Program} {w : World} {A : Around} {E : Value → Shared → Prop} {s : Shared} {es : Array (Int × Value)} {t : SetTable} {ds : List Int} {a : Addr}
theorem SetP.len (h : SetP prog w es t ds) : ds.length = es.size := by rw [← h.ks.length_eq, List.length_map, Array.length_toList]
theorem SetP.ints (h : SetP prog w es t ds) : ∀ e ∈ es.toList, ∃ k u, e.2 = .int k u := fun e he => by
  obtain ⟨⟨k, hk, _⟩, _⟩ := h.el e he
  obtain ⟨u, e⟩ := Value.isInt_shape (show Value.isInt k e.2 = true from hk)
  exact ⟨k, u, e⟩
theorem SetP.has (h : SetP prog w es t ds) (k : Int) : (∃ e ∈ es.toList, (intKind prog w).is k e.2 = true) ↔ k ∈ ds := by
  rw [← h.ks.mem_iff, List.mem_map]
  constructor
  · rintro ⟨e, he, hk⟩
    refine ⟨e, he, ?_⟩
    obtain ⟨u, e'⟩ := Value.isInt_shape (show Value.isInt k e.2 = true from hk)
    rw [e']; rfl
  · rintro ⟨e, he, hk⟩
    refine ⟨e, he, ?_⟩
    obtain ⟨m, u, e'⟩ := h.ints e he
    rw [e'] at hk ⊢
    have hk' : m = k := hk
    rw [hk']
    exact intKind_is prog w k u
theorem SetP.more (h : SetP prog w es t ds) {k : Int} (u : Tok) (hk : k ∉ ds) (hr : ds.length + 1 < scanBound) : SetP prog w (layNew t es (hashInt k) (.int k u)).1 (layNew t es (hashInt k) (.int k u)).2.1 (ds ++ [k]) := by
  have hp := layNew_perm t es (hashInt k) (.int k u)
  rw [Array.toList_push] at hp
  have hl := h.len
  refine ⟨(h.el.push (k := k) (intKind_is prog w k u) rfl).perm hp, ?_, ?_, ?_, layNew_fits .., layNew_good h.tb ..⟩
  · refine (hp.map _).trans ?_
    rw [List.map_append]
    exact h.ks.append_right _
  · refine List.nodup_append.mpr ⟨h.nd, List.nodup_cons.mpr ⟨List.not_mem_nil, .nil⟩, fun x hx y hy => ?_⟩
    rw [List.mem_singleton] at hy
    subst hy
    exact fun z => hk (by rw [← z]; exact hx)
  · rw [← Array.length_toList, hp.length_eq, List.length_append, Array.length_toList]
    show es.size + 1 < scanBound
    omega
theorem SetP.relay (h : SetP prog w es t ds) (n : Nat) : SetP prog w (relayAll t es n).1 (relayAll t es n).2.1 ds := by
  have hp := relayAll_perm t es n
  refine ⟨h.el.perm hp, (hp.map _).trans h.ks, h.nd, ?_, relayAll_fits .., relayAll_good h.tb ..⟩
  rw [← Array.length_toList, hp.length_eq, Array.length_toList]
  exact h.sz
theorem SetP.fresh : SetP prog w #[] (.fresh 0 0 (leds w)) [] := by
  refine ⟨fun e z => by simp at z, List.Perm.nil, List.Pairwise.nil, by decide, rfl, List.Pairwise.nil, rfl⟩
theorem stored {h : Heap} {ep : Nat} {es' : Array (Int × Value)} {t' : SetTable} (ho : h.get? a = some (setObj es ep t)) : (h.update a (Obj.putSet es' t')).get? a = some (setObj es' (ep + 1) t') :=
  Heap.get?_update_self (Obj.putSet es' t') ho rfl
theorem wp_setAddI {k : Int} {u : Tok} {Q : Bool → Shared → Prop} (hS : SetI prog w a ds s.heap) (hr : ds.length + 1 < scanBound)
    (h : ∀ h', Heap.SameBut a s.heap h' → SetI prog w a (if k ∈ ds then ds else ds ++ [k]) h' → Q (decide (k ∉ ds)) { s with heap := h' }) :
    wpAny (model prog w) A (setAddHashed a (.int k u) (hashInt k)) Q E s := by
  obtain ⟨es, ep, t, ho, P⟩ := hS
  have hk : (intKind prog w).is k (.int k u) = true := intKind_is prog w k u
  unfold setAddHashed setAddHashedIn
  refine wpAny_holding (wpAny_bind (wpAny_setState_of ho rfl P.ft ?_))
  dsimp only
  rw [if_pos (byScan_of (knd := intKind prog w) rfl P.sz P.el)]
  unfold setAddByScan
  refine wpAny_bind (wpAny_bind (wpAny_rule (wpAny_bind (wpAny_setScan_of (knd := intKind prog w) hk ho rfl P.ft P.el ?_))))
  cases hf : es.toList.findIdx? (fun e => (intKind prog w).is k e.2) with
  | some j =>
    obtain ⟨hj, hpj, _⟩ := List.findIdx?_eq_some_iff_getElem.mp hf
    have hm : k ∈ ds := (P.has k).mp ⟨_, List.getElem_mem hj, hpj⟩
    refine wpAny_pure (wpAny_pure ?_)
    have z := h s.heap (Heap.SameBut.refl a s.heap) ⟨es, ep, t, ho, by rw [if_pos hm]; exact P⟩
    rw [decide_eq_false (fun c => c hm)] at z
    exact z
  | none =>
    have hm : k ∉ ds := fun z => by
      obtain ⟨e, he, w'⟩ := (P.has k).mpr z
      have := List.findIdx?_eq_none_iff.mp hf e he
      rw [w'] at this
      cases this
    have P1 := P.more u hm hr
    dsimp only
    generalize layNew t es (hashInt k) (.int k u) = L at P1 ⊢
    obtain ⟨es1, t1, wd, gv⟩ := L
    dsimp only at P1 ⊢
    have fin : ∀ h', Heap.SameBut a s.heap h' → SetI prog w a (ds ++ [k]) h' → Q true { s with heap := h' } := fun h' sb S' => by
      have z := h h' sb (by rw [if_neg hm]; exact S')
      rw [decide_eq_true hm] at z
      exact z
    refine wpAny_bind (wpAny_mono (Q := fun _ s' => s' = s) (E := E) (by cases gv <;> first | exact wpAny_pure rfl | exact wpAny_rule rfl) (fun _ s' e => ?_) fun _ _ z => z)
    subst e
    refine wpAny_ite_split (fun _ => wpAny_bind (wpAny_pure ?_)) (fun _ => wpAny_bind (wpAny_pure ?_))
    all_goals
      simp only [↓reduceIte]
      refine wpAny_bind (wpAny_storeSet_of ho rfl ?_ (fits_of_scanBound P1.sz))
      have o1 := stored (es' := es1) (t' := t1) ho
      have sb1 := Heap.SameBut.update s'.heap a (Obj.putSet es1 t1)
      split
      · have P2 := P1.relay (SetTable.grown es1.size)
        generalize relayAll t1 es1 (SetTable.grown es1.size) = L at P2 ⊢
        obtain ⟨es2, t2, gv2⟩ := L
        dsimp only at P2 ⊢
        refine wpAny_bind (wpAny_mono (Q := fun _ s2 => s2 = { s' with heap := s'.heap.update a (Obj.putSet es1 t1) }) (E := E) (by cases gv2 <;> first | exact wpAny_pure rfl | exact wpAny_rule rfl) (fun _ s2 e => ?_) fun _ _ z => z)
        subst e
        refine wpAny_bind (wpAny_storeSet_of o1 rfl ?_ (fits_of_scanBound P2.sz))
        refine wpAny_pure (wpAny_pure ?_)
        exact fin _ (sb1.trans (Heap.SameBut.update _ a _)) ⟨_, _, _, stored o1, P2⟩
      · refine wpAny_pure (wpAny_pure ?_)
        exact fin _ sb1 ⟨_, _, _, o1, P1⟩
end
end L2
namespace L2
open PySem PySem.W PyProof.Rows
def ins (ds : List Int) (k : Int) : List Int := if k ∈ ds then ds else ds ++ [k]
theorem ins_len (ds : List Int) (k : Int) : (ins ds k).length ≤ ds.length + 1 := by
  unfold ins
  split
  · exact Nat.le_succ _
  · rw [List.length_append]; exact Nat.le_refl _
theorem ins_mem {ds : List Int} {k x : Int} : x ∈ ins ds k ↔ x ∈ ds ∨ x = k := by
  unfold ins
  split
  · rename_i h
    exact ⟨.inl, fun z => z.elim id fun e => by rw [e]; exact h⟩
  · rw [List.mem_append, List.mem_singleton]
theorem folds_mem {x : Int} : ∀ (ns ds : List Int), x ∈ ns.foldl ins ds ↔ x ∈ ds ∨ x ∈ ns
  | [], ds => by simp
  | n :: ns, ds => by
    rw [List.foldl_cons, folds_mem ns, ins_mem, List.mem_cons]
    constructor
    · rintro ((h | h) | h)
      · exact .inl h
      · exact .inr (.inl h)
      · exact .inr (.inr h)
    · rintro (h | h | h)
      · exact .inl (.inl h)
      · exact .inl (.inr h)
      · exact .inr h
theorem SetI.at' {prog : Program} {w : World} {a : Addr} {ds : List Int} {h h' : Heap} (x : SetI prog w a ds h) (k : ∀ o, h.get? a = some o → h'.get? a = some o) : SetI prog w a ds h' :=
  let ⟨es, ep, t, ho, P⟩ := x
  ⟨es, ep, t, k _ ho, P⟩
section
variable {prog : Program} {w : World} {A : Around} {R : Result → Shared → Prop} {I : Addr} {fp wr : List Addr} {G : Array GenState → Array GenState → Prop} {n : Nat} {P : Nat → Value → Prop} {St : Nat → Shared → Prop}
theorem loop_setI (W : WalksS prog w A.in1 I fp wr G n P St) (S : Addr) (hSf : S ∉ fp) : ∀ (rest : List Int) (i : Nat) (ds : List Int) (s : Shared), i + rest.length = n → (∀ j k, rest[j]? = some k → ∀ v, P (i + j) v → ∃ t, v = .int k t) → ds.length + rest.length < scanBound → St i s → SetI prog w S ds s.heap →
    (∀ s', Moved (S :: wr) G s s' → SetI prog w S (rest.foldl ins ds) s'.heap → R (.ok (.ret .none)) s') → codeAny (model prog w) A (.builtin "set.update.loop" ⟨[.ref S, .ref I], []⟩) R s := by
  have off : S ∉ wr := fun z => hSf (W.sub _ z)
  have sub : ∀ b ∈ wr, b ∈ S :: wr := fun b hb => List.mem_cons_of_mem _ hb
  intro rest
  induction rest with
  | nil =>
    intro i ds s hi _ _ st hS hR
    have e : i = n := hi
    subst e
    refine codeAny_builtin F.entry_set_update_loop ?_
    rw [Around.under_plainId F.plain_set_update_loop _]
    show wpAny _ A.in1 (pyNext (.ref I) >>= _) _ _ s
    refine wpAny_bind (W.done s _ _ st fun s' m => ?_)
    exact wpAny_pure (hR s' (m.mono sub) (hS.at' fun o e => m.heap S o off e))
  | cons k rest ih =>
    intro i ds s hi hv hz st hS hR
    have hlt : i < n := by simp at hi; omega
    refine codeAny_builtin F.entry_set_update_loop ?_
    rw [Around.under_plainId F.plain_set_update_loop _]
    show wpAny _ A.in1 (pyNext (.ref I) >>= _) _ _ s
    refine wpAny_bind (W.item i s _ _ hlt st fun v s' hP st' m => ?_)
    obtain ⟨t, rfl⟩ := hv 0 k rfl v hP
    have S1 : SetI prog w S ds s'.heap := hS.at' fun o e => m.heap S o off e
    show wpAny _ A.in1 (holding [Value.int k t] (setAdd S (.int k t)) >>= _) _ _ s'
    refine wpAny_bind (wpAny_holding ?_)
    unfold setAdd
    refine wpAny_holding (wpAny_bind ((intKind prog w).pyHash (k := k) (intKind_is _ _ _ _) ?_))
    refine wp_setAddI (s := { s' with toks := s'.toks + 1 }) S1 (by rw [List.length_cons] at hz; omega) fun h' sb S2 => ?_
    refine wpAny_pure ⟨plainId_quiet F.plain_set_update_loop _, ih (i + 1) (ins ds k) _ (by rw [List.length_cons] at hi; omega) (fun j k' hj v' hp => hv (j + 1) k' hj v' (by rw [show i + (j + 1) = i + 1 + j by omega]; exact hp)) (by have := ins_len ds k; rw [List.length_cons] at hz; omega) (W.frame _ s' _ _ st' (Nat.le_succ _) fun b hb o e => ?_) S2 fun s'' m2 S3 => ?_⟩
    · rw [sb.2 b (fun z => hSf (by rw [← z]; exact hb))]; exact e
    · refine hR s'' (Moved.trans W.gtrans ((m.mono sub).then_heap (Nat.le_succ _) fun b o hb e => ?_) m2) S3
      rw [sb.2 b (fun z => hb (by rw [z]; exact List.mem_cons_self))]; exact e
end
section
variable {prog : Program} {w : World} {A : Around} {E : Value → Shared → Prop} {s : Shared}
theorem set_new (a : Value) {Q₁ : Value → Shared → Prop} (h : Q₁ (.ref s.heap.objs.size) { s with heap := s.heap.push (setObj #[] 0 (.fresh 0 0 (leds w))) }) :
    codeAny (model prog w) A (.call (.builtin "set.__new__") ⟨[.type "set", a], []⟩) (wants Q₁ E) s := by
  refine codeAny_of_tree ?_
  show wpAny _ A.in1 (do checkBuiltinCall "set.__new__" ⟨[.type "set", a], []⟩; again (.builtin "set.__new__" ⟨[.type "set", a], []⟩)) _ _ s
  refine wpAny_bind (wpAny_of_eq (F.newCall_set_1 a) (wpAny_pure ⟨plainId_quiet F.plain_set_new _, codeAny_builtin F.entry_set_new ?_⟩))
  rw [Around.under_plainId F.plain_set_new _]
  unfold Builtin.«set.__new__» Builtin.Frozenset.newClass
  have hsub := sub_set_self
  obtain ⟨hp, g, d, tk, os⟩ := s
  dsimp only
  wp_walk
  refine wpAny_askSetting (wpAny_pure ?_)
  dsimp only
  simp only [newObj]
  refine wpAny_bind (wpAny_alloc (wpAny_pure ?_))
  exact wpAny_pure h
end
end L2
namespace L2
open PySem PySem.W PyProof.Rows
section
variable {prog : Program} {w : World} {A : Around} {E : Value → Shared → Prop} {s : Shared}
end
end L2
namespace L2
open PySem PySem.W PyProof.Rows
theorem own_si : Manifest.owners.lookup (String.ofList ['r', 'o', 't', 'a', 'r', 'e', 't', 'i', '_', 't', 'e', 's'].reverse) = some Manifest.sig_set_iterator := by kernel_rfl
theorem slot_siN : Slot "set_iterator" "__next__" "set_iterator.__next__" :=
  .of (owner := "set_iterator") (n := "__next__") (by rw [typeLookup_type, builtinLookup_eq_fast]; kernel_rfl) (by decide +kernel) (by decide +kernel) (by decide +kernel) (.inl (by decide +kernel)) (by rw [isSubtype_type]; kernel_rfl)
theorem entry_siN : entryFor table "set_iterator.__next__" = some Builtin.«set_iterator.__next__» := entryFor_of_tree (by kernel_rfl)
theorem entry_setI : entryFor table "set.__iter__" = some Builtin.«frozenset.__iter__» := entryFor_alias (id' := "frozenset.__iter__") (by kernel_rfl) rfl (by decide +kernel) (by kernel_rfl)
theorem args_siN (a : Value) : argsOk "set_iterator.__next__" ⟨[a], []⟩ := by
  unfold argsOk
  rw [signature?_of (id := "set_iterator.__next__") (n := ['_', '_', 't', 'x', 'e', 'n', '_', '_']) (o := ['r', 'o', 't', 'a', 'r', 'e', 't', 'i', '_', 't', 'e', 's']) (by kernel_rfl) own_si]
  kernel_rfl
theorem out_perm {α : Type} {l : List α} {i : Nat} (h : i < l.length) : l.Perm (l[i] :: l.eraseIdx i) := by
  rw [List.eraseIdx_eq_take_drop_succ]
  refine List.Perm.trans ?_ List.perm_middle
  rw [← List.drop_eq_getElem_cons h, List.take_append_drop]
theorem pick_go {α : Type} (f : Nat → Nat) : ∀ (n k : Nat) (l : List α) (out : Array α), l.length = n → (pickOrder.go f n k l out).toList.Perm (out.toList ++ l)
  | 0, k, l, out, h => by
    cases l with
    | nil => unfold pickOrder.go; rw [List.append_nil]
    | cons _ _ => cases h
  | n + 1, k, l, out, h => by
    have hl : f k % l.length < l.length := Nat.mod_lt _ (by omega)
    unfold pickOrder.go
    rw [List.getElem?_eq_getElem hl]
    dsimp only
    refine (pick_go f n (k + 1) _ _ (by rw [List.length_eraseIdx_of_lt hl]; omega)).trans ?_
    rw [Array.toList_push, List.append_assoc]
    refine List.Perm.append_left _ ?_
    exact (out_perm hl).symm
theorem pick_perm {α : Type} (f : Nat → Nat) (xs : Array α) : (pickOrder f xs).toList.Perm xs.toList := by
  unfold pickOrder
  have := pick_go f xs.size 0 xs.toList #[] (by rw [Array.length_toList])
  simpa using this
section
variable {prog : Program} {w : World} {A : Around} {E : Value → Shared → Prop}
theorem wp_choose {src : Source} {n : Nat} {s : Shared} {Q : Nat → Shared → Prop} (hn : n ≠ 0) (h : ∀ i dr, i < n → Q i { s with drawn := dr }) : wpAny (model prog w) A (choose src n) Q E s :=
  fun _ _ _ => ⟨hn, h _ _ (Nat.mod_lt _ (Nat.pos_of_ne_zero hn))⟩
theorem wp_draw {α : Type} : ∀ (n : Nat) (xs : List α) (s : Shared) {Q : List α → Shared → Prop}, xs.length = n → (∀ ys dr, ys.Perm xs → Q ys { s with drawn := dr }) → wpAny (model prog w) A (drawOrder n xs) Q E s
  | 0, [], s, Q, _, h => wpAny_pure (h [] s.drawn (.refl _))
  | n + 1, x :: xs, s, Q, hl, h => by
    unfold drawOrder
    refine wpAny_bind (wp_choose (by simp) fun i dr hi => ?_)
    have hi' : i < (x :: xs).length := hi
    rw [List.getElem?_eq_getElem hi']
    dsimp only
    refine wpAny_bind (wp_draw n _ _ (by rw [List.length_eraseIdx_of_lt hi']; omega) fun ys dr2 hp => wpAny_pure ?_)
    exact h _ dr2 ((hp.cons _).trans (out_perm hi').symm)
  | 0, _ :: _, _, _, hl, _ => nomatch hl
  | _ + 1, [], _, _, hl, _ => nomatch hl
def siObj (f : Value) (i : Nat) (a : Addr) (n ep : Nat) : Obj := { cls := .type "set_iterator", data := .fields #[f, .int i 0, .ref a, .int n 0, .int ep 0] }
variable {s : Shared} {a it : Addr} {es : Array (Int × Value)} {ep : Nat} {t : SetTable} {ds : List Int}
theorem wp_nextP {slot given ep' : Nat} {Q : Option (Value × Nat) → Shared → Prop} (ho : s.heap.get? a = some (setObj es ep t)) (P : SetP prog w es t ds) (hb : leds w = true) (hd : ¬ (t.plain = false ∧ 1 < es.size))
    (h : Q (match es[SetTable.below t.place slot]?, t.place[SetTable.below t.place slot]? with | some (_, x), some j => some (x, j + 1) | _, _ => none) s) : wpAny (model prog w) A (setNext a slot given ep') Q E s := by
  have hb' : w.params.followText "set-order" = false := by unfold leds at hb; simpa using hb
  unfold setNext
  refine wpAny_bind (wpAny_setState_of ho rfl P.ft ?_)
  dsimp only
  unfold setsByText
  refine wpAny_bind (wpAny_bind (wpAny_askSetting (wpAny_pure ?_)))
  show wpAny _ _ (if w.params.followText "set-order" = true then _ else _) _ _ _
  rw [if_neg (by rw [hb']; decide)]
  show wpAny _ _ (if (!t.plain && decide (es.size > 1)) = true then _ else _) _ _ _
  rw [if_neg (by intro z; simp at z; exact hd z)]
  refine wpAny_bind ?_
  show wpAny _ _ (if (!t.led && !es.isEmpty) = true then _ else pure ()) _ _ _
  rw [if_neg (by rw [P.tb.2, hb]; simp)]
  exact wpAny_pure (wpAny_pure h)
theorem wp_nextT {slot given : Nat} {Q : Option (Value × Nat) → Shared → Prop} (ho : s.heap.get? a = some (setObj es ep t)) (P : SetP prog w es t ds) (hb : leds w = false)
    (h : Q (((pickOrder (w.params.setOrder a ep) es)[given]?).map fun e => (e.2, slot)) s) : wpAny (model prog w) A (setNext a slot given ep) Q E s := by
  have hb' : w.params.followText "set-order" = true := by unfold leds at hb; simpa using hb
  unfold setNext
  refine wpAny_bind (wpAny_setState_of ho rfl P.ft ?_)
  dsimp only
  unfold setsByText
  refine wpAny_bind (wpAny_bind (wpAny_askSetting (wpAny_pure ?_)))
  show wpAny _ _ (if w.params.followText "set-order" = true then _ else _) _ _ _
  rw [if_pos hb', if_neg (by simp)]
  refine wpAny_bind ?_
  unfold setWalk
  refine wpAny_bind (wpAny_setState_of ho rfl P.ft ?_)
  dsimp only
  unfold setsByText
  refine wpAny_bind (wpAny_bind (wpAny_askSetting (wpAny_pure ?_)))
  show wpAny _ _ (if w.params.followText "set-order" = true then _ else _) _ _ _
  rw [if_pos hb']
  refine wpAny_bind (wpAny_askSetting (wpAny_pure (wpAny_pure h)))
theorem siT {f : Value} {i n : Nat} (hit : s.heap.get? it = some (siObj f i a n ep)) : s.TypeIs (.ref it) "set_iterator" := ⟨_, hit, rfl⟩
theorem next_int {slot i nx : Nat} {x : Value} {Q : Option Value → Shared → Prop} (hit : s.heap.get? it = some (siObj (.int slot 0) i a es.size ep)) (ho : s.heap.get? a = some (setObj es ep t)) (P : SetP prog w es t ds)
    (hx : ∀ (A' : Around) (Q' : Option (Value × Nat) → Shared → Prop) (E' : Value → Shared → Prop), Q' (some (x, nx)) s → wpAny (model prog w) A' (setNext a slot i ep) Q' E' s)
    (hQ : ∀ h', h'.get? it = some (siObj (.int nx 0) (i + 1) a es.size ep) → Heap.SameBut it s.heap h' → Q (some x) { s with heap := h' }) : wpAny (model prog w) A (pyNext (.ref it)) Q E s := by
  unfold pyNext
  refine wpAny_bind (wpAny_attempt (wpAny_callSpecial?_slot (name := Str.ofString "__next__") (siT hit) slot_siN (wpAny_call_entry slot_siN (siT hit) entry_siN ?_ (args_siN _))))
  unfold Builtin.«set_iterator.__next__»
  refine wpAny_bind (wpAny_pure ?_)
  refine wpAny_bind (wpAny_fieldsOf hit rfl ?_)
  dsimp only
  refine wpAny_bind (wpAny_setEntries_of ho rfl P.ft ?_)
  rw [if_neg (by simp)]
  rw [Int.toNat_natCast, Int.toNat_natCast, Int.toNat_natCast]
  refine wpAny_bind (hx _ _ _ ?_)
  dsimp only
  refine wpAny_bind (wpAny_setField hit rfl (by simp) ?_)
  have g1 : (s.heap.update it (Obj.mapFields (·.setIfInBounds 0 (rawInt (nx : Int))))).get? it = some (siObj (.int nx 0) i a es.size ep) := Heap.get?_update_self _ hit rfl
  refine wpAny_bind (wpAny_setField g1 rfl (by simp) ?_)
  have g2 : ((s.heap.update it (Obj.mapFields (·.setIfInBounds 0 (rawInt (nx : Int))))).update it (Obj.mapFields (·.setIfInBounds 1 (rawInt ((i : Int) + 1))))).get? it = some (siObj (.int nx 0) (i + 1) a es.size ep) := Heap.get?_update_self _ g1 rfl
  exact wpAny_pure ⟨_, rfl, wpAny_pure (hQ _ g2 ((Heap.SameBut.update ..).trans (Heap.SameBut.update ..)))⟩
theorem stop_iter {f : Value} {i n k : Nat} {v : Value} {Q : Option Value → Shared → Prop} (hh : A.handled = none) (hit : s.heap.get? it = some (siObj f i a n ep)) (hk : k < 5)
    (hQ : ∀ h', Heap.ExtBut it s.heap h' → Q none { s with heap := h' }) :
    wpAny (model prog w) A.in1 (do setField (.ref it) k v; raiseNew (← newExc (.type "StopIteration") [])) (fun fin s' => ∃ u, fin = Fin.done (Flow.ret u) ∧ wpAny (model prog w) A (pure (some u)) Q E s')
      (fun e s' => wpAny (model prog w) A (do if ← isInstance e (.type "StopIteration") then pure none else throw e) Q E s') s := by
  refine wpAny_bind (wpAny_setField hit rfl (by simpa using hk) ?_)
  refine wpAny_bind ?_
  simp only [newExc, newTuple]
  refine wpAny_bind (wpAny_newObj_type ?_ (by size_fits))
  refine wpAny_bind (m := firstArgMember _ _) (wpAny_of_eq (a := Value.none) (by first | rfl | (simp only [firstArgMember]; rfl)) ?_)
  refine wpAny_newObj_type ?_ (by size_fits)
  simp only [raiseNew]
  refine wpAny_bind (wpAny_handled ?_)
  rw [show A.in1.handled = none from hh]
  refine wpAny_bind (wpAny_pure (wpAny_throw ?_))
  refine wpAny_bind (wpAny_isInstance (T := "StopIteration") (b := true) ⟨_, Heap.get?_push_size _ rfl, rfl⟩ isSubtype_stop ?_)
  exact wpAny_pure (hQ _ (((Heap.SameBut.update ..).extBut.push _).push _))
theorem next_intE {slot i : Nat} {Q : Option Value → Shared → Prop} (hh : A.handled = none) (hit : s.heap.get? it = some (siObj (.int slot 0) i a es.size ep)) (ho : s.heap.get? a = some (setObj es ep t)) (P : SetP prog w es t ds)
    (hx : ∀ (A' : Around) (Q' : Option (Value × Nat) → Shared → Prop) (E' : Value → Shared → Prop), Q' none s → wpAny (model prog w) A' (setNext a slot i ep) Q' E' s)
    (hQ : ∀ h', Heap.ExtBut it s.heap h' → Q none { s with heap := h' }) : wpAny (model prog w) A (pyNext (.ref it)) Q E s := by
  unfold pyNext
  refine wpAny_bind (wpAny_attempt (wpAny_callSpecial?_slot (name := Str.ofString "__next__") (siT hit) slot_siN (wpAny_call_entry slot_siN (siT hit) entry_siN ?_ (args_siN _))))
  unfold Builtin.«set_iterator.__next__»
  refine wpAny_bind (wpAny_pure (wpAny_bind (wpAny_fieldsOf hit rfl ?_)))
  dsimp only
  refine wpAny_bind (wpAny_setEntries_of ho rfl P.ft ?_)
  rw [if_neg (by simp), Int.toNat_natCast, Int.toNat_natCast, Int.toNat_natCast]
  refine wpAny_bind (hx _ _ _ ?_)
  exact stop_iter hh hit (by decide) hQ
theorem next_drw {T : Addr} {js : Array Value} {i j : Nat} {x : Value} {hsh : Int} {Q : Option Value → Shared → Prop} (hit : s.heap.get? it = some (siObj (.ref T) i a es.size ep)) (ho : s.heap.get? a = some (setObj es ep t)) (P : SetP prog w es t ds)
    (hT : ∀ (A' : Around) (Q' : Option (Array Value) → Shared → Prop) (E' : Value → Shared → Prop), Q' (some js) s → wpAny (model prog w) A' (seqItems? (.ref T)) Q' E' s) (hj : js[i]? = some (.int j 0)) (hx : es[j]? = some (hsh, x))
    (hQ : ∀ h', h'.get? it = some (siObj (.ref T) (i + 1) a es.size ep) → Heap.SameBut it s.heap h' → Q (some x) { s with heap := h' }) : wpAny (model prog w) A (pyNext (.ref it)) Q E s := by
  unfold pyNext
  refine wpAny_bind (wpAny_attempt (wpAny_callSpecial?_slot (name := Str.ofString "__next__") (siT hit) slot_siN (wpAny_call_entry slot_siN (siT hit) entry_siN ?_ (args_siN _))))
  unfold Builtin.«set_iterator.__next__»
  refine wpAny_bind (wpAny_pure (wpAny_bind (wpAny_fieldsOf hit rfl ?_)))
  dsimp only
  refine wpAny_bind (wpAny_setEntries_of ho rfl P.ft ?_)
  rw [if_neg (by simp)]
  refine wpAny_bind (hT _ _ _ ?_)
  dsimp only
  rw [Int.toNat_natCast, hj]
  dsimp only
  unfold setNextDrawn
  rw [Int.toNat_natCast, Int.toNat_natCast]
  refine wpAny_bind (wpAny_bind (wpAny_setState_of ho rfl P.ft ?_))
  dsimp only
  rw [if_neg (by simp), hx]
  dsimp only
  refine wpAny_pure (wpAny_bind (wpAny_setField hit rfl (by simp) ?_))
  have g1 : (s.heap.update it (Obj.mapFields (·.setIfInBounds 1 (rawInt ((i : Int) + 1))))).get? it = some (siObj (.ref T) (i + 1) a es.size ep) := Heap.get?_update_self _ hit rfl
  exact wpAny_pure ⟨_, rfl, wpAny_pure (hQ _ g1 (Heap.SameBut.update ..))⟩
theorem next_drwE {T : Addr} {js : Array Value} {i : Nat} {Q : Option Value → Shared → Prop} (hh : A.handled = none) (hit : s.heap.get? it = some (siObj (.ref T) i a es.size ep)) (ho : s.heap.get? a = some (setObj es ep t)) (P : SetP prog w es t ds)
    (hT : ∀ (A' : Around) (Q' : Option (Array Value) → Shared → Prop) (E' : Value → Shared → Prop), Q' (some js) s → wpAny (model prog w) A' (seqItems? (.ref T)) Q' E' s) (hj : js[i]? = none)
    (hQ : ∀ h', Heap.ExtBut it s.heap h' → Q none { s with heap := h' }) : wpAny (model prog w) A (pyNext (.ref it)) Q E s := by
  unfold pyNext
  refine wpAny_bind (wpAny_attempt (wpAny_callSpecial?_slot (name := Str.ofString "__next__") (siT hit) slot_siN (wpAny_call_entry slot_siN (siT hit) entry_siN ?_ (args_siN _))))
  unfold Builtin.«set_iterator.__next__»
  refine wpAny_bind (wpAny_pure (wpAny_bind (wpAny_fieldsOf hit rfl ?_)))
  dsimp only
  refine wpAny_bind (wpAny_setEntries_of ho rfl P.ft ?_)
  rw [if_neg (by simp)]
  refine wpAny_bind (hT _ _ _ ?_)
  dsimp only
  rw [Int.toNat_natCast, hj]
  dsimp only
  refine wpAny_bind (wpAny_setField hit rfl (by simp) ?_)
  have g1 : (s.heap.update it (Obj.mapFields (·.setIfInBounds 0 (rawInt 0)))).get? it = some (siObj (rawInt 0) i a es.size ep) := Heap.get?_update_self _ hit rfl
  exact stop_iter (s := { s with heap := s.heap.update it (Obj.mapFields (·.setIfInBounds 0 (rawInt 0))) }) hh g1 (by decide) fun h' x => hQ h' fun b o hb e => x b o hb ((Heap.SameBut.update ..).extBut b o hb e)
end
end L2
namespace L2
open PySem PySem.W PyProof.Rows
theorem slot_siI : Slot "set_iterator" "__iter__" "set_iterator.__iter__" :=
  .of (owner := "set_iterator") (n := "__iter__") (by rw [typeLookup_type, builtinLookup_eq_fast]; kernel_rfl) (by decide +kernel) (by decide +kernel) (by decide +kernel) (.inl (by decide +kernel)) (by rw [isSubtype_type]; kernel_rfl)
theorem entry_siI : entryFor table "set_iterator.__iter__" = some Builtin.«dict_keyiterator.__iter__» := entryFor_alias (id' := "dict_keyiterator.__iter__") (by kernel_rfl) rfl (by decide +kernel) (by kernel_rfl)
theorem args_siI (a : Value) : argsOk "set_iterator.__iter__" ⟨[a], []⟩ := by
  unfold argsOk
  rw [signature?_of (id := "set_iterator.__iter__") (n := ['_', '_', 'r', 'e', 't', 'i', '_', '_']) (o := ['r', 'o', 't', 'a', 'r', 'e', 't', 'i', '_', 't', 'e', 's']) (by kernel_rfl) own_si]
  kernel_rfl
section
variable {prog : Program} {w : World} {A : Around} {E : Value → Shared → Prop} {s : Shared} {a it : Addr} {es : Array (Int × Value)} {ep : Nat} {t : SetTable} {ds : List Int}
theorem iter_si {f : Value} {i n : Nat} {Q : Value → Shared → Prop} (hit : s.heap.get? it = some (siObj f i a n ep)) (h : Q (.ref it) s) : wpAny (model prog w) A (pyIter (.ref it)) Q E s := by
  refine wpAny_pyIter_slot (siT hit) slot_siI (wpAny_call_entry slot_siI (siT hit) entry_siI ?_ (args_siI _))
  show wpAny _ _ (ret (.ref it)) _ _ s
  exact wpAny_pure ⟨_, rfl, "set_iterator", _, siT hit, slot_siN.lookup, h⟩
theorem setT (ho : s.heap.get? a = some (setObj es ep t)) : s.TypeIs (.ref a) "set" := ⟨_, ho, rfl⟩
theorem hint_set {Q : Bool → Shared → Prop} (hT : s.TypeIs (.ref a) "set") (h : Q false s) : wpAny (model prog w) A (Builtin.List.listLengthHint (.ref a)) Q E s := by
  unfold Builtin.List.listLengthHint
  refine wpAny_bind (wpAny_specialOf hT PySem.F.slot_set_len.lookup ?_)
  generalize hid : ("set.__len__" : String) = id0
  wp_delta
  rw [show splitId id0 = some ("set", "__len__") from by subst hid; decide +kernel]
  subst hid
  refine wpAny_bind (wpAny_isInstance (T := "set") (b := true) hT (by rw [isSubtype_type]; kernel_rfl) ?_)
  refine wpAny_ite_split (fun z => absurd z (by decide)) (fun _ => ?_)
  refine wpAny_ite_split (fun _ => ?_) (fun z => absurd (by decide +kernel) z)
  refine wpAny_bind (wpAny_typeOf hT ?_)
  exact wpAny_pure h
def Drawn (w : World) (es : Array (Int × Value)) (t : SetTable) : Prop := leds w = true ∧ t.plain = false ∧ 1 < es.size
theorem iter_set {Q : Value → Shared → Prop} (ho : s.heap.get? a = some (setObj es ep t)) (P : SetP prog w es t ds)
    (h1 : ¬ Drawn w es t → Q (.ref s.heap.objs.size) { s with heap := s.heap.push (siObj (.int 0 0) 0 a es.size ep) })
    (h2 : Drawn w es t → ∀ (js : List Nat) dr, js.Perm (List.range es.size) → Q (.ref (s.heap.objs.size + 1)) { s with heap := (s.heap.push { cls := .type "tuple", data := .seq (js.map fun (i : Nat) => rawInt i).toArray }).push (siObj (.ref s.heap.objs.size) 0 a es.size ep), drawn := dr }) :
    wpAny (model prog w) A (pyIter (.ref a)) Q E s := by
  refine wpAny_pyIter_slot (setT ho) PySem.F.slot_set_iter (wpAny_call_entry PySem.F.slot_set_iter (setT ho) entry_setI ?_ (PySem.F.args_set_iter_1 _))
  unfold Builtin.«frozenset.__iter__»
  refine wpAny_bind (wpAny_pure ?_)
  refine wpAny_bind (wpAny_bind (wpAny_setEntries_of ho rfl P.ft (wpAny_pure ?_)))
  refine wpAny_bind ?_
  unfold setDrawn
  refine wpAny_bind (wpAny_setState_of ho rfl P.ft ?_)
  dsimp only
  unfold setsByText
  refine wpAny_bind (wpAny_bind (wpAny_askSetting (wpAny_pure (wpAny_pure ?_))))
  show wpAny _ _ (if (!w.params.followText "set-order" && (!t.plain && decide (es.size > 1))) = true then _ else _) _ _ _
  refine wpAny_ite_split (fun z => ?_) (fun z => ?_)
  · rw [Bool.and_eq_true, Bool.and_eq_true] at z
    have hD : Drawn w es t := ⟨z.1, by simpa using z.2.1, of_decide_eq_true z.2.2⟩
    refine wpAny_bind (wp_draw es.size _ _ List.length_range fun js dr hp => wpAny_bind (wpAny_newTuple ?_ ?_))
    · refine wpAny_bind (wpAny_setEpoch_of (Heap.get?_push_of_some _ ho) rfl P.ft ?_)
      have hs : (s.heap.push { cls := .type "tuple", data := .seq (js.map fun (i : Nat) => rawInt i).toArray }).objs.size = s.heap.objs.size + 1 := Heap.size_push ..
      refine wpAny_bind (wpAny_newObj_type (wpAny_pure ⟨_, rfl, "set_iterator", _, ⟨_, Heap.get?_push_size _ rfl, rfl⟩, slot_siN.lookup, ?_⟩))
      have q := h2 hD js dr hp
      rw [← hs] at q
      exact q
    · rw [List.length_map, hp.length_eq, List.length_range]
      exact fits_of_scanBound P.sz
  · refine wpAny_bind (wpAny_pure ?_)
    refine wpAny_bind (wpAny_setEpoch_of ho rfl P.ft ?_)
    refine wpAny_bind (wpAny_newObj_type (wpAny_pure ⟨_, rfl, "set_iterator", _, ⟨_, Heap.get?_push_size _ rfl, rfl⟩, slot_siN.lookup, ?_⟩))
    refine h1 fun hD => z ?_
    rw [Bool.and_eq_true, Bool.and_eq_true]
    exact ⟨hD.1, by rw [hD.2.1]; rfl, decide_eq_true hD.2.2⟩
theorem walk_int (hh : A.handled = none) (I : Addr) (hne : a ≠ I) (P : SetP prog w es t ds) (xs : Array (Int × Value)) (sl : Nat → Nat) (hz : xs.size = es.size)
    (hnx : ∀ (s' : Shared) (i : Nat), s'.heap.get? a = some (setObj es ep t) → i ≤ es.size → ∀ (A' : Around) (Q' : Option (Value × Nat) → Shared → Prop) (E' : Value → Shared → Prop), Q' ((xs[i]?).map fun e => (e.2, sl (i + 1))) s' → wpAny (model prog w) A' (setNext a (sl i) i ep) Q' E' s') :
    Walks prog w A I [I, a] [I] es.size (fun i v => ∃ e, xs[i]? = some e ∧ v = e.2) (fun i h => h.get? I = some (siObj (.int (sl i) 0) i a es.size ep) ∧ h.get? a = some (setObj es ep t)) where
  sub := fun b hb => by simp at hb; simp [hb]
  frame := fun _ _ _ st hk => ⟨hk I (by simp) _ st.1, hk a (by simp) _ st.2⟩
  item := fun i s Q E hi st hQ => by
    have hx : xs[i]? = some (xs[i]'(by omega)) := Array.getElem?_eq_getElem (by omega)
    refine next_int (x := (xs[i]'(by omega)).2) (nx := sl (i + 1)) st.1 st.2 P (fun A' Q' E' q => hnx s i st.2 (by omega) A' Q' E' (by rw [hx]; exact q)) fun h' g sb => ?_
    exact hQ _ h' s.toks ⟨_, hx, rfl⟩ ⟨g, (sb.2 a hne).trans st.2⟩ fun b o hb e => (sb.2 b (fun z => hb (by simp [z]))).trans e
  done := fun s Q E st hQ => next_intE hh st.1 st.2 P (fun A' Q' E' q => hnx s es.size st.2 (Nat.le_refl _) A' Q' E' (by rw [Array.getElem?_eq_none (by omega)]; exact q)) fun h' x => hQ h' s.toks fun b o hb e => x b o (fun z => hb (by simp [z])) e
  self := fun _ _ _ _ st hQ => iter_si st.1 hQ
def slOf (t : SetTable) : Nat → Nat
  | 0 => 0
  | k + 1 => t.place.getD k 0 + 1
theorem src_set (P : SetP prog w es t ds) (hD : ¬ Drawn w es t) : ∃ xs : Array (Int × Value), xs.toList.Perm es.toList ∧ KdlSrc prog w "set" a a es.size (fun i v => ∃ e, xs[i]? = some e ∧ v = e.2) (fun h => h.get? a = some (setObj es ep t)) := by
  have mk : ∀ (xs : Array (Int × Value)) (sl : Nat → Nat), sl 0 = 0 → xs.toList.Perm es.toList →
      (∀ (s' : Shared) (i : Nat), s'.heap.get? a = some (setObj es ep t) → i ≤ es.size → ∀ (A' : Around) (Q' : Option (Value × Nat) → Shared → Prop) (E' : Value → Shared → Prop), Q' ((xs[i]?).map fun e => (e.2, sl (i + 1))) s' → wpAny (model prog w) A' (setNext a (sl i) i ep) Q' E' s') →
      KdlSrc prog w "set" a a es.size (fun i v => ∃ e, xs[i]? = some e ∧ v = e.2) (fun h => h.get? a = some (setObj es ep t)) := fun xs sl h0 hp hnx =>
    { type := fun s h => setT h
      there := fun h e => ⟨Heap.lt_size e, Heap.lt_size e⟩
      keep := fun h h' e k => k a (.inl rfl) _ e
      notList := by decide
      notTuple := by decide
      hint := fun A E s Q h q => hint_set (setT h) q
      iter := fun A s hh h => ⟨siObj (.int 0 0) 0 a es.size ep, _, fun E Q q => iter_set h P (fun _ => q) (fun z => absurd z hD), walk_int hh _ (Nat.ne_of_lt (Heap.lt_size h)) P xs sl (by rw [← Array.length_toList, hp.length_eq, Array.length_toList]) hnx, by rw [h0]; exact Heap.get?_push_size _ rfl, Heap.get?_push_of_some _ h⟩ }
  cases hb : leds w with
  | false =>
    refine ⟨_, pick_perm (w.params.setOrder a ep) es, mk _ (fun _ => 0) rfl (pick_perm _ es) fun s' i ho hi A' Q' E' q => wp_nextT ho P hb q⟩
  | true =>
    have hf := P.ft
    simp only [SetTable.fits, Bool.and_eq_true, beq_iff_eq, decide_eq_true_eq] at hf
    refine ⟨es, .refl _, mk es (slOf t) rfl (.refl _) fun s' i ho hi A' Q' E' q => wp_nextP ho P hb (fun z => hD ⟨hb, z⟩) ?_⟩
    have hbl : SetTable.below t.place (slOf t i) = i := by
      cases i with
      | zero => exact below_zero P.tb.1
      | succ k =>
        have hk : k < t.place.size := by omega
        have e : t.place[k]? = some (t.place[k]) := Array.getElem?_eq_getElem hk
        have eg : t.place.getD k 0 = t.place[k] := by unfold Array.getD; rw [dif_pos hk]; rfl
        show SetTable.below t.place (t.place.getD k 0 + 1) = k + 1
        rw [eg]
        exact below_next P.tb.1 e
    rw [hbl]
    rcases Nat.lt_or_ge i es.size with hl | hl
    · have hk : i < t.place.size := by omega
      have eg : t.place.getD i 0 = t.place[i] := by unfold Array.getD; rw [dif_pos hk]; rfl
      rw [Array.getElem?_eq_getElem hl] at q ⊢
      rw [Array.getElem?_eq_getElem hk]
      have q' : Q' (some ((es[i]).2, t.place.getD i 0 + 1)) s' := q
      rw [eg] at q'
      exact q'
    · rw [Array.getElem?_eq_none hl] at q ⊢
      exact q
end
end L2
namespace L2
open PySem PySem.W PyProof.Rows
def plcObj (js : List Nat) : Obj := { cls := .type "tuple", data := .seq (js.map fun (i : Nat) => rawInt i).toArray }
section
variable {prog : Program} {w : World} {A : Around} {E : Value → Shared → Prop} {s : Shared} {a it : Addr} {es : Array (Int × Value)} {ep : Nat} {t : SetTable} {ds : List Int}
theorem walk_drw (hh : A.handled = none) (I T : Addr) (hne : a ≠ I) (hnT : T ≠ I) (P : SetP prog w es t ds) {js : List Nat} (hp : js.Perm (List.range es.size)) :
    Walks prog w A I [I, a, T] [I] es.size (fun i v => ∃ j e, js[i]? = some j ∧ es[j]? = some e ∧ v = e.2) (fun i h => h.get? I = some (siObj (.ref T) i a es.size ep) ∧ h.get? a = some (setObj es ep t) ∧ h.get? T = some (plcObj js)) where
  sub := fun b hb => by simp at hb; simp [hb]
  frame := fun _ _ _ st hk => ⟨hk I (by simp) _ st.1, hk a (by simp) _ st.2.1, hk T (by simp) _ st.2.2⟩
  item := fun i s Q E hi st hQ => by
    have hl : js.length = es.size := by rw [hp.length_eq, List.length_range]
    have hj : js[i]? = some (js[i]'(by omega)) := List.getElem?_eq_getElem (by omega)
    have hm : js[i]'(by omega) < es.size := List.mem_range.mp (hp.mem_iff.mp (List.getElem_mem _))
    have hx : es[js[i]'(by omega)]? = some (es[js[i]'(by omega)]) := Array.getElem?_eq_getElem hm
    refine next_drw (js := (js.map fun (i : Nat) => rawInt i).toArray) (j := js[i]'(by omega)) (x := (es[js[i]'(by omega)]).2) (hsh := (es[js[i]'(by omega)]).1) st.1 st.2.1 P (fun A' Q' E' q => wpAny_seqItems st.2.2 rfl q) ?_ hx fun h' g sb => ?_
    · rw [List.getElem?_toArray, List.getElem?_map, hj]
      rfl
    · exact hQ _ h' s.toks ⟨_, _, hj, hx, rfl⟩ ⟨g, (sb.2 a hne).trans st.2.1, (sb.2 T hnT).trans st.2.2⟩ fun b o hb e => (sb.2 b (fun z => hb (by simp [z]))).trans e
  done := fun s Q E st hQ => by
    have hl : js.length = es.size := by rw [hp.length_eq, List.length_range]
    refine next_drwE (js := (js.map fun (i : Nat) => rawInt i).toArray) hh st.1 st.2.1 P (fun A' Q' E' q => wpAny_seqItems st.2.2 rfl q) ?_ fun h' x => hQ h' s.toks fun b o hb e => x b o (fun z => hb (by simp [z])) e
    rw [List.getElem?_toArray, List.getElem?_map, List.getElem?_eq_none (by omega)]
    rfl
  self := fun _ _ _ _ st hQ => iter_si st.1 hQ
theorem ints_of {xs : List (Int × Value)} (h : ∀ e ∈ xs, ∃ k u, e.2 = .int k u) : IntsAre (xs.map (·.2)) (xs.map fun e => numH e.2) := by
  induction xs with
  | nil => exact .nil
  | cons e xs ih =>
    obtain ⟨k, u, hk⟩ := h e (List.mem_cons_self ..)
    rw [List.map_cons, List.map_cons, hk]
    exact .cons k u (ih fun e he => h e (List.mem_cons_of_mem _ he))
theorem acc_map {acc : Array Value} {n : Nat} {xs : List (Int × Value)} (hn : xs.length = n) (h : ItemsOf (fun i v => ∃ e, xs[i]? = some e ∧ v = e.2) acc n) : acc.toList = xs.map (·.2) := by
  apply List.ext_getElem?
  intro i
  rw [List.getElem?_map]
  have hz : acc.toList.length = n := by rw [Array.length_toList]; exact h.1
  rcases Nat.lt_or_ge i n with hi | hi
  · have e1 : acc.toList[i]? = some (acc.toList[i]'(by omega)) := List.getElem?_eq_getElem (by omega)
    obtain ⟨e, he, hv⟩ := h.2 i _ (by rw [← Array.getElem?_toList]; exact e1)
    rw [e1, he, hv]
    rfl
  · rw [List.getElem?_eq_none (by omega), List.getElem?_eq_none (by omega)]
    rfl
theorem pick_by {es : Array (Int × Value)} : ∀ {js : List Nat}, (∀ j ∈ js, j < es.size) → ∃ xs : List (Int × Value), xs = js.filterMap (fun j => es[j]?) ∧ xs.length = js.length ∧ ∀ (i j : Nat), js[i]? = some j → xs[i]? = es[j]?
  | [], _ => ⟨[], rfl, rfl, fun i j h => by cases h⟩
  | k :: js, h => by
    obtain ⟨xs, e, hl, hx⟩ := pick_by (js := js) fun j hj => h j (List.mem_cons_of_mem _ hj)
    have hk : es[k]? = some (es[k]'(h k (List.mem_cons_self ..))) := Array.getElem?_eq_getElem _
    refine ⟨es[k]'(h k (List.mem_cons_self ..)) :: xs, by rw [List.filterMap_cons_some hk, e], by rw [List.length_cons, List.length_cons, hl], fun i j hj => ?_⟩
    cases i with
    | zero =>
      have : k = j := Option.some.inj hj
      subst this
      exact hk.symm
    | succ i => exact hx i j hj
theorem collect_set {Q : List Value → Shared → Prop} (hS : SetI prog w a ds s.heap) (hh : A.handled = none)
    (h : ∀ h' tk dr (vs : List Value) (ns : List Int), (∀ b o, s.heap.get? b = some o → h'.get? b = some o) → s.heap.objs.size ≤ h'.objs.size → IntsAre vs ns → ns.Perm ds → Q vs { s with heap := h', toks := tk, drawn := dr }) : wpAny (model prog w) A (collect (.ref a)) Q E s := by
  obtain ⟨es, ep, t, ho, P⟩ := hS
  have hz : es.size ≤ sizeLine := fits_of_scanBound P.sz
  by_cases hD : Drawn w es t
  · unfold collect
    refine wpAny_bind (wpAny_runValue (codeAny_builtin entry_proto_collect' ?_))
    show wpAny _ _ (do again (.builtin "list.__iadd__" ⟨[← newList [], .ref a], []⟩)) _ _ s
    refine wpAny_bind (wpAny_newList (wpAny_pure ⟨Code.quiet_builtin _ (by decide +kernel), codeAny_builtin entry_list_iadd' ?_⟩))
    show wpAny _ _ (Builtin.List.listExtendWith (.ref s.heap.objs.size) (.ref a) (.ref s.heap.objs.size)) _ _ { s with heap := s.heap.push (seqObj "list" #[] 0) }
    have hS0 : (s.heap.push (seqObj "list" #[] 0)).get? s.heap.objs.size = some { cls := .type "list", data := .seq #[] 0 } := Heap.get?_push_size _ rfl
    have ho1 : (s.heap.push (seqObj "list" #[] 0)).get? a = some (setObj es ep t) := Heap.get?_push_of_some _ ho
    have haS : s.heap.objs.size ≠ a := Nat.ne_of_gt (Heap.lt_size ho)
    rw [Around.under_plainId PySem.F.plain_list_iadd _]
    unfold Builtin.List.listExtendWith
    refine wpAny_bind (wpAny_typeOf (T := "set") ⟨_, ho1, rfl⟩ ?_)
    have e1 : Builtin.List.listSameRef (.ref s.heap.objs.size) (.ref a) = false := by simp [Builtin.List.listSameRef, haS]
    have e2 : (Value.type "set" == Value.type "list") = false := by decide
    have e3 : (Value.type "set" == Value.type "tuple") = false := by decide
    simp only [e1, e2, e3, Bool.or_false, Bool.false_eq_true, if_false]
    refine wpAny_bind (iter_set ho1 P (fun z => absurd hD z) fun _ js dr hp => ?_)
    have hsz : (s.heap.push (seqObj "list" #[] 0)).objs.size = s.heap.objs.size + 1 := Heap.size_push ..
    rw [hsz]
    have hI : s.heap.objs.size + 1 + 1 = s.heap.objs.size + 2 := rfl
    have hT1 : ((s.heap.push (seqObj "list" #[] 0)).push (plcObj js)).get? (s.heap.objs.size + 1) = some (plcObj js) := by rw [← hsz]; exact Heap.get?_push_size _ rfl
    have hsz2 : ((s.heap.push (seqObj "list" #[] 0)).push (plcObj js)).objs.size = s.heap.objs.size + 1 + 1 := by rw [Heap.size_push, hsz]
    have hI1 : (((s.heap.push (seqObj "list" #[] 0)).push (plcObj js)).push (siObj (.ref (s.heap.objs.size + 1)) 0 a es.size ep)).get? (s.heap.objs.size + 1 + 1) = some (siObj (.ref (s.heap.objs.size + 1)) 0 a es.size ep) := by rw [← hsz2]; exact Heap.get?_push_size _ rfl
    have hla := Heap.lt_size ho
    have W := walk_drw (prog := prog) (w := w) (A := A.in1) (ep := ep) hh (s.heap.objs.size + 1 + 1) (s.heap.objs.size + 1) (a := a) (Nat.ne_of_lt (Nat.lt_succ_of_lt (Nat.lt_succ_of_lt hla))) (Nat.ne_of_lt (Nat.lt_succ_self _)) P hp
    have hSf : s.heap.objs.size ∉ [s.heap.objs.size + 1 + 1, a, s.heap.objs.size + 1] := by
      simp only [List.mem_cons, List.not_mem_nil, or_false, not_or]
      exact ⟨Nat.ne_of_lt (Nat.lt_succ_of_lt (Nat.lt_succ_self _)), haS, Nat.ne_of_lt (Nat.lt_succ_self _)⟩
    have key : ∀ (R : Result → Shared → Prop), (∀ h' tk (acc : Array Value) c', (∀ b o, s.heap.get? b = some o → h'.get? b = some o) → h'.get? s.heap.objs.size = some { cls := .type "list", dict := none, data := .seq acc c', slots := #[] } → ItemsOf (fun i v => ∃ j e, js[i]? = some j ∧ es[j]? = some e ∧ v = e.2) acc es.size → R (.ok (.ret (.ref s.heap.objs.size))) { s with heap := h', toks := tk, drawn := dr }) →
        ∀ (hp' : Heap) (c₁ tk : Nat), (hp'.get? (s.heap.objs.size + 1 + 1) = some (siObj (.ref (s.heap.objs.size + 1)) 0 a es.size ep) ∧ hp'.get? a = some (setObj es ep t) ∧ hp'.get? (s.heap.objs.size + 1) = some (plcObj js)) → (∀ b o, s.heap.get? b = some o → hp'.get? b = some o) →
        hp'.get? s.heap.objs.size = some { cls := .type "list", data := .seq #[] c₁ } → codeAny (model prog w) A (.builtin "list.extend.loop" ⟨[.ref s.heap.objs.size, .ref (s.heap.objs.size + 1 + 1), .ref s.heap.objs.size], []⟩) R { s with heap := hp', toks := tk, drawn := dr } := by
      intro R hR hp' c₁ tk st kp hS₁
      refine codeAny_extend_loopS W.toS hz s.heap.objs.size hSf _ es.size 0 _ #[] c₁ rfl (Nat.zero_le _) st hS₁ (ItemsOf.nil _) fun s' acc' c' hm hS' hacc => ?_
      rw [Moved.eq_with hm]
      refine hR s'.heap s'.toks acc' c' (fun b o e => hm.heap b o (fun hmem => ?_) (kp b o e)) hS' hacc
      have hb := Heap.lt_size e
      rcases List.mem_cons.mp hmem with e' | hmem
      · exact absurd hb (by rw [e']; exact Nat.lt_irrefl _)
      · exact absurd hb (by rw [List.mem_singleton.mp hmem]; exact Nat.not_lt.mpr (Nat.le_succ_of_le (Nat.le_succ _)))
    have fin : ∀ h' tk (acc : Array Value) c', (∀ b o, s.heap.get? b = some o → h'.get? b = some o) → h'.get? s.heap.objs.size = some { cls := .type "list", dict := none, data := .seq acc c', slots := #[] } → ItemsOf (fun i v => ∃ j e, js[i]? = some j ∧ es[j]? = some e ∧ v = e.2) acc es.size → Q acc.toList { s with heap := h', toks := tk, drawn := dr } := by
      intro h' tk acc c' kp hS' ia
      obtain ⟨xs, e, hl, hx⟩ := pick_by (es := es) (js := js) fun j hj => List.mem_range.mp (hp.mem_iff.mp hj)
      have hjl : js.length = es.size := by rw [hp.length_eq, List.length_range]
      have hpx : xs.Perm es.toList := by
        rw [e]
        refine (hp.filterMap _).trans ?_
        rw [filterMap_getElem?_range]
      have ea := acc_map (hl.trans hjl) ⟨ia.1, fun i v hv => by obtain ⟨j, e, hj, he, z⟩ := ia.2 i v hv; exact ⟨e, by rw [hx i j hj]; exact he, z⟩⟩
      exact h h' tk dr acc.toList (xs.map fun e => numH e.2) kp (Nat.le_of_lt (Heap.lt_size hS')) (by rw [ea]; exact ints_of fun x hx => P.ints x (hpx.mem_iff.mp hx)) ((hpx.map _).trans P.ks)
    have kp2 : ∀ b o, s.heap.get? b = some o → (((s.heap.push (seqObj "list" #[] 0)).push (plcObj js)).push (siObj (.ref (s.heap.objs.size + 1)) 0 a es.size ep)).get? b = some o := fun b o e => Heap.get?_push_of_some _ (Heap.get?_push_of_some _ (Heap.get?_push_of_some _ e))
    have hS2 : (((s.heap.push (seqObj "list" #[] 0)).push (plcObj js)).push (siObj (.ref (s.heap.objs.size + 1)) 0 a es.size ep)).get? s.heap.objs.size = some { cls := .type "list", data := .seq #[] 0 } := Heap.get?_push_of_some _ (Heap.get?_push_of_some _ hS0)
    show wpAny (model prog w) A.in1 _ _ _ { s with heap := ((s.heap.push (seqObj "list" #[] 0)).push (plcObj js)).push (siObj (.ref (s.heap.objs.size + 1)) 0 a es.size ep), drawn := dr }
    refine wpAny_bind (wpAny_holding (hint_set ⟨_, kp2 _ _ ho, rfl⟩ ?_))
    have all : ∀ (hp' : Heap) (c₁ tk : Nat), (hp'.get? (s.heap.objs.size + 1 + 1) = some (siObj (.ref (s.heap.objs.size + 1)) 0 a es.size ep) ∧ hp'.get? a = some (setObj es ep t) ∧ hp'.get? (s.heap.objs.size + 1) = some (plcObj js)) → (∀ b o, s.heap.get? b = some o → hp'.get? b = some o) →
        hp'.get? s.heap.objs.size = some { cls := .type "list", data := .seq #[] c₁ } → codeAny (model prog w) A (.builtin "list.extend.loop" ⟨[.ref s.heap.objs.size, .ref (s.heap.objs.size + 1 + 1), .ref s.heap.objs.size], []⟩) (fun r s' =>
              match r with
              | Except.ok (Flow.ret v) =>
                wpAny (model prog w) A (match v with
                  | .ref a => do match (← load a).data with
                    | .seq xs _ => pure xs.toList
                    | _ => unsupported "internal:collect"
                  | _ => unsupported "internal:collect") Q E s'
              | Except.ok _ => False
              | Except.error e => E e s') { s with heap := hp', toks := tk, drawn := dr } := key _ fun h' tk acc c' kp hS' ia => by
        show wpAny (model prog w) A (do
          let o ← load s.heap.objs.size
          match o.data with
          | .seq xs _ => pure xs.toList
          | _ => unsupported "internal:collect") Q E { s with heap := h', toks := tk, drawn := dr }
        exact wpAny_bind (wpAny_load hS' (wpAny_pure (fin h' tk acc c' kp hS' ia)))
    refine wpAny_ite_split (fun _ => ?_) (fun _ => wpAny_pure ⟨plainId_quiet PySem.F.plain_extend_loop _, all _ 0 s.toks ⟨hI1, kp2 _ _ ho, Heap.get?_push_of_some _ hT1⟩ kp2 hS2⟩)
    refine wpAny_bind (wpAny_rule (wpAny_bind ?_))
    show wpAny _ _ (updateSeq s.heap.objs.size (·.push .none) >>= fun _ => updateSeq s.heap.objs.size (·.pop)) _ _ _
    refine wpAny_bind (wpAny_updateSeq hS2 rfl ?_)
    have g2 := Heap.get?_update_self (Obj.mapSeq (·.push Value.none)) hS2 rfl
    refine wpAny_updateSeq (hz := by seq_fits) g2 rfl ?_
    have g3 := Heap.get?_update_self (Obj.mapSeq (·.pop)) g2 rfl
    have oth : ∀ b o, b ≠ s.heap.objs.size → (((s.heap.push (seqObj "list" #[] 0)).push (plcObj js)).push (siObj (.ref (s.heap.objs.size + 1)) 0 a es.size ep)).get? b = some o → (((((s.heap.push (seqObj "list" #[] 0)).push (plcObj js)).push (siObj (.ref (s.heap.objs.size + 1)) 0 a es.size ep)).update s.heap.objs.size (Obj.mapSeq (·.push Value.none))).update s.heap.objs.size (Obj.mapSeq (·.pop))).get? b = some o :=
      fun b o hb e => (Heap.get?_update_other _ _ (Ne.symm hb)).trans ((Heap.get?_update_other _ _ (Ne.symm hb)).trans e)
    refine wpAny_pure ⟨plainId_quiet PySem.F.plain_extend_loop _, all _ _ s.toks ⟨oth _ _ (Nat.ne_of_gt (Nat.lt_succ_of_lt (Nat.lt_succ_self _))) hI1, oth _ _ haS.symm (kp2 _ _ ho), oth _ _ (Nat.ne_of_gt (Nat.lt_succ_self _)) (Heap.get?_push_of_some _ hT1)⟩ (fun b o e => oth b o (Nat.ne_of_lt (Heap.lt_size e)) (kp2 b o e)) g3⟩
  · obtain ⟨xs, hp, K⟩ := src_set (a := a) (ep := ep) P hD
    refine collect_src K hh ho hz fun h' tk acc kp hge ia => ?_
    have hl : xs.toList.length = es.size := by rw [hp.length_eq, Array.length_toList]
    have e := acc_map hl ⟨ia.1, fun i v hv => by obtain ⟨e, he, z⟩ := ia.2 i v hv; exact ⟨e, by rw [Array.getElem?_toList]; exact he, z⟩⟩
    have q := h h' tk s.drawn acc.toList (xs.toList.map fun e => numH e.2) kp hge (by rw [e]; exact ints_of fun x hx => P.ints x (hp.mem_iff.mp hx)) ((hp.map _).trans P.ks)
    exact q
end
end L2
namespace L2
open PySem PySem.W PyProof.Rows
section
variable {prog : Program} {w : World} {A : Around} {E : Value → Shared → Prop} {s : Shared}
end
section
variable {X : Cx}
theorem Inv.drew {pins : List (Addr × Obj)} {σ : St} {H : Hp} {s : Shared} (I : Inv X pins σ H s) (dr : PySem.Drawn) : Inv X pins σ H { s with drawn := dr } :=
  ⟨I.ok, I.os, I.bare, I.base, I.loc, I.cell, I.free, I.freeC, I.pin, I.hok, I.len⟩
end
end L2
namespace L2
open PySem PySem.W PyProof.Rows
section
variable {prog : Program} {w : World} {A : Around} {E : Value → Shared → Prop} {s : Shared}
theorem vals_setT {l : Addr} {items : Array Value} {ns : List Int} {Q : Value → Shared → Prop} (hh : A.handled = none) (hl : IsTup s.heap l items) (hi : IntsAre items.toList ns) (hb : ns.length < scanBound)
    (h : ∀ h' tk, SetI prog w s.heap.objs.size (ns.foldl ins []) h' → (∀ b o, s.heap.get? b = some o → h'.get? b = some o) → Q (.ref s.heap.objs.size) { s with heap := h', toks := tk }) :
    wpAny (model prog w) A (call (.type "set") [.ref l]) Q E s := by
  obtain ⟨c, tl, hmro⟩ := F.called_set.mro
  have m1 := F.called_set.made
  have m2 := F.called_set.sub
  have m3 := F.called_set.notType
  have m4 := F.called_set.canCreate
  have m5 := F.typeCall_set_1 (.ref l)
  refine wpAny_call (codeAny_of_tree ?_)
  show wpAny _ _ (callAny (.type "set") _) _ _ _
  refine wpAny_pure ⟨Code.quiet_builtin _ (by decide +kernel), codeAny_builtin F.entry_type_call ?_⟩
  rw [Around.under_plain (weight_type_call_type "set" [.ref l] []) rfl]
  repeat (any_goals (first | assumption | wp_step))
  refine codeAny_mono (set_new (.ref l) (E := E) (Q₁ := fun v s1 => v = .ref s.heap.objs.size ∧ s1 = { s with heap := s.heap.push (setObj #[] 0 (.fresh 0 0 (leds w))) }) ⟨rfl, rfl⟩) fun r s1 hr => ?_
  rcases r with e | f
  · exact hr
  cases f with
  | ret v =>
    obtain ⟨rfl, rfl⟩ := hr
    have hS : (s.heap.push (setObj #[] 0 (.fresh 0 0 (leds w)))).get? s.heap.objs.size = some (setObj #[] 0 (.fresh 0 0 (leds w))) := Heap.get?_push_size _ rfl
    have hT : Shared.TypeIs { s with heap := s.heap.push (setObj #[] 0 (.fresh 0 0 (leds w))) } (.ref s.heap.objs.size) "set" := ⟨_, hS, rfl⟩
    have i1 := F.called_set.init.lookup
    have i2 := F.called_set.init.bind (.ref s.heap.objs.size)
    repeat (any_goals (first | assumption | wp_step))
    refine codeAny_mono (codeAny_call_builtin (R := wants (fun r s2 => r = .none ∧ ∃ h' tk, s2 = { s with heap := h', toks := tk } ∧ SetI prog w s.heap.objs.size (ns.foldl ins []) h' ∧ ∀ b o, s.heap.get? b = some o → h'.get? b = some o) E) F.called_set.init.plain F.entry_set_init (check_set_init_1 hT ?_)) fun r2 s2 h2 => ?_
    · obtain ⟨ol, e1, e2, k, e3⟩ := hl
      obtain ⟨oc, od, oda, osl⟩ := ol
      simp only at e2 e3
      subst e2; subst e3
      have e1' := Heap.get?_push_of_some (setObj #[] 0 (.fresh 0 0 (leds w))) e1
      have j1 := F.sub_tuple_set
      have j2 := F.sub_tuple_frozenset
      have j3 : (Value.type "tuple" == Value.type "dict") = false := by decide
      have hl1 : IsTup (s.heap.push (setObj #[] 0 (.fresh 0 0 (leds w)))) l items := ⟨_, e1', rfl, k, rfl⟩
      unfold setObj at *
      unfold Builtin.«set.__init__» noKeywords Builtin.Frozenset.updateFrom
      generalize hPI : pyIter = PI
      wp_walk
      subst hPI
      refine wpAny_pyIter_tuple hl1 (wpAny_bind (wpAny_runValue ?_))
      have hlS : l < s.heap.objs.size := Heap.lt_size e1
      have hn : items.size = ns.length := by rw [← IntsAre.length hi, Array.length_toList]
      refine loop_setI (G := _) ((Walks.tuple (by simp [hh]) _ l (by rw [Heap.size_push]; exact Nat.ne_of_lt (Nat.lt_succ_of_lt hlS)) items).toS) s.heap.objs.size (by rw [Heap.size_push]; simp only [List.mem_cons, List.not_mem_nil, or_false, not_or]; exact ⟨Nat.ne_of_lt (Nat.lt_succ_self _), Nat.ne_of_gt hlS⟩) ns 0 [] _ (by rw [hn]; omega) (fun j x hj v hv => ?_) (by simpa using hb) ⟨⟨_, Heap.get?_push_size _ rfl, rfl, rfl⟩, hl1.push _⟩ ⟨#[], 0, _, Heap.get?_push_of_some _ hS, SetP.fresh⟩ fun s' m S' => ?_
      · obtain ⟨t, e⟩ := IntsAre.int_at hi j v (by rw [Array.getElem?_toList]; have := hv; rw [Nat.zero_add] at this; exact this)
        refine ⟨t, ?_⟩
        rw [e, List.getD_eq_getElem?_getD, hj]
        rfl
      · obtain ⟨h', g', d', tk', os'⟩ := s'
        have q1 : g' = s.gens := m.gens
        have q2 : d' = s.drawn := m.drawn
        have q3 : os' = s.os := m.os
        subst q1; subst q2; subst q3
        show wpAny _ _ _ _ _ _
        refine wpAny_pure ?_
        show wpAny _ _ (ret Value.none) _ _ _
        refine wpAny_pure ⟨rfl, h', tk', rfl, S', fun b o e => ?_⟩
        have hb0 := Heap.lt_size e
        refine m.heap b o ?_ (Heap.get?_push_of_some _ (Heap.get?_push_of_some _ e))
        rw [Heap.size_push]
        simp only [List.mem_cons, List.not_mem_nil, or_false, not_or]
        exact ⟨Nat.ne_of_lt hb0, Nat.ne_of_lt (Nat.lt_succ_of_lt hb0)⟩
    · rcases r2 with e | f2
      · exact h2
      cases f2 with
      | ret r =>
        obtain ⟨rfl, h', tk, rfl, S', kp⟩ := h2
        repeat (any_goals (first | assumption | wp_step))
        exact h _ _ S' kp
      | _ => exact h2.elim
  | _ => exact hr.elim
end
section
variable {X : Cx}
theorem call_setT (hc : X.calm = true) : CallR X (.type "set") (fun xs H Q => ∃ (p : Addr) (ns : List Int), xs = [.ref p] ∧ H p = some (.tup (ns.map V.int)) ∧ ns.length < 4096 ∧
    ∀ (D : Addr) (ds : List Int), H D = none → (∀ x, x ∈ ds ↔ x ∈ ns) → ds.Nodup → Q (.ref D) (upd H D (.ext (SetI X.prog X.w D ds)))) := by
  intro pins s σ H xs us Q I r h
  obtain ⟨p, ns, rfl, hp, hz, q⟩ := h
  obtain ⟨u, rfl, ru⟩ := vals1 r
  cases ru
  obtain ⟨its, rv, pl, hl⟩ := I.tuple (SqT.of (K := X.K) hp)
  have hi := intsAre_of rv
  refine vals_setT (I.ok.hd hc) pl hi hz fun h' tk S kp => ?_
  have hD : H s.heap.objs.size = none := I.hok.fresh (Nat.le_refl _)
  have nd : (ns.foldl ins []).Nodup := by obtain ⟨_, _, _, _, P⟩ := S; exact P.nd
  refine ⟨.ref s.heap.objs.size, _, I.laid (t' := tk) (o := .ext (SetI X.prog X.w s.heap.objs.size (ns.foldl ins []))) kp (Nat.le_refl _) ?_, rfl, q _ _ hD (fun x => by rw [folds_mem]; simp) nd⟩
  refine ⟨S, ?_, fun h1 h2 a b => a.at' b⟩
  obtain ⟨es, ep, t, ho, _⟩ := S
  exact ⟨_, ho⟩
end
end L2
namespace L2
open PySem PySem.W PyProof.Rows
section
variable {X : Cx}
theorem call_sortedSF (hc : X.calm = true) : CallR X (.builtin "sorted") (fun xs H Q => ∃ (p : Addr) (ds : List Int), xs = [.ref p] ∧ H p = some (.ext (SetI X.prog X.w p ds)) ∧ ds.length < 64 ∧
    ∀ (D : Addr) (ms : List Int), H D = none → ms.Perm ds → ms.Pairwise (· < ·) → Q (.ref D) (upd H D (.lst (ms.map V.int)))) := by
  intro pins s σ H xs us Q I r h
  obtain ⟨p, ds, rfl, hp, h64, q⟩ := h
  obtain ⟨u, rfl, ru⟩ := vals1 r
  cases ru
  have S : SetI X.prog X.w p ds s.heap := (I.hok _ _ hp).1
  have hds : ds.Nodup := by
    obtain ⟨es, _, _, _, P⟩ := S
    exact P.nd
  refine Calls.call_function_entry kind_sorted plain_sorted entry_sorted (args_sorted1 _) ?_
  unfold Builtin.«sorted»
  refine wpAny_bind (m := checkCount "sorted" 1 1 _) (wpAny_pure (wpAny_bind (collect_set S (I.ok.hd hc) fun h1 tk dr vs ns kp hge hi hpm => ?_)))
  have hl := hi.length
  have hn : vs.length < 64 := by rw [hl, hpm.length_eq]; exact h64
  refine wpAny_bind (wpAny_newList ?_ (by rw [sizeLine_eq]; omega))
  have hoL : (h1.push (seqObj "list" vs.toArray 0)).get? h1.objs.size = some (seqObj "list" vs.toArray 0) := Heap.get?_push_size _ rfl
  have keep : ∀ b o, s.heap.get? b = some o → (h1.push (seqObj "list" vs.toArray 0)).get? b = some o := fun b o q => Heap.get?_push_of_some _ (kp b o q)
  have ne : ∀ b o, s.heap.get? b = some o → b ≠ h1.objs.size := fun b o q => Nat.ne_of_lt (Heap.lt_size (kp b o q))
  show wpAny _ _ _ _ _ { s with heap := h1.push (seqObj "list" vs.toArray 0), toks := tk, drawn := dr }
  refine wpAny_bind (wpAny_holding (wpAny_call_entry slot_list_sort ⟨_, hoL, rfl⟩ entry_list_sort (list_sort_tree hoL hi (by omega) fun out ms a1 a2 a3 => ⟨_, rfl, wpAny_pure ⟨_, rfl, ?_⟩⟩) (args_list_sort _)))
  obtain ⟨e, he⟩ := sortedHeap_at (out := out) hoL
  have j3 := a2.trans hpm
  refine ⟨.ref h1.objs.size, _, (I.drew dr).laid (t' := tk) (o := .lst (ms.map V.int)) (fun b o q => by rw [sortedHeap_old (ne b o q) (Heap.lt_size (keep b o q))]; exact keep b o q) hge ?_, rfl, q _ _ (I.hok.fresh hge) j3 ?_⟩
  · exact ⟨by rw [List.length_map, j3.length_eq, sizeLine_eq]; omega, out.toList, e, vals_ints a1, by rw [Array.toArray_toList]; exact he⟩
  · exact (a3.and (j3.nodup_iff.mpr hds)).imp fun {a b} h => by have := h.1; have := h.2; omega
end
end L2
namespace L2
open PySem PySem.W PyProof.Rows
section
variable {X : Cx}
end
theorem ex1 {us : List Value} (h : us.length = 1) : ∃ a, us = [a] := by
  match us, h with
  | [a], _ => exact ⟨a, rfl⟩
theorem ex2 {us : List Value} (h : us.length = 2) : ∃ a b, us = [a, b] := by
  match us, h with
  | [a, b], _ => exact ⟨a, b, rfl⟩
theorem ex3 {us : List Value} (h : us.length = 3) : ∃ a b c, us = [a, b, c] := by
  match us, h with
  | [a, b, c], _ => exact ⟨a, b, c, rfl⟩
theorem ex4 {us : List Value} (h : us.length = 4) : ∃ a b c d, us = [a, b, c, d] := by
  match us, h with
  | [a, b, c, d], _ => exact ⟨a, b, c, d, rfl⟩
theorem ex5 {us : List Value} (h : us.length = 5) : ∃ a b c d e, us = [a, b, c, d, e] := by
  match us, h with
  | [a, b, c, d, e], _ => exact ⟨a, b, c, d, e, rfl⟩
theorem ex6 {us : List Value} (h : us.length = 6) : ∃ a b c d e f, us = [a, b, c, d, e, f] := by
  match us, h with
  | [a, b, c, d, e, f], _ => exact ⟨a, b, c, d, e, f, rfl⟩
end L2
namespace L2
open PySem PySem.Spec PyProof.Rows PySem.SeqAt
abbrev LA := Addr × List RA
def arefs (ls : List LA) : List V := ls.map fun x => V.ref x.1
def RowsOk (H : Hp) (ls : List LA) : Prop := ∀ x ∈ ls, RowAt H x.1 x.2
def RowsAt (H : Hp) (l : Addr) (ls : List LA) : Prop := H l = some (.lst (arefs ls)) ∧ RowsOk H ls
theorem RowsOk.up {H H' : Hp} {ls : List LA} (h : RowsOk H ls) (s : Same H H') : RowsOk H' ls := fun x hx => (h x hx).up s
theorem RowsAt.up {H H' : Hp} {l : Addr} {ls : List LA} (h : RowsAt H l ls) (s : Same H H') : RowsAt H' l ls := ⟨s _ _ h.1, h.2.up s⟩
section
variable {X : Cx}
end
end L2
namespace L2
open PySem PySem.Spec PyProof.Rows PySem.SeqAt
abbrev RT := Addr × (Int × Int × Int)
def trefs (rs : List RT) : List V := rs.map fun x => V.ref x.1
def triV (t : Int × Int × Int) : List V := [.int t.1, .int t.2.1, .int t.2.2]
def TriOk (H : Hp) (rs : List RT) : Prop := ∀ x ∈ rs, H x.1 = some (.tup (triV x.2))
def TriAt (H : Hp) (l : Addr) (rs : List RT) : Prop := H l = some (.lst (trefs rs)) ∧ TriOk H rs
theorem TriOk.up {H H' : Hp} {rs : List RT} (h : TriOk H rs) (s : Same H H') : TriOk H' rs := fun x hx => s _ _ (h x hx)
theorem TriAt.up {H H' : Hp} {l : Addr} {rs : List RT} (h : TriAt H l rs) (s : Same H H') : TriAt H' l rs := ⟨s _ _ h.1, h.2.up s⟩
theorem trefs_app (rs : List RT) (a : Addr) (t : Int × Int × Int) : trefs rs ++ [.ref a] = trefs (rs ++ [(a, t)]) := by unfold trefs; rw [List.map_append]; rfl
theorem TriAt.put {H : Hp} {F t : Addr} {fs : List RT} {x y n : Int} (h : TriAt H F fs) (ht : H t = none) : TriAt (upd (upd H t (.tup [.int x, .int y, .int n])) F (.lst (trefs fs ++ [.ref t]))) F (fs ++ [(t, x, y, n)]) := by
  have htF : t ≠ F := fun z => by rw [z, h.1] at ht; cases ht
  refine ⟨by rw [upd_same, trefs_app _ _ (x, y, n)], fun q hq => ?_⟩
  rcases List.mem_append.mp hq with hq | hq
  · have e := h.2 q hq
    rw [upd_ne (fun z => by rw [z, h.1] at e; cases e), upd_ne (ne_of_none e ht)]
    exact e
  · rw [List.mem_singleton] at hq
    subst hq
    rw [upd_ne htF]
    exact upd_same
theorem TriAt.upX {F l : Addr} {H H' : Hp} {rs : List RT} {xs : List V} (h : TriAt H l rs) (hl : l ≠ F) (hF : H F = some (.lst xs)) (x : SameX F H H') : TriAt H' l rs :=
  ⟨x _ _ hl h.1, fun y hy => x _ _ (fun e => by have := h.2 y hy; rw [e, hF] at this; cases this) (h.2 y hy)⟩
section
variable {X : Cx}
end
end L2
namespace L2
open PySem PySem.Spec PyProof.Rows PySem.SeqAt
section
variable {cm : Bool} {P : Program} {w : World} {K : PySem.W.Frag} {mg : Str → Option Value} {base : Heap} {CX : CXT} {k : Nat} {f : Addr} {fd : FuncData} {ps : List Str} {sp sp' : Sp}
theorem FnOk.or (F : FnOk P w K mg base CX cm k f fd ps sp) (G : FnOk P w K mg base CX cm k f fd ps sp') : FnOk P w K mg base CX cm k f fd ps (fun vs H Q E => sp vs H Q E ∨ sp' vs H Q E) :=
  ⟨fun vs H Q E h => h.elim (F.len vs H Q E) (G.len vs H Q E), fun A outer s H args us vs Q E hr he hb hv hs => hs.elim (F.run A outer s H args us vs Q E hr he hb hv) (G.run A outer s H args us vs Q E hr he hb hv)⟩
end
section
variable {X : Cx}
end
section
variable {X : Cx} {K : PySem.W.Frag}
end
end L2
namespace L2
open PySem PySem.Spec PyProof.Rows
structure IsO (K : PySem.W.Frag) (C : Addr) : Prop where
  ha : PySem.W.findIn K (.ref C) "__class__" = some (some (.builtin "object.__class__"))
  hn : PySem.W.specialIn K (.builtin "object.__class__") "__get__" = some (some (.builtin "getset_descriptor.__get__"))
  htk : PySem.W.takesIn K (.builtin "object.__class__") = some true
  hm : PySem.W.mroIn K C (.type "object") = some true
end L2
namespace L2
open PySem PySem.Spec PyProof.Rows
def cellO (c : Addr) (v : V) : HO := .ext fun h => ∃ o u, h.get? c = some o ∧ o.data = .cell (some u) ∧ RelV v u
def codeO (c : Addr) (q : Str) : HO := .ext fun h => ∃ o vs t, h.get? c = some o ∧ o.data = .fields vs ∧ vs[1]? = some (.str q t)
def lamO (f : Addr) (ps : Arguments) (b : Expr) (sc : Scope) (cl : List (Str × Addr)) (q : Str) (cd : Addr) : HO :=
  .ext fun h => ∃ pm ctv, h.get? f = some (PySem.W.kla_obj "<lambda>" q ps b sc cl pm cd ctv)
theorem cellO_ok {P : Program} {w : World} {H : Hp} {h : Heap} {c : Addr} {v : V} {u : Value} (e : h.IsCell c (some u)) (r : RelV v u) : ObjOk P w H h c (cellO c v) := by
  obtain ⟨o, e1, e2⟩ := e
  refine ⟨⟨o, u, e1, e2, r⟩, ⟨o, e1⟩, ?_⟩
  rintro h1 h2 ⟨o', u', q1, q2, q3⟩ k
  exact ⟨o', u', k _ q1, q2, q3⟩
theorem codeO_ok {P : Program} {w : World} {H : Hp} {h : Heap} {c : Addr} {q : Str} (e : h.CodeRec (.ref c) q) : ObjOk P w H h c (codeO c q) := by
  obtain ⟨c', o, vs, t, e0, e1, e2, e3⟩ := e
  cases e0
  refine ⟨⟨o, vs, t, e1, e2, e3⟩, ⟨o, e1⟩, ?_⟩
  rintro h1 h2 ⟨o', vs', t', q1, q2, q3⟩ k
  exact ⟨o', vs', t', k _ q1, q2, q3⟩
theorem lamO_ok {P : Program} {w : World} {H : Hp} {h : Heap} {f cd : Addr} {ps : Arguments} {b : Expr} {sc : Scope} {cl : List (Str × Addr)} {q : Str} {pm ctv : Value}
    (e : h.get? f = some (PySem.W.kla_obj "<lambda>" q ps b sc cl pm cd ctv)) : ObjOk P w H h f (lamO f ps b sc cl q cd) := by
  refine ⟨⟨pm, ctv, e⟩, ⟨_, e⟩, ?_⟩
  rintro h1 h2 ⟨pm', ctv', q1⟩ k
  exact ⟨pm', ctv', k _ q1⟩
structure MkL (mg : Str → Option Value) (base : Heap) (c P : Addr) : Prop where
  hd : PySem.W.CodeHd base c P
  bm : base.BuiltinsAt mg P
def LTab (H : Hp) (P : Addr) (pos : Pos) (q : Str) : Prop :=
  H P = some (.tbl #[]) ∨ ∃ cd, H P = some (.tbl #[rawInt pos.line, rawInt pos.col, .ref cd]) ∧ H cd = some (codeO cd q)
theorem objs_stay {P : Program} {w : World} {H H' : Hp} {h h' : Heap} {p : Addr} {ps : Array Value} (hp : H p = some (.tbl ps)) (ok : HOk P w H h) (k : ∀ b o, b ≠ p → h.get? b = some o → h'.get? b = some o) (s : ∀ b u, b ≠ p → H b = some u → H' b = some u)
    {b : Addr} {u : HO} (hb : b ≠ p) (e : H b = some u) : ObjOk P w H' h' b u := by
  have own : ∀ b' x, H b' = some (.own x) → b' ≠ p := fun b' x z q => by rw [q, hp] at z; cases z
  have tup : ∀ b' x, H b' = some (.tup x) → b' ≠ p := fun b' x z q => by rw [q, hp] at z; cases z
  exact (ok b u e).stay (fun b' u' z q => k b' u' (z.elim (fun z => z ▸ hb) (own _ _)) q) (fun b' z => s _ _ (own _ _ z) z) fun b' xs z => s _ _ (tup _ _ z) z
section
variable {X : Cx} {ps : Arguments} {b : Expr} {sc : Scope} {pos : Pos} {c P : Addr} {cl : List (Str × Addr)}
def tLam (X : Cx) (P : Addr) (ps : Arguments) (b : Expr) (sc : Scope) (pos : Pos) (cl : List (Str × Addr)) : TE := fun _ H Q => LTab H P pos (X.env.qual ++ "<lambda>") ∧
  (H P = some (.tbl #[]) → ∀ f cd, H f = none → H cd = none → f ≠ cd → Q (.ref f) (upd (upd (upd H P (.tbl #[rawInt pos.line, rawInt pos.col, .ref cd])) cd (codeO cd (X.env.qual ++ "<lambda>"))) f (lamO f ps b sc cl (X.env.qual ++ "<lambda>") cd))) ∧
  (∀ cd, H P = some (.tbl #[rawInt pos.line, rawInt pos.col, .ref cd]) → ∀ f, H f = none → Q (.ref f) (upd H f (lamO f ps b sc cl (X.env.qual ++ "<lambda>") cd)))
theorem pe_lam (M : MkL X.mg X.base c P) (hcode : X.env.code = .ref c) (hdef : defaultsOf ps X.env = ([], []) := by rfl) (hcl : closureFor sc X.env = pure cl := by rfl) : PE X (.Lambda ps b sc pos) (tLam X P ps b sc pos cl) := by
  intro pins s σ H Q I ⟨ht, hq1, hq2⟩
  have hg : s.heap.Ns mainGlobals X.mg := I.mod.glob.keeps I.bk
  have hC : PySem.W.CodeHd s.heap c P := M.hd.keeps I.bk
  have hB : s.heap.BuiltinsAt X.mg P := by
    obtain ⟨bm, o, h1, h2, h3, h4, h5, h6⟩ := M.bm
    exact ⟨bm, o, h1, h2, h3, h4, I.bk _ _ h5, h6⟩
  have tabs : ∀ {a : Array Value}, H P = some (.tbl a) → s.heap.get? P = some (PySem.W.tabObj a) := fun e => (show ObjOk X.prog X.w H s.heap P (.tbl _) from I.hok P _ e)
  refine PySem.W.kla_eval hdef ?_
  rcases ht with e | ⟨cd, e, ecd⟩
  · have hgP : mainGlobals ≠ P := fun z => by
      have := (I.bs mainGlobals)
      obtain ⟨o, es, ep, e1, _⟩ := I.mod.glob
      have := (I.bs _ _ e1).2
      rw [z, e] at this
      cases this
    refine PySem.W.kla_makeFunction (mg := X.mg) hcl I.ok.glob hg hcode hC (tabs e) trivial rfl hgP hB fun c' ctv h' tk hx hge hlt hrec htb => ?_
    have hsz : s.heap.objs.size ≤ h'.objs.size := Nat.le_trans hge (Nat.le_of_lt hlt)
    have nf : H h'.objs.size = none := I.hok.fresh hsz
    have nc : H c' = none := I.hok.fresh hge
    have ne : h'.objs.size ≠ c' := Nat.ne_of_gt hlt
    have hPf : P ≠ h'.objs.size := ne_of_none e nf
    have hPc : P ≠ c' := ne_of_none e nc
    have kp : ∀ b' o, b' ≠ P → s.heap.get? b' = some o → (h'.push (PySem.W.kla_obj "<lambda>" (X.env.qual ++ "<lambda>") ps b sc cl ((X.mg "__name__").getD .none) c' ctv)).get? b' = some o := fun b' o hb z => Heap.get?_push_of_some _ (hx b' o hb z)
    have st : ∀ b' u, b' ≠ P → H b' = some u → (upd (upd (upd H P (.tbl #[rawInt pos.line, rawInt pos.col, .ref c'])) c' (codeO c' (X.env.qual ++ "<lambda>"))) h'.objs.size (lamO h'.objs.size ps b sc cl (X.env.qual ++ "<lambda>") c')) b' = some u := fun b' u hb z => by
      rw [upd_ne (ne_of_none z nf), upd_ne (ne_of_none z nc), upd_ne hb]; exact z
    have stP : (upd (upd (upd H P (.tbl #[rawInt pos.line, rawInt pos.col, .ref c'])) c' (codeO c' (X.env.qual ++ "<lambda>"))) h'.objs.size (lamO h'.objs.size ps b sc cl (X.env.qual ++ "<lambda>") c')) P = some (.tbl #[rawInt pos.line, rawInt pos.col, .ref c']) := by
      rw [upd_ne hPf, upd_ne hPc, upd_same]
    have nP : ∀ b' o, s.heap.get? b' = some o → H b' = none → b' ≠ P := fun b' o _ n z => by rw [z, e] at n; cases n
    refine ⟨.ref h'.objs.size, _, I.un (t' := tk) (h' := h'.push (PySem.W.kla_obj "<lambda>" (X.env.qual ++ "<lambda>") ps b sc cl ((X.mg "__name__").getD .none) c' ctv)) ?_ ?_, rfl, hq1 e _ c' nf nc ne⟩
    · refine ⟨fun b' o z n _ _ => kp b' o (nP b' o z n) z, fun b' o z n _ _ => ⟨o.slots, kp b' o (nP b' o z n) z⟩, fun b' o z n _ => ?_, fun b' o z _ => ?_, fun b' xs z => st b' _ (fun q => by rw [q, e] at z; cases z) z, fun b' o u z => st b' _ (fun q => by rw [q, e] at z; cases z) z, fun b' a z => ?_⟩
      · have l := Heap.lt_size z
        rw [upd_ne (Nat.ne_of_lt (Nat.lt_of_lt_of_le l hsz)), upd_ne (Nat.ne_of_lt (Nat.lt_of_lt_of_le l hge)), upd_ne (nP b' o z n)]
        exact n
      · by_cases hb : b' = P
        · subst hb; exact ⟨_, Heap.get?_push_of_some _ htb⟩
        · exact ⟨o, kp b' o hb z⟩
      · by_cases hb : b' = P
        · subst hb
          rw [e] at z
          cases z
          exact ⟨#[rawInt pos.line, rawInt pos.col, .ref c'], by rw [stP, Array.empty_append]⟩
        · exact ⟨#[], by rw [st b' _ hb z]; simp⟩
    · intro b' u z
      by_cases h1 : b' = h'.objs.size
      · subst h1
        rw [upd_same] at z
        cases z
        exact lamO_ok (Heap.get?_push_size _ rfl)
      · rw [upd_ne h1] at z
        by_cases h2 : b' = c'
        · subst h2
          rw [upd_same] at z
          cases z
          obtain ⟨c2, o, vs, t, e0, e1, e2⟩ := hrec
          cases e0
          exact codeO_ok ⟨_, o, vs, t, rfl, Heap.get?_push_of_some _ e1, e2⟩
        · rw [upd_ne h2] at z
          by_cases h3 : b' = P
          · subst h3
            rw [upd_same] at z
            cases z
            have htb' := Heap.get?_push_of_some (PySem.W.kla_obj "<lambda>" (X.env.qual ++ "<lambda>") ps b sc cl ((X.mg "__name__").getD .none) c' ctv) htb
            rw [Array.empty_append] at htb'
            exact htb'
          · rw [upd_ne h3] at z
            exact objs_stay e I.hok kp st h3 z
  · refine PySem.W.kla_makeFunctionHit (mg := X.mg) (cv := .ref cd) hcl I.ok.glob hg hcode hC (tabs e) trivial ?_ hB fun ctv h' tk hk hsz => ?_
    · show codeAmong pos [rawInt pos.line, rawInt pos.col, .ref cd] = some (.ref cd)
      unfold codeAmong rawInt
      dsimp only
      simp
    have nf : H h'.objs.size = none := I.hok.fresh hsz
    refine ⟨.ref h'.objs.size, _, I.laid (t' := tk) (h' := h'.push (PySem.W.kla_obj "<lambda>" (X.env.qual ++ "<lambda>") ps b sc cl ((X.mg "__name__").getD .none) cd ctv)) (fun b' o z => Heap.get?_push_of_some _ (hk b' o z)) hsz (lamO_ok (Heap.get?_push_size _ rfl)), rfl, hq2 cd e _ nf⟩
end
end L2
namespace L2
open PySem PySem.Spec PyProof.Rows
theorem HOk.track {P : Program} {w : World} {H : Hp} {h : Heap} {c : Addr} {o : HO} (ok : HOk P w H h) (n : H c = none) (new : ObjOk P w (upd H c o) h c o) : HOk P w (upd H c o) h := fun b u e => by
  by_cases hb : b = c
  · subst hb; rw [upd_same] at e; cases e; exact new
  · rw [upd_ne hb] at e
    exact (ok b u e).stay (fun _ _ _ q => q) (fun b' z => by rw [upd_ne (ne_of_none z n)]; exact z) fun b' xs z => by rw [upd_ne (ne_of_none z n)]; exact z
theorem Un.track {fs ex : List Addr} {H H1 : Hp} {h h1 : Heap} {c : Addr} {o : HO} (u : Un fs ex H H1 h h1) (hc : h.objs.size ≤ c) (n : H1 c = none) : Un fs ex H (upd H1 c o) h h1 :=
  ⟨u.keep, u.slot, fun b ob q z hx => by rw [upd_ne (Nat.ne_of_lt (Nat.lt_of_lt_of_le (Heap.lt_size q) hc))]; exact u.free b ob q z hx, u.there,
    fun b xs z => by rw [upd_ne (ne_of_none (u.tups b xs z) n)]; exact u.tups b xs z, fun b ob x z => by rw [upd_ne (ne_of_none (u.frzs b ob x z) n)]; exact u.frzs b ob x z,
    fun b ps z => by obtain ⟨m, e⟩ := u.tbls b ps z; exact ⟨m, by rw [upd_ne (ne_of_none e n)]; exact e⟩⟩
def cellsIn : List (Nat × Str × Addr × V) → Hp → Hp
  | [], H => H
  | p :: L, H => upd (cellsIn L H) p.2.2.1 (cellO p.2.2.1 p.2.2.2)
theorem cellsIn_ne {H : Hp} {b : Addr} : ∀ {L : List (Nat × Str × Addr × V)}, b ∉ L.map (fun p => p.2.2.1) → cellsIn L H b = H b
  | [], _ => rfl
  | p :: L, h => by
    rw [List.map_cons, List.mem_cons, not_or] at h
    show upd (cellsIn L H) p.2.2.1 _ b = H b
    rw [upd_ne h.1]
    exact cellsIn_ne h.2
def RC (N : List Str) (sc : Scope) (n : Nat) (Q : VK) : St → VK := fun σ v H => ∃ L : List (Nat × Str × Addr × V),
  (∀ p ∈ L, N[p.1]? = some p.2.1 ∧ σ[p.1]? = some (some p.2.2.2) ∧ (cellsFrom n sc.names []).lookup p.2.1 = some p.2.2.1 ∧ sc.names.lookup p.2.1 = some .cell) ∧ (L.map (fun p => p.2.2.1)).Nodup ∧ ((∀ p ∈ L, H p.2.2.1 = none) → Q v (cellsIn L H))
def codeRef (K : PySem.W.Frag) (f : Addr) : Option Addr := match K.lookup f with
  | some ⟨_, _, .func fd, _⟩ => (match fd.code with
    | .ref c => some c
    | _ => none)
  | _ => none
section
variable {P : Program} {w : World} {K : PySem.W.Frag} {mg : Str → Option Value} {base : Heap} {cm : Bool}
theorem cells_end {X : Cx} {pins : List (Addr × Obj)} {σ : St} {H : Hp} {s : Shared} {fs : List Addr} (J : Inv X pins σ H s) (hf : ∀ x, X.fn x = true) (un : Un fs [] X.H₀ H X.s₀.heap s.heap) : ∀ L : List (Nat × Str × Addr × V),
    (∀ p ∈ L, X.N[p.1]? = some p.2.1 ∧ σ[p.1]? = some (some p.2.2.2) ∧ X.env.cells.lookup p.2.1 = some p.2.2.1 ∧ X.env.scope.names.lookup p.2.1 = some .cell) → (L.map (fun p => p.2.2.1)).Nodup →
    Un fs [] X.H₀ (cellsIn L H) X.s₀.heap s.heap ∧ HOk X.prog X.w (cellsIn L H) s.heap
  | [], _, _ => ⟨un, J.hok⟩
  | p :: L, h, nd => by
    rw [List.map_cons, List.nodup_cons] at nd
    obtain ⟨u1, k1⟩ := cells_end J hf un L (fun q hq => h q (List.mem_cons_of_mem _ hq)) nd.2
    obtain ⟨a1, a2, a3, a4⟩ := h p (List.mem_cons_self ..)
    have n0 : cellsIn L H p.2.2.1 = none := by rw [cellsIn_ne nd.1]; exact J.freeC _ _ a3
    obtain ⟨m, _, hl⟩ := J.loc
    obtain ⟨u, rv, lk⟩ := hl _ _ _ a1 a2 (.inr (.inl a4))
    have hc : s.heap.IsCell p.2.2.1 (some u) := by
      rcases lk with ⟨z, _⟩ | ⟨_, c, e, z⟩
      · have z' : X.env.scope.names.lookup p.2.1 = some .local := z
        rw [a4] at z'; cases z'
      · rw [a3] at e; cases e; exact z
    exact ⟨u1.track (J.ok.cab _ _ (hf _) a3) n0, k1.track n0 (cellO_ok hc rv)⟩
theorem fn_ofC {k : Nat} {f cc : Addr} {name qual : Str} {params : Arguments} {body : List Stmt} {scope : Scope} {dV kV doc pm cdv ct oc : Value} {an od : Option Addr}
    {osl : Array (Option Value)} {N ps : List Str} {sp : Sp} (lk : K.lookup f = some ⟨oc, od, .func (PySem.W.fnOf name qual params body scope dV kV doc pm an cdv ct), osl⟩) (hcd : PySem.W.codeIn K cdv qual = true) (S : FnScope N ps scope) (hcc : codeRef K f = some cc)
    (len : ∀ vs H Q E, sp vs H Q E → vs.length = ps.length)
    (hbody : ∀ (A : Around) (outer : List Env) (s : Shared) (H : Hp) (vs : List V) (Q : VK) (E : XK), Room cm k (A.deeper (envOfC qual scope s.heap.objs.size f (.ref cc))) → sp vs H Q E →
      ∃ t, PSs (cxOf CX0 cm P w K mg base N qual scope f (.ref cc) A outer s H E) body t ∧ t { nx := fun _ H' => Q .non H', rt := RC N scope (s.heap.objs.size + 1) Q } (start N vs) H) :
    FnOk P w K mg base CX0 cm (k + 1) f (PySem.W.fnOf name qual params body scope dV kV doc pm an cdv ct) ps sp := by
  have ecd : cdv = .ref cc := by
    unfold codeRef at hcc
    rw [lk] at hcc
    dsimp only [PySem.W.fnOf] at hcc
    cases cdv <;> first | (cases hcc; rfl) | (cases hcc)
  subst ecd
  refine ⟨len, fun A outer s H args us vs Q E hr e0 hb r hsp => ?_⟩
  have hl := len _ _ _ _ hsp
  have KX : K.In s.heap := e0.mod.kin.keeps fun b o e => (e0.bs b o e).1
  have lim : s.heap.NoLimit := e0.mod.nolimit.keeps fun b o e => (e0.bs b o e).1
  have hkind : ∀ y ∈ ps.zip us, scope.names.lookup y.1 = some .local ∨ (scope.names.lookup y.1 = some .cell ∧ ((cellsFrom (s.heap.objs.size + 1) scope.names []).lookup y.1).isSome = true) := fun ⟨n, v⟩ hy => by
    rcases S.par n (List.of_mem_zip hy).1 with q | q
    · exact .inl q
    · exact .inr ⟨q, PySem.W.cellsFrom_some _ _ _ (.inl q)⟩
  refine codeAny_call_function hr.depth (KX _ _ lk) rfl S.co S.gen rfl (PySem.W.codeRec_of KX hcd) (hb _ _ _ _ ?_)
  refine wpAny_newFunctionEnv_cells S.kind hkind fun env he s1 x => ?_
  subst he
  refine ⟨lim.keeps x.toInCall.keep, codeAny_func ?_⟩
  obtain ⟨t, ht, hq⟩ := hbody A outer s H vs Q E (hr.deeper _) hsp
  have I : Inv (cxOf CX0 cm P w K mg base N qual scope f (.ref cc) A outer s H E) [] (start N vs) H s1 := inv_start S hr.hd e0 hl r x
  refine wpAny_mono (ht [] s1 (start N vs) H _ I hq) (fun fl s' hs => ?_) fun e s' hs => hs
  cases fl with
  | ret u =>
    obtain ⟨v, σ', H', J, rv, L, h1, h2, q⟩ := hs
    obtain ⟨u1, k1⟩ := cells_end J (fun _ => rfl) J.base L (fun p hp => h1 p hp) h2
    exact ⟨v, _, J.os, J.bare, u1, k1, rv, q fun p hp => J.freeC _ _ (h1 p hp).2.2.1⟩
  | next =>
    obtain ⟨σ', H', J, q⟩ := hs
    exact ⟨.non, H', J.os, J.bare, J.base, J.hok, rfl, q⟩
  | brk =>
    obtain ⟨_, _, _, q⟩ := hs
    exact False.elim q
  | cont =>
    obtain ⟨_, _, _, q⟩ := hs
    exact False.elim q
theorem Fun.okC {x qual : Str} {st : Stmt} {f cc : Addr} {fd : FuncData} {N ps : List Str} {k : Nat} {sp : Sp} (F : Fun K x qual st f fd) (S : FnScope N ps (defScope st)) (hcc : codeRef K f = some cc) (len : ∀ vs H Q E, sp vs H Q E → vs.length = ps.length)
    (hbody : ∀ (A : Around) (outer : List Env) (s : Shared) (H : Hp) (vs : List V) (Q : VK) (E : XK), Room cm k (A.deeper (envOfC qual (defScope st) s.heap.objs.size f (.ref cc))) → sp vs H Q E →
      ∃ t, PSs (cxOf CX0 cm P w K mg base N qual (defScope st) f (.ref cc) A outer s H E).nox (defBody st) t ∧ t { nx := fun _ H' => Q .non H', rt := RC N (defScope st) (s.heap.objs.size + 1) Q } (start N vs) H) : FnOk P w K mg base CX0 cm (k + 1) f fd ps sp := by
  obtain ⟨oc, od, kV, doc, pm, an, cdv, ct, osl, rfl, lk, hcd⟩ := F.ex
  refine fn_ofC lk hcd S hcc len fun A outer s H vs Q E hr hsp => ?_
  obtain ⟨t, h, q⟩ := hbody A outer s H vs Q E hr hsp
  exact ⟨t, h.nox, q⟩
def cxLam (cm : Bool) (P : Program) (w : World) (K : PySem.W.Frag) (mg : Str → Option Value) (base : Heap) (N : List Str) (qual : Str) (scope : Scope) (f cd : Addr) (cl : List (Str × Addr)) (A : Around) (outer : List Env) (s : Shared) (H : Hp) : Cx where
  prog := P
  w := w
  K := K
  mg := mg
  base := base
  A := A.deeper (PySem.W.envX qual scope s.heap.objs.size f (.ref cd) cl)
  N := N
  s₀ := s
  H₀ := H
  env := PySem.W.envX qual scope s.heap.objs.size f (.ref cd) cl
  outer := outer
  stack := PySem.W.envX qual scope s.heap.objs.size f (.ref cd) cl :: outer
  ex := []
  calm := cm
  fn := fun _ => false
  pn := []
  xe := fun _ _ => False
def lessC (cl : List (Str × Addr)) (H : Hp) : Hp := fun b => if b ∈ cl.map (·.2) then none else H b
theorem lessC_none {cl : List (Str × Addr)} {H : Hp} {b : Addr} (h : H b = none) : lessC cl H b = none := by unfold lessC; split <;> first | rfl | exact h
theorem lessC_in {cl : List (Str × Addr)} {H : Hp} {b : Addr} (h : b ∈ cl.map (·.2)) : lessC cl H b = none := if_pos h
theorem lessC_out {cl : List (Str × Addr)} {H : Hp} {b : Addr} (h : b ∉ cl.map (·.2)) : lessC cl H b = H b := if_neg h
theorem lessC_some {cl : List (Str × Addr)} {H : Hp} {b : Addr} {u : HO} (h : lessC cl H b = some u) : b ∉ cl.map (·.2) ∧ H b = some u := by
  by_cases hb : b ∈ cl.map (·.2)
  · rw [lessC_in hb] at h; cases h
  · rw [lessC_out hb] at h; exact ⟨hb, h⟩
structure LamScope (x : Str) (fr : List Str) (sc : Scope) : Prop where
  kind : sc.kind = .function
  co : sc.isCoroutine = false
  gen : sc.isGenerator = false
  loc : sc.names.lookup x = some .local
  nd : (x :: fr).Nodup
  free : ∀ y ∈ fr, sc.names.lookup y = some .free
  noc : ∀ y ∈ sc.names, y.2 ≠ .cell
  all : ∀ y ∈ sc.names, y.2 = .free → y.1 ∈ fr
structure LamIs (H : Hp) (f : Addr) (ps : Arguments) (b : Expr) (sc : Scope) (q : Str) (fr : List Str) (zs : List V) (cl : List (Str × Addr)) (cd : Addr) : Prop where
  at_ : H f = some (lamO f ps b sc cl q cd)
  code : H cd = some (codeO cd q)
  nd : (cl.map (·.2)).Nodup
  len : zs.length = fr.length
  has : ∀ (i : Nat) (x : Str) (z : V), fr[i]? = some x → zs[i]? = some z → ∃ c, cl.lookup x = some c ∧ H c = some (cellO c z)
  all : ∀ p ∈ cl, ∃ z, H p.2 = some (cellO p.2 z)
theorem lam_run {k : Nat} {A : Around} {outer : List Env} {s : Shared} {H : Hp} {f cd : Addr} {u : Value} {y : V} {zs : List V} {Q : VK} {E : XK} {ps : Arguments} {b : Expr} {sc : Scope} {q : Str} {x : Str} {fr : List Str} {cl : List (Str × Addr)} {t : TE}
    (S : LamScope x fr sc) (L : LamIs H f ps b sc q fr zs cl cd) (hbind : ∀ pm ctv, bindArgs (PySem.W.kla_fn "<lambda>" q ps b sc cl pm (.ref cd) ctv) ⟨[u], []⟩ = pure [(x, u)]) (hr : Room cm k A) (e0 : Env0 P w K mg base A outer s H) (ry : RelV y u)
    (hb : PE (cxLam cm P w K mg base (x :: fr) q sc f cd cl A outer s (lessC cl H)) b t) (hq : t (some y :: zs.map some) (lessC cl H) fun v H1 => H1 = lessC cl H ∧ Q v H) :
    codeAny (model P w) A (.call (.ref f) ⟨[u], []⟩) (CR CX0 outer P w H s Q E) s := by
  obtain ⟨⟨pm, ctv, ho⟩, _, _⟩ := (show ObjOk P w H s.heap f (lamO f ps b sc cl q cd) from e0.hok f _ L.at_)
  obtain ⟨⟨oc, vs, tk, c1, c2, c3⟩, _, _⟩ := (show ObjOk P w H s.heap cd (codeO cd q) from e0.hok cd _ L.code)
  have lim : s.heap.NoLimit := e0.mod.nolimit.keeps fun b o e => (e0.bs b o e).1
  have hcell : ∀ c, c ∈ cl.map (·.2) → ∃ z, H c = some (cellO c z) := fun c hc => by
    obtain ⟨p, hp, rfl⟩ := List.mem_map.mp hc
    exact L.all p hp
  have notC : ∀ {b' : Addr} {o : HO}, H b' = some o → (∀ z, o ≠ cellO b' z) → b' ∉ cl.map (·.2) := fun e n hc => by
    obtain ⟨z, e2⟩ := hcell _ hc
    rw [e] at e2
    exact n z (Option.some.inj e2)
  refine PySem.W.kla_callFunE hr.depth ho rfl S.co S.gen rfl ⟨cd, oc, vs, tk, rfl, c1, c2, c3⟩ ?_
  rw [hbind]
  refine wpAny_pure (wpAny_newFunctionEnv S.noc (fun z hz => by rw [List.mem_singleton] at hz; subst hz; exact S.loc) (fun h₁ hns hsb => ⟨lim.fresh _ hsb, ?_⟩) S.kind)
  have hk₁ : ∀ b o, s.heap.get? b = some o → h₁.get? b = some o := fun b o e => hsb.extBut b o (Nat.ne_of_lt (Heap.lt_size e)) (Heap.get?_push_of_some _ e)
  have I : Inv (cxLam cm P w K mg base (x :: fr) q sc f cd cl A outer s (lessC cl H)) [] (some y :: zs.map some) (lessC cl H) { s with heap := h₁, toks := s.toks + 1 } := by
    have noA : ∀ b : Addr, b ∉ (cxLam cm P w K mg base (x :: fr) q sc f cd cl A outer s (lessC cl H)).ex := fun b z => absurd (show b ∈ ([] : List Addr) from z) (by simp)
    refine ⟨⟨e0.mod, S.kind, rfl, rfl, Nat.le_refl _, fun y' z c h1 h2 => ?_, fun y' hy => ?_, fun y' c h => (by cases h), hr.hd, Around.frames_deeper e0.frames, .inr ⟨rfl, rfl⟩, fun b z => absurd z (noA b), fun b o e => ⟨(e0.bs b o e).1, lessC_none (e0.bs b o e).2⟩, e0.bsz, fun b _ _ => noA b, fun b z => absurd z (noA b), e0.funs, fun b hb => lessC_none (e0.frf b hb)⟩,
      rfl, e0.bare, Un.kept hk₁, ⟨_, hns, fun i x' v h1 h2 h3 => ?_⟩, fun y' c h => ?_, lessC_none (e0.hok.fresh (Nat.le_refl _)), fun y' c h => lessC_in (List.mem_map.mpr ⟨_, PySem.mem_of_lookup h, rfl⟩), fun p hp => absurd (show p ∈ ([] : List (Addr × Obj)) from hp) (by simp), fun b' o e => ?_, ?_⟩
    · exact name_of_addr (by have := L.nd; unfold List.Nodup at this; rw [List.pairwise_map] at this; exact this) (PySem.mem_of_lookup h1) (PySem.mem_of_lookup h2)
    · have hf : sc.names.lookup y' = some .free := by
        rcases (show sc.names.lookup y' = some .cell ∨ sc.names.lookup y' = some .free from hy) with h | h
        · exact absurd rfl (S.noc _ (PySem.mem_of_lookup h))
        · exact h
      have hm : y' ∈ fr := S.all _ (PySem.mem_of_lookup hf) rfl
      obtain ⟨i, hi⟩ := List.getElem?_of_mem hm
      have hi' : i < zs.length := by rw [L.len]; exact (List.getElem?_eq_some_iff.mp hi).1
      obtain ⟨c, hc, _⟩ := L.has i y' _ hi (List.getElem?_eq_getElem hi')
      exact ⟨c, hc⟩
    · cases i with
      | zero =>
        cases h1
        cases h2
        exact ⟨u, ry, .inl ⟨S.loc, by show List.lookup x [(x, u)] = some u; rw [List.lookup_cons_self]⟩⟩
      | succ i =>
        have h1' : fr[i]? = some x' := h1
        have h2' : zs[i]? = some v := by
          have h2 : (zs.map some)[i]? = some (some v) := h2
          rw [List.getElem?_map] at h2
          cases e : zs[i]? with
          | none => rw [e] at h2; cases h2
          | some a => rw [e] at h2; cases h2; rfl
        obtain ⟨c, hc, hH⟩ := L.has i x' v h1' h2'
        obtain ⟨⟨o, u', a1, a2, a3⟩, _, _⟩ := (show ObjOk P w H s.heap c (cellO c v) from e0.hok c _ hH)
        exact ⟨u', a3, .inr ⟨.inr (S.free _ (List.mem_of_getElem? h1')), c, hc, ⟨o, hk₁ _ _ a1, a2⟩⟩⟩
    · obtain ⟨z, hH⟩ := L.all _ (PySem.mem_of_lookup h)
      obtain ⟨⟨o, u', a1, a2, a3⟩, _, _⟩ := (show ObjOk P w H s.heap c (cellO c z) from e0.hok c _ hH)
      exact ⟨some u', ⟨o, hk₁ _ _ a1, a2⟩⟩
    · obtain ⟨n1, e1⟩ := lessC_some e
      refine (e0.hok b' o e1).stay (fun b2 u2 _ z => hk₁ b2 u2 z) (fun b2 z => ?_) fun b2 xs z => ?_
      · rw [lessC_out (notC z fun z' h => by unfold cellO at h; cases h)]; exact z
      · rw [lessC_out (notC z fun z' h => by unfold cellO at h; cases h)]; exact z
    · show (zs.map some).length + 1 = fr.length + 1
      rw [List.length_map, L.len]
  refine PySem.W.kla_codeExpr (wpAny_mono (hb [] _ _ _ _ I hq) (fun v s' ⟨v1, H1, J, rv, e1, q1⟩ => ?_) fun _ _ z => z.elim)
  subst e1
  have un := J.base
  have frn : ∀ {b : Addr} {o : HO}, H b = some o → b ∉ frs outer := fun e hb => by rw [e0.frf _ hb] at e; cases e
  refine ⟨v1, H, J.os, J.bare, ⟨fun b o h n hf hx => un.keep b o h (lessC_none n) hf hx, fun b o h n hf hx => un.slot b o h (lessC_none n) hf hx, fun _ _ _ n _ => n, fun b o h hx => un.there b o h hx, fun _ _ z => z, fun _ _ _ z => z, fun b ps z => ⟨#[], by rw [z]; simp⟩⟩, fun b o e => ?_, rv, q1⟩
  by_cases hb' : b ∈ cl.map (·.2)
  · obtain ⟨z, e2⟩ := hcell b hb'
    rw [e] at e2
    cases e2
    obtain ⟨o1, o2, o3⟩ := (show ObjOk P w H s.heap b (cellO b z) from e0.hok b _ e)
    obtain ⟨ob, hob⟩ := o2
    have kb := un.keep b ob hob (lessC_in hb') (frn e) (fun z => absurd (show b ∈ ([] : List Addr) from z) (by simp))
    exact ⟨o3 _ _ o1 fun o' e' => by rw [hob] at e'; cases e'; exact kb, ⟨ob, kb⟩, o3⟩
  · have e' : lessC cl H b = some o := by rw [lessC_out hb']; exact e
    exact (J.hok b o e').stay (fun _ _ _ z => z) (fun b2 z => (lessC_some z).2) fun b2 xs z => (lessC_some z).2
theorem pe_callL {X : Cx} {k : Nat} {x y : Str} {p pos : Pos} {e : Expr} {tf : TE} {ta : TA} {ps : Arguments} {b : Expr} {sc : Scope} {q : Str} {fr : List Str} {t : TE} (S : LamScope x fr sc)
    (hbind : ∀ (u : Value) cl pm cd ctv, bindArgs (PySem.W.kla_fn "<lambda>" q ps b sc cl pm cd ctv) ⟨[u], []⟩ = pure [(x, u)]) (hr : Room cm k X.A)
    (hb : ∀ f cd cl A outer s H, PE (cxLam cm X.prog X.w X.K X.mg X.base (x :: fr) q sc f cd cl A outer s H) b t)
    (hf : PE X (.Name y p) tf) (ha : PA X [e] ta) (hs : starEach [e] X.env = [(false, eval e X.env)] := by rfl) (hpl : (backTo pos (starEach [] X.env)).any (·.1) = false := by rfl) :
    PE X (.Call (.Name y p) [e] [] pos) (fun σ H Q => tf σ H fun v H1 => ∃ f zs cl cd, v = .ref f ∧ LamIs H1 f ps b sc q fr zs cl cd ∧ ta σ H1 fun vs H2 => ∃ a, vs = [a] ∧ LamIs H2 f ps b sc q fr zs cl cd ∧
      t (some a :: zs.map some) (lessC cl H2) fun v H3 => H3 = lessC cl H2 ∧ Q v H2) := by
  intro pins s σ H Q I h
  refine wpAny_Call_Name_kw (thn (hf pins s σ H _ I h) fun fv s0 ⟨v0, H0, I0, r0, f, zs, cl, cd, e0, L0, q0⟩ => ?_)
  subst e0
  cases r0
  have fa : ∀ {H' : Hp} {s' : Shared}, Inv X pins σ H' s' → LamIs H' f ps b sc q fr zs cl cd → PySem.W.FnAt f s'.heap := fun J L => by
    obtain ⟨⟨pm, ctv, ho⟩, _, _⟩ := (show ObjOk X.prog X.w _ _ f (lamO f ps b sc cl q cd) from J.hok f _ L.at_)
    exact ⟨_, _, _, _, ho⟩
  refine PySem.W.callWith_F (first := []) (fa I0 L0) (thn (ha pos pins s0 σ H0 _ I0 q0) fun us s1 ⟨vs, H1, I1, r, a, e1, L1, q1⟩ => ⟨fa I1 L1, ?_⟩) hs hpl
  subst e1
  cases r with
  | cons ra rr =>
    cases rr
    refine wpAny_call (codeAny_mono (lam_run (Q := Q) (E := fun _ _ _ => False) S L1 (fun pm ctv => hbind _ cl pm _ ctv) hr I1.env0 ra (hb f cd cl _ _ _ _) q1) fun fl s' hq => ?_)
    match fl, hq with
    | .error ev, hq => exact hq.elim
    | .ok (.ret u), hq => exact I1.after hq
    | .ok .next, hq => exact hq.elim
    | .ok .brk, hq => exact hq.elim
    | .ok .cont, hq => exact hq.elim
end
end L2
namespace L2
open PySem PySem.Spec PyProof.Rows
end L2
namespace L2
open PySem PySem.Spec PyProof.Rows
def stAt (l : List Stmt) (i : Nat) : Stmt := l.getD i (.Pass ⟨0, 0, 0, 0⟩)
def retVal : Stmt → Expr
  | .Return (some e) _ => e
  | _ => .Constant .none 0 ⟨0, 0, 0, 0⟩
def ifBody : Stmt → List Stmt
  | .If _ a _ _ => a
  | _ => []
def argAt : Expr → Nat → Expr
  | .Call _ as _ _, i => as.getD i (.Constant .none 0 ⟨0, 0, 0, 0⟩)
  | e, _ => e
def lamArgs : Expr → Arguments
  | .Lambda a _ _ _ => a
  | _ => ⟨[], [], none, [], [], none, []⟩
def lamBody : Expr → Expr
  | .Lambda _ b _ _ => b
  | e => e
def lamScope : Expr → Scope
  | .Lambda _ _ s _ => s
  | _ => ⟨.function, [], false, false, []⟩
def lamPos : Expr → Pos
  | .Lambda _ _ _ p => p
  | _ => ⟨0, 0, 0, 0⟩
theorem tabIn_of {K : PySem.W.Frag} {x : Str} {f c P : Addr} {oc : Value} {od : Option Addr} {fd : FuncData} {sl : Array (Option Value)} {o1 : Value} {o2 : Option Addr} {vs : Array Value} {o3 : Array (Option Value)}
    (a : PySem.W.nsIn K mainGlobals x = some (some (.ref f))) (l : K.lookup f = some ⟨oc, od, .func fd, sl⟩) (hc : fd.code = .ref c) (lk : K.lookup c = some ⟨o1, o2, .fields vs, o3⟩) (hv : vs[11]? = some (.ref P)) : PySem.W.tabIn K x = some (c, P) := by
  unfold PySem.W.tabIn
  rw [a]
  simp only [l, hc, lk, hv]
theorem codeRef_of {K : PySem.W.Frag} {f c : Addr} {oc : Value} {od : Option Addr} {fd : FuncData} {sl : Array (Option Value)} (l : K.lookup f = some ⟨oc, od, .func fd, sl⟩) (hc : fd.code = .ref c) : codeRef K f = some c := by
  unfold codeRef
  simp only [l, hc]
theorem LamIs.up {H H' : Hp} {f cd pt : Addr} {ps : Arguments} {b : Expr} {sc : Scope} {q : Str} {fr : List Str} {zs : List V} {cl : List (Str × Addr)} {tb : Array Value} (h : LamIs H f ps b sc q fr zs cl cd) (hp : H pt = some (.tbl tb)) (s : ∀ b u, b ≠ pt → H b = some u → H' b = some u) :
    LamIs H' f ps b sc q fr zs cl cd := by
  have ne : ∀ {b : Addr} {φ : Heap → Prop}, H b = some (.ext φ) → b ≠ pt := fun e z => by rw [z, hp] at e; cases e
  refine ⟨s _ _ (ne (φ := _) h.at_) h.at_, s _ _ (ne (φ := _) h.code) h.code, h.nd, h.len, fun i x z h1 h2 => ?_, fun p hp => ?_⟩
  · obtain ⟨c, e1, e2⟩ := h.has i x z h1 h2
    exact ⟨c, e1, s _ _ (ne (φ := _) e2) e2⟩
  · obtain ⟨z, e⟩ := h.all p hp
    exact ⟨z, s _ _ (ne (φ := _) e) e⟩
theorem LamIs.same {H H' : Hp} {f cd : Addr} {ps : Arguments} {b : Expr} {sc : Scope} {q : Str} {fr : List Str} {zs : List V} {cl : List (Str × Addr)} (h : LamIs H f ps b sc q fr zs cl cd) (s : ∀ b u, H b = some u → H' b = some u) :
    LamIs H' f ps b sc q fr zs cl cd := by
  refine ⟨s _ _ h.at_, s _ _ h.code, h.nd, h.len, fun i x z h1 h2 => ?_, fun p hp => ?_⟩
  · obtain ⟨c, e1, e2⟩ := h.has i x z h1 h2
    exact ⟨c, e1, s _ _ e2⟩
  · obtain ⟨z, e⟩ := h.all p hp
    exact ⟨z, s _ _ e⟩
theorem LTab.same {H H' : Hp} {P : Addr} {pos : Pos} {q : Str} (h : LTab H P pos q) (s : ∀ b u, H b = some u → H' b = some u) : LTab H' P pos q := by
  rcases h with h | ⟨cd, h1, h2⟩
  · exact .inl (s _ _ h)
  · exact .inr ⟨cd, s _ _ h1, s _ _ h2⟩
theorem LTab.tbl {H : Hp} {P : Addr} {pos : Pos} {q : Str} (h : LTab H P pos q) : ∃ tb, H P = some (.tbl tb) := by
  rcases h with h | ⟨cd, h1, h2⟩
  · exact ⟨_, h⟩
  · exact ⟨_, h1⟩
end L2
namespace L2
open PySem PySem.Spec PyProof.Rows
theorem lam_made1 {H : Hp} {P : Addr} {pos : Pos} {q : Str} {ps : Arguments} {b : Expr} {sc : Scope} {cl : List (Str × Addr)} {Q : VK}
    (ht : LTab H P pos q) (k : ∀ f cd H', (∀ b u, b ≠ P → H b = some u → H' b = some u) → LTab H' P pos q → H' f = some (lamO f ps b sc cl q cd) → H' cd = some (codeO cd q) → Q (.ref f) H') :
    (H P = some (.tbl #[]) → ∀ f cd, H f = none → H cd = none → f ≠ cd → Q (.ref f) (upd (upd (upd H P (.tbl #[rawInt pos.line, rawInt pos.col, .ref cd])) cd (codeO cd q)) f (lamO f ps b sc cl q cd))) ∧
    (∀ cd, H P = some (.tbl #[rawInt pos.line, rawInt pos.col, .ref cd]) → ∀ f, H f = none → Q (.ref f) (upd H f (lamO f ps b sc cl q cd))) := by
  refine ⟨fun e f cd nf nc ne => ?_, fun cd e f nf => ?_⟩
  · have c1 : (upd (upd (upd H P (.tbl #[rawInt pos.line, rawInt pos.col, .ref cd])) cd (codeO cd q)) f (lamO f ps b sc cl q cd)) cd = some (codeO cd q) := by rw [upd_ne (Ne.symm ne), upd_same]
    refine k f cd _ (fun b u hb z => ?_) (.inr ⟨cd, ?_, c1⟩) upd_same c1
    · rw [upd_ne (ne_of_none z nf), upd_ne (ne_of_none z nc), upd_ne hb]; exact z
    · rw [upd_ne (ne_of_none e nf), upd_ne (ne_of_none e nc), upd_same]
  · skip
    rcases ht with e2 | ⟨cd', e2, e3⟩
    · rw [e] at e2; cases e2
    · have : cd' = cd := by
        rw [e] at e2
        have e4 := Option.some.inj e2
        injection e4 with e4
        have e5 := congrArg (fun (z : Array Value) => z[2]?) e4
        have e6 : some (Value.ref cd) = some (Value.ref cd') := e5
        cases e6
        rfl
      subst this
      have c1 : (upd H f (lamO f ps b sc cl q cd')) cd' = some (codeO cd' q) := by rw [upd_ne (ne_of_none e3 nf)]; exact e3
      exact k f cd' _ (fun b u _ z => by rw [upd_ne (ne_of_none z nf)]; exact z) (.inr ⟨cd', by rw [upd_ne (ne_of_none e nf)]; exact e, c1⟩) upd_same c1
end L2
namespace L2
open PySem PySem.Spec PyProof.Rows
section
variable {X : Cx}
end
end L2
namespace L2
open PySem PySem.Spec PyProof.Rows PySem.SeqAt
section
variable {X : Cx}
end
end L2
namespace HT
open PySem PySem.Spec PyProof.Rows
section
variable {prog : Program} {w : World} {A : Around} {E : Value → Shared → Prop} {s : Shared}
end
end HT
namespace L2
open PySem PySem.Spec PyProof.Rows PySem.SeqAt
section
variable {X : Cx}
end
theorem comp_some {J : It} {cap : List (Option Nat)} {tt : TT} {te : TE} {σ : St} {H1 : Hp} {Q : VK} {xs : List V} (hJ : Seq J H1 xs) (G : V → Prop) (hsz : xs.length ≤ 100000)
    (hp : ∀ x ∈ xs, ∀ H', Same H1 H' → ∀ R : Bool → Hp → Prop, (∀ b H'', Same H' H'' → R b H'') → tt ((capt cap σ).set 0 (some x)) H' R)
    (he : ∀ x ∈ xs, ∀ H', Same H1 H' → ∀ R : VK, (∀ v H'', Same H' H'' → G v → R v H'') → te ((capt cap σ).set 0 (some x)) H' R)
    (k : ∀ D H' ys, Same H1 H' → H1 D = none → H' D = some (.lst ys) → (∀ v ∈ ys, G v) → ys.length ≤ xs.length → Q (.ref D) H') :
    compBody J H1 cap (gName 0) tt te σ Q := by
  intro D hD
  refine ⟨fun i m ys σ' H' => m = xs.length - i ∧ i ≤ xs.length ∧ (∀ v, σ'.set 0 v = (capt cap σ).set 0 v) ∧ H' D = some (.lst ys) ∧ Same H1 H' ∧ (∀ v ∈ ys, G v) ∧ ys.length ≤ i,
    ⟨xs.length, by simp, Nat.zero_le _, fun _ => rfl, upd_same, same_upd hD, (fun _ z => nomatch z), Nat.le_refl _⟩, ?_⟩
  rintro i m ys σ' H' ⟨rfl, hi, hσ, hl, sm, hG, hle⟩
  refine ⟨hl, ?_⟩
  obtain ⟨q1, q2⟩ := hJ H' sm
  by_cases hlt : i < xs.length
  · have e : xs[i]? = some xs[i] := by simp [hlt]
    obtain ⟨go, y⟩ := q1 i _ e
    refine .inr ⟨go, fun x H2 hy => ?_⟩
    obtain ⟨rfl, rfl⟩ := y x H2 hy
    have hm : xs[i] ∈ xs := List.getElem_mem hlt
    have hss : ∀ v, ((capt cap σ).set 0 (some xs[i])).set 0 v = (capt cap σ).set 0 v := fun v => by rw [List.set_set]
    show tt (σ'.set 0 (some xs[i])) _ _
    rw [hσ]
    refine hp _ hm _ sm _ fun b H3 s3 => ?_
    cases b with
    | true =>
      refine iteT ?_
      refine he _ hm _ (sm.trans s3) _ fun v H4 s4 hv => ?_
      have hl4 := s4 _ _ (s3 _ _ hl)
      refine ⟨hl4, Nat.lt_of_le_of_lt (by omega : ys.length ≤ 100000) (by decide), xs.length - (i + 1), by omega, rfl, hlt, hss, upd_same, fun c o ec => ?_, fun z hz => ?_, by rw [List.length_append]; show _ + 1 ≤ _; omega⟩
      · rw [upd_ne (ne_of_none ec hD)]
        exact s4 _ _ (s3 _ _ (sm _ _ ec))
      · rcases List.mem_append.mp hz with hz | hz
        · exact hG z hz
        · rw [List.mem_singleton] at hz
          subst hz
          exact hv
    | false =>
      refine iteF ?_
      exact ⟨xs.length - (i + 1), by omega, rfl, hlt, hss, s3 _ _ hl, sm.trans s3, hG, by omega⟩
  · have e : i = xs.length := by omega
    subst e
    refine .inl ⟨q2, k D _ ys sm hD hl hG hle⟩
end L2
namespace DC
def Rise (ns : List Int) : Prop := ns.Pairwise (· < ·)
def below (ns : List Int) (x : Int) : Nat := ns.countP (fun a => decide (a < x))
theorem below_le (ns : List Int) (x : Int) : below ns x ≤ ns.length := List.countP_le_length
theorem below_at {ns : List Int} {x : Int} {k : Nat} (hk : k ≤ ns.length) (h1 : ∀ (i : Nat) a, i < k → ns[i]? = some a → a < x) (h2 : ∀ (i : Nat) a, k ≤ i → ns[i]? = some a → ¬ a < x) : below ns x = k := by
  unfold below
  rw [← List.take_append_drop k ns, List.countP_append]
  have e1 : (ns.take k).countP (fun a => decide (a < x)) = (ns.take k).length := by
    rw [List.countP_eq_length]
    intro a ha
    obtain ⟨i, hi⟩ := List.getElem?_of_mem ha
    have hik : i < k := by
      obtain ⟨z, _⟩ := List.getElem?_eq_some_iff.mp hi
      rw [List.length_take] at z
      omega
    rw [List.getElem?_take_of_lt hik] at hi
    exact decide_eq_true (h1 i a hik hi)
  have e2 : (ns.drop k).countP (fun a => decide (a < x)) = 0 := by
    rw [List.countP_eq_zero]
    intro a ha
    obtain ⟨i, hi⟩ := List.getElem?_of_mem ha
    rw [List.getElem?_drop] at hi
    have := h2 (k + i) a (Nat.le_add_right _ _) hi
    simpa using this
  rw [e1, e2, List.length_take]
  omega
theorem rise_lt {ns : List Int} (h : Rise ns) {i j : Nat} {a b : Int} (hi : ns[i]? = some a) (hj : ns[j]? = some b) (hij : i < j) : a < b := by
  obtain ⟨h1, rfl⟩ := List.getElem?_eq_some_iff.mp hi
  obtain ⟨h2, rfl⟩ := List.getElem?_eq_some_iff.mp hj
  exact List.pairwise_iff_getElem.mp h i j h1 h2 hij
theorem rise_le {ns : List Int} (h : Rise ns) {i j : Nat} {a b : Int} (hi : ns[i]? = some a) (hj : ns[j]? = some b) (hij : i ≤ j) : a ≤ b := by
  rcases Nat.lt_or_eq_of_le hij with h' | rfl
  · exact Int.le_of_lt (rise_lt h hi hj h')
  · rw [hi] at hj; cases hj; exact Int.le_refl _
theorem below_front {ns : List Int} (h : Rise ns) {x : Int} {i : Nat} {a : Int} (hi : ns[i]? = some a) : i < below ns x ↔ a < x := by
  have hl : i < ns.length := by obtain ⟨z, _⟩ := List.getElem?_eq_some_iff.mp hi; exact z
  have key : ∀ (ms : List Int), Rise ms → ∀ (j : Nat) (b : Int), ms[j]? = some b → (j < below ms x ↔ b < x) := by
    intro ms
    induction ms with
    | nil => intro _ j b hj; simp at hj
    | cons c r ih =>
      intro hr j b hj
      have hr' := (List.pairwise_cons.mp hr)
      unfold below
      rw [List.countP_cons]
      cases j with
      | zero =>
        simp at hj
        subst hj
        have z : ¬ c < x → r.countP (fun a => decide (a < x)) = 0 := fun hc => by
          rw [List.countP_eq_zero]
          intro a ha
          have := hr'.1 a ha
          simp
          omega
        by_cases hc : c < x
        · simp [hc]
        · rw [z hc]
          simp [hc]
      | succ j =>
        simp at hj
        have := ih hr'.2 j b hj
        unfold below at this
        by_cases hc : c < x
        · simp [hc]
          omega
        · have hb : ¬ b < x := by
            have := hr'.1 b (List.mem_of_getElem? hj)
            omega
          have : r.countP (fun a => decide (a < x)) = 0 := by
            rw [List.countP_eq_zero]
            intro a ha
            have := hr'.1 a ha
            simp
            omega
          simp [hc, hb]
          omega
  exact key ns h i a hi
def off (own : Int) (cs : List (Int × Int)) (k : Nat) : Int := if k = 0 then own else (cs.getD (k - 1) (0, 0)).2
end DC
namespace DM
def leap (y : Int) : Bool := decide (y % 400 = 0) || (decide (y % 4 = 0) && !decide (y % 100 = 0))
def year (y : Int) : Int := (y - 2000) * 365 + (y - 2000 + 3) / 4 - (y - 2000 + 99) / 100 + (y - 2000 + 399) / 400
def len (y m : Int) : Int := if m = 2 then (if leap y then 29 else 28) else if m = 1 ∨ m = 3 ∨ m = 5 ∨ m = 7 ∨ m = 8 ∨ m = 10 ∨ m = 12 then 31 else 30
def ahead (m : Int) : Int := if m ≤ 1 then 0 else if m = 2 then 31 else if m = 3 then 59 else if m = 4 then 90 else if m = 5 then 120 else if m = 6 then 151 else if m = 7 then 181 else if m = 8 then 212 else if m = 9 then 243 else if m = 10 then 273 else if m = 11 then 304 else 334
def mb (n : Int) : Int := year (2000 + n / 12) + ahead (n % 12 + 1) + (if n % 12 + 1 > 2 ∧ leap (2000 + n / 12) = true then 1 else 0)
theorem leap_iff (y : Int) : leap y = true ↔ (y % 400 = 0 ∨ (y % 4 = 0 ∧ ¬ y % 100 = 0)) := by
  simp [leap]
theorem year_succ (y : Int) : year (y + 1) = year y + 365 + (if leap y = true then 1 else 0) := by
  unfold year
  by_cases h : leap y = true
  · rw [if_pos h]
    rw [leap_iff] at h
    omega
  · rw [if_neg h]
    rw [leap_iff] at h
    omega
theorem mb_tab : ∀ k : Nat, k < 11 → ∀ b : Bool, ahead ((k : Int) + 1 + 1) + (if (k : Int) + 1 + 1 > 2 ∧ b = true then 1 else 0) = ahead ((k : Int) + 1) + (if (k : Int) + 1 > 2 ∧ b = true then 1 else 0) +
    (if (k : Int) + 1 = 2 then (if b then 29 else 28) else if (k : Int) + 1 = 1 ∨ (k : Int) + 1 = 3 ∨ (k : Int) + 1 = 5 ∨ (k : Int) + 1 = 7 ∨ (k : Int) + 1 = 8 ∨ (k : Int) + 1 = 10 ∨ (k : Int) + 1 = 12 then 31 else 30) := by decide +kernel
theorem mb_end : ∀ b : Bool, ahead (0 + 1) + (if (0 : Int) + 1 > 2 ∧ b = true then 1 else 0) + 365 + (if b = true then 1 else 0) = ahead (11 + 1) + (if (11 : Int) + 1 > 2 ∧ b = true then 1 else 0) + 31 := by decide +kernel
theorem mb_succ (n : Int) : mb (n + 1) = mb n + len (2000 + n / 12) (n % 12 + 1) := by
  obtain ⟨k, hk⟩ := Int.eq_ofNat_of_zero_le (show 0 ≤ n % 12 by omega)
  unfold mb len
  by_cases h : n % 12 = 11
  · rw [show (n + 1) / 12 = n / 12 + 1 by omega, show (n + 1) % 12 = 0 by omega, h, show (2000 : Int) + (n / 12 + 1) = 2000 + n / 12 + 1 by omega, year_succ]
    have := mb_end (leap (2000 + n / 12))
    rw [if_neg (show ¬ ((0 : Int) + 1 > 2 ∧ leap (2000 + n / 12) = true) from fun z => absurd z.1 (by decide))] at this
    rw [if_neg (show ¬ ((0 : Int) + 1 > 2 ∧ leap (2000 + n / 12 + 1) = true) from fun z => absurd z.1 (by decide)), if_neg (show ¬ (11 : Int) + 1 = 2 by decide), if_pos (show (11 : Int) + 1 = 1 ∨ (11 : Int) + 1 = 3 ∨ (11 : Int) + 1 = 5 ∨ (11 : Int) + 1 = 7 ∨ (11 : Int) + 1 = 8 ∨ (11 : Int) + 1 = 10 ∨ (11 : Int) + 1 = 12 by decide)]
    omega
  · have := mb_tab k (by omega) (leap (2000 + n / 12))
    rw [show (n + 1) / 12 = n / 12 by omega, show (n + 1) % 12 = (k : Int) + 1 by omega, hk]
    rw [Int.add_assoc, this, ← Int.add_assoc, ← Int.add_assoc]
theorem len_pos (y m : Int) : 28 ≤ len y m ∧ len y m ≤ 31 := by
  unfold len
  split
  · split <;> omega
  · split <;> omega
theorem mb_year (y : Int) : mb (12 * (y - 2000)) = year y := by
  unfold mb
  have e1 : 12 * (y - 2000) / 12 = y - 2000 := by omega
  have e2 : 12 * (y - 2000) % 12 = 0 := by omega
  rw [e1, e2, show (2000 : Int) + (y - 2000) = y by omega]
  simp [ahead]
theorem mb_lt (n : Int) : mb n + 28 ≤ mb (n + 1) := by
  have := mb_succ n
  have := len_pos (2000 + n / 12) (n % 12 + 1)
  omega
theorem mb_mono_nat (n : Int) : ∀ k : Nat, mb n + 28 * k ≤ mb (n + k)
  | 0 => by simp
  | k + 1 => by
    have ih := mb_mono_nat n k
    have := mb_lt (n + k)
    rw [show n + ((k + 1 : Nat) : Int) = n + k + 1 by omega]
    omega
theorem mb_mono {a b : Int} (h : a ≤ b) : mb a + 28 * (b - a) ≤ mb b := by
  have := mb_mono_nat a (b - a).toNat
  rw [show a + ((b - a).toNat : Int) = b by omega] at this
  omega
theorem mb_0 : mb 0 = 0 := by decide
theorem mb_4800 : mb 4800 = 146097 := by decide
theorem mb_one {a b d : Int} (h1 : mb a ≤ d) (h2 : d < mb (a + 1)) (h3 : mb b ≤ d) (h4 : d < mb (b + 1)) : a = b := by
  rcases Int.lt_trichotomy a b with h | h | h
  · have := mb_mono (a := a + 1) (b := b) (by omega); omega
  · exact h
  · have := mb_mono (a := b + 1) (b := a) (by omega); omega
def near (n : Nat) : Bool := decide (mb n * 4800 ≤ (n + 1) * 146097) && decide (((n : Int) - 1) * 146097 ≤ mb n * 4800)
def nearAll : Nat → Bool
  | 0 => true
  | n + 1 => near n && nearAll n
theorem nearAll_of : ∀ {k n : Nat}, nearAll k = true → n < k → near n = true
  | k + 1, n, h, hn => by
    unfold nearAll at h
    rw [Bool.and_eq_true] at h
    by_cases e : n = k
    · rw [e]; exact h.1
    · exact nearAll_of h.2 (by omega)
set_option maxRecDepth 100000 in
theorem near_ok : nearAll 4801 = true := by decide +kernel
theorem near_at {n : Int} (h0 : 0 ≤ n) (h1 : n ≤ 4800) : mb n * 4800 ≤ (n + 1) * 146097 ∧ (n - 1) * 146097 ≤ mb n * 4800 := by
  have h := nearAll_of (n := n.toNat) near_ok (by omega)
  unfold near at h
  rw [Bool.and_eq_true, decide_eq_true_eq, decide_eq_true_eq, show ((n.toNat : Nat) : Int) = n by omega] at h
  exact h
def mo (d : Int) : Int := if mb (d * 4800 / 146097) > d then d * 4800 / 146097 - 1 else if mb (d * 4800 / 146097 + 1) ≤ d then d * 4800 / 146097 + 1 else d * 4800 / 146097
theorem mo_ok {d : Int} (h0 : 0 ≤ d) (h1 : d < 146097) : mb (mo d) ≤ d ∧ d < mb (mo d + 1) ∧ 0 ≤ mo d ∧ mo d < 4800 := by
  unfold mo
  have g0 : 0 ≤ d * 4800 / 146097 := by omega
  have g1 : d * 4800 / 146097 < 4800 := by omega
  have hd : (d * 4800 / 146097) * 146097 ≤ d * 4800 ∧ d * 4800 < (d * 4800 / 146097 + 1) * 146097 := by omega
  generalize d * 4800 / 146097 = g at *
  have e0 := mb_0
  have e1 := mb_4800
  split
  · rename_i h
    have hg : 1 ≤ g := by
      rcases Int.lt_or_le g 1 with z | z
      · have : g = 0 := by omega
        subst this
        omega
      · exact z
    have n1 := (near_at (n := g - 1) (by omega) (by omega)).1
    rw [show g - 1 + 1 = g by omega] at *
    exact ⟨by omega, by omega, by omega, by omega⟩
  · split
    · rename_i h2
      have hg : g + 1 < 4800 := by
        rcases Int.lt_or_le (g + 1) 4800 with z | z
        · exact z
        · have : g = 4799 := by omega
          subst this
          have h2' : mb 4800 ≤ d := h2
          omega
      have n2 := (near_at (n := g + 2) (by omega) (by omega)).2
      rw [show g + 1 + 1 = g + 2 by omega]
      exact ⟨by omega, by omega, by omega, by omega⟩
    · exact ⟨by omega, by omega, g0, g1⟩
theorem mo_eq {d n : Int} (h0 : 0 ≤ d) (h1 : d < 146097) (h2 : mb n ≤ d) (h3 : d < mb (n + 1)) : mo d = n :=
  mb_one (mo_ok h0 h1).1 (mo_ok h0 h1).2.1 h2 h3
def nearY (n : Nat) : Bool := decide (year (2000 + n) * 400 ≤ (n + 1) * 146097) && decide (((n : Int) - 1) * 146097 ≤ year (2000 + n) * 400)
def nearYAll : Nat → Bool
  | 0 => true
  | n + 1 => nearY n && nearYAll n
theorem nearYAll_of : ∀ {k n : Nat}, nearYAll k = true → n < k → nearY n = true
  | k + 1, n, h, hn => by
    unfold nearYAll at h
    rw [Bool.and_eq_true] at h
    by_cases e : n = k
    · rw [e]; exact h.1
    · exact nearYAll_of h.2 (by omega)
set_option maxRecDepth 100000 in
theorem nearY_ok : nearYAll 401 = true := by decide +kernel
theorem nearY_at {n : Int} (h0 : 0 ≤ n) (h1 : n ≤ 400) : year (2000 + n) * 400 ≤ (n + 1) * 146097 ∧ (n - 1) * 146097 ≤ year (2000 + n) * 400 := by
  have h := nearYAll_of (n := n.toNat) nearY_ok (by omega)
  unfold nearY at h
  rw [Bool.and_eq_true, decide_eq_true_eq, decide_eq_true_eq, show ((n.toNat : Nat) : Int) = n by omega] at h
  exact h
def yr (d : Int) : Int := if year (2000 + d * 400 / 146097) > d then 2000 + d * 400 / 146097 - 1 else if year (2000 + d * 400 / 146097 + 1) ≤ d then 2000 + d * 400 / 146097 + 1 else 2000 + d * 400 / 146097
theorem year_2000 : year 2000 = 0 := by decide
theorem year_2400 : year 2400 = 146097 := by decide
theorem yr_ok {d : Int} (h0 : 0 ≤ d) (h1 : d < 146097) : year (yr d) ≤ d ∧ d < year (yr d + 1) ∧ 2000 ≤ yr d ∧ yr d < 2400 := by
  unfold yr
  have g0 : 0 ≤ d * 400 / 146097 := by omega
  have g1 : d * 400 / 146097 < 400 := by omega
  have hd : (d * 400 / 146097) * 146097 ≤ d * 400 ∧ d * 400 < (d * 400 / 146097 + 1) * 146097 := by omega
  generalize d * 400 / 146097 = g at *
  have e0 := year_2000
  have e1 := year_2400
  split
  · rename_i h
    have hg : 1 ≤ g := by
      rcases Int.lt_or_le g 1 with z | z
      · have : g = 0 := by omega
        subst this
        have h' : year 2000 > d := h
        omega
      · exact z
    have n1 := (nearY_at (n := g - 1) (by omega) (by omega)).1
    rw [show 2000 + g - 1 = 2000 + (g - 1) by omega]
    rw [show 2000 + (g - 1) + 1 = 2000 + g by omega]
    exact ⟨by omega, by omega, by omega, by omega⟩
  · split
    · rename_i h2
      have hg : g + 1 < 400 := by
        rcases Int.lt_or_le (g + 1) 400 with z | z
        · exact z
        · have : g = 399 := by omega
          subst this
          have h2' : year 2400 ≤ d := h2
          omega
      have n2 := (nearY_at (n := g + 2) (by omega) (by omega)).2
      rw [show 2000 + g + 1 + 1 = 2000 + (g + 2) by omega]
      exact ⟨by omega, by omega, by omega, by omega⟩
    · exact ⟨by omega, by omega, by omega, by omega⟩
def sums (y : Int) : Nat → Int
  | 0 => 0
  | k + 1 => sums y k + len y (k + 1)
theorem sums_succ (y : Int) (k : Nat) : sums y (k + 1) = sums y k + len y (k + 1) := rfl
theorem mb_sums (y : Int) : ∀ k : Nat, k ≤ 12 → mb (12 * (y - 2000) + k) = year y + sums y k
  | 0, _ => by rw [show 12 * (y - 2000) + ((0 : Nat) : Int) = 12 * (y - 2000) by omega, mb_year]; simp [sums]
  | k + 1, h => by
    have ih := mb_sums y k (by omega)
    rw [show 12 * (y - 2000) + ((k + 1 : Nat) : Int) = 12 * (y - 2000) + k + 1 by omega, mb_succ, ih, show (12 * (y - 2000) + (k : Int)) / 12 = y - 2000 by omega,
      show (12 * (y - 2000) + (k : Int)) % 12 = k by omega, show (2000 : Int) + (y - 2000) = y by omega]
    simp only [sums]
    omega
theorem dayIn {n : Int} (h0 : 0 ≤ n) (h1 : n < 4800) : 0 ≤ mb n ∧ mb (n + 1) ≤ 146097 := by
  have a := mb_mono (a := 0) (b := n) h0
  have b := mb_mono (a := n + 1) (b := 4800) (by omega)
  rw [mb_0] at a
  rw [mb_4800] at b
  omega
end DM
namespace DF
inductive Rl where
  | nv
  | ev (st fi : Int)
  | wk (mk fi e : Int)
  | mo (dt fi e : Int)
  | nt (wh wd fi e : Int)
  | yr (mn dt fi e : Int)
  | dy (ds : List Int)
  | wh (m r : Int)
def inw (b e f : Int) : Option Int := if b ≤ f ∧ f < e then some f else none
def dayDate (n dt : Int) : Option Int := inw (DM.mb n) (DM.mb (n + 1)) (if dt > 0 then DM.mb n + dt - 1 else DM.mb (n + 1) + dt)
def dayNth (n w wd : Int) : Option Int := inw (DM.mb n) (DM.mb (n + 1)) (if w > 0 then DM.mb n + (wd - (DM.mb n + 5) % 7) % 7 + (w - 1) * 7 else DM.mb (n + 1) - 1 - ((DM.mb (n + 1) - 1 + 5) % 7 - wd) % 7 + (w + 1) * 7)
def isD (d : Int) : Bool := decide (0 ≤ d ∧ d < 146097)
def byM (o s fi : Int) (g : Int → Option Int) (d : Int) : Bool := if isD d = true ∧ fi ≤ d then decide ((DM.mo d - o) % s = 0) && decide (g (DM.mo d) = some d) else false
def fl : Rl → Int → Bool
  | .nv, _ => false
  | .ev st fi, d => isD d && (decide (fi ≤ d) && decide ((d - fi) % st = 0))
  | .wk mk fi e, d => if isD d = true ∧ fi ≤ d then decide (((d + 5) / 7 - (fi + 5) / 7) % e = 0) && decide (mk / 2 ^ ((d + 5) % 7).toNat % 2 = 1) else false
  | .mo dt fi e, d => byM (DM.mo fi) e fi (fun n => dayDate n dt) d
  | .nt w wd fi e, d => byM (DM.mo fi) e fi (fun n => dayNth n w wd) d
  | .yr mn dt fi e, d => byM (DM.mo fi / 12 * 12 + mn - 1) (e * 12) fi (fun n => dayDate n dt) d
  | .dy ds, d => decide (d ∈ ds)
  | .wh m r, d => isD d && decide (d * d % m = r)
def Fi (fi e : Int) : Prop := 0 ≤ fi ∧ fi < 146097 ∧ 1 ≤ e ∧ e ≤ 1000
def Ok : Rl → Prop
  | .nv => True
  | .ev st fi => 1 ≤ st ∧ st ≤ 146096 ∧ 0 ≤ fi ∧ fi < 146097
  | .wk mk fi e => 1 ≤ mk ∧ mk ≤ 127 ∧ Fi fi e
  | .mo dt fi e => -31 ≤ dt ∧ dt ≤ 31 ∧ dt ≠ 0 ∧ Fi fi e
  | .nt w wd fi e => -5 ≤ w ∧ w ≤ 5 ∧ w ≠ 0 ∧ 0 ≤ wd ∧ wd ≤ 6 ∧ Fi fi e
  | .yr mn dt fi e => 1 ≤ mn ∧ mn ≤ 12 ∧ 1 ≤ dt ∧ dt ≤ DM.len 2000 mn ∧ Fi fi e
  | .dy ds => ds.length ≤ 50 ∧ ∀ k ∈ ds, 0 ≤ k ∧ k < 146097
  | .wh m r => 1 ≤ m
theorem isD_iff {d : Int} : isD d = true ↔ 0 ≤ d ∧ d < 146097 := decide_eq_true_iff
theorem fl_out {r : Rl} {d : Int} (h : Ok r) (hd : d < 0 ∨ 146097 ≤ d) : fl r d = false := by
  have n : isD d = false := by unfold isD; exact decide_eq_false (by omega)
  have by0 : ∀ o s fi g, byM o s fi g d = false := fun o s fi g => by unfold byM; rw [n, if_neg (fun w => nomatch w.1)]
  cases r with
  | nv => rfl
  | ev st fi => show (isD d && _) = false; rw [n]; rfl
  | wk mk fi e => show (if isD d = true ∧ fi ≤ d then _ else false) = false; rw [n, if_neg (fun w => nomatch w.1)]
  | mo dt fi e => exact by0 (DM.mo fi) e fi (fun n => dayDate n dt)
  | nt w wd fi e => exact by0 (DM.mo fi) e fi (fun n => dayNth n w wd)
  | yr mn dt fi e => exact by0 (DM.mo fi / 12 * 12 + mn - 1) (e * 12) fi (fun n => dayDate n dt)
  | dy ds => exact decide_eq_false fun hk => by have := h.2 d hk; omega
  | wh m r => show (isD d && _) = false; rw [n]; rfl
theorem inw_iff {b e f d : Int} (h1 : b ≤ d) (h2 : d < e) : inw b e f = some d ↔ f = d := by
  unfold inw
  by_cases h : b ≤ f ∧ f < e
  · rw [if_pos h, Option.some.injEq]
  · rw [if_neg h]
    constructor
    · intro w; cases w
    · intro w; subst w; exact absurd ⟨h1, h2⟩ h
theorem date_iff {n d dt : Int} (h1 : DM.mb n ≤ d) (h2 : d < DM.mb (n + 1)) (hn : dt ≠ 0) : dayDate n dt = some d ↔ d - DM.mb n + 1 = (if dt < 0 then DM.len (2000 + n / 12) (n % 12 + 1) + 1 + dt else dt) := by
  unfold dayDate
  rw [inw_iff h1 h2]
  have := DM.mb_succ n
  by_cases h : dt > 0
  · rw [if_pos h, if_neg (by omega)]; omega
  · rw [if_neg h, if_pos (by omega)]; omega
theorem nth_iff {n d w wd : Int} (h1 : DM.mb n ≤ d) (h2 : d < DM.mb (n + 1)) (hn : w ≠ 0) (w0 : 0 ≤ wd) (w1 : wd ≤ 6) :
    dayNth n w wd = some d ↔ (d + 5) % 7 = wd ∧ (if w < 0 then 0 - (DM.len (2000 + n / 12) (n % 12 + 1) - (d - DM.mb n + 1) + 7) / 7 else (d - DM.mb n + 1 + 6) / 7) = w := by
  unfold dayNth
  rw [inw_iff h1 h2]
  have := DM.mb_succ n
  by_cases h : w > 0
  · rw [if_pos h, if_neg (by omega)]; omega
  · rw [if_neg h, if_pos (by omega)]; omega
theorem year_iff {n o mn e : Int} (he : 1 ≤ e) (m1 : 1 ≤ mn) (m2 : mn ≤ 12) : (n - (o / 12 * 12 + mn - 1)) % (e * 12) = 0 ↔ (2000 + n / 12 - (2000 + o / 12)) % e = 0 ∧ n % 12 + 1 = mn := by
  have e1 : n - (o / 12 * 12 + mn - 1) = (n / 12 - o / 12) * 12 + (n % 12 + 1 - mn) := by omega
  rw [e1, show 2000 + n / 12 - (2000 + o / 12) = n / 12 - o / 12 by omega]
  generalize n / 12 - o / 12 = a
  constructor
  · intro h
    have d1 : e * 12 ∣ a * 12 + (n % 12 + 1 - mn) := Int.dvd_of_emod_eq_zero h
    have d2 : (12 : Int) ∣ a * 12 + (n % 12 + 1 - mn) := Int.dvd_trans ⟨e, Int.mul_comm ..⟩ d1
    have hb : n % 12 + 1 = mn := by omega
    refine ⟨?_, hb⟩
    rw [show a * 12 + (n % 12 + 1 - mn) = a * 12 by omega] at d1
    exact Int.emod_eq_zero_of_dvd (Int.dvd_of_mul_dvd_mul_right (by decide) d1)
  · rintro ⟨h1, h2⟩
    rw [show a * 12 + (n % 12 + 1 - mn) = a * 12 by omega]
    obtain ⟨q, hq⟩ := Int.dvd_of_emod_eq_zero h1
    exact Int.emod_eq_zero_of_dvd ⟨q, by rw [hq]; rw [Int.mul_assoc, Int.mul_assoc, Int.mul_comm q 12]⟩
theorem off_eq (n o : Int) : (2000 + n / 12 - (2000 + o / 12)) * 12 + (n % 12 + 1) - (o % 12 + 1) = n - o := by omega
theorem byM_in {o s fi : Int} {g : Int → Option Int} {d : Int} (h0 : 0 ≤ d) (h1 : d < 146097) (hf : fi ≤ d) : byM o s fi g d = (decide ((DM.mo d - o) % s = 0) && decide (g (DM.mo d) = some d)) := if_pos ⟨isD_iff.mpr ⟨h0, h1⟩, hf⟩
theorem byM_lt {o s fi : Int} {g : Int → Option Int} {d : Int} (hf : d < fi) : byM o s fi g d = false := if_neg fun w => by have := w.2; omega
theorem pow2_at : ∀ k : Fin 7, ([1, 2, 4, 8, 16, 32, 64] : List Int)[k.val]? = some (2 ^ k.val) := by decide
theorem fl_lt {r : Rl} {d : Int} (h : match r with | .wk _ fi _ => d < fi | .mo _ fi _ => d < fi | .nt _ _ fi _ => d < fi | .yr _ _ fi _ => d < fi | _ => False) : fl r d = false := by
  cases r with
  | wk mk fi e => exact if_neg fun w => by have := w.2; have : d < fi := h; omega
  | mo dt fi e => exact byM_lt (g := fun n => dayDate n dt) h
  | nt w wd fi e => exact byM_lt (g := fun n => dayNth n w wd) h
  | yr mn dt fi e => exact byM_lt (g := fun n => dayDate n dt) h
  | nv => exact h.elim
  | ev _ _ => exact h.elim
  | dy _ => exact h.elim
  | wh _ _ => exact h.elim
theorem pl_wk {mk fi e d : Int} (h0 : 0 ≤ d) (h1 : d < 146097) (hf : fi ≤ d) : fl (.wk mk fi e) d = (decide (((d + 5) / 7 - (fi + 5) / 7) % e = 0) && decide (mk / 2 ^ ((d + 5) % 7).toNat % 2 = 1)) := if_pos ⟨isD_iff.mpr ⟨h0, h1⟩, hf⟩
theorem pl_yr {mn dt fi e d : Int} (h0 : 0 ≤ d) (h1 : d < 146097) (hf : fi ≤ d) (ok : Ok (.yr mn dt fi e)) :
    fl (.yr mn dt fi e) d = (decide ((2000 + DM.mo d / 12 - (2000 + DM.mo fi / 12)) % e = 0) && (decide (DM.mo d % 12 + 1 = mn) && decide (d - DM.mb (DM.mo d) + 1 = dt))) := by
  obtain ⟨m1, m2, d1, d2, f0, f1, e0, e1⟩ := ok
  obtain ⟨o1, o2, _, _⟩ := DM.mo_ok h0 h1
  have a := byM_in (o := DM.mo fi / 12 * 12 + mn - 1) (s := e * 12) (g := fun n => dayDate n dt) h0 h1 hf
  refine Eq.trans a ?_
  rw [← Bool.decide_and, ← Bool.decide_and, ← Bool.decide_and]
  refine decide_eq_decide.mpr ?_
  rw [year_iff e0 m1 m2, date_iff o1 o2 (by omega), if_neg (by omega : ¬ dt < 0), and_assoc]
theorem pl_mo0 {dt fi e d : Int} (h0 : 0 ≤ d) (h1 : d < 146097) (hf : fi ≤ d) (hp : (DM.mo d - DM.mo fi) % e > 0) : fl (.mo dt fi e) d = false := by
  refine Eq.trans (byM_in (o := DM.mo fi) (s := e) (g := fun n => dayDate n dt) h0 h1 hf) ?_
  rw [decide_eq_false (by omega), Bool.false_and]
theorem pl_nt0 {w wd fi e d : Int} (h0 : 0 ≤ d) (h1 : d < 146097) (hf : fi ≤ d) (hp : (DM.mo d - DM.mo fi) % e > 0) : fl (.nt w wd fi e) d = false := by
  refine Eq.trans (byM_in (o := DM.mo fi) (s := e) (g := fun n => dayNth n w wd) h0 h1 hf) ?_
  rw [decide_eq_false (by omega), Bool.false_and]
theorem pl_mo {dt fi e d : Int} (h0 : 0 ≤ d) (h1 : d < 146097) (hf : fi ≤ d) (ok : Ok (.mo dt fi e)) (hp : ¬ (DM.mo d - DM.mo fi) % e > 0) :
    fl (.mo dt fi e) d = decide (d - DM.mb (DM.mo d) + 1 = (if dt < 0 then DM.len (2000 + DM.mo d / 12) (DM.mo d % 12 + 1) + 1 + dt else dt)) := by
  obtain ⟨d1, d2, d3, f0, f1, e0, e1⟩ := ok
  obtain ⟨o1, o2, _, _⟩ := DM.mo_ok h0 h1
  have := Int.emod_nonneg (DM.mo d - DM.mo fi) (by omega : e ≠ 0)
  refine Eq.trans (byM_in (o := DM.mo fi) (s := e) (g := fun n => dayDate n dt) h0 h1 hf) ?_
  rw [decide_eq_true (by omega), Bool.true_and]
  exact decide_eq_decide.mpr (date_iff o1 o2 d3)
theorem pl_nt {w wd fi e d : Int} (h0 : 0 ≤ d) (h1 : d < 146097) (hf : fi ≤ d) (ok : Ok (.nt w wd fi e)) (hp : ¬ (DM.mo d - DM.mo fi) % e > 0) :
    fl (.nt w wd fi e) d = (decide ((d + 5) % 7 = wd) && decide ((if w < 0 then 0 - (DM.len (2000 + DM.mo d / 12) (DM.mo d % 12 + 1) - (d - DM.mb (DM.mo d) + 1) + 7) / 7 else (d - DM.mb (DM.mo d) + 1 + 6) / 7) = w)) := by
  obtain ⟨d1, d2, d3, w0, w1, f0, f1, e0, e1⟩ := ok
  obtain ⟨o1, o2, _, _⟩ := DM.mo_ok h0 h1
  have := Int.emod_nonneg (DM.mo d - DM.mo fi) (by omega : e ≠ 0)
  refine Eq.trans (byM_in (o := DM.mo fi) (s := e) (g := fun n => dayNth n w wd) h0 h1 hf) ?_
  rw [decide_eq_true (by omega), Bool.true_and, ← Bool.decide_and]
  exact decide_eq_decide.mpr (nth_iff o1 o2 d3 w0 w1)
theorem pl_in {d : Int} (h0 : 0 ≤ d) (h1 : d < 146097) : isD d = true := isD_iff.mpr ⟨h0, h1⟩
end DF
namespace L2
open PySem PySem.Spec PySem.Calls PyProof.Rows
section
variable {X : Cx} {m : Str} {apos pos : Pos} {o : Expr} {ta : TE}
def tMeth0 (m : Str) (D : Addr → (V → List V → Hp → VK → Prop) → Prop) (ta : TE) : TE := fun σ H Q => ta σ H fun x H1 => ∃ a C dx fs R, x = .ref a ∧ H1 a = some (.ins C dx fs) ∧ fs.lookup m = none ∧ D C R ∧ R x [] H1 Q
theorem pe_methV0 {pl : Sem Bool} {D : Addr → (V → List V → Hp → VK → Prop) → Prop} (he : PE X o ta) (hD : ∀ C R, D C R → Ans X m 0 C R)
    (ht : eval (.Call (.Attribute o m apos) [] [] pos) X.env = (do
      let ov ← eval o X.env
      standAt apos.atName
      let (f, first) ← holding [ov] (getMethod ov m pl)
      callWith pos f first (backTo pos (starEach [] X.env)) (backToKw pos (keywordEach [] X.env))) := by rfl) :
    PE X (.Call (.Attribute o m apos) [] [] pos) (tMeth0 m D ta) := by
  intro pins s σ H Q I h
  refine PySem.W.methodCall_KW (pl := pl) (thn (he pins s σ H _ I h) fun u s1 ⟨x, H1, I1, rx, a, C, dx, fs, R, ex, ea, l, d, q⟩ => ?_) ht
  subst ex
  obtain rfl : u = Value.ref a := rx
  obtain ⟨c, f, fd, ps, ds, dvs, CX, cm, k, sp, E, hm, F, hr, hb, hd, hx, hR⟩ := hD C R d
  refine getmeth_ok I1 ea c hm l ?_
  refine PySem.W.callWith_K0 (first := [.ref a]) (Inv.kIn (I1.tok _)) hm.kp ?_
  exact run_fn (us := [.ref a]) (vs := [.ref a]) F hr hb hd hx (I1.tok _) (.cons rfl .nil) (hR _ _ _ _ rfl q)
end
end L2
namespace L2
open PySem PySem.Spec PyProof.Rows
def defO (f : Addr) (name q : Str) (ps : Arguments) (body : List Stmt) (sc : Scope) (cl : List (Str × Addr)) (cd : Addr) : HO :=
  .ext fun h => ∃ doc pm ctv, h.get? f = some (PySem.W.fnMade name q ps body sc cl doc pm cd ctv)
theorem defO_ok {P : Program} {w : World} {H : Hp} {h : Heap} {f cd : Addr} {name q : Str} {ps : Arguments} {body : List Stmt} {sc : Scope} {cl : List (Str × Addr)} {doc pm ctv : Value}
    (e : h.get? f = some (PySem.W.fnMade name q ps body sc cl doc pm cd ctv)) : ObjOk P w H h f (defO f name q ps body sc cl cd) := by
  refine ⟨⟨doc, pm, ctv, e⟩, ⟨_, e⟩, ?_⟩
  rintro h1 h2 ⟨doc', pm', ctv', q1⟩ k
  exact ⟨doc', pm', ctv', k _ q1⟩
section
variable {X : Cx} {name : Str} {ps : Arguments} {body : List Stmt} {sc : Scope} {pos : Pos} {c P : Addr} {cl : List (Str × Addr)} {i : Nat}
def tDef (X : Cx) (i : Nat) (P : Addr) (name : Str) (ps : Arguments) (body : List Stmt) (sc : Scope) (pos : Pos) (cl : List (Str × Addr)) : TS := fun D σ H => H P = some (.tbl #[]) ∧
  ∀ f cd, H f = none → H cd = none → f ≠ cd → D.nx (σ.set i (some (.ref f))) (upd (upd (upd H P (.tbl #[rawInt pos.line, rawInt pos.col, .ref cd])) cd (codeO cd (qualnameIn X.env name name))) f (defO f name (qualnameIn X.env name name) ps body sc cl cd))
theorem ps_def (M : MkL X.mg X.base c P) (hcode : X.env.code = .ref c) (hN : X.N.Nodup) (hi : X.N[i]? = some name) (hx : Loc X.env.scope name) (hd0 : ps.defaults = [] := by rfl) (hk0 : ps.kw_defaults = [] := by rfl) (ha : annTrees ps none X.env = [] := by rfl) (hcl : closureFor sc X.env = pure cl := by rfl)
    (hf : X.fn name = true ∨ X.env.scope.names.lookup name = some .local := by first | exact .inl rfl | exact .inr rfl | assumption) : PS X (.FunctionDef name ps body [] none [] sc none name pos) (tDef X i P name ps body sc pos cl) := by
  intro pins s σ H D I ⟨e, hq⟩
  have hg : s.heap.Ns mainGlobals X.mg := I.mod.glob.keeps I.bk
  have hC : PySem.W.CodeHd s.heap c P := M.hd.keeps I.bk
  have hB : s.heap.BuiltinsAt X.mg P := by
    obtain ⟨bm, o, h1, h2, h3, h4, h5, h6⟩ := M.bm
    exact ⟨bm, o, h1, h2, h3, h4, I.bk _ _ h5, h6⟩
  have tabs : ∀ {a : Array Value}, H P = some (.tbl a) → s.heap.get? P = some (PySem.W.tabObj a) := fun e => (show ObjOk X.prog X.w H s.heap P (.tbl _) from I.hok P _ e)
  have hgP : mainGlobals ≠ P := fun z => by
    obtain ⟨o, es, ep, e1, _⟩ := I.mod.glob
    have := (I.bs _ _ e1).2
    rw [z, e] at this
    cases this
  refine PySem.W.nestDef_K hd0 hk0 ha (PySem.W.makeFunction_K (mg := X.mg) hcl I.ok.glob hg hcode hC (tabs e) trivial rfl hgP hB fun c' ctv doc h' tk hx' hge hlt hrec htb => ?_)
  have hsz : s.heap.objs.size ≤ h'.objs.size := Nat.le_trans hge (Nat.le_of_lt hlt)
  have nf : H h'.objs.size = none := I.hok.fresh hsz
  have nc : H c' = none := I.hok.fresh hge
  have ne : h'.objs.size ≠ c' := Nat.ne_of_gt hlt
  have hPf : P ≠ h'.objs.size := ne_of_none e nf
  have hPc : P ≠ c' := ne_of_none e nc
  generalize hfo : PySem.W.fnMade name (qualnameIn X.env name name) ps body sc cl doc ((X.mg "__name__").getD .none) c' ctv = fo
  have kp : ∀ b' o, b' ≠ P → s.heap.get? b' = some o → (h'.push fo).get? b' = some o := fun b' o hb z => Heap.get?_push_of_some _ (hx' b' o hb z)
  have st : ∀ b' u, b' ≠ P → H b' = some u → (upd (upd (upd H P (.tbl #[rawInt pos.line, rawInt pos.col, .ref c'])) c' (codeO c' (qualnameIn X.env name name))) h'.objs.size (defO h'.objs.size name (qualnameIn X.env name name) ps body sc cl c')) b' = some u := fun b' u hb z => by
    rw [upd_ne (ne_of_none z nf), upd_ne (ne_of_none z nc), upd_ne hb]; exact z
  have stP : (upd (upd (upd H P (.tbl #[rawInt pos.line, rawInt pos.col, .ref c'])) c' (codeO c' (qualnameIn X.env name name))) h'.objs.size (defO h'.objs.size name (qualnameIn X.env name name) ps body sc cl c')) P = some (.tbl #[rawInt pos.line, rawInt pos.col, .ref c']) := by
    rw [upd_ne hPf, upd_ne hPc, upd_same]
  have nP : ∀ b' o, s.heap.get? b' = some o → H b' = none → b' ≠ P := fun b' o _ n z => by rw [z, e] at n; cases n
  have I2 : Inv X pins σ (upd (upd (upd H P (.tbl #[rawInt pos.line, rawInt pos.col, .ref c'])) c' (codeO c' (qualnameIn X.env name name))) h'.objs.size (defO h'.objs.size name (qualnameIn X.env name name) ps body sc cl c')) { s with heap := h'.push fo, toks := tk } := by
    refine I.un (t' := tk) (h' := h'.push fo) ?_ ?_
    · refine ⟨fun b' o z n _ _ => kp b' o (nP b' o z n) z, fun b' o z n _ _ => ⟨o.slots, kp b' o (nP b' o z n) z⟩, fun b' o z n _ => ?_, fun b' o z _ => ?_, fun b' xs z => st b' _ (fun q => by rw [q, e] at z; cases z) z, fun b' o u z => st b' _ (fun q => by rw [q, e] at z; cases z) z, fun b' a z => ?_⟩
      · have l := Heap.lt_size z
        rw [upd_ne (Nat.ne_of_lt (Nat.lt_of_lt_of_le l hsz)), upd_ne (Nat.ne_of_lt (Nat.lt_of_lt_of_le l hge)), upd_ne (nP b' o z n)]
        exact n
      · by_cases hb : b' = P
        · subst hb; exact ⟨_, Heap.get?_push_of_some _ htb⟩
        · exact ⟨o, kp b' o hb z⟩
      · by_cases hb : b' = P
        · subst hb
          rw [e] at z
          cases z
          exact ⟨#[rawInt pos.line, rawInt pos.col, .ref c'], by rw [stP, Array.empty_append]⟩
        · exact ⟨#[], by rw [st b' _ hb z]; simp⟩
    · intro b' u z
      by_cases h1 : b' = h'.objs.size
      · subst h1
        rw [upd_same] at z
        cases z
        exact defO_ok (by rw [hfo]; exact Heap.get?_push_size _ (by rw [← hfo]; rfl))
      · rw [upd_ne h1] at z
        by_cases h2 : b' = c'
        · subst h2
          rw [upd_same] at z
          cases z
          obtain ⟨c2, o, vs, t, e0, e1, e2⟩ := hrec
          cases e0
          exact codeO_ok ⟨_, o, vs, t, rfl, Heap.get?_push_of_some _ e1, e2⟩
        · rw [upd_ne h2] at z
          by_cases h3 : b' = P
          · subst h3
            rw [upd_same] at z
            cases z
            have htb' := Heap.get?_push_of_some fo htb
            rw [Array.empty_append] at htb'
            exact htb'
          · rw [upd_ne h3] at z
            exact objs_stay e I.hok kp st h3 z
  exact store_ok I2 hN hi hx (v := .ref h'.objs.size) (u := .ref h'.objs.size) rfl (fun s2 I3 => ⟨_, _, I3, hq _ c' nf nc ne⟩) hf
end
def backC (cl : List (Str × Addr)) (H H1 : Hp) : Hp := fun b => if b ∈ cl.map (·.2) then H b else H1 b
theorem backC_in {cl : List (Str × Addr)} {H H1 : Hp} {b : Addr} (h : b ∈ cl.map (·.2)) : backC cl H H1 b = H b := if_pos h
theorem backC_out {cl : List (Str × Addr)} {H H1 : Hp} {b : Addr} (h : b ∉ cl.map (·.2)) : backC cl H H1 b = H1 b := if_neg h
def CellIs (h : Heap) (c : Addr) (z : V) : Prop := ∃ o u, h.get? c = some o ∧ o.data = .cell (some u) ∧ RelV z u
structure DefIs (H : Hp) (f : Addr) (name : Str) (ps : Arguments) (b : List Stmt) (sc : Scope) (q : Str) (fr : List Str) (zs : List V) (cl : List (Str × Addr)) (cd : Addr) : Prop where
  at_ : H f = some (defO f name q ps b sc cl cd)
  code : H cd = some (codeO cd q)
  nd : (cl.map (·.2)).Nodup
  len : zs.length = fr.length
  has : ∀ (i : Nat) (x : Str) (z : V), fr[i]? = some x → zs[i]? = some z → ∃ c φ, cl.lookup x = some c ∧ H c = some (.ext φ) ∧ ∀ h, φ h → CellIs h c z
  all : ∀ p ∈ cl, ∃ φ z, H p.2 = some (.ext φ) ∧ ∀ h, φ h → CellIs h p.2 z
  nm : ∀ p ∈ cl, cl.lookup p.1 = some p.2
section
variable {P : Program} {w : World} {K : PySem.W.Frag} {mg : Str → Option Value} {base : Heap} {cm : Bool}
theorem def_run {k : Nat} {A : Around} {outer : List Env} {s : Shared} {H : Hp} {f cd : Addr} {u : Value} {y : V} {zs : List V} {Q : VK} {E : XK} {name : Str} {ps : Arguments} {b : List Stmt} {sc : Scope} {q : Str} {x : Str} {fr : List Str} {cl : List (Str × Addr)} {t : TS}
    (S : LamScope x fr sc) (L : DefIs H f name ps b sc q fr zs cl cd) (hbind : ∀ doc pm ctv, bindArgs (PySem.W.fnX name q ps b sc cl .none .none doc pm none (.ref cd) ctv) ⟨[u], []⟩ = pure [(x, u)]) (hr : Room cm k A) (e0 : Env0 P w K mg base A outer s H) (ry : RelV y u)
    (hb : PSs (cxLam cm P w K mg base (x :: fr) q sc f cd cl A outer s (lessC cl H)) b t) (hq : t { nx := fun _ H1 => Q .non (backC cl H H1), rt := fun _ v H1 => Q v (backC cl H H1) } (some y :: zs.map some) (lessC cl H)) :
    codeAny (model P w) A (.call (.ref f) ⟨[u], []⟩) (CR CX0 outer P w H s Q E) s := by
  obtain ⟨⟨doc, pm, ctv, ho⟩, _, _⟩ := (show ObjOk P w H s.heap f (defO f name q ps b sc cl cd) from e0.hok f _ L.at_)
  obtain ⟨⟨oc, vs, tk, c1, c2, c3⟩, _, _⟩ := (show ObjOk P w H s.heap cd (codeO cd q) from e0.hok cd _ L.code)
  have lim : s.heap.NoLimit := e0.mod.nolimit.keeps fun b o e => (e0.bs b o e).1
  have hcell : ∀ c, c ∈ cl.map (·.2) → ∃ φ z, H c = some (.ext φ) ∧ ∀ h, φ h → CellIs h c z := fun c hc => by
    obtain ⟨p, hp, rfl⟩ := List.mem_map.mp hc
    exact L.all p hp
  have notC : ∀ {b' : Addr} {o : HO}, H b' = some o → (∀ φ, o ≠ .ext φ) → b' ∉ cl.map (·.2) := fun e n hc => by
    obtain ⟨φ, z, e2, _⟩ := hcell _ hc
    rw [e] at e2
    exact n φ (Option.some.inj e2)
  refine codeAny_call_function hr.depth ho rfl S.co S.gen rfl ⟨cd, oc, vs, tk, rfl, c1, c2, c3⟩ ?_
  rw [hbind]
  refine wpAny_pure (wpAny_newFunctionEnv S.noc (fun z hz => by rw [List.mem_singleton] at hz; subst hz; exact S.loc) (fun h₁ hns hsb => ⟨lim.fresh _ hsb, ?_⟩) S.kind)
  have hk₁ : ∀ b o, s.heap.get? b = some o → h₁.get? b = some o := fun b o e => hsb.extBut b o (Nat.ne_of_lt (Heap.lt_size e)) (Heap.get?_push_of_some _ e)
  have I : Inv (cxLam cm P w K mg base (x :: fr) q sc f cd cl A outer s (lessC cl H)) [] (some y :: zs.map some) (lessC cl H) { s with heap := h₁, toks := s.toks + 1 } := by
    have noA : ∀ b : Addr, b ∉ (cxLam cm P w K mg base (x :: fr) q sc f cd cl A outer s (lessC cl H)).ex := fun b z => absurd (show b ∈ ([] : List Addr) from z) (by simp)
    refine ⟨⟨e0.mod, S.kind, rfl, rfl, Nat.le_refl _, fun y' z c h1 h2 => ?_, fun y' hy => ?_, fun y' c h => (by cases h), hr.hd, Around.frames_deeper e0.frames, .inr ⟨rfl, rfl⟩, fun b z => absurd z (noA b), fun b o e => ⟨(e0.bs b o e).1, lessC_none (e0.bs b o e).2⟩, e0.bsz, fun b _ _ => noA b, fun b z => absurd z (noA b), e0.funs, fun b hb => lessC_none (e0.frf b hb)⟩,
      rfl, e0.bare, Un.kept hk₁, ⟨_, hns, fun i x' v h1 h2 h3 => ?_⟩, fun y' c h => ?_, lessC_none (e0.hok.fresh (Nat.le_refl _)), fun y' c h => lessC_in (List.mem_map.mpr ⟨_, PySem.mem_of_lookup h, rfl⟩), fun p hp => absurd (show p ∈ ([] : List (Addr × Obj)) from hp) (by simp), fun b' o e => ?_, ?_⟩
    · exact name_of_addr (by have := L.nd; unfold List.Nodup at this; rw [List.pairwise_map] at this; exact this) (PySem.mem_of_lookup h1) (PySem.mem_of_lookup h2)
    · have hf : sc.names.lookup y' = some .free := by
        rcases (show sc.names.lookup y' = some .cell ∨ sc.names.lookup y' = some .free from hy) with h | h
        · exact absurd rfl (S.noc _ (PySem.mem_of_lookup h))
        · exact h
      have hm : y' ∈ fr := S.all _ (PySem.mem_of_lookup hf) rfl
      obtain ⟨i, hi⟩ := List.getElem?_of_mem hm
      have hi' : i < zs.length := by rw [L.len]; exact (List.getElem?_eq_some_iff.mp hi).1
      obtain ⟨c, _, hc, _⟩ := L.has i y' _ hi (List.getElem?_eq_getElem hi')
      exact ⟨c, hc⟩
    · cases i with
      | zero =>
        cases h1
        cases h2
        exact ⟨u, ry, .inl ⟨S.loc, by show List.lookup x [(x, u)] = some u; rw [List.lookup_cons_self]⟩⟩
      | succ i =>
        have h1' : fr[i]? = some x' := h1
        have h2' : zs[i]? = some v := by
          have h2 : (zs.map some)[i]? = some (some v) := h2
          rw [List.getElem?_map] at h2
          cases e : zs[i]? with
          | none => rw [e] at h2; cases h2
          | some a => rw [e] at h2; cases h2; rfl
        obtain ⟨c, φ, hc, hH, hφ⟩ := L.has i x' v h1' h2'
        obtain ⟨p1, _, _⟩ := (show ObjOk P w H s.heap c (.ext φ) from e0.hok c _ hH)
        obtain ⟨o, u', a1, a2, a3⟩ := hφ _ p1
        exact ⟨u', a3, .inr ⟨.inr (S.free _ (List.mem_of_getElem? h1')), c, hc, ⟨o, hk₁ _ _ a1, a2⟩⟩⟩
    · obtain ⟨φ, z, hH, hφ⟩ := L.all _ (PySem.mem_of_lookup h)
      obtain ⟨p1, _, _⟩ := (show ObjOk P w H s.heap c (.ext φ) from e0.hok c _ hH)
      obtain ⟨o, u', a1, a2, a3⟩ := hφ _ p1
      exact ⟨some u', ⟨o, hk₁ _ _ a1, a2⟩⟩
    · obtain ⟨n1, e1⟩ := lessC_some e
      refine (e0.hok b' o e1).stay (fun b2 u2 _ z => hk₁ b2 u2 z) (fun b2 z => ?_) fun b2 xs z => ?_
      · rw [lessC_out (notC z fun φ h => by cases h)]; exact z
      · rw [lessC_out (notC z fun φ h => by cases h)]; exact z
    · show (zs.map some).length + 1 = fr.length + 1
      rw [List.length_map, L.len]
  have fin : ∀ {σ' : St} {H1 : Hp} {s' : Shared} {v1 : V} {r1 : Value}, Inv (cxLam cm P w K mg base (x :: fr) q sc f cd cl A outer s (lessC cl H)) [] σ' H1 s' → RelV v1 r1 → Q v1 (backC cl H H1) → CR CX0 outer P w H s Q E (.ok (.ret r1)) s' := fun {σ' H1 s' v1 r1} J rv q1 => by
    have un := J.base
    have frn : ∀ {b : Addr} {o : HO}, H b = some o → b ∉ frs outer := fun e hb => by rw [e0.frf _ hb] at e; cases e
    have H1c : ∀ b, b ∈ cl.map (·.2) → H1 b = none := fun b hb => by
      obtain ⟨p, hp, rfl⟩ := List.mem_map.mp hb
      exact J.freeC p.1 p.2 (L.nm p hp)
    have keepC : ∀ b, b ∈ cl.map (·.2) → ∀ ob, s.heap.get? b = some ob → s'.heap.get? b = some ob := fun b hb ob hob => by
      obtain ⟨φ, z, e2, _⟩ := hcell b hb
      exact un.keep b ob hob (lessC_in hb) (frn e2) (fun z => absurd (show b ∈ ([] : List Addr) from z) (by simp))
    refine ⟨v1, backC cl H H1, J.os, J.bare, ⟨fun b o h n hf hx => un.keep b o h (lessC_none n) hf hx, fun b o h n hf hx => un.slot b o h (lessC_none n) hf hx, fun b o h n hx => ?_, fun b o h hx => un.there b o h hx, fun b xs z => ?_, fun b ob xs z => ?_, fun b ps z => ?_⟩, fun b o e => ?_, rv, q1⟩
    · rw [backC_out (fun hc => by obtain ⟨φ, z, e2, _⟩ := hcell b hc; rw [n] at e2; cases e2)]
      exact un.free b o h (lessC_none n) hx
    · have nb := notC z fun φ h => by cases h
      rw [backC_out nb]
      exact un.tups b xs ((lessC_out nb).trans z)
    · have nb := notC z fun φ h => by cases h
      rw [backC_out nb]
      exact un.frzs b ob xs ((lessC_out nb).trans z)
    · have nb := notC z fun φ h => by cases h
      rw [backC_out nb]
      exact un.tbls b ps ((lessC_out nb).trans z)
    · by_cases hb' : b ∈ cl.map (·.2)
      · rw [backC_in hb'] at e
        obtain ⟨φ, z, e2, _⟩ := hcell b hb'
        rw [e] at e2
        cases e2
        obtain ⟨o1, o2, o3⟩ := (show ObjOk P w H s.heap b (.ext φ) from e0.hok b _ e)
        obtain ⟨ob, hob⟩ := o2
        have kb := keepC b hb' ob hob
        exact ⟨o3 _ _ o1 fun o' e' => by rw [hob] at e'; cases e'; exact kb, ⟨ob, kb⟩, o3⟩
      · rw [backC_out hb'] at e
        have up : ∀ b2 o2, H1 b2 = some o2 → backC cl H H1 b2 = some o2 := fun b2 o2 z => by
          rw [backC_out (fun hc => by rw [H1c b2 hc] at z; cases z)]; exact z
        exact (J.hok b o e).stay (fun _ _ _ z => z) (fun b2 z => up _ _ z) fun b2 xs z => up _ _ z
  refine codeAny_func (wpAny_mono (hb [] _ _ _ _ I hq) (fun fl s' hs => ?_) fun _ _ z => z.elim)
  cases fl with
  | ret u1 =>
    obtain ⟨v, σ', H', J, rv, q1⟩ := hs
    exact fin J rv q1
  | next =>
    obtain ⟨σ', H', J, q1⟩ := hs
    exact fin J (v1 := .non) rfl q1
  | brk =>
    obtain ⟨_, _, _, q⟩ := hs
    exact False.elim q
  | cont =>
    obtain ⟨_, _, _, q⟩ := hs
    exact False.elim q
theorem pe_callD {X : Cx} {k : Nat} {x y name : Str} {p pos : Pos} {e : Expr} {tf : TE} {ta : TA} {ps : Arguments} {b : List Stmt} {sc : Scope} {q : Str} {fr : List Str} {t : TS} (S : LamScope x fr sc)
    (hbind : ∀ (u : Value) cl cd doc pm ctv, bindArgs (PySem.W.fnX name q ps b sc cl .none .none doc pm none (.ref cd) ctv) ⟨[u], []⟩ = pure [(x, u)]) (hr : Room cm k X.A)
    (hb : ∀ f cd cl A outer s H, PSs (cxLam cm X.prog X.w X.K X.mg X.base (x :: fr) q sc f cd cl A outer s H) b t)
    (hf : PE X (.Name y p) tf) (ha : PA X [e] ta) (hs : starEach [e] X.env = [(false, eval e X.env)] := by rfl) (hpl : (backTo pos (starEach [] X.env)).any (·.1) = false := by rfl) :
    PE X (.Call (.Name y p) [e] [] pos) (fun σ H Q => tf σ H fun v H1 => ∃ f zs cl cd, v = .ref f ∧ DefIs H1 f name ps b sc q fr zs cl cd ∧ ta σ H1 fun vs H2 => ∃ a, vs = [a] ∧ DefIs H2 f name ps b sc q fr zs cl cd ∧
      t { nx := fun _ H3 => Q .non (backC cl H2 H3), rt := fun _ v H3 => Q v (backC cl H2 H3) } (some a :: zs.map some) (lessC cl H2)) := by
  intro pins s σ H Q I h
  refine wpAny_Call_Name_kw (thn (hf pins s σ H _ I h) fun fv s0 ⟨v0, H0, I0, r0, f, zs, cl, cd, e0, L0, q0⟩ => ?_)
  subst e0
  cases r0
  have fa : ∀ {H' : Hp} {s' : Shared}, Inv X pins σ H' s' → DefIs H' f name ps b sc q fr zs cl cd → PySem.W.FnAt f s'.heap := fun J L => by
    obtain ⟨⟨doc, pm, ctv, ho⟩, _, _⟩ := (show ObjOk X.prog X.w _ _ f (defO f name q ps b sc cl cd) from J.hok f _ L.at_)
    exact ⟨_, _, _, _, ho⟩
  refine PySem.W.callWith_F (first := []) (fa I0 L0) (thn (ha pos pins s0 σ H0 _ I0 q0) fun us s1 ⟨vs, H1, I1, r, a, e1, L1, q1⟩ => ⟨fa I1 L1, ?_⟩) hs hpl
  subst e1
  cases r with
  | cons ra rr =>
    cases rr
    refine wpAny_call (codeAny_mono (def_run (Q := Q) (E := fun _ _ _ => False) S L1 (fun doc pm ctv => hbind _ cl _ doc pm ctv) hr I1.env0 ra (hb f cd cl _ _ _ _) q1) fun fl s' hq => ?_)
    match fl, hq with
    | .error ev, hq => exact hq.elim
    | .ok (.ret u), hq => exact I1.after hq
    | .ok .next, hq => exact hq.elim
    | .ok .brk, hq => exact hq.elim
    | .ok .cont, hq => exact hq.elim
end
end L2
namespace L2
open PySem PySem.Spec PySem.Calls PyProof.Rows
def unl (c : Addr) (H : Hp) : Hp := fun b => if b = c then none else H b
theorem unl_same {c : Addr} {H : Hp} : unl c H c = none := if_pos rfl
theorem unl_ne {b c : Addr} {H : Hp} (h : b ≠ c) : unl c H b = H b := if_neg h
theorem CE.unlend {outer : List Env} {P : Program} {w : World} {H : Hp} {s s' : Shared} {Q : VK} {u : Value} {c : Addr} {o : Obj} (n : H c = none) (ho : s.heap.get? c = some o) (hc : c ∉ frs outer)
    (h : CE outer P w (upd H c (.ext fun h => h.get? c = some o)) s (fun v H3 => H3 c = some (.ext fun h => h.get? c = some o) ∧ Q v (unl c H3)) u s') : CE outer P w H s Q u s' := by
  obtain ⟨v, H3, os, bare, un, hok, r, e3, q⟩ := h
  obtain ⟨k3, _, _⟩ := (show ObjOk P w H3 s'.heap c (.ext fun h => h.get? c = some o) from hok c _ e3)
  have up : ∀ {b : Addr}, b ≠ c → upd H c (.ext fun h => h.get? c = some o) b = H b := fun z => upd_ne z
  refine ⟨v, unl c H3, os, bare, ⟨fun b ob e z hf hx => ?_, fun b ob e z hf hx => ?_, fun b ob e z hx => ?_, un.there, fun b xs e => ?_, fun b ob x e => ?_, fun b ps e => ?_⟩, fun b ob e => ?_, r, q⟩
  · by_cases hb : b = c
    · subst hb
      rw [ho] at e
      cases e
      exact k3
    · exact un.keep b ob e (by rw [up hb]; exact z) hf hx
  · have hb : b ≠ c := fun z => hc (z ▸ hf)
    exact un.slot b ob e (by rw [up hb]; exact z) hf hx
  · by_cases hb : b = c
    · subst hb; exact unl_same
    · rw [unl_ne hb]
      exact un.free b ob e (by rw [up hb]; exact z) hx
  · have hb := ne_of_none e n
    rw [unl_ne hb]
    exact un.tups b xs (by rw [up hb]; exact e)
  · have hb := ne_of_none e n
    rw [unl_ne hb]
    exact un.frzs b ob x (by rw [up hb]; exact e)
  · have hb := ne_of_none e n
    rw [unl_ne hb]
    exact un.tbls b ps (by rw [up hb]; exact e)
  · by_cases hb : b = c
    · subst hb; rw [unl_same] at e; cases e
    · rw [unl_ne hb] at e
      refine (hok b ob e).stay (fun _ _ _ z => z) (fun b2 z => ?_) fun b2 xs z => ?_
      · rw [unl_ne (fun y => by rw [y, e3] at z; cases z)]; exact z
      · rw [unl_ne (fun y => by rw [y, e3] at z; cases z)]; exact z
section
variable {X : Cx} {cm : Bool} {k : Nat} {f : Addr} {fd : FuncData} {ps : List Str} {sp : Sp} {dvs : List V} {ds : List Value} {nm : Str} {i : Nat} {c : Addr}
theorem run_lend {pins : List (Addr × Obj)} {σ : St} {H : Hp} {s : Shared} {Q : VK} {us : List Value} {vs : List V} {z : V} (F : FnOk X.prog X.w X.K X.mg X.base CX0 cm k f fd ps sp) (hr : Room cm k X.A) (hb : Binds X.K fd ps ds) (hd : Vals dvs ds)
    (hi : X.N[i]? = some nm) (hc : X.env.cells.lookup nm = some c) (hk : X.env.scope.names.lookup nm = some .cell) (hfn : X.fn nm = true) (I : Inv X pins σ H s) (r : Vals vs us) (hz : σ[i]? = some (some z))
    (h : H c = none → ∀ φ, (∀ h, φ h → CellIs h c z) → sp (vs ++ dvs) (upd H c (.ext φ)) (fun v H3 => H3 c = some (.ext φ) ∧ Q v (unl c H3)) E0) : wpAny (model X.prog X.w) X.A (call (.ref f) us) (EP X pins σ Q) X.xe s := by
  have n := I.freeC nm c hc
  obtain ⟨m, _, hl⟩ := I.loc
  obtain ⟨u, rv, lk⟩ := hl _ _ _ hi hz (.inr (.inl hk))
  have hcell : s.heap.IsCell c (some u) := by
    rcases lk with ⟨q, _⟩ | ⟨_, c', e, q⟩
    · have q' : X.env.scope.names.lookup nm = some .local := q
      rw [hk] at q'; cases q'
    · rw [hc] at e; cases e; exact q
  obtain ⟨o, ho, hd0⟩ := hcell
  have cab := I.ok.cab nm c hfn hc
  have nfs : c ∉ X.fs := fun hb => by
    obtain ⟨_, o', ho', _⟩ := I.ok.funs.mem hb
    exact absurd (Nat.lt_of_lt_of_le (Heap.lt_size ho') cab) (Nat.lt_irrefl _)
  have nst : c ∉ frs X.stack := fun hb => (List.mem_cons.mp (I.stkSub c hb)).elim (I.cne nm c hc) nfs
  have e0 := I.env0
  have e1 : Env0 X.prog X.w X.K X.mg X.base X.A X.stack s (upd H c (.ext fun h => h.get? c = some o)) := by
    refine ⟨e0.frames, e0.mod, fun b ob e => ⟨(e0.bs b ob e).1, ?_⟩, e0.bsz, e0.funs, fun b hb => ?_, e0.hok.track n ⟨ho, ⟨o, ho⟩, fun h1 h2 q k => k _ q⟩, e0.bare⟩
    · rw [upd_ne (Nat.ne_of_lt (Nat.lt_of_lt_of_le (Heap.lt_size e) (Nat.le_trans I.ok.bsz cab)))]
      exact (e0.bs b ob e).2
    · rw [upd_ne (fun (z : b = c) => nst (by rw [← z]; exact hb))]
      exact e0.frf b hb
  have h2 := h n (fun h => h.get? c = some o) fun h e => ⟨o, u, e, hd0, rv⟩
  have r2 : Vals (vs ++ dvs) (us ++ ds) := r.append hd
  have hl : (us ++ ds).length = ps.length := by rw [← r2.length]; exact F.len _ _ _ _ h2
  refine wpAny_call (codeAny_mono (F.run X.A X.stack s _ ⟨us, []⟩ (us ++ ds) (vs ++ dvs) _ E0 hr e1 (hb s us I.kIn hl) r2 h2) fun r s' hq => ?_)
  cases r with
  | error e => exact hq.elim
  | ok fl =>
    cases fl with
    | ret u => exact I.after (CE.unlend n ho nst hq)
    | next => exact False.elim hq
    | brk => exact False.elim hq
    | cont => exact False.elim hq
end
section
variable {X : Cx} {m : Str} {apos pos : Pos} {o e : Expr} {es : List Expr} {ta : TE} {t : TA}
structure AnsL (X : Cx) (m : Str) (n : Nat) (C : Addr) (R : V → List V → Hp → VK → Prop) : Prop where
  cls : Cls X.K C
  run : ∃ (f : Addr) (fd : FuncData) (ps : List Str) (ds : List Value) (dvs : List V) (cm : Bool) (k : Nat) (sp : Sp), Meth X.K C m f ∧ FnOk X.prog X.w X.K X.mg X.base CX0 cm k f fd ps sp ∧ Room cm k X.A ∧ Binds X.K fd ps ds ∧ Vals dvs ds ∧
    ∀ x vs H Q, vs.length = n → R x vs H Q → sp (x :: (vs ++ dvs)) H Q E0
def tMethL (m : Str) (n i : Nat) (c : Addr) (D : Addr → (V → List V → Hp → VK → Prop) → Prop) (ta : TE) (t : TA) : TE := fun σ H Q => ta σ H fun x H1 => ∃ a C dx fs R, x = .ref a ∧ H1 a = some (.ins C dx fs) ∧ fs.lookup m = none ∧ D C R ∧
  t σ H1 fun vs H2 => vs.length = n ∧ ∃ z, σ[i]? = some (some z) ∧ (H2 c = none → ∀ φ, (∀ h, φ h → CellIs h c z) → R x vs (upd H2 c (.ext φ)) fun v H3 => H3 c = some (.ext φ) ∧ Q v (unl c H3))
theorem pe_methL {pl : Sem Bool} {n i : Nat} {nm : Str} {c : Addr} {D : Addr → (V → List V → Hp → VK → Prop) → Prop} (hi : X.N[i]? = some nm) (hc : X.env.cells.lookup nm = some c) (hk : X.env.scope.names.lookup nm = some .cell) (hfn : X.fn nm = true)
    (he : PE X o ta) (hD : ∀ C R, D C R → AnsL X m n C R) (ha : PA X (e :: es) t)
    (hst : starEach (e :: es) X.env = (false, eval e X.env) :: starEach es X.env := by rfl) (hpl : (backTo pos (starEach es X.env)).any (·.1) = false := by rfl)
    (ht : eval (.Call (.Attribute o m apos) (e :: es) [] pos) X.env = (do
      let ov ← eval o X.env
      standAt apos.atName
      let (f, first) ← holding [ov] (getMethod ov m pl)
      callWith pos f first (backTo pos (starEach (e :: es) X.env)) (backToKw pos (keywordEach [] X.env))) := by rfl) :
    PE X (.Call (.Attribute o m apos) (e :: es) [] pos) (tMethL m n i c D ta t) := by
  intro pins s σ H Q I h
  refine PySem.W.methodCall_KW (pl := pl) (thn (he pins s σ H _ I h) fun u s1 ⟨x, H1, I1, rx, a, C, dx, fs, R, ex, ea, l, d, q⟩ => ?_) ht
  subst ex
  obtain rfl : u = Value.ref a := rx
  obtain ⟨c0, f, fd, ps, ds, dvs, cm, k, sp, hm, F, hr, hb, hd, hR⟩ := hD C R d
  refine getmeth_ok I1 ea c0 hm l ?_
  refine PySem.W.callWith_K (first := [.ref a]) (h₀ := X.base) I.ok.mod.kin hm.kp (thn (ha pos pins s1 σ H1 _ I1 q) fun us s2 ⟨vs, H2, I2, r, hn, z, hz, q2⟩ => ⟨I2.kIn, ?_⟩) hst hpl
  exact run_lend (us := .ref a :: us) (vs := .ref a :: vs) F hr hb hd hi hc hk hfn I2 (.cons rfl r) hz fun n φ hφ => hR _ _ _ _ hn (q2 n φ hφ)
end
section
variable {X : Cx} {K : PySem.W.Frag} {o e : Expr} {es : List Expr} {to : TE} {t : TA} {name : Str} {apos cpos : Pos} {T id : String} {r : V → List V → Hp → VK → Prop}
theorem pe_bmK (hK : X.K = K) (pa : PlainAttrs T) (slot : Slot T name id) (hty : typeOf (.builtin id) = pure (.type "method_descriptor")) (hm : MtR X id r) (ho : PE X o to) (ha : PA X (e :: es) t)
    (hbase : attributeBase o name X.env (eval o X.env) = eval o X.env := by rfl)
    (hfew : ((backTo cpos (starEach (e :: es) X.env)).all (fun x => !x.1) && (backToKw cpos (keywordEach [] X.env)).all (fun x => x.1.isSome)
      && decide ((e :: es).length + ([] : List Keyword).length + (if ([] : List Keyword).isEmpty then 0 else 1) < 30)) = true := by rfl)
    (hline : (apos.endLine == cpos.line) = true := by rfl) (hs : starEach (e :: es) X.env = (false, eval e X.env) :: starEach es X.env := by rfl) (hplain : (backTo cpos (starEach es X.env)).any (·.1) = false := by rfl) :
    PE X (.Call (.Attribute o name apos) (e :: es) [] cpos) (tBM K T r to t) := by
  subst hK; exact pe_bm pa slot hty hm ho ha hbase hfew hline hs hplain
end
end L2
namespace L2
open PySem PySem.Spec PyProof.Rows
def OnlyTs (ts : List (Addr × Addr)) (H : Hp) : Prop := ∀ b, H b = none ∨ b ∈ ts.map (·.2) ∨ ∃ o xs, H b = some (.frz o (.lst xs))
theorem law_callTs {cm : Bool} {P : Program} {w : World} {K : PySem.W.Frag} {mg mb : Str → Option Value} {CX : CXT} {k : Nat} {fa a : Addr} {ts : List (Addr × Addr)} {fd : FuncData} {x : Str} {sp : Sp} {s₁ : Shared} {vs : List Value} {ns : List Int}
    (KX : K.In s₁.heap) (hns : s₁.heap.Ns mainGlobals mg) (hb : s₁.heap.Ns builtinsNs mb) (hbb : ∀ x : Str, x ≠ "__name__" → mb x = bootBuiltins x) (hlim : s₁.heap.NoLimit) (hg : s₁.gens = #[])
    (hC : ∀ t ∈ ts, PySem.W.CodeHd s₁.heap t.1 t.2) (hP : ∀ b ∈ ts.map (·.2), s₁.heap.get? b = some (PySem.W.tabObj #[])) (hbm : ∃ bm o, mg "__builtins__" = some (.ref bm) ∧ bm ≠ builtinsNs ∧ bm ≠ mainGlobals ∧ s₁.heap.get? bm = some o ∧ o.cls = .type "module" ∧ o.dict = some builtinsNs ∧ o.data = .plain)
    (hKP : ∀ b ∈ ts.map (·.2), K.lookup b = none)
    (ha : s₁.heap.get? a = some { cls := .type "list", data := .seq vs.toArray }) (hi : IntsAre vs ns) (hl : ns.length ≤ sizeLine) (hr : Room cm k callerA)
    (F : ∀ base : Heap, K.In base → base.Ns mainGlobals mg → (∀ t ∈ ts, MkL mg base t.1 t.2) → FnOk P w K mg base CX cm k fa fd [x] sp) (hbind : ∀ (s : Shared) (u : Value), BindsTo s fd ⟨[u], []⟩ [(x, u)])
    (hsp : ∀ H : Hp, OnlyTs ts H → (∀ b ∈ ts.map (·.2), H b = some (.tbl #[])) → SqL K H a (ns.map V.int) → sp [.ref a] H (fun v _ => v = .bl true) fun _ _ _ => False)
    (hCX : ∀ H e s', CX [] H s₁ (fun _ _ _ => False) e s' → False) :
    codeAny (model P w) callerA (.call (.ref fa) ⟨[.ref a], []⟩) (fun r s' => r = .ok (.ret (.bool true)) ∧ OldK s₁.heap s'.heap ∧ s'.os = s₁.os ∧ AllBare s'.gens) s₁ := by
  have rv := vals_ints hi
  have lenV := hi.length
  have aP : a ∉ ts.map (·.2) := fun z => by rw [hP a z] at ha; cases ha
  have core : ∀ H : Hp, OnlyTs ts H → (∀ b ∈ ts.map (·.2), H b = some (.tbl #[])) → SqL K H a (ns.map V.int) → HOk P w H s₁.heap → (∀ b, H b ≠ none → b = a ∨ b ∈ ts.map (·.2)) → (H a ≠ none → K.lookup a = none) →
      codeAny (model P w) callerA (.call (.ref fa) ⟨[.ref a], []⟩) (fun r s' => r = .ok (.ret (.bool true)) ∧ OldK s₁.heap s'.heap ∧ s'.os = s₁.os ∧ AllBare s'.gens) s₁ := by
    intro H hO hT hS hok hA hK
    have base_of : ∀ {b : Addr} {o : Obj}, s₁.heap.get? b = some o → H b = none → (hidT s₁.heap H).get? b = some o := fun e n => hidT_get e n
    have un0 : ∀ {b : Addr} {o : Obj}, s₁.heap.get? b = some o → (∀ z1 z2, o.data ≠ .seq z1 z2) → (∀ z, o.data ≠ .fields z) → H b = none := fun {b o} e d1 d2 => by
      cases q : H b with
      | none => rfl
      | some u =>
        rcases hA b (by rw [q]; simp) with e' | e'
        · subst e'; rw [ha] at e; cases e; exact absurd rfl (d1 _ _)
        · rw [hP b e'] at e; cases e; exact absurd rfl (d2 _)
    have noA : ∀ {b : Addr} {o : Obj} {es : Array DictEntry} {ep : Nat}, s₁.heap.get? b = some o → o.data = .dict es ep → H b = none := fun e d => un0 e (fun _ _ z => by rw [d] at z; cases z) (fun _ z => by rw [d] at z; cases z)
    have nsK : ∀ {b : Addr} {m : Str → Option Value}, s₁.heap.Ns b m → (hidT s₁.heap H).Ns b m := fun {b m} ⟨o, es, ep, e, d, r⟩ => ⟨o, es, ep, base_of e (noA e d), d, r⟩
    have hKb : K.In (hidT s₁.heap H) := fun b o e => base_of (KX b o e) (by
      cases q : H b with
      | none => rfl
      | some u =>
        rcases hA b (by rw [q]; simp) with e' | e'
        · subst e'
          rw [hK (by rw [q]; simp)] at e; cases e
        · rw [hKP b e'] at e; cases e)
    have hM : Mod K mg (hidT s₁.heap H) := ⟨hKb, nsK hns, ⟨mb, nsK hb, hbb⟩, let ⟨mc, h1, h2⟩ := hlim; ⟨mc, nsK h1, h2⟩⟩
    have e0 : Env0 P w K mg (hidT s₁.heap H) callerA [] s₁ H := ⟨rfl, hM, fun b o e => of_hidT e, Nat.le_of_eq (hidT_size _ _), trivial, fun b hb => absurd (show b ∈ ([] : List Addr) from hb) (by simp), hok, .of_eq hg⟩
    have hL : ∀ t ∈ ts, MkL mg (hidT s₁.heap H) t.1 t.2 := by
      rintro ⟨cc, pt⟩ ht
      constructor
      · obtain ⟨o, vs', file, tf, fl, tg, inF, tx, tt, g1, g2, g3, g4⟩ := hC _ ht
        refine ⟨o, vs', file, tf, fl, tg, inF, tx, tt, base_of g1 ?_, g2, g3, g4⟩
        cases q : H cc with
        | none => rfl
        | some u =>
          rcases hA cc (by rw [q]; simp) with e' | e'
          · rw [e', ha] at g1; cases g1; exact absurd g3 (by simp)
          · rw [hP cc e'] at g1; cases g1; cases g2
      · obtain ⟨bm, o, b1, b2, b3, b4, b5, b6, b7⟩ := hbm
        refine ⟨bm, o, b1, b2, b3, fun z => ?_, base_of b4 (un0 b4 (fun _ _ z => by rw [b7] at z; cases z) (fun _ z => by rw [b7] at z; cases z)), b5, b6, b7⟩
        rw [z, hP pt (List.mem_map.mpr ⟨_, ht, rfl⟩)] at b4
        cases b4
        cases b7
    refine codeAny_mono ((F _ hKb (nsK hns) hL).run callerA [] s₁ H ⟨[.ref a], []⟩ [.ref a] [.ref a] _ _ hr e0 (hbind s₁ (.ref a)) (.cons rfl .nil) (hsp H hO hT hS)) fun r s' h => ?_
    cases r with
    | error e => exact (hCX H e s' h).elim
    | ok fl =>
      cases fl with
      | next => exact False.elim h
      | brk => exact False.elim h
      | cont => exact False.elim h
      | ret u =>
        obtain ⟨v, H', os, bare, un, hok', r', q⟩ := h
        have q' : v = .bl true := q
        subst q'
        obtain rfl : u = Value.bool true := r'
        have kp : ∀ b o, b ∉ ts.map (·.2) → s₁.heap.get? b = some o → s'.heap.get? b = some o := fun b o hb e => by
          cases q : H b with
          | none => exact un.keep b o e q (by intro z; exact absurd (show b ∈ ([] : List Addr) from z) (by simp)) (by simp)
          | some u =>
            rcases hO b with z | z | ⟨ob, xs, z⟩
            · rw [q] at z; cases z
            · exact absurd z hb
            · have z2 := un.frzs b ob _ z
              obtain ⟨e1, _⟩ := hok b _ z
              obtain ⟨e2, _⟩ := hok' b _ z2
              rw [e] at e1; cases e1
              exact e2
        have eps : ∀ b ∈ ts.map (·.2), ∃ more, s'.heap.get? b = some (PySem.W.tabObj (#[] ++ more)) := fun b hb => by
          obtain ⟨more, em⟩ := un.tbls b _ (hT b hb)
          exact ⟨more, (show ObjOk P w H' s'.heap b (.tbl _) from hok' b _ em)⟩
        refine ⟨rfl, ⟨fun b o e => ?_, fun b o e => ?_⟩, os, bare⟩
        · by_cases hb : b ∈ ts.map (·.2)
          · rw [hP b hb] at e
            cases e
            obtain ⟨more, ep⟩ := eps b hb
            obtain ⟨⟨cc, pt⟩, ht, rfl⟩ := List.mem_map.mp hb
            exact .inr (.inl ⟨((hC _ ht).tab (hP _ hb)).isCodeTable, rfl, #[], more, rfl, ep⟩)
          · exact .inl (kp b o hb e)
        · by_cases hb : b ∈ ts.map (·.2)
          · obtain ⟨more, ep⟩ := eps b hb; exact ⟨_, ep⟩
          · exact ⟨o, kp b o hb e⟩
  cases hk : K.lookup a with
  | some o =>
    have e := KX a o hk
    rw [ha] at e
    cases e
    refine core (fun b => if b ∈ ts.map (·.2) then some (.tbl #[]) else none) (fun b => ?_) (fun b hb => if_pos hb) (.inr ⟨_, vs.toArray, _, hk, rfl, rfl, rfl, by rw [List.size_toArray, lenV]; exact hl, by simpa using rv⟩) (fun b u z => ?_) (fun b z => ?_) fun z => ?_
    · by_cases hb : b ∈ ts.map (·.2)
      · exact .inr (.inl hb)
      · exact .inl (if_neg hb)
    · by_cases hb : b ∈ ts.map (·.2)
      · have z' := (if_pos hb).symm.trans z
        cases z'
        exact hP b hb
      · have z' := (if_neg hb).symm.trans z
        cases z'
    · by_cases hb : b ∈ ts.map (·.2)
      · exact .inr hb
      · exact absurd (if_neg hb) z
    · exact absurd (if_neg aP) z
  | none =>
    have pa : ∀ b ∈ ts.map (·.2), b ≠ a := fun b hb z => aP (z ▸ hb)
    refine core (fun b => if b = a then some (.frz { cls := .type "list", data := .seq vs.toArray } (.lst (ns.map V.int))) else if b ∈ ts.map (·.2) then some (.tbl #[]) else none) (fun b => ?_) (fun b hb => (if_neg (pa b hb)).trans (if_pos hb)) (.inl (.inr ⟨{ cls := .type "list", data := .seq vs.toArray }, if_pos rfl⟩)) (fun b u z => ?_) (fun b z => ?_) fun _ => hk
    · by_cases hb : b = a
      · exact .inr (.inr ⟨_, _, if_pos hb⟩)
      · by_cases hb2 : b ∈ ts.map (·.2)
        · exact .inr (.inl hb2)
        · exact .inl ((if_neg hb).trans (if_neg hb2))
    · by_cases hb : b = a
      · have z' := (if_pos hb).symm.trans z
        cases z'
        subst hb
        exact ⟨ha, by rw [List.length_map]; exact hl, vs, _, rv, ha⟩
      · by_cases hb2 : b ∈ ts.map (·.2)
        · have z' := ((if_neg hb).trans (if_pos hb2)).symm.trans z
          cases z'
          exact hP b hb2
        · have z' := ((if_neg hb).trans (if_neg hb2)).symm.trans z
          cases z'
    · by_cases hb : b = a
      · exact .inl hb
      · by_cases hb2 : b ∈ ts.map (·.2)
        · exact .inr hb2
        · exact absurd ((if_neg hb).trans (if_neg hb2)) z
theorem walk_ofTs {cm : Bool} {l : PySem.W.OpenLaw} {n k : Nat} {q : Program} {loose : List Str} {XP : (Str → Option Value) → Heap → Prop} {YP : World → Heap → Prop} {d : DefRec} {K : Params → PySem.W.Frag} {CX : World → CXT} {sp : World → List (Addr × Addr) → Sp} {x : Str} {ys : List Str}
    (hn : l.most = some n) (hn2 : n ≤ sizeLine) (hdf : d.params.defaults = []) (hr : Room cm k callerA)
    (hY : ∀ (w : World) (h : Heap), YP w h → (K w.params).In h) (hrec : ∀ y ∈ ys, ((recsOf q).find? (fun e => e.name == y)).isSome = true)
    (F : ∀ (w : World) (mg : Str → Option Value) (fa : Addr) (h : Heap), (K w.params).In h → h.Ns mainGlobals mg → mg d.name = some (.ref fa) →
      ∃ (fd : FuncData) (ts : List (Addr × Addr)), (∀ t ∈ ts, (∃ y ∈ ys, PySem.W.tabIn (K w.params) y = some t) ∧ (K w.params).lookup t.2 = none) ∧ (∀ (s : Shared) (u : Value), BindsTo s fd ⟨[u], []⟩ [(x, u)]) ∧
        ∀ base : Heap, (K w.params).In base → base.Ns mainGlobals mg → (∀ t ∈ ts, MkL mg base t.1 t.2) → FnOk l.prog w (K w.params) mg base (CX w) cm k fa fd [x] (sp w ts))
    (hsp : ∀ (w : World) (H : Hp) (a : Addr) (ts : List (Addr × Addr)) (ns : List Int), ns.length ≤ n → OnlyTs ts H → (∀ b ∈ ts.map (·.2), H b = some (.tbl #[])) → SqL (K w.params) H a (ns.map V.int) → sp w ts [.ref a] H (fun v _ => v = .bl true) fun _ _ _ => False)
    (hCX : ∀ (w : World) (H : Hp) (s : Shared) (e : Value) (s' : Shared), CX w [] H s (fun _ _ _ => False) e s' → False) :
    PySem.W.WalkO q loose XP YP l.row.toRowW d [] (fun f vs => PySem.call f vs) := by
  refine Att.attach_call hn hdf fun w s₀ s₁ mg mb fa o pm cd doc a vs ns G Y ho hd hcd hmg hobj hints hlen hg => ?_
  have KX := hY w _ Y
  obtain ⟨fd, ts, hts, hb, hF⟩ := F w mg fa _ KX G.T.g hmg
  have hCP : ∀ t ∈ ts, PySem.W.CodeHd s₁.heap t.1 t.2 ∧ s₁.heap.get? t.2 = some (PySem.W.tabObj #[]) := fun t ht => by
    obtain ⟨⟨y, hy, e⟩, _⟩ := hts t ht
    obtain ⟨dr, hdr⟩ := Option.isSome_iff_exists.mp (hrec y hy)
    exact PySem.W.tab_of G.T KX hdr e
  have hbm : ∃ bm o, mg "__builtins__" = some (.ref bm) ∧ bm ≠ builtinsNs ∧ bm ≠ mainGlobals ∧ s₁.heap.get? bm = some o ∧ o.cls = .type "module" ∧ o.dict = some builtinsNs ∧ o.data = .plain := by
    obtain ⟨bm, ob, b1, b2, b3, b4, b5, b6⟩ := G.T.bmain
    refine ⟨bm, ob, b1, b2, fun z => ?_, b3, b4, b5, b6⟩
    obtain ⟨o, es, ep, e, hd, _⟩ := G.T.g
    rw [z, e] at b3; cases b3; rw [hd] at b6; cases b6
  exact law_callTs KX G.T.g G.T.b G.T.builtins G.T.nolimit hg (fun t ht => (hCP t ht).1) (fun b hb => by obtain ⟨t, ht, rfl⟩ := List.mem_map.mp hb; exact (hCP t ht).2) hbm (fun b hb => by obtain ⟨t, ht, rfl⟩ := List.mem_map.mp hb; exact (hts t ht).2) hobj hints (Nat.le_trans hlen hn2) hr hF hb (fun H hO hT hS => hsp w H a ts ns hlen hO hT hS) fun H e s' => hCX w H s₁ e s'
end L2
namespace DN
open DF
def No (r : Rl) (b c : Int) : Prop := ∀ k, b ≤ k → k < c → fl r k = false
theorem No.stop {r : Rl} {b c e : Int} (ok : Ok r) (h : No r b c) (hc : e ≤ c ∨ 146097 ≤ c) : No r b e := fun k h1 h2 => by
  by_cases hk : k < c
  · exact h k h1 hk
  · exact fl_out ok (by omega)
theorem No.step {r : Rl} {b c : Int} (h : No r b c) (hc : fl r c = false) : No r b (c + 1) := fun k h1 h2 => by
  by_cases hk : k < c
  · exact h k h1 hk
  · rw [show k = c by omega]; exact hc
theorem mod_next (st fi B : Int) (hs : 1 ≤ st) : B ≤ B + (fi - B) % st ∧ (B + (fi - B) % st - fi) % st = 0 ∧ ∀ k, B ≤ k → k < B + (fi - B) % st → (k - fi) % st ≠ 0 := by
  have h0 := Int.emod_nonneg (fi - B) (by omega : st ≠ 0)
  have h1 := Int.emod_lt_of_pos (fi - B) (by omega : 0 < st)
  have hd : st ∣ (fi - B) - (fi - B) % st := Int.dvd_self_sub_emod
  refine ⟨by omega, ?_, fun k k1 k2 hk => ?_⟩
  · obtain ⟨q, hq⟩ := hd
    exact Int.emod_eq_zero_of_dvd ⟨-q, by rw [Int.mul_neg, ← hq]; omega⟩
  · obtain ⟨q, hq⟩ := hd
    obtain ⟨p, hp⟩ := Int.dvd_of_emod_eq_zero hk
    have e : k - B = (fi - B) % st + st * (q + p) := by rw [Int.mul_add]; omega
    have hlt : k - B < (fi - B) % st := by omega
    have : st * (q + p) < 0 := by omega
    have hneg : q + p ≤ -1 := by
      by_cases z : 0 ≤ q + p
      · have := Int.mul_nonneg (by omega : 0 ≤ st) z; omega
      · omega
    have : st * (q + p) ≤ st * (-1) := Int.mul_le_mul_of_nonneg_left hneg (by omega)
    omega
theorem ev_next {st fi b e : Int} (ok : Ok (.ev st fi)) {B : Int} (hB : B = if fi > b then fi else b) : (B + (fi - B) % st < (if 146097 < e then 146097 else e) → (b ≤ B + (fi - B) % st ∧ B + (fi - B) % st < e ∧ fl (.ev st fi) (B + (fi - B) % st) = true ∧ No (.ev st fi) b (B + (fi - B) % st))) ∧
    (¬ B + (fi - B) % st < (if 146097 < e then 146097 else e) → No (.ev st fi) b e) := by
  obtain ⟨s1, s2, f0, f1⟩ := ok
  obtain ⟨m1, m2, m3⟩ := mod_next st fi B s1
  have hB1 : b ≤ B ∧ fi ≤ B := by subst hB; split <;> omega
  have key : ∀ k, b ≤ k → k < B + (fi - B) % st → fl (.ev st fi) k = false := fun k k1 k2 => by
    show (isD k && (decide (fi ≤ k) && decide ((k - fi) % st = 0))) = false
    by_cases h1 : fi ≤ k
    · have hk : B ≤ k := by subst hB; split <;> omega
      rw [decide_eq_false (m3 k hk k2), Bool.and_false, Bool.and_false]
    · rw [decide_eq_false h1, Bool.false_and, Bool.and_false]
  refine ⟨fun h => ?_, fun h k k1 k2 => ?_⟩
  · have he : B + (fi - B) % st < e ∧ B + (fi - B) % st < 146097 := by
      split at h
      · omega
      · omega
    refine ⟨by omega, he.1, ?_, key⟩
    show (isD _ && (decide (fi ≤ _) && decide (_ = 0))) = true
    rw [isD_iff.mpr ⟨by omega, he.2⟩, decide_eq_true (by omega), decide_eq_true m2]
    rfl
  · by_cases hk : k < B + (fi - B) % st
    · exact key k k1 hk
    · refine fl_out (r := .ev st fi) ⟨s1, s2, f0, f1⟩ ?_
      split at h
      · omega
      · omega
theorem wk_skip {mk fi e f : Int} (h1 : 1 ≤ e) {o : Int} (ho : o = ((f + 5) / 7 - (fi + 5) / 7) % e) (hp : 0 < o) : f < ((f + 5) / 7 + e - o) * 7 - 5 ∧ ∀ k, f ≤ k → k < ((f + 5) / 7 + e - o) * 7 - 5 → fl (.wk mk fi e) k = false := by
  have hl := Int.emod_lt_of_pos ((f + 5) / 7 - (fi + 5) / 7) (by omega : 0 < e)
  rw [← ho] at hl
  refine ⟨by omega, fun k k1 k2 => ?_⟩
  have hw : (f + 5) / 7 ≤ (k + 5) / 7 ∧ (k + 5) / 7 < (f + 5) / 7 + e - o := by omega
  have hne : ((k + 5) / 7 - (fi + 5) / 7) % e ≠ 0 := by
    have e1 : (k + 5) / 7 - (fi + 5) / 7 = ((k + 5) / 7 - (f + 5) / 7) + ((f + 5) / 7 - (fi + 5) / 7) := by omega
    rw [e1, Int.add_emod, ← ho, Int.emod_eq_of_lt (a := (k + 5) / 7 - (f + 5) / 7) (by omega) (by omega), Int.emod_eq_of_lt (by omega) (by omega)]
    omega
  show (if isD k = true ∧ fi ≤ k then _ else false) = false
  split
  · rw [decide_eq_false hne, Bool.false_and]
  · rfl
theorem wk_at {mk fi e f : Int} (h0 : 0 ≤ f) (h1 : f < 146097) (hf : fi ≤ f) : fl (.wk mk fi e) f = (decide (((f + 5) / 7 - (fi + 5) / 7) % e = 0) && decide (mk / 2 ^ ((f + 5) % 7).toNat % 2 = 1)) := pl_wk h0 h1 hf
def fiM : Rl → Int
  | .mo _ fi _ => fi
  | .nt _ _ fi _ => fi
  | .yr _ _ fi _ => fi
  | _ => 0
def orM : Rl → Int
  | .mo _ fi _ => DM.mo fi
  | .nt _ _ fi _ => DM.mo fi
  | .yr mn _ fi _ => DM.mo fi / 12 * 12 + mn - 1
  | _ => 0
def stM : Rl → Int
  | .mo _ _ e => e
  | .nt _ _ _ e => e
  | .yr _ _ _ e => e * 12
  | _ => 1
def gM : Rl → Int → Option Int
  | .mo dt _ _, n => dayDate n dt
  | .nt w wd _ _, n => dayNth n w wd
  | .yr _ dt _ _, n => dayDate n dt
  | _, _ => none
def isM : Rl → Prop
  | .mo _ _ _ => True
  | .nt _ _ _ _ => True
  | .yr _ _ _ _ => True
  | _ => False
theorem flM {r : Rl} (h : isM r) (d : Int) : fl r d = byM (orM r) (stM r) (fiM r) (gM r) d := by
  cases r with
  | mo dt fi e => rfl
  | nt w wd fi e => rfl
  | yr mn dt fi e => rfl
  | _ => exact h.elim
theorem gM_in {r : Rl} {n d : Int} (h : gM r n = some d) : DM.mb n ≤ d ∧ d < DM.mb (n + 1) := by
  have inw_in : ∀ {b e f d : Int}, inw b e f = some d → b ≤ d ∧ d < e := fun {b e f d} h => by
    unfold inw at h
    split at h
    · cases h; assumption
    · cases h
  cases r with
  | mo dt fi e => exact inw_in h
  | nt w wd fi e => exact inw_in h
  | yr mn dt fi e => exact inw_in h
  | _ => cases h
def Gone (r : Rl) (b s n : Int) : Prop := ∀ k, b ≤ k → 0 ≤ k → k < s → DM.mo k < n → fl r k = false
theorem gone_skip {r : Rl} {b s n c : Int} (hm : isM r) (hs : 1 ≤ stM r) (g : Gone r b s n) (hc : n ≤ c) (h : ∀ j, n ≤ j → j < c → (j - orM r) % stM r ≠ 0) : Gone r b s c := fun k k0 k1 k2 k3 => by
  by_cases hk : DM.mo k < n
  · exact g k k0 k1 k2 hk
  · rw [flM hm]
    unfold byM
    split
    · rw [decide_eq_false (h _ (by omega) k3), Bool.false_and]
    · rfl
theorem gone_first {r : Rl} {b B s : Int} (s1 : s ≤ 146097) (hm : isM r) (hs : 1 ≤ stM r) (hf : 0 ≤ fiM r) (hB : B = if fiM r > b then fiM r else b) (h1 : B < 146097) : Gone r b s (DM.mo B + (orM r - DM.mo B) % stM r) ∧ DM.mo B ≤ DM.mo B + (orM r - DM.mo B) % stM r ∧ (DM.mo B + (orM r - DM.mo B) % stM r - orM r) % stM r = 0 := by
  obtain ⟨m1, m2, m3⟩ := mod_next (stM r) (orM r) (DM.mo B) hs
  have hB1 : b ≤ B ∧ fiM r ≤ B := by subst hB; split <;> omega
  obtain ⟨o1, o2, _, _⟩ := DM.mo_ok (d := B) (by omega) h1
  refine ⟨gone_skip (n := DM.mo B) hm hs (fun k k0 k1 k2 k3 => ?_) m1 m3, m1, m2⟩
  obtain ⟨p1, p2, _, _⟩ := DM.mo_ok k1 (by omega)
  have hlt : k < B := by
    have := DM.mb_mono (a := DM.mo k + 1) (b := DM.mo B) (by omega)
    omega
  rw [flM hm]
  refine byM_lt ?_
  subst hB
  split at hlt <;> omega
theorem gone_step {r : Rl} {b s n : Int} (hm : isM r) (hs : 1 ≤ stM r) (g : Gone r b s n) (hn : (n - orM r) % stM r = 0) (h : ∀ k, b ≤ k → k < s → DM.mo k = n → fl r k = false) : Gone r b s (n + stM r) ∧ (n + stM r - orM r) % stM r = 0 := by
  have g1 : Gone r b s (n + 1) := fun k k0 k1 k2 k3 => by
    by_cases hk : DM.mo k < n
    · exact g k k0 k1 k2 hk
    · exact h k k0 k2 (by omega)
  refine ⟨gone_skip hm hs g1 (by omega) fun j j1 j2 hj => ?_, ?_⟩
  · obtain ⟨p, hp⟩ := Int.dvd_of_emod_eq_zero hn
    obtain ⟨q, hq⟩ := Int.dvd_of_emod_eq_zero hj
    have e : j - n = stM r * (q - p) := by rw [Int.mul_sub]; omega
    have h1 : 0 < stM r * (q - p) := by omega
    have h2 : stM r * (q - p) < stM r := by omega
    have h3 : 1 ≤ q - p := by
      by_cases z : q - p ≤ 0
      · have := Int.mul_le_mul_of_nonneg_left z (by omega : 0 ≤ stM r); omega
      · omega
    have := Int.mul_le_mul_of_nonneg_left h3 (by omega : 0 ≤ stM r)
    omega
  · rw [show n + stM r - orM r = (n - orM r) + stM r by omega, Int.add_emod_right]
    exact hn
theorem fl_month {r : Rl} {n d : Int} (hm : isM r) (h0 : 0 ≤ d) (h1 : d < 146097) (hf : fiM r ≤ d) (hn : (n - orM r) % stM r = 0) (hg : gM r n = some d) : fl r d = true ∧ DM.mo d = n := by
  obtain ⟨g1, g2⟩ := gM_in hg
  have e := DM.mo_eq h0 h1 g1 g2
  rw [flM hm, byM_in h0 h1 hf, e, decide_eq_true hn, decide_eq_true hg]
  exact ⟨rfl, rfl⟩
theorem gone_found {r : Rl} {b s n d : Int} (hm : isM r) (g : Gone r b s n) (ds : d < s) (h0 : 0 ≤ d) (h1 : d < 146097) (hf : fiM r ≤ d) (hn : (n - orM r) % stM r = 0) (hg : gM r n = some d) (ok : Ok r) : fl r d = true ∧ No r b d := by
  obtain ⟨e1, e2⟩ := fl_month hm h0 h1 hf hn hg
  refine ⟨e1, fun k k1 k2 => ?_⟩
  by_cases hk : k < 0
  · exact fl_out ok (.inl hk)
  · obtain ⟨p1, p2, _, _⟩ := DM.mo_ok (d := k) (by omega) (by omega)
    obtain ⟨q1, q2, _, _⟩ := DM.mo_ok h0 h1
    by_cases hl : DM.mo k < n
    · exact g k k1 (by omega) (by omega) hl
    · have hkn : DM.mo k = n := by
        by_cases hgt : n < DM.mo k
        · have := DM.mb_mono (a := DM.mo d + 1) (b := DM.mo k) (by omega)
          omega
        · omega
      rw [flM hm]
      unfold byM
      split
      · rw [hkn, hg, show decide (some d = some k) = false from decide_eq_false fun z => by have := Option.some.inj z; omega, Bool.and_false]
      · rfl
theorem gone_none {r : Rl} {b n s : Int} (hm : isM r) (hs : ∀ d, gM r n = some d → ¬ ((if fiM r > b then fiM r else b) ≤ d ∧ d < s)) {k : Int} (k0 : b ≤ k) (k1 : k < s) (hk : DM.mo k = n) : fl r k = false := by
  rw [flM hm]
  unfold byM
  split
  · rename_i hc
    by_cases hg : gM r (DM.mo k) = some k
    · rw [hk] at hg
      have := hs k hg
      split at this <;> omega
    · rw [decide_eq_false hg, Bool.and_false]
  · rfl
theorem gone_stop {r : Rl} {b n s e : Int} (hm : isM r) (ok : Ok r) (g : Gone r b s n) (hs : s ≤ DM.mb n) (he : s = if 146097 < e then 146097 else e) : No r b e := fun k k1 k2 => by
  by_cases hk : k < 0 ∨ 146097 ≤ k
  · exact fl_out ok hk
  · obtain ⟨p1, p2, _, _⟩ := DM.mo_ok (d := k) (by omega) (by omega)
    have ks : k < s := by subst he; split <;> omega
    refine g k k1 (by omega) ks ?_
    by_cases hl : DM.mo k < n
    · exact hl
    · have := DM.mb_mono (a := n) (b := DM.mo k) (by omega)
      omega
end DN
namespace DN
open DF
theorem none_of {r : Rl} {b B s e : Int} (hm : isM r) (ok : Ok r) (hB : B = if fiM r > b then fiM r else b) (hs : s = if 146097 < e then 146097 else e) (h : s ≤ B) : No r b e := fun k k1 k2 => by
  by_cases hk : k < fiM r
  · rw [flM hm]; exact byM_lt hk
  · refine fl_out ok ?_
    subst hB hs
    split at h <;> split at h <;> omega
theorem stM_pos {r : Rl} (hm : isM r) (ok : Ok r) : 1 ≤ stM r ∧ 0 ≤ fiM r := by
  cases r with
  | mo dt fi e => obtain ⟨_, _, _, f0, f1, e0, e1⟩ := ok; exact ⟨e0, f0⟩
  | nt w wd fi e => obtain ⟨_, _, _, _, _, f0, f1, e0, e1⟩ := ok; exact ⟨e0, f0⟩
  | yr mn dt fi e => obtain ⟨_, _, _, _, f0, f1, e0, e1⟩ := ok; exact ⟨(by show 1 ≤ e * 12; omega), f0⟩
  | _ => exact hm.elim
end DN
set_option smartUnfolding false
namespace K12
open PySem L2
def top (i : Nat) : Stmt := PySem.Challenge.pw_hourhouse_k12_simple_next.main.body.getD i (.Pass ⟨0, 0, 0, 0⟩)
abbrev s_is_day : Stmt := top 12
abbrev s_is_leap : Stmt := top 13
abbrev s_year_begin : Stmt := top 15
abbrev s_weekday : Stmt := top 19
abbrev s_check_bounds : Stmt := top 23
abbrev s_count_below : Stmt := top 30
abbrev s_Rule_next_in : Stmt := inClass (top 31) 1
abbrev s_Every_next_in : Stmt := inClass (top 32) 2
abbrev s_ByMonth___init : Stmt := inClass (top 34) 0
abbrev s_Where___init : Stmt := inClass (top 39) 0
abbrev s_law_cell_at : Stmt := top 41
abbrev s_law_next : Stmt := top 42
abbrev s_law_leap : Stmt := top 43
abbrev s_law_year : Stmt := top 45
abbrev s_law_same : Stmt := top 49
abbrev s_law_near : Stmt := top 50
abbrev s_law_often : Stmt := top 52
abbrev s_month_days : Stmt := top 14
abbrev s_month_begin : Stmt := top 16
abbrev s_check_day : Stmt := top 24
abbrev s_week_of : Stmt := top 26
abbrev s_week_begin : Stmt := top 27
abbrev s_Weekly_has_weekday : Stmt := inClass (top 33) 1
abbrev s_Days_next_in : Stmt := inClass (top 38) 2
abbrev s_Where_falls_on : Stmt := inClass (top 39) 1
abbrev s_law_length : Stmt := top 44
abbrev s_law_first : Stmt := top 51
abbrev s_month_of : Stmt := top 17
abbrev s_check_every : Stmt := top 25
abbrev s_day_of_date : Stmt := top 28
abbrev s_day_of_nth : Stmt := top 29
abbrev s_Every___init : Stmt := inClass (top 32) 0
abbrev s_Weekly_weeks_over : Stmt := inClass (top 33) 2
abbrev s_Days___init : Stmt := inClass (top 38) 0
abbrev s_Where_next_in : Stmt := inClass (top 39) 2
abbrev s_law_date : Stmt := top 46
abbrev s_law_day : Stmt := top 47
abbrev s_date_of : Stmt := top 18
abbrev s_Weekly_next_in : Stmt := inClass (top 33) 4
abbrev s_Weekly___init : Stmt := inClass (top 33) 0
abbrev s_Monthly_day_in : Stmt := inClass (top 35) 1
abbrev s_Monthly___init : Stmt := inClass (top 35) 0
abbrev s_Nth_day_in : Stmt := inClass (top 36) 1
abbrev s_Nth___init : Stmt := inClass (top 36) 0
abbrev s_Yearly_day_in : Stmt := inClass (top 37) 1
abbrev s_law_some_day : Stmt := top 48
abbrev s_law_simple : Stmt := top 53
abbrev s_law_months_off : Stmt := top 54
abbrev s_ByMonth_next_in : Stmt := inClass (top 34) 3
abbrev s_Yearly___init : Stmt := inClass (top 37) 0
abbrev s_law_plain : Stmt := top 55
abbrev s_law_days_alone : Stmt := top 59
abbrev s_law_soon : Stmt := top 58
abbrev s_law_left_out : Stmt := top 60
abbrev s_law_by_month : Stmt := top 56
abbrev s_law_rule : Stmt := top 57
abbrev s_law : Stmt := top 61
set_option genInjectivity false
set_option genSizeOf false
structure Adr where
  f_is_day : Addr
  d_is_day : FuncData
  f_is_leap : Addr
  d_is_leap : FuncData
  f_year_begin : Addr
  d_year_begin : FuncData
  f_weekday : Addr
  d_weekday : FuncData
  f_check_bounds : Addr
  d_check_bounds : FuncData
  f_count_below : Addr
  d_count_below : FuncData
  f_Rule_next_in : Addr
  d_Rule_next_in : FuncData
  f_Every_next_in : Addr
  d_Every_next_in : FuncData
  f_ByMonth___init : Addr
  d_ByMonth___init : FuncData
  f_Where___init : Addr
  d_Where___init : FuncData
  f_law_cell_at : Addr
  d_law_cell_at : FuncData
  f_law_next : Addr
  d_law_next : FuncData
  f_law_leap : Addr
  d_law_leap : FuncData
  f_law_year : Addr
  d_law_year : FuncData
  f_law_same : Addr
  d_law_same : FuncData
  f_law_near : Addr
  d_law_near : FuncData
  f_law_often : Addr
  d_law_often : FuncData
  f_month_days : Addr
  d_month_days : FuncData
  f_month_begin : Addr
  d_month_begin : FuncData
  f_check_day : Addr
  d_check_day : FuncData
  f_week_of : Addr
  d_week_of : FuncData
  f_week_begin : Addr
  d_week_begin : FuncData
  f_Weekly_has_weekday : Addr
  d_Weekly_has_weekday : FuncData
  f_Days_next_in : Addr
  d_Days_next_in : FuncData
  f_Where_falls_on : Addr
  d_Where_falls_on : FuncData
  f_law_length : Addr
  d_law_length : FuncData
  f_law_first : Addr
  d_law_first : FuncData
  f_month_of : Addr
  d_month_of : FuncData
  f_check_every : Addr
  d_check_every : FuncData
  f_day_of_date : Addr
  d_day_of_date : FuncData
  f_day_of_nth : Addr
  d_day_of_nth : FuncData
  f_Every___init : Addr
  d_Every___init : FuncData
  f_Weekly_weeks_over : Addr
  d_Weekly_weeks_over : FuncData
  f_Days___init : Addr
  d_Days___init : FuncData
  f_Where_next_in : Addr
  d_Where_next_in : FuncData
  f_law_date : Addr
  d_law_date : FuncData
  f_law_day : Addr
  d_law_day : FuncData
  f_date_of : Addr
  d_date_of : FuncData
  f_Weekly_next_in : Addr
  d_Weekly_next_in : FuncData
  f_Weekly___init : Addr
  d_Weekly___init : FuncData
  f_Monthly_day_in : Addr
  d_Monthly_day_in : FuncData
  f_Monthly___init : Addr
  d_Monthly___init : FuncData
  f_Nth_day_in : Addr
  d_Nth_day_in : FuncData
  f_Nth___init : Addr
  d_Nth___init : FuncData
  f_Yearly_day_in : Addr
  d_Yearly_day_in : FuncData
  f_law_some_day : Addr
  d_law_some_day : FuncData
  f_law_simple : Addr
  d_law_simple : FuncData
  f_law_months_off : Addr
  d_law_months_off : FuncData
  f_ByMonth_next_in : Addr
  d_ByMonth_next_in : FuncData
  f_Yearly___init : Addr
  d_Yearly___init : FuncData
  f_law_plain : Addr
  d_law_plain : FuncData
  f_law_days_alone : Addr
  d_law_days_alone : FuncData
  f_law_soon : Addr
  d_law_soon : FuncData
  f_law_left_out : Addr
  d_law_left_out : FuncData
  f_law_by_month : Addr
  d_law_by_month : FuncData
  f_law_rule : Addr
  d_law_rule : FuncData
  f_law : Addr
  d_law : FuncData
  cc_law_rule : Addr
  pt_law_rule : Addr
  cc_law_days_alone : Addr
  pt_law_days_alone : Addr
  c_DAYS_AHEAD : Addr
  c_MONTH_LENGTHS : Addr
  x_ByMonth : Addr
  x_Days : Addr
  x_Every : Addr
  x_Monthly : Addr
  x_Nth : Addr
  x_Rule : Addr
  x_Weekly : Addr
  x_Where : Addr
  x_Yearly : Addr
structure Txt (K : PySem.W.Frag) (mg : Str → Option Value) (a : Adr) : Prop where
  F_is_day : Fun K "is_day" "is_day" s_is_day a.f_is_day a.d_is_day
  m_is_day : mg "is_day" = some (.ref a.f_is_day)
  b_is_day : Binds K a.d_is_day ["number"] []
  F_is_leap : Fun K "is_leap" "is_leap" s_is_leap a.f_is_leap a.d_is_leap
  m_is_leap : mg "is_leap" = some (.ref a.f_is_leap)
  b_is_leap : Binds K a.d_is_leap ["year"] []
  F_year_begin : Fun K "year_begin" "year_begin" s_year_begin a.f_year_begin a.d_year_begin
  m_year_begin : mg "year_begin" = some (.ref a.f_year_begin)
  b_year_begin : Binds K a.d_year_begin ["year"] []
  F_weekday : Fun K "weekday" "weekday" s_weekday a.f_weekday a.d_weekday
  m_weekday : mg "weekday" = some (.ref a.f_weekday)
  b_weekday : Binds K a.d_weekday ["day"] []
  F_check_bounds : Fun K "check_bounds" "check_bounds" s_check_bounds a.f_check_bounds a.d_check_bounds
  m_check_bounds : mg "check_bounds" = some (.ref a.f_check_bounds)
  b_check_bounds : Binds K a.d_check_bounds ["number", "least", "most"] []
  F_count_below : Fun K "count_below" "count_below" s_count_below a.f_count_below a.d_count_below
  m_count_below : mg "count_below" = some (.ref a.f_count_below)
  b_count_below : Binds K a.d_count_below ["days", "number"] []
  F_Rule_next_in : FunD K "next_in" "Rule.next_in" s_Rule_next_in a.f_Rule_next_in a.d_Rule_next_in
  b_Rule_next_in : Binds K a.d_Rule_next_in ["self", "day", "end"] []
  b_Rule_next_in_2 : ∃ ds, Binds K a.d_Rule_next_in ["self", "day", "end"] ds ∧ Vals [.int 0, .int 146097] ds
  F_Every_next_in : FunD K "next_in" "Every.next_in" s_Every_next_in a.f_Every_next_in a.d_Every_next_in
  b_Every_next_in : Binds K a.d_Every_next_in ["self", "day", "end"] []
  b_Every_next_in_1 : ∃ ds, Binds K a.d_Every_next_in ["self", "day", "end"] ds ∧ Vals [.int 146097] ds
  b_Every_next_in_2 : ∃ ds, Binds K a.d_Every_next_in ["self", "day", "end"] ds ∧ Vals [.int 0, .int 146097] ds
  F_ByMonth___init : Fun K "__init__" "ByMonth.__init__" s_ByMonth___init a.f_ByMonth___init a.d_ByMonth___init
  b_ByMonth___init : Binds K a.d_ByMonth___init ["self", "origin", "stride", "first"] []
  F_Where___init : Fun K "__init__" "Where.__init__" s_Where___init a.f_Where___init a.d_Where___init
  b_Where___init : Binds K a.d_Where___init ["self", "test"] []
  F_law_cell_at : Fun K "_law_cell_at" "_law_cell_at" s_law_cell_at a.f_law_cell_at a.d_law_cell_at
  m_law_cell_at : mg "_law_cell_at" = some (.ref a.f_law_cell_at)
  b_law_cell_at : Binds K a.d_law_cell_at ["_law_script", "_law_k"] []
  F_law_next : Fun K "_law_next" "_law_next" s_law_next a.f_law_next a.d_law_next
  m_law_next : mg "_law_next" = some (.ref a.f_law_next)
  b_law_next : Binds K a.d_law_next ["_law_pick"] []
  F_law_leap : Fun K "_law_leap" "_law_leap" s_law_leap a.f_law_leap a.d_law_leap
  m_law_leap : mg "_law_leap" = some (.ref a.f_law_leap)
  b_law_leap : Binds K a.d_law_leap ["_law_year_here"] []
  F_law_year : Fun K "_law_year" "_law_year" s_law_year a.f_law_year a.d_law_year
  m_law_year : mg "_law_year" = some (.ref a.f_law_year)
  b_law_year : Binds K a.d_law_year ["_law_year_here"] []
  F_law_same : Fun K "_law_same" "_law_same" s_law_same a.f_law_same a.d_law_same
  m_law_same : mg "_law_same" = some (.ref a.f_law_same)
  b_law_same : Binds K a.d_law_same ["_law_found", "_law_due"] []
  F_law_near : Fun K "_law_near" "_law_near" s_law_near a.f_law_near a.d_law_near
  m_law_near : mg "_law_near" = some (.ref a.f_law_near)
  b_law_near : Binds K a.d_law_near ["_law_pick", "_law_base"] []
  F_law_often : Fun K "_law_often" "_law_often" s_law_often a.f_law_often a.d_law_often
  m_law_often : mg "_law_often" = some (.ref a.f_law_often)
  b_law_often : Binds K a.d_law_often ["_law_pick"] []
  F_month_days : Fun K "month_days" "month_days" s_month_days a.f_month_days a.d_month_days
  m_month_days : mg "month_days" = some (.ref a.f_month_days)
  b_month_days : Binds K a.d_month_days ["year", "month"] []
  F_month_begin : Fun K "month_begin" "month_begin" s_month_begin a.f_month_begin a.d_month_begin
  m_month_begin : mg "month_begin" = some (.ref a.f_month_begin)
  b_month_begin : Binds K a.d_month_begin ["number"] []
  F_check_day : Fun K "check_day" "check_day" s_check_day a.f_check_day a.d_check_day
  m_check_day : mg "check_day" = some (.ref a.f_check_day)
  b_check_day : Binds K a.d_check_day ["number"] []
  F_week_of : Fun K "week_of" "week_of" s_week_of a.f_week_of a.d_week_of
  m_week_of : mg "week_of" = some (.ref a.f_week_of)
  b_week_of : Binds K a.d_week_of ["day"] []
  F_week_begin : Fun K "week_begin" "week_begin" s_week_begin a.f_week_begin a.d_week_begin
  m_week_begin : mg "week_begin" = some (.ref a.f_week_begin)
  b_week_begin : Binds K a.d_week_begin ["number"] []
  F_Weekly_has_weekday : Fun K "has_weekday" "Weekly.has_weekday" s_Weekly_has_weekday a.f_Weekly_has_weekday a.d_Weekly_has_weekday
  b_Weekly_has_weekday : Binds K a.d_Weekly_has_weekday ["self", "day"] []
  F_Days_next_in : FunD K "next_in" "Days.next_in" s_Days_next_in a.f_Days_next_in a.d_Days_next_in
  b_Days_next_in : Binds K a.d_Days_next_in ["self", "day", "end"] []
  b_Days_next_in_2 : ∃ ds, Binds K a.d_Days_next_in ["self", "day", "end"] ds ∧ Vals [.int 0, .int 146097] ds
  F_Where_falls_on : Fun K "falls_on" "Where.falls_on" s_Where_falls_on a.f_Where_falls_on a.d_Where_falls_on
  b_Where_falls_on : Binds K a.d_Where_falls_on ["self", "day"] []
  F_law_length : Fun K "_law_length" "_law_length" s_law_length a.f_law_length a.d_law_length
  m_law_length : mg "_law_length" = some (.ref a.f_law_length)
  b_law_length : Binds K a.d_law_length ["_law_year_here", "_law_month"] []
  F_law_first : Fun K "_law_first" "_law_first" s_law_first a.f_law_first a.d_law_first
  m_law_first : mg "_law_first" = some (.ref a.f_law_first)
  b_law_first : Binds K a.d_law_first ["_law_pick", "_law_base"] []
  F_month_of : Fun K "month_of" "month_of" s_month_of a.f_month_of a.d_month_of
  m_month_of : mg "month_of" = some (.ref a.f_month_of)
  b_month_of : Binds K a.d_month_of ["day"] []
  F_check_every : Fun K "check_every" "check_every" s_check_every a.f_check_every a.d_check_every
  m_check_every : mg "check_every" = some (.ref a.f_check_every)
  b_check_every : Binds K a.d_check_every ["first", "every"] []
  F_day_of_date : Fun K "day_of_date" "day_of_date" s_day_of_date a.f_day_of_date a.d_day_of_date
  m_day_of_date : mg "day_of_date" = some (.ref a.f_day_of_date)
  b_day_of_date : Binds K a.d_day_of_date ["number", "date"] []
  F_day_of_nth : Fun K "day_of_nth" "day_of_nth" s_day_of_nth a.f_day_of_nth a.d_day_of_nth
  m_day_of_nth : mg "day_of_nth" = some (.ref a.f_day_of_nth)
  b_day_of_nth : Binds K a.d_day_of_nth ["number", "which", "weekday_of"] []
  F_Every___init : FunD K "__init__" "Every.__init__" s_Every___init a.f_Every___init a.d_Every___init
  b_Every___init : Binds K a.d_Every___init ["self", "step", "first"] []
  b_Every___init_1 : ∃ ds, Binds K a.d_Every___init ["self", "step", "first"] ds ∧ Vals [.int 0] ds
  F_Weekly_weeks_over : Fun K "weeks_over" "Weekly.weeks_over" s_Weekly_weeks_over a.f_Weekly_weeks_over a.d_Weekly_weeks_over
  b_Weekly_weeks_over : Binds K a.d_Weekly_weeks_over ["self", "day"] []
  F_Days___init : Fun K "__init__" "Days.__init__" s_Days___init a.f_Days___init a.d_Days___init
  b_Days___init : Binds K a.d_Days___init ["self", "days"] []
  F_Where_next_in : FunD K "next_in" "Where.next_in" s_Where_next_in a.f_Where_next_in a.d_Where_next_in
  b_Where_next_in : Binds K a.d_Where_next_in ["self", "day", "end"] []
  F_law_date : Fun K "_law_date" "_law_date" s_law_date a.f_law_date a.d_law_date
  m_law_date : mg "_law_date" = some (.ref a.f_law_date)
  b_law_date : Binds K a.d_law_date ["_law_day_here"] []
  F_law_day : Fun K "_law_day" "_law_day" s_law_day a.f_law_day a.d_law_day
  m_law_day : mg "_law_day" = some (.ref a.f_law_day)
  b_law_day : Binds K a.d_law_day ["_law_year_here", "_law_month", "_law_date_here"] []
  F_date_of : Fun K "date_of" "date_of" s_date_of a.f_date_of a.d_date_of
  m_date_of : mg "date_of" = some (.ref a.f_date_of)
  b_date_of : Binds K a.d_date_of ["day"] []
  F_Weekly_next_in : FunD K "next_in" "Weekly.next_in" s_Weekly_next_in a.f_Weekly_next_in a.d_Weekly_next_in
  b_Weekly_next_in : Binds K a.d_Weekly_next_in ["self", "day", "end"] []
  b_Weekly_next_in_1 : ∃ ds, Binds K a.d_Weekly_next_in ["self", "day", "end"] ds ∧ Vals [.int 146097] ds
  F_Weekly___init : FunD K "__init__" "Weekly.__init__" s_Weekly___init a.f_Weekly___init a.d_Weekly___init
  b_Weekly___init : Binds K a.d_Weekly___init ["self", "mask", "first", "every"] []
  b_Weekly___init_1 : ∃ ds, Binds K a.d_Weekly___init ["self", "mask", "first", "every"] ds ∧ Vals [.int 1] ds
  b_Weekly___init_2 : ∃ ds, Binds K a.d_Weekly___init ["self", "mask", "first", "every"] ds ∧ Vals [.int 0, .int 1] ds
  F_Monthly_day_in : Fun K "day_in" "Monthly.day_in" s_Monthly_day_in a.f_Monthly_day_in a.d_Monthly_day_in
  b_Monthly_day_in : Binds K a.d_Monthly_day_in ["self", "number"] []
  F_Monthly___init : FunD K "__init__" "Monthly.__init__" s_Monthly___init a.f_Monthly___init a.d_Monthly___init
  b_Monthly___init : Binds K a.d_Monthly___init ["self", "date", "first", "every"] []
  b_Monthly___init_1 : ∃ ds, Binds K a.d_Monthly___init ["self", "date", "first", "every"] ds ∧ Vals [.int 1] ds
  b_Monthly___init_2 : ∃ ds, Binds K a.d_Monthly___init ["self", "date", "first", "every"] ds ∧ Vals [.int 0, .int 1] ds
  F_Nth_day_in : Fun K "day_in" "Nth.day_in" s_Nth_day_in a.f_Nth_day_in a.d_Nth_day_in
  b_Nth_day_in : Binds K a.d_Nth_day_in ["self", "number"] []
  F_Nth___init : FunD K "__init__" "Nth.__init__" s_Nth___init a.f_Nth___init a.d_Nth___init
  b_Nth___init : Binds K a.d_Nth___init ["self", "which", "weekday_of", "first", "every"] []
  b_Nth___init_1 : ∃ ds, Binds K a.d_Nth___init ["self", "which", "weekday_of", "first", "every"] ds ∧ Vals [.int 1] ds
  b_Nth___init_2 : ∃ ds, Binds K a.d_Nth___init ["self", "which", "weekday_of", "first", "every"] ds ∧ Vals [.int 0, .int 1] ds
  F_Yearly_day_in : Fun K "day_in" "Yearly.day_in" s_Yearly_day_in a.f_Yearly_day_in a.d_Yearly_day_in
  b_Yearly_day_in : Binds K a.d_Yearly_day_in ["self", "number"] []
  F_law_some_day : Fun K "_law_some_day" "_law_some_day" s_law_some_day a.f_law_some_day a.d_law_some_day
  m_law_some_day : mg "_law_some_day" = some (.ref a.f_law_some_day)
  b_law_some_day : Binds K a.d_law_some_day ["_law_cell"] []
  F_law_simple : Fun K "_law_simple" "_law_simple" s_law_simple a.f_law_simple a.d_law_simple
  m_law_simple : mg "_law_simple" = some (.ref a.f_law_simple)
  b_law_simple : Binds K a.d_law_simple ["_law_pick", "_law_base"] []
  F_law_months_off : Fun K "_law_months_off" "_law_months_off" s_law_months_off a.f_law_months_off a.d_law_months_off
  m_law_months_off : mg "_law_months_off" = some (.ref a.f_law_months_off)
  b_law_months_off : Binds K a.d_law_months_off ["_law_day_here", "_law_date_here", "_law_first_here", "_law_often_here"] []
  F_ByMonth_next_in : FunD K "next_in" "ByMonth.next_in" s_ByMonth_next_in a.f_ByMonth_next_in a.d_ByMonth_next_in
  b_ByMonth_next_in : Binds K a.d_ByMonth_next_in ["self", "day", "end"] []
  F_Yearly___init : FunD K "__init__" "Yearly.__init__" s_Yearly___init a.f_Yearly___init a.d_Yearly___init
  b_Yearly___init : Binds K a.d_Yearly___init ["self", "month", "date", "first", "every"] []
  b_Yearly___init_1 : ∃ ds, Binds K a.d_Yearly___init ["self", "month", "date", "first", "every"] ds ∧ Vals [.int 1] ds
  b_Yearly___init_2 : ∃ ds, Binds K a.d_Yearly___init ["self", "month", "date", "first", "every"] ds ∧ Vals [.int 0, .int 1] ds
  F_law_plain : Fun K "_law_plain" "_law_plain" s_law_plain a.f_law_plain a.d_law_plain
  m_law_plain : mg "_law_plain" = some (.ref a.f_law_plain)
  b_law_plain : Binds K a.d_law_plain ["_law_rule_here", "_law_day_here", "_law_date_here"] []
  F_law_days_alone : Fun K "_law_days_alone" "_law_days_alone" s_law_days_alone a.f_law_days_alone a.d_law_days_alone
  m_law_days_alone : mg "_law_days_alone" = some (.ref a.f_law_days_alone)
  b_law_days_alone : Binds K a.d_law_days_alone ["_law_cell"] []
  F_law_soon : Fun K "_law_soon" "_law_soon" s_law_soon a.f_law_soon a.d_law_soon
  m_law_soon : mg "_law_soon" = some (.ref a.f_law_soon)
  b_law_soon : Binds K a.d_law_soon ["_law_rule_here", "_law_begin", "_law_end"] []
  F_law_left_out : Fun K "_law_left_out" "_law_left_out" s_law_left_out a.f_law_left_out a.d_law_left_out
  m_law_left_out : mg "_law_left_out" = some (.ref a.f_law_left_out)
  b_law_left_out : Binds K a.d_law_left_out ["_law_cell"] []
  F_law_by_month : Fun K "_law_by_month" "_law_by_month" s_law_by_month a.f_law_by_month a.d_law_by_month
  m_law_by_month : mg "_law_by_month" = some (.ref a.f_law_by_month)
  b_law_by_month : Binds K a.d_law_by_month ["_law_tree", "_law_short"] []
  F_law_rule : Fun K "_law_rule" "_law_rule" s_law_rule a.f_law_rule a.d_law_rule
  m_law_rule : mg "_law_rule" = some (.ref a.f_law_rule)
  b_law_rule : Binds K a.d_law_rule ["_law_tree", "_law_short"] []
  F_law : Fun K "law" "law" s_law a.f_law a.d_law
  m_law : mg "law" = some (.ref a.f_law)
  b_law : Binds K a.d_law ["_law_script"] []
  g_DAYS : ∃ t, mg "DAYS" = some (.int 146097 t)
  g_DAYS_AHEAD : mg "DAYS_AHEAD" = some (.ref a.c_DAYS_AHEAD)
  s_DAYS_AHEAD : ∀ H : Hp, SqT K H a.c_DAYS_AHEAD [.int 0, .int 31, .int 59, .int 90, .int 120, .int 151, .int 181, .int 212, .int 243, .int 273, .int 304, .int 334]
  g_FIRST_WEEKDAY : ∃ t, mg "FIRST_WEEKDAY" = some (.int 5 t)
  g_FIRST_YEAR : ∃ t, mg "FIRST_YEAR" = some (.int 2000 t)
  g_LONG_YEAR : ∃ t, mg "LONG_YEAR" = some (.int 2000 t)
  g_MONTHS : ∃ t, mg "MONTHS" = some (.int 4800 t)
  g_MONTH_LENGTHS : mg "MONTH_LENGTHS" = some (.ref a.c_MONTH_LENGTHS)
  s_MONTH_LENGTHS : ∀ H : Hp, SqT K H a.c_MONTH_LENGTHS [.int 31, .int 28, .int 31, .int 30, .int 31, .int 30, .int 31, .int 31, .int 30, .int 31, .int 30, .int 31]
  g_MOST_EVERY : ∃ t, mg "MOST_EVERY" = some (.int 1000 t)
  cf_ByMonth___init : ClsFn K a.x_ByMonth "__init__" a.f_ByMonth___init
  m_ByMonth : mg "ByMonth" = some (.ref a.x_ByMonth)
  cl_ByMonth : Cls K a.x_ByMonth
  mk_ByMonth : Mk K a.x_ByMonth a.f_ByMonth___init
  n_ByMonth_origin : NoAttr K a.x_ByMonth "origin"
  n_ByMonth_stride : NoAttr K a.x_ByMonth "stride"
  n_ByMonth_first : NoAttr K a.x_ByMonth "first"
  m_Days : mg "Days" = some (.ref a.x_Days)
  cl_Days : Cls K a.x_Days
  mk_Days : Mk K a.x_Days a.f_Days___init
  n_Days_days : NoAttr K a.x_Days "days"
  me_Days_next_in : Meth K a.x_Days "next_in" a.f_Days_next_in
  m_Every : mg "Every" = some (.ref a.x_Every)
  cl_Every : Cls K a.x_Every
  mk_Every : Mk K a.x_Every a.f_Every___init
  n_Every_step : NoAttr K a.x_Every "step"
  n_Every_first : NoAttr K a.x_Every "first"
  me_Every_next_in : Meth K a.x_Every "next_in" a.f_Every_next_in
  m_Monthly : mg "Monthly" = some (.ref a.x_Monthly)
  cl_Monthly : Cls K a.x_Monthly
  mk_Monthly : Mk K a.x_Monthly a.f_Monthly___init
  n_Monthly_date : NoAttr K a.x_Monthly "date"
  n_Monthly_every : NoAttr K a.x_Monthly "every"
  n_Monthly_origin : NoAttr K a.x_Monthly "origin"
  n_Monthly_stride : NoAttr K a.x_Monthly "stride"
  n_Monthly_first : NoAttr K a.x_Monthly "first"
  me_Monthly_day_in : Meth K a.x_Monthly "day_in" a.f_Monthly_day_in
  me_Monthly_next_in : Meth K a.x_Monthly "next_in" a.f_ByMonth_next_in
  m_Nth : mg "Nth" = some (.ref a.x_Nth)
  cl_Nth : Cls K a.x_Nth
  mk_Nth : Mk K a.x_Nth a.f_Nth___init
  n_Nth_which : NoAttr K a.x_Nth "which"
  n_Nth_weekday_of : NoAttr K a.x_Nth "weekday_of"
  n_Nth_every : NoAttr K a.x_Nth "every"
  n_Nth_origin : NoAttr K a.x_Nth "origin"
  n_Nth_stride : NoAttr K a.x_Nth "stride"
  n_Nth_first : NoAttr K a.x_Nth "first"
  me_Nth_day_in : Meth K a.x_Nth "day_in" a.f_Nth_day_in
  me_Nth_next_in : Meth K a.x_Nth "next_in" a.f_ByMonth_next_in
  m_Rule : mg "Rule" = some (.ref a.x_Rule)
  cl_Rule : Cls K a.x_Rule
  mn_Rule : MkN K a.x_Rule
  me_Rule_next_in : Meth K a.x_Rule "next_in" a.f_Rule_next_in
  m_Weekly : mg "Weekly" = some (.ref a.x_Weekly)
  cl_Weekly : Cls K a.x_Weekly
  mk_Weekly : Mk K a.x_Weekly a.f_Weekly___init
  n_Weekly_mask : NoAttr K a.x_Weekly "mask"
  n_Weekly_first : NoAttr K a.x_Weekly "first"
  n_Weekly_every : NoAttr K a.x_Weekly "every"
  me_Weekly_has_weekday : Meth K a.x_Weekly "has_weekday" a.f_Weekly_has_weekday
  me_Weekly_next_in : Meth K a.x_Weekly "next_in" a.f_Weekly_next_in
  me_Weekly_weeks_over : Meth K a.x_Weekly "weeks_over" a.f_Weekly_weeks_over
  m_Where : mg "Where" = some (.ref a.x_Where)
  cl_Where : Cls K a.x_Where
  mk_Where : Mk K a.x_Where a.f_Where___init
  n_Where_test : NoAttr K a.x_Where "test"
  me_Where_falls_on : Meth K a.x_Where "falls_on" a.f_Where_falls_on
  me_Where_next_in : Meth K a.x_Where "next_in" a.f_Where_next_in
  m_Yearly : mg "Yearly" = some (.ref a.x_Yearly)
  cl_Yearly : Cls K a.x_Yearly
  mk_Yearly : Mk K a.x_Yearly a.f_Yearly___init
  n_Yearly_month : NoAttr K a.x_Yearly "month"
  n_Yearly_date : NoAttr K a.x_Yearly "date"
  n_Yearly_every : NoAttr K a.x_Yearly "every"
  n_Yearly_origin : NoAttr K a.x_Yearly "origin"
  n_Yearly_stride : NoAttr K a.x_Yearly "stride"
  n_Yearly_first : NoAttr K a.x_Yearly "first"
  me_Yearly_day_in : Meth K a.x_Yearly "day_in" a.f_Yearly_day_in
  me_Yearly_next_in : Meth K a.x_Yearly "next_in" a.f_ByMonth_next_in
  n_abs : mg "abs" = none
  n_bool : mg "bool" = none
  n_int : mg "int" = none
  n_isinstance : mg "isinstance" = none
  n_len : mg "len" = none
  n_max : mg "max" = none
  n_min : mg "min" = none
  n_range : mg "range" = none
  n_set : mg "set" = none
  n_sorted : mg "sorted" = none
  n_str : mg "str" = none
  n_sum : mg "sum" = none
  n_tuple : mg "tuple" = none
  lc_law_rule : codeRef K a.f_law_rule = some a.cc_law_rule
  lc_law_days_alone : codeRef K a.f_law_days_alone = some a.cc_law_days_alone
structure TxtL (K : PySem.W.Frag) (mg : Str → Option Value) (base : Heap) (a : Adr) : Prop extends Txt K mg a where
  L_law_rule : MkL mg base a.cc_law_rule a.pt_law_rule
  L_law_days_alone : MkL mg base a.cc_law_days_alone a.pt_law_days_alone
  L_ne : a.pt_law_rule ≠ a.pt_law_days_alone
abbrev lam_law_rule : Expr := argAt (retVal (stAt (ifBody (stAt (defBody s_law_rule) 3)) 0)) 0
abbrev q_law_rule : Str := ("_law_rule" ++ ".<locals>.") ++ "<lambda>"
theorem lsc_law_rule : LamScope "_law_day_here" ["_law_tree"] (lamScope lam_law_rule) := ⟨rfl, rfl, rfl, by decide +kernel, by decide +kernel, by decide +kernel, by decide +kernel, by decide +kernel⟩
theorem lbd_law_rule : ∀ (u : Value) (cl : List (Str × Addr)) (pm cd ctv : Value), bindArgs (PySem.W.kla_fn "<lambda>" q_law_rule (lamArgs lam_law_rule) (lamBody lam_law_rule) (lamScope lam_law_rule) cl pm cd ctv) ⟨[u], []⟩ = pure [(("_law_day_here" : Str), u)] := fun _ _ _ _ _ => rfl
abbrev lam_law_days_alone : Stmt := stAt (defBody s_law_days_alone) 1
abbrev q_law_days_alone : Str := ("_law_days_alone" ++ ".<locals>.") ++ "_law_test"
theorem lsc_law_days_alone : LamScope "_law_day_here" ["_law_seen"] (defScope lam_law_days_alone) := ⟨rfl, rfl, rfl, by decide +kernel, by decide +kernel, by decide +kernel, by decide +kernel, by decide +kernel⟩
theorem lbd_law_days_alone : ∀ (u : Value) (cl : List (Str × Addr)) (cd : Addr) (doc pm ctv : Value), bindArgs (PySem.W.fnX "_law_test" q_law_days_alone (defArgs lam_law_days_alone) (defBody lam_law_days_alone) (defScope lam_law_days_alone) cl .none .none doc pm none (.ref cd) ctv) ⟨[u], []⟩ = pure [(("_law_day_here" : Str), u)] := fun _ _ _ _ _ _ => rfl
def sp_is_leap : Sp := fun vs H Q _ => ∃ y : Int, vs = [.int y] ∧ Q (.bl (DM.leap y)) H
def sp_month_days : Sp := fun vs H Q _ => ∃ y m : Int, vs = [.int y, .int m] ∧ 1 ≤ m ∧ m ≤ 12 ∧ Q (.int (DM.len y m)) H
def sp_year_begin : Sp := fun vs H Q _ => ∃ y : Int, vs = [.int y] ∧ Q (.int (DM.year y)) H
def sp_month_begin : Sp := fun vs H Q _ => ∃ n : Int, vs = [.int n] ∧ Q (.int (DM.mb n)) H
def sp_month_of : Sp := fun vs H Q _ => ∃ d : Int, vs = [.int d] ∧ Q (.int (DM.mo d)) H
def sp_weekday : Sp := fun vs H Q _ => ∃ d : Int, vs = [.int d] ∧ Q (.int ((d + 5) % 7)) H
def sp_law_cell_at (K : PySem.W.Frag) : Sp := fun vs H Q _ => ∃ (p : Addr) (ns : List Int) (k : Int), vs = [.ref p, .int k] ∧ SqL K H p (ns.map V.int) ∧ 0 ≤ k ∧ ∀ v : Int, Q (.int v) H
def sp_law_next : Sp := fun vs H Q _ => ∃ p : Int, vs = [.int p] ∧ ∀ n : Int, 0 ≤ n → Q (.int n) H
def sp_law_length : Sp := fun vs H Q _ => ∃ y m : Int, vs = [.int y, .int m] ∧ ∀ H', Same H H' → Q (.int (DM.len y m)) H'
def sp_law_date : Sp := fun vs H Q _ => ∃ d : Int, vs = [.int d] ∧ 0 ≤ d ∧ d < 146097 ∧ ∀ p H', Same H H' → H p = none → H' p = some (.tup [.int (2000 + DM.mo d / 12), .int (DM.mo d % 12 + 1), .int (d - DM.mb (DM.mo d) + 1)]) → Q (.ref p) H'
def sp_law_day : Sp := fun vs H Q _ => ∃ y m d : Int, vs = [.int y, .int m, .int d] ∧ 1 ≤ m ∧ m ≤ 12 ∧ ∀ H', Same H H' → Q (.int (DM.mb (12 * (y - 2000) + (m - 1)) + d - 1)) H'
def sp_law_some_day : Sp := fun vs H Q _ => ∃ c : Int, vs = [.int c] ∧ ∀ (d : Int) H', 0 ≤ d → d < 146097 → Same H H' → Q (.int d) H'
theorem ml_at {y m : Int} (h1 : 1 ≤ m) (h2 : m ≤ 12) (h : ¬ (m = 2 ∧ DM.leap y = true)) : atI [V.int 31, .int 28, .int 31, .int 30, .int 31, .int 30, .int 31, .int 31, .int 30, .int 31, .int 30, .int 31] (m - 1) = some (.int (DM.len y m)) := by
  have hm : m = 1 ∨ m = 2 ∨ m = 3 ∨ m = 4 ∨ m = 5 ∨ m = 6 ∨ m = 7 ∨ m = 8 ∨ m = 9 ∨ m = 10 ∨ m = 11 ∨ m = 12 := by omega
  rcases hm with e | e | e | e | e | e | e | e | e | e | e | e <;> subst e
  case inr.inl =>
    have e : DM.leap y = false := by simpa using h
    simp only [DM.len, e]
    rfl
  all_goals rfl
theorem da_at (n : Int) : atI [V.int 0, .int 31, .int 59, .int 90, .int 120, .int 151, .int 181, .int 212, .int 243, .int 273, .int 304, .int 334] (n % 12 + 1 - 1) = some (.int (DM.ahead (n % 12 + 1))) := by
  have hr : n % 12 = 0 ∨ n % 12 = 1 ∨ n % 12 = 2 ∨ n % 12 = 3 ∨ n % 12 = 4 ∨ n % 12 = 5 ∨ n % 12 = 6 ∨ n % 12 = 7 ∨ n % 12 = 8 ∨ n % 12 = 9 ∨ n % 12 = 10 ∨ n % 12 = 11 := by omega
  rcases hr with e | e | e | e | e | e | e | e | e | e | e | e <;> rw [e] <;> rfl
theorem sums_range (y : Int) : ∀ n : Nat, ((List.range n).map fun (i : Nat) => DM.len y (1 + (i : Int))).sum = DM.sums y n
  | 0 => rfl
  | n + 1 => by
    rw [List.range_succ, List.map_append, List.sum_append, sums_range y n]
    rw [DM.sums_succ]
    simp [Int.add_comm]
theorem some_in : ∀ t ∈ ([0, 146096, 59, 60, 365, 366, 36584, 36583, 73108, 146037, 146036, 1460] : List Int), 0 ≤ t ∧ t < 146097 := by decide
theorem vint {i j : Int} : decide (V.int i = V.int j) = decide (i = j) := decide_eq_decide.mpr (by rw [V.int.injEq])
theorem atI_pick {ts : List Int} {i : Int} (lo hi : Int) (h0 : 0 ≤ i) (h1 : i < ts.length) (hb : ∀ t ∈ ts, lo ≤ t ∧ t ≤ hi) : ∃ t, lo ≤ t ∧ t ≤ hi ∧ atI (ts.map V.int) i = some (.int t) := by
  obtain ⟨t, ht, e⟩ := atI_ints (ts := ts) h0 h1
  exact ⟨t, (hb t ht).1, (hb t ht).2, e⟩
def sp_count_below (K : PySem.W.Frag) : Sp := fun vs H Q _ => ∃ (p : Addr) (ns : List Int) (x : Int), vs = [.ref p, .int x] ∧ SqT K H p (ns.map V.int) ∧ DC.Rise ns ∧ ns.length ≤ 1000 ∧ Q (.int (DC.below ns x : Nat)) H
theorem half {lo hi : Nat} : ((lo : Int) + (hi : Int)) / 2 = (((lo + hi) / 2 : Nat) : Int) := by omega
theorem ints_at {ns : List Int} {i : Nat} {a : Int} (h : ns[i]? = some a) : (ns.map V.int)[i]? = some (.int a) := by rw [List.getElem?_map, h]; rfl
theorem int_get {ns : List Int} {i : Nat} (h : i < ns.length) : ∃ a, ns[i]? = some a := ⟨ns[i], by simp [h]⟩
theorem look_ne {a b : Str} {v : V} {r : List (Str × V)} (h : (a == b) = false) : List.lookup a ((b, v) :: r) = List.lookup a r := by
  show (match a == b with | true => some v | false => List.lookup a r) = _
  rw [h]
theorem look_eq {a : Str} {v : V} {r : List (Str × V)} (h : (a == a) = true) : List.lookup a ((a, v) :: r) = some v := by
  show (match a == a with | true => some v | false => List.lookup a r) = _
  rw [h]
open DF (Rl fl dayDate dayNth isD byM Ok Fi)
def oV : Option Int → V
  | some d => .int d
  | none => .non
structure RAd where
  r : Addr
  e : Addr
  k : Addr
  m : Addr
  n : Addr
  y : Addr
  d : Addr
  w : Addr
theorem fl_Every_step (a b : V) : List.lookup ("step" : Str) ([("step", a), ("first", b)] : List (Str × V)) = some a := by exact look_eq (by decide +kernel)
theorem fl_Every_first (a b : V) : List.lookup ("first" : Str) ([("step", a), ("first", b)] : List (Str × V)) = some b := by rw [look_ne (by decide +kernel)]; exact look_eq (by decide +kernel)
theorem pf_Every_step (a : V) : putF ("step" : Str) a ([] : List (Str × V)) = ([("step", a)] : List (Str × V)) := by rfl
theorem pf_Every_first (a b : V) : putF ("first" : Str) b ([("step", a)] : List (Str × V)) = ([("step", a), ("first", b)] : List (Str × V)) := by unfold putF; rw [if_neg (by decide)]; rfl
theorem fl_Weekly_mask (a b c : V) : List.lookup ("mask" : Str) ([("mask", a), ("first", b), ("every", c)] : List (Str × V)) = some a := by exact look_eq (by decide +kernel)
theorem fl_Weekly_first (a b c : V) : List.lookup ("first" : Str) ([("mask", a), ("first", b), ("every", c)] : List (Str × V)) = some b := by rw [look_ne (by decide +kernel)]; exact look_eq (by decide +kernel)
theorem fl_Weekly_every (a b c : V) : List.lookup ("every" : Str) ([("mask", a), ("first", b), ("every", c)] : List (Str × V)) = some c := by rw [look_ne (by decide +kernel)]; rw [look_ne (by decide +kernel)]; exact look_eq (by decide +kernel)
theorem pf_Weekly_mask (a : V) : putF ("mask" : Str) a ([] : List (Str × V)) = ([("mask", a)] : List (Str × V)) := by rfl
theorem pf_Weekly_first (a b : V) : putF ("first" : Str) b ([("mask", a)] : List (Str × V)) = ([("mask", a), ("first", b)] : List (Str × V)) := by unfold putF; rw [if_neg (by decide)]; rfl
theorem pf_Weekly_every (a b c : V) : putF ("every" : Str) c ([("mask", a), ("first", b)] : List (Str × V)) = ([("mask", a), ("first", b), ("every", c)] : List (Str × V)) := by unfold putF; rw [if_neg (by decide)]; unfold putF; rw [if_neg (by decide)]; rfl
theorem fl_Monthly_origin (a b c d e : V) : List.lookup ("origin" : Str) ([("origin", a), ("stride", b), ("first", c), ("date", d), ("every", e)] : List (Str × V)) = some a := by exact look_eq (by decide +kernel)
theorem fl_Monthly_stride (a b c d e : V) : List.lookup ("stride" : Str) ([("origin", a), ("stride", b), ("first", c), ("date", d), ("every", e)] : List (Str × V)) = some b := by rw [look_ne (by decide +kernel)]; exact look_eq (by decide +kernel)
theorem fl_Monthly_first (a b c d e : V) : List.lookup ("first" : Str) ([("origin", a), ("stride", b), ("first", c), ("date", d), ("every", e)] : List (Str × V)) = some c := by rw [look_ne (by decide +kernel)]; rw [look_ne (by decide +kernel)]; exact look_eq (by decide +kernel)
theorem fl_Monthly_date (a b c d e : V) : List.lookup ("date" : Str) ([("origin", a), ("stride", b), ("first", c), ("date", d), ("every", e)] : List (Str × V)) = some d := by rw [look_ne (by decide +kernel)]; rw [look_ne (by decide +kernel)]; rw [look_ne (by decide +kernel)]; exact look_eq (by decide +kernel)
theorem pf_Monthly_origin (a : V) : putF ("origin" : Str) a ([] : List (Str × V)) = ([("origin", a)] : List (Str × V)) := by rfl
theorem pf_Monthly_stride (a b : V) : putF ("stride" : Str) b ([("origin", a)] : List (Str × V)) = ([("origin", a), ("stride", b)] : List (Str × V)) := by unfold putF; rw [if_neg (by decide)]; rfl
theorem pf_Monthly_first (a b c : V) : putF ("first" : Str) c ([("origin", a), ("stride", b)] : List (Str × V)) = ([("origin", a), ("stride", b), ("first", c)] : List (Str × V)) := by unfold putF; rw [if_neg (by decide)]; unfold putF; rw [if_neg (by decide)]; rfl
theorem pf_Monthly_date (a b c d : V) : putF ("date" : Str) d ([("origin", a), ("stride", b), ("first", c)] : List (Str × V)) = ([("origin", a), ("stride", b), ("first", c), ("date", d)] : List (Str × V)) := by unfold putF; rw [if_neg (by decide)]; unfold putF; rw [if_neg (by decide)]; unfold putF; rw [if_neg (by decide)]; rfl
theorem pf_Monthly_every (a b c d e : V) : putF ("every" : Str) e ([("origin", a), ("stride", b), ("first", c), ("date", d)] : List (Str × V)) = ([("origin", a), ("stride", b), ("first", c), ("date", d), ("every", e)] : List (Str × V)) := by unfold putF; rw [if_neg (by decide)]; unfold putF; rw [if_neg (by decide)]; unfold putF; rw [if_neg (by decide)]; unfold putF; rw [if_neg (by decide)]; rfl
theorem fl_Nth_origin (a b c d e f : V) : List.lookup ("origin" : Str) ([("origin", a), ("stride", b), ("first", c), ("which", d), ("weekday_of", e), ("every", f)] : List (Str × V)) = some a := by exact look_eq (by decide +kernel)
theorem fl_Nth_stride (a b c d e f : V) : List.lookup ("stride" : Str) ([("origin", a), ("stride", b), ("first", c), ("which", d), ("weekday_of", e), ("every", f)] : List (Str × V)) = some b := by rw [look_ne (by decide +kernel)]; exact look_eq (by decide +kernel)
theorem fl_Nth_first (a b c d e f : V) : List.lookup ("first" : Str) ([("origin", a), ("stride", b), ("first", c), ("which", d), ("weekday_of", e), ("every", f)] : List (Str × V)) = some c := by rw [look_ne (by decide +kernel)]; rw [look_ne (by decide +kernel)]; exact look_eq (by decide +kernel)
theorem fl_Nth_which (a b c d e f : V) : List.lookup ("which" : Str) ([("origin", a), ("stride", b), ("first", c), ("which", d), ("weekday_of", e), ("every", f)] : List (Str × V)) = some d := by rw [look_ne (by decide +kernel)]; rw [look_ne (by decide +kernel)]; rw [look_ne (by decide +kernel)]; exact look_eq (by decide +kernel)
theorem fl_Nth_weekday_of (a b c d e f : V) : List.lookup ("weekday_of" : Str) ([("origin", a), ("stride", b), ("first", c), ("which", d), ("weekday_of", e), ("every", f)] : List (Str × V)) = some e := by rw [look_ne (by decide +kernel)]; rw [look_ne (by decide +kernel)]; rw [look_ne (by decide +kernel)]; rw [look_ne (by decide +kernel)]; exact look_eq (by decide +kernel)
theorem pf_Nth_which (a b c d : V) : putF ("which" : Str) d ([("origin", a), ("stride", b), ("first", c)] : List (Str × V)) = ([("origin", a), ("stride", b), ("first", c), ("which", d)] : List (Str × V)) := by unfold putF; rw [if_neg (by decide)]; unfold putF; rw [if_neg (by decide)]; unfold putF; rw [if_neg (by decide)]; rfl
theorem pf_Nth_weekday_of (a b c d e : V) : putF ("weekday_of" : Str) e ([("origin", a), ("stride", b), ("first", c), ("which", d)] : List (Str × V)) = ([("origin", a), ("stride", b), ("first", c), ("which", d), ("weekday_of", e)] : List (Str × V)) := by unfold putF; rw [if_neg (by decide)]; unfold putF; rw [if_neg (by decide)]; unfold putF; rw [if_neg (by decide)]; unfold putF; rw [if_neg (by decide)]; rfl
theorem pf_Nth_every (a b c d e f : V) : putF ("every" : Str) f ([("origin", a), ("stride", b), ("first", c), ("which", d), ("weekday_of", e)] : List (Str × V)) = ([("origin", a), ("stride", b), ("first", c), ("which", d), ("weekday_of", e), ("every", f)] : List (Str × V)) := by unfold putF; rw [if_neg (by decide)]; unfold putF; rw [if_neg (by decide)]; unfold putF; rw [if_neg (by decide)]; unfold putF; rw [if_neg (by decide)]; unfold putF; rw [if_neg (by decide)]; rfl
theorem fl_Yearly_origin (a b c d e f : V) : List.lookup ("origin" : Str) ([("origin", a), ("stride", b), ("first", c), ("month", d), ("date", e), ("every", f)] : List (Str × V)) = some a := by exact look_eq (by decide +kernel)
theorem fl_Yearly_stride (a b c d e f : V) : List.lookup ("stride" : Str) ([("origin", a), ("stride", b), ("first", c), ("month", d), ("date", e), ("every", f)] : List (Str × V)) = some b := by rw [look_ne (by decide +kernel)]; exact look_eq (by decide +kernel)
theorem fl_Yearly_first (a b c d e f : V) : List.lookup ("first" : Str) ([("origin", a), ("stride", b), ("first", c), ("month", d), ("date", e), ("every", f)] : List (Str × V)) = some c := by rw [look_ne (by decide +kernel)]; rw [look_ne (by decide +kernel)]; exact look_eq (by decide +kernel)
theorem fl_Yearly_date (a b c d e f : V) : List.lookup ("date" : Str) ([("origin", a), ("stride", b), ("first", c), ("month", d), ("date", e), ("every", f)] : List (Str × V)) = some e := by rw [look_ne (by decide +kernel)]; rw [look_ne (by decide +kernel)]; rw [look_ne (by decide +kernel)]; rw [look_ne (by decide +kernel)]; exact look_eq (by decide +kernel)
theorem pf_Yearly_month (a b c d : V) : putF ("month" : Str) d ([("origin", a), ("stride", b), ("first", c)] : List (Str × V)) = ([("origin", a), ("stride", b), ("first", c), ("month", d)] : List (Str × V)) := by unfold putF; rw [if_neg (by decide)]; unfold putF; rw [if_neg (by decide)]; unfold putF; rw [if_neg (by decide)]; rfl
theorem pf_Yearly_date (a b c d e : V) : putF ("date" : Str) e ([("origin", a), ("stride", b), ("first", c), ("month", d)] : List (Str × V)) = ([("origin", a), ("stride", b), ("first", c), ("month", d), ("date", e)] : List (Str × V)) := by unfold putF; rw [if_neg (by decide)]; unfold putF; rw [if_neg (by decide)]; unfold putF; rw [if_neg (by decide)]; unfold putF; rw [if_neg (by decide)]; rfl
theorem pf_Yearly_every (a b c d e f : V) : putF ("every" : Str) f ([("origin", a), ("stride", b), ("first", c), ("month", d), ("date", e)] : List (Str × V)) = ([("origin", a), ("stride", b), ("first", c), ("month", d), ("date", e), ("every", f)] : List (Str × V)) := by unfold putF; rw [if_neg (by decide)]; unfold putF; rw [if_neg (by decide)]; unfold putF; rw [if_neg (by decide)]; unfold putF; rw [if_neg (by decide)]; unfold putF; rw [if_neg (by decide)]; rfl
theorem fl_Days_days (a : V) : List.lookup ("days" : Str) ([("days", a)] : List (Str × V)) = some a := by exact look_eq (by decide +kernel)
theorem pf_Days_days (a : V) : putF ("days" : Str) a ([] : List (Str × V)) = ([("days", a)] : List (Str × V)) := by rfl
theorem fl_Where_test (a : V) : List.lookup ("test" : Str) ([("test", a)] : List (Str × V)) = some a := by exact look_eq (by decide +kernel)
theorem pf_Where_test (a : V) : putF ("test" : Str) a ([] : List (Str × V)) = ([("test", a)] : List (Str × V)) := by rfl
theorem no_Where_falls_on (a : V) : List.lookup ("falls_on" : Str) ([("test", a)] : List (Str × V)) = none := by rw [look_ne (by decide +kernel)]; rfl
theorem no_Monthly_day_in (a b c d e : V) : List.lookup ("day_in" : Str) ([("origin", a), ("stride", b), ("first", c), ("date", d), ("every", e)] : List (Str × V)) = none := by rw [look_ne (by decide +kernel)]; rw [look_ne (by decide +kernel)]; rw [look_ne (by decide +kernel)]; rw [look_ne (by decide +kernel)]; rw [look_ne (by decide +kernel)]; rfl
theorem no_Nth_day_in (a b c d e f : V) : List.lookup ("day_in" : Str) ([("origin", a), ("stride", b), ("first", c), ("which", d), ("weekday_of", e), ("every", f)] : List (Str × V)) = none := by rw [look_ne (by decide +kernel)]; rw [look_ne (by decide +kernel)]; rw [look_ne (by decide +kernel)]; rw [look_ne (by decide +kernel)]; rw [look_ne (by decide +kernel)]; rw [look_ne (by decide +kernel)]; rfl
theorem no_Yearly_day_in (a b c d e f : V) : List.lookup ("day_in" : Str) ([("origin", a), ("stride", b), ("first", c), ("month", d), ("date", e), ("every", f)] : List (Str × V)) = none := by rw [look_ne (by decide +kernel)]; rw [look_ne (by decide +kernel)]; rw [look_ne (by decide +kernel)]; rw [look_ne (by decide +kernel)]; rw [look_ne (by decide +kernel)]; rw [look_ne (by decide +kernel)]; rfl
theorem no_Weekly_weeks_over (a b c : V) : List.lookup ("weeks_over" : Str) ([("mask", a), ("first", b), ("every", c)] : List (Str × V)) = none := by rw [look_ne (by decide +kernel)]; rw [look_ne (by decide +kernel)]; rw [look_ne (by decide +kernel)]; rfl
theorem no_Weekly_has_weekday (a b c : V) : List.lookup ("has_weekday" : Str) ([("mask", a), ("first", b), ("every", c)] : List (Str × V)) = none := by rw [look_ne (by decide +kernel)]; rw [look_ne (by decide +kernel)]; rw [look_ne (by decide +kernel)]; rfl
theorem no_Days_next_in (a : V) : List.lookup ("next_in" : Str) ([("days", a)] : List (Str × V)) = none := by rw [look_ne (by decide +kernel)]; rfl
def TreeAt (H : Hp) (t : Addr) : Rl → Prop
  | .nv => H t = some (.tup [.str "never"])
  | .ev st fi => H t = some (.tup [.str "every", .int st, .int fi])
  | .wk mk fi e => H t = some (.tup [.str "weekly", .int mk, .int fi, .int e])
  | .mo dt fi e => H t = some (.tup [.str "monthly", .int dt, .int fi, .int e])
  | .nt w wd fi e => H t = some (.tup [.str "nth", .int w, .int wd, .int fi, .int e])
  | .yr mn dt fi e => H t = some (.tup [.str "yearly", .int mn, .int dt, .int fi, .int e])
  | .dy ds => ∃ u, H t = some (.tup [.str "days", .ref u]) ∧ H u = some (.tup (ds.map V.int))
  | .wh m r => H t = some (.tup [.str "where", .int m, .int r])
theorem TreeAt.up {H H' : Hp} {t : Addr} {r : Rl} (h : TreeAt H t r) (s : Same H H') : TreeAt H' t r := by
  cases r with
  | dy ds => obtain ⟨u, e1, e2⟩ := h; exact ⟨u, s _ _ e1, s _ _ e2⟩
  | _ => exact s _ _ h
theorem TreeAt.upX {H H' : Hp} {t pt : Addr} {r : Rl} {tb : Array Value} (h : TreeAt H t r) (hp : H pt = some (.tbl tb)) (s : SameX pt H H') : TreeAt H' t r := by
  have ne : ∀ {b : Addr} {xs : List V}, H b = some (.tup xs) → H' b = some (.tup xs) := fun e => s _ _ (fun z => by rw [z, hp] at e; cases e) e
  cases r with
  | dy ds => obtain ⟨u, e1, e2⟩ := h; exact ⟨u, ne e1, ne e2⟩
  | nv => exact ne h
  | ev st fi => exact ne h
  | wk mk fi e => exact ne h
  | mo dt fi e => exact ne h
  | nt w wd fi e => exact ne h
  | yr mn dt fi e => exact ne h
  | wh m r => exact ne h
abbrev LamW (H : Hp) (f t : Addr) : Prop := ∃ cl cd, LamIs H f (lamArgs lam_law_rule) (lamBody lam_law_rule) (lamScope lam_law_rule) q_law_rule ["_law_tree"] [.ref t] cl cd
abbrev TabW (H : Hp) (pt : Addr) : Prop := LTab H pt (lamPos lam_law_rule) q_law_rule
def RuleAt (A : RAd) (H : Hp) (x : Addr) : Rl → Prop
  | .nv => ∃ dx, H x = some (.ins A.r dx [])
  | .ev st fi => ∃ dx, H x = some (.ins A.e dx [("step", .int st), ("first", .int fi)])
  | .wk mk fi e => ∃ dx, H x = some (.ins A.k dx [("mask", .int mk), ("first", .int fi), ("every", .int e)])
  | .mo dt fi e => ∃ dx, H x = some (.ins A.m dx [("origin", .int (DM.mo fi)), ("stride", .int e), ("first", .int fi), ("date", .int dt), ("every", .int e)])
  | .nt w wd fi e => ∃ dx, H x = some (.ins A.n dx [("origin", .int (DM.mo fi)), ("stride", .int e), ("first", .int fi), ("which", .int w), ("weekday_of", .int wd), ("every", .int e)])
  | .yr mn dt fi e => ∃ dx, H x = some (.ins A.y dx [("origin", .int (DM.mo fi / 12 * 12 + mn - 1)), ("stride", .int (e * 12)), ("first", .int fi), ("month", .int mn), ("date", .int dt), ("every", .int e)])
  | .dy ds => ∃ dx d ms, H x = some (.ins A.d dx [("days", .ref d)]) ∧ H d = some (.tup (ms.map V.int)) ∧ DC.Rise ms ∧ ms.length ≤ 1000 ∧ ∀ k, k ∈ ms ↔ k ∈ ds
  | .wh m r => ∃ dx f t, H x = some (.ins A.w dx [("test", .ref f)]) ∧ LamW H f t ∧ H t = some (.tup [.str "where", .int m, .int r])
theorem RuleAt.up {A : RAd} {H H' : Hp} {x : Addr} {r : Rl} (h : RuleAt A H x r) (s : Same H H') : RuleAt A H' x r := by
  cases r with
  | dy ds => obtain ⟨dx, d, ms, e, f, g⟩ := h; exact ⟨dx, d, ms, s _ _ e, s _ _ f, g⟩
  | wh m r => obtain ⟨dx, f, t, e, ⟨cl, cd, L⟩, g⟩ := h; exact ⟨dx, f, t, s _ _ e, ⟨cl, cd, L.same s⟩, s _ _ g⟩
  | _ => obtain ⟨dx, e⟩ := h; exact ⟨dx, s _ _ e⟩
abbrev ad (a : Adr) : RAd := ⟨a.x_Rule, a.x_Every, a.x_Weekly, a.x_Monthly, a.x_Nth, a.x_Yearly, a.x_Days, a.x_Where⟩
def sp_is_day : Sp := fun vs H Q _ => ∃ d : Int, vs = [.int d] ∧ Q (.bl (isD d)) H
def sp_date_of : Sp := fun vs H Q _ => ∃ d : Int, vs = [.int d] ∧ 0 ≤ d ∧ d < 146097 ∧ ∀ p H', Same H H' → H p = none → H' p = some (.tup [.int (2000 + DM.mo d / 12), .int (DM.mo d % 12 + 1), .int (d - DM.mb (DM.mo d) + 1)]) → Q (.ref p) H'
def sp_check_bounds : Sp := fun vs H Q _ => ∃ n l m : Int, vs = [.int n, .int l, .int m] ∧ l ≤ n ∧ n ≤ m ∧ Q .non H
def sp_check_day : Sp := fun vs H Q _ => ∃ n : Int, vs = [.int n] ∧ 0 ≤ n ∧ n < 146097 ∧ Q .non H
def sp_check_every : Sp := fun vs H Q _ => ∃ f e : Int, vs = [.int f, .int e] ∧ Fi f e ∧ Q .non H
def sp_week_of : Sp := fun vs H Q _ => ∃ d : Int, vs = [.int d] ∧ Q (.int ((d + 5) / 7)) H
def sp_day_of_date : Sp := fun vs H Q _ => ∃ n dt : Int, vs = [.int n, .int dt] ∧ Q (oV (dayDate n dt)) H
def sp_day_of_nth : Sp := fun vs H Q _ => ∃ n w wd : Int, vs = [.int n, .int w, .int wd] ∧ Q (oV (dayNth n w wd)) H
def sp_Weekly_has_weekday (A : RAd) : Sp := fun vs H Q _ => ∃ (x : Addr) (d mk fi e : Int), vs = [.ref x, .int d] ∧ RuleAt A H x (.wk mk fi e) ∧ Q (.bl (decide (mk / 2 ^ ((d + 5) % 7).toNat % 2 = 1))) H
def sp_Weekly_weeks_over (A : RAd) : Sp := fun vs H Q _ => ∃ (x : Addr) (d mk fi e : Int), vs = [.ref x, .int d] ∧ RuleAt A H x (.wk mk fi e) ∧ 1 ≤ e ∧ Q (.int (((d + 5) / 7 - (fi + 5) / 7) % e)) H
def isM : Rl → Prop
  | .mo _ _ _ => True
  | .nt _ _ _ _ => True
  | .yr _ _ _ _ => True
  | _ => False
def sp_Monthly_day_in (A : RAd) : Sp := fun vs H Q _ => ∃ (x : Addr) (n dt fi e : Int), vs = [.ref x, .int n] ∧ RuleAt A H x (.mo dt fi e) ∧ Q (oV (dayDate n dt)) H
def sp_Nth_day_in (A : RAd) : Sp := fun vs H Q _ => ∃ (x : Addr) (n w wd fi e : Int), vs = [.ref x, .int n] ∧ RuleAt A H x (.nt w wd fi e) ∧ Q (oV (dayNth n w wd)) H
def sp_Yearly_day_in (A : RAd) : Sp := fun vs H Q _ => ∃ (x : Addr) (n mn dt fi e : Int), vs = [.ref x, .int n] ∧ RuleAt A H x (.yr mn dt fi e) ∧ Q (oV (dayDate n dt)) H
def sp_Days_next_in (A : RAd) : Sp := fun vs H Q _ => ∃ (x : Addr) (b e : Int) (ds : List Int), vs = [.ref x, .int b, .int e] ∧ RuleAt A H x (.dy ds) ∧ (∀ d, b ≤ d → d < e → d ∈ ds → (∀ k, b ≤ k → k < d → k ∉ ds) → Q (.int d) H) ∧ ((∀ k, b ≤ k → k < e → k ∉ ds) → Q .non H)
def sp_Where_falls_on (A : RAd) : Sp := fun vs H Q _ => ∃ (x : Addr) (d m r : Int), vs = [.ref x, .int d] ∧ RuleAt A H x (.wh m r) ∧ 1 ≤ m ∧ -(2 ^ 63) < d ∧ d < 2 ^ 63 ∧ Q (.bl (fl (.wh m r) d)) H
def sp_ByMonth_init (K : PySem.W.Frag) : Sp := fun vs H Q _ => ∃ (x c dx : Addr) (o s f : Int), vs = [.ref x, .int o, .int s, .int f] ∧ (Cls K c ∧ NoAttr K c "origin" ∧ NoAttr K c "stride" ∧ NoAttr K c "first") ∧ H x = some (.ins c dx []) ∧ ∀ H', SameX x H H' → H' x = some (.ins c dx [("origin", .int o), ("stride", .int s), ("first", .int f)]) → Q .non H'
def sp_Every_init (A : RAd) : Sp := fun vs H Q _ => ∃ (x dx : Addr) (st fi : Int), vs = [.ref x, .int st, .int fi] ∧ H x = some (.ins A.e dx []) ∧ Ok (.ev st fi) ∧ ∀ H', SameX x H H' → RuleAt A H' x (.ev st fi) → Q .non H'
def sp_Weekly_init (A : RAd) : Sp := fun vs H Q _ => ∃ (x dx : Addr) (mk fi e : Int), vs = [.ref x, .int mk, .int fi, .int e] ∧ H x = some (.ins A.k dx []) ∧ Ok (.wk mk fi e) ∧ ∀ H', SameX x H H' → RuleAt A H' x (.wk mk fi e) → Q .non H'
def sp_Monthly_init (A : RAd) : Sp := fun vs H Q _ => ∃ (x dx : Addr) (dt fi e : Int), vs = [.ref x, .int dt, .int fi, .int e] ∧ H x = some (.ins A.m dx []) ∧ Ok (.mo dt fi e) ∧ ∀ H', SameX x H H' → RuleAt A H' x (.mo dt fi e) → Q .non H'
def sp_Nth_init (A : RAd) : Sp := fun vs H Q _ => ∃ (x dx : Addr) (w wd fi e : Int), vs = [.ref x, .int w, .int wd, .int fi, .int e] ∧ H x = some (.ins A.n dx []) ∧ Ok (.nt w wd fi e) ∧ ∀ H', SameX x H H' → RuleAt A H' x (.nt w wd fi e) → Q .non H'
def sp_Yearly_init (A : RAd) : Sp := fun vs H Q _ => ∃ (x dx : Addr) (mn dt fi e : Int), vs = [.ref x, .int mn, .int dt, .int fi, .int e] ∧ H x = some (.ins A.y dx []) ∧ Ok (.yr mn dt fi e) ∧ ∀ H', SameX x H H' → RuleAt A H' x (.yr mn dt fi e) → Q .non H'
def sp_Days_init (A : RAd) : Sp := fun vs H Q _ => ∃ (x dx p : Addr) (ds : List Int), vs = [.ref x, .ref p] ∧ H x = some (.ins A.d dx []) ∧ H p = some (.tup (ds.map V.int)) ∧ Ok (.dy ds) ∧ ∀ H', SameX x H H' → RuleAt A H' x (.dy ds) → Q .non H'
def sp_Where_init (C : Addr) : Sp := fun vs H Q _ => ∃ (x dx f : Addr), vs = [.ref x, .ref f] ∧ H x = some (.ins C dx []) ∧ ∀ H', SameX x H H' → H' x = some (.ins C dx [("test", .ref f)]) → Q .non H'
theorem abs_in {i b : Int} (h1 : -b ≤ i) (h2 : i ≤ b) (h3 : i ≠ 0) : 1 ≤ (if i < 0 then -i else i) ∧ (if i < 0 then -i else i) ≤ b := by split <;> omega
theorem nd_len : ∀ {ms ds : List Int}, ms.Nodup → (∀ k ∈ ms, k ∈ ds) → ms.length ≤ ds.length
  | [], _, _, _ => Nat.zero_le _
  | x :: ms, ds, h, hs => by
    obtain ⟨h1, h2⟩ := List.nodup_cons.mp h
    have hx := hs x (List.mem_cons_self ..)
    have ih := nd_len (ds := ds.erase x) h2 fun k hk => (List.mem_erase_of_ne (fun e => h1 (by rw [← e]; exact hk))).mpr (hs k (List.mem_cons_of_mem _ hk))
    rw [List.length_erase_of_mem hx] at ih
    have : 0 < ds.length := List.length_pos_of_mem hx
    show ms.length + 1 ≤ ds.length
    omega
def sp_law_near : Sp := fun vs H Q _ => ∃ p b : Int, vs = [.int p, .int b] ∧ ∀ v : Int, 0 ≤ v → v < 146097 → Q (.int v) H
def sp_law_first : Sp := fun vs H Q _ => ∃ p b : Int, vs = [.int p, .int b] ∧ ∀ (v : Int) H', 0 ≤ v → v < 146097 → Same H H' → Q (.int v) H'
def sp_law_often : Sp := fun vs H Q _ => ∃ p : Int, vs = [.int p] ∧ ∀ (v : Int) H', 1 ≤ v → v ≤ 1000 → Same H H' → Q (.int v) H'
def sp_law_simple : Sp := fun vs H Q _ => ∃ p b : Int, vs = [.int p, .int b] ∧ ∀ (t : Addr) (r : Rl) H', Same H H' → TreeAt H' t r → Ok r → Q (.ref t) H'
abbrev dateV (d : Int) : HO := .tup [.int (2000 + DM.mo d / 12), .int (DM.mo d % 12 + 1), .int (d - DM.mb (DM.mo d) + 1)]
def sp_law_months_off : Sp := fun vs H Q _ => ∃ (d : Int) (p : Addr) (fi e : Int), vs = [.int d, .ref p, .int fi, .int e] ∧ H p = some (dateV d) ∧ 0 ≤ fi ∧ fi < 146097 ∧ 1 ≤ e ∧ ∀ H', Same H H' → Q (.int ((DM.mo d - DM.mo fi) % e)) H'
def sp_law_plain : Sp := fun vs H Q _ => ∃ (t p : Addr) (d : Int) (r : Rl), vs = [.ref t, .int d, .ref p] ∧ TreeAt H t r ∧ Ok r ∧ 0 ≤ d ∧ d < 146097 ∧ H p = some (dateV d) ∧ ∀ H', Same H H' → Q (.bl (fl r d)) H'
theorem atI_one {ts : List Int} {i : Int} (P : Int → Prop) (h0 : 0 ≤ i) (h1 : i < ts.length) (hb : ∀ t ∈ ts, P t) : ∃ t, P t ∧ atI (ts.map V.int) i = some (.int t) := by
  obtain ⟨t, ht, e⟩ := atI_ints (ts := ts) h0 h1
  exact ⟨t, hb t ht, e⟩
theorem nth_in : ∀ t ∈ ([1, 2, 5, -1, -5, 3, -2, 4, -3, -4] : List Int), -5 ≤ t ∧ t ≤ 5 ∧ t ≠ 0 := by decide
theorem p2_at (d : Int) : atI [V.int 1, .int 2, .int 4, .int 8, .int 16, .int 32, .int 64] ((d + 5) % 7) = some (.int (2 ^ ((d + 5) % 7).toNat)) := by
  have h0 : 0 ≤ (d + 5) % 7 := Int.emod_nonneg _ (by decide)
  have h1 : (d + 5) % 7 < 7 := Int.emod_lt_of_pos _ (by decide)
  have e := DF.pow2_at ⟨((d + 5) % 7).toNat, by omega⟩
  have : atI (([1, 2, 4, 8, 16, 32, 64] : List Int).map V.int) (((d + 5) % 7).toNat : Int) = some (.int (2 ^ ((d + 5) % 7).toNat)) := atI_nat (by rw [List.getElem?_map, e]; rfl)
  rw [Int.toNat_of_nonneg h0] at this
  exact this
theorem p2_pos (d : Int) : 0 < (2 : Int) ^ ((d + 5) % 7).toNat ∧ (2 : Int) ^ ((d + 5) % 7).toNat < 1073741824 := by
  have h1 : (d + 5) % 7 < 7 := Int.emod_lt_of_pos _ (by decide)
  have : ∀ k : Fin 7, 0 < (2 : Int) ^ k.val ∧ (2 : Int) ^ k.val < 1073741824 := by decide
  exact this ⟨((d + 5) % 7).toNat, by omega⟩
theorem pick2 {u v : V} {c : Bool} : atI [u, v] (if c = true then 1 else 0) = some (if c = true then v else u) := by cases c <;> rfl
theorem ints_of {P : Int → Prop} : ∀ {ys : List V}, (∀ v ∈ ys, ∃ d : Int, v = .int d ∧ P d) → ∃ ds : List Int, ys = ds.map V.int ∧ ∀ d ∈ ds, P d
  | [], _ => ⟨[], rfl, fun _ h => nomatch h⟩
  | y :: ys, h => by
    obtain ⟨d, rfl, hd⟩ := h y (List.mem_cons_self ..)
    obtain ⟨ds, rfl, hds⟩ := ints_of fun v hv => h v (List.mem_cons_of_mem _ hv)
    exact ⟨d :: ds, rfl, fun z hz => by
      rcases List.mem_cons.mp hz with rfl | hz
      · exact hd
      · exact hds z hz⟩
theorem mk_up {H H1 H3 : Hp} {x dx C : Addr} (nx : H1 x = none) (ndx : H1 dx = none) (S : Same H H1) (sx : SameX x (upd (upd H1 dx (.own x)) x (.ins C dx [])) H3) : Same H H3 := fun q u eq => by
  have e1 := S _ _ eq
  exact sx _ _ (ne_of_none e1 nx) (by rw [upd_ne (ne_of_none e1 nx), upd_ne (ne_of_none e1 ndx)]; exact e1)
def sp_law_by_month (A : RAd) : Sp := fun vs H Q _ => ∃ (t : Addr) (b : Bool) (r : Rl), vs = [.ref t, .bl b] ∧ TreeAt H t r ∧ Ok r ∧ isM r ∧ ∀ x H', Same H H' → RuleAt A H' x r → Q (.ref x) H'
def sp_law_rule (A : RAd) (pt : Addr) : Sp := fun vs H Q _ => ∃ (t : Addr) (b : Bool) (r : Rl), vs = [.ref t, .bl b] ∧ TreeAt H t r ∧ Ok r ∧ TabW H pt ∧ ∀ x H', SameX pt H H' → RuleAt A H' x r → Q (.ref x) H'
theorem cut4 (a b c d : V) : cutV [a, b, c, d] (some (-2)) none = [c, d] := rfl
theorem cut5 (a b c d e : V) : cutV [a, b, c, d, e] (some (-2)) none = [d, e] := rfl
def NX (r : Rl) (b e : Int) (Q : VK) (H : Hp) : Prop := (∀ d, b ≤ d → d < e → fl r d = true → DN.No r b d → Q (.int d) H) ∧ (DN.No r b e → Q .non H)
def sp_Rule_next_in : Sp := fun vs H Q _ => ∃ (x : Addr) (b e : Int), vs = [.ref x, .int b, .int e] ∧ Q .non H
def Wi (b e : Int) : Prop := -(2 ^ 40) < b ∧ b < 2 ^ 40 ∧ -(2 ^ 40) < e ∧ e < 2 ^ 40
def sp_Every_next_in (A : RAd) : Sp := fun vs H Q _ => ∃ (x : Addr) (b e st fi : Int), vs = [.ref x, .int b, .int e] ∧ RuleAt A H x (.ev st fi) ∧ Ok (.ev st fi) ∧ NX (.ev st fi) b e Q H
def sp_Weekly_next_in (A : RAd) : Sp := fun vs H Q _ => ∃ (x : Addr) (b e mk fi ev : Int), vs = [.ref x, .int b, .int e] ∧ RuleAt A H x (.wk mk fi ev) ∧ Ok (.wk mk fi ev) ∧ NX (.wk mk fi ev) b e Q H
def sp_ByMonth_next_in (A : RAd) : Sp := fun vs H Q _ => ∃ (x : Addr) (b e : Int) (r : Rl), vs = [.ref x, .int b, .int e] ∧ DN.isM r ∧ RuleAt A H x r ∧ Ok r ∧ NX r b e Q H
def sp_Where_next_in (A : RAd) : Sp := fun vs H Q _ => ∃ (x : Addr) (b e m r : Int), vs = [.ref x, .int b, .int e] ∧ RuleAt A H x (.wh m r) ∧ Ok (.wh m r) ∧ Wi b e ∧ NX (.wh m r) b e Q H
def sp_week_begin : Sp := fun vs H Q _ => ∃ n : Int, vs = [.int n] ∧ Q (.int (n * 7 - 5)) H
def dmonth (a : Adr) : Addr → (V → List V → Hp → VK → Prop) → Prop := fun C R => (C = a.x_Monthly ∧ R = fun x vs H Q => (sp_Monthly_day_in (ad a)) (x :: (vs ++ ([] : List V))) H Q E0) ∨ (C = a.x_Nth ∧ R = fun x vs H Q => (sp_Nth_day_in (ad a)) (x :: (vs ++ ([] : List V))) H Q E0) ∨ (C = a.x_Yearly ∧ R = fun x vs H Q => (sp_Yearly_day_in (ad a)) (x :: (vs ++ ([] : List V))) H Q E0)
theorem month_obj {K : PySem.W.Frag} {mg : Str → Option Value} {base : Heap} {a : Adr} (T : TxtL K mg base a) {H : Hp} {x : Addr} {r : Rl} (hm : DN.isM r) (hr : RuleAt (ad a) H x r) : ∃ (C dx : Addr) (fs : List (Str × V)), H x = some (.ins C dx fs) ∧ Cls K C ∧ (NoAttr K C "first" ∧ fs.lookup ("first" : Str) = some (.int (DN.fiM r))) ∧ (NoAttr K C "origin" ∧ fs.lookup ("origin" : Str) = some (.int (DN.orM r))) ∧ (NoAttr K C "stride" ∧ fs.lookup ("stride" : Str) = some (.int (DN.stM r))) ∧ fs.lookup ("day_in" : Str) = none ∧
    ∃ R' : V → List V → Hp → VK → Prop, dmonth a C R' ∧ ∀ (n : Int) (R : VK), R (oV (DN.gM r n)) H → R' (.ref x) [.int n] H R := by
  cases r with
  | mo dt fi e => obtain ⟨dx, hx⟩ := id hr; exact ⟨_, dx, _, hx, T.cl_Monthly, ⟨T.n_Monthly_first, fl_Monthly_first _ _ _ _ _⟩, ⟨T.n_Monthly_origin, fl_Monthly_origin _ _ _ _ _⟩, ⟨T.n_Monthly_stride, fl_Monthly_stride _ _ _ _ _⟩, no_Monthly_day_in _ _ _ _ _, _, .inl ⟨rfl, rfl⟩, fun n R k => ⟨x, n, dt, fi, e, rfl, hr, k⟩⟩
  | nt w wd fi e => obtain ⟨dx, hx⟩ := id hr; exact ⟨_, dx, _, hx, T.cl_Nth, ⟨T.n_Nth_first, fl_Nth_first _ _ _ _ _ _⟩, ⟨T.n_Nth_origin, fl_Nth_origin _ _ _ _ _ _⟩, ⟨T.n_Nth_stride, fl_Nth_stride _ _ _ _ _ _⟩, no_Nth_day_in _ _ _ _ _ _, _, .inr (.inl ⟨rfl, rfl⟩), fun n R k => ⟨x, n, w, wd, fi, e, rfl, hr, k⟩⟩
  | yr mn dt fi e => obtain ⟨dx, hx⟩ := id hr; exact ⟨_, dx, _, hx, T.cl_Yearly, ⟨T.n_Yearly_first, fl_Yearly_first _ _ _ _ _ _⟩, ⟨T.n_Yearly_origin, fl_Yearly_origin _ _ _ _ _ _⟩, ⟨T.n_Yearly_stride, fl_Yearly_stride _ _ _ _ _ _⟩, no_Yearly_day_in _ _ _ _ _ _, _, .inr (.inr ⟨rfl, rfl⟩), fun n R k => ⟨x, n, mn, dt, fi, e, rfl, hr, k⟩⟩
  | _ => exact hm.elim
theorem no_Every_next_in (a b : V) : List.lookup ("next_in" : Str) ([("step", a), ("first", b)] : List (Str × V)) = none := by rw [look_ne (by decide +kernel)]; rw [look_ne (by decide +kernel)]; rfl
theorem no_Weekly_next_in (a b c : V) : List.lookup ("next_in" : Str) ([("mask", a), ("first", b), ("every", c)] : List (Str × V)) = none := by rw [look_ne (by decide +kernel)]; rw [look_ne (by decide +kernel)]; rw [look_ne (by decide +kernel)]; rfl
theorem no_Monthly_next_in (a b c d e : V) : List.lookup ("next_in" : Str) ([("origin", a), ("stride", b), ("first", c), ("date", d), ("every", e)] : List (Str × V)) = none := by rw [look_ne (by decide +kernel)]; rw [look_ne (by decide +kernel)]; rw [look_ne (by decide +kernel)]; rw [look_ne (by decide +kernel)]; rw [look_ne (by decide +kernel)]; rfl
theorem no_Nth_next_in (a b c d e f : V) : List.lookup ("next_in" : Str) ([("origin", a), ("stride", b), ("first", c), ("which", d), ("weekday_of", e), ("every", f)] : List (Str × V)) = none := by rw [look_ne (by decide +kernel)]; rw [look_ne (by decide +kernel)]; rw [look_ne (by decide +kernel)]; rw [look_ne (by decide +kernel)]; rw [look_ne (by decide +kernel)]; rw [look_ne (by decide +kernel)]; rfl
theorem no_Yearly_next_in (a b c d e f : V) : List.lookup ("next_in" : Str) ([("origin", a), ("stride", b), ("first", c), ("month", d), ("date", e), ("every", f)] : List (Str × V)) = none := by rw [look_ne (by decide +kernel)]; rw [look_ne (by decide +kernel)]; rw [look_ne (by decide +kernel)]; rw [look_ne (by decide +kernel)]; rw [look_ne (by decide +kernel)]; rw [look_ne (by decide +kernel)]; rfl
theorem no_Where_next_in (a : V) : List.lookup ("next_in" : Str) ([("test", a)] : List (Str × V)) = none := by rw [look_ne (by decide +kernel)]; rfl
def Nx (r : Rl) (b e : Int) : Option Int → Prop
  | some d => b ≤ d ∧ d < e ∧ fl r d = true ∧ DN.No r b d
  | none => DN.No r b e
theorem Nx.uniq {r : Rl} {b e : Int} : ∀ {o p : Option Int}, Nx r b e o → Nx r b e p → o = p
  | some d, some d', ⟨a1, a2, a3, a4⟩, ⟨b1, b2, b3, b4⟩ => by
    by_cases h1 : d < d'
    · rw [b4 d a1 h1] at a3; cases a3
    · by_cases h2 : d' < d
      · rw [a4 d' b1 h2] at b3; cases b3
      · rw [show d = d' by omega]
  | some d, none, ⟨a1, a2, a3, a4⟩, g => by rw [g d a1 a2] at a3; cases a3
  | none, some d, g, ⟨a1, a2, a3, a4⟩ => by rw [g d a1 a2] at a3; cases a3
  | none, none, _, _ => rfl
theorem NX.of {r : Rl} {b e : Int} {Q : VK} {H : Hp} (k : ∀ o, Nx r b e o → Q (oV o) H) : NX r b e Q H := ⟨fun d h1 h2 h3 h4 => k (some d) ⟨h1, h2, h3, h4⟩, fun h => k none h⟩
theorem dy_next {ds : List Int} {b e : Int} {Q : VK} {H : Hp} (k : ∀ o, Nx (.dy ds) b e o → Q (oV o) H) : (∀ d, b ≤ d → d < e → d ∈ ds → (∀ k, b ≤ k → k < d → k ∉ ds) → Q (.int d) H) ∧ ((∀ k, b ≤ k → k < e → k ∉ ds) → Q .non H) :=
  ⟨fun d h1 h2 h3 h4 => k (some d) ⟨h1, h2, decide_eq_true h3, fun z z1 z2 => decide_eq_false (h4 z z1 z2)⟩, fun h => k none fun z z1 z2 => decide_eq_false (h z z1 z2)⟩
def dnext (a : Adr) : Addr → (V → List V → Hp → VK → Prop) → Prop := fun C R => (C = a.x_Rule ∧ R = fun x vs H Q => (sp_Rule_next_in) (x :: (vs ++ ([] : List V))) H Q E0) ∨ (C = a.x_Every ∧ R = fun x vs H Q => (sp_Every_next_in (ad a)) (x :: (vs ++ ([] : List V))) H Q E0) ∨ (C = a.x_Weekly ∧ R = fun x vs H Q => (sp_Weekly_next_in (ad a)) (x :: (vs ++ ([] : List V))) H Q E0) ∨ (C = a.x_Monthly ∧ R = fun x vs H Q => (sp_ByMonth_next_in (ad a)) (x :: (vs ++ ([] : List V))) H Q E0) ∨ (C = a.x_Nth ∧ R = fun x vs H Q => (sp_ByMonth_next_in (ad a)) (x :: (vs ++ ([] : List V))) H Q E0) ∨ (C = a.x_Yearly ∧ R = fun x vs H Q => (sp_ByMonth_next_in (ad a)) (x :: (vs ++ ([] : List V))) H Q E0) ∨ (C = a.x_Days ∧ R = fun x vs H Q => (sp_Days_next_in (ad a)) (x :: (vs ++ ([] : List V))) H Q E0) ∨ (C = a.x_Where ∧ R = fun x vs H Q => (sp_Where_next_in (ad a)) (x :: (vs ++ ([] : List V))) H Q E0)
theorem next_call {a : Adr} {H : Hp} {x : Addr} {b e : Int} {r : Rl} (hr : RuleAt (ad a) H x r) (ok : Ok r) (hw : Wi b e) :
    ∃ (y C dx : Addr) (fs : List (Str × V)) (R' : V → List V → Hp → VK → Prop), V.ref x = .ref y ∧ H y = some (.ins C dx fs) ∧ fs.lookup ("next_in" : Str) = none ∧ dnext a C R' ∧ ∀ R : VK, (∀ o, Nx r b e o → R (oV o) H) → R' (.ref x) [.int b, .int e] H R := by
  cases r with
  | nv => obtain ⟨dx, hx⟩ := id hr; exact ⟨x, _, dx, _, _, rfl, hx, rfl, .inl ⟨rfl, rfl⟩, fun R k => ⟨x, b, e, rfl, k none fun _ _ _ => rfl⟩⟩
  | ev st fi => obtain ⟨dx, hx⟩ := id hr; exact ⟨x, _, dx, _, _, rfl, hx, no_Every_next_in _ _, .inr (.inl ⟨rfl, rfl⟩), fun R k => ⟨x, b, e, st, fi, rfl, hr, ok, NX.of k⟩⟩
  | wk mk fi ev => obtain ⟨dx, hx⟩ := id hr; exact ⟨x, _, dx, _, _, rfl, hx, no_Weekly_next_in _ _ _, .inr (.inr (.inl ⟨rfl, rfl⟩)), fun R k => ⟨x, b, e, mk, fi, ev, rfl, hr, ok, NX.of k⟩⟩
  | mo dt fi ev => obtain ⟨dx, hx⟩ := id hr; exact ⟨x, _, dx, _, _, rfl, hx, no_Monthly_next_in _ _ _ _ _, .inr (.inr (.inr (.inl ⟨rfl, rfl⟩))), fun R k => ⟨x, b, e, .mo dt fi ev, rfl, trivial, hr, ok, NX.of k⟩⟩
  | nt w wd fi ev => obtain ⟨dx, hx⟩ := id hr; exact ⟨x, _, dx, _, _, rfl, hx, no_Nth_next_in _ _ _ _ _ _, .inr (.inr (.inr (.inr (.inl ⟨rfl, rfl⟩)))), fun R k => ⟨x, b, e, .nt w wd fi ev, rfl, trivial, hr, ok, NX.of k⟩⟩
  | yr mn dt fi ev => obtain ⟨dx, hx⟩ := id hr; exact ⟨x, _, dx, _, _, rfl, hx, no_Yearly_next_in _ _ _ _ _ _, .inr (.inr (.inr (.inr (.inr (.inl ⟨rfl, rfl⟩))))), fun R k => ⟨x, b, e, .yr mn dt fi ev, rfl, trivial, hr, ok, NX.of k⟩⟩
  | dy ds => obtain ⟨dx, u, ms, hx, _⟩ := id hr; exact ⟨x, _, dx, _, _, rfl, hx, no_Days_next_in _, .inr (.inr (.inr (.inr (.inr (.inr (.inl ⟨rfl, rfl⟩)))))), fun R k => ⟨x, b, e, ds, rfl, hr, dy_next k⟩⟩
  | wh m r => obtain ⟨dx, f, t, hx, _⟩ := id hr; exact ⟨x, _, dx, _, _, rfl, hx, no_Where_next_in _, .inr (.inr (.inr (.inr (.inr (.inr (.inr ⟨rfl, rfl⟩)))))), fun R k => ⟨x, b, e, m, r, rfl, hr, ok, hw, NX.of k⟩⟩
theorem seqX {K : PySem.W.Frag} {H H' : Hp} {pt c : Addr} {xs : List V} {tb : Array Value} (h : SqL K H c xs) (hp : H pt = some (.tbl tb)) (s : SameX pt H H') : SqL K H' c xs := by
  rcases h with (h | ⟨o, h⟩) | h
  · exact .inl (.inl (s _ _ (fun z => by rw [z, hp] at h; cases h) h))
  · exact .inl (.inr ⟨o, s _ _ (fun z => by rw [z, hp] at h; cases h) h⟩)
  · exact .inr h
def sp_law_same : Sp := fun vs H Q _ => ∃ o : Option Int, vs = [oV o, oV o] ∧ Q (.bl true) H
theorem same_or {H : Hp} {Q : VK} {E : XK} {vs : List V} (h : sp_law_same vs H Q E) : (∃ d : Int, vs = [.int d, .int d] ∧ Q (.bl true) H) ∨ (vs = [.non, .non] ∧ Q (.bl true) H) := by
  obtain ⟨o, rfl, k⟩ := h
  cases o with
  | none => exact .inr ⟨rfl, k⟩
  | some d => exact .inl ⟨d, rfl, k⟩
def sp_law_soon : Sp := fun vs H Q _ => ∃ (t : Addr) (b e : Int) (r : Rl), vs = [.ref t, .int b, .int e] ∧ TreeAt H t r ∧ Ok r ∧ Wi b e ∧ ∀ o H', Same H H' → Nx r b e o → Q (oV o) H'
def sp_law_left_out : Sp := fun vs H Q _ => ∃ c : Int, vs = [.int c] ∧ 0 ≤ c ∧ ∀ H', Same H H' → Q (.bl true) H'
def sp_law_days_alone (pt : Addr) : Sp := fun vs H Q _ => ∃ c : Int, vs = [.int c] ∧ H pt = some (.tbl #[]) ∧ ∀ H', Q (.bl true) H'
def sp_law (K : PySem.W.Frag) (ts : List (Addr × Addr)) : Sp := fun vs H Q _ => ∃ (a : Addr) (ns : List Int), vs = [.ref a] ∧ SqL K H a (ns.map V.int) ∧ ns.length ≤ 63 ∧ (∀ b ∈ ts.map (·.2), H b = some (.tbl #[])) ∧ ∀ H', Q (.bl true) H'
theorem pickO (d : Int) (p : Bool) : atI [V.int d, V.non] (if p = true then 1 else 0) = some (oV (if p = true then none else some d)) := by cases p <;> rfl
theorem ev_left {st fi b : Int} (ok : Ok (.ev st fi)) (B : Int) (hB : B = if fi > b then fi else b) : Nx (.ev st fi) b 146097 (if decide (146096 < B + (fi - B) % st) = true then none else some (B + (fi - B) % st)) := by
  obtain ⟨n1, n2⟩ := DN.ev_next (e := 146097) ok hB
  by_cases h : B + (fi - B) % st < 146097
  · rw [if_neg (by rw [decide_eq_true_iff]; omega)]
    exact n1 (by rw [if_neg (by decide)]; exact h)
  · rw [if_pos (decide_eq_true (by omega))]
    exact n2 (by rw [if_neg (by decide)]; exact h)
theorem ev_lt {st fi k : Int} (h : k < fi) : fl (.ev st fi) k = false := by
  show (isD k && (decide (fi ≤ k) && decide ((k - fi) % st = 0))) = false
  rw [decide_eq_false (by omega : ¬ fi ≤ k), Bool.false_and, Bool.and_false]
theorem ev_first {st fi : Int} (ok : Ok (.ev st fi)) : Nx (.ev st fi) 0 146097 (some fi) := by
  obtain ⟨s1, s2, f0, f1⟩ := ok
  refine ⟨f0, f1, ?_, fun k _ h2 => ev_lt h2⟩
  show (isD fi && (decide (fi ≤ fi) && decide ((fi - fi) % st = 0))) = true
  rw [DF.isD_iff.mpr ⟨f0, f1⟩, decide_eq_true (Int.le_refl _), Int.sub_self, Int.zero_emod]
  rfl
theorem wk64 {d : Int} (h0 : 0 ≤ d) (h1 : d < 146097) : fl (.wk 64 0 1) d = decide ((d + 5) % 7 = 6) := by
  show (if isD d = true ∧ 0 ≤ d then decide (((d + 5) / 7 - (0 + 5) / 7) % 1 = 0) && decide (64 / 2 ^ ((d + 5) % 7).toNat % 2 = (1 : Int)) else false) = _
  rw [if_pos ⟨DF.isD_iff.mpr ⟨h0, h1⟩, h0⟩, decide_eq_true (Int.emod_one _), Bool.true_and]
  have a0 := Int.emod_nonneg (d + 5) (by decide : (7 : Int) ≠ 0)
  have a1 := Int.emod_lt_of_pos (d + 5) (by decide : (0 : Int) < 7)
  obtain ⟨n, hn⟩ := Int.eq_ofNat_of_zero_le a0
  rw [hn] at a1 ⊢
  have : n < 7 := by omega
  match n, this with
  | 0, _ => decide
  | 1, _ => decide
  | 2, _ => decide
  | 3, _ => decide
  | 4, _ => decide
  | 5, _ => decide
  | 6, _ => decide
theorem wk_left {d : Int} (h0 : 0 ≤ d) (h1 : d < 146097) : Nx (.wk 64 0 1) d 146097 (if decide (146096 < d + 6 - (d + 5) % 7) = true then none else some (d + 6 - (d + 5) % 7)) := by
  have no : ∀ e, e ≤ d + 6 - (d + 5) % 7 → DN.No (.wk 64 0 1) d e := fun e he k k1 k2 => by
    by_cases hk : k < 146097
    · rw [wk64 (by omega) hk]
      exact decide_eq_false (by omega)
    · exact DF.fl_out (r := .wk 64 0 1) ⟨by decide, by decide, by decide, by decide, by decide, by decide⟩ (by omega)
  by_cases h : 146096 < d + 6 - (d + 5) % 7
  · rw [if_pos (decide_eq_true h)]
    exact no _ (by omega)
  · rw [if_neg (by rw [decide_eq_true_iff]; exact h)]
    refine ⟨by omega, by omega, ?_, no _ (Int.le_refl _)⟩
    rw [wk64 (by omega) (by omega)]
    exact decide_eq_true (by omega)
theorem nxA : Nx (.ev 10 146090) 146091 1000000 none := fun k k1 k2 => by
  show (isD k && (decide (146090 ≤ k) && decide ((k - 146090) % 10 = 0))) = false
  by_cases h : isD k = true
  · have := DF.isD_iff.mp h
    rw [decide_eq_false (by omega : ¬ (k - 146090) % 10 = 0), Bool.and_false, Bool.and_false]
  · rw [Bool.eq_false_iff.mpr h, Bool.false_and]
theorem nxB : Nx (.ev 9 3) (-1000000) 4 (some 3) := by
  refine ⟨by decide, by decide, by decide +kernel, fun k _ h2 => ev_lt h2⟩
theorem nxC : Nx (.dy [9, 5, 9]) 0 146097 (some 5) := by
  refine ⟨by decide, by decide, by decide +kernel, fun k _ h2 => decide_eq_false fun h => ?_⟩
  simp only [List.mem_cons, List.mem_nil_iff, or_false] at h
  omega
def sp_Where_falls_onB (C : Addr) : Sp := fun vs H Q _ => ∃ (x dx f L cd : Addr) (cl : List (Str × Addr)) (xs : List V) (d : Int), vs = [.ref x, .int d] ∧ H x = some (.ins C dx [("test", .ref f)]) ∧ DefIs H f "_law_test" (defArgs lam_law_days_alone) (defBody lam_law_days_alone) (defScope lam_law_days_alone) q_law_days_alone ["_law_seen"] [.ref L] cl cd ∧ H L = some (.lst xs) ∧ xs.length ≤ 1000 ∧
  (isD d = false → Q (.bl false) H) ∧ (isD d = true → ∀ H', SameX L H H' → H' L = some (.lst (xs ++ [.int d])) → Q (.bl (decide (d % 5 = 3))) H')
def N5 (b e : Int) : Option Int → Prop
  | some d => 0 ≤ d ∧ b ≤ d ∧ d < e ∧ d < 146097 ∧ d % 5 = 3 ∧ ∀ k, 0 ≤ k → b ≤ k → k < d → k % 5 ≠ 3
  | none => ∀ k, 0 ≤ k → b ≤ k → k < e → k < 146097 → k % 5 ≠ 3
def sp_Where_next_inB (C : Addr) : Sp := fun vs H Q _ => ∃ (x dx f L cd : Addr) (cl : List (Str × Addr)) (xs : List V) (b e : Int), vs = [.ref x, .int b, .int e] ∧ H x = some (.ins C dx [("test", .ref f)]) ∧ DefIs H f "_law_test" (defArgs lam_law_days_alone) (defBody lam_law_days_alone) (defScope lam_law_days_alone) q_law_days_alone ["_law_seen"] [.ref L] cl cd ∧ H L = some (.lst xs) ∧ xs.length ≤ 100 ∧ Wi b e ∧ (∀ k, 0 ≤ k → b ≤ k → k + 50 < e → 146047 ≤ k) ∧
  ∀ o H' (ds : List Int), SameX L H H' → H' L = some (.lst (xs ++ ds.map V.int)) → (∀ d ∈ ds, 0 ≤ d ∧ d < 146097) → ds.length ≤ 100 → N5 b e o → Q (oV o) H'
theorem DefIs.upX {H H' : Hp} {f L cd : Addr} {name : Str} {ps : Arguments} {b : List Stmt} {sc : Scope} {q : Str} {fr : List Str} {zs : List V} {cl : List (Str × Addr)} {xs : List V} (h : DefIs H f name ps b sc q fr zs cl cd) (hL : H L = some (.lst xs)) (s : SameX L H H') : DefIs H' f name ps b sc q fr zs cl cd := by
  have st : ∀ {b : Addr} {φ : Heap → Prop}, H b = some (.ext φ) → H' b = some (.ext φ) := fun e => s _ _ (fun z => by rw [z, hL] at e; cases e) e
  exact ⟨st h.at_, st h.code, h.nd, h.len, fun i x z h1 h2 => let ⟨c, φ, a1, a2, a3⟩ := h.has i x z h1 h2; ⟨c, φ, a1, st a2, a3⟩, fun p hp => let ⟨φ, z, a1, a2⟩ := h.all p hp; ⟨φ, z, st a1, a2⟩, h.nm⟩
theorem DefIs.lstOut {H : Hp} {f L cd : Addr} {name : Str} {ps : Arguments} {b : List Stmt} {sc : Scope} {q : Str} {fr : List Str} {zs : List V} {cl : List (Str × Addr)} {xs : List V} (h : DefIs H f name ps b sc q fr zs cl cd) (hL : H L = some (.lst xs)) : L ∉ cl.map (·.2) := fun w => by
  obtain ⟨p, hp, e⟩ := List.mem_map.mp w
  obtain ⟨φ, z, hz, _⟩ := h.all p hp
  rw [e, hL] at hz
  cases hz
structure DA (c : Addr) (H : Hp) (C x dx f cd L : Addr) (xs : List V) : Prop where
  x : H x = some (.ins C dx [("test", .ref f)])
  f : H f = some (defO f "_law_test" q_law_days_alone (defArgs lam_law_days_alone) (defBody lam_law_days_alone) (defScope lam_law_days_alone) [("_law_seen", c)] cd)
  cd : H cd = some (codeO cd q_law_days_alone)
  L : H L = some (.lst xs)
theorem DA.lend {c : Addr} {H : Hp} {C x dx f cd L : Addr} {xs : List V} {φ : Heap → Prop} (h : DA c H C x dx f cd L xs) (n : H c = none) (hφ : ∀ h, φ h → CellIs h c (.ref L)) :
    (upd H c (.ext φ)) x = some (.ins C dx [("test", .ref f)]) ∧ DefIs (upd H c (.ext φ)) f "_law_test" (defArgs lam_law_days_alone) (defBody lam_law_days_alone) (defScope lam_law_days_alone) q_law_days_alone ["_law_seen"] [.ref L] [("_law_seen", c)] cd ∧ (upd H c (.ext φ)) L = some (.lst xs) := by
  have up : ∀ {b : Addr} {u : HO}, H b = some u → (upd H c (.ext φ)) b = some u := fun e => by rw [upd_ne (ne_of_none e n)]; exact e
  refine ⟨up h.x, ⟨up h.f, up h.cd, (by simp), rfl, fun i y z h1 h2 => ?_, fun p hp => ?_, fun p hp => ?_⟩, up h.L⟩
  · match i, h1, h2 with
    | 0, h1, h2 =>
      cases h1
      cases h2
      exact ⟨c, φ, List.lookup_cons_self .., upd_same, hφ⟩
    | i + 1, h1, h2 => exact absurd h1 (by simp)
  · rw [List.mem_singleton] at hp
    subst hp
    exact ⟨φ, .ref L, upd_same, hφ⟩
  · rw [List.mem_singleton] at hp
    subst hp
    exact List.lookup_cons_self ..
theorem DA.back {c : Addr} {H H3 : Hp} {C x dx f cd L : Addr} {xs ys : List V} {φ : Heap → Prop} (h : DA c H C x dx f cd L xs) (n : H c = none) (s : SameX L (upd H c (.ext φ)) H3) (hL : H3 L = some (.lst ys)) : H3 c = some (.ext φ) ∧ DA c (unl c H3) C x dx f cd L ys := by
  have nL : c ≠ L := fun z => by have := h.L; rw [← z, n] at this; cases this
  have up : ∀ {b : Addr} {u : HO}, H b = some u → b ≠ L → (unl c H3) b = some u := fun {b u} e hb => by
    have hc := ne_of_none e n
    rw [unl_ne hc]
    exact s _ _ hb (by rw [upd_ne hc]; exact e)
  have ne : ∀ {b : Addr} {u : HO}, H b = some u → (∀ zs, u ≠ .lst zs) → b ≠ L := fun e hu z => by
    rw [z, h.L] at e
    cases e
    exact hu _ rfl
  refine ⟨s _ _ nL upd_same, up h.x (ne h.x fun _ z => nomatch z), up h.f (ne h.f fun _ z => by unfold defO at z; cases z), up h.cd (ne h.cd fun _ z => by unfold codeO at z; cases z), ?_⟩
  rw [unl_ne (Ne.symm nL)]
  exact hL
theorem DA.up {c : Addr} {H H' : Hp} {C x dx f cd L : Addr} {xs : List V} (h : DA c H C x dx f cd L xs) (s : Same H H') : DA c H' C x dx f cd L xs := ⟨s _ _ h.x, s _ _ h.f, s _ _ h.cd, s _ _ h.L⟩
abbrev FAR : List Int := [-1, 146097, -7, 10 ^ (9 : Int).toNat]
theorem far_out : ∀ n ∈ FAR, isD n = false := by decide +kernel
end K12
namespace K12
open PySem L2
open DF (Rl fl dayDate dayNth isD byM Ok Fi)
section
variable {P : Program} {w : World} {K : PySem.W.Frag} {mg : Str → Option Value} {base : Heap} {a : Adr}
theorem sc_is_day : FnScope ["number"] ["number"] (defScope s_is_day) := ⟨rfl, rfl, rfl, by decide +kernel, rfl, by decide +kernel, by decide +kernel⟩
theorem ok_is_day (T : TxtL K mg base a) : FnOk P w K mg base CX0 true 1 a.f_is_day a.d_is_day ["number"] (sp_is_day) := by
  refine T.F_is_day.ok sc_is_day (fun vs H Q E h => ?_) (fun cdv A outer s H vs Q E hr h => ?_)
  · obtain ⟨d, rfl, _⟩ := h; rfl
  · obtain ⟨d, rfl, k⟩ := h
    refine ⟨_, (pss_one (ps_ret (pe_chain op_le op_lt pe_int (pv 0) (pe_globI rfl T.g_DAYS)))), ?_⟩
    replace k : Q (.bl (decide (0 ≤ d ∧ d < 146097))) H := k
    refine ⟨_, rfl, _, _, rfl, rfl, _, rfl, ?_⟩
    refine ite2 (fun e => ?_) (fun e => ?_)
    · have e' : 0 ≤ d := of_decide_eq_true e
      rw [show decide (0 ≤ d ∧ d < 146097) = decide (d < 146097) from decide_eq_decide.mpr ⟨fun z => z.2, fun z => ⟨e', z⟩⟩] at k
      exact ⟨_, _, rfl, rfl, k⟩
    · rw [decide_eq_false (fun z => e (decide_eq_true z.1))] at k
      exact k
end
end K12
namespace K12
open PySem L2
open DF (Rl fl dayDate dayNth isD byM Ok Fi)
section
variable {P : Program} {w : World} {K : PySem.W.Frag} {mg : Str → Option Value} {base : Heap} {a : Adr}
theorem sc_is_leap : FnScope ["year"] ["year"] (defScope s_is_leap) := ⟨rfl, rfl, rfl, by decide +kernel, rfl, by decide +kernel, by decide +kernel⟩
theorem ok_is_leap (T : TxtL K mg base a) : FnOk P w K mg base CX0 true 1 a.f_is_leap a.d_is_leap ["year"] (sp_is_leap) := by
  refine T.F_is_leap.ok sc_is_leap (fun vs H Q E h => ?_) (fun cdv A outer s H vs Q E hr h => ?_)
  · obtain ⟨y, rfl, _⟩ := h; rfl
  · obtain ⟨y, rfl, k⟩ := h
    refine ⟨_, (pss_one (ps_ret (pe_or (pe_cmpR op_eq (pe_op op_mod (pv 0) pe_int) pe_int (nomark _)) (pe_one (pe_and (pe_cmpR op_eq (pe_op op_mod (pv 0) pe_int) pe_int (nomark _)) (pe_one (pe_cmpR op_ne (pe_op op_mod (pv 0) pe_int) pe_int (nomark _)))))))), ?_⟩
    refine ⟨_, rfl, _, _, rfl, rfl, (by show (0 : Int) < 400; decide), rfl, _, rfl, ?_⟩
    refine ite2 (fun h1 => ?_) (fun h1 => ?_)
    · rw [vint] at h1
      have e : DM.leap y = true := by rw [DM.leap_iff]; exact .inl (of_decide_eq_true h1)
      rw [e] at k
      exact k
    · rw [vint] at h1
      refine ⟨_, rfl, _, _, rfl, rfl, (by show (0 : Int) < 4; decide), rfl, _, rfl, ?_⟩
      refine ite2 (fun h2 => ?_) (fun h2 => ?_)
      · rw [vint] at h2
        refine ⟨_, rfl, _, _, rfl, rfl, (by show (0 : Int) < 100; decide), rfl, ?_⟩
        have e : DM.leap y = !decide (V.int (y % 100) = V.int 0) := by
          unfold DM.leap
          rw [vint, h2]
          simp at h1
          simp [h1]
        rw [e] at k
        exact k
      · rw [vint] at h2
        have e : DM.leap y = false := by
          unfold DM.leap
          simp at h1 h2
          simp [h1, h2]
        rw [e] at k
        exact k
end
end K12
namespace K12
open PySem L2
open DF (Rl fl dayDate dayNth isD byM Ok Fi)
section
variable {P : Program} {w : World} {K : PySem.W.Frag} {mg : Str → Option Value} {base : Heap} {a : Adr}
theorem sc_year_begin : FnScope ["year", "past", "leaps"] ["year"] (defScope s_year_begin) := ⟨rfl, rfl, rfl, by decide +kernel, rfl, by decide +kernel, by decide +kernel⟩
theorem ok_year_begin (T : TxtL K mg base a) : FnOk P w K mg base CX0 true 1 a.f_year_begin a.d_year_begin ["year"] (sp_year_begin) := by
  refine T.F_year_begin.ok sc_year_begin (fun vs H Q E h => ?_) (fun cdv A outer s H vs Q E hr h => ?_)
  · obtain ⟨y, rfl, _⟩ := h; rfl
  · obtain ⟨y, rfl, k⟩ := h
    refine ⟨_, (pss_cons (ps_set (i := 1) sc_year_begin.nd rfl (Or.inl rfl) (pe_op op_sub (pv 0) (pe_globI rfl T.g_FIRST_YEAR)))
      (pss_cons (ps_set (i := 2) sc_year_begin.nd rfl (Or.inl rfl) (pe_op op_add (pe_op op_sub (pe_op op_fdiv (pe_op op_add (pv 1) pe_int) pe_int) (pe_op op_fdiv (pe_op op_add (pv 1) pe_int) pe_int)) (pe_op op_fdiv (pe_op op_add (pv 1) pe_int) pe_int)))
      (pss_one (ps_ret (pe_op op_add (pe_op op_mul (pv 1) pe_int) (pv 2)))))), ?_⟩
    refine ⟨_, rfl, _, _, rfl, rfl, ?_⟩
    refine ⟨_, rfl, _, _, rfl, rfl, _, _, rfl, rfl, ⟨by decide, by decide⟩, _, rfl, _, _, rfl, rfl, _, _, rfl, rfl, ⟨by decide, by decide⟩, _, _, rfl, rfl, _, rfl, _, _, rfl, rfl, _, _, rfl, rfl, ⟨by decide, by decide⟩, _, _, rfl, rfl, ?_⟩
    refine ⟨_, rfl, _, _, rfl, rfl, .inr ⟨by decide, by decide⟩, _, rfl, _, _, rfl, rfl, ?_⟩
    have e : DM.year y = (y - 2000) * 365 + ((y - 2000 + 3) / 4 - (y - 2000 + 99) / 100 + (y - 2000 + 399) / 400) := by unfold DM.year; omega
    rw [e] at k
    exact k
end
end K12
namespace K12
open PySem L2
open DF (Rl fl dayDate dayNth isD byM Ok Fi)
section
variable {P : Program} {w : World} {K : PySem.W.Frag} {mg : Str → Option Value} {base : Heap} {a : Adr}
theorem sc_weekday : FnScope ["day"] ["day"] (defScope s_weekday) := ⟨rfl, rfl, rfl, by decide +kernel, rfl, by decide +kernel, by decide +kernel⟩
theorem ok_weekday (T : TxtL K mg base a) : FnOk P w K mg base CX0 true 1 a.f_weekday a.d_weekday ["day"] (sp_weekday) := by
  refine T.F_weekday.ok sc_weekday (fun vs H Q E h => ?_) (fun cdv A outer s H vs Q E hr h => ?_)
  · obtain ⟨d, rfl, _⟩ := h; rfl
  · obtain ⟨d, rfl, k⟩ := h
    refine ⟨_, (pss_one (ps_ret (pe_op op_mod (pe_op op_add (pv 0) (pe_globI rfl T.g_FIRST_WEEKDAY)) pe_int))), ?_⟩
    exact ⟨_, rfl, _, _, rfl, rfl, _, _, rfl, rfl, (by show (0 : Int) < 7; decide), k⟩
end
end K12
namespace K12
open PySem L2
open DF (Rl fl dayDate dayNth isD byM Ok Fi)
section
variable {P : Program} {w : World} {K : PySem.W.Frag} {mg : Str → Option Value} {base : Heap} {a : Adr}
theorem sc_check_bounds : FnScope ["number", "least", "most"] ["number", "least", "most"] (defScope s_check_bounds) := ⟨rfl, rfl, rfl, by decide +kernel, rfl, by decide +kernel, by decide +kernel⟩
theorem ok_check_bounds (T : TxtL K mg base a) : FnOk P w K mg base CX0 true 1 a.f_check_bounds a.d_check_bounds ["number", "least", "most"] (sp_check_bounds) := by
  refine T.F_check_bounds.ok sc_check_bounds (fun vs H Q E h => ?_) (fun cdv A outer s H vs Q E hr h => ?_)
  · obtain ⟨n, l, m, rfl, _⟩ := h; rfl
  · obtain ⟨n, l, m, rfl, h0, h1, k⟩ := h
    refine ⟨_, (pss_one (ps_if (PW.pt (pw_or (pt_cmpR op_lt (pv 0) (pv 1) (nomark _)) (pw_or1 (pt_cmpR op_gt (pv 0) (pv 2) (nomark _))))) (pss_one ps_never) pss_nil)), ?_⟩
    refine ⟨_, rfl, _, rfl, _, _, rfl, rfl, _, rfl, ?_⟩
    refine ite2 (fun z => absurd (of_decide_eq_true z) (by omega)) (fun _ => ?_)
    refine ⟨_, rfl, _, rfl, _, _, rfl, rfl, _, rfl, ?_⟩
    exact ite2 (fun z => absurd (of_decide_eq_true z) (by omega)) (fun _ => k)
end
end K12
namespace K12
open PySem L2
open DF (Rl fl dayDate dayNth isD byM Ok Fi)
section
variable {P : Program} {w : World} {K : PySem.W.Frag} {mg : Str → Option Value} {base : Heap} {a : Adr}
theorem sc_count_below : FnScope ["days", "number", "low", "high", "middle"] ["days", "number"] (defScope s_count_below) := ⟨rfl, rfl, rfl, by decide +kernel, rfl, by decide +kernel, by decide +kernel⟩
theorem ok_count_below (T : TxtL K mg base a) : FnOk P w K mg base CX0 true 1 a.f_count_below a.d_count_below ["days", "number"] (sp_count_below K) := by
  refine T.F_count_below.ok sc_count_below (fun vs H Q E h => ?_) (fun cdv A outer s H vs Q E hr h => ?_)
  · obtain ⟨p, ns, x, rfl, _⟩ := h; rfl
  · obtain ⟨p, ns, x, rfl, hS, hr1, hz, k⟩ := h
    refine ⟨_, (pss_cons (ps_set (i := 2) sc_count_below.nd rfl (Or.inl rfl) pe_int)
      (pss_cons (ps_set (i := 3) sc_count_below.nd rfl (Or.inl rfl) (pe_callB (call_len_seqK (K := K) rfl) rfl T.n_len (by decide +kernel) (pa_cons (pv 0) pa_nil)))
      (pss_cons (ps_while PassesOwn.never (pt_cmpR op_lt (pv 2) (pv 3) (nomark _)) (pss_cons (ps_set (i := 4) sc_count_below.nd rfl (Or.inl rfl) (pe_op op_fdiv (pe_op op_add (pv 2) (pv 3)) pe_int))
      (pss_one (ps_if (pt_cmpR op_lt (pe_ix (ix_tupK (K := K) rfl) (pv 0) (pv 4) (fun _ _ => rfl)) (pv 1) (nomark _)) (pss_one (ps_set (i := 2) sc_count_below.nd rfl (Or.inl rfl) (pe_op op_add (pv 4) pe_int))) (pss_one (ps_set (i := 3) sc_count_below.nd rfl (Or.inl rfl) (pv 4)))))))
      (pss_one (ps_ret (pv 2)))))), ?_⟩
    refine ⟨_, rfl, p, _, rfl, .inr hS, ?_⟩
    rw [List.length_map]
    refine ⟨fun m σ H' => H' = H ∧ ∃ (lo hi : Nat) (y : Option V), m = hi - lo ∧ lo ≤ hi ∧ hi ≤ ns.length ∧ (∀ (i : Nat) a, i < lo → ns[i]? = some a → a < x) ∧ (∀ (i : Nat) a, hi ≤ i → ns[i]? = some a → ¬ a < x) ∧ σ = [some (.ref p), some (.int x), some (.int (lo : Int)), some (.int (hi : Int)), y],
      ⟨_, rfl, 0, ns.length, none, rfl, Nat.zero_le _, Nat.le_refl _, fun i _ h => absurd h (Nat.not_lt_zero _), fun i a h e => by obtain ⟨z, _⟩ := List.getElem?_eq_some_iff.mp e; omega, rfl⟩, ?_⟩
    rintro m σ H1 ⟨rfl, lo, hi, y, rfl, h1, h2, h3, h4, rfl⟩
    refine ⟨_, rfl, _, rfl, _, _, rfl, rfl, _, rfl, ?_⟩
    refine ite2 (fun e => ?_) (fun e => ?_)
    · have e' : lo < hi := by have := of_decide_eq_true e; omega
      obtain ⟨a, ha⟩ := int_get (ns := ns) (i := (lo + hi) / 2) (by omega)
      refine ⟨fun σ' H' => H' = H1 ∧ ∃ (lo' hi' : Nat) (y : Option V), hi' - lo' < hi - lo ∧ lo' ≤ hi' ∧ hi' ≤ ns.length ∧ (∀ (i : Nat) a, i < lo' → ns[i]? = some a → a < x) ∧ (∀ (i : Nat) a, hi' ≤ i → ns[i]? = some a → ¬ a < x) ∧ σ' = [some (.ref p), some (.int x), some (.int (lo' : Int)), some (.int (hi' : Int)), y], ?_, ?_⟩
      · rintro σ' H' ⟨rfl, lo', hi', y, l1, l2, l3, l4, l5, rfl⟩
        exact ⟨hi' - lo', l1, rfl, lo', hi', y, rfl, l2, l3, l4, l5, rfl⟩
      refine ⟨_, rfl, _, rfl, _, _, rfl, rfl, _, _, rfl, rfl, ⟨by decide, by decide⟩, ?_⟩
      have A1 : atI (ns.map V.int) (((lo : Int) + (hi : Int)) / 2) = some (.int a) := by rw [half]; exact atI_nat (ints_at ha)
      have E1 : ((lo : Int) + (hi : Int)) / 2 = (((lo + hi) / 2 : Nat) : Int) := half
      have E2 : ((lo : Int) + (hi : Int)) / 2 + 1 = (((lo + hi) / 2 + 1 : Nat) : Int) := by omega
      refine ⟨_, rfl, _, rfl, p, _, _, _, rfl, rfl, hS, A1, _, rfl, _, _, rfl, rfl, _, rfl, ?_⟩
      refine ite2 (fun z => ?_) (fun z => ?_)
      · have z' := of_decide_eq_true z
        refine ⟨_, rfl, _, _, rfl, rfl, rfl, (lo + hi) / 2 + 1, hi, some (.int (((lo : Int) + (hi : Int)) / 2)), by omega, by omega, h2, fun i b hi' hb => ?_, h4, congrArg (fun (z : Int) => ([some (.ref p), some (.int x), some (.int z), some (.int (hi : Int)), some (.int (((lo : Int) + (hi : Int)) / 2))] : St)) E2⟩
        have := DC.rise_le hr1 hb ha (by omega)
        omega
      · have z' : ¬ a < x := fun w => z (decide_eq_true w)
        refine ⟨_, rfl, rfl, lo, (lo + hi) / 2, some (.int (((lo : Int) + (hi : Int)) / 2)), by omega, by omega, by omega, h3, fun i b hi' hb => ?_, congrArg (fun (z : Int) => ([some (.ref p), some (.int x), some (.int (lo : Int)), some (.int z), some (.int (((lo : Int) + (hi : Int)) / 2))] : St)) E1⟩
        have := DC.rise_le hr1 ha hb hi'
        omega
    · have e' : lo = hi := by
        have : ¬ (lo : Int) < (hi : Int) := fun w => e (decide_eq_true w)
        omega
      subst e'
      rw [DC.below_at h2 h3 h4] at k
      exact ⟨_, rfl, k⟩
end
end K12
namespace K12
open PySem L2
open DF (Rl fl dayDate dayNth isD byM Ok Fi)
section
variable {P : Program} {w : World} {K : PySem.W.Frag} {mg : Str → Option Value} {base : Heap} {a : Adr}
theorem sc_Rule_next_in : FnScope ["self", "day", "end"] ["self", "day", "end"] (defScope s_Rule_next_in) := ⟨rfl, rfl, rfl, by decide +kernel, rfl, by decide +kernel, by decide +kernel⟩
theorem ok_Rule_next_in (T : TxtL K mg base a) : FnOk P w K mg base CX0 true 1 a.f_Rule_next_in a.d_Rule_next_in ["self", "day", "end"] (sp_Rule_next_in) := by
  refine T.F_Rule_next_in.ok sc_Rule_next_in (fun vs H Q E h => ?_) (fun cdv A outer s H vs Q E hr h => ?_)
  · obtain ⟨x, b, e, rfl, _⟩ := h; rfl
  · obtain ⟨x, b, e, rfl, k⟩ := h
    refine ⟨_, (pss_one (ps_ret pe_non)), ?_⟩
    exact k
end
end K12
namespace K12
open PySem L2
open DF (Rl fl dayDate dayNth isD byM Ok Fi)
section
variable {P : Program} {w : World} {K : PySem.W.Frag} {mg : Str → Option Value} {base : Heap} {a : Adr}
theorem sc_Every_next_in : FnScope ["self", "day", "end", "begin", "found"] ["self", "day", "end"] (defScope s_Every_next_in) := ⟨rfl, rfl, rfl, by decide +kernel, rfl, by decide +kernel, by decide +kernel⟩
theorem ok_Every_next_in (T : TxtL K mg base a) : FnOk P w K mg base CX0 true 1 a.f_Every_next_in a.d_Every_next_in ["self", "day", "end"] (sp_Every_next_in (ad a)) := by
  refine T.F_Every_next_in.ok sc_Every_next_in (fun vs H Q E h => ?_) (fun cdv A outer s H vs Q E hr h => ?_)
  · obtain ⟨x, b, e, st, fi, rfl, _⟩ := h; rfl
  · obtain ⟨x, b, e, st, fi, rfl, ⟨dx, hx⟩, ok, k1, k2⟩ := h
    refine ⟨_, (pss_cons (ps_set (i := 3) sc_Every_next_in.nd rfl (Or.inl rfl) (pe_callB (call_max2 rfl) rfl T.n_max (by decide +kernel) (pa_cons (pv 1) (pa_cons (pe_fldK (K := K) rfl (pv 0)) pa_nil))))
      (pss_cons (ps_set (i := 4) sc_Every_next_in.nd rfl (Or.inl rfl) (pe_op op_add (pv 3) (pe_op op_mod (pe_op op_sub (pe_fldK (K := K) rfl (pv 0)) (pv 3)) (pe_fldK (K := K) rfl (pv 0)))))
      (pss_one (ps_ret (pe_ifExp (pt_cmpR op_lt (pv 4) (pe_callB (call_min2 rfl) rfl T.n_min (by decide +kernel) (pa_cons (pv 2) (pa_cons (pe_globI rfl T.g_DAYS) pa_nil))) (nomark _)) (pv 4) pe_non))))), ?_⟩
    have ok1 := ok
    obtain ⟨s1, s2, f0, f1⟩ := ok
    obtain ⟨n1, n2⟩ := DN.ev_next (b := b) (e := e) ok1 rfl
    refine ⟨_, rfl, _, rfl, x, _, dx, _, _, rfl, hx, T.cl_Every, T.n_Every_first, fl_Every_first _ _, _, _, rfl, ?_⟩
    refine ⟨_, rfl, _, rfl, x, _, dx, _, _, rfl, hx, T.cl_Every, T.n_Every_first, fl_Every_first _ _, _, rfl, _, _, rfl, rfl, _, rfl, x, _, dx, _, _, rfl, hx, T.cl_Every, T.n_Every_step, fl_Every_step _ _, _, _, rfl, rfl, (by show (0 : Int) < st; omega), _, _, rfl, rfl, ?_⟩
    refine ⟨_, rfl, _, rfl, _, _, rfl, _, _, rfl, rfl, _, rfl, ite2 (fun z => ⟨_, rfl, ?_⟩) (fun z => ?_)⟩
    · obtain ⟨a1, a2, a3, a4⟩ := n1 (of_decide_eq_true z)
      exact k1 _ a1 a2 a3 a4
    · exact k2 (n2 fun w => z (decide_eq_true w))
end
end K12
namespace K12
open PySem L2
open DF (Rl fl dayDate dayNth isD byM Ok Fi)
section
variable {P : Program} {w : World} {K : PySem.W.Frag} {mg : Str → Option Value} {base : Heap} {a : Adr}
theorem sc_ByMonth___init : FnScope ["self", "origin", "stride", "first"] ["self", "origin", "stride", "first"] (defScope s_ByMonth___init) := ⟨rfl, rfl, rfl, by decide +kernel, rfl, by decide +kernel, by decide +kernel⟩
theorem ok_ByMonth___init (T : TxtL K mg base a) : FnOk P w K mg base CX0 true 1 a.f_ByMonth___init a.d_ByMonth___init ["self", "origin", "stride", "first"] (sp_ByMonth_init K) := by
  refine T.F_ByMonth___init.ok sc_ByMonth___init (fun vs H Q E h => ?_) (fun cdv A outer s H vs Q E hr h => ?_)
  · obtain ⟨x, c, dx, o, s, f, rfl, _⟩ := h; rfl
  · obtain ⟨x, c, dx, o, st, f, rfl, ⟨c1, c2, c3, c4⟩, hx, k⟩ := h
    refine ⟨_, (pss_cons (ps_fldK (K := K) rfl (pv 0) (pv 1))
      (pss_cons (ps_fldK (K := K) rfl (pv 0) (pv 2))
      (pss_one (ps_fldK (K := K) rfl (pv 0) (pv 3))))), ?_⟩
    refine ⟨_, rfl, _, rfl, x, _, dx, _, rfl, hx, c1, c2, (by show 0 < 1000; decide), ?_⟩
    rw [pf_Monthly_origin]
    refine ⟨_, rfl, _, rfl, x, _, dx, _, rfl, upd_same, c1, c3, (by show 1 < 1000; decide), ?_⟩
    rw [pf_Monthly_stride]
    refine ⟨_, rfl, _, rfl, x, _, dx, _, rfl, upd_same, c1, c4, (by show 2 < 1000; decide), ?_⟩
    rw [pf_Monthly_first]
    exact k _ (fun c u hc e => by rw [upd_ne hc, upd_ne hc, upd_ne hc]; exact e) upd_same
end
end K12
namespace K12
open PySem L2
open DF (Rl fl dayDate dayNth isD byM Ok Fi)
section
variable {P : Program} {w : World} {K : PySem.W.Frag} {mg : Str → Option Value} {base : Heap} {a : Adr}
theorem sc_Where___init : FnScope ["self", "test"] ["self", "test"] (defScope s_Where___init) := ⟨rfl, rfl, rfl, by decide +kernel, rfl, by decide +kernel, by decide +kernel⟩
theorem ok_Where___init (T : TxtL K mg base a) : FnOk P w K mg base CX0 true 1 a.f_Where___init a.d_Where___init ["self", "test"] (sp_Where_init a.x_Where) := by
  refine T.F_Where___init.ok sc_Where___init (fun vs H Q E h => ?_) (fun cdv A outer s H vs Q E hr h => ?_)
  · obtain ⟨x, dx, f, rfl, _⟩ := h; rfl
  · obtain ⟨x, dx, f, rfl, hx, k⟩ := h
    refine ⟨_, (pss_one (ps_fldK (K := K) rfl (pv 0) (pv 1))), ?_⟩
    refine ⟨_, rfl, _, rfl, x, _, dx, _, rfl, hx, T.cl_Where, T.n_Where_test, (by show 0 < 1000; decide), ?_⟩
    rw [pf_Where_test]
    exact k _ (fun c u hc e => by rw [upd_ne hc]; exact e) upd_same
end
end K12
namespace K12
open PySem L2
open DF (Rl fl dayDate dayNth isD byM Ok Fi)
section
variable {P : Program} {w : World} {K : PySem.W.Frag} {mg : Str → Option Value} {base : Heap} {a : Adr}
theorem sc_law_cell_at : FnScope ["_law_script", "_law_k"] ["_law_script", "_law_k"] (defScope s_law_cell_at) := ⟨rfl, rfl, rfl, by decide +kernel, rfl, by decide +kernel, by decide +kernel⟩
theorem ok_law_cell_at (T : TxtL K mg base a) : FnOk P w K mg base CX0 true 1 a.f_law_cell_at a.d_law_cell_at ["_law_script", "_law_k"] (sp_law_cell_at K) := by
  refine T.F_law_cell_at.ok sc_law_cell_at (fun vs H Q E h => ?_) (fun cdv A outer s H vs Q E hr h => ?_)
  · obtain ⟨p, ns, i, rfl, _⟩ := h; rfl
  · obtain ⟨p, ns, i, rfl, hS, h0, k⟩ := h
    refine ⟨_, (pss_cons (ps_if (pt_cmpR op_lt (pv 1) (pe_callB (call_len_seqK (K := K) rfl) rfl T.n_len (by decide +kernel) (pa_cons (pv 0) pa_nil)) (nomark _)) (pss_one (ps_ret (pe_ix (ix_listK (K := K) rfl) (pv 0) (pv 1) (fun _ _ => rfl)))) pss_nil)
      (pss_one (ps_ret pe_int))), ?_⟩
    refine ⟨_, rfl, _, rfl, p, _, rfl, .inl hS, _, _, rfl, rfl, _, rfl, ?_⟩
    refine ite2 (fun e1 => ?_) (fun e1 => k 0)
    have e1' := of_decide_eq_true e1
    rw [List.length_map] at e1'
    obtain ⟨t, _, et⟩ := atI_ints h0 e1'
    exact ⟨_, rfl, _, rfl, p, _, _, _, rfl, rfl, hS, et, k t⟩
end
end K12
namespace K12
open PySem L2
open DF (Rl fl dayDate dayNth isD byM Ok Fi)
section
variable {P : Program} {w : World} {K : PySem.W.Frag} {mg : Str → Option Value} {base : Heap} {a : Adr}
theorem sc_law_next : FnScope ["_law_pick", "_law_more"] ["_law_pick"] (defScope s_law_next) := ⟨rfl, rfl, rfl, by decide +kernel, rfl, by decide +kernel, by decide +kernel⟩
theorem ok_law_next (T : TxtL K mg base a) : FnOk P w K mg base CX0 true 1 a.f_law_next a.d_law_next ["_law_pick"] (sp_law_next) := by
  refine T.F_law_next.ok sc_law_next (fun vs H Q E h => ?_) (fun cdv A outer s H vs Q E hr h => ?_)
  · obtain ⟨p, rfl, _⟩ := h; rfl
  · obtain ⟨p, rfl, k⟩ := h
    refine ⟨_, (pss_cons (ps_set (i := 1) sc_law_next.nd rfl (Or.inl rfl) (pe_op op_mod (pe_op op_add (pe_op op_mul (pv 0) pe_int) pe_int) pe_int))
      (pss_one (ps_ret (pe_op op_mod (pe_op op_mul (pv 1) (pv 1)) pe_int)))), ?_⟩
    refine ⟨_, rfl, _, _, rfl, rfl, .inr ⟨by decide, by decide⟩, _, _, rfl, rfl, _, _, rfl, rfl, (by show (0 : Int) < 2147483647; decide), ?_⟩
    have b0 : 0 ≤ (p * 48271 + 11) % 2147483647 := Int.emod_nonneg _ (by decide)
    have b1 : (p * 48271 + 11) % 2147483647 < 2147483647 := Int.emod_lt_of_pos _ (by decide)
    refine ⟨_, rfl, _, rfl, _, _, rfl, rfl, .inl ⟨by omega, by omega⟩, _, _, rfl, rfl, (by show (0 : Int) < 2147483629; decide), ?_⟩
    exact k _ (Int.emod_nonneg _ (by decide))
end
end K12
namespace K12
open PySem L2
open DF (Rl fl dayDate dayNth isD byM Ok Fi)
section
variable {P : Program} {w : World} {K : PySem.W.Frag} {mg : Str → Option Value} {base : Heap} {a : Adr}
theorem sc_law_leap : FnScope ["_law_year_here"] ["_law_year_here"] (defScope s_law_leap) := ⟨rfl, rfl, rfl, by decide +kernel, rfl, by decide +kernel, by decide +kernel⟩
theorem ok_law_leap (T : TxtL K mg base a) : FnOk P w K mg base CX0 true 1 a.f_law_leap a.d_law_leap ["_law_year_here"] (sp_is_leap) := by
  refine T.F_law_leap.ok sc_law_leap (fun vs H Q E h => ?_) (fun cdv A outer s H vs Q E hr h => ?_)
  · obtain ⟨y, rfl, _⟩ := h; rfl
  · obtain ⟨y, rfl, k⟩ := h
    refine ⟨_, (pss_one (ps_ret (pe_or (pe_cmpR op_eq (pe_op op_mod (pv 0) pe_int) pe_int (nomark _)) (pe_one (pe_and (pe_cmpR op_eq (pe_op op_mod (pv 0) pe_int) pe_int (nomark _)) (pe_one (pe_cmpR op_ne (pe_op op_mod (pv 0) pe_int) pe_int (nomark _)))))))), ?_⟩
    refine ⟨_, rfl, _, _, rfl, rfl, (by show (0 : Int) < 400; decide), rfl, _, rfl, ?_⟩
    refine ite2 (fun h1 => ?_) (fun h1 => ?_)
    · rw [vint] at h1
      have e : DM.leap y = true := by rw [DM.leap_iff]; exact .inl (of_decide_eq_true h1)
      rw [e] at k
      exact k
    · rw [vint] at h1
      refine ⟨_, rfl, _, _, rfl, rfl, (by show (0 : Int) < 4; decide), rfl, _, rfl, ?_⟩
      refine ite2 (fun h2 => ?_) (fun h2 => ?_)
      · rw [vint] at h2
        refine ⟨_, rfl, _, _, rfl, rfl, (by show (0 : Int) < 100; decide), rfl, ?_⟩
        have e : DM.leap y = !decide (V.int (y % 100) = V.int 0) := by
          unfold DM.leap
          rw [vint, h2]
          simp at h1
          simp [h1]
        rw [e] at k
        exact k
      · rw [vint] at h2
        have e : DM.leap y = false := by
          unfold DM.leap
          simp at h1 h2
          simp [h1, h2]
        rw [e] at k
        exact k
end
end K12
namespace K12
open PySem L2
open DF (Rl fl dayDate dayNth isD byM Ok Fi)
section
variable {P : Program} {w : World} {K : PySem.W.Frag} {mg : Str → Option Value} {base : Heap} {a : Adr}
theorem sc_law_year : FnScope ["_law_year_here", "_law_many"] ["_law_year_here"] (defScope s_law_year) := ⟨rfl, rfl, rfl, by decide +kernel, rfl, by decide +kernel, by decide +kernel⟩
theorem ok_law_year (T : TxtL K mg base a) : FnOk P w K mg base CX0 true 1 a.f_law_year a.d_law_year ["_law_year_here"] (sp_year_begin) := by
  refine T.F_law_year.ok sc_law_year (fun vs H Q E h => ?_) (fun cdv A outer s H vs Q E hr h => ?_)
  · obtain ⟨y, rfl, _⟩ := h; rfl
  · obtain ⟨y, rfl, k⟩ := h
    refine ⟨_, (pss_cons (ps_set (i := 1) sc_law_year.nd rfl (Or.inl rfl) (pe_op op_sub (pv 0) pe_int))
      (pss_one (ps_ret (pe_op op_add (pe_op op_sub (pe_op op_add (pe_op op_mul (pv 1) pe_int) (pe_op op_fdiv (pe_op op_add (pv 1) pe_int) pe_int)) (pe_op op_fdiv (pe_op op_add (pv 1) pe_int) pe_int)) (pe_op op_fdiv (pe_op op_add (pv 1) pe_int) pe_int))))), ?_⟩
    refine ⟨_, rfl, _, _, rfl, rfl, ?_⟩
    refine ⟨_, rfl, _, _, rfl, rfl, .inr ⟨by decide, by decide⟩, _, rfl, _, _, rfl, rfl, _, _, rfl, rfl, ⟨by decide, by decide⟩, _, _, rfl, rfl, _, rfl, _, _, rfl, rfl, _, _, rfl, rfl, ⟨by decide, by decide⟩, _, _, rfl, rfl, _, rfl, _, _, rfl, rfl, _, _, rfl, rfl, ⟨by decide, by decide⟩, _, _, rfl, rfl, ?_⟩
    exact k
end
end K12
namespace K12
open PySem L2
open DF (Rl fl dayDate dayNth isD byM Ok Fi)
section
variable {P : Program} {w : World} {K : PySem.W.Frag} {mg : Str → Option Value} {base : Heap} {a : Adr}
theorem sc_law_same : FnScope ["_law_found", "_law_due"] ["_law_found", "_law_due"] (defScope s_law_same) := ⟨rfl, rfl, rfl, by decide +kernel, rfl, by decide +kernel, by decide +kernel⟩
theorem ok_law_same (T : TxtL K mg base a) : FnOk P w K mg base CX0 true 1 a.f_law_same a.d_law_same ["_law_found", "_law_due"] (sp_law_same) := by
  refine T.F_law_same.ok sc_law_same (fun vs H Q E h => ?_) (fun cdv A outer s H vs Q E hr h => ?_)
  · obtain ⟨o, rfl, _⟩ := h; rfl
  · skip
    refine ⟨_, (pss_cons (ps_if (pt_val (pe_callB (call_isinstK (K := K) rfl) rfl T.n_isinstance (by decide +kernel) (pa_cons (pv 1) (pa_cons (pe_bltn (v := .ty "tuple") rfl T.n_tuple (by decide +kernel) rfl) pa_nil)))) (pss_cons ps_never
      (pss_one ps_never)) pss_nil)
      (pss_cons (ps_if (pt_val (pe_callB (call_isinstK (K := K) rfl) rfl T.n_isinstance (by decide +kernel) (pa_cons (pv 1) (pa_cons (pe_bltn (v := .ty "str") rfl T.n_str (by decide +kernel) rfl) pa_nil)))) (pss_one (ps_ret (pe_and (pe_callB (call_isinstK (K := K) rfl) rfl T.n_isinstance (by decide +kernel) (pa_cons (pv 0) (pa_cons (pe_bltn (v := .ty "str") rfl T.n_str (by decide +kernel) rfl) pa_nil))) (pe_one (pe_cmpR op_eq (pv 0) (pv 1) (nomark _)))))) pss_nil)
      (pss_cons (ps_if (pt_cmpR op_isN (pv 1) pe_non (nomark _)) (pss_one (ps_ret (pe_cmpR op_isN (pv 0) pe_non (nomark _)))) pss_nil)
      (pss_cons (ps_if (pt_val (pe_callB (call_isinstK (K := K) rfl) rfl T.n_isinstance (by decide +kernel) (pa_cons (pv 1) (pa_cons (pe_bltn (v := .ty "bool") rfl T.n_bool (by decide +kernel) rfl) pa_nil)))) (pss_one (ps_ret (pe_and (pe_callB (call_isinstK (K := K) rfl) rfl T.n_isinstance (by decide +kernel) (pa_cons (pv 0) (pa_cons (pe_bltn (v := .ty "bool") rfl T.n_bool (by decide +kernel) rfl) pa_nil))) (pe_one (pe_cmpR op_eq (pv 0) (pv 1) (nomark _)))))) pss_nil)
      (pss_one (ps_ret (pe_and (pe_callB (call_isinstK (K := K) rfl) rfl T.n_isinstance (by decide +kernel) (pa_cons (pv 0) (pa_cons (pe_bltn (v := .ty "int") rfl T.n_int (by decide +kernel) rfl) pa_nil))) (pe_and (pe_not (pe_callB (call_isinstK (K := K) rfl) rfl T.n_isinstance (by decide +kernel) (pa_cons (pv 0) (pa_cons (pe_bltn (v := .ty "bool") rfl T.n_bool (by decide +kernel) rfl) pa_nil)))) (pe_one (pe_cmpR op_eq (pv 0) (pv 1) (nomark _))))))))))), ?_⟩
    rcases same_or h with ⟨d, rfl, k⟩ | ⟨rfl, k⟩
    · skip
      have ij : d = d := rfl
      refine ⟨_, rfl, _, _, _, _, rfl, TyOf.int _, rfl, _, rfl, iteF ?_⟩
      refine ⟨_, rfl, _, _, _, _, rfl, TyOf.int _, rfl, _, rfl, iteF ?_⟩
      refine ⟨_, rfl, rfl, _, rfl, ?_⟩
      refine ite2 (fun z => by simp at z) (fun _ => ?_)
      refine ⟨_, rfl, _, _, _, _, rfl, TyOf.int _, rfl, _, rfl, iteF ?_⟩
      refine ⟨_, rfl, _, _, _, _, rfl, TyOf.int _, rfl, _, rfl, iteT ?_⟩
      refine ⟨_, rfl, _, _, _, _, rfl, TyOf.int _, rfl, _, rfl, _, rfl, ?_⟩
      refine ite2 (fun _ => ?_) (fun z => absurd rfl z)
      refine ⟨_, rfl, _, rfl, rfl, ?_⟩
      rw [vint, decide_eq_true ij]
      exact k
    · refine ⟨_, rfl, _, _, _, _, rfl, TyOf.non, rfl, _, rfl, iteF ?_⟩
      refine ⟨_, rfl, _, _, _, _, rfl, TyOf.non, rfl, _, rfl, iteF ?_⟩
      refine ⟨_, rfl, rfl, _, rfl, ?_⟩
      refine ite2 (fun _ => ?_) (fun z => absurd (by decide) z)
      exact ⟨_, rfl, rfl, k⟩
end
end K12
namespace K12
open PySem L2
open DF (Rl fl dayDate dayNth isD byM Ok Fi)
section
variable {P : Program} {w : World} {K : PySem.W.Frag} {mg : Str → Option Value} {base : Heap} {a : Adr}
theorem sc_law_near : FnScope ["_law_pick", "_law_base"] ["_law_pick", "_law_base"] (defScope s_law_near) := ⟨rfl, rfl, rfl, by decide +kernel, rfl, by decide +kernel, by decide +kernel⟩
theorem ok_law_near (T : TxtL K mg base a) : FnOk P w K mg base CX0 true 1 a.f_law_near a.d_law_near ["_law_pick", "_law_base"] (sp_law_near) := by
  refine T.F_law_near.ok sc_law_near (fun vs H Q E h => ?_) (fun cdv A outer s H vs Q E hr h => ?_)
  · obtain ⟨p, b, rfl, _⟩ := h; rfl
  · obtain ⟨p, b, rfl, k⟩ := h
    refine ⟨_, (pss_one (ps_ret (pe_callB (call_min2 rfl) rfl T.n_min (by decide +kernel) (pa_cons pe_int (pa_cons (pe_callB (call_max2 rfl) rfl T.n_max (by decide +kernel) (pa_cons pe_int (pa_cons (pe_op op_sub (pe_op op_add (pv 1) (pe_op op_mod (pv 0) pe_int)) pe_int) pa_nil))) pa_nil))))), ?_⟩
    refine ⟨_, rfl, _, rfl, _, _, rfl, rfl, (by show (0 : Int) < 61; decide), _, _, rfl, rfl, _, _, rfl, rfl, _, _, rfl, _, _, rfl, k _ ?_ ?_⟩
    · split
      · split <;> omega
      · omega
    · split
      · omega
      · omega
end
end K12
namespace K12
open PySem L2
open DF (Rl fl dayDate dayNth isD byM Ok Fi)
section
variable {P : Program} {w : World} {K : PySem.W.Frag} {mg : Str → Option Value} {base : Heap} {a : Adr}
theorem sc_law_often : FnScope ["_law_pick"] ["_law_pick"] (defScope s_law_often) := ⟨rfl, rfl, rfl, by decide +kernel, rfl, by decide +kernel, by decide +kernel⟩
theorem ok_law_often (T : TxtL K mg base a) : FnOk P w K mg base CX0 true 1 a.f_law_often a.d_law_often ["_law_pick"] (sp_law_often) := by
  refine T.F_law_often.ok sc_law_often (fun vs H Q E h => ?_) (fun cdv A outer s H vs Q E hr h => ?_)
  · obtain ⟨p, rfl, _⟩ := h; rfl
  · obtain ⟨p, rfl, k⟩ := h
    refine ⟨_, (pss_one (ps_ret (pe_ix (ix_listK (K := K) rfl) (pe_lst (pa_cons pe_int (pa_cons pe_int (pa_cons pe_int (pa_cons pe_int (pa_cons (pe_op op_add pe_int (pe_op op_mod (pe_op op_fdiv (pv 0) pe_int) pe_int)) (pa_cons pe_int (pa_cons (pe_op op_add pe_int (pe_op op_mod (pe_op op_fdiv (pv 0) pe_int) pe_int)) pa_nil)))))))) (pe_op op_mod (pv 0) pe_int) (fun _ _ => rfl)))), ?_⟩
    refine ⟨_, rfl, _, _, rfl, rfl, ⟨by decide, by decide⟩, _, _, rfl, rfl, (by show (0 : Int) < 9; decide), _, _, rfl, rfl, _, rfl, _, _, rfl, rfl, ⟨by decide, by decide⟩, _, _, rfl, rfl, (by show (0 : Int) < 1000; decide), _, _, rfl, rfl, (by show 7 ≤ sizeLine; decide), fun L hL => ?_⟩
    obtain ⟨t, t0, t1, ht⟩ := atI_pick (ts := [1, 1, 2, 3, 1 + p / 7 % 9, 12, 1 + p / 7 % 1000]) (i := p % 7) 1 1000 (Int.emod_nonneg _ (by decide)) (Int.emod_lt_of_pos _ (by decide)) (fun t ht => by
      rcases List.mem_cons.mp ht with rfl | ht; · decide
      rcases List.mem_cons.mp ht with rfl | ht; · decide
      rcases List.mem_cons.mp ht with rfl | ht; · decide
      rcases List.mem_cons.mp ht with rfl | ht; · decide
      rcases List.mem_cons.mp ht with rfl | ht; · omega
      rcases List.mem_cons.mp ht with rfl | ht; · decide
      rw [List.mem_singleton] at ht; subst ht; omega)
    exact ⟨_, rfl, _, _, rfl, rfl, (by show (0 : Int) < 7; decide), L, _, _, _, rfl, rfl, SqL.of upd_same, ht, k t _ t0 t1 (same_upd hL)⟩
end
end K12
namespace K12
open PySem L2
open DF (Rl fl dayDate dayNth isD byM Ok Fi)
section
variable {P : Program} {w : World} {K : PySem.W.Frag} {mg : Str → Option Value} {base : Heap} {a : Adr}
theorem sc_month_days : FnScope ["year", "month"] ["year", "month"] (defScope s_month_days) := ⟨rfl, rfl, rfl, by decide +kernel, rfl, by decide +kernel, by decide +kernel⟩
theorem ok_month_days (T : TxtL K mg base a) : FnOk P w K mg base CX0 true 2 a.f_month_days a.d_month_days ["year", "month"] (sp_month_days) := by
  refine T.F_month_days.ok sc_month_days (fun vs H Q E h => ?_) (fun cdv A outer s H vs Q E hr h => ?_)
  · obtain ⟨y, m, rfl, _⟩ := h; rfl
  · obtain ⟨y, m, rfl, h1, h2, k⟩ := h
    refine ⟨_, (pss_cons (ps_if (PW.pt (pw_and (pt_cmpR op_eq (pv 1) pe_int (nomark _)) (pw_and1 (pt_val (pe_call ((ok_is_leap T).mono (by decide)) hr rfl T.m_is_leap T.F_is_leap.kp T.b_is_leap .nil pass0 (pa_cons (pv 0) pa_nil)))))) (pss_one (ps_ret pe_int)) pss_nil)
      (pss_one (ps_ret (pe_ix (ix_tupK (K := K) rfl) (pe_globR rfl T.g_MONTH_LENGTHS) (pe_op op_sub (pv 1) pe_int) (fun _ _ => rfl))))), ?_⟩
    refine ⟨_, rfl, rfl, _, rfl, ?_⟩
    refine ite2 (fun e1 => ?_) (fun e1 => ?_)
    · rw [vint] at e1
      have e1' : m = 2 := of_decide_eq_true e1
      refine ⟨_, rfl, y, rfl, _, rfl, ?_⟩
      refine ite2 (fun e2 => ?_) (fun e2 => ?_)
      · have e : DM.len y m = 29 := by unfold DM.len; rw [if_pos e1', if_pos e2]
        rw [e] at k
        exact k
      · exact ⟨_, rfl, _, _, rfl, rfl, _, _, _, _, rfl, rfl, T.s_MONTH_LENGTHS _, ml_at h1 h2 (fun z => e2 z.2), k⟩
    · rw [vint] at e1
      refine iteF ?_
      exact ⟨_, rfl, _, _, rfl, rfl, _, _, _, _, rfl, rfl, T.s_MONTH_LENGTHS _, ml_at h1 h2 (fun z => e1 (decide_eq_true z.1)), k⟩
end
end K12
namespace K12
open PySem L2
open DF (Rl fl dayDate dayNth isD byM Ok Fi)
section
variable {P : Program} {w : World} {K : PySem.W.Frag} {mg : Str → Option Value} {base : Heap} {a : Adr}
theorem sc_month_begin : FnScope ["number", "year", "month", "begin"] ["number"] (defScope s_month_begin) := ⟨rfl, rfl, rfl, by decide +kernel, rfl, by decide +kernel, by decide +kernel⟩
theorem ok_month_begin (T : TxtL K mg base a) : FnOk P w K mg base CX0 true 2 a.f_month_begin a.d_month_begin ["number"] (sp_month_begin) := by
  refine T.F_month_begin.ok sc_month_begin (fun vs H Q E h => ?_) (fun cdv A outer s H vs Q E hr h => ?_)
  · obtain ⟨n, rfl, _⟩ := h; rfl
  · obtain ⟨n, rfl, k⟩ := h
    refine ⟨_, (pss_cons (ps_set (i := 1) sc_month_begin.nd rfl (Or.inl rfl) (pe_op op_add (pe_globI rfl T.g_FIRST_YEAR) (pe_op op_fdiv (pv 0) pe_int)))
      (pss_cons (ps_set (i := 2) sc_month_begin.nd rfl (Or.inl rfl) (pe_op op_add (pe_op op_mod (pv 0) pe_int) pe_int))
      (pss_cons (ps_set (i := 3) sc_month_begin.nd rfl (Or.inl rfl) (pe_op op_add (pe_call ((ok_year_begin T).mono (by decide)) hr rfl T.m_year_begin T.F_year_begin.kp T.b_year_begin .nil pass0 (pa_cons (pv 1) pa_nil)) (pe_ix (ix_tupK (K := K) rfl) (pe_globR rfl T.g_DAYS_AHEAD) (pe_op op_sub (pv 2) pe_int) (fun _ _ => rfl))))
      (pss_cons (ps_if (PW.pt (pw_and (pt_cmpR op_gt (pv 2) pe_int (nomark _)) (pw_and1 (pt_val (pe_call ((ok_is_leap T).mono (by decide)) hr rfl T.m_is_leap T.F_is_leap.kp T.b_is_leap .nil pass0 (pa_cons (pv 1) pa_nil)))))) (pss_one (ps_ret (pe_op op_add (pv 3) pe_int))) pss_nil)
      (pss_one (ps_ret (pv 3))))))), ?_⟩
    refine ⟨_, rfl, _, _, rfl, rfl, ⟨by decide, by decide⟩, _, _, rfl, rfl, ?_⟩
    refine ⟨_, rfl, _, _, rfl, rfl, (by show (0 : Int) < 12; decide), _, _, rfl, rfl, ?_⟩
    refine ⟨_, rfl, _, rfl, _, rfl, _, _, rfl, rfl, _, _, _, _, rfl, rfl, T.s_DAYS_AHEAD _, da_at n, _, _, rfl, rfl, ?_⟩
    refine ⟨_, rfl, _, _, rfl, rfl, _, rfl, ?_⟩
    refine ite2 (fun e1 => ?_) (fun e1 => ?_)
    · have e1' := of_decide_eq_true e1
      refine ⟨_, rfl, _, rfl, _, rfl, ?_⟩
      refine ite2 (fun e2 => ?_) (fun e2 => ?_)
      · have e : DM.mb n = DM.year (2000 + n / 12) + DM.ahead (n % 12 + 1) + 1 := by unfold DM.mb; rw [if_pos ⟨e1', e2⟩]
        rw [e] at k
        exact ⟨_, rfl, _, _, rfl, rfl, k⟩
      · have e : DM.mb n = DM.year (2000 + n / 12) + DM.ahead (n % 12 + 1) := by unfold DM.mb; rw [if_neg (fun z => e2 z.2), Int.add_zero]
        rw [e] at k
        exact ⟨_, rfl, k⟩
    · have e : DM.mb n = DM.year (2000 + n / 12) + DM.ahead (n % 12 + 1) := by unfold DM.mb; rw [if_neg (fun z => e1 (decide_eq_true z.1)), Int.add_zero]
      rw [e] at k
      refine iteF ?_
      exact ⟨_, rfl, k⟩
end
end K12
namespace K12
open PySem L2
open DF (Rl fl dayDate dayNth isD byM Ok Fi)
section
variable {P : Program} {w : World} {K : PySem.W.Frag} {mg : Str → Option Value} {base : Heap} {a : Adr}
theorem sc_check_day : FnScope ["number"] ["number"] (defScope s_check_day) := ⟨rfl, rfl, rfl, by decide +kernel, rfl, by decide +kernel, by decide +kernel⟩
theorem ok_check_day (T : TxtL K mg base a) : FnOk P w K mg base CX0 true 2 a.f_check_day a.d_check_day ["number"] (sp_check_day) := by
  refine T.F_check_day.ok sc_check_day (fun vs H Q E h => ?_) (fun cdv A outer s H vs Q E hr h => ?_)
  · obtain ⟨n, rfl, _⟩ := h; rfl
  · obtain ⟨n, rfl, h0, h1, k⟩ := h
    refine ⟨_, (pss_one (ps_if (pt_not (pt_val (pe_call ((ok_is_day T).mono (by decide)) hr rfl T.m_is_day T.F_is_day.kp T.b_is_day .nil pass0 (pa_cons (pv 0) pa_nil)))) (pss_one ps_never) pss_nil)), ?_⟩
    exact ⟨_, rfl, n, rfl, _, rfl, iteNS ⟨h0, h1⟩ k⟩
end
end K12
namespace K12
open PySem L2
open DF (Rl fl dayDate dayNth isD byM Ok Fi)
section
variable {P : Program} {w : World} {K : PySem.W.Frag} {mg : Str → Option Value} {base : Heap} {a : Adr}
theorem sc_week_of : FnScope ["day"] ["day"] (defScope s_week_of) := ⟨rfl, rfl, rfl, by decide +kernel, rfl, by decide +kernel, by decide +kernel⟩
theorem ok_week_of (T : TxtL K mg base a) : FnOk P w K mg base CX0 true 2 a.f_week_of a.d_week_of ["day"] (sp_week_of) := by
  refine T.F_week_of.ok sc_week_of (fun vs H Q E h => ?_) (fun cdv A outer s H vs Q E hr h => ?_)
  · obtain ⟨d, rfl, _⟩ := h; rfl
  · obtain ⟨d, rfl, k⟩ := h
    refine ⟨_, (pss_one (ps_ret (pe_op op_fdiv (pe_op op_add (pv 0) (pe_call ((ok_weekday T).mono (by decide)) hr rfl T.m_weekday T.F_weekday.kp T.b_weekday .nil pass0 (pa_cons pe_int pa_nil))) pe_int))), ?_⟩
    exact ⟨_, rfl, 0, rfl, _, _, rfl, rfl, _, _, rfl, rfl, ⟨by decide, by decide⟩, k⟩
end
end K12
namespace K12
open PySem L2
open DF (Rl fl dayDate dayNth isD byM Ok Fi)
section
variable {P : Program} {w : World} {K : PySem.W.Frag} {mg : Str → Option Value} {base : Heap} {a : Adr}
theorem sc_week_begin : FnScope ["number"] ["number"] (defScope s_week_begin) := ⟨rfl, rfl, rfl, by decide +kernel, rfl, by decide +kernel, by decide +kernel⟩
theorem ok_week_begin (T : TxtL K mg base a) : FnOk P w K mg base CX0 true 2 a.f_week_begin a.d_week_begin ["number"] (sp_week_begin) := by
  refine T.F_week_begin.ok sc_week_begin (fun vs H Q E h => ?_) (fun cdv A outer s H vs Q E hr h => ?_)
  · obtain ⟨n, rfl, _⟩ := h; rfl
  · obtain ⟨n, rfl, k⟩ := h
    refine ⟨_, (pss_one (ps_ret (pe_op op_sub (pe_op op_mul (pv 0) pe_int) (pe_call ((ok_weekday T).mono (by decide)) hr rfl T.m_weekday T.F_weekday.kp T.b_weekday .nil pass0 (pa_cons pe_int pa_nil))))), ?_⟩
    exact ⟨_, rfl, _, _, rfl, rfl, .inr ⟨by decide, by decide⟩, 0, rfl, _, _, rfl, rfl, k⟩
end
end K12
namespace K12
open PySem L2
open DF (Rl fl dayDate dayNth isD byM Ok Fi)
section
variable {P : Program} {w : World} {K : PySem.W.Frag} {mg : Str → Option Value} {base : Heap} {a : Adr}
theorem sc_Weekly_has_weekday : FnScope ["self", "day"] ["self", "day"] (defScope s_Weekly_has_weekday) := ⟨rfl, rfl, rfl, by decide +kernel, rfl, by decide +kernel, by decide +kernel⟩
theorem ok_Weekly_has_weekday (T : TxtL K mg base a) : FnOk P w K mg base CX0 true 2 a.f_Weekly_has_weekday a.d_Weekly_has_weekday ["self", "day"] (sp_Weekly_has_weekday (ad a)) := by
  refine T.F_Weekly_has_weekday.ok sc_Weekly_has_weekday (fun vs H Q E h => ?_) (fun cdv A outer s H vs Q E hr h => ?_)
  · obtain ⟨x, d, mk, fi, e, rfl, _⟩ := h; rfl
  · obtain ⟨x, d, mk, fi, e, rfl, ⟨dx, hx⟩, k⟩ := h
    refine ⟨_, (pss_one (ps_ret (pe_cmpR op_eq (pe_op op_mod (pe_op op_shr (pe_fldK (K := K) rfl (pv 0)) (pe_call ((ok_weekday T).mono (by decide)) hr rfl T.m_weekday T.F_weekday.kp T.b_weekday .nil pass0 (pa_cons (pv 1) pa_nil))) pe_int) pe_int (nomark _)))), ?_⟩
    refine ⟨_, rfl, x, _, dx, _, _, rfl, hx, T.cl_Weekly, T.n_Weekly_mask, fl_Weekly_mask _ _ _, _, rfl, d, rfl, _, _, rfl, rfl, Int.emod_nonneg _ (by decide), _, _, rfl, rfl, (by show (0 : Int) < 2; decide), rfl, ?_⟩
    rw [vint]
    exact k
end
end K12
namespace K12
open PySem L2
open DF (Rl fl dayDate dayNth isD byM Ok Fi)
section
variable {P : Program} {w : World} {K : PySem.W.Frag} {mg : Str → Option Value} {base : Heap} {a : Adr}
theorem sc_Days_next_in : FnScope ["self", "day", "end", "place"] ["self", "day", "end"] (defScope s_Days_next_in) := ⟨rfl, rfl, rfl, by decide +kernel, rfl, by decide +kernel, by decide +kernel⟩
theorem ok_Days_next_in (T : TxtL K mg base a) : FnOk P w K mg base CX0 true 2 a.f_Days_next_in a.d_Days_next_in ["self", "day", "end"] (sp_Days_next_in (ad a)) := by
  refine T.F_Days_next_in.ok sc_Days_next_in (fun vs H Q E h => ?_) (fun cdv A outer s H vs Q E hr h => ?_)
  · obtain ⟨x, b, e, ds, rfl, _⟩ := h; rfl
  · obtain ⟨x, b, e, ds, rfl, ⟨dx, d, ms, hx, hd, hri, hlen, hmem⟩, k1, k2⟩ := h
    refine ⟨_, (pss_cons (ps_set (i := 3) sc_Days_next_in.nd rfl (Or.inl rfl) (pe_call ((ok_count_below T).mono (by decide)) hr rfl T.m_count_below T.F_count_below.kp T.b_count_below .nil pass0 (pa_cons (pe_fldK (K := K) rfl (pv 0)) (pa_cons (pv 1) pa_nil))))
      (pss_cons (ps_if (PW.pt (pw_or (pt_cmpR op_eq (pv 3) (pe_callB (call_len_seqK (K := K) rfl) rfl T.n_len (by decide +kernel) (pa_cons (pe_fldK (K := K) rfl (pv 0)) pa_nil)) (nomark _)) (pw_or1 (pt_cmpR op_ge (pe_ix (ix_tupK (K := K) rfl) (pe_fldK (K := K) rfl (pv 0)) (pv 3) (fun _ _ => rfl)) (pv 2) (nomark _))))) (pss_one (ps_ret pe_non)) pss_nil)
      (pss_one (ps_ret (pe_ix (ix_tupK (K := K) rfl) (pe_fldK (K := K) rfl (pv 0)) (pv 3) (fun _ _ => rfl)))))), ?_⟩
    have hS : SqT K H d (ms.map V.int) := SqT.of hd
    refine ⟨_, rfl, x, _, dx, _, _, rfl, hx, T.cl_Days, T.n_Days_days, fl_Days_days _, _, rfl, d, ms, b, rfl, hS, hri, hlen, ?_⟩
    have hle := DC.below_le ms b
    generalize hn : DC.below ms b = n at *
    have before : ∀ k ∈ ms, k < b ∨ ∃ i, n ≤ i ∧ ms[i]? = some k := fun k hk => by
      obtain ⟨i, hi⟩ := List.getElem?_of_mem hk
      by_cases hin : i < n
      · rw [← hn] at hin; exact .inl ((DC.below_front hri hi).mp hin)
      · exact .inr ⟨i, by omega, hi⟩
    refine ⟨_, rfl, _, rfl, x, _, dx, _, _, rfl, hx, T.cl_Days, T.n_Days_days, fl_Days_days _, d, _, rfl, .inr hS, rfl, _, rfl, ?_⟩
    rw [List.length_map]
    refine ite2 (fun z => iteT ?_) (fun z => ?_)
    · have z' : (n : Int) = (ms.length : Int) := V.int.inj (of_decide_eq_true z)
      refine k2 fun k h1 h2 => ?_
      refine fun hk => ?_
      rcases before k ((hmem k).mpr hk) with w | ⟨i, w1, w2⟩
      · omega
      · obtain ⟨w3, _⟩ := List.getElem?_eq_some_iff.mp w2
        omega
    have hlt : n < ms.length := by
      have : ¬ (n : Int) = (ms.length : Int) := fun w => z (decide_eq_true (by rw [w]))
      omega
    obtain ⟨v, hv⟩ := int_get (ns := ms) (i := n) hlt
    have hA : atI (ms.map V.int) (n : Int) = some (.int v) := atI_nat (ints_at hv)
    have hvb : b ≤ v := Int.not_lt.mp fun w => by have := (DC.below_front hri hv).mpr w; omega
    have first : ∀ k, b ≤ k → k < v → k ∉ ds := fun k h1 h2 => by
      refine fun hk => ?_
      rcases before k ((hmem k).mpr hk) with w | ⟨i, w1, w2⟩
      · omega
      · have := DC.rise_le hri hv w2 w1
        omega
    refine ⟨_, rfl, x, _, dx, _, _, rfl, hx, T.cl_Days, T.n_Days_days, fl_Days_days _, _, rfl, d, _, _, _, rfl, rfl, hS, hA, _, rfl, _, _, rfl, rfl, _, rfl, ?_⟩
    refine ite2 (fun z => ?_) (fun z => ?_)
    · have z' : e ≤ v := of_decide_eq_true z
      exact k2 fun k h1 h2 => first k h1 (by omega)
    · have z' : ¬ e ≤ v := fun w => z (decide_eq_true w)
      exact ⟨_, rfl, x, _, dx, _, _, rfl, hx, T.cl_Days, T.n_Days_days, fl_Days_days _, _, rfl, d, _, _, _, rfl, rfl, hS, hA, k1 v hvb (by omega) ((hmem v).mp (List.mem_of_getElem? hv)) first⟩
end
end K12
namespace K12
open PySem L2
open DF (Rl fl dayDate dayNth isD byM Ok Fi)
section
variable {P : Program} {w : World} {K : PySem.W.Frag} {mg : Str → Option Value} {base : Heap} {a : Adr}
theorem sc_Where_falls_on : FnScope ["self", "day", "test"] ["self", "day"] (defScope s_Where_falls_on) := ⟨rfl, rfl, rfl, by decide +kernel, rfl, by decide +kernel, by decide +kernel⟩
theorem ok_Where_falls_on (T : TxtL K mg base a) : FnOk P w K mg base CX0 true 2 a.f_Where_falls_on a.d_Where_falls_on ["self", "day"] (sp_Where_falls_on (ad a)) := by
  refine T.F_Where_falls_on.ok sc_Where_falls_on (fun vs H Q E h => ?_) (fun cdv A outer s H vs Q E hr h => ?_)
  · obtain ⟨x, d, m, r, rfl, _⟩ := h; rfl
  · obtain ⟨x, d, m, r, rfl, ⟨dx, f, t, hx, ⟨cl, cd, L⟩, ht⟩, m1, b0, b1, k⟩ := h
    refine ⟨_, (pss_cons (ps_set (i := 2) sc_Where_falls_on.nd rfl (Or.inl rfl) (pe_fldK (K := K) rfl (pv 0)))
      (pss_one (ps_ret (pe_and (pe_call ((ok_is_day T).mono (by decide)) hr rfl T.m_is_day T.F_is_day.kp T.b_is_day .nil pass0 (pa_cons (pv 1) pa_nil)) (pe_one (pe_callTy call_bool1 rfl T.n_bool (by decide +kernel) (pa_cons (pe_callL lsc_law_rule lbd_law_rule hr (fun _ _ _ _ _ _ _ => (pe_cmpR op_eq (pe_op op_mod (pe_op op_mul (pv 0) (pv 0)) (pe_ix (ix_tupK (K := K) rfl) (pv 1) pe_int (fun _ _ => rfl))) (pe_ix (ix_tupK (K := K) rfl) (pv 1) pe_int (fun _ _ => rfl)) (nomark _))) (pv 2) (pa_cons (pv 1) pa_nil)) pa_nil))))))), ?_⟩
    have k2 : Q (.bl (isD d && decide (d * d % m = r))) H := k
    refine ⟨_, rfl, x, _, dx, _, _, rfl, hx, T.cl_Where, T.n_Where_test, fl_Where_test _, ?_⟩
    refine ⟨_, rfl, d, rfl, _, rfl, ?_⟩
    cases e1 : isD d with
    | false => rw [e1] at k2; exact iteF k2
    | true =>
    rw [e1, Bool.true_and] at k2
    refine iteT ⟨_, rfl, f, _, cl, cd, rfl, L, _, rfl, _, rfl, L, ?_⟩
    have ht2 : lessC cl H t = some (.tup [.str "where", .int m, .int r]) := by
      rw [lessC_out (fun w => ?_)]
      · exact ht
      · obtain ⟨q, hq, e⟩ := List.mem_map.mp w
        obtain ⟨z, hz⟩ := L.all q hq
        rw [e, ht] at hz
        cases hz
    refine ⟨_, rfl, _, rfl, _, _, rfl, rfl, .inl ⟨by omega, by omega⟩, _, rfl, t, _, _, _, rfl, rfl, SqT.of ht2, rfl, _, _, rfl, rfl, (by show (0 : Int) < m; omega), _, rfl, t, _, _, _, rfl, rfl, SqT.of ht2, rfl, rfl, rfl, .inr ⟨_, rfl, ?_⟩⟩
    rw [vint]
    exact k2
theorem ok_Where_falls_onB (T : TxtL K mg base a) : FnOk P w K mg base CX0 true 2 a.f_Where_falls_on a.d_Where_falls_on ["self", "day"] (sp_Where_falls_onB a.x_Where) := by
  refine T.F_Where_falls_on.ok sc_Where_falls_on (fun vs H Q E h => ?_) (fun cdv A outer s H vs Q E hr h => ?_)
  · obtain ⟨x, dx, f, L, cd, cl, xs, d, rfl, _⟩ := h; rfl
  · obtain ⟨x, dx, f, L, cd, cl, xs, d, rfl, hx, hD, hL, hl, k0, k1⟩ := h
    refine ⟨_, (pss_cons (ps_set (i := 2) sc_Where_falls_on.nd rfl (Or.inl rfl) (pe_fldK (K := K) rfl (pv 0)))
      (pss_one (ps_ret (pe_and (pe_call ((ok_is_day T).mono (by decide)) hr rfl T.m_is_day T.F_is_day.kp T.b_is_day .nil pass0 (pa_cons (pv 1) pa_nil)) (pe_one (pe_callTy call_bool1 rfl T.n_bool (by decide +kernel) (pa_cons (pe_callD lsc_law_days_alone lbd_law_days_alone hr (fun _ _ _ _ _ _ _ => (pss_cons (ps_expr (pe_bmK (K := K) rfl PySem.F.plainAttrs_list PySem.F.slot_list_append PySem.F.type_list_append mt_append (pv 1) (pa_cons (pv 0) pa_nil)))
      (pss_one (ps_ret (pe_cmpR op_eq (pe_op op_mod (pv 0) pe_int) pe_int (nomark _)))))) (pv 2) (pa_cons (pv 1) pa_nil)) pa_nil))))))), ?_⟩
    refine ⟨_, rfl, x, _, dx, _, _, rfl, hx, T.cl_Where, T.n_Where_test, fl_Where_test _, ?_⟩
    refine ⟨_, rfl, d, rfl, _, rfl, ?_⟩
    cases e1 : isD d with
    | false => exact iteF (k0 e1)
    | true =>
    have hL2 : lessC cl H L = some (.lst xs) := by
      rw [lessC_out (DefIs.lstOut hD hL)]
      exact hL
    refine iteT ⟨_, rfl, f, _, cl, cd, rfl, hD, _, rfl, _, rfl, hD, ?_⟩
    refine ⟨_, rfl, .inl ⟨rfl, _, SqL.of hL2⟩, _, rfl, L, xs, _, rfl, rfl, hL2, Nat.lt_of_le_of_lt hl (by decide), ?_⟩
    refine ⟨_, rfl, _, _, rfl, rfl, (by show (0 : Int) < 5; decide), rfl, .inr ⟨_, rfl, ?_⟩⟩
    rw [vint]
    refine k1 e1 _ (fun b u hb e => ?_) ?_
    · by_cases hc : b ∈ cl.map (·.2)
      · rw [backC_in hc]; exact e
      · rw [backC_out hc, upd_ne hb, lessC_out hc]; exact e
    · rw [backC_out (DefIs.lstOut hD hL), upd_same]
end
end K12
namespace K12
open PySem L2
open DF (Rl fl dayDate dayNth isD byM Ok Fi)
section
variable {P : Program} {w : World} {K : PySem.W.Frag} {mg : Str → Option Value} {base : Heap} {a : Adr}
theorem sc_law_length : FnScope ["_law_year_here", "_law_month"] ["_law_year_here", "_law_month"] (defScope s_law_length) := ⟨rfl, rfl, rfl, by decide +kernel, rfl, by decide +kernel, by decide +kernel⟩
theorem ok_law_length (T : TxtL K mg base a) : FnOk P w K mg base CX0 true 2 a.f_law_length a.d_law_length ["_law_year_here", "_law_month"] (sp_law_length) := by
  refine T.F_law_length.ok sc_law_length (fun vs H Q E h => ?_) (fun cdv A outer s H vs Q E hr h => ?_)
  · obtain ⟨y, m, rfl, _⟩ := h; rfl
  · obtain ⟨y, m, rfl, k⟩ := h
    refine ⟨_, (pss_cons (ps_if (pt_cmpR op_eq (pv 1) pe_int (nomark _)) (pss_one (ps_ret (pe_op op_add pe_int (pe_callTy call_int1 rfl T.n_int (by decide +kernel) (pa_cons (pe_call ((ok_law_leap T).mono (by decide)) hr rfl T.m_law_leap T.F_law_leap.kp T.b_law_leap .nil pass0 (pa_cons (pv 0) pa_nil)) pa_nil))))) pss_nil)
      (pss_one (ps_ret (pe_op op_add pe_int (pe_callTy call_int1 rfl T.n_int (by decide +kernel) (pa_cons (pe_cmpR (op_in_seqK (K := K) rfl) (pv 1) (pe_tup (pa_lits [.int 1, .int 3, .int 5, .int 7, .int 8, .int 10, .int 12] (by decide +kernel))) (by with_unfolding_all rfl)) pa_nil)))))), ?_⟩
    refine ⟨_, rfl, rfl, _, rfl, ?_⟩
    refine ite2 (fun e1 => ?_) (fun e1 => ?_)
    · rw [vint] at e1
      have e1' : m = 2 := of_decide_eq_true e1
      refine ⟨_, rfl, y, rfl, .inr ⟨_, rfl, _, _, rfl, rfl, ?_⟩⟩
      have q := k H (Same.refl _)
      have e : DM.len y m = 28 + (if DM.leap y = true then 1 else 0) := by
        unfold DM.len
        rw [if_pos e1']
        cases DM.leap y <;> rfl
      rw [e] at q
      exact q
    · rw [vint] at e1
      have e1' : ¬ m = 2 := fun z => e1 (decide_eq_true z)
      refine ⟨_, rfl, by decide, fun p hp => ⟨p, _, rfl, .inr (SqT.of upd_same), rfl, rfl, .inr ⟨_, rfl, _, _, rfl, rfl, ?_⟩⟩⟩
      have e : DM.len y m = 30 + (if (if false = true then !inV (.int m) [.int 1, .int 3, .int 5, .int 7, .int 8, .int 10, .int 12] else inV (.int m) [.int 1, .int 3, .int 5, .int 7, .int 8, .int 10, .int 12]) = true then 1 else 0) := by
        unfold DM.len
        rw [if_neg e1', if_neg Bool.false_ne_true]
        have : inV (.int m) [.int 1, .int 3, .int 5, .int 7, .int 8, .int 10, .int 12] = decide (m = 1 ∨ m = 3 ∨ m = 5 ∨ m = 7 ∨ m = 8 ∨ m = 10 ∨ m = 12) := by
          refine Eq.trans (inV_ints m [1, 3, 5, 7, 8, 10, 12]) (decide_eq_decide.mpr ?_)
          simp only [List.mem_cons, List.not_mem_nil, or_false]
        rw [this]
        by_cases z : m = 1 ∨ m = 3 ∨ m = 5 ∨ m = 7 ∨ m = 8 ∨ m = 10 ∨ m = 12
        · rw [if_pos z, decide_eq_true z]; rfl
        · rw [if_neg z, decide_eq_false z]; rfl
      rw [e] at k
      exact k _ (same_upd hp)
end
end K12
namespace K12
open PySem L2
open DF (Rl fl dayDate dayNth isD byM Ok Fi)
section
variable {P : Program} {w : World} {K : PySem.W.Frag} {mg : Str → Option Value} {base : Heap} {a : Adr}
theorem sc_law_first : FnScope ["_law_pick", "_law_base"] ["_law_pick", "_law_base"] (defScope s_law_first) := ⟨rfl, rfl, rfl, by decide +kernel, rfl, by decide +kernel, by decide +kernel⟩
theorem ok_law_first (T : TxtL K mg base a) : FnOk P w K mg base CX0 true 2 a.f_law_first a.d_law_first ["_law_pick", "_law_base"] (sp_law_first) := by
  refine T.F_law_first.ok sc_law_first (fun vs H Q E h => ?_) (fun cdv A outer s H vs Q E hr h => ?_)
  · obtain ⟨p, b, rfl, _⟩ := h; rfl
  · obtain ⟨p, b, rfl, k⟩ := h
    refine ⟨_, (pss_one (ps_ret (pe_ix (ix_listK (K := K) rfl) (pe_lst (pa_cons pe_int (pa_cons (pe_call ((ok_law_near T).mono (by decide)) hr rfl T.m_law_near T.F_law_near.kp T.b_law_near .nil pass0 (pa_cons (pe_op op_fdiv (pv 0) pe_int) (pa_cons (pv 1) pa_nil))) (pa_cons (pe_op op_mod (pe_op op_fdiv (pv 0) pe_int) pe_int) (pa_cons (pe_call ((ok_law_near T).mono (by decide)) hr rfl T.m_law_near T.F_law_near.kp T.b_law_near .nil pass0 (pa_cons (pe_op op_fdiv (pv 0) pe_int) (pa_cons (pv 1) pa_nil))) (pa_cons pe_int pa_nil)))))) (pe_op op_mod (pv 0) pe_int) (fun _ _ => rfl)))), ?_⟩
    refine ⟨_, rfl, _, _, rfl, rfl, ⟨by decide, by decide⟩, _, rfl, _, b, rfl, fun v1 v10 v11 => ?_⟩
    refine ⟨_, rfl, _, _, rfl, rfl, ⟨by decide, by decide⟩, _, _, rfl, rfl, (by show (0 : Int) < 146097; decide), _, rfl, _, _, rfl, rfl, ⟨by decide, by decide⟩, _, rfl, _, b, rfl, fun v2 v20 v21 => ?_⟩
    refine ⟨(by show 5 ≤ sizeLine; decide), fun L hL => ?_⟩
    obtain ⟨t, t0, t1, ht⟩ := atI_pick (ts := [0, v1, p / 7 % 146097, v2, 0]) (i := p % 5) 0 146096 (Int.emod_nonneg _ (by decide)) (Int.emod_lt_of_pos _ (by decide)) (fun t ht => by
      rcases List.mem_cons.mp ht with rfl | ht; · decide
      rcases List.mem_cons.mp ht with rfl | ht; · omega
      rcases List.mem_cons.mp ht with rfl | ht; · omega
      rcases List.mem_cons.mp ht with rfl | ht; · omega
      rw [List.mem_singleton] at ht; subst ht; decide)
    exact ⟨_, rfl, _, _, rfl, rfl, (by show (0 : Int) < 5; decide), L, _, _, _, rfl, rfl, SqL.of upd_same, ht, k t _ t0 (by omega) (same_upd hL)⟩
end
end K12
namespace K12
open PySem L2
open DF (Rl fl dayDate dayNth isD byM Ok Fi)
section
variable {P : Program} {w : World} {K : PySem.W.Frag} {mg : Str → Option Value} {base : Heap} {a : Adr}
theorem sc_month_of : FnScope ["day", "guess"] ["day"] (defScope s_month_of) := ⟨rfl, rfl, rfl, by decide +kernel, rfl, by decide +kernel, by decide +kernel⟩
theorem ok_month_of (T : TxtL K mg base a) : FnOk P w K mg base CX0 true 3 a.f_month_of a.d_month_of ["day"] (sp_month_of) := by
  refine T.F_month_of.ok sc_month_of (fun vs H Q E h => ?_) (fun cdv A outer s H vs Q E hr h => ?_)
  · obtain ⟨d, rfl, _⟩ := h; rfl
  · obtain ⟨d, rfl, k⟩ := h
    refine ⟨_, (pss_cons (ps_set (i := 1) sc_month_of.nd rfl (Or.inl rfl) (pe_op op_fdiv (pe_op op_mul (pv 0) (pe_globI rfl T.g_MONTHS)) (pe_globI rfl T.g_DAYS)))
      (pss_cons (ps_if (pt_cmpR op_gt (pe_call ((ok_month_begin T).mono (by decide)) hr rfl T.m_month_begin T.F_month_begin.kp T.b_month_begin .nil pass0 (pa_cons (pv 1) pa_nil)) (pv 0) (nomark _)) (pss_one (ps_ret (pe_op op_sub (pv 1) pe_int))) pss_nil)
      (pss_cons (ps_if (pt_cmpR op_le (pe_call ((ok_month_begin T).mono (by decide)) hr rfl T.m_month_begin T.F_month_begin.kp T.b_month_begin .nil pass0 (pa_cons (pe_op op_add (pv 1) pe_int) pa_nil)) (pv 0) (nomark _)) (pss_one (ps_ret (pe_op op_add (pv 1) pe_int))) pss_nil)
      (pss_one (ps_ret (pv 1)))))), ?_⟩
    refine ⟨_, rfl, _, _, rfl, rfl, .inr ⟨by decide, by decide⟩, _, _, rfl, rfl, ⟨by decide, by decide⟩, ?_⟩
    refine ⟨_, rfl, _, rfl, _, rfl, _, _, rfl, rfl, _, rfl, ?_⟩
    refine ite2 (fun e1 => ?_) (fun e1 => ?_)
    · have e : DM.mo d = d * 4800 / 146097 - 1 := by unfold DM.mo; rw [if_pos (of_decide_eq_true e1)]
      rw [e] at k
      exact ⟨_, rfl, _, _, rfl, rfl, k⟩
    · refine ⟨_, rfl, _, _, rfl, rfl, _, rfl, _, rfl, _, _, rfl, rfl, _, rfl, ?_⟩
      refine ite2 (fun e2 => ?_) (fun e2 => ?_)
      · have e : DM.mo d = d * 4800 / 146097 + 1 := by unfold DM.mo; rw [if_neg (fun z => e1 (decide_eq_true z)), if_pos (of_decide_eq_true e2)]
        rw [e] at k
        exact ⟨_, rfl, _, _, rfl, rfl, k⟩
      · have e : DM.mo d = d * 4800 / 146097 := by unfold DM.mo; rw [if_neg (fun z => e1 (decide_eq_true z)), if_neg (fun z => e2 (decide_eq_true z))]
        rw [e] at k
        exact ⟨_, rfl, k⟩
end
end K12
namespace K12
open PySem L2
open DF (Rl fl dayDate dayNth isD byM Ok Fi)
section
variable {P : Program} {w : World} {K : PySem.W.Frag} {mg : Str → Option Value} {base : Heap} {a : Adr}
theorem sc_check_every : FnScope ["first", "every"] ["first", "every"] (defScope s_check_every) := ⟨rfl, rfl, rfl, by decide +kernel, rfl, by decide +kernel, by decide +kernel⟩
theorem ok_check_every (T : TxtL K mg base a) : FnOk P w K mg base CX0 true 3 a.f_check_every a.d_check_every ["first", "every"] (sp_check_every) := by
  refine T.F_check_every.ok sc_check_every (fun vs H Q E h => ?_) (fun cdv A outer s H vs Q E hr h => ?_)
  · obtain ⟨f, e, rfl, _⟩ := h; rfl
  · obtain ⟨f, e, rfl, ⟨f0, f1, e0, e1⟩, k⟩ := h
    refine ⟨_, (pss_cons (ps_expr (pe_call ((ok_check_day T).mono (by decide)) hr rfl T.m_check_day T.F_check_day.kp T.b_check_day .nil pass0 (pa_cons (pv 0) pa_nil)))
      (pss_one (ps_expr (pe_call ((ok_check_bounds T).mono (by decide)) hr rfl T.m_check_bounds T.F_check_bounds.kp T.b_check_bounds .nil pass0 (pa_cons (pv 1) (pa_cons pe_int (pa_cons (pe_globI rfl T.g_MOST_EVERY) pa_nil))))))), ?_⟩
    exact ⟨_, rfl, f, rfl, f0, f1, _, rfl, e, 1, 1000, rfl, e0, e1, k⟩
end
end K12
namespace K12
open PySem L2
open DF (Rl fl dayDate dayNth isD byM Ok Fi)
section
variable {P : Program} {w : World} {K : PySem.W.Frag} {mg : Str → Option Value} {base : Heap} {a : Adr}
theorem sc_day_of_date : FnScope ["number", "date", "begin", "end", "found"] ["number", "date"] (defScope s_day_of_date) := ⟨rfl, rfl, rfl, by decide +kernel, rfl, by decide +kernel, by decide +kernel⟩
theorem ok_day_of_date (T : TxtL K mg base a) : FnOk P w K mg base CX0 true 3 a.f_day_of_date a.d_day_of_date ["number", "date"] (sp_day_of_date) := by
  refine T.F_day_of_date.ok sc_day_of_date (fun vs H Q E h => ?_) (fun cdv A outer s H vs Q E hr h => ?_)
  · obtain ⟨n, dt, rfl, _⟩ := h; rfl
  · obtain ⟨n, dt, rfl, k⟩ := h
    refine ⟨_, (pss_cons (ps_set (i := 2) sc_day_of_date.nd rfl (Or.inl rfl) (pe_call ((ok_month_begin T).mono (by decide)) hr rfl T.m_month_begin T.F_month_begin.kp T.b_month_begin .nil pass0 (pa_cons (pv 0) pa_nil)))
      (pss_cons (ps_set (i := 3) sc_day_of_date.nd rfl (Or.inl rfl) (pe_call ((ok_month_begin T).mono (by decide)) hr rfl T.m_month_begin T.F_month_begin.kp T.b_month_begin .nil pass0 (pa_cons (pe_op op_add (pv 0) pe_int) pa_nil)))
      (pss_cons (ps_set (i := 4) sc_day_of_date.nd rfl (Or.inl rfl) (pe_ifExp (pt_cmpR op_gt (pv 1) pe_int (nomark _)) (pe_op op_sub (pe_op op_add (pv 2) (pv 1)) pe_int) (pe_op op_add (pv 3) (pv 1))))
      (pss_one (ps_ret (pe_ifExp (pt_chain op_le op_lt (pv 2) (pv 4) (pv 3)) (pv 4) pe_non)))))), ?_⟩
    unfold dayDate DF.inw at k
    refine ⟨_, rfl, n, rfl, _, rfl, _, _, rfl, rfl, _, rfl, _, rfl, _, _, rfl, rfl, _, rfl, ite2 (fun z => ?_) (fun z => ?_)⟩
    · rw [if_pos (show dt > 0 from of_decide_eq_true z)] at k
      refine ⟨_, rfl, _, rfl, _, _, rfl, rfl, _, _, rfl, rfl, ?_⟩
      refine ⟨_, rfl, _, rfl, _, _, rfl, rfl, _, rfl, ite2 (fun z => ?_) (fun z => ?_)⟩
      · have z1 := of_decide_eq_true z
        refine ⟨_, rfl, _, _, rfl, rfl, _, rfl, ite2 (fun y => ?_) (fun y => ?_)⟩
        · rw [if_pos ⟨z1, of_decide_eq_true y⟩] at k
          exact ⟨_, rfl, k⟩
        · rw [if_neg (fun w => y (decide_eq_true w.2))] at k
          exact k
      · rw [if_neg (fun w => z (decide_eq_true w.1))] at k
        exact ⟨_, rfl, iteF k⟩
    · rw [if_neg (fun w : dt > 0 => z (decide_eq_true w))] at k
      refine ⟨_, rfl, _, rfl, _, _, rfl, rfl, ?_⟩
      refine ⟨_, rfl, _, rfl, _, _, rfl, rfl, _, rfl, ite2 (fun z => ?_) (fun z => ?_)⟩
      · have z1 := of_decide_eq_true z
        refine ⟨_, rfl, _, _, rfl, rfl, _, rfl, ite2 (fun y => ?_) (fun y => ?_)⟩
        · rw [if_pos ⟨z1, of_decide_eq_true y⟩] at k
          exact ⟨_, rfl, k⟩
        · rw [if_neg (fun w => y (decide_eq_true w.2))] at k
          exact k
      · rw [if_neg (fun w => z (decide_eq_true w.1))] at k
        exact ⟨_, rfl, iteF k⟩
end
end K12
namespace K12
open PySem L2
open DF (Rl fl dayDate dayNth isD byM Ok Fi)
section
variable {P : Program} {w : World} {K : PySem.W.Frag} {mg : Str → Option Value} {base : Heap} {a : Adr}
theorem sc_day_of_nth : FnScope ["number", "which", "weekday_of", "begin", "end", "found"] ["number", "which", "weekday_of"] (defScope s_day_of_nth) := ⟨rfl, rfl, rfl, by decide +kernel, rfl, by decide +kernel, by decide +kernel⟩
theorem ok_day_of_nth (T : TxtL K mg base a) : FnOk P w K mg base CX0 true 3 a.f_day_of_nth a.d_day_of_nth ["number", "which", "weekday_of"] (sp_day_of_nth) := by
  refine T.F_day_of_nth.ok sc_day_of_nth (fun vs H Q E h => ?_) (fun cdv A outer s H vs Q E hr h => ?_)
  · obtain ⟨n, w, wd, rfl, _⟩ := h; rfl
  · obtain ⟨n, w, wd, rfl, k⟩ := h
    refine ⟨_, (pss_cons (ps_set (i := 3) sc_day_of_nth.nd rfl (Or.inl rfl) (pe_call ((ok_month_begin T).mono (by decide)) hr rfl T.m_month_begin T.F_month_begin.kp T.b_month_begin .nil pass0 (pa_cons (pv 0) pa_nil)))
      (pss_cons (ps_set (i := 4) sc_day_of_nth.nd rfl (Or.inl rfl) (pe_call ((ok_month_begin T).mono (by decide)) hr rfl T.m_month_begin T.F_month_begin.kp T.b_month_begin .nil pass0 (pa_cons (pe_op op_add (pv 0) pe_int) pa_nil)))
      (pss_cons (ps_if (pt_cmpR op_gt (pv 1) pe_int (nomark _)) (pss_one (ps_set (i := 5) sc_day_of_nth.nd rfl (Or.inl rfl) (pe_op op_add (pe_op op_add (pv 3) (pe_op op_mod (pe_op op_sub (pv 2) (pe_call ((ok_weekday T).mono (by decide)) hr rfl T.m_weekday T.F_weekday.kp T.b_weekday .nil pass0 (pa_cons (pv 3) pa_nil))) pe_int)) (pe_op op_mul (pe_op op_sub (pv 1) pe_int) pe_int)))) (pss_one (ps_set (i := 5) sc_day_of_nth.nd rfl (Or.inl rfl) (pe_op op_add (pe_op op_sub (pe_op op_sub (pv 4) pe_int) (pe_op op_mod (pe_op op_sub (pe_call ((ok_weekday T).mono (by decide)) hr rfl T.m_weekday T.F_weekday.kp T.b_weekday .nil pass0 (pa_cons (pe_op op_sub (pv 4) pe_int) pa_nil)) (pv 2)) pe_int)) (pe_op op_mul (pe_op op_add (pv 1) pe_int) pe_int)))))
      (pss_one (ps_ret (pe_ifExp (pt_chain op_le op_lt (pv 3) (pv 5) (pv 4)) (pv 5) pe_non)))))), ?_⟩
    unfold dayNth DF.inw at k
    refine ⟨_, rfl, n, rfl, _, rfl, _, _, rfl, rfl, _, rfl, _, rfl, _, _, rfl, rfl, _, rfl, ite2 (fun z => ?_) (fun z => ?_)⟩
    · rw [if_pos (show w > 0 from of_decide_eq_true z)] at k
      refine ⟨_, rfl, _, rfl, _, rfl, _, rfl, _, _, rfl, rfl, _, _, rfl, rfl, (by show (0 : Int) < 7; decide), _, _, rfl, rfl, _, rfl, _, _, rfl, rfl, _, _, rfl, rfl, .inr ⟨by decide, by decide⟩, _, _, rfl, rfl, ?_⟩
      refine ⟨_, rfl, _, rfl, _, _, rfl, rfl, _, rfl, ite2 (fun z => ?_) (fun z => ?_)⟩
      · have z1 := of_decide_eq_true z
        refine ⟨_, rfl, _, _, rfl, rfl, _, rfl, ite2 (fun y => ?_) (fun y => ?_)⟩
        · rw [if_pos ⟨z1, of_decide_eq_true y⟩] at k
          exact ⟨_, rfl, k⟩
        · rw [if_neg (fun w => y (decide_eq_true w.2))] at k
          exact k
      · rw [if_neg (fun w => z (decide_eq_true w.1))] at k
        exact ⟨_, rfl, iteF k⟩
    · rw [if_neg (fun y : w > 0 => z (decide_eq_true y))] at k
      refine ⟨_, rfl, _, _, rfl, rfl, _, rfl, _, _, rfl, rfl, _, rfl, _, rfl, _, _, rfl, rfl, _, _, rfl, rfl, (by show (0 : Int) < 7; decide), _, _, rfl, rfl, _, rfl, _, _, rfl, rfl, _, _, rfl, rfl, .inr ⟨by decide, by decide⟩, _, _, rfl, rfl, ?_⟩
      refine ⟨_, rfl, _, rfl, _, _, rfl, rfl, _, rfl, ite2 (fun z => ?_) (fun z => ?_)⟩
      · have z1 := of_decide_eq_true z
        refine ⟨_, rfl, _, _, rfl, rfl, _, rfl, ite2 (fun y => ?_) (fun y => ?_)⟩
        · rw [if_pos ⟨z1, of_decide_eq_true y⟩] at k
          exact ⟨_, rfl, k⟩
        · rw [if_neg (fun w => y (decide_eq_true w.2))] at k
          exact k
      · rw [if_neg (fun w => z (decide_eq_true w.1))] at k
        exact ⟨_, rfl, iteF k⟩
end
end K12
namespace K12
open PySem L2
open DF (Rl fl dayDate dayNth isD byM Ok Fi)
section
variable {P : Program} {w : World} {K : PySem.W.Frag} {mg : Str → Option Value} {base : Heap} {a : Adr}
theorem sc_Every___init : FnScope ["self", "step", "first"] ["self", "step", "first"] (defScope s_Every___init) := ⟨rfl, rfl, rfl, by decide +kernel, rfl, by decide +kernel, by decide +kernel⟩
theorem ok_Every___init (T : TxtL K mg base a) : FnOk P w K mg base CX0 true 3 a.f_Every___init a.d_Every___init ["self", "step", "first"] (sp_Every_init (ad a)) := by
  refine T.F_Every___init.ok sc_Every___init (fun vs H Q E h => ?_) (fun cdv A outer s H vs Q E hr h => ?_)
  · obtain ⟨x, dx, st, fi, rfl, _⟩ := h; rfl
  · obtain ⟨x, dx, st, fi, rfl, hx, ⟨s1, s2, f0, f1⟩, k⟩ := h
    refine ⟨_, (pss_cons (ps_expr (pe_call ((ok_check_bounds T).mono (by decide)) hr rfl T.m_check_bounds T.F_check_bounds.kp T.b_check_bounds .nil pass0 (pa_cons (pv 1) (pa_cons pe_int (pa_cons (pe_op op_sub (pe_globI rfl T.g_DAYS) pe_int) pa_nil)))))
      (pss_cons (ps_expr (pe_call ((ok_check_day T).mono (by decide)) hr rfl T.m_check_day T.F_check_day.kp T.b_check_day .nil pass0 (pa_cons (pv 2) pa_nil)))
      (pss_cons (ps_fldK (K := K) rfl (pv 0) (pv 1))
      (pss_one (ps_fldK (K := K) rfl (pv 0) (pv 2)))))), ?_⟩
    refine ⟨_, rfl, _, _, rfl, rfl, st, 1, _, rfl, s1, (by show st ≤ 146097 - 1; omega), ?_⟩
    refine ⟨_, rfl, fi, rfl, f0, f1, ?_⟩
    refine ⟨_, rfl, _, rfl, x, _, dx, _, rfl, hx, T.cl_Every, T.n_Every_step, (by show 0 < 1000; decide), ?_⟩
    rw [pf_Every_step]
    refine ⟨_, rfl, _, rfl, x, _, dx, _, rfl, upd_same, T.cl_Every, T.n_Every_first, (by show 1 < 1000; decide), ?_⟩
    rw [pf_Every_first]
    exact k _ (fun c u hc e => by rw [upd_ne hc, upd_ne hc]; exact e) ⟨dx, upd_same⟩
end
end K12
namespace K12
open PySem L2
open DF (Rl fl dayDate dayNth isD byM Ok Fi)
section
variable {P : Program} {w : World} {K : PySem.W.Frag} {mg : Str → Option Value} {base : Heap} {a : Adr}
theorem sc_Weekly_weeks_over : FnScope ["self", "day"] ["self", "day"] (defScope s_Weekly_weeks_over) := ⟨rfl, rfl, rfl, by decide +kernel, rfl, by decide +kernel, by decide +kernel⟩
theorem ok_Weekly_weeks_over (T : TxtL K mg base a) : FnOk P w K mg base CX0 true 3 a.f_Weekly_weeks_over a.d_Weekly_weeks_over ["self", "day"] (sp_Weekly_weeks_over (ad a)) := by
  refine T.F_Weekly_weeks_over.ok sc_Weekly_weeks_over (fun vs H Q E h => ?_) (fun cdv A outer s H vs Q E hr h => ?_)
  · obtain ⟨x, d, mk, fi, e, rfl, _⟩ := h; rfl
  · obtain ⟨x, d, mk, fi, e, rfl, ⟨dx, hx⟩, e0, k⟩ := h
    refine ⟨_, (pss_one (ps_ret (pe_op op_mod (pe_op op_sub (pe_call ((ok_week_of T).mono (by decide)) hr rfl T.m_week_of T.F_week_of.kp T.b_week_of .nil pass0 (pa_cons (pv 1) pa_nil)) (pe_call ((ok_week_of T).mono (by decide)) hr rfl T.m_week_of T.F_week_of.kp T.b_week_of .nil pass0 (pa_cons (pe_fldK (K := K) rfl (pv 0)) pa_nil))) (pe_fldK (K := K) rfl (pv 0))))), ?_⟩
    exact ⟨_, rfl, d, rfl, _, rfl, x, _, dx, _, _, rfl, hx, T.cl_Weekly, T.n_Weekly_first, fl_Weekly_first _ _ _, fi, rfl, _, _, rfl, rfl, _, rfl, x, _, dx, _, _, rfl, hx, T.cl_Weekly, T.n_Weekly_every, fl_Weekly_every _ _ _, _, _, rfl, rfl, (by show (0 : Int) < e; omega), k⟩
end
end K12
namespace K12
open PySem L2
open DF (Rl fl dayDate dayNth isD byM Ok Fi)
section
variable {P : Program} {w : World} {K : PySem.W.Frag} {mg : Str → Option Value} {base : Heap} {a : Adr}
theorem sc_Days___init : FnScope ["self", "days", "day"] ["self", "days"] (defScope s_Days___init) := ⟨rfl, rfl, rfl, by decide +kernel, rfl, by decide +kernel, by decide +kernel⟩
theorem ok_Days___init (T : TxtL K mg base a) : FnOk P w K mg base CX0 true 3 a.f_Days___init a.d_Days___init ["self", "days"] (sp_Days_init (ad a)) := by
  refine T.F_Days___init.ok sc_Days___init (fun vs H Q E h => ?_) (fun cdv A outer s H vs Q E hr h => ?_)
  · obtain ⟨x, dx, p, ds, rfl, _⟩ := h; rfl
  · obtain ⟨x, dx, p, ds, rfl, hx, hp, ⟨hl0, hb⟩, k⟩ := h
    refine ⟨_, (pss_cons (ps_for PassesOwn.never rfl (pi_tupK (K := K) rfl (pv 1)) (pg_name (i := 2) sc_Days___init.nd rfl (Or.inl rfl)) (pss_one (ps_expr (pe_call ((ok_check_day T).mono (by decide)) hr rfl T.m_check_day T.F_check_day.kp T.b_check_day .nil pass0 (pa_cons (pv 2) pa_nil)))))
      (pss_one (ps_fldK (K := K) rfl (pv 0) (pe_callTy (call_tuple_ofK (K := K) rfl) rfl T.n_tuple (by decide +kernel) (pa_cons (pe_callB (call_sortedSF rfl) rfl T.n_sorted (by decide +kernel) (pa_cons (pe_callTy (call_setT rfl) rfl T.n_set (by decide +kernel) (pa_cons (pv 1) pa_nil)) pa_nil)) pa_nil))))), ?_⟩
    refine ⟨_, rfl, p, rfl, ⟨_, SqT.of hp⟩, ?_⟩
    refine for_seq (seq_tup (SqT.of hp)) (fun i σ H' => H' = H ∧ ∃ y, σ = [some (.ref x), some (.ref p), y]) ⟨rfl, _, rfl⟩ (fun _ _ _ _ h => h.1 ▸ Same.refl _) ?_ ?_
    · rintro i v σ H1 hv ⟨rfl, y, rfl⟩
      obtain ⟨b, hbm, rfl⟩ := List.mem_map.mp (List.mem_of_getElem? hv)
      obtain ⟨b0, b1⟩ := hb b hbm
      exact ⟨_, rfl, b, rfl, b0, b1, rfl, _, rfl⟩
    rintro σ H1 ⟨rfl, y, rfl⟩
    refine ⟨_, rfl, p, ds, rfl, hp, (by omega), fun D qs hD hmem hnd => ?_⟩
    have u1 := same_upd (o := .ext (SetI P w D qs)) hD
    have hq := nd_len hnd fun z hz => (hmem z).mp hz
    refine ⟨D, qs, rfl, upd_same, by omega, fun D2 ms hD2 hpm hlt => ?_⟩
    have hms : ∀ z, z ∈ ms ↔ z ∈ ds := fun z => by rw [hpm.mem_iff, hmem]
    have hlen : ms.length ≤ 1000 := by
      have := nd_len (hlt.imp fun h => by omega) fun z hz => (hms z).mp hz
      omega
    have u2 := same_upd (o := .lst (ms.map V.int)) hD2
    refine ⟨D2, _, rfl, .inl ⟨SqL.of upd_same, fun d hd => ?_⟩⟩
    have u3 := same_upd (o := .tup (ms.map V.int)) hd
    have U := (u1.trans u2).trans u3
    have nd : d ≠ x := fun e => by rw [e, (u1.trans u2) _ _ hx] at hd; cases hd
    refine ⟨_, rfl, x, _, dx, _, rfl, U _ _ hx, T.cl_Days, T.n_Days_days, (by show 0 < 1000; decide), ?_⟩
    rw [pf_Days_days]
    exact k _ (fun c u hc e => by rw [upd_ne hc]; exact U _ _ e) ⟨dx, d, ms, upd_same, by rw [upd_ne nd]; exact upd_same, hlt, hlen, hms⟩
end
end K12
namespace K12
open PySem L2
open DF (Rl fl dayDate dayNth isD byM Ok Fi)
section
variable {P : Program} {w : World} {K : PySem.W.Frag} {mg : Str → Option Value} {base : Heap} {a : Adr}
theorem sc_Where_next_in : FnScope ["self", "day", "end", "found"] ["self", "day", "end"] (defScope s_Where_next_in) := ⟨rfl, rfl, rfl, by decide +kernel, rfl, by decide +kernel, by decide +kernel⟩
theorem ok_Where_next_in (T : TxtL K mg base a) : FnOk P w K mg base CX0 true 3 a.f_Where_next_in a.d_Where_next_in ["self", "day", "end"] (sp_Where_next_in (ad a)) := by
  refine T.F_Where_next_in.ok sc_Where_next_in (fun vs H Q E h => ?_) (fun cdv A outer s H vs Q E hr h => ?_)
  · obtain ⟨x, b, e, m, r, rfl, _⟩ := h; rfl
  · obtain ⟨x, b, e, m, r, rfl, hr0, ok, ⟨w1, w2, w3, w4⟩, k1, k2⟩ := h
    refine ⟨_, (pss_cons (ps_for PassesOwn.never rfl (pi_range2 rfl T.n_range (pa_cons (pe_callB (call_max2 rfl) rfl T.n_max (by decide +kernel) (pa_cons (pv 1) (pa_cons pe_int pa_nil))) (pa_cons (pe_callB (call_min2 rfl) rfl T.n_min (by decide +kernel) (pa_cons (pv 2) (pa_cons (pe_globI rfl T.g_DAYS) pa_nil))) pa_nil))) (pg_name (i := 3) sc_Where_next_in.nd rfl (Or.inl rfl)) (pss_one (ps_if (pt_val (pe_methV (n := 1) (D := fun C R => (C = a.x_Where ∧ R = fun x vs H Q => (sp_Where_falls_on (ad a)) (x :: (vs ++ ([] : List V))) H Q E0)) (pv 0) (by rintro C R ⟨rfl, rfl⟩ <;> first | exact ⟨T.cl_Where, _, _, _, _, _, _, _, _, _, _, T.me_Where_falls_on, (ok_Where_falls_on T).mono (by decide), hr, T.b_Where_falls_on, .nil, pass0, fun _ _ _ _ _ h => h⟩) (pa_cons (pv 3) pa_nil))) (pss_one (ps_ret (pv 3))) pss_nil)))
      (pss_one (ps_ret pe_non))), ?_⟩
    obtain ⟨dx, f, t, hx, hl⟩ := id hr0
    refine ⟨_, rfl, _, _, rfl, _, rfl, _, _, rfl, ?_⟩
    refine ⟨_, _, rfl, ?_, ?_⟩
    · refine ⟨?_, ?_, ?_, ?_⟩ <;> split <;> omega
    generalize hlo : (if 0 > b then 0 else b) = lo
    have l1 : 0 ≤ lo ∧ b ≤ lo := by rw [← hlo]; split <;> omega
    have l2 : ∀ k, b ≤ k → k < lo → k < 0 := fun k h1 h2 => by rw [← hlo] at h2; split at h2 <;> omega
    generalize hhi : (if 146097 < e then 146097 else e) = hi
    have u1 : hi ≤ e ∧ hi ≤ 146097 := by rw [← hhi]; split <;> omega
    have u2 : e ≤ hi ∨ 146097 ≤ hi := by rw [← hhi]; split <;> omega
    refine for_range (fun i σ H' => H = H' ∧ DN.No (.wh m r) b (lo + (i : Int)) ∧ ∃ y, σ = [some (.ref x), some (.int b), some (.int e), y]) ⟨rfl, (fun k h1 h2 => DF.fl_out ok (.inl (l2 k h1 (by omega)))), _, rfl⟩ ?_ ?_
    · rintro i σ _ hi1 ⟨rfl, hn, y, rfl⟩
      refine ⟨_, rfl, x, _, dx, _, _, rfl, hx, no_Where_falls_on _, ⟨rfl, rfl⟩, _, rfl, rfl, x, _, m, r, rfl, hr0, ok, by omega, by omega, _, rfl, ?_⟩
      cases hv : fl (.wh m r) (lo + (i : Int)) with
      | true => exact iteT ⟨_, rfl, k1 _ (by omega) (by omega) hv hn⟩
      | false =>
        refine iteF ⟨rfl, ?_, _, rfl⟩
        have := hn.step hv
        rwa [show lo + ((i + 1 : Nat) : Int) = lo + (i : Int) + 1 by omega]
    · rintro σ _ ⟨rfl, hn, y, rfl⟩
      exact k2 (hn.stop ok (by omega))
theorem ok_Where_next_inB (T : TxtL K mg base a) : FnOk P w K mg base CX0 true 3 a.f_Where_next_in a.d_Where_next_in ["self", "day", "end"] (sp_Where_next_inB a.x_Where) := by
  refine T.F_Where_next_in.ok sc_Where_next_in (fun vs H Q E h => ?_) (fun cdv A outer s H vs Q E hr h => ?_)
  · obtain ⟨x, dx, f, L, cd, cl, xs, b, e, rfl, _⟩ := h; rfl
  · obtain ⟨x, dx, f, L, cd, cl, xs, b, e, rfl, hx, hD, hL, hl, ⟨w1, w2, w3, w4⟩, hfew, k⟩ := h
    refine ⟨_, (pss_cons (ps_for PassesOwn.never rfl (pi_range2 rfl T.n_range (pa_cons (pe_callB (call_max2 rfl) rfl T.n_max (by decide +kernel) (pa_cons (pv 1) (pa_cons pe_int pa_nil))) (pa_cons (pe_callB (call_min2 rfl) rfl T.n_min (by decide +kernel) (pa_cons (pv 2) (pa_cons (pe_globI rfl T.g_DAYS) pa_nil))) pa_nil))) (pg_name (i := 3) sc_Where_next_in.nd rfl (Or.inl rfl)) (pss_one (ps_if (pt_val (pe_methV (n := 1) (D := fun C R => (C = a.x_Where ∧ R = fun x vs H Q => (sp_Where_falls_onB a.x_Where) (x :: (vs ++ ([] : List V))) H Q E0)) (pv 0) (by rintro C R ⟨rfl, rfl⟩ <;> first | exact ⟨T.cl_Where, _, _, _, _, _, _, _, _, _, _, T.me_Where_falls_on, (ok_Where_falls_onB T).mono (by decide), hr, T.b_Where_falls_on, .nil, pass0, fun _ _ _ _ _ h => h⟩) (pa_cons (pv 3) pa_nil))) (pss_one (ps_ret (pv 3))) pss_nil)))
      (pss_one (ps_ret pe_non))), ?_⟩
    refine ⟨_, rfl, _, _, rfl, _, rfl, _, _, rfl, ?_⟩
    refine ⟨_, _, rfl, ?_, ?_⟩
    · refine ⟨?_, ?_, ?_, ?_⟩ <;> split <;> omega
    generalize hlo : (if 0 > b then 0 else b) = lo
    have l1 : 0 ≤ lo ∧ b ≤ lo := by rw [← hlo]; split <;> omega
    have l2 : ∀ k, 0 ≤ k → b ≤ k → lo ≤ k := fun k h0 h1 => by rw [← hlo]; split <;> omega
    generalize hhi : (if 146097 < e then 146097 else e) = hi
    have u1 : hi ≤ e ∧ hi ≤ 146097 := by rw [← hhi]; split <;> omega
    have u2 : e ≤ hi ∨ 146097 ≤ hi := by rw [← hhi]; split <;> omega
    have u3 : hi - lo ≤ 50 := by
      by_cases h : lo + 50 < hi
      · have := hfew lo l1.1 l1.2 (by omega)
        omega
      · omega
    refine for_range (fun i σ H' => (∀ k, 0 ≤ k → b ≤ k → k < lo + (i : Int) → k % 5 ≠ 3) ∧ (∃ ds : List Int, SameX L H H' ∧ H' L = some (.lst (xs ++ ds.map V.int)) ∧ (∀ d ∈ ds, 0 ≤ d ∧ d < 146097) ∧ ds.length = i) ∧ ∃ y, σ = [some (.ref x), some (.int b), some (.int e), y]) ⟨?_, ⟨[], fun _ _ _ h => h, ?_, (fun _ h => nomatch h), rfl⟩, _, rfl⟩ ?_ ?_
    
    · intro k h0 h1 h2
      have := l2 k h0 h1
      omega
    · rw [List.map_nil, List.append_nil]
      exact hL
    · rintro i σ H4 hi1 ⟨hn, ⟨ds, s4, hL4, hds, hl4⟩, y, rfl⟩
      have d0 : 0 ≤ lo + (i : Int) ∧ lo + (i : Int) < hi := by omega
      generalize hd : lo + (i : Int) = d at *
      have xL : x ≠ L := fun z => by rw [z, hL] at hx; cases hx
      have hx4 := s4 _ _ xL hx
      have hD4 := DefIs.upX hD hL s4
      refine ⟨_, rfl, x, _, dx, _, _, rfl, hx4, no_Where_falls_on _, ⟨rfl, rfl⟩, _, rfl, rfl, x, dx, f, L, cd, cl, _, d, rfl, hx4, hD4, hL4, ?_, fun z => ?_, fun _ H5 s5 hL5 => ⟨_, rfl, ?_⟩⟩
      · rw [List.length_append, List.length_map]
        omega
      · rw [DF.isD_iff.mpr ⟨by omega, by omega⟩] at z
        cases z
      have s6 : SameX L H H5 := fun b u hb e => s5 _ _ hb (s4 _ _ hb e)
      have hL6 : H5 L = some (.lst (xs ++ (ds ++ [d]).map V.int)) := by
        rw [hL5, List.map_append, List.append_assoc]
        rfl
      have hds6 : ∀ z ∈ ds ++ [d], 0 ≤ z ∧ z < 146097 := fun z hz => by
        rcases List.mem_append.mp hz with hz | hz
        · exact hds z hz
        · rw [List.mem_singleton] at hz; subst hz; omega
      have hl6 : (ds ++ [d]).length = i + 1 := by rw [List.length_append, hl4]; rfl
      refine ite2 (fun z => ?_) (fun z => ?_)
      · exact ⟨_, rfl, k (some d) _ _ s6 hL6 hds6 (by omega) ⟨by omega, by omega, by omega, by omega, of_decide_eq_true z, hn⟩⟩
      · refine ⟨fun q q0 q1 q2 => ?_, ⟨_, s6, hL6, hds6, hl6⟩, _, rfl⟩
        by_cases hq : q < d
        · exact hn q q0 q1 hq
        · rw [show q = d by omega]
          exact fun w => z (decide_eq_true w)
    · rintro σ H4 ⟨hn, ⟨ds, s4, hL4, hds, hl4⟩, y, rfl⟩
      exact k none _ _ s4 hL4 hds (by omega) fun q q0 q1 q2 q3 => hn q q0 q1 (by omega)
end
end K12
namespace K12
open PySem L2
open DF (Rl fl dayDate dayNth isD byM Ok Fi)
section
variable {P : Program} {w : World} {K : PySem.W.Frag} {mg : Str → Option Value} {base : Heap} {a : Adr}
theorem sc_law_date : FnScope ["_law_day_here", "_law_year_here", "_law_left", "_law_month"] ["_law_day_here"] (defScope s_law_date) := ⟨rfl, rfl, rfl, by decide +kernel, rfl, by decide +kernel, by decide +kernel⟩
theorem ok_law_date (T : TxtL K mg base a) : FnOk P w K mg base CX0 true 3 a.f_law_date a.d_law_date ["_law_day_here"] (sp_law_date) := by
  refine T.F_law_date.ok sc_law_date (fun vs H Q E h => ?_) (fun cdv A outer s H vs Q E hr h => ?_)
  · obtain ⟨d, rfl, _⟩ := h; rfl
  · obtain ⟨d, rfl, h0, h1, k⟩ := h
    refine ⟨_, (pss_cons (ps_set (i := 1) sc_law_date.nd rfl (Or.inl rfl) (pe_op op_add pe_int (pe_op op_fdiv (pe_op op_mul (pv 0) pe_int) pe_int)))
      (pss_cons (ps_if (pt_cmpR op_gt (pe_call ((ok_law_year T).mono (by decide)) hr rfl T.m_law_year T.F_law_year.kp T.b_law_year .nil pass0 (pa_cons (pv 1) pa_nil)) (pv 0) (nomark _)) (pss_one (ps_set (i := 1) sc_law_date.nd rfl (Or.inl rfl) (pe_op op_sub (pv 1) pe_int))) (pss_one (ps_if (pt_cmpR op_le (pe_call ((ok_law_year T).mono (by decide)) hr rfl T.m_law_year T.F_law_year.kp T.b_law_year .nil pass0 (pa_cons (pe_op op_add (pv 1) pe_int) pa_nil)) (pv 0) (nomark _)) (pss_one (ps_set (i := 1) sc_law_date.nd rfl (Or.inl rfl) (pe_op op_add (pv 1) pe_int))) pss_nil)))
      (pss_cons (ps_set (i := 2) sc_law_date.nd rfl (Or.inl rfl) (pe_op op_sub (pv 0) (pe_call ((ok_law_year T).mono (by decide)) hr rfl T.m_law_year T.F_law_year.kp T.b_law_year .nil pass0 (pa_cons (pv 1) pa_nil))))
      (pss_cons (ps_set (i := 3) sc_law_date.nd rfl (Or.inl rfl) pe_int)
      (pss_cons (ps_while PassesOwn.never (pt_cmpR op_ge (pv 2) (pe_call ((ok_law_length T).mono (by decide)) hr rfl T.m_law_length T.F_law_length.kp T.b_law_length .nil pass0 (pa_cons (pv 1) (pa_cons (pv 3) pa_nil))) (nomark _)) (pss_cons (ps_set (i := 2) sc_law_date.nd rfl (Or.inl rfl) (pe_op op_sub (pv 2) (pe_call ((ok_law_length T).mono (by decide)) hr rfl T.m_law_length T.F_law_length.kp T.b_law_length .nil pass0 (pa_cons (pv 1) (pa_cons (pv 3) pa_nil)))))
      (pss_one (ps_set (i := 3) sc_law_date.nd rfl (Or.inl rfl) (pe_op op_add (pv 3) pe_int)))))
      (pss_one (ps_ret (pe_tup (pa_cons (pv 1) (pa_cons (pv 3) (pa_cons (pe_op op_add (pv 2) pe_int) pa_nil))))))))))), ?_⟩
    obtain ⟨y1, y2, y3, y4⟩ := DM.yr_ok h0 h1
    refine ⟨_, rfl, _, _, rfl, rfl, .inr ⟨by decide, by decide⟩, _, _, rfl, rfl, ⟨by decide, by decide⟩, _, _, rfl, rfl, ?_⟩
    refine ⟨_, rfl, _, rfl, _, rfl, _, _, rfl, rfl, _, rfl, ?_⟩
    refine ite2 (fun e1 => ?_) (fun e1 => ?_)
    · refine ⟨_, rfl, _, _, rfl, rfl, ?_⟩
      have e : 2000 + d * 400 / 146097 - 1 = DM.yr d := by unfold DM.yr; rw [if_pos (of_decide_eq_true e1)]
      have z1 : DM.year (2000 + d * 400 / 146097 - 1) ≤ d := by rw [e]; exact y1
      have z2 : d < DM.year ((2000 + d * 400 / 146097 - 1) + 1) := by rw [e]; exact y2
      have z3 : 2000 ≤ 2000 + d * 400 / 146097 - 1 := by rw [e]; exact y3
      have z4 : 2000 + d * 400 / 146097 - 1 < 2400 := by rw [e]; exact y4
      refine ⟨_, rfl, _, rfl, _, rfl, _, _, rfl, rfl, ?_⟩
      refine ⟨fun m σ H' => ∃ mo left : Int, σ = [some (.int d), some (.int (2000 + d * 400 / 146097 - 1)), some (.int left), some (.int mo)] ∧ 1 ≤ mo ∧ mo ≤ 12 ∧ 0 ≤ left ∧ DM.mb (12 * ((2000 + d * 400 / 146097 - 1) - 2000) + (mo - 1)) + left = d ∧ Same H H' ∧ m = (12 - mo).toNat, ⟨11, 1, d - DM.year (2000 + d * 400 / 146097 - 1), rfl, by omega, by omega, by omega, ?_, Same.refl _, rfl⟩, ?_⟩
      · rw [show (12 * ((2000 + d * 400 / 146097 - 1) - 2000) + (1 - 1 : Int)) = 12 * ((2000 + d * 400 / 146097 - 1) - 2000) by omega, DM.mb_year]
        omega
      · rintro m σ H1 ⟨mo, left, rfl, m1, m2, m3, m4, sm, rfl⟩
        generalize 2000 + d * 400 / 146097 - 1 = Y at *
        have en : (12 * (Y - 2000) + (mo - 1)) / 12 = Y - 2000 := by omega
        have er : (12 * (Y - 2000) + (mo - 1)) % 12 = mo - 1 := by omega
        have ms := DM.mb_succ (12 * (Y - 2000) + (mo - 1))
        rw [en, er, show (2000 : Int) + (Y - 2000) = Y by omega, show mo - 1 + 1 = mo by omega] at ms
        refine ⟨_, rfl, _, rfl, _, rfl, _, _, rfl, fun H2 s2 => ⟨_, _, rfl, rfl, _, rfl, ?_⟩⟩
        refine ite2 (fun e2 => ?_) (fun e2 => ?_)
        · have e2' := of_decide_eq_true e2
          have m12 : mo ≠ 12 := by
            intro z
            subst z
            have := DM.mb_year (Y + 1)
            rw [show 12 * (Y + 1 - 2000) = 12 * (Y - 2000) + (12 - 1) + 1 by omega] at this
            omega
          refine ⟨fun σ H' => ∃ m, m < (12 - mo).toNat ∧ (∃ mo left : Int, σ = [some (.int d), some (.int Y), some (.int left), some (.int mo)] ∧ 1 ≤ mo ∧ mo ≤ 12 ∧ 0 ≤ left ∧ DM.mb (12 * (Y - 2000) + (mo - 1)) + left = d ∧ Same H H' ∧ m = (12 - mo).toNat), fun _ _ z => z, ?_⟩
          refine ⟨_, rfl, _, rfl, _, rfl, _, _, rfl, fun H3 s3 => ⟨_, _, rfl, rfl, ?_⟩⟩
          refine ⟨_, rfl, _, _, rfl, rfl, ?_⟩
          refine ⟨(12 - (mo + 1)).toNat, by omega, mo + 1, left - DM.len Y mo, rfl, by omega, by omega, by omega, ?_, (sm.trans s2).trans s3, rfl⟩
          rw [show 12 * (Y - 2000) + (mo + 1 - 1) = 12 * (Y - 2000) + (mo - 1) + 1 by omega]
          omega
        · have e2' : ¬ DM.len Y mo ≤ left := fun z => e2 (decide_eq_true z)
          refine ⟨_, rfl, _, rfl, _, rfl, _, _, rfl, rfl, (by show 3 ≤ sizeLine; decide), fun p hp => ?_⟩
          have em : DM.mo d = 12 * (Y - 2000) + (mo - 1) := DM.mo_eq h0 h1 (by omega) (by omega)
          refine k p _ ((sm.trans s2).trans (same_upd hp)) ((sm.trans s2).free hp) ?_
          rw [upd_same, em, en, er]
          rw [show (2000 : Int) + (Y - 2000) = Y by omega, show mo - 1 + 1 = mo by omega, show d - DM.mb (12 * (Y - 2000) + (mo - 1)) + 1 = left + 1 by omega]
    · refine ⟨_, rfl, _, _, rfl, rfl, _, rfl, _, rfl, _, _, rfl, rfl, _, rfl, ?_⟩
      refine ite2 (fun e3 => ?_) (fun e3 => ?_)
      · refine ⟨_, rfl, _, _, rfl, rfl, ?_⟩
        have e : 2000 + d * 400 / 146097 + 1 = DM.yr d := by unfold DM.yr; rw [if_neg (fun z => e1 (decide_eq_true z)), if_pos (of_decide_eq_true e3)]
        have z1 : DM.year (2000 + d * 400 / 146097 + 1) ≤ d := by rw [e]; exact y1
        have z2 : d < DM.year ((2000 + d * 400 / 146097 + 1) + 1) := by rw [e]; exact y2
        have z3 : 2000 ≤ 2000 + d * 400 / 146097 + 1 := by rw [e]; exact y3
        have z4 : 2000 + d * 400 / 146097 + 1 < 2400 := by rw [e]; exact y4
        refine ⟨_, rfl, _, rfl, _, rfl, _, _, rfl, rfl, ?_⟩
        refine ⟨fun m σ H' => ∃ mo left : Int, σ = [some (.int d), some (.int (2000 + d * 400 / 146097 + 1)), some (.int left), some (.int mo)] ∧ 1 ≤ mo ∧ mo ≤ 12 ∧ 0 ≤ left ∧ DM.mb (12 * ((2000 + d * 400 / 146097 + 1) - 2000) + (mo - 1)) + left = d ∧ Same H H' ∧ m = (12 - mo).toNat, ⟨11, 1, d - DM.year (2000 + d * 400 / 146097 + 1), rfl, by omega, by omega, by omega, ?_, Same.refl _, rfl⟩, ?_⟩
        · rw [show (12 * ((2000 + d * 400 / 146097 + 1) - 2000) + (1 - 1 : Int)) = 12 * ((2000 + d * 400 / 146097 + 1) - 2000) by omega, DM.mb_year]
          omega
        · rintro m σ H1 ⟨mo, left, rfl, m1, m2, m3, m4, sm, rfl⟩
          generalize 2000 + d * 400 / 146097 + 1 = Y at *
          have en : (12 * (Y - 2000) + (mo - 1)) / 12 = Y - 2000 := by omega
          have er : (12 * (Y - 2000) + (mo - 1)) % 12 = mo - 1 := by omega
          have ms := DM.mb_succ (12 * (Y - 2000) + (mo - 1))
          rw [en, er, show (2000 : Int) + (Y - 2000) = Y by omega, show mo - 1 + 1 = mo by omega] at ms
          refine ⟨_, rfl, _, rfl, _, rfl, _, _, rfl, fun H2 s2 => ⟨_, _, rfl, rfl, _, rfl, ?_⟩⟩
          refine ite2 (fun e2 => ?_) (fun e2 => ?_)
          · have e2' := of_decide_eq_true e2
            have m12 : mo ≠ 12 := by
              intro z
              subst z
              have := DM.mb_year (Y + 1)
              rw [show 12 * (Y + 1 - 2000) = 12 * (Y - 2000) + (12 - 1) + 1 by omega] at this
              omega
            refine ⟨fun σ H' => ∃ m, m < (12 - mo).toNat ∧ (∃ mo left : Int, σ = [some (.int d), some (.int Y), some (.int left), some (.int mo)] ∧ 1 ≤ mo ∧ mo ≤ 12 ∧ 0 ≤ left ∧ DM.mb (12 * (Y - 2000) + (mo - 1)) + left = d ∧ Same H H' ∧ m = (12 - mo).toNat), fun _ _ z => z, ?_⟩
            refine ⟨_, rfl, _, rfl, _, rfl, _, _, rfl, fun H3 s3 => ⟨_, _, rfl, rfl, ?_⟩⟩
            refine ⟨_, rfl, _, _, rfl, rfl, ?_⟩
            refine ⟨(12 - (mo + 1)).toNat, by omega, mo + 1, left - DM.len Y mo, rfl, by omega, by omega, by omega, ?_, (sm.trans s2).trans s3, rfl⟩
            rw [show 12 * (Y - 2000) + (mo + 1 - 1) = 12 * (Y - 2000) + (mo - 1) + 1 by omega]
            omega
          · have e2' : ¬ DM.len Y mo ≤ left := fun z => e2 (decide_eq_true z)
            refine ⟨_, rfl, _, rfl, _, rfl, _, _, rfl, rfl, (by show 3 ≤ sizeLine; decide), fun p hp => ?_⟩
            have em : DM.mo d = 12 * (Y - 2000) + (mo - 1) := DM.mo_eq h0 h1 (by omega) (by omega)
            refine k p _ ((sm.trans s2).trans (same_upd hp)) ((sm.trans s2).free hp) ?_
            rw [upd_same, em, en, er]
            rw [show (2000 : Int) + (Y - 2000) = Y by omega, show mo - 1 + 1 = mo by omega, show d - DM.mb (12 * (Y - 2000) + (mo - 1)) + 1 = left + 1 by omega]
      · have e : 2000 + d * 400 / 146097 = DM.yr d := by unfold DM.yr; rw [if_neg (fun z => e1 (decide_eq_true z)), if_neg (fun z => e3 (decide_eq_true z))]
        have z1 : DM.year (2000 + d * 400 / 146097) ≤ d := by rw [e]; exact y1
        have z2 : d < DM.year ((2000 + d * 400 / 146097) + 1) := by rw [e]; exact y2
        have z3 : 2000 ≤ 2000 + d * 400 / 146097 := by rw [e]; exact y3
        have z4 : 2000 + d * 400 / 146097 < 2400 := by rw [e]; exact y4
        refine ⟨_, rfl, _, rfl, _, rfl, _, _, rfl, rfl, ?_⟩
        refine ⟨fun m σ H' => ∃ mo left : Int, σ = [some (.int d), some (.int (2000 + d * 400 / 146097)), some (.int left), some (.int mo)] ∧ 1 ≤ mo ∧ mo ≤ 12 ∧ 0 ≤ left ∧ DM.mb (12 * ((2000 + d * 400 / 146097) - 2000) + (mo - 1)) + left = d ∧ Same H H' ∧ m = (12 - mo).toNat, ⟨11, 1, d - DM.year (2000 + d * 400 / 146097), rfl, by omega, by omega, by omega, ?_, Same.refl _, rfl⟩, ?_⟩
        · rw [show (12 * ((2000 + d * 400 / 146097) - 2000) + (1 - 1 : Int)) = 12 * ((2000 + d * 400 / 146097) - 2000) by omega, DM.mb_year]
          omega
        · rintro m σ H1 ⟨mo, left, rfl, m1, m2, m3, m4, sm, rfl⟩
          generalize 2000 + d * 400 / 146097 = Y at *
          have en : (12 * (Y - 2000) + (mo - 1)) / 12 = Y - 2000 := by omega
          have er : (12 * (Y - 2000) + (mo - 1)) % 12 = mo - 1 := by omega
          have ms := DM.mb_succ (12 * (Y - 2000) + (mo - 1))
          rw [en, er, show (2000 : Int) + (Y - 2000) = Y by omega, show mo - 1 + 1 = mo by omega] at ms
          refine ⟨_, rfl, _, rfl, _, rfl, _, _, rfl, fun H2 s2 => ⟨_, _, rfl, rfl, _, rfl, ?_⟩⟩
          refine ite2 (fun e2 => ?_) (fun e2 => ?_)
          · have e2' := of_decide_eq_true e2
            have m12 : mo ≠ 12 := by
              intro z
              subst z
              have := DM.mb_year (Y + 1)
              rw [show 12 * (Y + 1 - 2000) = 12 * (Y - 2000) + (12 - 1) + 1 by omega] at this
              omega
            refine ⟨fun σ H' => ∃ m, m < (12 - mo).toNat ∧ (∃ mo left : Int, σ = [some (.int d), some (.int Y), some (.int left), some (.int mo)] ∧ 1 ≤ mo ∧ mo ≤ 12 ∧ 0 ≤ left ∧ DM.mb (12 * (Y - 2000) + (mo - 1)) + left = d ∧ Same H H' ∧ m = (12 - mo).toNat), fun _ _ z => z, ?_⟩
            refine ⟨_, rfl, _, rfl, _, rfl, _, _, rfl, fun H3 s3 => ⟨_, _, rfl, rfl, ?_⟩⟩
            refine ⟨_, rfl, _, _, rfl, rfl, ?_⟩
            refine ⟨(12 - (mo + 1)).toNat, by omega, mo + 1, left - DM.len Y mo, rfl, by omega, by omega, by omega, ?_, (sm.trans s2).trans s3, rfl⟩
            rw [show 12 * (Y - 2000) + (mo + 1 - 1) = 12 * (Y - 2000) + (mo - 1) + 1 by omega]
            omega
          · have e2' : ¬ DM.len Y mo ≤ left := fun z => e2 (decide_eq_true z)
            refine ⟨_, rfl, _, rfl, _, rfl, _, _, rfl, rfl, (by show 3 ≤ sizeLine; decide), fun p hp => ?_⟩
            have em : DM.mo d = 12 * (Y - 2000) + (mo - 1) := DM.mo_eq h0 h1 (by omega) (by omega)
            refine k p _ ((sm.trans s2).trans (same_upd hp)) ((sm.trans s2).free hp) ?_
            rw [upd_same, em, en, er]
            rw [show (2000 : Int) + (Y - 2000) = Y by omega, show mo - 1 + 1 = mo by omega, show d - DM.mb (12 * (Y - 2000) + (mo - 1)) + 1 = left + 1 by omega]
end
end K12
namespace K12
open PySem L2
open DF (Rl fl dayDate dayNth isD byM Ok Fi)
section
variable {P : Program} {w : World} {K : PySem.W.Frag} {mg : Str → Option Value} {base : Heap} {a : Adr}
theorem sc_law_day : FnScope ["_law_year_here", "_law_month", "_law_date_here"] ["_law_year_here", "_law_month", "_law_date_here"] (defScope s_law_day) := ⟨rfl, rfl, rfl, by decide +kernel, rfl, by decide +kernel, by decide +kernel⟩
theorem ok_law_day (T : TxtL K mg base a) : FnOk P w K mg base CX0 true 3 a.f_law_day a.d_law_day ["_law_year_here", "_law_month", "_law_date_here"] (sp_law_day) := by
  refine T.F_law_day.ok sc_law_day (fun vs H Q E h => ?_) (fun cdv A outer s H vs Q E hr h => ?_)
  · obtain ⟨y, m, d, rfl, _⟩ := h; rfl
  · obtain ⟨y, m, d, rfl, h1, h2, k⟩ := h
    refine ⟨_, (pss_one (ps_ret (pe_op op_sub (pe_op op_add (pe_op op_add (pe_call ((ok_law_year T).mono (by decide)) hr rfl T.m_law_year T.F_law_year.kp T.b_law_year .nil pass0 (pa_cons (pv 0) pa_nil)) (pe_callB (call_sumK (K := K) rfl rfl) rfl T.n_sum (by decide +kernel) (pa_cons (pe_comp (N := ["_law_one", "_law_year_here"]) (cap := [none, some 0]) (by show CompScope (defScope s_law_day) _ ["_law_year_here", "_law_month", "_law_date_here"] _ _; exact ⟨rfl, by decide +kernel, by decide +kernel, by decide +kernel, by decide +kernel, rfl, by decide +kernel⟩) rfl (pi_range2 rfl T.n_range (pa_cons pe_int (pa_cons (pv 1) pa_nil))) (fun C s H fp => ⟨(pg_name (i := 0) (by show (["_law_one", "_law_year_here"] : List Str).Nodup; decide +kernel) rfl (Or.inl rfl) (.inr rfl)), pf_none, (pe_call ((ok_law_length T).mono (by decide)) hr rfl T.m_law_length T.F_law_length.kp T.b_law_length .nil pass0 (pa_cons (pv 1) (pa_cons (pv 0) pa_nil)))⟩)) pa_nil))) (pv 2)) pe_int))), ?_⟩
    refine ⟨_, rfl, _, rfl, ?_⟩
    refine ⟨_, rfl, _, _, rfl, ⟨by omega, by omega, by omega, by omega⟩, ?_⟩
    refine comp_pure (seq_range 1 (m - 1).toNat _) (fun _ => true) (fun v => match v with | .int i => V.int (DM.len y i) | v => v) ?_ ?_ ?_ ?_
    · rw [List.length_map, List.length_range]
      omega
    · exact fun x _ H' _ R hR => hR H' (Same.refl _)
    · intro x hx _ H' _ R hR
      obtain ⟨i, _, rfl⟩ := List.mem_map.mp hx
      exact ⟨_, rfl, _, rfl, y, _, rfl, fun H2 s2 => hR H2 s2⟩
    · intro D H' sm _ hD
      refine ⟨D, (List.range (m - 1).toNat).map fun (i : Nat) => DM.len y (1 + (i : Int)), rfl, SqL.of ?_, _, _, rfl, rfl, _, rfl, _, _, rfl, rfl, _, _, rfl, rfl, ?_⟩
      · rw [hD, List.filter_eq_self.mpr (fun _ _ => rfl), List.map_map, List.map_map]
        rfl
      · have q := k H' sm
        have e := DM.mb_sums y (m - 1).toNat (by omega)
        rw [show (((m - 1).toNat : Nat) : Int) = m - 1 by omega] at e
        rw [e, ← sums_range] at q
        exact q
end
end K12
namespace K12
open PySem L2
open DF (Rl fl dayDate dayNth isD byM Ok Fi)
section
variable {P : Program} {w : World} {K : PySem.W.Frag} {mg : Str → Option Value} {base : Heap} {a : Adr}
theorem sc_date_of : FnScope ["day", "number"] ["day"] (defScope s_date_of) := ⟨rfl, rfl, rfl, by decide +kernel, rfl, by decide +kernel, by decide +kernel⟩
theorem ok_date_of (T : TxtL K mg base a) : FnOk P w K mg base CX0 true 4 a.f_date_of a.d_date_of ["day"] (sp_date_of) := by
  refine T.F_date_of.ok sc_date_of (fun vs H Q E h => ?_) (fun cdv A outer s H vs Q E hr h => ?_)
  · obtain ⟨d, rfl, _⟩ := h; rfl
  · obtain ⟨d, rfl, h0, h1, k⟩ := h
    refine ⟨_, (pss_cons (ps_if (pt_not (pt_val (pe_call ((ok_is_day T).mono (by decide)) hr rfl T.m_is_day T.F_is_day.kp T.b_is_day .nil pass0 (pa_cons (pv 0) pa_nil)))) (pss_one ps_never) pss_nil)
      (pss_cons (ps_set (i := 1) sc_date_of.nd rfl (Or.inl rfl) (pe_call ((ok_month_of T).mono (by decide)) hr rfl T.m_month_of T.F_month_of.kp T.b_month_of .nil pass0 (pa_cons (pv 0) pa_nil)))
      (pss_one (ps_ret (pe_tup (pa_cons (pe_op op_add (pe_globI rfl T.g_FIRST_YEAR) (pe_op op_fdiv (pv 1) pe_int)) (pa_cons (pe_op op_add (pe_op op_mod (pv 1) pe_int) pe_int) (pa_cons (pe_op op_add (pe_op op_sub (pv 0) (pe_call ((ok_month_begin T).mono (by decide)) hr rfl T.m_month_begin T.F_month_begin.kp T.b_month_begin .nil pass0 (pa_cons (pv 1) pa_nil))) pe_int) pa_nil)))))))), ?_⟩
    refine ⟨_, rfl, d, rfl, _, rfl, ?_⟩
    refine iteNS ⟨h0, h1⟩ ?_
    refine ⟨_, rfl, _, rfl, ?_⟩
    exact ⟨_, rfl, _, _, rfl, rfl, ⟨by decide, by decide⟩, _, _, rfl, rfl, _, rfl, _, _, rfl, rfl, (by show (0 : Int) < 12; decide), _, _, rfl, rfl, _, rfl, _, rfl, _, rfl, _, _, rfl, rfl, _, _, rfl, rfl, (by show 3 ≤ sizeLine; decide), fun p hp => k p _ (same_upd hp) hp upd_same⟩
end
end K12
namespace K12
open PySem L2
open DF (Rl fl dayDate dayNth isD byM Ok Fi)
section
variable {P : Program} {w : World} {K : PySem.W.Frag} {mg : Str → Option Value} {base : Heap} {a : Adr}
theorem sc_Weekly_next_in : FnScope ["self", "day", "end", "found", "stop", "over"] ["self", "day", "end"] (defScope s_Weekly_next_in) := ⟨rfl, rfl, rfl, by decide +kernel, rfl, by decide +kernel, by decide +kernel⟩
theorem ok_Weekly_next_in (T : TxtL K mg base a) : FnOk P w K mg base CX0 true 4 a.f_Weekly_next_in a.d_Weekly_next_in ["self", "day", "end"] (sp_Weekly_next_in (ad a)) := by
  refine T.F_Weekly_next_in.ok sc_Weekly_next_in (fun vs H Q E h => ?_) (fun cdv A outer s H vs Q E hr h => ?_)
  · obtain ⟨x, b, e, mk, fi, ev, rfl, _⟩ := h; rfl
  · obtain ⟨x, b, e, mk, fi, ev, rfl, hr0, ok, k1, k2⟩ := h
    refine ⟨_, (pss_cut (ps_set (i := 3) sc_Weekly_next_in.nd rfl (Or.inl rfl) (pe_callB (call_max2 rfl) rfl T.n_max (by decide +kernel) (pa_cons (pv 1) (pa_cons (pe_fldK (K := K) rfl (pv 0)) pa_nil))))
      (pss_cut (ps_set (i := 4) sc_Weekly_next_in.nd rfl (Or.inl rfl) (pe_callB (call_min2 rfl) rfl T.n_min (by decide +kernel) (pa_cons (pv 2) (pa_cons (pe_globI rfl T.g_DAYS) pa_nil))))
      (pss_cons (ps_while PassesOwn.never (pt_cmpR op_lt (pv 3) (pv 4) (nomark _)) (pss_cons (ps_set (i := 5) sc_Weekly_next_in.nd rfl (Or.inl rfl) (pe_methV (n := 1) (D := fun C R => (C = a.x_Weekly ∧ R = fun x vs H Q => (sp_Weekly_weeks_over (ad a)) (x :: (vs ++ ([] : List V))) H Q E0)) (pv 0) (by rintro C R ⟨rfl, rfl⟩ <;> first | exact ⟨T.cl_Weekly, _, _, _, _, _, _, _, _, _, _, T.me_Weekly_weeks_over, (ok_Weekly_weeks_over T).mono (by decide), hr, T.b_Weekly_weeks_over, .nil, pass0, fun _ _ _ _ _ h => h⟩) (pa_cons (pv 3) pa_nil)))
      (pss_one (ps_if (pt_cmpR op_gt (pv 5) pe_int (nomark _)) (pss_one (ps_set (i := 3) sc_Weekly_next_in.nd rfl (Or.inl rfl) (pe_call ((ok_week_begin T).mono (by decide)) hr rfl T.m_week_begin T.F_week_begin.kp T.b_week_begin .nil pass0 (pa_cons (pe_op op_sub (pe_op op_add (pe_call ((ok_week_of T).mono (by decide)) hr rfl T.m_week_of T.F_week_of.kp T.b_week_of .nil pass0 (pa_cons (pv 3) pa_nil)) (pe_fldK (K := K) rfl (pv 0))) (pv 5)) pa_nil)))) (pss_one (ps_if (pt_val (pe_methV (n := 1) (D := fun C R => (C = a.x_Weekly ∧ R = fun x vs H Q => (sp_Weekly_has_weekday (ad a)) (x :: (vs ++ ([] : List V))) H Q E0)) (pv 0) (by rintro C R ⟨rfl, rfl⟩ <;> first | exact ⟨T.cl_Weekly, _, _, _, _, _, _, _, _, _, _, T.me_Weekly_has_weekday, (ok_Weekly_has_weekday T).mono (by decide), hr, T.b_Weekly_has_weekday, .nil, pass0, fun _ _ _ _ _ h => h⟩) (pa_cons (pv 3) pa_nil))) (pss_one (ps_ret (pv 3))) (pss_one (ps_aug (i := 3) sc_Weekly_next_in.nd rfl (Or.inl rfl) pe_int ip_add))))))))
      (pss_one (ps_ret pe_non))))), ?_⟩
    obtain ⟨dx, hx⟩ := id hr0
    have ok1 := ok
    obtain ⟨m0, m1, f0, f1, e0, e1⟩ := ok
    refine ⟨fun σ' H' => H = H' ∧ ∃ f : Int, b ≤ f ∧ fi ≤ f ∧ DN.No (.wk mk fi ev) b f ∧ σ' = [some (.ref x), some (.int b), some (.int e), some (.int f), none, none], ?_, ?_⟩
    · refine ⟨_, rfl, _, rfl, x, _, dx, _, _, rfl, hx, T.cl_Weekly, T.n_Weekly_first, fl_Weekly_first _ _ _, _, _, rfl, rfl, (if fi > b then fi else b), ?_, ?_, fun k h1 h2 => ?_, rfl⟩
      · split <;> omega
      · split <;> omega
      · refine DF.fl_lt (r := .wk mk fi ev) ?_
        show k < fi
        split at h2 <;> omega
    rintro σ _ ⟨rfl, f, bf, ff, hno, rfl⟩
    refine ⟨fun σ' H' => H = H' ∧ ∃ s : Int, s = (if 146097 < e then 146097 else e) ∧ σ' = [some (.ref x), some (.int b), some (.int e), some (.int f), some (.int s), none], ⟨_, rfl, _, _, rfl, rfl, _, rfl, rfl⟩, ?_⟩
    rintro σ _ ⟨rfl, s, hs, rfl⟩
    have hs1 : s ≤ 146097 ∧ s ≤ e := by rw [hs]; split <;> omega
    refine ⟨fun m σ H' => H = H' ∧ ∃ (f : Int) (y : Option V), m = (s - f).toNat ∧ b ≤ f ∧ fi ≤ f ∧ DN.No (.wk mk fi ev) b f ∧ σ = [some (.ref x), some (.int b), some (.int e), some (.int f), some (.int s), y], ⟨_, rfl, f, _, rfl, bf, ff, hno, rfl⟩, ?_⟩
    rintro m σ _ ⟨rfl, f, y, rfl, bf, ff, hno, rfl⟩
    refine ⟨_, rfl, _, rfl, _, _, rfl, rfl, _, rfl, ite2 (fun z => ?_) (fun z => ?_)⟩
    · have hfs : f < s := of_decide_eq_true z
      refine ⟨fun σ' H' => ∃ m', m' < (s - f).toNat ∧ H = H' ∧ ∃ (f : Int) (y : Option V), m' = (s - f).toNat ∧ b ≤ f ∧ fi ≤ f ∧ DN.No (.wk mk fi ev) b f ∧ σ' = [some (.ref x), some (.int b), some (.int e), some (.int f), some (.int s), y], fun σ' H' h => h, ?_⟩
      refine ⟨_, rfl, x, _, dx, _, _, rfl, hx, no_Weekly_weeks_over _ _ _, ⟨rfl, rfl⟩, _, rfl, rfl, x, f, mk, fi, ev, rfl, hr0, e0, ?_⟩
      refine ⟨_, rfl, _, _, rfl, rfl, _, rfl, ite2 (fun z => ?_) (fun z => ?_)⟩
      · have ho := of_decide_eq_true z
        obtain ⟨w1, w2⟩ := DN.wk_skip (mk := mk) (fi := fi) (f := f) e0 rfl ho
        refine ⟨_, rfl, f, rfl, _, rfl, x, _, dx, _, _, rfl, hx, T.cl_Weekly, T.n_Weekly_every, fl_Weekly_every _ _ _, _, _, rfl, rfl, _, rfl, _, _, rfl, rfl, _, rfl, ?_⟩
        refine ⟨_, ?_, rfl, _, _, rfl, ?_, ?_, fun k h1 h2 => ?_, rfl⟩
        · omega
        · omega
        · omega
        · by_cases hk : k < f
          · exact hno k h1 hk
          · exact w2 k (by omega) h2
      · have hz : ((f + 5) / 7 - (fi + 5) / 7) % ev = 0 := by
          have := Int.emod_nonneg ((f + 5) / 7 - (fi + 5) / 7) (by omega : ev ≠ 0)
          have : ¬ 0 < ((f + 5) / 7 - (fi + 5) / 7) % ev := fun w => z (decide_eq_true w)
          omega
        have hat := DN.wk_at (mk := mk) (e := ev) (f := f) (by omega) (by omega) ff
        rw [decide_eq_true hz, Bool.true_and] at hat
        refine ⟨_, rfl, x, _, dx, _, _, rfl, hx, no_Weekly_has_weekday _ _ _, ⟨rfl, rfl⟩, _, rfl, rfl, x, f, mk, fi, ev, rfl, hr0, _, rfl, ite2 (fun z => ?_) (fun z => ?_)⟩
        · exact ⟨_, rfl, k1 f bf (by omega) (hat.trans z) hno⟩
        · have hff : fl (.wk mk fi ev) f = false := by
            rw [hat]
            exact Bool.eq_false_iff.mpr z
          exact ⟨_, rfl, _, _, rfl, rfl, (s - (f + 1)).toNat, by omega, rfl, f + 1, _, rfl, by omega, by omega, hno.step hff, rfl⟩
    · have hfs : ¬ f < s := fun w => z (decide_eq_true w)
      refine k2 (hno.stop ok1 ?_)
      rw [hs] at hfs
      split at hfs <;> omega
end
end K12
namespace K12
open PySem L2
open DF (Rl fl dayDate dayNth isD byM Ok Fi)
section
variable {P : Program} {w : World} {K : PySem.W.Frag} {mg : Str → Option Value} {base : Heap} {a : Adr}
theorem sc_Weekly___init : FnScope ["self", "mask", "first", "every"] ["self", "mask", "first", "every"] (defScope s_Weekly___init) := ⟨rfl, rfl, rfl, by decide +kernel, rfl, by decide +kernel, by decide +kernel⟩
theorem ok_Weekly___init (T : TxtL K mg base a) : FnOk P w K mg base CX0 true 4 a.f_Weekly___init a.d_Weekly___init ["self", "mask", "first", "every"] (sp_Weekly_init (ad a)) := by
  refine T.F_Weekly___init.ok sc_Weekly___init (fun vs H Q E h => ?_) (fun cdv A outer s H vs Q E hr h => ?_)
  · obtain ⟨x, dx, mk, fi, e, rfl, _⟩ := h; rfl
  · obtain ⟨x, dx, mk, fi, e, rfl, hx, ⟨m0, m1, hf⟩, k⟩ := h
    refine ⟨_, (pss_cons (ps_expr (pe_call ((ok_check_bounds T).mono (by decide)) hr rfl T.m_check_bounds T.F_check_bounds.kp T.b_check_bounds .nil pass0 (pa_cons (pv 1) (pa_cons pe_int (pa_cons pe_int pa_nil)))))
      (pss_cons (ps_expr (pe_call ((ok_check_every T).mono (by decide)) hr rfl T.m_check_every T.F_check_every.kp T.b_check_every .nil pass0 (pa_cons (pv 2) (pa_cons (pv 3) pa_nil))))
      (pss_cons (ps_fldK (K := K) rfl (pv 0) (pv 1))
      (pss_cons (ps_fldK (K := K) rfl (pv 0) (pv 2))
      (pss_one (ps_fldK (K := K) rfl (pv 0) (pv 3))))))), ?_⟩
    refine ⟨_, rfl, mk, 1, 127, rfl, m0, m1, ?_⟩
    refine ⟨_, rfl, _, rfl, fi, e, rfl, hf, ?_⟩
    refine ⟨_, rfl, _, rfl, x, _, dx, _, rfl, hx, T.cl_Weekly, T.n_Weekly_mask, (by show 0 < 1000; decide), ?_⟩
    rw [pf_Weekly_mask]
    refine ⟨_, rfl, _, rfl, x, _, dx, _, rfl, upd_same, T.cl_Weekly, T.n_Weekly_first, (by show 1 < 1000; decide), ?_⟩
    rw [pf_Weekly_first]
    refine ⟨_, rfl, _, rfl, x, _, dx, _, rfl, upd_same, T.cl_Weekly, T.n_Weekly_every, (by show 2 < 1000; decide), ?_⟩
    rw [pf_Weekly_every]
    exact k _ (fun c u hc e => by rw [upd_ne hc, upd_ne hc, upd_ne hc]; exact e) ⟨dx, upd_same⟩
end
end K12
namespace K12
open PySem L2
open DF (Rl fl dayDate dayNth isD byM Ok Fi)
section
variable {P : Program} {w : World} {K : PySem.W.Frag} {mg : Str → Option Value} {base : Heap} {a : Adr}
theorem sc_Monthly_day_in : FnScope ["self", "number"] ["self", "number"] (defScope s_Monthly_day_in) := ⟨rfl, rfl, rfl, by decide +kernel, rfl, by decide +kernel, by decide +kernel⟩
theorem ok_Monthly_day_in (T : TxtL K mg base a) : FnOk P w K mg base CX0 true 4 a.f_Monthly_day_in a.d_Monthly_day_in ["self", "number"] (sp_Monthly_day_in (ad a)) := by
  refine T.F_Monthly_day_in.ok sc_Monthly_day_in (fun vs H Q E h => ?_) (fun cdv A outer s H vs Q E hr h => ?_)
  · obtain ⟨x, n, dt, fi, e, rfl, _⟩ := h; rfl
  · obtain ⟨x, n, dt, fi, e, rfl, ⟨dx, hx⟩, k⟩ := h
    refine ⟨_, (pss_one (ps_ret (pe_call ((ok_day_of_date T).mono (by decide)) hr rfl T.m_day_of_date T.F_day_of_date.kp T.b_day_of_date .nil pass0 (pa_cons (pv 1) (pa_cons (pe_fldK (K := K) rfl (pv 0)) pa_nil))))), ?_⟩
    exact ⟨_, rfl, _, rfl, x, _, dx, _, _, rfl, hx, T.cl_Monthly, T.n_Monthly_date, fl_Monthly_date _ _ _ _ _, n, dt, rfl, k⟩
end
end K12
namespace K12
open PySem L2
open DF (Rl fl dayDate dayNth isD byM Ok Fi)
section
variable {P : Program} {w : World} {K : PySem.W.Frag} {mg : Str → Option Value} {base : Heap} {a : Adr}
theorem sc_Monthly___init : FnScope ["self", "date", "first", "every"] ["self", "date", "first", "every"] (defScope s_Monthly___init) := ⟨rfl, rfl, rfl, by decide +kernel, rfl, by decide +kernel, by decide +kernel⟩
theorem ok_Monthly___init (T : TxtL K mg base a) : FnOk P w K mg base CX0 true 4 a.f_Monthly___init a.d_Monthly___init ["self", "date", "first", "every"] (sp_Monthly_init (ad a)) := by
  refine T.F_Monthly___init.ok sc_Monthly___init (fun vs H Q E h => ?_) (fun cdv A outer s H vs Q E hr h => ?_)
  · obtain ⟨x, dx, dt, fi, e, rfl, _⟩ := h; rfl
  · obtain ⟨x, dx, dt, fi, e, rfl, hx, ⟨d0, d1, d2, hf⟩, k⟩ := h
    refine ⟨_, (pss_cons (ps_expr (pe_call ((ok_check_bounds T).mono (by decide)) hr rfl T.m_check_bounds T.F_check_bounds.kp T.b_check_bounds .nil pass0 (pa_cons (pe_callB call_abs rfl T.n_abs (by decide +kernel) (pa_cons (pv 1) pa_nil)) (pa_cons pe_int (pa_cons pe_int pa_nil)))))
      (pss_cons (ps_expr (pe_call ((ok_check_every T).mono (by decide)) hr rfl T.m_check_every T.F_check_every.kp T.b_check_every .nil pass0 (pa_cons (pv 2) (pa_cons (pv 3) pa_nil))))
      (pss_cons (ps_expr (pe_clsfn T.cf_ByMonth___init ((ok_ByMonth___init T).mono (by decide)) hr rfl T.m_ByMonth T.b_ByMonth___init .nil pass0 (pa_cons (pv 0) (pa_cons (pe_call ((ok_month_of T).mono (by decide)) hr rfl T.m_month_of T.F_month_of.kp T.b_month_of .nil pass0 (pa_cons (pv 2) pa_nil)) (pa_cons (pv 3) (pa_cons (pv 2) pa_nil))))))
      (pss_cons (ps_fldK (K := K) rfl (pv 0) (pv 1))
      (pss_one (ps_fldK (K := K) rfl (pv 0) (pv 3))))))), ?_⟩
    obtain ⟨a1, a2⟩ := abs_in d0 d1 d2
    refine ⟨_, rfl, dt, rfl, _, 1, 31, rfl, a1, a2, ?_⟩
    refine ⟨_, rfl, _, rfl, fi, e, rfl, hf, ?_⟩
    refine ⟨_, rfl, _, rfl, fi, rfl, _, rfl, _, rfl, x, _, dx, _, _, fi, rfl, ⟨T.cl_Monthly, T.n_Monthly_origin, T.n_Monthly_stride, T.n_Monthly_first⟩, hx, fun H1 s1 hx1 => ?_⟩
    refine ⟨_, rfl, _, rfl, x, _, dx, _, rfl, hx1, T.cl_Monthly, T.n_Monthly_date, (by show 3 < 1000; decide), ?_⟩
    rw [pf_Monthly_date]
    refine ⟨_, rfl, _, rfl, x, _, dx, _, rfl, upd_same, T.cl_Monthly, T.n_Monthly_every, (by show 4 < 1000; decide), ?_⟩
    rw [pf_Monthly_every]
    exact k _ (fun c u hc e => by rw [upd_ne hc, upd_ne hc]; exact s1 _ _ hc e) ⟨dx, upd_same⟩
end
end K12
namespace K12
open PySem L2
open DF (Rl fl dayDate dayNth isD byM Ok Fi)
section
variable {P : Program} {w : World} {K : PySem.W.Frag} {mg : Str → Option Value} {base : Heap} {a : Adr}
theorem sc_Nth_day_in : FnScope ["self", "number"] ["self", "number"] (defScope s_Nth_day_in) := ⟨rfl, rfl, rfl, by decide +kernel, rfl, by decide +kernel, by decide +kernel⟩
theorem ok_Nth_day_in (T : TxtL K mg base a) : FnOk P w K mg base CX0 true 4 a.f_Nth_day_in a.d_Nth_day_in ["self", "number"] (sp_Nth_day_in (ad a)) := by
  refine T.F_Nth_day_in.ok sc_Nth_day_in (fun vs H Q E h => ?_) (fun cdv A outer s H vs Q E hr h => ?_)
  · obtain ⟨x, n, w, wd, fi, e, rfl, _⟩ := h; rfl
  · obtain ⟨x, n, w, wd, fi, e, rfl, ⟨dx, hx⟩, k⟩ := h
    refine ⟨_, (pss_one (ps_ret (pe_call ((ok_day_of_nth T).mono (by decide)) hr rfl T.m_day_of_nth T.F_day_of_nth.kp T.b_day_of_nth .nil pass0 (pa_cons (pv 1) (pa_cons (pe_fldK (K := K) rfl (pv 0)) (pa_cons (pe_fldK (K := K) rfl (pv 0)) pa_nil)))))), ?_⟩
    exact ⟨_, rfl, _, rfl, x, _, dx, _, _, rfl, hx, T.cl_Nth, T.n_Nth_which, fl_Nth_which _ _ _ _ _ _, _, rfl, x, _, dx, _, _, rfl, hx, T.cl_Nth, T.n_Nth_weekday_of, fl_Nth_weekday_of _ _ _ _ _ _, n, w, wd, rfl, k⟩
end
end K12
namespace K12
open PySem L2
open DF (Rl fl dayDate dayNth isD byM Ok Fi)
section
variable {P : Program} {w : World} {K : PySem.W.Frag} {mg : Str → Option Value} {base : Heap} {a : Adr}
theorem sc_Nth___init : FnScope ["self", "which", "weekday_of", "first", "every"] ["self", "which", "weekday_of", "first", "every"] (defScope s_Nth___init) := ⟨rfl, rfl, rfl, by decide +kernel, rfl, by decide +kernel, by decide +kernel⟩
theorem ok_Nth___init (T : TxtL K mg base a) : FnOk P w K mg base CX0 true 4 a.f_Nth___init a.d_Nth___init ["self", "which", "weekday_of", "first", "every"] (sp_Nth_init (ad a)) := by
  refine T.F_Nth___init.ok sc_Nth___init (fun vs H Q E h => ?_) (fun cdv A outer s H vs Q E hr h => ?_)
  · obtain ⟨x, dx, w, wd, fi, e, rfl, _⟩ := h; rfl
  · obtain ⟨x, dx, w, wd, fi, e, rfl, hx, ⟨d0, d1, d2, w0, w1, hf⟩, k⟩ := h
    refine ⟨_, (pss_cons (ps_expr (pe_call ((ok_check_bounds T).mono (by decide)) hr rfl T.m_check_bounds T.F_check_bounds.kp T.b_check_bounds .nil pass0 (pa_cons (pe_callB call_abs rfl T.n_abs (by decide +kernel) (pa_cons (pv 1) pa_nil)) (pa_cons pe_int (pa_cons pe_int pa_nil)))))
      (pss_cons (ps_expr (pe_call ((ok_check_bounds T).mono (by decide)) hr rfl T.m_check_bounds T.F_check_bounds.kp T.b_check_bounds .nil pass0 (pa_cons (pv 2) (pa_cons pe_int (pa_cons pe_int pa_nil)))))
      (pss_cons (ps_expr (pe_call ((ok_check_every T).mono (by decide)) hr rfl T.m_check_every T.F_check_every.kp T.b_check_every .nil pass0 (pa_cons (pv 3) (pa_cons (pv 4) pa_nil))))
      (pss_cons (ps_expr (pe_clsfn T.cf_ByMonth___init ((ok_ByMonth___init T).mono (by decide)) hr rfl T.m_ByMonth T.b_ByMonth___init .nil pass0 (pa_cons (pv 0) (pa_cons (pe_call ((ok_month_of T).mono (by decide)) hr rfl T.m_month_of T.F_month_of.kp T.b_month_of .nil pass0 (pa_cons (pv 3) pa_nil)) (pa_cons (pv 4) (pa_cons (pv 3) pa_nil))))))
      (pss_cons (ps_fldK (K := K) rfl (pv 0) (pv 1))
      (pss_cons (ps_fldK (K := K) rfl (pv 0) (pv 2))
      (pss_one (ps_fldK (K := K) rfl (pv 0) (pv 4))))))))), ?_⟩
    obtain ⟨a1, a2⟩ := abs_in d0 d1 d2
    refine ⟨_, rfl, w, rfl, _, 1, 5, rfl, a1, a2, ?_⟩
    refine ⟨_, rfl, wd, 0, 6, rfl, w0, w1, ?_⟩
    refine ⟨_, rfl, _, rfl, fi, e, rfl, hf, ?_⟩
    refine ⟨_, rfl, _, rfl, fi, rfl, _, rfl, _, rfl, x, _, dx, _, _, fi, rfl, ⟨T.cl_Nth, T.n_Nth_origin, T.n_Nth_stride, T.n_Nth_first⟩, hx, fun H1 s1 hx1 => ?_⟩
    refine ⟨_, rfl, _, rfl, x, _, dx, _, rfl, hx1, T.cl_Nth, T.n_Nth_which, (by show 3 < 1000; decide), ?_⟩
    rw [pf_Nth_which]
    refine ⟨_, rfl, _, rfl, x, _, dx, _, rfl, upd_same, T.cl_Nth, T.n_Nth_weekday_of, (by show 4 < 1000; decide), ?_⟩
    rw [pf_Nth_weekday_of]
    refine ⟨_, rfl, _, rfl, x, _, dx, _, rfl, upd_same, T.cl_Nth, T.n_Nth_every, (by show 5 < 1000; decide), ?_⟩
    rw [pf_Nth_every]
    exact k _ (fun c u hc e => by rw [upd_ne hc, upd_ne hc, upd_ne hc]; exact s1 _ _ hc e) ⟨dx, upd_same⟩
end
end K12
namespace K12
open PySem L2
open DF (Rl fl dayDate dayNth isD byM Ok Fi)
section
variable {P : Program} {w : World} {K : PySem.W.Frag} {mg : Str → Option Value} {base : Heap} {a : Adr}
theorem sc_Yearly_day_in : FnScope ["self", "number"] ["self", "number"] (defScope s_Yearly_day_in) := ⟨rfl, rfl, rfl, by decide +kernel, rfl, by decide +kernel, by decide +kernel⟩
theorem ok_Yearly_day_in (T : TxtL K mg base a) : FnOk P w K mg base CX0 true 4 a.f_Yearly_day_in a.d_Yearly_day_in ["self", "number"] (sp_Yearly_day_in (ad a)) := by
  refine T.F_Yearly_day_in.ok sc_Yearly_day_in (fun vs H Q E h => ?_) (fun cdv A outer s H vs Q E hr h => ?_)
  · obtain ⟨x, n, mn, dt, fi, e, rfl, _⟩ := h; rfl
  · obtain ⟨x, n, mn, dt, fi, e, rfl, ⟨dx, hx⟩, k⟩ := h
    refine ⟨_, (pss_one (ps_ret (pe_call ((ok_day_of_date T).mono (by decide)) hr rfl T.m_day_of_date T.F_day_of_date.kp T.b_day_of_date .nil pass0 (pa_cons (pv 1) (pa_cons (pe_fldK (K := K) rfl (pv 0)) pa_nil))))), ?_⟩
    exact ⟨_, rfl, _, rfl, x, _, dx, _, _, rfl, hx, T.cl_Yearly, T.n_Yearly_date, fl_Yearly_date _ _ _ _ _ _, n, dt, rfl, k⟩
end
end K12
namespace K12
open PySem L2
open DF (Rl fl dayDate dayNth isD byM Ok Fi)
section
variable {P : Program} {w : World} {K : PySem.W.Frag} {mg : Str → Option Value} {base : Heap} {a : Adr}
theorem sc_law_some_day : FnScope ["_law_cell", "_law_some"] ["_law_cell"] (defScope s_law_some_day) := ⟨rfl, rfl, rfl, by decide +kernel, rfl, by decide +kernel, by decide +kernel⟩
theorem ok_law_some_day (T : TxtL K mg base a) : FnOk P w K mg base CX0 true 4 a.f_law_some_day a.d_law_some_day ["_law_cell"] (sp_law_some_day) := by
  refine T.F_law_some_day.ok sc_law_some_day (fun vs H Q E h => ?_) (fun cdv A outer s H vs Q E hr h => ?_)
  · obtain ⟨c, rfl, _⟩ := h; rfl
  · obtain ⟨c, rfl, k⟩ := h
    refine ⟨_, (pss_cons (ps_set (i := 1) sc_law_some_day.nd rfl (Or.inl rfl) (pe_lst (pa_lits [.int 0, .int 146096, .int 59, .int 60, .int 365, .int 366, .int 36584, .int 36583, .int 73108, .int 146037, .int 146036, .int 1460] (by decide +kernel))))
      (pss_cons (ps_if (pt_cmpR op_eq (pe_op op_mod (pv 0) pe_int) pe_int (nomark _)) (pss_one (ps_ret (pe_ix (ix_listK (K := K) rfl) (pv 1) (pe_op op_mod (pe_op op_fdiv (pv 0) pe_int) pe_int) (fun _ _ => rfl)))) pss_nil)
      (pss_cons (ps_if (pt_cmpR op_eq (pe_op op_mod (pv 0) pe_int) pe_int (nomark _)) (pss_one (ps_ret (pe_call ((ok_law_day T).mono (by decide)) hr rfl T.m_law_day T.F_law_day.kp T.b_law_day .nil pass0 (pa_cons (pe_op op_add pe_int (pe_op op_mod (pe_op op_fdiv (pv 0) pe_int) pe_int)) (pa_cons (pe_op op_add pe_int (pe_op op_mod (pe_op op_fdiv (pv 0) pe_int) pe_int)) (pa_cons (pe_op op_add pe_int (pe_op op_mod (pe_op op_fdiv (pv 0) pe_int) pe_int)) pa_nil)))))) pss_nil)
      (pss_one (ps_ret (pe_op op_mod (pe_op op_fdiv (pv 0) pe_int) pe_int)))))), ?_⟩
    refine ⟨by decide, fun l hl => ?_⟩
    refine ⟨_, rfl, _, _, rfl, rfl, (by show (0 : Int) < 4; decide), rfl, _, rfl, ?_⟩
    refine ite2 (fun e1 => ?_) (fun e1 => ?_)
    · have i0 : 0 ≤ c / 4 % 12 := Int.emod_nonneg _ (by decide)
      have i1 : c / 4 % 12 < 12 := Int.emod_lt_of_pos _ (by decide)
      obtain ⟨t, ht, et⟩ := atI_ints (ts := [0, 146096, 59, 60, 365, 366, 36584, 36583, 73108, 146037, 146036, 1460]) i0 i1
      have ht' := some_in t ht
      exact ⟨_, rfl, _, rfl, _, _, rfl, rfl, ⟨by decide, by decide⟩, _, _, rfl, rfl, (by show (0 : Int) < 12; decide), l, _, _, _, rfl, rfl, SqL.of upd_same, et, k t _ ht'.1 ht'.2 (same_upd hl)⟩
    refine ⟨_, rfl, _, _, rfl, rfl, (by show (0 : Int) < 4; decide), rfl, _, rfl, ?_⟩
    refine ite2 (fun e2 => ?_) (fun e2 => ?_)
    · have a0 : 0 ≤ c / 4 % 400 := Int.emod_nonneg _ (by decide)
      have a1 : c / 4 % 400 < 400 := Int.emod_lt_of_pos _ (by decide)
      have b0 : 0 ≤ c / 1600 % 12 := Int.emod_nonneg _ (by decide)
      have b1 : c / 1600 % 12 < 12 := Int.emod_lt_of_pos _ (by decide)
      have c0 : 0 ≤ c / 19200 % 28 := Int.emod_nonneg _ (by decide)
      have c1 : c / 19200 % 28 < 28 := Int.emod_lt_of_pos _ (by decide)
      refine ⟨_, rfl, _, _, rfl, rfl, ⟨by decide, by decide⟩, _, _, rfl, rfl, (by show (0 : Int) < 400; decide), _, _, rfl, rfl, _, rfl, _, _, rfl, rfl, ⟨by decide, by decide⟩, _, _, rfl, rfl, (by show (0 : Int) < 12; decide), _, _, rfl, rfl,
        _, rfl, _, _, rfl, rfl, ⟨by decide, by decide⟩, _, _, rfl, rfl, (by show (0 : Int) < 28; decide), _, _, rfl, rfl, _, _, _, rfl, by omega, by omega, fun H2 s2 => ?_⟩
      generalize c / 4 % 400 = ya at *
      generalize c / 1600 % 12 = mo at *
      generalize c / 19200 % 28 = da at *
      have r := DM.dayIn (n := 12 * (2000 + ya - 2000) + (1 + mo - 1)) (by omega) (by omega)
      have q := DM.mb_lt (12 * (2000 + ya - 2000) + (1 + mo - 1))
      exact k _ H2 (by omega) (by omega) ((same_upd hl).trans s2)
    · exact ⟨_, rfl, _, _, rfl, rfl, ⟨by decide, by decide⟩, _, _, rfl, rfl, (by show (0 : Int) < 146097; decide), k _ _ (Int.emod_nonneg _ (by decide)) (Int.emod_lt_of_pos _ (by decide)) (same_upd hl)⟩
end
end K12
namespace K12
open PySem L2
open DF (Rl fl dayDate dayNth isD byM Ok Fi)
section
variable {P : Program} {w : World} {K : PySem.W.Frag} {mg : Str → Option Value} {base : Heap} {a : Adr}
theorem sc_law_simple : FnScope ["_law_pick", "_law_base", "_law_more", "_law_first_here", "_law_often_here", "_law_way", "_law_month", "_law_year_here", "_law_date_here"] ["_law_pick", "_law_base"] (defScope s_law_simple) := ⟨rfl, rfl, rfl, by decide +kernel, rfl, by decide +kernel, by decide +kernel⟩
theorem ok_law_simple (T : TxtL K mg base a) : FnOk P w K mg base CX0 true 4 a.f_law_simple a.d_law_simple ["_law_pick", "_law_base"] (sp_law_simple) := by
  refine T.F_law_simple.ok sc_law_simple (fun vs H Q E h => ?_) (fun cdv A outer s H vs Q E hr h => ?_)
  · obtain ⟨p, b, rfl, _⟩ := h; rfl
  · obtain ⟨p, b, rfl, k⟩ := h
    refine ⟨_, (pss_cons (ps_set (i := 2) sc_law_simple.nd rfl (Or.inr rfl) (pe_call ((ok_law_next T).mono (by decide)) hr rfl T.m_law_next T.F_law_next.kp T.b_law_next .nil pass0 (pa_cons (pe_op op_add (pv 0) pe_int) pa_nil)))
      (pss_cons (ps_set (i := 3) sc_law_simple.nd rfl (Or.inl rfl) (pe_call ((ok_law_first T).mono (by decide)) hr rfl T.m_law_first T.F_law_first.kp T.b_law_first .nil pass0 (pa_cons (pe_call ((ok_law_next T).mono (by decide)) hr rfl T.m_law_next T.F_law_next.kp T.b_law_next .nil pass0 (pa_cons (pe_op op_add (pv 0) pe_int) pa_nil)) (pa_cons (pv 1) pa_nil))))
      (pss_cons (ps_set (i := 4) sc_law_simple.nd rfl (Or.inl rfl) (pe_call ((ok_law_often T).mono (by decide)) hr rfl T.m_law_often T.F_law_often.kp T.b_law_often .nil pass0 (pa_cons (pe_call ((ok_law_next T).mono (by decide)) hr rfl T.m_law_next T.F_law_next.kp T.b_law_next .nil pass0 (pa_cons (pe_op op_add (pv 0) pe_int) pa_nil)) pa_nil)))
      (pss_cons (ps_set (i := 5) sc_law_simple.nd rfl (Or.inl rfl) (pe_op op_mod (pv 0) pe_int))
      (pss_cons (ps_if (pt_cmpR op_eq (pv 5) pe_int (nomark _)) (pss_one (ps_ret (pe_tup (pa_cons pe_str (pa_cons (pe_ix (ix_listK (K := K) rfl) (pe_lst (pa_cons (pe_op op_add pe_int (pe_op op_mod (pe_op op_fdiv (pv 2) pe_int) pe_int)) (pa_cons (pe_op op_add pe_int (pe_op op_mod (pe_op op_fdiv (pv 2) pe_int) pe_int)) (pa_cons pe_int (pa_cons (pe_op op_add pe_int (pe_op op_mod (pe_op op_fdiv (pv 2) pe_int) pe_int)) pa_nil))))) (pe_op op_mod (pv 2) pe_int) (fun _ _ => rfl)) (pa_cons (pv 3) pa_nil)))))) pss_nil)
      (pss_cons (ps_if (pt_cmpR op_eq (pv 5) pe_int (nomark _)) (pss_one (ps_ret (pe_tup (pa_cons pe_str (pa_cons (pe_op op_add pe_int (pe_op op_mod (pv 2) pe_int)) (pa_cons (pv 3) (pa_cons (pv 4) pa_nil))))))) pss_nil)
      (pss_cons (ps_if (pt_cmpR op_eq (pv 5) pe_int (nomark _)) (pss_one (ps_ret (pe_tup (pa_cons pe_str (pa_cons (pe_ix (ix_listK (K := K) rfl) (pe_lst (pa_cons (pe_op op_add pe_int (pe_op op_mod (pe_op op_fdiv (pv 2) pe_int) pe_int)) (pa_cons (pe_op op_sub (pe_un un_neg pe_int) (pe_op op_mod (pe_op op_fdiv (pv 2) pe_int) pe_int)) (pa_cons pe_int (pa_cons (pe_un un_neg pe_int) (pa_cons pe_int pa_nil)))))) (pe_op op_mod (pv 2) pe_int) (fun _ _ => rfl)) (pa_cons (pv 3) (pa_cons (pv 4) pa_nil))))))) pss_nil)
      (pss_cons (ps_if (pt_cmpR op_eq (pv 5) pe_int (nomark _)) (pss_one (ps_ret (pe_tup (pa_cons pe_str (pa_cons (pe_ix (ix_listK (K := K) rfl) (pe_lst (pa_lits [.int 1, .int 2, .int 5, .int (-1), .int (-5), .int 3, .int (-2), .int 4, .int (-3), .int (-4)] (by decide +kernel))) (pe_op op_mod (pv 2) pe_int) (fun _ _ => rfl)) (pa_cons (pe_op op_mod (pe_op op_fdiv (pv 2) pe_int) pe_int) (pa_cons (pv 3) (pa_cons (pv 4) pa_nil)))))))) pss_nil)
      (pss_cons (ps_if (pt_cmpR op_eq (pv 5) pe_int (nomark _)) (pss_cut (ps_set (i := 6) sc_law_simple.nd rfl (Or.inl rfl) (pe_op op_add pe_int (pe_op op_mod (pe_op op_add (pe_op op_sub (pe_ix (ix_tupK (K := K) rfl) (pe_call ((ok_law_date T).mono (by decide)) hr rfl T.m_law_date T.F_law_date.kp T.b_law_date .nil pass0 (pa_cons (pe_call ((ok_law_near T).mono (by decide)) hr rfl T.m_law_near T.F_law_near.kp T.b_law_near .nil pass0 (pa_cons (pe_op op_fdiv (pv 2) pe_int) (pa_cons (pv 1) pa_nil))) pa_nil)) pe_int (fun _ _ => rfl)) pe_int) (pe_op op_mod (pv 2) pe_int)) pe_int)))
      (pss_one (ps_ret (pe_tup (pa_cons pe_str (pa_cons (pv 6) (pa_cons (pe_ix (ix_listK (K := K) rfl) (pe_lst (pa_cons (pe_op op_add pe_int (pe_op op_mod (pe_op op_fdiv (pv 2) pe_int) pe_int)) (pa_cons (pe_call ((ok_law_length T).mono (by decide)) hr rfl T.m_law_length T.F_law_length.kp T.b_law_length .nil pass0 (pa_cons pe_int (pa_cons (pv 6) pa_nil))) pa_nil))) (pe_callTy call_int1 rfl T.n_int (by decide +kernel) (pa_cons (pe_cmpR op_eq (pe_op op_mod (pv 2) pe_int) pe_int (nomark _)) pa_nil)) (fun _ _ => rfl)) (pa_cons (pv 3) (pa_cons (pv 4) pa_nil))))))))) pss_nil)
      (pss_cons (ps_if (pt_cmpR op_eq (pv 5) pe_int (nomark _)) (pss_one (ps_ret (pe_tup (pa_cons pe_str (pa_cons (pe_callTy (call_tuple_ofK (K := K) rfl) rfl T.n_tuple (by decide +kernel) (pa_cons (pe_comp (N := ["_law_k", "_law_base", "_law_more"]) (cap := [none, some 1, some 2]) (by show CompScope (defScope s_law_simple) _ ["_law_pick", "_law_base", "_law_more", "_law_first_here", "_law_often_here", "_law_way", "_law_month", "_law_year_here", "_law_date_here"] _ _; exact ⟨rfl, by decide +kernel, by decide +kernel, by decide +kernel, by decide +kernel, rfl, by decide +kernel⟩) rfl (pi_range1 rfl T.n_range (pa_cons (pe_op op_mod (pv 2) pe_int) pa_nil)) (fun C s H fp => ⟨(pg_name (i := 0) (by show (["_law_k", "_law_base", "_law_more"] : List Str).Nodup; decide +kernel) rfl (Or.inl rfl) (.inr rfl)), pf_none, (pe_call ((ok_law_near T).mono (by decide)) hr rfl T.m_law_near T.F_law_near.kp T.b_law_near .nil pass0 (pa_cons (pe_call ((ok_law_next T).mono (by decide)) hr rfl T.m_law_next T.F_law_next.kp T.b_law_next .nil pass0 (pa_cons (pe_op op_add (pv 2) (pv 0)) pa_nil)) (pa_cons (pv 1) pa_nil)))⟩)) pa_nil)) pa_nil))))) pss_nil)
      (pss_cons (ps_if (pt_cmpR op_eq (pv 5) pe_int (nomark _)) (pss_one (ps_ret (pe_tup (pa_cons pe_str (pa_cons (pe_op op_add pe_int (pe_op op_mod (pv 2) pe_int)) (pa_cons (pe_op op_mod (pe_op op_fdiv (pv 2) pe_int) pe_int) pa_nil)))))) pss_nil)
      (pss_cons (ps_if (pt_cmpR op_eq (pv 5) pe_int (nomark _)) (pss_one (ps_ret (pe_tup (pa_cons pe_str pa_nil)))) pss_nil)
      (pss_cons (ps_asg (pe_call ((ok_law_date T).mono (by decide)) hr rfl T.m_law_date T.F_law_date.kp T.b_law_date .nil pass0 (pa_cons (pe_call ((ok_law_near T).mono (by decide)) hr rfl T.m_law_near T.F_law_near.kp T.b_law_near .nil pass0 (pa_cons (pv 2) (pa_cons (pv 1) pa_nil))) pa_nil)) (pg_tup rfl (pgs_cons (pg_name (i := 7) sc_law_simple.nd rfl (Or.inl rfl)) (pgs_cons (pg_name (i := 6) sc_law_simple.nd rfl (Or.inl rfl)) (pgs_cons (pg_name (i := 8) sc_law_simple.nd rfl (Or.inl rfl)) pgs_nil)))))
      (pss_one (ps_ret (pe_tup (pa_cons pe_str (pa_cons (pv 6) (pa_cons (pe_callB (call_min2 rfl) rfl T.n_min (by decide +kernel) (pa_cons (pv 8) (pa_cons pe_int pa_nil))) (pa_cons (pe_callB (call_max2 rfl) rfl T.n_max (by decide +kernel) (pa_cons pe_int (pa_cons (pe_op op_sub (pe_call ((ok_law_near T).mono (by decide)) hr rfl T.m_law_near T.F_law_near.kp T.b_law_near .nil pass0 (pa_cons (pv 2) (pa_cons (pv 1) pa_nil))) (pe_op op_mod (pe_op op_fdiv (pv 2) pe_int) pe_int)) pa_nil))) (pa_cons (pe_op op_add pe_int (pe_op op_mod (pe_op op_fdiv (pv 2) pe_int) pe_int)) pa_nil))))))))))))))))))))), ?_⟩
    refine ⟨_, rfl, _, _, rfl, rfl, _, rfl, fun m m0 => ?_⟩
    refine ⟨_, rfl, _, _, rfl, rfl, _, rfl, fun n1 _ => ⟨_, rfl, _, b, rfl, fun fi H1 f0 f1 s1 => ?_⟩⟩
    refine ⟨_, rfl, _, _, rfl, rfl, _, rfl, fun n2 _ => ⟨_, rfl, fun e H2 e0 e1 s2 => ?_⟩⟩
    have S := s1.trans s2
    have hf : Fi fi e := ⟨f0, f1, e0, e1⟩
    refine ⟨_, rfl, _, _, rfl, rfl, (by show (0 : Int) < 9; decide), ?_⟩
    refine ⟨_, rfl, rfl, _, rfl, ite2 (fun _ => ?_) (fun _ => ?_)⟩
    · refine ⟨_, rfl, _, _, rfl, rfl, ⟨by decide, by decide⟩, _, _, rfl, rfl, (by show (0 : Int) < 9; decide), _, _, rfl, rfl, _, rfl, _, _, rfl, rfl, ⟨by decide, by decide⟩, _, _, rfl, rfl, (by show (0 : Int) < 60; decide), _, _, rfl, rfl, _, rfl, _, _, rfl, rfl, ⟨by decide, by decide⟩, _, _, rfl, rfl, (by show (0 : Int) < 146096; decide), _, _, rfl, rfl, (by show 4 ≤ sizeLine; decide), fun L hL => ?_⟩
      obtain ⟨t, t0, t1, ht⟩ := atI_pick (ts := [1 + m / 4 % 9, 1 + m / 4 % 60, 7, 1 + m / 4 % 146096]) (i := m % 4) 1 146096 (Int.emod_nonneg _ (by decide)) (Int.emod_lt_of_pos _ (by decide)) (fun t ht => by
        rcases List.mem_cons.mp ht with rfl | ht; · omega
        rcases List.mem_cons.mp ht with rfl | ht; · omega
        rcases List.mem_cons.mp ht with rfl | ht; · decide
        rw [List.mem_singleton] at ht; subst ht; omega)
      exact ⟨_, rfl, _, _, rfl, rfl, (by show (0 : Int) < 4; decide), L, _, _, _, rfl, rfl, SqL.of upd_same, ht, _, rfl, (by show 3 ≤ sizeLine; decide), fun t ht => k t (.ev _ fi) _ ((S.trans (same_upd hL)).trans (same_upd ht)) upd_same ⟨t0, t1, f0, f1⟩⟩
    refine ⟨_, rfl, rfl, _, rfl, ite2 (fun _ => ?_) (fun _ => ?_)⟩
    · exact ⟨_, rfl, _, _, rfl, rfl, (by show (0 : Int) < 127; decide), _, _, rfl, rfl, _, rfl, _, rfl, (by show 4 ≤ sizeLine; decide), fun t ht => k t (.wk _ fi e) _ (S.trans (same_upd ht)) upd_same ⟨by omega, by omega, hf⟩⟩
    refine ⟨_, rfl, rfl, _, rfl, ite2 (fun _ => ?_) (fun _ => ?_)⟩
    · refine ⟨_, rfl, _, _, rfl, rfl, ⟨by decide, by decide⟩, _, _, rfl, rfl, (by show (0 : Int) < 31; decide), _, _, rfl, rfl, _, rfl, _, rfl, _, _, rfl, rfl, ⟨by decide, by decide⟩, _, _, rfl, rfl, (by show (0 : Int) < 31; decide), _, _, rfl, rfl, _, rfl, (by show 5 ≤ sizeLine; decide), fun L hL => ?_⟩
      obtain ⟨t, ⟨t0, t1, t2⟩, ht⟩ := atI_one (ts := [1 + m / 5 % 31, -1 - m / 5 % 31, 31, -1, 29]) (i := m % 5) (fun t => -31 ≤ t ∧ t ≤ 31 ∧ t ≠ 0) (Int.emod_nonneg _ (by decide)) (Int.emod_lt_of_pos _ (by decide)) (fun t ht => by
        rcases List.mem_cons.mp ht with rfl | ht; · show _ ∧ _ ∧ _; omega
        rcases List.mem_cons.mp ht with rfl | ht; · show _ ∧ _ ∧ _; omega
        rcases List.mem_cons.mp ht with rfl | ht; · decide
        rcases List.mem_cons.mp ht with rfl | ht; · decide
        rw [List.mem_singleton] at ht; subst ht; decide)
      exact ⟨_, rfl, _, _, rfl, rfl, (by show (0 : Int) < 5; decide), L, _, _, _, rfl, rfl, SqL.of upd_same, ht, _, rfl, _, rfl, (by show 4 ≤ sizeLine; decide), fun t ht => k t (.mo _ fi e) _ ((S.trans (same_upd hL)).trans (same_upd ht)) upd_same ⟨t0, t1, t2, hf⟩⟩
    refine ⟨_, rfl, rfl, _, rfl, ite2 (fun _ => ?_) (fun _ => ?_)⟩
    · refine ⟨(by show 10 ≤ sizeLine; decide), fun L hL => ?_⟩
      obtain ⟨t, ⟨t0, t1, t2⟩, ht⟩ := atI_one (ts := [1, 2, 5, -1, -5, 3, -2, 4, -3, -4]) (i := m % 10) (fun t => -5 ≤ t ∧ t ≤ 5 ∧ t ≠ 0) (Int.emod_nonneg _ (by decide)) (Int.emod_lt_of_pos _ (by decide)) nth_in
      exact ⟨_, rfl, _, _, rfl, rfl, (by show (0 : Int) < 10; decide), L, _, _, _, rfl, rfl, SqL.of upd_same, ht, _, rfl, _, _, rfl, rfl, ⟨by decide, by decide⟩, _, _, rfl, rfl, (by show (0 : Int) < 7; decide), _, rfl, _, rfl, (by show 5 ≤ sizeLine; decide), fun t ht => k t (.nt _ _ fi e) _ ((S.trans (same_upd hL)).trans (same_upd ht)) upd_same ⟨t0, t1, t2, by omega, by omega, hf⟩⟩
    refine ⟨_, rfl, rfl, _, rfl, ite2 (fun _ => ?_) (fun _ => ?_)⟩
    · refine ⟨fun σ' H' => ∃ mn w : Int, 1 ≤ mn ∧ mn ≤ 12 ∧ Same H2 H' ∧ σ' = [some (.int p), some (.int b), some (.int m), some (.int fi), some (.int e), some (.int w), some (.int mn), none, none], ?_, ?_⟩
      · refine ⟨_, rfl, _, _, rfl, rfl, ⟨by decide, by decide⟩, _, rfl, _, b, rfl, fun v v0 v1 => ⟨v, rfl, v0, v1, fun q H3 s3 _ hq => ⟨q, _, _, _, rfl, rfl, SqT.of hq, rfl, _, _, rfl, rfl, _, rfl, _, _, rfl, rfl, (by show (0 : Int) < 2; decide), _, _, rfl, rfl, _, _, rfl, rfl, (by show (0 : Int) < 12; decide), _, _, rfl, rfl, _, _, ?_, ?_, s3, rfl⟩⟩⟩
        · omega
        · omega
      rintro σ H3 ⟨mn, w, mn0, mn1, s3, rfl⟩
      have lp := DM.len_pos 2000 mn
      refine ⟨_, rfl, _, rfl, _, _, rfl, rfl, ⟨by decide, by decide⟩, _, _, rfl, rfl, (by show (0 : Int) < 28; decide), _, _, rfl, rfl, _, rfl, 2000, mn, rfl, fun H4 s4 => ⟨(by show 2 ≤ sizeLine; decide), fun L hL => ?_⟩⟩
      have S4 := (((S.trans s3).trans s4).trans (same_upd (o := .lst [.int (1 + m / 31 % 28), .int (DM.len 2000 mn)]) hL))
      refine ⟨_, rfl, _, _, rfl, rfl, (by show (0 : Int) < 3; decide), rfl, .inr ⟨_, rfl, L, _, _, _, rfl, rfl, SqL.of upd_same, pick2, ?_⟩⟩
      generalize decide (V.int (m % 3) = V.int 0) = bb
      cases bb with
      | true => exact ⟨_, rfl, _, rfl, (by show 5 ≤ sizeLine; decide), fun t ht => k t (.yr mn (DM.len 2000 mn) fi e) _ (S4.trans (same_upd ht)) upd_same ⟨mn0, mn1, by omega, Int.le_refl _, hf⟩⟩
      | false => exact ⟨_, rfl, _, rfl, (by show 5 ≤ sizeLine; decide), fun t ht => k t (.yr mn (1 + m / 31 % 28) fi e) _ (S4.trans (same_upd ht)) upd_same ⟨mn0, mn1, by omega, by omega, hf⟩⟩
    refine ⟨_, rfl, rfl, _, rfl, ite2 (fun _ => ?_) (fun _ => ?_)⟩
    · refine ⟨_, rfl, _, _, rfl, rfl, (by show (0 : Int) < 7; decide), _, rfl, by omega, by omega, ?_⟩
      refine comp_some (seq_range 0 (m % 7).toNat _) (fun v => ∃ d : Int, v = .int d ∧ 0 ≤ d ∧ d < 146097) (by rw [List.length_map, List.length_range]; omega) (fun x _ H' _ R hR => hR true H' (Same.refl _)) ?_ (fun D H3 ys s3 _ hD hG hle => ?_)
      · intro x hx H' sm R hR
        obtain ⟨i, hi, rfl⟩ := List.mem_map.mp hx
        exact ⟨_, rfl, _, rfl, _, _, rfl, rfl, _, rfl, fun n n0 => ⟨_, rfl, _, b, rfl, fun v v0 v1 => hR _ H' (Same.refl _) ⟨v, rfl, v0, v1⟩⟩⟩
      obtain ⟨ds, rfl, hds⟩ := ints_of hG
      rw [List.length_map, List.length_map, List.length_range] at hle
      refine ⟨D, _, rfl, .inl ⟨SqL.of hD, fun u hu => ⟨(by show 2 ≤ sizeLine; decide), fun t ht => ?_⟩⟩⟩
      exact k t (.dy ds) _ (((S.trans s3).trans (same_upd hu)).trans (same_upd ht)) ⟨u, upd_same, same_upd ht _ _ upd_same⟩ ⟨by omega, hds⟩
    refine ⟨_, rfl, rfl, _, rfl, ite2 (fun _ => ?_) (fun _ => ?_)⟩
    · exact ⟨_, rfl, _, _, rfl, rfl, (by show (0 : Int) < 9; decide), _, _, rfl, rfl, _, rfl, _, _, rfl, rfl, ⟨by decide, by decide⟩, _, _, rfl, rfl, (by show (0 : Int) < 3; decide), (by show 3 ≤ sizeLine; decide), fun t ht => k t (.wh _ _) _ (S.trans (same_upd ht)) upd_same (show (1 : Int) ≤ 2 + m % 9 by omega)⟩
    refine ⟨_, rfl, rfl, _, rfl, ite2 (fun _ => ?_) (fun _ => ?_)⟩
    · exact ⟨(by show 1 ≤ sizeLine; decide), fun t ht => k t (.nv) _ (S.trans (same_upd ht)) upd_same trivial⟩
    refine ⟨_, rfl, _, rfl, _, b, rfl, fun v v0 v1 => ⟨v, rfl, v0, v1, fun q H3 s3 _ hq => ⟨q, _, rfl, SqT.of hq, rfl, _, _, rfl, _, _, rfl, _, _, rfl, rfl, ?_⟩⟩⟩
    obtain ⟨o1, o2, o3, o4⟩ := DM.mo_ok v0 v1
    have lp := DM.len_pos 2000 (DM.mo v % 12 + 1)
    refine ⟨_, rfl, _, rfl, _, _, rfl, _, rfl, _, rfl, _, b, rfl, fun u u0 u1 => ⟨_, rfl, _, _, rfl, rfl, ⟨by decide, by decide⟩, _, _, rfl, rfl, (by show (0 : Int) < 300; decide), _, _, rfl, rfl, _, _, rfl, _, rfl, _, _, rfl, rfl, ⟨by decide, by decide⟩, _, _, rfl, rfl, (by show (0 : Int) < 3; decide), _, _, rfl, rfl, (by show 5 ≤ sizeLine; decide), fun t ht => k t (.yr _ _ _ _) _ ((S.trans s3).trans (same_upd ht)) upd_same ⟨by omega, by omega, ?_, ?_, ?_, ?_, by omega, by omega⟩⟩⟩
    · split <;> omega
    · split <;> omega
    · split <;> omega
    · split <;> omega
end
end K12
namespace K12
open PySem L2
open DF (Rl fl dayDate dayNth isD byM Ok Fi)
section
variable {P : Program} {w : World} {K : PySem.W.Frag} {mg : Str → Option Value} {base : Heap} {a : Adr}
theorem sc_law_months_off : FnScope ["_law_day_here", "_law_date_here", "_law_first_here", "_law_often_here", "_law_begin"] ["_law_day_here", "_law_date_here", "_law_first_here", "_law_often_here"] (defScope s_law_months_off) := ⟨rfl, rfl, rfl, by decide +kernel, rfl, by decide +kernel, by decide +kernel⟩
theorem ok_law_months_off (T : TxtL K mg base a) : FnOk P w K mg base CX0 true 4 a.f_law_months_off a.d_law_months_off ["_law_day_here", "_law_date_here", "_law_first_here", "_law_often_here"] (sp_law_months_off) := by
  refine T.F_law_months_off.ok sc_law_months_off (fun vs H Q E h => ?_) (fun cdv A outer s H vs Q E hr h => ?_)
  · obtain ⟨d, p, fi, e, rfl, _⟩ := h; rfl
  · obtain ⟨d, p, fi, e, rfl, hp, f0, f1, e0, k⟩ := h
    refine ⟨_, (pss_cons (ps_set (i := 4) sc_law_months_off.nd rfl (Or.inl rfl) (pe_call ((ok_law_date T).mono (by decide)) hr rfl T.m_law_date T.F_law_date.kp T.b_law_date .nil pass0 (pa_cons (pv 2) pa_nil)))
      (pss_one (ps_ret (pe_op op_mod (pe_op op_sub (pe_op op_add (pe_op op_mul (pe_op op_sub (pe_ix (ix_tupK (K := K) rfl) (pv 1) pe_int (fun _ _ => rfl)) (pe_ix (ix_tupK (K := K) rfl) (pv 4) pe_int (fun _ _ => rfl))) pe_int) (pe_ix (ix_tupK (K := K) rfl) (pv 1) pe_int (fun _ _ => rfl))) (pe_ix (ix_tupK (K := K) rfl) (pv 4) pe_int (fun _ _ => rfl))) (pv 3))))), ?_⟩
    refine ⟨_, rfl, fi, rfl, f0, f1, fun q H1 s1 _ hq => ?_⟩
    have hp1 := s1 _ _ hp
    have k1 := k H1 s1
    rw [← DF.off_eq (DM.mo d) (DM.mo fi)] at k1
    exact ⟨_, rfl, p, _, _, _, rfl, rfl, SqT.of (hp1), rfl, _, rfl, q, _, _, _, rfl, rfl, SqT.of (hq), rfl, _, _, rfl, rfl, _, _, rfl, rfl, .inr ⟨by decide, by decide⟩, _, rfl, p, _, _, _, rfl, rfl, SqT.of (hp1), rfl, _, _, rfl, rfl, _, rfl, q, _, _, _, rfl, rfl, SqT.of (hq), rfl, _, _, rfl, rfl, _, rfl, _, _, rfl, rfl, (by show (0 : Int) < e; omega), k1⟩
end
end K12
namespace K12
open PySem L2
open DF (Rl fl dayDate dayNth isD byM Ok Fi)
section
variable {P : Program} {w : World} {K : PySem.W.Frag} {mg : Str → Option Value} {base : Heap} {a : Adr}
theorem sc_ByMonth_next_in : FnScope ["self", "day", "end", "begin", "stop", "number", "found"] ["self", "day", "end"] (defScope s_ByMonth_next_in) := ⟨rfl, rfl, rfl, by decide +kernel, rfl, by decide +kernel, by decide +kernel⟩
theorem ok_ByMonth_next_in (T : TxtL K mg base a) : FnOk P w K mg base CX0 true 5 a.f_ByMonth_next_in a.d_ByMonth_next_in ["self", "day", "end"] (sp_ByMonth_next_in (ad a)) := by
  refine T.F_ByMonth_next_in.ok sc_ByMonth_next_in (fun vs H Q E h => ?_) (fun cdv A outer s H vs Q E hr h => ?_)
  · obtain ⟨x, b, e, r, rfl, _⟩ := h; rfl
  · obtain ⟨x, b, e, r, rfl, hm, hr0, ok, k1, k2⟩ := h
    refine ⟨_, (pss_cut (ps_set (i := 3) sc_ByMonth_next_in.nd rfl (Or.inl rfl) (pe_callB (call_max2 rfl) rfl T.n_max (by decide +kernel) (pa_cons (pv 1) (pa_cons (pe_fldK (K := K) rfl (pv 0)) pa_nil))))
      (pss_cut (ps_set (i := 4) sc_ByMonth_next_in.nd rfl (Or.inl rfl) (pe_callB (call_min2 rfl) rfl T.n_min (by decide +kernel) (pa_cons (pv 2) (pa_cons (pe_globI rfl T.g_DAYS) pa_nil))))
      (pss_cons (ps_if (pt_cmpR op_ge (pv 3) (pv 4) (nomark _)) (pss_one (ps_ret pe_non)) pss_nil)
      (pss_cons (ps_set (i := 5) sc_ByMonth_next_in.nd rfl (Or.inl rfl) (pe_call ((ok_month_of T).mono (by decide)) hr rfl T.m_month_of T.F_month_of.kp T.b_month_of .nil pass0 (pa_cons (pv 3) pa_nil)))
      (pss_cut (ps_aug (i := 5) sc_ByMonth_next_in.nd rfl (Or.inl rfl) (pe_op op_mod (pe_op op_sub (pe_fldK (K := K) rfl (pv 0)) (pv 5)) (pe_fldK (K := K) rfl (pv 0))) ip_add)
      (pss_cons (ps_while PassesOwn.never (pt_cmpR op_lt (pe_call ((ok_month_begin T).mono (by decide)) hr rfl T.m_month_begin T.F_month_begin.kp T.b_month_begin .nil pass0 (pa_cons (pv 5) pa_nil)) (pv 4) (nomark _)) (pss_cons (ps_set (i := 6) sc_ByMonth_next_in.nd rfl (Or.inl rfl) (pe_methV (n := 1) (D := dmonth a) (pv 0) (by rintro C R (⟨rfl, rfl⟩ | ⟨rfl, rfl⟩ | ⟨rfl, rfl⟩) <;> first | exact ⟨T.cl_Monthly, _, _, _, _, _, _, _, _, _, _, T.me_Monthly_day_in, (ok_Monthly_day_in T).mono (by decide), hr, T.b_Monthly_day_in, .nil, pass0, fun _ _ _ _ _ h => h⟩ | exact ⟨T.cl_Nth, _, _, _, _, _, _, _, _, _, _, T.me_Nth_day_in, (ok_Nth_day_in T).mono (by decide), hr, T.b_Nth_day_in, .nil, pass0, fun _ _ _ _ _ h => h⟩ | exact ⟨T.cl_Yearly, _, _, _, _, _, _, _, _, _, _, T.me_Yearly_day_in, (ok_Yearly_day_in T).mono (by decide), hr, T.b_Yearly_day_in, .nil, pass0, fun _ _ _ _ _ h => h⟩) (pa_cons (pv 5) pa_nil)))
      (pss_cons (ps_if (PW.pt (pw_and (pt_cmpR op_notN (pv 6) pe_non (nomark _)) (pw_and1 (pt_chain op_le op_lt (pv 3) (pv 6) (pv 4))))) (pss_one (ps_ret (pv 6))) pss_nil)
      (pss_one (ps_aug (i := 5) sc_ByMonth_next_in.nd rfl (Or.inl rfl) (pe_fldK (K := K) rfl (pv 0)) ip_add)))))
      (pss_one (ps_ret pe_non)))))))), ?_⟩
    obtain ⟨C, dx, fs, hx, hC, hfi, hor, hst, hno, R2, hD, hR⟩ := month_obj T hm hr0
    obtain ⟨st1, f0⟩ := DN.stM_pos hm ok
    refine ⟨fun σ' H' => H = H' ∧ ∃ B : Int, B = (if DN.fiM r > b then DN.fiM r else b) ∧ σ' = [some (.ref x), some (.int b), some (.int e), some (.int B), none, none, none], ⟨_, rfl, _, rfl, x, C, dx, fs, _, rfl, hx, hC, hfi.1, hfi.2, _, _, rfl, rfl, _, rfl, rfl⟩, ?_⟩
    rintro σ _ ⟨rfl, B, hB, rfl⟩
    refine ⟨fun σ' H' => H = H' ∧ ∃ s : Int, s = (if 146097 < e then 146097 else e) ∧ σ' = [some (.ref x), some (.int b), some (.int e), some (.int B), some (.int s), none, none], ⟨_, rfl, _, _, rfl, rfl, _, rfl, rfl⟩, ?_⟩
    rintro σ _ ⟨rfl, s, hs, rfl⟩
    have hs1 : s ≤ 146097 ∧ s ≤ e := by rw [hs]; split <;> omega
    have hB1 : b ≤ B ∧ DN.fiM r ≤ B := by rw [hB]; split <;> omega
    refine ⟨_, rfl, _, rfl, _, _, rfl, rfl, _, rfl, ite2 (fun z => ?_) (fun z => ?_)⟩
    · exact k2 (DN.none_of hm ok hB hs (of_decide_eq_true z))
    have hlt : B < s := Int.not_le.mp fun w => z (decide_eq_true w)
    obtain ⟨q1, q2, q3⟩ := DN.gone_first (s := s) hs1.1 hm st1 f0 hB (by omega)
    refine ⟨_, rfl, B, rfl, ?_⟩
    refine ⟨fun σ' H' => H = H' ∧ ∃ n : Int, n = DM.mo B + (DN.orM r - DM.mo B) % DN.stM r ∧ σ' = [some (.ref x), some (.int b), some (.int e), some (.int B), some (.int s), some (.int n), none], ?_, ?_⟩
    · exact ⟨_, rfl, _, rfl, x, C, dx, fs, _, rfl, hx, hC, hor.1, hor.2, _, rfl, _, _, rfl, rfl, _, rfl, x, C, dx, fs, _, rfl, hx, hC, hst.1, hst.2, _, _, rfl, rfl, (by show (0 : Int) < DN.stM r; omega), _, _, rfl, rfl, rfl, _, rfl, rfl⟩
    rintro σ _ ⟨rfl, n0, hn0, rfl⟩
    rw [← hn0] at q1 q2 q3
    refine ⟨fun m σ H' => H = H' ∧ ∃ (n : Int) (y : Option V), m = (s - DM.mb n).toNat ∧ DN.Gone r b s n ∧ (n - DN.orM r) % DN.stM r = 0 ∧ σ = [some (.ref x), some (.int b), some (.int e), some (.int B), some (.int s), some (.int n), y], ⟨_, rfl, n0, _, rfl, q1, q3, rfl⟩, ?_⟩
    rintro m σ _ ⟨rfl, n, y, rfl, hg, hn, rfl⟩
    refine ⟨_, rfl, n, rfl, _, rfl, _, _, rfl, rfl, _, rfl, ite2 (fun z => ?_) (fun z => ?_)⟩
    · have hms : DM.mb n < s := of_decide_eq_true z
      refine ⟨fun σ' H' => ∃ m', m' < (s - DM.mb n).toNat ∧ H = H' ∧ ∃ (n : Int) (y : Option V), m' = (s - DM.mb n).toNat ∧ DN.Gone r b s n ∧ (n - DN.orM r) % DN.stM r = 0 ∧ σ' = [some (.ref x), some (.int b), some (.int e), some (.int B), some (.int s), some (.int n), y], fun σ' H' h => h, ?_⟩
      refine ⟨_, rfl, x, C, dx, fs, R2, rfl, hx, hno, hD, _, rfl, rfl, hR _ _ ?_⟩
      cases hgn : DN.gM r n with
      | none =>
        refine ⟨_, rfl, rfl, _, rfl, ite2 (fun z => absurd z (by decide)) (fun _ => iteF ?_)⟩
        obtain ⟨g1, g2⟩ := DN.gone_step hm st1 hg hn (fun k k0 k1 k3 => DN.gone_none hm (by rw [← hB]; exact (fun d hd => by rw [hgn] at hd; cases hd)) k0 k1 k3)
        have hmono := DM.mb_mono (a := n) (b := n + DN.stM r) (by omega)
        exact ⟨_, rfl, _, rfl, x, C, dx, fs, _, rfl, hx, hC, hst.1, hst.2, _, _, rfl, rfl, (s - DM.mb (n + DN.stM r)).toNat, by omega, rfl, n + DN.stM r, _, rfl, g1, g2, rfl⟩
      | some d =>
        obtain ⟨i1, i2⟩ := DN.gM_in hgn
        refine ⟨_, rfl, rfl, _, rfl, ite2 (fun _ => ?_) (fun z => absurd (by rw [decide_eq_false (fun e => nomatch e)]; rfl) z)⟩
        refine ⟨_, rfl, _, rfl, _, _, rfl, rfl, _, rfl, ite2 (fun z => ?_) (fun z => ⟨_, rfl, iteF ?_⟩)⟩
        · have z1 : B ≤ d := of_decide_eq_true z
          refine ⟨_, rfl, _, _, rfl, rfl, _, rfl, ite2 (fun y => ?_) (fun y => ?_)⟩
          · have y1 : d < s := of_decide_eq_true y
            obtain ⟨c1, c2⟩ := DN.gone_found hm hg y1 (by omega) (by omega) (by omega) hn hgn ok
            exact ⟨_, rfl, k1 d (by omega) (by omega) c1 c2⟩
          · skip
            obtain ⟨g1, g2⟩ := DN.gone_step hm st1 hg hn (fun k k0 k1 k3 => DN.gone_none hm (by rw [← hB]; exact (fun q hq w => by rw [hgn] at hq; cases hq; exact y (decide_eq_true w.2))) k0 k1 k3)
            have hmono := DM.mb_mono (a := n) (b := n + DN.stM r) (by omega)
            exact ⟨_, rfl, _, rfl, x, C, dx, fs, _, rfl, hx, hC, hst.1, hst.2, _, _, rfl, rfl, (s - DM.mb (n + DN.stM r)).toNat, by omega, rfl, n + DN.stM r, _, rfl, g1, g2, rfl⟩
        · skip
          obtain ⟨g1, g2⟩ := DN.gone_step hm st1 hg hn (fun k k0 k1 k3 => DN.gone_none hm (by rw [← hB]; exact (fun q hq w => by rw [hgn] at hq; cases hq; exact z (decide_eq_true w.1))) k0 k1 k3)
          have hmono := DM.mb_mono (a := n) (b := n + DN.stM r) (by omega)
          exact ⟨_, rfl, _, rfl, x, C, dx, fs, _, rfl, hx, hC, hst.1, hst.2, _, _, rfl, rfl, (s - DM.mb (n + DN.stM r)).toNat, by omega, rfl, n + DN.stM r, _, rfl, g1, g2, rfl⟩
    · exact k2 (DN.gone_stop hm ok hg (Int.not_lt.mp fun w => z (decide_eq_true w)) hs)
end
end K12
namespace K12
open PySem L2
open DF (Rl fl dayDate dayNth isD byM Ok Fi)
section
variable {P : Program} {w : World} {K : PySem.W.Frag} {mg : Str → Option Value} {base : Heap} {a : Adr}
theorem sc_Yearly___init : FnScope ["self", "month", "date", "first", "every", "year"] ["self", "month", "date", "first", "every"] (defScope s_Yearly___init) := ⟨rfl, rfl, rfl, by decide +kernel, rfl, by decide +kernel, by decide +kernel⟩
theorem ok_Yearly___init (T : TxtL K mg base a) : FnOk P w K mg base CX0 true 5 a.f_Yearly___init a.d_Yearly___init ["self", "month", "date", "first", "every"] (sp_Yearly_init (ad a)) := by
  refine T.F_Yearly___init.ok sc_Yearly___init (fun vs H Q E h => ?_) (fun cdv A outer s H vs Q E hr h => ?_)
  · obtain ⟨x, dx, mn, dt, fi, e, rfl, _⟩ := h; rfl
  · obtain ⟨x, dx, mn, dt, fi, e, rfl, hx, ⟨m0, m1, d0, d1, hf⟩, k⟩ := h
    refine ⟨_, (pss_cons (ps_expr (pe_call ((ok_check_bounds T).mono (by decide)) hr rfl T.m_check_bounds T.F_check_bounds.kp T.b_check_bounds .nil pass0 (pa_cons (pv 1) (pa_cons pe_int (pa_cons pe_int pa_nil)))))
      (pss_cons (ps_expr (pe_call ((ok_check_bounds T).mono (by decide)) hr rfl T.m_check_bounds T.F_check_bounds.kp T.b_check_bounds .nil pass0 (pa_cons (pv 2) (pa_cons pe_int (pa_cons (pe_call ((ok_month_days T).mono (by decide)) hr rfl T.m_month_days T.F_month_days.kp T.b_month_days .nil pass0 (pa_cons (pe_globI rfl T.g_LONG_YEAR) (pa_cons (pv 1) pa_nil))) pa_nil)))))
      (pss_cons (ps_expr (pe_call ((ok_check_every T).mono (by decide)) hr rfl T.m_check_every T.F_check_every.kp T.b_check_every .nil pass0 (pa_cons (pv 3) (pa_cons (pv 4) pa_nil))))
      (pss_cons (ps_set (i := 5) sc_Yearly___init.nd rfl (Or.inl rfl) (pe_ix (ix_tupK (K := K) rfl) (pe_call ((ok_date_of T).mono (by decide)) hr rfl T.m_date_of T.F_date_of.kp T.b_date_of .nil pass0 (pa_cons (pv 3) pa_nil)) pe_int (fun _ _ => rfl)))
      (pss_cons (ps_expr (pe_clsfn T.cf_ByMonth___init ((ok_ByMonth___init T).mono (by decide)) hr rfl T.m_ByMonth T.b_ByMonth___init .nil pass0 (pa_cons (pv 0) (pa_cons (pe_op op_sub (pe_op op_add (pe_op op_mul (pe_op op_sub (pv 5) (pe_globI rfl T.g_FIRST_YEAR)) pe_int) (pv 1)) pe_int) (pa_cons (pe_op op_mul (pv 4) pe_int) (pa_cons (pv 3) pa_nil))))))
      (pss_cons (ps_fldK (K := K) rfl (pv 0) (pv 1))
      (pss_cons (ps_fldK (K := K) rfl (pv 0) (pv 2))
      (pss_one (ps_fldK (K := K) rfl (pv 0) (pv 4)))))))))), ?_⟩
    refine ⟨_, rfl, mn, 1, 12, rfl, m0, m1, ?_⟩
    refine ⟨_, rfl, _, rfl, 2000, mn, rfl, m0, m1, dt, 1, _, rfl, d0, d1, ?_⟩
    refine ⟨_, rfl, _, rfl, fi, e, rfl, hf, ?_⟩
    refine ⟨_, rfl, fi, rfl, hf.1, hf.2.1, fun p H0 s0 hp0 hp => ?_⟩
    refine ⟨p, _, _, _, rfl, rfl, SqT.of hp, rfl, ?_⟩
    have hx0 := s0 _ _ hx
    refine ⟨_, rfl, _, rfl, _, _, rfl, rfl, _, _, rfl, rfl, .inr ⟨by decide, by decide⟩, _, rfl, _, _, rfl, rfl, _, _, rfl, rfl, _, rfl, _, _, rfl, rfl, .inr ⟨by decide, by decide⟩, _, rfl, x, _, dx, _, _, fi, rfl, ⟨T.cl_Yearly, T.n_Yearly_origin, T.n_Yearly_stride, T.n_Yearly_first⟩, hx0, fun H1 s1 hx1 => ?_⟩
    rw [show 2000 + DM.mo fi / 12 - 2000 = DM.mo fi / 12 by omega] at hx1
    refine ⟨_, rfl, _, rfl, x, _, dx, _, rfl, hx1, T.cl_Yearly, T.n_Yearly_month, (by show 3 < 1000; decide), ?_⟩
    rw [pf_Yearly_month]
    refine ⟨_, rfl, _, rfl, x, _, dx, _, rfl, upd_same, T.cl_Yearly, T.n_Yearly_date, (by show 4 < 1000; decide), ?_⟩
    rw [pf_Yearly_date]
    refine ⟨_, rfl, _, rfl, x, _, dx, _, rfl, upd_same, T.cl_Yearly, T.n_Yearly_every, (by show 5 < 1000; decide), ?_⟩
    rw [pf_Yearly_every]
    exact k _ (fun c u hc e => by rw [upd_ne hc, upd_ne hc, upd_ne hc]; exact s1 _ _ hc (s0 _ _ e)) ⟨dx, upd_same⟩
end
end K12
namespace K12
open PySem L2
open DF (Rl fl dayDate dayNth isD byM Ok Fi)
section
variable {P : Program} {w : World} {K : PySem.W.Frag} {mg : Str → Option Value} {base : Heap} {a : Adr}
theorem sc_law_plain : FnScope ["_law_rule_here", "_law_day_here", "_law_date_here", "_law_word", "_law_weeks", "_law_last", "_law_years", "_law_turn"] ["_law_rule_here", "_law_day_here", "_law_date_here"] (defScope s_law_plain) := ⟨rfl, rfl, rfl, by decide +kernel, rfl, by decide +kernel, by decide +kernel⟩
theorem ok_law_plain (T : TxtL K mg base a) : FnOk P w K mg base CX0 true 5 a.f_law_plain a.d_law_plain ["_law_rule_here", "_law_day_here", "_law_date_here"] (sp_law_plain) := by
  refine T.F_law_plain.ok sc_law_plain (fun vs H Q E h => ?_) (fun cdv A outer s H vs Q E hr h => ?_)
  · obtain ⟨t, p, d, r, rfl, _⟩ := h; rfl
  · obtain ⟨t, p, d, r, rfl, ht, ok, d0, d1, hp, k⟩ := h
    refine ⟨_, (pss_cons (ps_set (i := 3) sc_law_plain.nd rfl (Or.inl rfl) (pe_ix (ix_tupK (K := K) rfl) (pv 0) pe_int (fun _ _ => rfl)))
      (pss_cons (ps_if (pt_cmpR op_eq (pv 3) pe_str (nomark _)) (pss_one (ps_ret pe_bl)) pss_nil)
      (pss_cons (ps_if (pt_cmpR op_eq (pv 3) pe_str (nomark _)) (pss_one (ps_ret (pe_cmpR (op_in_seqK (K := K) rfl) (pv 1) (pe_ix (ix_tupK (K := K) rfl) (pv 0) pe_int (fun _ _ => rfl)) (by with_unfolding_all rfl)))) pss_nil)
      (pss_cons (ps_if (pt_cmpR op_eq (pv 3) pe_str (nomark _)) (pss_one (ps_ret (pe_cmpR op_eq (pe_op op_mod (pe_op op_mul (pv 1) (pv 1)) (pe_ix (ix_tupK (K := K) rfl) (pv 0) pe_int (fun _ _ => rfl))) (pe_ix (ix_tupK (K := K) rfl) (pv 0) pe_int (fun _ _ => rfl)) (nomark _)))) pss_nil)
      (pss_cons (ps_if (pt_cmpR op_eq (pv 3) pe_str (nomark _)) (pss_one (ps_ret (pe_and (pe_cmpR op_ge (pv 1) (pe_ix (ix_tupK (K := K) rfl) (pv 0) pe_int (fun _ _ => rfl)) (nomark _)) (pe_one (pe_cmpR op_eq (pe_op op_mod (pe_op op_sub (pv 1) (pe_ix (ix_tupK (K := K) rfl) (pv 0) pe_int (fun _ _ => rfl))) (pe_ix (ix_tupK (K := K) rfl) (pv 0) pe_int (fun _ _ => rfl))) pe_int (nomark _)))))) pss_nil)
      (pss_cons (ps_if (pt_cmpR op_lt (pv 1) (pe_ix (ix_tupK (K := K) rfl) (pv 0) (pe_un un_neg pe_int) (fun _ _ => rfl)) (nomark _)) (pss_one (ps_ret pe_bl)) pss_nil)
      (pss_cons (ps_if (pt_cmpR op_eq (pv 3) pe_str (nomark _)) (pss_cons (ps_set (i := 4) sc_law_plain.nd rfl (Or.inl rfl) (pe_op op_sub (pe_op op_fdiv (pe_op op_add (pv 1) pe_int) pe_int) (pe_op op_fdiv (pe_op op_add (pe_ix (ix_tupK (K := K) rfl) (pv 0) pe_int (fun _ _ => rfl)) pe_int) pe_int)))
      (pss_one (ps_ret (pe_and (pe_cmpR op_eq (pe_op op_mod (pv 4) (pe_ix (ix_tupK (K := K) rfl) (pv 0) pe_int (fun _ _ => rfl))) pe_int (nomark _)) (pe_one (pe_cmpR op_eq (pe_op op_mod (pe_op op_fdiv (pe_ix (ix_tupK (K := K) rfl) (pv 0) pe_int (fun _ _ => rfl)) (pe_ix (ix_listK (K := K) rfl) (pe_lst (pa_lits [.int 1, .int 2, .int 4, .int 8, .int 16, .int 32, .int 64] (by decide +kernel))) (pe_op op_mod (pe_op op_add (pv 1) pe_int) pe_int) (fun _ _ => rfl))) pe_int) pe_int (nomark _))))))) pss_nil)
      (pss_cons (ps_set (i := 5) sc_law_plain.nd rfl (Or.inl rfl) (pe_call ((ok_law_length T).mono (by decide)) hr rfl T.m_law_length T.F_law_length.kp T.b_law_length .nil pass0 (pa_cons (pe_ix (ix_tupK (K := K) rfl) (pv 2) pe_int (fun _ _ => rfl)) (pa_cons (pe_ix (ix_tupK (K := K) rfl) (pv 2) pe_int (fun _ _ => rfl)) pa_nil))))
      (pss_cons (ps_if (pt_cmpR op_eq (pv 3) pe_str (nomark _)) (pss_cons (ps_set (i := 6) sc_law_plain.nd rfl (Or.inl rfl) (pe_op op_sub (pe_ix (ix_tupK (K := K) rfl) (pv 2) pe_int (fun _ _ => rfl)) (pe_ix (ix_tupK (K := K) rfl) (pe_call ((ok_law_date T).mono (by decide)) hr rfl T.m_law_date T.F_law_date.kp T.b_law_date .nil pass0 (pa_cons (pe_ix (ix_tupK (K := K) rfl) (pv 0) pe_int (fun _ _ => rfl)) pa_nil)) pe_int (fun _ _ => rfl))))
      (pss_one (ps_ret (pe_and (pe_cmpR op_eq (pe_op op_mod (pv 6) (pe_ix (ix_tupK (K := K) rfl) (pv 0) pe_int (fun _ _ => rfl))) pe_int (nomark _)) (pe_and (pe_cmpR op_eq (pe_ix (ix_tupK (K := K) rfl) (pv 2) pe_int (fun _ _ => rfl)) (pe_ix (ix_tupK (K := K) rfl) (pv 0) pe_int (fun _ _ => rfl)) (nomark _)) (pe_one (pe_cmpR op_eq (pe_ix (ix_tupK (K := K) rfl) (pv 2) pe_int (fun _ _ => rfl)) (pe_ix (ix_tupK (K := K) rfl) (pv 0) pe_int (fun _ _ => rfl)) (nomark _)))))))) pss_nil)
      (pss_cons (ps_if (pt_cmpR op_gt (pe_call ((ok_law_months_off T).mono (by decide)) hr rfl T.m_law_months_off T.F_law_months_off.kp T.b_law_months_off .nil pass0 (pa_cons (pv 1) (pa_cons (pv 2) (pa_cons (pe_ix (ix_tupK (K := K) rfl) (pv 0) (pe_un un_neg pe_int) (fun _ _ => rfl)) (pa_cons (pe_ix (ix_tupK (K := K) rfl) (pv 0) (pe_un un_neg pe_int) (fun _ _ => rfl)) pa_nil))))) pe_int (nomark _)) (pss_one (ps_ret pe_bl)) pss_nil)
      (pss_cons (ps_if (pt_cmpR op_eq (pv 3) pe_str (nomark _)) (pss_one (ps_ret (pe_cmpR op_eq (pe_ix (ix_tupK (K := K) rfl) (pv 2) pe_int (fun _ _ => rfl)) (pe_ix (ix_listK (K := K) rfl) (pe_lst (pa_cons (pe_ix (ix_tupK (K := K) rfl) (pv 0) pe_int (fun _ _ => rfl)) (pa_cons (pe_op op_add (pe_op op_add (pv 5) pe_int) (pe_ix (ix_tupK (K := K) rfl) (pv 0) pe_int (fun _ _ => rfl))) pa_nil))) (pe_callTy call_int1 rfl T.n_int (by decide +kernel) (pa_cons (pe_cmpR op_lt (pe_ix (ix_tupK (K := K) rfl) (pv 0) pe_int (fun _ _ => rfl)) pe_int (nomark _)) pa_nil)) (fun _ _ => rfl)) (nomark _)))) pss_nil)
      (pss_cons (ps_set (i := 7) sc_law_plain.nd rfl (Or.inl rfl) (pe_op op_fdiv (pe_op op_add (pe_ix (ix_tupK (K := K) rfl) (pv 2) pe_int (fun _ _ => rfl)) pe_int) pe_int))
      (pss_cons (ps_if (pt_cmpR op_lt (pe_ix (ix_tupK (K := K) rfl) (pv 0) pe_int (fun _ _ => rfl)) pe_int (nomark _)) (pss_one (ps_set (i := 7) sc_law_plain.nd rfl (Or.inl rfl) (pe_op op_sub pe_int (pe_op op_fdiv (pe_op op_add (pe_op op_sub (pv 5) (pe_ix (ix_tupK (K := K) rfl) (pv 2) pe_int (fun _ _ => rfl))) pe_int) pe_int)))) pss_nil)
      (pss_one (ps_ret (pe_and (pe_cmpR op_eq (pe_op op_mod (pe_op op_add (pv 1) pe_int) pe_int) (pe_ix (ix_tupK (K := K) rfl) (pv 0) pe_int (fun _ _ => rfl)) (nomark _)) (pe_one (pe_cmpR op_eq (pv 7) (pe_ix (ix_tupK (K := K) rfl) (pv 0) pe_int (fun _ _ => rfl)) (nomark _))))))))))))))))))), ?_⟩
    cases r with
    | nv =>
      refine ⟨_, rfl, t, _, _, _, rfl, rfl, SqT.of (ht), rfl, ?_⟩
      refine ⟨_, rfl, rfl, _, rfl, ite2 (fun _ => ?_) (fun z => absurd (by decide +kernel) z)⟩
      exact k H (Same.refl _)
    | dy ds =>
      obtain ⟨u, ht, hu⟩ := ht
      refine ⟨_, rfl, t, _, _, _, rfl, rfl, SqT.of (ht), rfl, ?_⟩
      refine ⟨_, rfl, rfl, _, rfl, ite2 (fun z => absurd z (by decide +kernel)) (fun _ => ?_)⟩
      refine ⟨_, rfl, rfl, _, rfl, ite2 (fun _ => ?_) (fun z => absurd (by decide +kernel) z)⟩
      refine ⟨_, rfl, _, rfl, t, _, _, _, rfl, rfl, SqT.of (ht), rfl, u, _, rfl, .inr (SqT.of hu), rfl, ?_, ?_⟩
      · rw [List.all_map]; exact List.all_eq_true.mpr fun _ _ => rfl
      · show Q (.bl (inV (.int d) (ds.map V.int))) H
        rw [inV_ints]
        exact k H (Same.refl _)
    | wh m r =>
      refine ⟨_, rfl, t, _, _, _, rfl, rfl, SqT.of (ht), rfl, ?_⟩
      refine ⟨_, rfl, rfl, _, rfl, ite2 (fun z => absurd z (by decide +kernel)) (fun _ => ?_)⟩
      refine ⟨_, rfl, rfl, _, rfl, ite2 (fun z => absurd z (by decide +kernel)) (fun _ => ?_)⟩
      refine ⟨_, rfl, rfl, _, rfl, ite2 (fun _ => ?_) (fun z => absurd (by decide +kernel) z)⟩
      have k0 : Q (.bl (isD d && decide (d * d % m = r))) H := k H (Same.refl _)
      rw [DF.pl_in d0 d1, Bool.true_and] at k0
      have m1 : 1 ≤ m := ok
      refine ⟨_, rfl, _, rfl, _, _, rfl, rfl, .inl ⟨by omega, by omega⟩, _, rfl, t, _, _, _, rfl, rfl, SqT.of (ht), rfl, _, _, rfl, rfl, (by show (0 : Int) < m; omega), _, rfl, t, _, _, _, rfl, rfl, SqT.of (ht), rfl, rfl, ?_⟩
      rw [vint]
      exact k0
    | ev st fi =>
      refine ⟨_, rfl, t, _, _, _, rfl, rfl, SqT.of (ht), rfl, ?_⟩
      refine ⟨_, rfl, rfl, _, rfl, ite2 (fun z => absurd z (by decide +kernel)) (fun _ => ?_)⟩
      refine ⟨_, rfl, rfl, _, rfl, ite2 (fun z => absurd z (by decide +kernel)) (fun _ => ?_)⟩
      refine ⟨_, rfl, rfl, _, rfl, ite2 (fun z => absurd z (by decide +kernel)) (fun _ => ?_)⟩
      refine ⟨_, rfl, rfl, _, rfl, ite2 (fun _ => ?_) (fun z => absurd (by decide +kernel) z)⟩
      obtain ⟨s1, s2, f0, f1⟩ := ok
      have k0 : Q (.bl (isD d && (decide (fi ≤ d) && decide ((d - fi) % st = 0)))) H := k H (Same.refl _)
      rw [DF.pl_in d0 d1, Bool.true_and] at k0
      refine ⟨_, rfl, _, rfl, t, _, _, _, rfl, rfl, SqT.of (ht), rfl, _, _, rfl, rfl, _, rfl, ?_⟩
      cases e2 : decide (fi ≤ d) with
      | false => rw [e2] at k0; exact iteF k0
      | true =>
      rw [e2, Bool.true_and] at k0
      refine iteT ?_
      refine ⟨_, rfl, _, rfl, t, _, _, _, rfl, rfl, SqT.of (ht), rfl, _, _, rfl, rfl, _, rfl, t, _, _, _, rfl, rfl, SqT.of (ht), rfl, _, _, rfl, rfl, (by show (0 : Int) < st; omega), rfl, ?_⟩
      rw [vint]
      exact k0
    | wk mk fi e =>
      refine ⟨_, rfl, t, _, _, _, rfl, rfl, SqT.of (ht), rfl, ?_⟩
      refine ⟨_, rfl, rfl, _, rfl, ite2 (fun z => absurd z (by decide +kernel)) (fun _ => ?_)⟩
      refine ⟨_, rfl, rfl, _, rfl, ite2 (fun z => absurd z (by decide +kernel)) (fun _ => ?_)⟩
      refine ⟨_, rfl, rfl, _, rfl, ite2 (fun z => absurd z (by decide +kernel)) (fun _ => ?_)⟩
      refine ⟨_, rfl, rfl, _, rfl, ite2 (fun z => absurd z (by decide +kernel)) (fun _ => ?_)⟩
      obtain ⟨m0, m1, f0, f1, e0, e1⟩ := ok
      refine ⟨_, rfl, _, rfl, _, rfl, t, _, _, _, rfl, rfl, SqT.of (ht), rfl, _, _, rfl, rfl, _, rfl, ite2 (fun z => ?_) (fun z => ?_)⟩
      · have z' : d < fi := of_decide_eq_true z
        have k0 := k H (Same.refl _)
        rw [DF.fl_lt z'] at k0
        exact k0
      have hf : fi ≤ d := Int.not_lt.mp fun w => z (decide_eq_true w)
      clear z
      refine ⟨_, rfl, rfl, _, rfl, ite2 (fun _ => ?_) (fun z => absurd (by decide +kernel) z)⟩
      have k0 := k
      refine ⟨_, rfl, _, _, rfl, rfl, _, _, rfl, rfl, ⟨by decide, by decide⟩, _, rfl, t, _, _, _, rfl, rfl, SqT.of (ht), rfl, _, _, rfl, rfl, _, _, rfl, rfl, ⟨by decide, by decide⟩, _, _, rfl, rfl, ?_⟩
      have pw := DF.pl_wk (mk := mk) (e := e) d0 d1 hf
      refine ⟨_, rfl, _, rfl, t, _, _, _, rfl, rfl, SqT.of (ht), rfl, _, _, rfl, rfl, (by show (0 : Int) < e; omega), rfl, _, rfl, ?_⟩
      rw [vint]
      rw [pw] at k0
      cases e2 : decide (((d + 5) / 7 - (fi + 5) / 7) % e = 0) with
      | false =>
        have k1 := k0 H (Same.refl _)
        rw [e2] at k1
        exact iteF k1
      | true =>
      rw [e2, Bool.true_and] at k0
      refine iteT ⟨_, rfl, t, _, _, _, rfl, rfl, SqT.of (ht), rfl, (by show 7 ≤ sizeLine; decide), fun L hL => ?_⟩
      refine ⟨_, rfl, _, _, rfl, rfl, _, _, rfl, rfl, (by show (0 : Int) < 7; decide), L, _, _, _, rfl, rfl, SqL.of upd_same, p2_at d, _, _, rfl, rfl, p2_pos d, _, _, rfl, rfl, (by show (0 : Int) < 2; decide), rfl, ?_⟩
      rw [vint]
      exact k0 _ (same_upd hL)
    | yr mn dt fi e =>
      refine ⟨_, rfl, t, _, _, _, rfl, rfl, SqT.of (ht), rfl, ?_⟩
      refine ⟨_, rfl, rfl, _, rfl, ite2 (fun z => absurd z (by decide +kernel)) (fun _ => ?_)⟩
      refine ⟨_, rfl, rfl, _, rfl, ite2 (fun z => absurd z (by decide +kernel)) (fun _ => ?_)⟩
      refine ⟨_, rfl, rfl, _, rfl, ite2 (fun z => absurd z (by decide +kernel)) (fun _ => ?_)⟩
      refine ⟨_, rfl, rfl, _, rfl, ite2 (fun z => absurd z (by decide +kernel)) (fun _ => ?_)⟩
      have ok0 := ok
      obtain ⟨m0, m1, t0, t1, fo⟩ := ok
      refine ⟨_, rfl, _, rfl, _, rfl, t, _, _, _, rfl, rfl, SqT.of (ht), rfl, _, _, rfl, rfl, _, rfl, ite2 (fun z => ?_) (fun z => ?_)⟩
      · have z' : d < fi := of_decide_eq_true z
        have k0 := k H (Same.refl _)
        rw [DF.fl_lt z'] at k0
        exact k0
      have hf : fi ≤ d := Int.not_lt.mp fun w => z (decide_eq_true w)
      clear z
      refine ⟨_, rfl, rfl, _, rfl, ite2 (fun z => absurd z (by decide +kernel)) (fun _ => ?_)⟩
      refine ⟨_, rfl, p, _, _, _, rfl, rfl, SqT.of (hp), rfl, _, rfl, p, _, _, _, rfl, rfl, SqT.of (hp), rfl, _, _, rfl, fun H1 s1 => ?_⟩
      have ht1 := s1 _ _ ht
      have hp1 := s1 _ _ hp
      refine ⟨_, rfl, rfl, _, rfl, ite2 (fun _ => ?_) (fun z => absurd (by decide +kernel) z)⟩
      have py := DF.pl_yr d0 d1 hf ok0
      rw [py] at k
      refine ⟨_, rfl, p, _, _, _, rfl, rfl, SqT.of (hp1), rfl, _, rfl, t, _, _, _, rfl, rfl, SqT.of (ht1), rfl, fi, rfl, fo.1, fo.2.1, fun q H2 s2 _ hq => ?_⟩
      have ht2 := s2 _ _ ht1
      have hp2 := s2 _ _ hp1
      have k0 := k H2 (s1.trans s2)
      refine ⟨q, _, _, _, rfl, rfl, SqT.of hq, rfl, _, _, rfl, rfl, ?_⟩
      refine ⟨_, rfl, _, rfl, t, _, _, _, rfl, rfl, SqT.of (ht2), rfl, _, _, rfl, rfl, (by show (0 : Int) < e; exact fo.2.2.1), rfl, _, rfl, ?_⟩
      rw [vint]
      cases e2 : decide ((2000 + DM.mo d / 12 - (2000 + DM.mo fi / 12)) % e = 0) with
      | false => rw [e2] at k0; exact iteF k0
      | true =>
      rw [e2, Bool.true_and] at k0
      refine iteT ?_
      refine ⟨_, rfl, p, _, _, _, rfl, rfl, SqT.of (hp2), rfl, _, rfl, t, _, _, _, rfl, rfl, SqT.of (ht2), rfl, rfl, _, rfl, ?_⟩
      rw [vint]
      cases e3 : decide (DM.mo d % 12 + 1 = mn) with
      | false => rw [e3] at k0; exact iteF k0
      | true =>
      rw [e3, Bool.true_and] at k0
      refine iteT ?_
      refine ⟨_, rfl, p, _, _, _, rfl, rfl, SqT.of (hp2), rfl, _, rfl, t, _, _, _, rfl, rfl, SqT.of (ht2), rfl, rfl, ?_⟩
      rw [vint]
      exact k0
    | mo dt fi e =>
      refine ⟨_, rfl, t, _, _, _, rfl, rfl, SqT.of (ht), rfl, ?_⟩
      refine ⟨_, rfl, rfl, _, rfl, ite2 (fun z => absurd z (by decide +kernel)) (fun _ => ?_)⟩
      refine ⟨_, rfl, rfl, _, rfl, ite2 (fun z => absurd z (by decide +kernel)) (fun _ => ?_)⟩
      refine ⟨_, rfl, rfl, _, rfl, ite2 (fun z => absurd z (by decide +kernel)) (fun _ => ?_)⟩
      refine ⟨_, rfl, rfl, _, rfl, ite2 (fun z => absurd z (by decide +kernel)) (fun _ => ?_)⟩
      have ok0 := ok
      obtain ⟨t0, t1, t2, fo⟩ := ok
      refine ⟨_, rfl, _, rfl, _, rfl, t, _, _, _, rfl, rfl, SqT.of (ht), rfl, _, _, rfl, rfl, _, rfl, ite2 (fun z => ?_) (fun z => ?_)⟩
      · have z' : d < fi := of_decide_eq_true z
        have k0 := k H (Same.refl _)
        rw [DF.fl_lt z'] at k0
        exact k0
      have hf : fi ≤ d := Int.not_lt.mp fun w => z (decide_eq_true w)
      clear z
      refine ⟨_, rfl, rfl, _, rfl, ite2 (fun z => absurd z (by decide +kernel)) (fun _ => ?_)⟩
      refine ⟨_, rfl, p, _, _, _, rfl, rfl, SqT.of (hp), rfl, _, rfl, p, _, _, _, rfl, rfl, SqT.of (hp), rfl, _, _, rfl, fun H1 s1 => ?_⟩
      have ht1 := s1 _ _ ht
      have hp1 := s1 _ _ hp
      refine ⟨_, rfl, rfl, _, rfl, ite2 (fun z => absurd z (by decide +kernel)) (fun _ => ?_)⟩
      refine ⟨_, rfl, _, rfl, _, rfl, _, rfl, t, _, _, _, rfl, rfl, SqT.of (ht1), rfl, _, rfl, _, rfl, t, _, _, _, rfl, rfl, SqT.of (ht1), rfl, d, p, fi, e, rfl, hp1, fo.1, fo.2.1, fo.2.2.1, fun H2 s2 => ?_⟩
      have ht2 := s2 _ _ ht1
      have hp2 := s2 _ _ hp1
      refine ⟨_, _, rfl, rfl, _, rfl, ite2 (fun z => ?_) (fun z => ?_)⟩
      · have k0 := k H2 (s1.trans s2)
        rw [DF.pl_mo0 d0 d1 hf (of_decide_eq_true z)] at k0
        exact k0
      rw [DF.pl_mo d0 d1 hf ok0 (fun w => z (decide_eq_true w))] at k
      refine ⟨_, rfl, rfl, _, rfl, ite2 (fun _ => ?_) (fun z => absurd (by decide +kernel) z)⟩
      refine ⟨_, rfl, p, _, _, _, rfl, rfl, SqT.of (hp2), rfl, _, rfl, t, _, _, _, rfl, rfl, SqT.of (ht2), rfl, _, rfl, _, _, rfl, rfl, _, rfl, t, _, _, _, rfl, rfl, SqT.of (ht2), rfl, _, _, rfl, rfl, (by show 2 ≤ sizeLine; decide), fun L hL => ?_⟩
      have ht3 := same_upd (o := .lst [.int dt, .int (DM.len (2000 + DM.mo d / 12) (DM.mo d % 12 + 1) + 1 + dt)]) hL _ _ ht2
      refine ⟨_, rfl, t, _, _, _, rfl, rfl, SqT.of (ht3), rfl, _, _, rfl, rfl, .inr ⟨_, rfl, L, _, _, _, rfl, rfl, SqL.of upd_same, pick2, ?_⟩⟩
      have k0 := k _ ((s1.trans s2).trans (same_upd (o := .lst [.int dt, .int (DM.len (2000 + DM.mo d / 12) (DM.mo d % 12 + 1) + 1 + dt)]) hL))
      by_cases hd : dt < 0
      · rw [if_pos hd] at k0
        rw [decide_eq_true hd, if_pos rfl]
        refine ⟨rfl, ?_⟩
        rw [vint]
        exact k0
      · rw [if_neg hd] at k0
        rw [decide_eq_false hd, if_neg (by decide)]
        refine ⟨rfl, ?_⟩
        rw [vint]
        exact k0
    | nt w wd fi e =>
      refine ⟨_, rfl, t, _, _, _, rfl, rfl, SqT.of (ht), rfl, ?_⟩
      refine ⟨_, rfl, rfl, _, rfl, ite2 (fun z => absurd z (by decide +kernel)) (fun _ => ?_)⟩
      refine ⟨_, rfl, rfl, _, rfl, ite2 (fun z => absurd z (by decide +kernel)) (fun _ => ?_)⟩
      refine ⟨_, rfl, rfl, _, rfl, ite2 (fun z => absurd z (by decide +kernel)) (fun _ => ?_)⟩
      refine ⟨_, rfl, rfl, _, rfl, ite2 (fun z => absurd z (by decide +kernel)) (fun _ => ?_)⟩
      have ok0 := ok
      obtain ⟨t0, t1, t2, w0, w1, fo⟩ := ok
      refine ⟨_, rfl, _, rfl, _, rfl, t, _, _, _, rfl, rfl, SqT.of (ht), rfl, _, _, rfl, rfl, _, rfl, ite2 (fun z => ?_) (fun z => ?_)⟩
      · have z' : d < fi := of_decide_eq_true z
        have k0 := k H (Same.refl _)
        rw [DF.fl_lt z'] at k0
        exact k0
      have hf : fi ≤ d := Int.not_lt.mp fun w => z (decide_eq_true w)
      clear z
      refine ⟨_, rfl, rfl, _, rfl, ite2 (fun z => absurd z (by decide +kernel)) (fun _ => ?_)⟩
      refine ⟨_, rfl, p, _, _, _, rfl, rfl, SqT.of (hp), rfl, _, rfl, p, _, _, _, rfl, rfl, SqT.of (hp), rfl, _, _, rfl, fun H1 s1 => ?_⟩
      have ht1 := s1 _ _ ht
      have hp1 := s1 _ _ hp
      refine ⟨_, rfl, rfl, _, rfl, ite2 (fun z => absurd z (by decide +kernel)) (fun _ => ?_)⟩
      refine ⟨_, rfl, _, rfl, _, rfl, _, rfl, t, _, _, _, rfl, rfl, SqT.of (ht1), rfl, _, rfl, _, rfl, t, _, _, _, rfl, rfl, SqT.of (ht1), rfl, d, p, fi, e, rfl, hp1, fo.1, fo.2.1, fo.2.2.1, fun H2 s2 => ?_⟩
      have ht2 := s2 _ _ ht1
      have hp2 := s2 _ _ hp1
      refine ⟨_, _, rfl, rfl, _, rfl, ite2 (fun z => ?_) (fun z => ?_)⟩
      · have k0 := k H2 (s1.trans s2)
        rw [DF.pl_nt0 d0 d1 hf (of_decide_eq_true z)] at k0
        exact k0
      have k0 := k H2 (s1.trans s2)
      rw [DF.pl_nt d0 d1 hf ok0 (fun w => z (decide_eq_true w))] at k0
      refine ⟨_, rfl, rfl, _, rfl, ite2 (fun z => absurd z (by decide +kernel)) (fun _ => ?_)⟩
      refine ⟨_, rfl, p, _, _, _, rfl, rfl, SqT.of (hp2), rfl, _, _, rfl, rfl, _, _, rfl, rfl, ⟨by decide, by decide⟩, _, rfl, t, _, _, _, rfl, rfl, SqT.of (ht2), rfl, _, _, rfl, rfl, _, rfl, ite2 (fun z => ?_) (fun z => ?_)⟩
      · rw [if_pos (of_decide_eq_true z)] at k0
        refine ⟨_, rfl, _, rfl, p, _, _, _, rfl, rfl, SqT.of (hp2), rfl, _, _, rfl, rfl, _, _, rfl, rfl, _, _, rfl, rfl, ⟨by decide, by decide⟩, _, _, rfl, rfl, ?_⟩
        refine ⟨_, rfl, _, _, rfl, rfl, _, _, rfl, rfl, (by show (0 : Int) < 7; decide), _, rfl, t, _, _, _, rfl, rfl, SqT.of (ht2), rfl, rfl, _, rfl, ?_⟩
        rw [vint]
        cases e2 : decide ((d + 5) % 7 = wd) with
        | false => rw [e2] at k0; exact iteF k0
        | true =>
        rw [e2, Bool.true_and] at k0
        refine iteT ?_
        refine ⟨_, rfl, _, rfl, t, _, _, _, rfl, rfl, SqT.of (ht2), rfl, rfl, ?_⟩
        rw [vint]
        exact k0
      · rw [if_neg (fun w => z (decide_eq_true w))] at k0
        refine ⟨_, rfl, _, _, rfl, rfl, _, _, rfl, rfl, (by show (0 : Int) < 7; decide), _, rfl, t, _, _, _, rfl, rfl, SqT.of (ht2), rfl, rfl, _, rfl, ?_⟩
        rw [vint]
        cases e2 : decide ((d + 5) % 7 = wd) with
        | false => rw [e2] at k0; exact iteF k0
        | true =>
        rw [e2, Bool.true_and] at k0
        refine iteT ?_
        refine ⟨_, rfl, _, rfl, t, _, _, _, rfl, rfl, SqT.of (ht2), rfl, rfl, ?_⟩
        rw [vint]
        exact k0
end
end K12
namespace K12
open PySem L2
open DF (Rl fl dayDate dayNth isD byM Ok Fi)
section
variable {P : Program} {w : World} {K : PySem.W.Frag} {mg : Str → Option Value} {base : Heap} {a : Adr}
theorem sc_law_days_alone : FnScope ["_law_cell", "_law_seen", "_law_test", "_law_made", "_law_far"] ["_law_cell"] (defScope s_law_days_alone) := ⟨rfl, rfl, rfl, by decide +kernel, rfl, by decide +kernel, by decide +kernel⟩
theorem ok_law_days_alone (T : TxtL K mg base a) : FnOk P w K mg base CX0 true 5 a.f_law_days_alone a.d_law_days_alone ["_law_cell"] (sp_law_days_alone a.pt_law_days_alone) := by
  refine T.F_law_days_alone.okC sc_law_days_alone T.lc_law_days_alone (fun vs H Q E h => ?_) (fun A outer s H vs Q E hr h => ?_)
  · obtain ⟨c, rfl, _⟩ := h; rfl
  · obtain ⟨c, rfl, hpt, k⟩ := h
    refine ⟨_, (pss_cons (ps_set (i := 1) sc_law_days_alone.nd rfl (Or.inr rfl) (pe_lst pa_nil))
      (pss_cons (ps_def (i := 2) T.L_law_days_alone rfl sc_law_days_alone.nd rfl (Or.inl rfl))
      (pss_cons (ps_set (i := 3) sc_law_days_alone.nd rfl (Or.inl rfl) (pe_make T.mk_Where ((ok_Where___init T).mono (by decide)) hr rfl T.m_Where T.b_Where___init .nil pass0 (pa_cons (pv 2) pa_nil)))
      (pss_cons (ps_set (i := 4) sc_law_days_alone.nd rfl (Or.inl rfl) (pe_ix (ix_listK (K := K) rfl) (pe_lst (pa_cons (pe_un un_neg pe_int) (pa_cons pe_int (pa_cons (pe_un un_neg pe_int) (pa_cons (pe_op op_pow pe_int pe_int) pa_nil))))) (pe_op op_mod (pv 0) pe_int) (fun _ _ => rfl)))
      (pss_cons (ps_if (PW.pt (pw_or (pt_cmpR op_isnotB (pe_methL (n := 1) (c := s.heap.objs.size + 1) (i := 1) (nm := "_law_seen") (D := fun C R => (C = a.x_Where ∧ R = fun x vs H Q => (sp_Where_falls_onB a.x_Where) (x :: (vs ++ ([] : List V))) H Q E0)) rfl rfl rfl rfl (pv 3) (by rintro C R ⟨rfl, rfl⟩ <;> first | exact ⟨T.cl_Where, _, _, _, _, _, _, _, _, T.me_Where_falls_on, (ok_Where_falls_onB T).mono (by decide), hr, T.b_Where_falls_on, .nil, fun _ _ _ _ _ h => h⟩) (pa_cons (pv 4) pa_nil)) pe_bl (nomark _)) (pw_or (pt_cmpR op_ne (pe_methL (n := 2) (c := s.heap.objs.size + 1) (i := 1) (nm := "_law_seen") (D := fun C R => (C = a.x_Where ∧ R = fun x vs H Q => (sp_Where_next_inB a.x_Where) (x :: (vs ++ ([] : List V))) H Q E0)) rfl rfl rfl rfl (pv 3) (by rintro C R ⟨rfl, rfl⟩ <;> first | exact ⟨T.cl_Where, _, _, _, _, _, _, _, _, T.me_Where_next_in, (ok_Where_next_inB T).mono (by decide), hr, T.b_Where_next_in, .nil, fun _ _ _ _ _ h => h⟩) (pa_lits [.int (-9), .int 9] (by decide +kernel))) pe_int (nomark _)) (pw_or1 (pt_cmpR op_notN (pe_methL (n := 2) (c := s.heap.objs.size + 1) (i := 1) (nm := "_law_seen") (D := fun C R => (C = a.x_Where ∧ R = fun x vs H Q => (sp_Where_next_inB a.x_Where) (x :: (vs ++ ([] : List V))) H Q E0)) rfl rfl rfl rfl (pv 3) (by rintro C R ⟨rfl, rfl⟩ <;> first | exact ⟨T.cl_Where, _, _, _, _, _, _, _, _, T.me_Where_next_in, (ok_Where_next_inB T).mono (by decide), hr, T.b_Where_next_in, .nil, fun _ _ _ _ _ h => h⟩) (pa_cons pe_int (pa_cons (pe_op op_pow pe_int pe_int) pa_nil))) pe_non (nomark _)))))) (pss_one ps_never) pss_nil)
      (pss_one (ps_ret (pe_cmpR (op_eqNil (hu2 hr)) (pe_comp (N := ["_law_one"]) (cap := [none]) (by show CompScope (defScope s_law_days_alone) _ ["_law_cell", "_law_seen", "_law_test", "_law_made", "_law_far"] _ _; exact ⟨rfl, by decide +kernel, by decide +kernel, by decide +kernel, by decide +kernel, rfl, by decide +kernel⟩) rfl (pi_listK (K := K) rfl (pv 1)) (fun C s H fp => ⟨(pg_name (i := 0) (by show (["_law_one"] : List Str).Nodup; decide +kernel) rfl (Or.inl rfl) (.inr rfl)), (pf_one (pt_not (pt_chain op_le op_lt pe_int (pv 0) pe_int))), (pv 0)⟩)) (pe_lst pa_nil) (nomark _))))))))), ?_⟩
    refine ⟨(by show 0 ≤ sizeLine; decide), fun L hL => ?_⟩
    have u1 := same_upd (o := .lst []) hL
    have hL1 : (upd H L (.lst [])) L = some (.lst []) := upd_same
    have hpt1 := u1 _ _ hpt
    generalize upd H L (.lst []) = H1 at *
    refine ⟨hpt1, fun f cd nf ncd nfc => ?_⟩
    have npL : a.pt_law_days_alone ≠ L := fun z => by rw [z, hL1] at hpt1; cases hpt1
    have npf := ne_of_none hpt1 nf
    have npc := ne_of_none hpt1 ncd
    refine ⟨_, rfl, fun x dx nx ndx nex => ⟨x, dx, f, rfl, upd_same, fun H3 sx hx3 => ⟨rfl, ?_⟩⟩⟩
    have S3 := mk_up nx ndx (Same.refl _) sx
    have hA : DA (s.heap.objs.size + 1) H3 a.x_Where x dx f cd L [] := by
      refine ⟨hx3, S3 _ _ upd_same, S3 _ _ ?_, S3 _ _ ?_⟩
      · rw [upd_ne (Ne.symm nfc), upd_same]; rfl
      · rw [upd_ne (ne_of_none hL1 nf), upd_ne (ne_of_none hL1 ncd), upd_ne (Ne.symm npL)]
        exact hL1
    refine ⟨_, rfl, _, rfl, _, _, rfl, rfl, ⟨by decide, by decide, by decide⟩, (by show 4 ≤ sizeLine; decide), fun L4 hL4 => ?_⟩
    obtain ⟨t, ht, hpk⟩ := atI_ints (ts := FAR) (i := c % 4) (Int.emod_nonneg _ (by decide)) (Int.emod_lt_of_pos _ (by decide))
    refine ⟨_, rfl, _, _, rfl, rfl, (by show (0 : Int) < 4; decide), L4, _, _, _, rfl, rfl, SqL.of upd_same, hpk, ?_⟩
    have hA4 := hA.up (same_upd (o := .lst (FAR.map V.int)) hL4)
    refine ⟨_, rfl, x, _, dx, _, _, rfl, hA4.x, no_Where_falls_on _, ⟨rfl, rfl⟩, _, rfl, rfl, _, rfl, fun n φ hφ => ?_⟩
    obtain ⟨p1, p2, p3⟩ := hA4.lend n hφ
    refine ⟨x, dx, f, L, cd, _, [], t, rfl, p1, p2, p3, (by decide), fun _ => ?_, fun z => absurd z (by rw [far_out t ht]; decide)⟩
    obtain ⟨q1, hB⟩ := hA4.back n (fun _ _ _ h => h) p3
    refine ⟨q1, false, false, rfl, rfl, _, rfl, iteF ?_⟩
    refine ⟨_, rfl, x, _, dx, _, _, rfl, hB.x, no_Where_next_in _, ⟨rfl, rfl⟩, rfl, _, rfl, fun n φ hφ => ?_⟩
    obtain ⟨p1, p2, p3⟩ := hB.lend n hφ
    refine ⟨x, dx, f, L, cd, _, [], -9, 9, rfl, p1, p2, p3, (by decide), ⟨by decide, by decide, by decide, by decide⟩, (fun k _ _ _ => by omega), fun o H6 ds s6 hL6 hds hl6 ho => ?_⟩
    obtain ⟨q1, hC⟩ := hB.back n s6 hL6
    have e3 : o = some 3 := by
      cases o with
      | none => exact absurd rfl (ho 3 (by decide) (by decide) (by decide) (by decide))
      | some d =>
        obtain ⟨o1, o2, o3, o4, o5, o6⟩ := ho
        by_cases hd : 3 < d
        · exact absurd rfl (o6 3 (by decide) (by decide) hd)
        · rw [show d = 3 by omega]
    subst e3
    refine ⟨q1, rfl, _, rfl, ite2 (fun z => absurd z (by decide)) (fun _ => ?_)⟩
    refine ⟨_, rfl, x, _, dx, _, _, rfl, hC.x, no_Where_next_in _, ⟨rfl, rfl⟩, _, _, rfl, rfl, ⟨by decide, by decide, by decide⟩, rfl, _, rfl, fun n φ hφ => ?_⟩
    obtain ⟨p1, p2, p3⟩ := hC.lend n hφ
    refine ⟨x, dx, f, L, cd, _, _, 146096, _, rfl, p1, p2, p3, (by rw [List.nil_append, List.length_map]; exact hl6), ⟨by decide, by decide, by decide, by decide⟩, (fun k _ h2 _ => by omega), fun o H8 ds2 s8 hL8 hds2 hl8 ho => ?_⟩
    obtain ⟨q1, hE⟩ := hC.back n s8 hL8
    have e4 : o = none := by
      cases o with
      | none => rfl
      | some d =>
        obtain ⟨o1, o2, o3, o4, o5, o6⟩ := ho
        exact absurd o5 (by rw [show d = 146096 by omega]; decide)
    subst e4
    refine ⟨q1, rfl, _, rfl, ite2 (fun z => absurd z (by decide)) (fun _ => ?_)⟩
    have hz : [] ++ ds.map V.int ++ ds2.map V.int = (ds ++ ds2).map V.int := by rw [List.nil_append, List.map_append]
    have hL9 := hE.L
    rw [hz] at hL9
    have hall : ∀ d ∈ ds ++ ds2, 0 ≤ d ∧ d < 146097 := fun d hd => (List.mem_append.mp hd).elim (hds d) (hds2 d)
    refine ⟨_, rfl, L, rfl, ⟨_, SqL.of hL9⟩, ?_⟩
    refine comp_pure (seq_list (K := K) (SqL.of hL9)) (fun _ => false) (fun v => v) ?_ ?_ (fun _ _ z => nomatch z) (fun D H10 s10 hD0 hD => ?_)
    · rw [List.length_map, List.length_append]
      omega
    · intro v hv H' s' R kR
      obtain ⟨d, hd, rfl⟩ := List.mem_map.mp hv
      obtain ⟨d0, d1⟩ := hall d hd
      refine ⟨_, rfl, _, _, rfl, rfl, _, rfl, ite2 (fun _ => ?_) (fun z => absurd (decide_eq_true d0) z)⟩
      refine ⟨_, _, rfl, rfl, _, rfl, ?_⟩
      rw [decide_eq_true d1]
      exact kR _ (Same.refl _)
    have hD' : H10 D = some (.lst []) := by rw [hD, List.filter_eq_nil_iff.mpr (fun _ _ => by decide)]; rfl
    exact ⟨(by show 0 ≤ sizeLine; decide), fun e1 he1 => ⟨D, e1, [], rfl, rfl, same_upd he1 _ _ hD', upd_same, [], (fun _ h => nomatch h), .nil, fun _ => k _⟩⟩
end
end K12
namespace K12
open PySem L2
open DF (Rl fl dayDate dayNth isD byM Ok Fi)
section
variable {P : Program} {w : World} {K : PySem.W.Frag} {mg : Str → Option Value} {base : Heap} {a : Adr}
theorem sc_law_soon : FnScope ["_law_rule_here", "_law_begin", "_law_end", "_law_day_here"] ["_law_rule_here", "_law_begin", "_law_end"] (defScope s_law_soon) := ⟨rfl, rfl, rfl, by decide +kernel, rfl, by decide +kernel, by decide +kernel⟩
theorem ok_law_soon (T : TxtL K mg base a) : FnOk P w K mg base CX0 true 6 a.f_law_soon a.d_law_soon ["_law_rule_here", "_law_begin", "_law_end"] (sp_law_soon) := by
  refine T.F_law_soon.ok sc_law_soon (fun vs H Q E h => ?_) (fun cdv A outer s H vs Q E hr h => ?_)
  · obtain ⟨t, b, e, r, rfl, _⟩ := h; rfl
  · obtain ⟨t, b, e, r, rfl, ht, ok, ⟨w1, w2, w3, w4⟩, k⟩ := h
    refine ⟨_, (pss_cons (ps_for PassesOwn.never rfl (pi_range2 rfl T.n_range (pa_cons (pe_callB (call_max2 rfl) rfl T.n_max (by decide +kernel) (pa_cons pe_int (pa_cons (pv 1) pa_nil))) (pa_cons (pe_callB (call_min2 rfl) rfl T.n_min (by decide +kernel) (pa_cons pe_int (pa_cons (pv 2) pa_nil))) pa_nil))) (pg_name (i := 3) sc_law_soon.nd rfl (Or.inl rfl)) (pss_one (ps_if (pt_val (pe_call ((ok_law_plain T).mono (by decide)) hr rfl T.m_law_plain T.F_law_plain.kp T.b_law_plain .nil pass0 (pa_cons (pv 0) (pa_cons (pv 3) (pa_cons (pe_call ((ok_law_date T).mono (by decide)) hr rfl T.m_law_date T.F_law_date.kp T.b_law_date .nil pass0 (pa_cons (pv 3) pa_nil)) pa_nil))))) (pss_one (ps_ret (pv 3))) pss_nil)))
      (pss_one (ps_ret pe_non))), ?_⟩
    refine ⟨_, rfl, _, _, rfl, _, rfl, _, _, rfl, ?_⟩
    refine ⟨_, _, rfl, ?_, ?_⟩
    · refine ⟨?_, ?_, ?_, ?_⟩ <;> split <;> omega
    generalize hlo : (if b > 0 then b else 0) = lo
    have l1 : 0 ≤ lo ∧ b ≤ lo := by rw [← hlo]; split <;> omega
    have l2 : ∀ k, b ≤ k → k < lo → k < 0 := fun k h1 h2 => by rw [← hlo] at h2; split at h2 <;> omega
    generalize hhi : (if e < 146097 then e else 146097) = hi
    have u1 : hi ≤ e ∧ hi ≤ 146097 := by rw [← hhi]; split <;> omega
    have u2 : e ≤ hi ∨ 146097 ≤ hi := by rw [← hhi]; split <;> omega
    refine for_range (fun i σ H' => Same H H' ∧ DN.No r b (lo + (i : Int)) ∧ ∃ y, σ = [some (.ref t), some (.int b), some (.int e), y]) ⟨Same.refl _, (fun k h1 h2 => DF.fl_out ok (.inl (l2 k h1 (by omega)))), _, rfl⟩ ?_ ?_
    · rintro i σ H4 hi1 ⟨s4, hn, y, rfl⟩
      generalize hd : lo + (i : Int) = d at *
      refine ⟨_, rfl, _, rfl, _, rfl, d, rfl, by omega, by omega, fun q H5 s5 _ hq => ?_⟩
      refine ⟨t, q, d, r, rfl, ht.up (s4.trans s5), ok, by omega, by omega, hq, fun H6 s6 => ⟨_, rfl, ?_⟩⟩
      cases hv : fl r d with
      | true => exact iteT ⟨_, rfl, k (some d) _ ((s4.trans s5).trans s6) ⟨by omega, by omega, hv, hn⟩⟩
      | false =>
        refine iteF ⟨(s4.trans s5).trans s6, ?_, _, rfl⟩
        have := hn.step hv
        rwa [show lo + ((i + 1 : Nat) : Int) = d + 1 by omega]
    · rintro σ H4 ⟨s4, hn, y, rfl⟩
      exact k none _ s4 (hn.stop ok (by omega))
end
end K12
namespace K12
open PySem L2
open DF (Rl fl dayDate dayNth isD byM Ok Fi)
section
variable {P : Program} {w : World} {K : PySem.W.Frag} {mg : Str → Option Value} {base : Heap} {a : Adr}
theorem sc_law_left_out : FnScope ["_law_cell", "_law_step", "_law_made", "_law_first_here", "_law_day_here", "_law_due", "_law_sunday"] ["_law_cell"] (defScope s_law_left_out) := ⟨rfl, rfl, rfl, by decide +kernel, rfl, by decide +kernel, by decide +kernel⟩
theorem ok_law_left_out (T : TxtL K mg base a) : FnOk P w K mg base CX0 true 6 a.f_law_left_out a.d_law_left_out ["_law_cell"] (sp_law_left_out) := by
  refine T.F_law_left_out.ok sc_law_left_out (fun vs H Q E h => ?_) (fun cdv A outer s H vs Q E hr h => ?_)
  · obtain ⟨c, rfl, _⟩ := h; rfl
  · obtain ⟨c, rfl, c0, k⟩ := h
    refine ⟨_, (pss_cons (ps_set (i := 1) sc_law_left_out.nd rfl (Or.inl rfl) (pe_op op_add pe_int (pe_op op_mod (pv 0) pe_int)))
      (pss_cons (ps_set (i := 2) sc_law_left_out.nd rfl (Or.inl rfl) (pe_make T.mk_Every ((ok_Every___init T).mono (by decide)) hr rfl T.m_Every T.b_Every___init .nil pass0 (pa_cons (pv 1) (pa_cons (pe_op op_mod (pe_op op_fdiv (pv 0) pe_int) pe_int) pa_nil))))
      (pss_cons (ps_set (i := 3) sc_law_left_out.nd rfl (Or.inl rfl) (pe_op op_mod (pe_op op_fdiv (pv 0) pe_int) pe_int))
      (pss_cons (ps_set (i := 4) sc_law_left_out.nd rfl (Or.inl rfl) (pe_op op_mod (pe_op op_fdiv (pv 0) pe_int) pe_int))
      (pss_cons (ps_set (i := 5) sc_law_left_out.nd rfl (Or.inl rfl) (pe_op op_add (pe_callB (call_max2 rfl) rfl T.n_max (by decide +kernel) (pa_cons (pv 4) (pa_cons (pv 3) pa_nil))) (pe_op op_mod (pe_op op_sub (pv 3) (pe_callB (call_max2 rfl) rfl T.n_max (by decide +kernel) (pa_cons (pv 4) (pa_cons (pv 3) pa_nil)))) (pv 1))))
      (pss_cons (ps_if (PW.pt (pw_or (pt_not (pt_val (pe_call ((ok_law_same T).mono (by decide)) hr rfl T.m_law_same T.F_law_same.kp T.b_law_same .nil pass0 (pa_cons (pe_methV0 (D := fun C R => (C = a.x_Every ∧ R = fun x vs H Q => (sp_Every_next_in (ad a)) (x :: (vs ++ ([.int 0, .int 146097] : List V))) H Q E0)) (pv 2) (by rintro C R ⟨rfl, rfl⟩ <;> first | exact ⟨T.cl_Every, _, _, _, _, _, _, _, _, _, _, T.me_Every_next_in, (ok_Every_next_in T).mono (by decide), hr, T.b_Every_next_in_2.choose_spec.1, T.b_Every_next_in_2.choose_spec.2, pass0, fun _ _ _ _ _ h => h⟩)) (pa_cons (pv 3) pa_nil))))) (pw_or1 (pt_not (pt_val (pe_call ((ok_law_same T).mono (by decide)) hr rfl T.m_law_same T.F_law_same.kp T.b_law_same .nil pass0 (pa_cons (pe_methV (n := 1) (D := fun C R => (C = a.x_Every ∧ R = fun x vs H Q => (sp_Every_next_in (ad a)) (x :: (vs ++ ([.int 146097] : List V))) H Q E0)) (pv 2) (by rintro C R ⟨rfl, rfl⟩ <;> first | exact ⟨T.cl_Every, _, _, _, _, _, _, _, _, _, _, T.me_Every_next_in, (ok_Every_next_in T).mono (by decide), hr, T.b_Every_next_in_1.choose_spec.1, T.b_Every_next_in_1.choose_spec.2, pass0, fun _ _ _ _ _ h => h⟩) (pa_cons (pv 4) pa_nil)) (pa_cons (pe_ix (ix_listK (K := K) rfl) (pe_lst (pa_cons (pv 5) (pa_cons pe_non pa_nil))) (pe_callTy call_int1 rfl T.n_int (by decide +kernel) (pa_cons (pe_cmpR op_gt (pv 5) pe_int (nomark _)) pa_nil)) (fun _ _ => rfl)) pa_nil)))))))) (pss_one ps_never) pss_nil)
      (pss_cons (ps_set (i := 6) sc_law_left_out.nd rfl (Or.inl rfl) (pe_op op_sub (pe_op op_add (pv 4) pe_int) (pe_op op_mod (pe_op op_add (pv 4) pe_int) pe_int)))
      (pss_cons (ps_if (pt_cmpR op_notN (pe_methV0 (D := fun C R => (C = a.x_Rule ∧ R = fun x vs H Q => (sp_Rule_next_in) (x :: (vs ++ ([.int 0, .int 146097] : List V))) H Q E0)) (pe_makeN T.mn_Rule rfl T.m_Rule) (by rintro C R ⟨rfl, rfl⟩ <;> first | exact ⟨T.cl_Rule, _, _, _, _, _, _, _, _, _, _, T.me_Rule_next_in, (ok_Rule_next_in T).mono (by decide), hr, T.b_Rule_next_in_2.choose_spec.1, T.b_Rule_next_in_2.choose_spec.2, pass0, fun _ _ _ _ _ h => h⟩)) pe_non (nomark _)) (pss_one ps_never) pss_nil)
      (pss_cons (ps_if (pt_not (pt_val (pe_call ((ok_law_same T).mono (by decide)) hr rfl T.m_law_same T.F_law_same.kp T.b_law_same .nil pass0 (pa_cons (pe_methV (n := 1) (D := fun C R => (C = a.x_Weekly ∧ R = fun x vs H Q => (sp_Weekly_next_in (ad a)) (x :: (vs ++ ([.int 146097] : List V))) H Q E0)) (pe_make T.mk_Weekly ((ok_Weekly___init T).mono (by decide)) hr rfl T.m_Weekly T.b_Weekly___init_2.choose_spec.1 T.b_Weekly___init_2.choose_spec.2 pass0 (pa_cons pe_int pa_nil)) (by rintro C R ⟨rfl, rfl⟩ <;> first | exact ⟨T.cl_Weekly, _, _, _, _, _, _, _, _, _, _, T.me_Weekly_next_in, (ok_Weekly_next_in T).mono (by decide), hr, T.b_Weekly_next_in_1.choose_spec.1, T.b_Weekly_next_in_1.choose_spec.2, pass0, fun _ _ _ _ _ h => h⟩) (pa_cons (pv 4) pa_nil)) (pa_cons (pe_ix (ix_listK (K := K) rfl) (pe_lst (pa_cons (pv 6) (pa_cons pe_non pa_nil))) (pe_callTy call_int1 rfl T.n_int (by decide +kernel) (pa_cons (pe_cmpR op_gt (pv 6) pe_int (nomark _)) pa_nil)) (fun _ _ => rfl)) pa_nil))))) (pss_one ps_never) pss_nil)
      (pss_cons (ps_if (PW.pt (pw_or (pt_cmpR op_notN (pe_methV (n := 2) (D := fun C R => (C = a.x_Every ∧ R = fun x vs H Q => (sp_Every_next_in (ad a)) (x :: (vs ++ ([] : List V))) H Q E0)) (pe_make T.mk_Every ((ok_Every___init T).mono (by decide)) hr rfl T.m_Every T.b_Every___init .nil pass0 (pa_lits [.int 10, .int 146090] (by decide +kernel))) (by rintro C R ⟨rfl, rfl⟩ <;> first | exact ⟨T.cl_Every, _, _, _, _, _, _, _, _, _, _, T.me_Every_next_in, (ok_Every_next_in T).mono (by decide), hr, T.b_Every_next_in, .nil, pass0, fun _ _ _ _ _ h => h⟩) (pa_cons pe_int (pa_cons (pe_op op_pow pe_int pe_int) pa_nil))) pe_non (nomark _)) (pw_or1 (pt_cmpR op_ne (pe_methV (n := 2) (D := fun C R => (C = a.x_Every ∧ R = fun x vs H Q => (sp_Every_next_in (ad a)) (x :: (vs ++ ([] : List V))) H Q E0)) (pe_make T.mk_Every ((ok_Every___init T).mono (by decide)) hr rfl T.m_Every T.b_Every___init .nil pass0 (pa_lits [.int 9, .int 3] (by decide +kernel))) (by rintro C R ⟨rfl, rfl⟩ <;> first | exact ⟨T.cl_Every, _, _, _, _, _, _, _, _, _, _, T.me_Every_next_in, (ok_Every_next_in T).mono (by decide), hr, T.b_Every_next_in, .nil, pass0, fun _ _ _ _ _ h => h⟩) (pa_cons (pe_un un_neg (pe_op op_pow pe_int pe_int)) (pa_cons pe_int pa_nil))) pe_int (nomark _))))) (pss_one ps_never) pss_nil)
      (pss_one (ps_ret (pe_call ((ok_law_same T).mono (by decide)) hr rfl T.m_law_same T.F_law_same.kp T.b_law_same .nil pass0 (pa_cons (pe_methV0 (D := fun C R => (C = a.x_Days ∧ R = fun x vs H Q => (sp_Days_next_in (ad a)) (x :: (vs ++ ([.int 0, .int 146097] : List V))) H Q E0)) (pe_make T.mk_Days ((ok_Days___init T).mono (by decide)) hr rfl T.m_Days T.b_Days___init .nil pass0 (pa_cons (pe_tup (pa_lits [.int 9, .int 5, .int 9] (by decide +kernel))) pa_nil)) (by rintro C R ⟨rfl, rfl⟩ <;> first | exact ⟨T.cl_Days, _, _, _, _, _, _, _, _, _, _, T.me_Days_next_in, (ok_Days_next_in T).mono (by decide), hr, T.b_Days_next_in_2.choose_spec.1, T.b_Days_next_in_2.choose_spec.2, pass0, fun _ _ _ _ _ h => h⟩)) (pa_cons pe_int pa_nil))))))))))))))), ?_⟩
    refine ⟨_, rfl, _, _, rfl, rfl, (by show (0 : Int) < 40; decide), _, _, rfl, rfl, ?_⟩
    have c40 := Int.emod_nonneg c (by decide : (40 : Int) ≠ 0)
    have c41 := Int.emod_lt_of_pos c (by decide : (0 : Int) < 40)
    have st1 : 1 ≤ (1 + c % 40) ∧ (1 + c % 40) ≤ 40 := by omega
    have f0 := Int.emod_nonneg (c / 40) (by decide : (146097 : Int) ≠ 0)
    have f1 := Int.emod_lt_of_pos (c / 40) (by decide : (0 : Int) < 146097)
    have ok : Ok (.ev (1 + c % 40) (c / 40 % 146097)) := ⟨st1.1, by omega, f0, f1⟩
    refine ⟨_, rfl, _, rfl, _, _, rfl, rfl, ⟨by decide, by decide⟩, _, _, rfl, rfl, (by show (0 : Int) < 146097; decide), fun x dx nx ndx ex => ⟨x, dx, 1 + c % 40, c / 40 % 146097, rfl, upd_same, ok, fun H1 sx hr => ⟨rfl, ?_⟩⟩⟩
    have S1 := mk_up nx ndx (Same.refl _) sx
    refine ⟨_, rfl, _, _, rfl, rfl, ⟨by decide, by decide⟩, _, _, rfl, rfl, (by show (0 : Int) < 146097; decide), ?_⟩
    refine ⟨_, rfl, _, _, rfl, rfl, ⟨by decide, by decide⟩, _, _, rfl, rfl, (by show (0 : Int) < 146097; decide), ?_⟩
    have d0 := Int.emod_nonneg (c / 7) (by decide : (146097 : Int) ≠ 0)
    have d1 := Int.emod_lt_of_pos (c / 7) (by decide : (0 : Int) < 146097)
    refine ⟨_, rfl, _, rfl, _, _, rfl, _, rfl, _, rfl, _, rfl, _, _, rfl, _, _, rfl, rfl, _, rfl, _, _, rfl, rfl, (by show (0 : Int) < (1 + c % 40); omega), _, _, rfl, rfl, ?_⟩
    obtain ⟨dx1, hx⟩ := id hr
    refine ⟨_, rfl, x, _, dx1, _, _, rfl, hx, no_Every_next_in _ _, ⟨rfl, rfl⟩, x, 0, 146097, (1 + c % 40), (c / 40 % 146097), rfl, hr, ok, NX.of fun o ho => ?_⟩
    obtain rfl := ho.uniq (ev_first ok)
    refine ⟨_, rfl, some (c / 40 % 146097), rfl, _, rfl, iteF ?_⟩
    refine ⟨_, rfl, x, _, dx1, _, _, rfl, hx, no_Every_next_in _ _, ⟨rfl, rfl⟩, _, rfl, rfl, x, (c / 7 % 146097), 146097, (1 + c % 40), (c / 40 % 146097), rfl, hr, ok, NX.of fun o ho => ?_⟩
    obtain rfl := ho.uniq (ev_left ok _ rfl)
    refine ⟨_, rfl, (by show 2 ≤ sizeLine; decide), fun L hL => ?_⟩
    refine ⟨_, rfl, _, _, rfl, rfl, .inr ⟨_, rfl, L, _, _, _, rfl, rfl, SqL.of upd_same, pickO _ _, ?_⟩⟩
    refine ⟨_, rfl, _, rfl, iteF ?_⟩
    have S2 := S1.trans (same_upd (o := .lst [.int ((if c / 40 % 146097 > c / 7 % 146097 then c / 40 % 146097 else c / 7 % 146097) + (c / 40 % 146097 - (if c / 40 % 146097 > c / 7 % 146097 then c / 40 % 146097 else c / 7 % 146097)) % (1 + c % 40)), .non]) hL)
    refine ⟨_, rfl, _, _, rfl, rfl, _, rfl, _, _, rfl, rfl, _, _, rfl, rfl, (by show (0 : Int) < 7; decide), _, _, rfl, rfl, ?_⟩
    refine fun x2 dx2 nx2 ndx2 nex2 => ⟨x2, _, dx2, _, _, rfl, upd_same, rfl, ⟨rfl, rfl⟩, x2, 0, 146097, rfl, rfl, _, rfl, ite2 (fun z => absurd z (by decide)) (fun _ => ?_)⟩
    have S3 := mk_up (C := a.x_Rule) nx2 ndx2 S2 (fun _ _ _ h => h)
    have ok3 : Ok (.wk 64 0 1) := ⟨by decide, by decide, by decide, by decide, by decide, by decide⟩
    refine fun x3 dx3 nx3 ndx3 ex3 => ⟨x3, dx3, 64, 0, 1, rfl, upd_same, ok3, fun H3 sx3 hr3 => ⟨rfl, ?_⟩⟩
    have S4 := mk_up nx3 ndx3 S3 sx3
    obtain ⟨dx4, hx4⟩ := id hr3
    refine ⟨x3, _, dx4, _, _, rfl, hx4, no_Weekly_next_in _ _ _, ⟨rfl, rfl⟩, _, rfl, rfl, x3, (c / 7 % 146097), 146097, 64, 0, 1, rfl, hr3, ok3, NX.of fun o ho => ?_⟩
    obtain rfl := ho.uniq (wk_left d0 d1)
    refine ⟨_, rfl, (by show 2 ≤ sizeLine; decide), fun L5 hL5 => ?_⟩
    refine ⟨_, rfl, _, _, rfl, rfl, .inr ⟨_, rfl, L5, _, _, _, rfl, rfl, SqL.of upd_same, pickO _ _, ?_⟩⟩
    refine ⟨_, rfl, _, rfl, iteF ?_⟩
    have S5 := S4.trans (same_upd (o := .lst [.int (c / 7 % 146097 + 6 - (c / 7 % 146097 + 5) % 7), .non]) hL5)
    have ok6 : Ok (.ev 10 146090) := ⟨by decide, by decide, by decide, by decide⟩
    refine fun x6 dx6 nx6 ndx6 ex6 => ⟨x6, dx6, 10, 146090, rfl, upd_same, ok6, fun H6 sx6 hr6 => ⟨rfl, ?_⟩⟩
    have S6 := mk_up nx6 ndx6 S5 sx6
    obtain ⟨dx7, hx7⟩ := id hr6
    refine ⟨x6, _, dx7, _, _, rfl, hx7, no_Every_next_in _ _, ⟨rfl, rfl⟩, _, _, rfl, rfl, ⟨by decide, by decide, by decide⟩, rfl, x6, _, _, 10, 146090, rfl, hr6, ok6, NX.of fun o ho => ?_⟩
    have ho1 : Nx (.ev 10 146090) 146091 1000000 o := ho
    obtain rfl := ho1.uniq nxA
    refine ⟨rfl, _, rfl, ite2 (fun z => absurd z (by decide)) (fun _ => ?_)⟩
    have ok8 : Ok (.ev 9 3) := ⟨by decide, by decide, by decide, by decide⟩
    refine fun x8 dx8 nx8 ndx8 ex8 => ⟨x8, dx8, 9, 3, rfl, upd_same, ok8, fun H8 sx8 hr8 => ⟨rfl, ?_⟩⟩
    have S8 := mk_up nx8 ndx8 S6 sx8
    obtain ⟨dx9, hx9⟩ := id hr8
    refine ⟨x8, _, dx9, _, _, rfl, hx9, no_Every_next_in _ _, ⟨rfl, rfl⟩, _, _, rfl, rfl, ⟨by decide, by decide, by decide⟩, _, rfl, rfl, x8, _, _, 9, 3, rfl, hr8, ok8, NX.of fun o ho => ?_⟩
    have ho2 : Nx (.ev 9 3) (-1000000) 4 o := ho
    obtain rfl := ho2.uniq nxB
    refine ⟨rfl, _, rfl, ite2 (fun z => absurd z (by decide)) (fun _ => ?_)⟩
    refine ⟨(by show 3 ≤ sizeLine; decide), fun p hp => ?_⟩
    have ok10 : Ok (.dy [9, 5, 9]) := ⟨by decide, by decide⟩
    refine fun x10 dx10 nx10 ndx10 ex10 => ⟨x10, dx10, p, [9, 5, 9], rfl, upd_same, ?_, ok10, fun H10 sx10 hr10 => ⟨rfl, ?_⟩⟩
    · have e := (upd_same : (upd H8 p (.tup [.int 9, .int 5, .int 9])) p = _)
      rw [upd_ne (ne_of_none e nx10), upd_ne (ne_of_none e ndx10)]
      exact e
    have S10 := mk_up nx10 ndx10 (S8.trans (same_upd (o := .tup [.int 9, .int 5, .int 9]) hp)) sx10
    obtain ⟨dx11, u11, ms11, hx11, _⟩ := id hr10
    refine ⟨x10, _, dx11, _, _, rfl, hx11, no_Days_next_in _, ⟨rfl, rfl⟩, x10, 0, 146097, [9, 5, 9], rfl, hr10, fun d h1 h2 h3 h4 => ?_, fun h => ?_⟩
    · have e : some (5 : Int) = some d := nxC.uniq (show Nx (.dy [9, 5, 9]) 0 146097 (some d) from ⟨h1, h2, decide_eq_true h3, fun z z1 z2 => decide_eq_false (h4 z z1 z2)⟩)
      cases e
      exact ⟨some 5, rfl, k _ S10⟩
    · exact absurd (by decide) (h 5 (by decide) (by decide))
end
end K12
namespace K12
open PySem L2
open DF (Rl fl dayDate dayNth isD byM Ok Fi)
section
variable {P : Program} {w : World} {K : PySem.W.Frag} {mg : Str → Option Value} {base : Heap} {a : Adr}
theorem sc_law_by_month : FnScope ["_law_tree", "_law_short", "_law_first_here", "_law_often_here"] ["_law_tree", "_law_short"] (defScope s_law_by_month) := ⟨rfl, rfl, rfl, by decide +kernel, rfl, by decide +kernel, by decide +kernel⟩
theorem ok_law_by_month (T : TxtL K mg base a) : FnOk P w K mg base CX0 true 7 a.f_law_by_month a.d_law_by_month ["_law_tree", "_law_short"] (sp_law_by_month (ad a)) := by
  refine T.F_law_by_month.ok sc_law_by_month (fun vs H Q E h => ?_) (fun cdv A outer s H vs Q E hr h => ?_)
  · obtain ⟨t, b, r, rfl, _⟩ := h; rfl
  · obtain ⟨t, b, r, rfl, ht, ok0, hm, k⟩ := h
    refine ⟨_, (pss_cons (ps_asg (pe_slice (sl_tupK (K := K) rfl) (pv 0) (po_some (pe_un un_neg pe_int)) po_none) (pg_tup rfl (pgs_cons (pg_name (i := 2) sc_law_by_month.nd rfl (Or.inl rfl)) (pgs_cons (pg_name (i := 3) sc_law_by_month.nd rfl (Or.inl rfl)) pgs_nil))))
      (pss_cons (ps_if (pt_cmpR op_eq (pe_ix (ix_tupK (K := K) rfl) (pv 0) pe_int (fun _ _ => rfl)) pe_str (nomark _)) (pss_cons (ps_if (PW.pt (pw_and (pt_val (pv 1)) (pw_and1 (pt_cmpR op_eq (pv 3) pe_int (nomark _))))) (pss_one (ps_ret (pe_ifExp (pt_cmpR op_eq (pv 2) pe_int (nomark _)) (pe_make T.mk_Monthly ((ok_Monthly___init T).mono (by decide)) hr rfl T.m_Monthly T.b_Monthly___init_2.choose_spec.1 T.b_Monthly___init_2.choose_spec.2 pass0 (pa_cons (pe_ix (ix_tupK (K := K) rfl) (pv 0) pe_int (fun _ _ => rfl)) pa_nil)) (pe_make T.mk_Monthly ((ok_Monthly___init T).mono (by decide)) hr rfl T.m_Monthly T.b_Monthly___init_1.choose_spec.1 T.b_Monthly___init_1.choose_spec.2 pass0 (pa_cons (pe_ix (ix_tupK (K := K) rfl) (pv 0) pe_int (fun _ _ => rfl)) (pa_cons (pv 2) pa_nil)))))) pss_nil)
      (pss_one (ps_ret (pe_make T.mk_Monthly ((ok_Monthly___init T).mono (by decide)) hr rfl T.m_Monthly T.b_Monthly___init .nil pass0 (pa_cons (pe_ix (ix_tupK (K := K) rfl) (pv 0) pe_int (fun _ _ => rfl)) (pa_cons (pv 2) (pa_cons (pv 3) pa_nil))))))) pss_nil)
      (pss_cons (ps_if (pt_cmpR op_eq (pe_ix (ix_tupK (K := K) rfl) (pv 0) pe_int (fun _ _ => rfl)) pe_str (nomark _)) (pss_cons (ps_if (PW.pt (pw_and (pt_val (pv 1)) (pw_and1 (pt_cmpR op_eq (pv 3) pe_int (nomark _))))) (pss_one (ps_ret (pe_ifExp (pt_cmpR op_eq (pv 2) pe_int (nomark _)) (pe_make T.mk_Nth ((ok_Nth___init T).mono (by decide)) hr rfl T.m_Nth T.b_Nth___init_2.choose_spec.1 T.b_Nth___init_2.choose_spec.2 pass0 (pa_cons (pe_ix (ix_tupK (K := K) rfl) (pv 0) pe_int (fun _ _ => rfl)) (pa_cons (pe_ix (ix_tupK (K := K) rfl) (pv 0) pe_int (fun _ _ => rfl)) pa_nil))) (pe_make T.mk_Nth ((ok_Nth___init T).mono (by decide)) hr rfl T.m_Nth T.b_Nth___init_1.choose_spec.1 T.b_Nth___init_1.choose_spec.2 pass0 (pa_cons (pe_ix (ix_tupK (K := K) rfl) (pv 0) pe_int (fun _ _ => rfl)) (pa_cons (pe_ix (ix_tupK (K := K) rfl) (pv 0) pe_int (fun _ _ => rfl)) (pa_cons (pv 2) pa_nil))))))) pss_nil)
      (pss_one (ps_ret (pe_make T.mk_Nth ((ok_Nth___init T).mono (by decide)) hr rfl T.m_Nth T.b_Nth___init .nil pass0 (pa_cons (pe_ix (ix_tupK (K := K) rfl) (pv 0) pe_int (fun _ _ => rfl)) (pa_cons (pe_ix (ix_tupK (K := K) rfl) (pv 0) pe_int (fun _ _ => rfl)) (pa_cons (pv 2) (pa_cons (pv 3) pa_nil)))))))) pss_nil)
      (pss_cons (ps_if (PW.pt (pw_and (pt_val (pv 1)) (pw_and1 (pt_cmpR op_eq (pv 3) pe_int (nomark _))))) (pss_one (ps_ret (pe_ifExp (pt_cmpR op_eq (pv 2) pe_int (nomark _)) (pe_make T.mk_Yearly ((ok_Yearly___init T).mono (by decide)) hr rfl T.m_Yearly T.b_Yearly___init_2.choose_spec.1 T.b_Yearly___init_2.choose_spec.2 pass0 (pa_cons (pe_ix (ix_tupK (K := K) rfl) (pv 0) pe_int (fun _ _ => rfl)) (pa_cons (pe_ix (ix_tupK (K := K) rfl) (pv 0) pe_int (fun _ _ => rfl)) pa_nil))) (pe_make T.mk_Yearly ((ok_Yearly___init T).mono (by decide)) hr rfl T.m_Yearly T.b_Yearly___init_1.choose_spec.1 T.b_Yearly___init_1.choose_spec.2 pass0 (pa_cons (pe_ix (ix_tupK (K := K) rfl) (pv 0) pe_int (fun _ _ => rfl)) (pa_cons (pe_ix (ix_tupK (K := K) rfl) (pv 0) pe_int (fun _ _ => rfl)) (pa_cons (pv 2) pa_nil))))))) pss_nil)
      (pss_one (ps_ret (pe_make T.mk_Yearly ((ok_Yearly___init T).mono (by decide)) hr rfl T.m_Yearly T.b_Yearly___init .nil pass0 (pa_cons (pe_ix (ix_tupK (K := K) rfl) (pv 0) pe_int (fun _ _ => rfl)) (pa_cons (pe_ix (ix_tupK (K := K) rfl) (pv 0) pe_int (fun _ _ => rfl)) (pa_cons (pv 2) (pa_cons (pv 3) pa_nil))))))))))), ?_⟩
    cases r with
    | mo dt fi e =>
      refine ⟨_, rfl, _, rfl, _, rfl, t, _, rfl, SqT.of ht, (by show ¬ (HT.sIx 4 0 (some (-2)) = 0 ∧ HT.sIx 4 4 none = 4); decide), fun p hp => ?_⟩
      rw [cut4]
      refine ⟨p, _, rfl, SqT.of upd_same, rfl, _, _, rfl, _, _, rfl, rfl, ?_⟩
      have S := same_upd (o := .tup [.int fi, .int e]) hp
      have ht1 := S _ _ ht
      generalize upd H p (.tup [.int fi, .int e]) = H1 at *
      refine ⟨_, rfl, t, _, _, _, rfl, rfl, SqT.of (ht1), rfl, rfl, _, rfl, ite2 (fun _ => ?_) (fun z => absurd (by decide +kernel) z)⟩
      refine ⟨_, rfl, _, rfl, ?_⟩
      cases b with
      | false =>
        refine iteF (iteF ?_)
        refine ⟨_, rfl, t, _, _, _, rfl, rfl, SqT.of (ht1), rfl, _, rfl, _, rfl, fun x dx nx ndx nex => ⟨x, dx, dt, fi, e, rfl, upd_same, ok0, fun H3 sx hr3 => ⟨rfl, k x H3 ((mk_up nx ndx S sx)) hr3⟩⟩⟩
      | true =>
      refine iteT ⟨_, rfl, rfl, _, rfl, ite2 (fun z => ?_) (fun z => ?_)⟩
      · have z1 : e = 1 := V.int.inj (of_decide_eq_true z)
        subst z1
        refine ⟨_, rfl, rfl, _, rfl, ite2 (fun z => ?_) (fun z => ?_)⟩
        · have z0 : fi = 0 := V.int.inj (of_decide_eq_true z)
          subst z0
          refine ⟨_, rfl, t, _, _, _, rfl, rfl, SqT.of (ht1), rfl, fun x dx nx ndx nex => ⟨x, dx, dt, 0, 1, rfl, upd_same, ok0, fun H3 sx hr3 => ⟨rfl, k x H3 ((mk_up nx ndx S sx)) hr3⟩⟩⟩
        · refine ⟨_, rfl, t, _, _, _, rfl, rfl, SqT.of (ht1), rfl, _, rfl, fun x dx nx ndx nex => ⟨x, dx, dt, fi, 1, rfl, upd_same, ok0, fun H3 sx hr3 => ⟨rfl, k x H3 ((mk_up nx ndx S sx)) hr3⟩⟩⟩
      · refine ⟨_, rfl, t, _, _, _, rfl, rfl, SqT.of (ht1), rfl, _, rfl, _, rfl, fun x dx nx ndx nex => ⟨x, dx, dt, fi, e, rfl, upd_same, ok0, fun H3 sx hr3 => ⟨rfl, k x H3 ((mk_up nx ndx S sx)) hr3⟩⟩⟩
    | nt w wd fi e =>
      refine ⟨_, rfl, _, rfl, _, rfl, t, _, rfl, SqT.of ht, (by show ¬ (HT.sIx 5 0 (some (-2)) = 0 ∧ HT.sIx 5 5 none = 5); decide), fun p hp => ?_⟩
      rw [cut5]
      refine ⟨p, _, rfl, SqT.of upd_same, rfl, _, _, rfl, _, _, rfl, rfl, ?_⟩
      have S := same_upd (o := .tup [.int fi, .int e]) hp
      have ht1 := S _ _ ht
      generalize upd H p (.tup [.int fi, .int e]) = H1 at *
      refine ⟨_, rfl, t, _, _, _, rfl, rfl, SqT.of (ht1), rfl, rfl, _, rfl, ite2 (fun z => absurd z (by decide +kernel)) (fun _ => ?_)⟩
      refine ⟨_, rfl, t, _, _, _, rfl, rfl, SqT.of (ht1), rfl, rfl, _, rfl, ite2 (fun _ => ?_) (fun z => absurd (by decide +kernel) z)⟩
      refine ⟨_, rfl, _, rfl, ?_⟩
      cases b with
      | false =>
        refine iteF (iteF ?_)
        refine ⟨_, rfl, t, _, _, _, rfl, rfl, SqT.of (ht1), rfl, _, rfl, t, _, _, _, rfl, rfl, SqT.of (ht1), rfl, _, rfl, _, rfl, fun x dx nx ndx nex => ⟨x, dx, w, wd, fi, e, rfl, upd_same, ok0, fun H3 sx hr3 => ⟨rfl, k x H3 ((mk_up nx ndx S sx)) hr3⟩⟩⟩
      | true =>
      refine iteT ⟨_, rfl, rfl, _, rfl, ite2 (fun z => ?_) (fun z => ?_)⟩
      · have z1 : e = 1 := V.int.inj (of_decide_eq_true z)
        subst z1
        refine ⟨_, rfl, rfl, _, rfl, ite2 (fun z => ?_) (fun z => ?_)⟩
        · have z0 : fi = 0 := V.int.inj (of_decide_eq_true z)
          subst z0
          refine ⟨_, rfl, t, _, _, _, rfl, rfl, SqT.of (ht1), rfl, _, rfl, t, _, _, _, rfl, rfl, SqT.of (ht1), rfl, fun x dx nx ndx nex => ⟨x, dx, w, wd, 0, 1, rfl, upd_same, ok0, fun H3 sx hr3 => ⟨rfl, k x H3 ((mk_up nx ndx S sx)) hr3⟩⟩⟩
        · refine ⟨_, rfl, t, _, _, _, rfl, rfl, SqT.of (ht1), rfl, _, rfl, t, _, _, _, rfl, rfl, SqT.of (ht1), rfl, _, rfl, fun x dx nx ndx nex => ⟨x, dx, w, wd, fi, 1, rfl, upd_same, ok0, fun H3 sx hr3 => ⟨rfl, k x H3 ((mk_up nx ndx S sx)) hr3⟩⟩⟩
      · refine ⟨_, rfl, t, _, _, _, rfl, rfl, SqT.of (ht1), rfl, _, rfl, t, _, _, _, rfl, rfl, SqT.of (ht1), rfl, _, rfl, _, rfl, fun x dx nx ndx nex => ⟨x, dx, w, wd, fi, e, rfl, upd_same, ok0, fun H3 sx hr3 => ⟨rfl, k x H3 ((mk_up nx ndx S sx)) hr3⟩⟩⟩
    | yr mn dt fi e =>
      refine ⟨_, rfl, _, rfl, _, rfl, t, _, rfl, SqT.of ht, (by show ¬ (HT.sIx 5 0 (some (-2)) = 0 ∧ HT.sIx 5 5 none = 5); decide), fun p hp => ?_⟩
      rw [cut5]
      refine ⟨p, _, rfl, SqT.of upd_same, rfl, _, _, rfl, _, _, rfl, rfl, ?_⟩
      have S := same_upd (o := .tup [.int fi, .int e]) hp
      have ht1 := S _ _ ht
      generalize upd H p (.tup [.int fi, .int e]) = H1 at *
      refine ⟨_, rfl, t, _, _, _, rfl, rfl, SqT.of (ht1), rfl, rfl, _, rfl, ite2 (fun z => absurd z (by decide +kernel)) (fun _ => ?_)⟩
      refine ⟨_, rfl, t, _, _, _, rfl, rfl, SqT.of (ht1), rfl, rfl, _, rfl, ite2 (fun z => absurd z (by decide +kernel)) (fun _ => ?_)⟩
      refine ⟨_, rfl, _, rfl, ?_⟩
      cases b with
      | false =>
        refine iteF (iteF ?_)
        refine ⟨_, rfl, t, _, _, _, rfl, rfl, SqT.of (ht1), rfl, _, rfl, t, _, _, _, rfl, rfl, SqT.of (ht1), rfl, _, rfl, _, rfl, fun x dx nx ndx nex => ⟨x, dx, mn, dt, fi, e, rfl, upd_same, ok0, fun H3 sx hr3 => ⟨rfl, k x H3 ((mk_up nx ndx S sx)) hr3⟩⟩⟩
      | true =>
      refine iteT ⟨_, rfl, rfl, _, rfl, ite2 (fun z => ?_) (fun z => ?_)⟩
      · have z1 : e = 1 := V.int.inj (of_decide_eq_true z)
        subst z1
        refine ⟨_, rfl, rfl, _, rfl, ite2 (fun z => ?_) (fun z => ?_)⟩
        · have z0 : fi = 0 := V.int.inj (of_decide_eq_true z)
          subst z0
          refine ⟨_, rfl, t, _, _, _, rfl, rfl, SqT.of (ht1), rfl, _, rfl, t, _, _, _, rfl, rfl, SqT.of (ht1), rfl, fun x dx nx ndx nex => ⟨x, dx, mn, dt, 0, 1, rfl, upd_same, ok0, fun H3 sx hr3 => ⟨rfl, k x H3 ((mk_up nx ndx S sx)) hr3⟩⟩⟩
        · refine ⟨_, rfl, t, _, _, _, rfl, rfl, SqT.of (ht1), rfl, _, rfl, t, _, _, _, rfl, rfl, SqT.of (ht1), rfl, _, rfl, fun x dx nx ndx nex => ⟨x, dx, mn, dt, fi, 1, rfl, upd_same, ok0, fun H3 sx hr3 => ⟨rfl, k x H3 ((mk_up nx ndx S sx)) hr3⟩⟩⟩
      · refine ⟨_, rfl, t, _, _, _, rfl, rfl, SqT.of (ht1), rfl, _, rfl, t, _, _, _, rfl, rfl, SqT.of (ht1), rfl, _, rfl, _, rfl, fun x dx nx ndx nex => ⟨x, dx, mn, dt, fi, e, rfl, upd_same, ok0, fun H3 sx hr3 => ⟨rfl, k x H3 ((mk_up nx ndx S sx)) hr3⟩⟩⟩
    | nv => exact hm.elim
    | ev _ _ => exact hm.elim
    | wk _ _ _ => exact hm.elim
    | dy _ => exact hm.elim
    | wh _ _ => exact hm.elim
end
end K12
namespace K12
open PySem L2
open DF (Rl fl dayDate dayNth isD byM Ok Fi)
section
variable {P : Program} {w : World} {K : PySem.W.Frag} {mg : Str → Option Value} {base : Heap} {a : Adr}
theorem sc_law_rule : FnScope ["_law_tree", "_law_short", "_law_word"] ["_law_tree", "_law_short"] (defScope s_law_rule) := ⟨rfl, rfl, rfl, by decide +kernel, rfl, by decide +kernel, by decide +kernel⟩
theorem ok_law_rule (T : TxtL K mg base a) : FnOk P w K mg base CX0 true 9 a.f_law_rule a.d_law_rule ["_law_tree", "_law_short"] (sp_law_rule (ad a) a.pt_law_rule) := by
  refine T.F_law_rule.okC sc_law_rule T.lc_law_rule (fun vs H Q E h => ?_) (fun A outer s H vs Q E hr h => ?_)
  · obtain ⟨t, b, r, rfl, _⟩ := h; rfl
  · obtain ⟨t, b, r, rfl, ht, ok0, tab, k⟩ := h
    refine ⟨_, (pss_cons (ps_set (i := 2) sc_law_rule.nd rfl (Or.inl rfl) (pe_ix (ix_tupK (K := K) rfl) (pv 0) pe_int (fun _ _ => rfl)))
      (pss_cons (ps_if (pt_cmpR op_eq (pv 2) pe_str (nomark _)) (pss_one (ps_ret (pe_makeN T.mn_Rule rfl T.m_Rule))) pss_nil)
      (pss_cons (ps_if (pt_cmpR op_eq (pv 2) pe_str (nomark _)) (pss_one (ps_ret (pe_make T.mk_Days ((ok_Days___init T).mono (by decide)) hr rfl T.m_Days T.b_Days___init .nil pass0 (pa_cons (pe_ix (ix_tupK (K := K) rfl) (pv 0) pe_int (fun _ _ => rfl)) pa_nil)))) pss_nil)
      (pss_cons (ps_if (pt_cmpR op_eq (pv 2) pe_str (nomark _)) (pss_one (ps_ret (pe_make T.mk_Where ((ok_Where___init T).mono (by decide)) hr rfl T.m_Where T.b_Where___init .nil pass0 (pa_cons (pe_lam T.L_law_rule rfl) pa_nil)))) pss_nil)
      (pss_cons (ps_if (pt_cmpR op_eq (pv 2) pe_str (nomark _)) (pss_one (ps_ret (pe_ifExp (PW.pt (pw_and (pt_val (pv 1)) (pw_and1 (pt_cmpR op_eq (pe_ix (ix_tupK (K := K) rfl) (pv 0) pe_int (fun _ _ => rfl)) pe_int (nomark _))))) (pe_make T.mk_Every ((ok_Every___init T).mono (by decide)) hr rfl T.m_Every T.b_Every___init_1.choose_spec.1 T.b_Every___init_1.choose_spec.2 pass0 (pa_cons (pe_ix (ix_tupK (K := K) rfl) (pv 0) pe_int (fun _ _ => rfl)) pa_nil)) (pe_make T.mk_Every ((ok_Every___init T).mono (by decide)) hr rfl T.m_Every T.b_Every___init .nil pass0 (pa_cons (pe_ix (ix_tupK (K := K) rfl) (pv 0) pe_int (fun _ _ => rfl)) (pa_cons (pe_ix (ix_tupK (K := K) rfl) (pv 0) pe_int (fun _ _ => rfl)) pa_nil)))))) pss_nil)
      (pss_cons (ps_if (pt_cmpR op_eq (pv 2) pe_str (nomark _)) (pss_cons (ps_if (PW.pt (pw_and (pt_val (pv 1)) (pw_and1 (pt_cmpR op_eq (pe_ix (ix_tupK (K := K) rfl) (pv 0) pe_int (fun _ _ => rfl)) pe_int (nomark _))))) (pss_one (ps_ret (pe_ifExp (pt_cmpR op_eq (pe_ix (ix_tupK (K := K) rfl) (pv 0) pe_int (fun _ _ => rfl)) pe_int (nomark _)) (pe_make T.mk_Weekly ((ok_Weekly___init T).mono (by decide)) hr rfl T.m_Weekly T.b_Weekly___init_2.choose_spec.1 T.b_Weekly___init_2.choose_spec.2 pass0 (pa_cons (pe_ix (ix_tupK (K := K) rfl) (pv 0) pe_int (fun _ _ => rfl)) pa_nil)) (pe_make T.mk_Weekly ((ok_Weekly___init T).mono (by decide)) hr rfl T.m_Weekly T.b_Weekly___init_1.choose_spec.1 T.b_Weekly___init_1.choose_spec.2 pass0 (pa_cons (pe_ix (ix_tupK (K := K) rfl) (pv 0) pe_int (fun _ _ => rfl)) (pa_cons (pe_ix (ix_tupK (K := K) rfl) (pv 0) pe_int (fun _ _ => rfl)) pa_nil)))))) pss_nil)
      (pss_one (ps_ret (pe_make T.mk_Weekly ((ok_Weekly___init T).mono (by decide)) hr rfl T.m_Weekly T.b_Weekly___init .nil pass0 (pa_cons (pe_ix (ix_tupK (K := K) rfl) (pv 0) pe_int (fun _ _ => rfl)) (pa_cons (pe_ix (ix_tupK (K := K) rfl) (pv 0) pe_int (fun _ _ => rfl)) (pa_cons (pe_ix (ix_tupK (K := K) rfl) (pv 0) pe_int (fun _ _ => rfl)) pa_nil))))))) pss_nil)
      (pss_one (ps_ret (pe_call ((ok_law_by_month T).mono (by decide)) hr rfl T.m_law_by_month T.F_law_by_month.kp T.b_law_by_month .nil pass0 (pa_cons (pv 0) (pa_cons (pv 1) pa_nil))))))))))), ?_⟩
    cases r with
    | nv =>
      refine ⟨_, rfl, t, _, _, _, rfl, rfl, SqT.of (ht), rfl, ?_⟩
      refine ⟨_, rfl, rfl, _, rfl, ite2 (fun _ => ?_) (fun z => absurd (by decide +kernel) z)⟩
      refine fun x dx nx ndx nex => ⟨[], (fun _ h => nomatch h), .nil, fun _ => k x _ (fun q u _ eq => ?_) ⟨dx, upd_same⟩⟩
      show upd (upd H dx (HO.own x)) x (HO.ins a.x_Rule dx []) q = some u
      rw [upd_ne (ne_of_none eq nx), upd_ne (ne_of_none eq ndx)]
      exact eq
    | dy ds =>
      obtain ⟨u, ht, hu⟩ := ht
      refine ⟨_, rfl, t, _, _, _, rfl, rfl, SqT.of (ht), rfl, ?_⟩
      refine ⟨_, rfl, rfl, _, rfl, ite2 (fun z => absurd z (by decide +kernel)) (fun _ => ?_)⟩
      refine ⟨_, rfl, rfl, _, rfl, ite2 (fun _ => ?_) (fun z => absurd (by decide +kernel) z)⟩
      refine ⟨_, rfl, t, _, _, _, rfl, rfl, SqT.of (ht), rfl, fun x dx nx ndx nex => ⟨x, dx, u, ds, rfl, upd_same, ?_, ok0, fun H3 sx hr3 => ⟨rfl, [], (fun _ h => nomatch h), .nil, fun _ => k x H3 (fun q u _ eq => mk_up nx ndx (Same.refl _) sx q u eq) hr3⟩⟩⟩
      rw [upd_ne (ne_of_none hu nx), upd_ne (ne_of_none hu ndx)]
      exact hu
    | wh m r =>
      have htt : H t = some (.tup [.str "where", .int m, .int r]) := ht
      refine ⟨_, rfl, t, _, _, _, rfl, rfl, SqT.of (ht), rfl, ?_⟩
      refine ⟨_, rfl, rfl, _, rfl, ite2 (fun z => absurd z (by decide +kernel)) (fun _ => ?_)⟩
      refine ⟨_, rfl, rfl, _, rfl, ite2 (fun z => absurd z (by decide +kernel)) (fun _ => ?_)⟩
      refine ⟨_, rfl, rfl, _, rfl, ite2 (fun _ => ?_) (fun z => absurd (by decide +kernel) z)⟩
      have key := lam_made1 (H := H) (P := a.pt_law_rule) (pos := lamPos lam_law_rule) (q := q_law_rule) (ps := lamArgs lam_law_rule) (b := lamBody lam_law_rule) (sc := lamScope lam_law_rule) (cl := [("_law_tree", s.heap.objs.size + 1)])
        (Q := fun v H' => ∀ x dx, H' x = none → H' dx = none → dx ≠ x → sp_Where_init a.x_Where [.ref x, v] (upd (upd H' dx (.own x)) x (.ins a.x_Where dx [])) (fun v2 H2 => v2 = .non ∧ RC ["_law_tree", "_law_short", "_law_word"] (defScope s_law_rule) (s.heap.objs.size + 1) Q [some (.ref t), some (.bl b), some (.str "where")] (.ref x) H2) E0) tab ?_
      · exact ⟨tab, key.1, key.2⟩
      refine fun f cd H1 s1 t1 hf hcd => ?_
      refine fun x dx nx ndx nex => ⟨x, dx, f, rfl, upd_same, fun H3 sx hx3 => ⟨rfl, ?_⟩⟩
      have S3 := mk_up nx ndx (Same.refl _) sx
      obtain ⟨tb, htb⟩ := tab.tbl
      have npt : t ≠ a.pt_law_rule := fun z => by rw [z, htb] at htt; cases htt
      refine ⟨[(0, ("_law_tree" : Str), s.heap.objs.size + 1, .ref t)], fun p hp => ?_, (by simp), fun hn => ?_⟩
      · rw [List.mem_singleton] at hp
        subst hp
        exact ⟨rfl, rfl, rfl, rfl⟩
      have hc : H3 (s.heap.objs.size + 1) = none := hn _ (List.mem_singleton.mpr rfl)
      have up : ∀ q u, H3 q = some u → (cellsIn [(0, ("_law_tree" : Str), s.heap.objs.size + 1, .ref t)] H3) q = some u := fun q u eq => by
        show upd H3 _ _ q = some u
        rw [upd_ne (ne_of_none eq hc)]
        exact eq
      refine k x _ (fun q u hq eq => up _ _ (S3 _ _ (s1 _ _ hq eq))) ⟨dx, f, t, up _ _ hx3, ⟨_, cd, up _ _ (S3 _ _ hf), up _ _ (S3 _ _ hcd), (by simp), rfl, fun i y z h1 h2 => ?_, fun p hp => ?_⟩, up _ _ (S3 _ _ (s1 _ _ npt htt))⟩
      · match i, h1, h2 with
        | 0, h1, h2 =>
          cases h1
          cases h2
          exact ⟨s.heap.objs.size + 1, List.lookup_cons_self .., upd_same⟩
        | i + 1, h1, h2 => exact absurd h1 (by simp)
      · rw [List.mem_singleton] at hp
        subst hp
        exact ⟨.ref t, upd_same⟩
    | ev st fi =>
      refine ⟨_, rfl, t, _, _, _, rfl, rfl, SqT.of (ht), rfl, ?_⟩
      refine ⟨_, rfl, rfl, _, rfl, ite2 (fun z => absurd z (by decide +kernel)) (fun _ => ?_)⟩
      refine ⟨_, rfl, rfl, _, rfl, ite2 (fun z => absurd z (by decide +kernel)) (fun _ => ?_)⟩
      refine ⟨_, rfl, rfl, _, rfl, ite2 (fun z => absurd z (by decide +kernel)) (fun _ => ?_)⟩
      refine ⟨_, rfl, rfl, _, rfl, ite2 (fun _ => ?_) (fun z => absurd (by decide +kernel) z)⟩
      refine ⟨_, rfl, _, rfl, ?_⟩
      cases b with
      | false =>
        refine iteF (iteF ?_)
        refine ⟨_, rfl, t, _, _, _, rfl, rfl, SqT.of (ht), rfl, _, rfl, t, _, _, _, rfl, rfl, SqT.of (ht), rfl, fun x dx nx ndx nex => ⟨x, dx, st, fi, rfl, upd_same, ok0, fun H3 sx hr3 => ⟨rfl, [], (fun _ h => nomatch h), .nil, fun _ => k x H3 (fun q u _ eq => mk_up nx ndx (Same.refl _) sx q u eq) hr3⟩⟩⟩
      | true =>
      refine iteT ⟨_, rfl, t, _, _, _, rfl, rfl, SqT.of (ht), rfl, rfl, _, rfl, ite2 (fun z => ?_) (fun z => ?_)⟩
      · have z0 : fi = 0 := V.int.inj (of_decide_eq_true z)
        subst z0
        refine ⟨_, rfl, t, _, _, _, rfl, rfl, SqT.of (ht), rfl, fun x dx nx ndx nex => ⟨x, dx, st, 0, rfl, upd_same, ok0, fun H3 sx hr3 => ⟨rfl, [], (fun _ h => nomatch h), .nil, fun _ => k x H3 (fun q u _ eq => mk_up nx ndx (Same.refl _) sx q u eq) hr3⟩⟩⟩
      · refine ⟨_, rfl, t, _, _, _, rfl, rfl, SqT.of (ht), rfl, _, rfl, t, _, _, _, rfl, rfl, SqT.of (ht), rfl, fun x dx nx ndx nex => ⟨x, dx, st, fi, rfl, upd_same, ok0, fun H3 sx hr3 => ⟨rfl, [], (fun _ h => nomatch h), .nil, fun _ => k x H3 (fun q u _ eq => mk_up nx ndx (Same.refl _) sx q u eq) hr3⟩⟩⟩
    | wk mk fi e =>
      refine ⟨_, rfl, t, _, _, _, rfl, rfl, SqT.of (ht), rfl, ?_⟩
      refine ⟨_, rfl, rfl, _, rfl, ite2 (fun z => absurd z (by decide +kernel)) (fun _ => ?_)⟩
      refine ⟨_, rfl, rfl, _, rfl, ite2 (fun z => absurd z (by decide +kernel)) (fun _ => ?_)⟩
      refine ⟨_, rfl, rfl, _, rfl, ite2 (fun z => absurd z (by decide +kernel)) (fun _ => ?_)⟩
      refine ⟨_, rfl, rfl, _, rfl, ite2 (fun z => absurd z (by decide +kernel)) (fun _ => ?_)⟩
      refine ⟨_, rfl, rfl, _, rfl, ite2 (fun _ => ?_) (fun z => absurd (by decide +kernel) z)⟩
      refine ⟨_, rfl, _, rfl, ?_⟩
      cases b with
      | false =>
        refine iteF (iteF ?_)
        refine ⟨_, rfl, t, _, _, _, rfl, rfl, SqT.of (ht), rfl, _, rfl, t, _, _, _, rfl, rfl, SqT.of (ht), rfl, _, rfl, t, _, _, _, rfl, rfl, SqT.of (ht), rfl, fun x dx nx ndx nex => ⟨x, dx, mk, fi, e, rfl, upd_same, ok0, fun H3 sx hr3 => ⟨rfl, [], (fun _ h => nomatch h), .nil, fun _ => k x H3 (fun q u _ eq => mk_up nx ndx (Same.refl _) sx q u eq) hr3⟩⟩⟩
      | true =>
      refine iteT ⟨_, rfl, t, _, _, _, rfl, rfl, SqT.of (ht), rfl, rfl, _, rfl, ite2 (fun z => ?_) (fun z => ?_)⟩
      · have z1 : e = 1 := V.int.inj (of_decide_eq_true z)
        subst z1
        refine ⟨_, rfl, t, _, _, _, rfl, rfl, SqT.of (ht), rfl, rfl, _, rfl, ite2 (fun z => ?_) (fun z => ?_)⟩
        · have z0 : fi = 0 := V.int.inj (of_decide_eq_true z)
          subst z0
          refine ⟨_, rfl, t, _, _, _, rfl, rfl, SqT.of (ht), rfl, fun x dx nx ndx nex => ⟨x, dx, mk, 0, 1, rfl, upd_same, ok0, fun H3 sx hr3 => ⟨rfl, [], (fun _ h => nomatch h), .nil, fun _ => k x H3 (fun q u _ eq => mk_up nx ndx (Same.refl _) sx q u eq) hr3⟩⟩⟩
        · refine ⟨_, rfl, t, _, _, _, rfl, rfl, SqT.of (ht), rfl, _, rfl, t, _, _, _, rfl, rfl, SqT.of (ht), rfl, fun x dx nx ndx nex => ⟨x, dx, mk, fi, 1, rfl, upd_same, ok0, fun H3 sx hr3 => ⟨rfl, [], (fun _ h => nomatch h), .nil, fun _ => k x H3 (fun q u _ eq => mk_up nx ndx (Same.refl _) sx q u eq) hr3⟩⟩⟩
      · refine ⟨_, rfl, t, _, _, _, rfl, rfl, SqT.of (ht), rfl, _, rfl, t, _, _, _, rfl, rfl, SqT.of (ht), rfl, _, rfl, t, _, _, _, rfl, rfl, SqT.of (ht), rfl, fun x dx nx ndx nex => ⟨x, dx, mk, fi, e, rfl, upd_same, ok0, fun H3 sx hr3 => ⟨rfl, [], (fun _ h => nomatch h), .nil, fun _ => k x H3 (fun q u _ eq => mk_up nx ndx (Same.refl _) sx q u eq) hr3⟩⟩⟩
    | mo dt fi e =>
      refine ⟨_, rfl, t, _, _, _, rfl, rfl, SqT.of (ht), rfl, ?_⟩
      refine ⟨_, rfl, rfl, _, rfl, ite2 (fun z => absurd z (by decide +kernel)) (fun _ => ?_)⟩
      refine ⟨_, rfl, rfl, _, rfl, ite2 (fun z => absurd z (by decide +kernel)) (fun _ => ?_)⟩
      refine ⟨_, rfl, rfl, _, rfl, ite2 (fun z => absurd z (by decide +kernel)) (fun _ => ?_)⟩
      refine ⟨_, rfl, rfl, _, rfl, ite2 (fun z => absurd z (by decide +kernel)) (fun _ => ?_)⟩
      refine ⟨_, rfl, rfl, _, rfl, ite2 (fun z => absurd z (by decide +kernel)) (fun _ => ?_)⟩
      exact ⟨_, rfl, _, rfl, t, b, _, rfl, ht, ok0, trivial, fun x H' s' hr => ⟨[], (fun _ h => nomatch h), .nil, fun _ => k x H' (fun q u _ eq => s' _ _ eq) hr⟩⟩
    | nt w wd fi e =>
      refine ⟨_, rfl, t, _, _, _, rfl, rfl, SqT.of (ht), rfl, ?_⟩
      refine ⟨_, rfl, rfl, _, rfl, ite2 (fun z => absurd z (by decide +kernel)) (fun _ => ?_)⟩
      refine ⟨_, rfl, rfl, _, rfl, ite2 (fun z => absurd z (by decide +kernel)) (fun _ => ?_)⟩
      refine ⟨_, rfl, rfl, _, rfl, ite2 (fun z => absurd z (by decide +kernel)) (fun _ => ?_)⟩
      refine ⟨_, rfl, rfl, _, rfl, ite2 (fun z => absurd z (by decide +kernel)) (fun _ => ?_)⟩
      refine ⟨_, rfl, rfl, _, rfl, ite2 (fun z => absurd z (by decide +kernel)) (fun _ => ?_)⟩
      exact ⟨_, rfl, _, rfl, t, b, _, rfl, ht, ok0, trivial, fun x H' s' hr => ⟨[], (fun _ h => nomatch h), .nil, fun _ => k x H' (fun q u _ eq => s' _ _ eq) hr⟩⟩
    | yr mn dt fi e =>
      refine ⟨_, rfl, t, _, _, _, rfl, rfl, SqT.of (ht), rfl, ?_⟩
      refine ⟨_, rfl, rfl, _, rfl, ite2 (fun z => absurd z (by decide +kernel)) (fun _ => ?_)⟩
      refine ⟨_, rfl, rfl, _, rfl, ite2 (fun z => absurd z (by decide +kernel)) (fun _ => ?_)⟩
      refine ⟨_, rfl, rfl, _, rfl, ite2 (fun z => absurd z (by decide +kernel)) (fun _ => ?_)⟩
      refine ⟨_, rfl, rfl, _, rfl, ite2 (fun z => absurd z (by decide +kernel)) (fun _ => ?_)⟩
      refine ⟨_, rfl, rfl, _, rfl, ite2 (fun z => absurd z (by decide +kernel)) (fun _ => ?_)⟩
      exact ⟨_, rfl, _, rfl, t, b, _, rfl, ht, ok0, trivial, fun x H' s' hr => ⟨[], (fun _ h => nomatch h), .nil, fun _ => k x H' (fun q u _ eq => s' _ _ eq) hr⟩⟩
end
end K12
namespace K12
open PySem L2
open DF (Rl fl dayDate dayNth isD byM Ok Fi)
section
variable {P : Program} {w : World} {K : PySem.W.Frag} {mg : Str → Option Value} {base : Heap} {a : Adr}
theorem sc_law : FnScope ["_law_script", "_law_base", "_law_rule_here", "_law_made", "_law_k", "_law_cell", "_law_begin", "_law_end"] ["_law_script"] (defScope s_law) := ⟨rfl, rfl, rfl, by decide +kernel, rfl, by decide +kernel, by decide +kernel⟩
theorem ok_law (T : TxtL K mg base a) : FnOk P w K mg base CX0 true 11 a.f_law a.d_law ["_law_script"] (sp_law K [(a.cc_law_rule, a.pt_law_rule), (a.cc_law_days_alone, a.pt_law_days_alone)]) := by
  refine T.F_law.ok sc_law (fun vs H Q E h => ?_) (fun cdv A outer s H vs Q E hr h => ?_)
  · obtain ⟨sa, ns, rfl, _⟩ := h; rfl
  · obtain ⟨sa, ns, rfl, hS, hlen, htb, k⟩ := h
    refine ⟨_, (pss_cons (ps_set (i := 1) sc_law.nd rfl (Or.inl rfl) (pe_call ((ok_law_some_day T).mono (by decide)) hr rfl T.m_law_some_day T.F_law_some_day.kp T.b_law_some_day .nil pass0 (pa_cons (pe_call ((ok_law_next T).mono (by decide)) hr rfl T.m_law_next T.F_law_next.kp T.b_law_next .nil pass0 (pa_cons (pe_call ((ok_law_cell_at T).mono (by decide)) hr rfl T.m_law_cell_at T.F_law_cell_at.kp T.b_law_cell_at .nil pass0 (pa_cons (pv 0) (pa_cons pe_int pa_nil))) pa_nil)) pa_nil)))
      (pss_cons (ps_set (i := 2) sc_law.nd rfl (Or.inl rfl) (pe_call ((ok_law_simple T).mono (by decide)) hr rfl T.m_law_simple T.F_law_simple.kp T.b_law_simple .nil pass0 (pa_cons (pe_call ((ok_law_next T).mono (by decide)) hr rfl T.m_law_next T.F_law_next.kp T.b_law_next .nil pass0 (pa_cons (pe_call ((ok_law_cell_at T).mono (by decide)) hr rfl T.m_law_cell_at T.F_law_cell_at.kp T.b_law_cell_at .nil pass0 (pa_cons (pv 0) (pa_cons pe_int pa_nil))) pa_nil)) (pa_cons (pv 1) pa_nil))))
      (pss_cons (ps_set (i := 3) sc_law.nd rfl (Or.inl rfl) (pe_call ((ok_law_rule T).mono (by decide)) hr rfl T.m_law_rule T.F_law_rule.kp T.b_law_rule .nil pass0 (pa_cons (pv 2) (pa_cons (pe_cmpR op_eq (pe_op op_mod (pe_call ((ok_law_cell_at T).mono (by decide)) hr rfl T.m_law_cell_at T.F_law_cell_at.kp T.b_law_cell_at .nil pass0 (pa_cons (pv 0) (pa_cons pe_int pa_nil))) pe_int) pe_int (nomark _)) pa_nil))))
      (pss_cons (ps_for PassesOwn.never rfl (pi_range1 rfl T.n_range (pa_cons pe_int pa_nil)) (pg_name (i := 4) sc_law.nd rfl (Or.inl rfl)) (pss_cons (ps_set (i := 5) sc_law.nd rfl (Or.inl rfl) (pe_call ((ok_law_next T).mono (by decide)) hr rfl T.m_law_next T.F_law_next.kp T.b_law_next .nil pass0 (pa_cons (pe_op op_add (pe_call ((ok_law_cell_at T).mono (by decide)) hr rfl T.m_law_cell_at T.F_law_cell_at.kp T.b_law_cell_at .nil pass0 (pa_cons (pv 0) (pa_cons (pe_op op_add pe_int (pv 4)) pa_nil))) (pv 4)) pa_nil)))
      (pss_cons (ps_set (i := 6) sc_law.nd rfl (Or.inl rfl) (pe_ix (ix_listK (K := K) rfl) (pe_lst (pa_cons (pe_op op_sub (pe_op op_add (pv 1) (pe_op op_mod (pe_op op_fdiv (pv 5) pe_int) pe_int)) pe_int) (pa_cons (pv 1) (pa_cons (pe_un un_neg pe_int) (pa_cons pe_int pa_nil))))) (pe_op op_mod (pv 5) pe_int) (fun _ _ => rfl)))
      (pss_cons (ps_set (i := 7) sc_law.nd rfl (Or.inl rfl) (pe_op op_add (pv 6) (pe_ix (ix_listK (K := K) rfl) (pe_lst (pa_cons (pe_op op_mod (pe_op op_fdiv (pv 5) pe_int) pe_int) (pa_cons (pe_op op_mod (pe_op op_fdiv (pv 5) pe_int) pe_int) (pa_cons pe_int (pa_cons (pe_un un_neg pe_int) (pa_cons (pe_op op_mod (pe_op op_fdiv (pv 5) pe_int) pe_int) pa_nil)))))) (pe_op op_mod (pe_op op_fdiv (pv 5) pe_int) pe_int) (fun _ _ => rfl))))
      (pss_one (ps_if (pt_not (pt_val (pe_call ((ok_law_same T).mono (by decide)) hr rfl T.m_law_same T.F_law_same.kp T.b_law_same .nil pass0 (pa_cons (pe_methV (n := 2) (D := dnext a) (pv 3) (by rintro C R (⟨rfl, rfl⟩ | ⟨rfl, rfl⟩ | ⟨rfl, rfl⟩ | ⟨rfl, rfl⟩ | ⟨rfl, rfl⟩ | ⟨rfl, rfl⟩ | ⟨rfl, rfl⟩ | ⟨rfl, rfl⟩) <;> first | exact ⟨T.cl_Rule, _, _, _, _, _, _, _, _, _, _, T.me_Rule_next_in, (ok_Rule_next_in T).mono (by decide), hr, T.b_Rule_next_in, .nil, pass0, fun _ _ _ _ _ h => h⟩ | exact ⟨T.cl_Every, _, _, _, _, _, _, _, _, _, _, T.me_Every_next_in, (ok_Every_next_in T).mono (by decide), hr, T.b_Every_next_in, .nil, pass0, fun _ _ _ _ _ h => h⟩ | exact ⟨T.cl_Weekly, _, _, _, _, _, _, _, _, _, _, T.me_Weekly_next_in, (ok_Weekly_next_in T).mono (by decide), hr, T.b_Weekly_next_in, .nil, pass0, fun _ _ _ _ _ h => h⟩ | exact ⟨T.cl_Monthly, _, _, _, _, _, _, _, _, _, _, T.me_Monthly_next_in, (ok_ByMonth_next_in T).mono (by decide), hr, T.b_ByMonth_next_in, .nil, pass0, fun _ _ _ _ _ h => h⟩ | exact ⟨T.cl_Nth, _, _, _, _, _, _, _, _, _, _, T.me_Nth_next_in, (ok_ByMonth_next_in T).mono (by decide), hr, T.b_ByMonth_next_in, .nil, pass0, fun _ _ _ _ _ h => h⟩ | exact ⟨T.cl_Yearly, _, _, _, _, _, _, _, _, _, _, T.me_Yearly_next_in, (ok_ByMonth_next_in T).mono (by decide), hr, T.b_ByMonth_next_in, .nil, pass0, fun _ _ _ _ _ h => h⟩ | exact ⟨T.cl_Days, _, _, _, _, _, _, _, _, _, _, T.me_Days_next_in, (ok_Days_next_in T).mono (by decide), hr, T.b_Days_next_in, .nil, pass0, fun _ _ _ _ _ h => h⟩ | exact ⟨T.cl_Where, _, _, _, _, _, _, _, _, _, _, T.me_Where_next_in, (ok_Where_next_in T).mono (by decide), hr, T.b_Where_next_in, .nil, pass0, fun _ _ _ _ _ h => h⟩) (pa_cons (pv 6) (pa_cons (pv 7) pa_nil))) (pa_cons (pe_call ((ok_law_soon T).mono (by decide)) hr rfl T.m_law_soon T.F_law_soon.kp T.b_law_soon .nil pass0 (pa_cons (pv 2) (pa_cons (pv 6) (pa_cons (pv 7) pa_nil)))) pa_nil))))) (pss_one ps_never) pss_nil))))))
      (pss_one (ps_ret (pe_and (pe_call ((ok_law_left_out T).mono (by decide)) hr rfl T.m_law_left_out T.F_law_left_out.kp T.b_law_left_out .nil pass0 (pa_cons (pe_call ((ok_law_next T).mono (by decide)) hr rfl T.m_law_next T.F_law_next.kp T.b_law_next .nil pass0 (pa_cons (pe_call ((ok_law_cell_at T).mono (by decide)) hr rfl T.m_law_cell_at T.F_law_cell_at.kp T.b_law_cell_at .nil pass0 (pa_cons (pv 0) (pa_cons pe_int pa_nil))) pa_nil)) pa_nil)) (pe_one (pe_call ((ok_law_days_alone T).mono (by decide)) hr rfl T.m_law_days_alone T.F_law_days_alone.kp T.b_law_days_alone .nil pass0 (pa_cons (pe_call ((ok_law_cell_at T).mono (by decide)) hr rfl T.m_law_cell_at T.F_law_cell_at.kp T.b_law_cell_at .nil pass0 (pa_cons (pv 0) (pa_cons pe_int pa_nil))) pa_nil)))))))))), ?_⟩
    have hpt : H a.pt_law_rule = some (.tbl #[]) := htb _ (List.mem_cons_self ..)
    have hpd : H a.pt_law_days_alone = some (.tbl #[]) := htb _ (List.mem_cons_of_mem _ (List.mem_cons_self ..))
    refine ⟨_, rfl, sa, ns, _, rfl, hS, by decide, fun c0 => ⟨_, rfl, fun n _ => ⟨_, rfl, fun b H1 b0 b1 s1 => ?_⟩⟩⟩
    refine ⟨_, rfl, sa, ns, _, rfl, s1.seq hS, by decide, fun c1 => ⟨_, rfl, fun n2 _ => ⟨_, rfl, _, b, rfl, fun t r H2 s2 ht ok => ?_⟩⟩⟩
    have hS2 := (s1.trans s2).seq hS
    have hpt2 := (s1.trans s2) _ _ hpt
    have hpd2 := (s1.trans s2) _ _ hpd
    refine ⟨_, rfl, _, rfl, sa, ns, _, rfl, hS2, by decide, fun c2 => ⟨_, _, rfl, rfl, (by show (0 : Int) < 2; decide), rfl, t, _, r, rfl, ht, ok, .inl hpt2, fun x H3 sx hr => ?_⟩⟩
    have hS3 := seqX hS2 hpt2 sx
    have ht3 := ht.upX hpt2 sx
    have hpd3 := sx _ _ (fun z => T.L_ne z.symm) hpd2
    refine ⟨8, rfl, by decide, by decide, ?_⟩
    refine for_seq (seq_range 0 8 H3) (fun i σ H' => Same H3 H' ∧ ∃ y1 y2 y3 y4, σ = [some (.ref sa), some (.int b), some (.ref t), some (.ref x), y1, y2, y3, y4]) ⟨Same.refl _, _, _, _, _, rfl⟩ (fun _ _ _ _ h => h.1) ?_ ?_
    · rintro i kv σ H4 hkv ⟨s4, y1, y2, y3, y4, rfl⟩
      obtain ⟨j, hj, rfl⟩ := List.mem_map.mp (List.mem_of_getElem? hkv)
      refine ⟨_, rfl, _, rfl, _, _, rfl, rfl, sa, ns, _, rfl, s4.seq hS3, by omega, fun c3 => ⟨_, rfl, _, _, rfl, rfl, _, rfl, fun c c0' => ?_⟩⟩
      refine ⟨_, rfl, _, rfl, _, _, rfl, rfl, ⟨by decide, by decide⟩, _, _, rfl, rfl, (by show (0 : Int) < 60; decide), _, _, rfl, rfl, _, _, rfl, rfl, _, rfl, _, rfl, (by show 4 ≤ sizeLine; decide), fun L hL => ?_⟩
      obtain ⟨bg, g0, g1, hbg⟩ := atI_pick (ts := [b + c / 4 % 60 - 30, b, -5, 146090]) (i := c % 4) (-40) 146200 (Int.emod_nonneg _ (by decide)) (Int.emod_lt_of_pos _ (by decide)) (fun t ht => by
        rcases List.mem_cons.mp ht with rfl | ht; · omega
        rcases List.mem_cons.mp ht with rfl | ht; · omega
        rcases List.mem_cons.mp ht with rfl | ht; · decide
        rw [List.mem_singleton] at ht; subst ht; decide)
      refine ⟨_, rfl, _, _, rfl, rfl, (by show (0 : Int) < 4; decide), L, _, _, _, rfl, rfl, SqL.of upd_same, hbg, ?_⟩
      have s5 := s4.trans (same_upd (o := .lst [.int (b + c / 4 % 60 - 30), .int b, .int (-5), .int 146090]) hL)
      refine ⟨_, rfl, _, rfl, _, _, rfl, rfl, ⟨by decide, by decide⟩, _, _, rfl, rfl, (by show (0 : Int) < 40; decide), _, rfl, _, _, rfl, rfl, ⟨by decide, by decide⟩, _, _, rfl, rfl, (by show (0 : Int) < 100; decide), _, rfl, _, rfl, _, _, rfl, rfl, ⟨by decide, by decide⟩, _, _, rfl, rfl, (by show (0 : Int) < 20; decide), (by show 5 ≤ sizeLine; decide), fun L2 hL2 => ?_⟩
      obtain ⟨ln, n0, n1, hln⟩ := atI_pick (ts := [c / 7 % 40, c / 7 % 100, 0, -3, c / 7 % 20]) (i := c / 3 % 5) (-3) 100 (Int.emod_nonneg _ (by decide)) (Int.emod_lt_of_pos _ (by decide)) (fun t ht => by
        rcases List.mem_cons.mp ht with rfl | ht; · omega
        rcases List.mem_cons.mp ht with rfl | ht; · omega
        rcases List.mem_cons.mp ht with rfl | ht; · decide
        rcases List.mem_cons.mp ht with rfl | ht; · decide
        rw [List.mem_singleton] at ht; subst ht; omega)
      refine ⟨_, rfl, _, _, rfl, rfl, ⟨by decide, by decide⟩, _, _, rfl, rfl, (by show (0 : Int) < 5; decide), L2, _, _, _, rfl, rfl, SqL.of upd_same, hln, _, _, rfl, rfl, ?_⟩
      have s6 := s5.trans (same_upd (o := .lst [.int (c / 7 % 40), .int (c / 7 % 100), .int 0, .int (-3), .int (c / 7 % 20)]) hL2)
      have hw : Wi bg (bg + ln) := ⟨by omega, by omega, by omega, by omega⟩
      obtain ⟨y, C, dx, fs, R2, e1, e2, e3, e4, e5⟩ := next_call (a := a) (hr.up s6) ok hw
      refine ⟨_, rfl, y, C, dx, fs, R2, e1, e2, e3, e4, _, rfl, _, rfl, rfl, e5 _ fun o ho => ?_⟩
      refine ⟨_, rfl, _, rfl, _, rfl, t, bg, bg + ln, r, rfl, ht3.up s6, ok, hw, fun o2 H7 s7 ho2 => ?_⟩
      obtain rfl := ho.uniq ho2
      exact ⟨o, rfl, _, rfl, iteF ⟨s6.trans s7, _, _, _, _, rfl⟩⟩
    rintro σ H4 ⟨s4, y1, y2, y3, y4, rfl⟩
    refine ⟨_, rfl, sa, ns, _, rfl, s4.seq hS3, by decide, fun c5 => ⟨_, rfl, fun n5 n50 => ⟨n5, rfl, n50, fun H5 s5 => ⟨_, rfl, iteT ?_⟩⟩⟩⟩
    exact ⟨_, rfl, sa, ns, _, rfl, (s4.trans s5).seq hS3, by decide, fun c6 => ⟨c6, rfl, (s4.trans s5) _ _ hpd3, fun H6 => k H6⟩⟩
end
end K12
namespace K12
open PySem L2
open DF (Rl fl dayDate dayNth isD byM Ok Fi)
theorem txt_mk {K : PySem.W.Frag} {h : Heap} {mg : Str → Option Value} (X : K.In h) (G : h.Ns mainGlobals mg)
    {x_ByMonth : Addr}
    {x_Days : Addr}
    {x_Every : Addr}
    {x_Monthly : Addr}
    {x_Nth : Addr}
    {x_Rule : Addr}
    {x_Weekly : Addr}
    {x_Where : Addr}
    {x_Yearly : Addr}
    {fq1j : Addr} {ocq1j kVq1j dcq1j pmq1j cdq1j ctq1j : Value} {odq1j anq1j : Option Addr} {slq1j : Array (Option Value)}
    {fq1g : Addr} {ocq1g kVq1g dcq1g pmq1g cdq1g ctq1g : Value} {odq1g anq1g : Option Addr} {slq1g : Array (Option Value)}
    {fqu : Addr} {ocqu kVqu dcqu pmqu cdqu ctqu : Value} {odqu anqu : Option Addr} {slqu : Array (Option Value)}
    {fq1i : Addr} {ocq1i kVq1i dcq1i pmq1i cdq1i ctq1i : Value} {odq1i anq1i : Option Addr} {slq1i : Array (Option Value)}
    {fqh : Addr} {ocqh kVqh dcqh pmqh cdqh ctqh : Value} {odqh anqh : Option Addr} {slqh : Array (Option Value)}
    {fqs : Addr} {ocqs kVqs dcqs pmqs cdqs ctqs : Value} {odqs anqs : Option Addr} {slqs : Array (Option Value)}
    {fqm : Addr} {ocqm dVqm kVqm dcqm pmqm cdqm ctqm : Value} {odqm anqm : Option Addr} {slqm : Array (Option Value)}
    {tqm : Addr} {otqm : Obj} {uqm_0 uqm_1 : Tok} {ntqm : Nat}
    {fqa : Addr} {ocqa dVqa kVqa dcqa pmqa cdqa ctqa : Value} {odqa anqa : Option Addr} {slqa : Array (Option Value)}
    {tqa : Addr} {otqa : Obj} {uqa_0 uqa_1 : Tok} {ntqa : Nat}
    {fq8 : Addr} {ocq8 kVq8 dcq8 pmq8 cdq8 ctq8 : Value} {odq8 anq8 : Option Addr} {slq8 : Array (Option Value)}
    {fqk : Addr} {ocqk kVqk dcqk pmqk cdqk ctqk : Value} {odqk anqk : Option Addr} {slqk : Array (Option Value)}
    {fqr : Addr} {ocqr kVqr dcqr pmqr cdqr ctqr : Value} {odqr anqr : Option Addr} {slqr : Array (Option Value)}
    {fq19 : Addr} {ocq19 kVq19 dcq19 pmq19 cdq19 ctq19 : Value} {odq19 anq19 : Option Addr} {slq19 : Array (Option Value)}
    {fq18 : Addr} {ocq18 kVq18 dcq18 pmq18 cdq18 ctq18 : Value} {odq18 anq18 : Option Addr} {slq18 : Array (Option Value)}
    {fq1c : Addr} {ocq1c kVq1c dcq1c pmq1c cdq1c ctq1c : Value} {odq1c anq1c : Option Addr} {slq1c : Array (Option Value)}
    {fq15 : Addr} {ocq15 kVq15 dcq15 pmq15 cdq15 ctq15 : Value} {odq15 anq15 : Option Addr} {slq15 : Array (Option Value)}
    {fq16 : Addr} {ocq16 kVq16 dcq16 pmq16 cdq16 ctq16 : Value} {odq16 anq16 : Option Addr} {slq16 : Array (Option Value)}
    {fq12 : Addr} {ocq12 kVq12 dcq12 pmq12 cdq12 ctq12 : Value} {odq12 anq12 : Option Addr} {slq12 : Array (Option Value)}
    {fqv : Addr} {ocqv kVqv dcqv pmqv cdqv ctqv : Value} {odqv anqv : Option Addr} {slqv : Array (Option Value)}
    {fqn : Addr} {ocqn kVqn dcqn pmqn cdqn ctqn : Value} {odqn anqn : Option Addr} {slqn : Array (Option Value)}
    {fq11 : Addr} {ocq11 kVq11 dcq11 pmq11 cdq11 ctq11 : Value} {odq11 anq11 : Option Addr} {slq11 : Array (Option Value)}
    {fq1h : Addr} {ocq1h kVq1h dcq1h pmq1h cdq1h ctq1h : Value} {odq1h anq1h : Option Addr} {slq1h : Array (Option Value)}
    {fqz : Addr} {ocqz kVqz dcqz pmqz cdqz ctqz : Value} {odqz anqz : Option Addr} {slqz : Array (Option Value)}
    {fq0 : Addr} {ocq0 kVq0 dcq0 pmq0 cdq0 ctq0 : Value} {odq0 anq0 : Option Addr} {slq0 : Array (Option Value)}
    {fqf : Addr} {ocqf dVqf kVqf dcqf pmqf cdqf ctqf : Value} {odqf anqf : Option Addr} {slqf : Array (Option Value)}
    {tqf : Addr} {otqf : Obj} {uqf_0 uqf_1 : Tok} {ntqf : Nat}
    {fq4 : Addr} {ocq4 kVq4 dcq4 pmq4 cdq4 ctq4 : Value} {odq4 anq4 : Option Addr} {slq4 : Array (Option Value)}
    {fqy : Addr} {ocqy kVqy dcqy pmqy cdqy ctqy : Value} {odqy anqy : Option Addr} {slqy : Array (Option Value)}
    {fq13 : Addr} {ocq13 kVq13 dcq13 pmq13 cdq13 ctq13 : Value} {odq13 anq13 : Option Addr} {slq13 : Array (Option Value)}
    {fq17 : Addr} {ocq17 kVq17 dcq17 pmq17 cdq17 ctq17 : Value} {odq17 anq17 : Option Addr} {slq17 : Array (Option Value)}
    {fqq : Addr} {ocqq kVqq dcqq pmqq cdqq ctqq : Value} {odqq anqq : Option Addr} {slqq : Array (Option Value)}
    {fqo : Addr} {ocqo kVqo dcqo pmqo cdqo ctqo : Value} {odqo anqo : Option Addr} {slqo : Array (Option Value)}
    {fqw : Addr} {ocqw kVqw dcqw pmqw cdqw ctqw : Value} {odqw anqw : Option Addr} {slqw : Array (Option Value)}
    {fql : Addr} {ocql dVql kVql dcql pmql cdql ctql : Value} {odql anql : Option Addr} {slql : Array (Option Value)}
    {tql : Addr} {otql : Obj} {uql_0 : Tok} {ntql : Nat}
    {fq1 : Addr} {ocq1 kVq1 dcq1 pmq1 cdq1 ctq1 : Value} {odq1 anq1 : Option Addr} {slq1 : Array (Option Value)}
    {fqp : Addr} {ocqp kVqp dcqp pmqp cdqp ctqp : Value} {odqp anqp : Option Addr} {slqp : Array (Option Value)}
    {fqc : Addr} {ocqc dVqc kVqc dcqc pmqc cdqc ctqc : Value} {odqc anqc : Option Addr} {slqc : Array (Option Value)}
    {tqc : Addr} {otqc : Obj} {uqc_0 uqc_1 : Tok} {ntqc : Nat}
    {fq1a : Addr} {ocq1a kVq1a dcq1a pmq1a cdq1a ctq1a : Value} {odq1a anq1a : Option Addr} {slq1a : Array (Option Value)}
    {fq1e : Addr} {ocq1e kVq1e dcq1e pmq1e cdq1e ctq1e : Value} {odq1e anq1e : Option Addr} {slq1e : Array (Option Value)}
    {fq1f : Addr} {ocq1f kVq1f dcq1f pmq1f cdq1f ctq1f : Value} {odq1f anq1f : Option Addr} {slq1f : Array (Option Value)}
    {fq5 : Addr} {ocq5 dVq5 kVq5 dcq5 pmq5 cdq5 ctq5 : Value} {odq5 anq5 : Option Addr} {slq5 : Array (Option Value)}
    {tq5 : Addr} {otq5 : Obj} {uq5_0 uq5_1 : Tok} {ntq5 : Nat}
    {fqe : Addr} {ocqe dVqe kVqe dcqe pmqe cdqe ctqe : Value} {odqe anqe : Option Addr} {slqe : Array (Option Value)}
    {tqe : Addr} {otqe : Obj} {uqe_0 uqe_1 : Tok} {ntqe : Nat}
    {fq7 : Addr} {ocq7 kVq7 dcq7 pmq7 cdq7 ctq7 : Value} {odq7 anq7 : Option Addr} {slq7 : Array (Option Value)}
    {fq6 : Addr} {ocq6 dVq6 kVq6 dcq6 pmq6 cdq6 ctq6 : Value} {odq6 anq6 : Option Addr} {slq6 : Array (Option Value)}
    {tq6 : Addr} {otq6 : Obj} {uq6_0 uq6_1 : Tok} {ntq6 : Nat}
    {fqt : Addr} {ocqt kVqt dcqt pmqt cdqt ctqt : Value} {odqt anqt : Option Addr} {slqt : Array (Option Value)}
    {fq10 : Addr} {ocq10 dVq10 kVq10 dcq10 pmq10 cdq10 ctq10 : Value} {odq10 anq10 : Option Addr} {slq10 : Array (Option Value)}
    {tq10 : Addr} {otq10 : Obj} {uq10_0 uq10_1 : Tok} {ntq10 : Nat}
    {fqd : Addr} {ocqd kVqd dcqd pmqd cdqd ctqd : Value} {odqd anqd : Option Addr} {slqd : Array (Option Value)}
    {fqg : Addr} {ocqg kVqg dcqg pmqg cdqg ctqg : Value} {odqg anqg : Option Addr} {slqg : Array (Option Value)}
    {fqx : Addr} {ocqx kVqx dcqx pmqx cdqx ctqx : Value} {odqx anqx : Option Addr} {slqx : Array (Option Value)}
    {fq9 : Addr} {ocq9 kVq9 dcq9 pmq9 cdq9 ctq9 : Value} {odq9 anq9 : Option Addr} {slq9 : Array (Option Value)}
    {fq2 : Addr} {ocq2 dVq2 kVq2 dcq2 pmq2 cdq2 ctq2 : Value} {odq2 anq2 : Option Addr} {slq2 : Array (Option Value)}
    {tq2 : Addr} {otq2 : Obj} {uq2_0 uq2_1 : Tok} {ntq2 : Nat}
    {fqb : Addr} {ocqb dVqb kVqb dcqb pmqb cdqb ctqb : Value} {odqb anqb : Option Addr} {slqb : Array (Option Value)}
    {tqb : Addr} {otqb : Obj} {uqb_0 uqb_1 : Tok} {ntqb : Nat}
    {fq14 : Addr} {ocq14 kVq14 dcq14 pmq14 cdq14 ctq14 : Value} {odq14 anq14 : Option Addr} {slq14 : Array (Option Value)}
    {fq3 : Addr} {ocq3 kVq3 dcq3 pmq3 cdq3 ctq3 : Value} {odq3 anq3 : Option Addr} {slq3 : Array (Option Value)}
    {fq1d : Addr} {ocq1d kVq1d dcq1d pmq1d cdq1d ctq1d : Value} {odq1d anq1d : Option Addr} {slq1d : Array (Option Value)}
    {fqj : Addr} {ocqj kVqj dcqj pmqj cdqj ctqj : Value} {odqj anqj : Option Addr} {slqj : Array (Option Value)}
    {fqi : Addr} {ocqi kVqi dcqi pmqi cdqi ctqi : Value} {odqi anqi : Option Addr} {slqi : Array (Option Value)}
    {fq1b : Addr} {ocq1b kVq1b dcq1b pmq1b cdq1b ctq1b : Value} {odq1b anq1b : Option Addr} {slq1b : Array (Option Value)}
    {fq1k : Addr} {ocq1k kVq1k dcq1k pmq1k cdq1k ctq1k : Value} {odq1k anq1k : Option Addr} {slq1k : Array (Option Value)}
    {t_DAYS : Tok}
    {c_DAYS_AHEAD : Addr} {o_DAYS_AHEAD : Obj} {n_DAYS_AHEAD : Nat} {t_DAYS_AHEAD_0 t_DAYS_AHEAD_1 t_DAYS_AHEAD_2 t_DAYS_AHEAD_3 t_DAYS_AHEAD_4 t_DAYS_AHEAD_5 t_DAYS_AHEAD_6 t_DAYS_AHEAD_7 t_DAYS_AHEAD_8 t_DAYS_AHEAD_9 t_DAYS_AHEAD_10 t_DAYS_AHEAD_11 : Tok}
    {t_FIRST_WEEKDAY : Tok}
    {t_FIRST_YEAR : Tok}
    {t_LONG_YEAR : Tok}
    {t_MONTHS : Tok}
    {c_MONTH_LENGTHS : Addr} {o_MONTH_LENGTHS : Obj} {n_MONTH_LENGTHS : Nat} {t_MONTH_LENGTHS_0 t_MONTH_LENGTHS_1 t_MONTH_LENGTHS_2 t_MONTH_LENGTHS_3 t_MONTH_LENGTHS_4 t_MONTH_LENGTHS_5 t_MONTH_LENGTHS_6 t_MONTH_LENGTHS_7 t_MONTH_LENGTHS_8 t_MONTH_LENGTHS_9 t_MONTH_LENGTHS_10 t_MONTH_LENGTHS_11 : Tok}
    {t_MOST_EVERY : Tok}
    {ccq1b ptq1b : Addr} {u1q1b : Value} {u2q1b : Option Addr} {u3q1b : Array Value} {u4q1b : Array (Option Value)}
    {ccq3 ptq3 : Addr} {u1q3 : Value} {u2q3 : Option Addr} {u3q3 : Array Value} {u4q3 : Array (Option Value)}
    (aC_ByMonth : PySem.W.nsIn K mainGlobals "ByMonth" = some (some (.ref x_ByMonth)))
    (pg_ByMonth : PySem.W.plainGet K x_ByMonth Str.empty = true)
    (hd_ByMonth : PySem.W.hasDictIn K x_ByMonth = true)
    (po_ByMonth : PySem.W.plainOver K x_ByMonth = true)
    (sa_ByMonth : PySem.W.findIn K (.ref x_ByMonth) "__setattr__" = some (some (.builtin "object.__setattr__")))
    (mk_ByMonth : PySem.W.makesIn K x_ByMonth = true)
    (kc_ByMonth : PySem.W.keepIn K (.ref x_ByMonth) = true)
    (nf_origin_ByMonth : PySem.W.findIn K (.ref x_ByMonth) "origin" = some none)
    (nf_stride_ByMonth : PySem.W.findIn K (.ref x_ByMonth) "stride" = some none)
    (nf_first_ByMonth : PySem.W.findIn K (.ref x_ByMonth) "first" = some none)
    (aC_Days : PySem.W.nsIn K mainGlobals "Days" = some (some (.ref x_Days)))
    (pg_Days : PySem.W.plainGet K x_Days Str.empty = true)
    (hd_Days : PySem.W.hasDictIn K x_Days = true)
    (po_Days : PySem.W.plainOver K x_Days = true)
    (sa_Days : PySem.W.findIn K (.ref x_Days) "__setattr__" = some (some (.builtin "object.__setattr__")))
    (mk_Days : PySem.W.makesIn K x_Days = true)
    (kc_Days : PySem.W.keepIn K (.ref x_Days) = true)
    (nf_days_Days : PySem.W.findIn K (.ref x_Days) "days" = some none)
    (aC_Every : PySem.W.nsIn K mainGlobals "Every" = some (some (.ref x_Every)))
    (pg_Every : PySem.W.plainGet K x_Every Str.empty = true)
    (hd_Every : PySem.W.hasDictIn K x_Every = true)
    (po_Every : PySem.W.plainOver K x_Every = true)
    (sa_Every : PySem.W.findIn K (.ref x_Every) "__setattr__" = some (some (.builtin "object.__setattr__")))
    (mk_Every : PySem.W.makesIn K x_Every = true)
    (kc_Every : PySem.W.keepIn K (.ref x_Every) = true)
    (nf_step_Every : PySem.W.findIn K (.ref x_Every) "step" = some none)
    (nf_first_Every : PySem.W.findIn K (.ref x_Every) "first" = some none)
    (aC_Monthly : PySem.W.nsIn K mainGlobals "Monthly" = some (some (.ref x_Monthly)))
    (pg_Monthly : PySem.W.plainGet K x_Monthly Str.empty = true)
    (hd_Monthly : PySem.W.hasDictIn K x_Monthly = true)
    (po_Monthly : PySem.W.plainOver K x_Monthly = true)
    (sa_Monthly : PySem.W.findIn K (.ref x_Monthly) "__setattr__" = some (some (.builtin "object.__setattr__")))
    (mk_Monthly : PySem.W.makesIn K x_Monthly = true)
    (kc_Monthly : PySem.W.keepIn K (.ref x_Monthly) = true)
    (nf_date_Monthly : PySem.W.findIn K (.ref x_Monthly) "date" = some none)
    (nf_every_Monthly : PySem.W.findIn K (.ref x_Monthly) "every" = some none)
    (nf_origin_Monthly : PySem.W.findIn K (.ref x_Monthly) "origin" = some none)
    (nf_stride_Monthly : PySem.W.findIn K (.ref x_Monthly) "stride" = some none)
    (nf_first_Monthly : PySem.W.findIn K (.ref x_Monthly) "first" = some none)
    (aC_Nth : PySem.W.nsIn K mainGlobals "Nth" = some (some (.ref x_Nth)))
    (pg_Nth : PySem.W.plainGet K x_Nth Str.empty = true)
    (hd_Nth : PySem.W.hasDictIn K x_Nth = true)
    (po_Nth : PySem.W.plainOver K x_Nth = true)
    (sa_Nth : PySem.W.findIn K (.ref x_Nth) "__setattr__" = some (some (.builtin "object.__setattr__")))
    (mk_Nth : PySem.W.makesIn K x_Nth = true)
    (kc_Nth : PySem.W.keepIn K (.ref x_Nth) = true)
    (nf_which_Nth : PySem.W.findIn K (.ref x_Nth) "which" = some none)
    (nf_weekday_of_Nth : PySem.W.findIn K (.ref x_Nth) "weekday_of" = some none)
    (nf_every_Nth : PySem.W.findIn K (.ref x_Nth) "every" = some none)
    (nf_origin_Nth : PySem.W.findIn K (.ref x_Nth) "origin" = some none)
    (nf_stride_Nth : PySem.W.findIn K (.ref x_Nth) "stride" = some none)
    (nf_first_Nth : PySem.W.findIn K (.ref x_Nth) "first" = some none)
    (aC_Rule : PySem.W.nsIn K mainGlobals "Rule" = some (some (.ref x_Rule)))
    (pg_Rule : PySem.W.plainGet K x_Rule Str.empty = true)
    (hd_Rule : PySem.W.hasDictIn K x_Rule = true)
    (po_Rule : PySem.W.plainOver K x_Rule = true)
    (sa_Rule : PySem.W.findIn K (.ref x_Rule) "__setattr__" = some (some (.builtin "object.__setattr__")))
    (mk_Rule : PySem.W.makesIn K x_Rule = true)
    (kc_Rule : PySem.W.keepIn K (.ref x_Rule) = true)
    (oi_Rule : PySem.W.findIn K (.ref x_Rule) "__init__" = some (some (.builtin "object.__init__")))
    (aC_Weekly : PySem.W.nsIn K mainGlobals "Weekly" = some (some (.ref x_Weekly)))
    (pg_Weekly : PySem.W.plainGet K x_Weekly Str.empty = true)
    (hd_Weekly : PySem.W.hasDictIn K x_Weekly = true)
    (po_Weekly : PySem.W.plainOver K x_Weekly = true)
    (sa_Weekly : PySem.W.findIn K (.ref x_Weekly) "__setattr__" = some (some (.builtin "object.__setattr__")))
    (mk_Weekly : PySem.W.makesIn K x_Weekly = true)
    (kc_Weekly : PySem.W.keepIn K (.ref x_Weekly) = true)
    (nf_mask_Weekly : PySem.W.findIn K (.ref x_Weekly) "mask" = some none)
    (nf_first_Weekly : PySem.W.findIn K (.ref x_Weekly) "first" = some none)
    (nf_every_Weekly : PySem.W.findIn K (.ref x_Weekly) "every" = some none)
    (aC_Where : PySem.W.nsIn K mainGlobals "Where" = some (some (.ref x_Where)))
    (pg_Where : PySem.W.plainGet K x_Where Str.empty = true)
    (hd_Where : PySem.W.hasDictIn K x_Where = true)
    (po_Where : PySem.W.plainOver K x_Where = true)
    (sa_Where : PySem.W.findIn K (.ref x_Where) "__setattr__" = some (some (.builtin "object.__setattr__")))
    (mk_Where : PySem.W.makesIn K x_Where = true)
    (kc_Where : PySem.W.keepIn K (.ref x_Where) = true)
    (nf_test_Where : PySem.W.findIn K (.ref x_Where) "test" = some none)
    (aC_Yearly : PySem.W.nsIn K mainGlobals "Yearly" = some (some (.ref x_Yearly)))
    (pg_Yearly : PySem.W.plainGet K x_Yearly Str.empty = true)
    (hd_Yearly : PySem.W.hasDictIn K x_Yearly = true)
    (po_Yearly : PySem.W.plainOver K x_Yearly = true)
    (sa_Yearly : PySem.W.findIn K (.ref x_Yearly) "__setattr__" = some (some (.builtin "object.__setattr__")))
    (mk_Yearly : PySem.W.makesIn K x_Yearly = true)
    (kc_Yearly : PySem.W.keepIn K (.ref x_Yearly) = true)
    (nf_month_Yearly : PySem.W.findIn K (.ref x_Yearly) "month" = some none)
    (nf_date_Yearly : PySem.W.findIn K (.ref x_Yearly) "date" = some none)
    (nf_every_Yearly : PySem.W.findIn K (.ref x_Yearly) "every" = some none)
    (nf_origin_Yearly : PySem.W.findIn K (.ref x_Yearly) "origin" = some none)
    (nf_stride_Yearly : PySem.W.findIn K (.ref x_Yearly) "stride" = some none)
    (nf_first_Yearly : PySem.W.findIn K (.ref x_Yearly) "first" = some none)
    (aq1j : PySem.W.nsIn K mainGlobals "is_day" = some (some (.ref fq1j))) (lq1j : K.lookup fq1j = some ⟨ocq1j, odq1j, .func (PySem.W.fnOf "is_day" "is_day" (defArgs s_is_day) (defBody s_is_day) (defScope s_is_day) .none kVq1j dcq1j pmq1j anq1j cdq1j ctq1j), slq1j⟩) (eq1j : PySem.W.codeIn K cdq1j "is_day" = true) (kq1j : PySem.W.keepIn K (.ref fq1j) = true)
    (aq1g : PySem.W.nsIn K mainGlobals "is_leap" = some (some (.ref fq1g))) (lq1g : K.lookup fq1g = some ⟨ocq1g, odq1g, .func (PySem.W.fnOf "is_leap" "is_leap" (defArgs s_is_leap) (defBody s_is_leap) (defScope s_is_leap) .none kVq1g dcq1g pmq1g anq1g cdq1g ctq1g), slq1g⟩) (eq1g : PySem.W.codeIn K cdq1g "is_leap" = true) (kq1g : PySem.W.keepIn K (.ref fq1g) = true)
    (aqu : PySem.W.nsIn K mainGlobals "year_begin" = some (some (.ref fqu))) (lqu : K.lookup fqu = some ⟨ocqu, odqu, .func (PySem.W.fnOf "year_begin" "year_begin" (defArgs s_year_begin) (defBody s_year_begin) (defScope s_year_begin) .none kVqu dcqu pmqu anqu cdqu ctqu), slqu⟩) (equ : PySem.W.codeIn K cdqu "year_begin" = true) (kqu : PySem.W.keepIn K (.ref fqu) = true)
    (aq1i : PySem.W.nsIn K mainGlobals "weekday" = some (some (.ref fq1i))) (lq1i : K.lookup fq1i = some ⟨ocq1i, odq1i, .func (PySem.W.fnOf "weekday" "weekday" (defArgs s_weekday) (defBody s_weekday) (defScope s_weekday) .none kVq1i dcq1i pmq1i anq1i cdq1i ctq1i), slq1i⟩) (eq1i : PySem.W.codeIn K cdq1i "weekday" = true) (kq1i : PySem.W.keepIn K (.ref fq1i) = true)
    (aqh : PySem.W.nsIn K mainGlobals "check_bounds" = some (some (.ref fqh))) (lqh : K.lookup fqh = some ⟨ocqh, odqh, .func (PySem.W.fnOf "check_bounds" "check_bounds" (defArgs s_check_bounds) (defBody s_check_bounds) (defScope s_check_bounds) .none kVqh dcqh pmqh anqh cdqh ctqh), slqh⟩) (eqh : PySem.W.codeIn K cdqh "check_bounds" = true) (kqh : PySem.W.keepIn K (.ref fqh) = true)
    (aqs : PySem.W.nsIn K mainGlobals "count_below" = some (some (.ref fqs))) (lqs : K.lookup fqs = some ⟨ocqs, odqs, .func (PySem.W.fnOf "count_below" "count_below" (defArgs s_count_below) (defBody s_count_below) (defScope s_count_below) .none kVqs dcqs pmqs anqs cdqs ctqs), slqs⟩) (eqs : PySem.W.codeIn K cdqs "count_below" = true) (kqs : PySem.W.keepIn K (.ref fqs) = true)
    (aqm : PySem.W.findIn K (.ref x_Rule) "next_in" = some (some (.ref fqm))) (lqm : K.lookup fqm = some ⟨ocqm, odqm, .func (PySem.W.fnOf "next_in" "Rule.next_in" (defArgs s_Rule_next_in) (defBody s_Rule_next_in) (defScope s_Rule_next_in) dVqm kVqm dcqm pmqm anqm cdqm ctqm), slqm⟩) (eqm : PySem.W.codeIn K cdqm "Rule.next_in" = true) (kqm : PySem.W.keepIn K (.ref fqm) = true)
    (iqm : PySem.W.isFn K (.ref fqm) = true)
    (vqm : dVqm = .ref tqm) (wqm : K.lookup tqm = some otqm) (xqm : otqm.data = .seq #[.int 0 uqm_0, .int 146097 uqm_1] ntqm)
    (aqa : PySem.W.findIn K (.ref x_Every) "next_in" = some (some (.ref fqa))) (lqa : K.lookup fqa = some ⟨ocqa, odqa, .func (PySem.W.fnOf "next_in" "Every.next_in" (defArgs s_Every_next_in) (defBody s_Every_next_in) (defScope s_Every_next_in) dVqa kVqa dcqa pmqa anqa cdqa ctqa), slqa⟩) (eqa : PySem.W.codeIn K cdqa "Every.next_in" = true) (kqa : PySem.W.keepIn K (.ref fqa) = true)
    (iqa : PySem.W.isFn K (.ref fqa) = true)
    (vqa : dVqa = .ref tqa) (wqa : K.lookup tqa = some otqa) (xqa : otqa.data = .seq #[.int 0 uqa_0, .int 146097 uqa_1] ntqa)
    (aq8 : PySem.W.findIn K (.ref x_ByMonth) "__init__" = some (some (.ref fq8))) (lq8 : K.lookup fq8 = some ⟨ocq8, odq8, .func (PySem.W.fnOf "__init__" "ByMonth.__init__" (defArgs s_ByMonth___init) (defBody s_ByMonth___init) (defScope s_ByMonth___init) .none kVq8 dcq8 pmq8 anq8 cdq8 ctq8), slq8⟩) (eq8 : PySem.W.codeIn K cdq8 "ByMonth.__init__" = true) (kq8 : PySem.W.keepIn K (.ref fq8) = true)
    (iq8 : PySem.W.isFn K (.ref fq8) = true)
    (aqk : PySem.W.findIn K (.ref x_Where) "__init__" = some (some (.ref fqk))) (lqk : K.lookup fqk = some ⟨ocqk, odqk, .func (PySem.W.fnOf "__init__" "Where.__init__" (defArgs s_Where___init) (defBody s_Where___init) (defScope s_Where___init) .none kVqk dcqk pmqk anqk cdqk ctqk), slqk⟩) (eqk : PySem.W.codeIn K cdqk "Where.__init__" = true) (kqk : PySem.W.keepIn K (.ref fqk) = true)
    (iqk : PySem.W.isFn K (.ref fqk) = true)
    (aqr : PySem.W.nsIn K mainGlobals "_law_cell_at" = some (some (.ref fqr))) (lqr : K.lookup fqr = some ⟨ocqr, odqr, .func (PySem.W.fnOf "_law_cell_at" "_law_cell_at" (defArgs s_law_cell_at) (defBody s_law_cell_at) (defScope s_law_cell_at) .none kVqr dcqr pmqr anqr cdqr ctqr), slqr⟩) (eqr : PySem.W.codeIn K cdqr "_law_cell_at" = true) (kqr : PySem.W.keepIn K (.ref fqr) = true)
    (aq19 : PySem.W.nsIn K mainGlobals "_law_next" = some (some (.ref fq19))) (lq19 : K.lookup fq19 = some ⟨ocq19, odq19, .func (PySem.W.fnOf "_law_next" "_law_next" (defArgs s_law_next) (defBody s_law_next) (defScope s_law_next) .none kVq19 dcq19 pmq19 anq19 cdq19 ctq19), slq19⟩) (eq19 : PySem.W.codeIn K cdq19 "_law_next" = true) (kq19 : PySem.W.keepIn K (.ref fq19) = true)
    (aq18 : PySem.W.nsIn K mainGlobals "_law_leap" = some (some (.ref fq18))) (lq18 : K.lookup fq18 = some ⟨ocq18, odq18, .func (PySem.W.fnOf "_law_leap" "_law_leap" (defArgs s_law_leap) (defBody s_law_leap) (defScope s_law_leap) .none kVq18 dcq18 pmq18 anq18 cdq18 ctq18), slq18⟩) (eq18 : PySem.W.codeIn K cdq18 "_law_leap" = true) (kq18 : PySem.W.keepIn K (.ref fq18) = true)
    (aq1c : PySem.W.nsIn K mainGlobals "_law_year" = some (some (.ref fq1c))) (lq1c : K.lookup fq1c = some ⟨ocq1c, odq1c, .func (PySem.W.fnOf "_law_year" "_law_year" (defArgs s_law_year) (defBody s_law_year) (defScope s_law_year) .none kVq1c dcq1c pmq1c anq1c cdq1c ctq1c), slq1c⟩) (eq1c : PySem.W.codeIn K cdq1c "_law_year" = true) (kq1c : PySem.W.keepIn K (.ref fq1c) = true)
    (aq15 : PySem.W.nsIn K mainGlobals "_law_same" = some (some (.ref fq15))) (lq15 : K.lookup fq15 = some ⟨ocq15, odq15, .func (PySem.W.fnOf "_law_same" "_law_same" (defArgs s_law_same) (defBody s_law_same) (defScope s_law_same) .none kVq15 dcq15 pmq15 anq15 cdq15 ctq15), slq15⟩) (eq15 : PySem.W.codeIn K cdq15 "_law_same" = true) (kq15 : PySem.W.keepIn K (.ref fq15) = true)
    (aq16 : PySem.W.nsIn K mainGlobals "_law_near" = some (some (.ref fq16))) (lq16 : K.lookup fq16 = some ⟨ocq16, odq16, .func (PySem.W.fnOf "_law_near" "_law_near" (defArgs s_law_near) (defBody s_law_near) (defScope s_law_near) .none kVq16 dcq16 pmq16 anq16 cdq16 ctq16), slq16⟩) (eq16 : PySem.W.codeIn K cdq16 "_law_near" = true) (kq16 : PySem.W.keepIn K (.ref fq16) = true)
    (aq12 : PySem.W.nsIn K mainGlobals "_law_often" = some (some (.ref fq12))) (lq12 : K.lookup fq12 = some ⟨ocq12, odq12, .func (PySem.W.fnOf "_law_often" "_law_often" (defArgs s_law_often) (defBody s_law_often) (defScope s_law_often) .none kVq12 dcq12 pmq12 anq12 cdq12 ctq12), slq12⟩) (eq12 : PySem.W.codeIn K cdq12 "_law_often" = true) (kq12 : PySem.W.keepIn K (.ref fq12) = true)
    (aqv : PySem.W.nsIn K mainGlobals "month_days" = some (some (.ref fqv))) (lqv : K.lookup fqv = some ⟨ocqv, odqv, .func (PySem.W.fnOf "month_days" "month_days" (defArgs s_month_days) (defBody s_month_days) (defScope s_month_days) .none kVqv dcqv pmqv anqv cdqv ctqv), slqv⟩) (eqv : PySem.W.codeIn K cdqv "month_days" = true) (kqv : PySem.W.keepIn K (.ref fqv) = true)
    (aqn : PySem.W.nsIn K mainGlobals "month_begin" = some (some (.ref fqn))) (lqn : K.lookup fqn = some ⟨ocqn, odqn, .func (PySem.W.fnOf "month_begin" "month_begin" (defArgs s_month_begin) (defBody s_month_begin) (defScope s_month_begin) .none kVqn dcqn pmqn anqn cdqn ctqn), slqn⟩) (eqn : PySem.W.codeIn K cdqn "month_begin" = true) (kqn : PySem.W.keepIn K (.ref fqn) = true)
    (aq11 : PySem.W.nsIn K mainGlobals "check_day" = some (some (.ref fq11))) (lq11 : K.lookup fq11 = some ⟨ocq11, odq11, .func (PySem.W.fnOf "check_day" "check_day" (defArgs s_check_day) (defBody s_check_day) (defScope s_check_day) .none kVq11 dcq11 pmq11 anq11 cdq11 ctq11), slq11⟩) (eq11 : PySem.W.codeIn K cdq11 "check_day" = true) (kq11 : PySem.W.keepIn K (.ref fq11) = true)
    (aq1h : PySem.W.nsIn K mainGlobals "week_of" = some (some (.ref fq1h))) (lq1h : K.lookup fq1h = some ⟨ocq1h, odq1h, .func (PySem.W.fnOf "week_of" "week_of" (defArgs s_week_of) (defBody s_week_of) (defScope s_week_of) .none kVq1h dcq1h pmq1h anq1h cdq1h ctq1h), slq1h⟩) (eq1h : PySem.W.codeIn K cdq1h "week_of" = true) (kq1h : PySem.W.keepIn K (.ref fq1h) = true)
    (aqz : PySem.W.nsIn K mainGlobals "week_begin" = some (some (.ref fqz))) (lqz : K.lookup fqz = some ⟨ocqz, odqz, .func (PySem.W.fnOf "week_begin" "week_begin" (defArgs s_week_begin) (defBody s_week_begin) (defScope s_week_begin) .none kVqz dcqz pmqz anqz cdqz ctqz), slqz⟩) (eqz : PySem.W.codeIn K cdqz "week_begin" = true) (kqz : PySem.W.keepIn K (.ref fqz) = true)
    (aq0 : PySem.W.findIn K (.ref x_Weekly) "has_weekday" = some (some (.ref fq0))) (lq0 : K.lookup fq0 = some ⟨ocq0, odq0, .func (PySem.W.fnOf "has_weekday" "Weekly.has_weekday" (defArgs s_Weekly_has_weekday) (defBody s_Weekly_has_weekday) (defScope s_Weekly_has_weekday) .none kVq0 dcq0 pmq0 anq0 cdq0 ctq0), slq0⟩) (eq0 : PySem.W.codeIn K cdq0 "Weekly.has_weekday" = true) (kq0 : PySem.W.keepIn K (.ref fq0) = true)
    (iq0 : PySem.W.isFn K (.ref fq0) = true)
    (aqf : PySem.W.findIn K (.ref x_Days) "next_in" = some (some (.ref fqf))) (lqf : K.lookup fqf = some ⟨ocqf, odqf, .func (PySem.W.fnOf "next_in" "Days.next_in" (defArgs s_Days_next_in) (defBody s_Days_next_in) (defScope s_Days_next_in) dVqf kVqf dcqf pmqf anqf cdqf ctqf), slqf⟩) (eqf : PySem.W.codeIn K cdqf "Days.next_in" = true) (kqf : PySem.W.keepIn K (.ref fqf) = true)
    (iqf : PySem.W.isFn K (.ref fqf) = true)
    (vqf : dVqf = .ref tqf) (wqf : K.lookup tqf = some otqf) (xqf : otqf.data = .seq #[.int 0 uqf_0, .int 146097 uqf_1] ntqf)
    (aq4 : PySem.W.findIn K (.ref x_Where) "falls_on" = some (some (.ref fq4))) (lq4 : K.lookup fq4 = some ⟨ocq4, odq4, .func (PySem.W.fnOf "falls_on" "Where.falls_on" (defArgs s_Where_falls_on) (defBody s_Where_falls_on) (defScope s_Where_falls_on) .none kVq4 dcq4 pmq4 anq4 cdq4 ctq4), slq4⟩) (eq4 : PySem.W.codeIn K cdq4 "Where.falls_on" = true) (kq4 : PySem.W.keepIn K (.ref fq4) = true)
    (iq4 : PySem.W.isFn K (.ref fq4) = true)
    (aqy : PySem.W.nsIn K mainGlobals "_law_length" = some (some (.ref fqy))) (lqy : K.lookup fqy = some ⟨ocqy, odqy, .func (PySem.W.fnOf "_law_length" "_law_length" (defArgs s_law_length) (defBody s_law_length) (defScope s_law_length) .none kVqy dcqy pmqy anqy cdqy ctqy), slqy⟩) (eqy : PySem.W.codeIn K cdqy "_law_length" = true) (kqy : PySem.W.keepIn K (.ref fqy) = true)
    (aq13 : PySem.W.nsIn K mainGlobals "_law_first" = some (some (.ref fq13))) (lq13 : K.lookup fq13 = some ⟨ocq13, odq13, .func (PySem.W.fnOf "_law_first" "_law_first" (defArgs s_law_first) (defBody s_law_first) (defScope s_law_first) .none kVq13 dcq13 pmq13 anq13 cdq13 ctq13), slq13⟩) (eq13 : PySem.W.codeIn K cdq13 "_law_first" = true) (kq13 : PySem.W.keepIn K (.ref fq13) = true)
    (aq17 : PySem.W.nsIn K mainGlobals "month_of" = some (some (.ref fq17))) (lq17 : K.lookup fq17 = some ⟨ocq17, odq17, .func (PySem.W.fnOf "month_of" "month_of" (defArgs s_month_of) (defBody s_month_of) (defScope s_month_of) .none kVq17 dcq17 pmq17 anq17 cdq17 ctq17), slq17⟩) (eq17 : PySem.W.codeIn K cdq17 "month_of" = true) (kq17 : PySem.W.keepIn K (.ref fq17) = true)
    (aqq : PySem.W.nsIn K mainGlobals "check_every" = some (some (.ref fqq))) (lqq : K.lookup fqq = some ⟨ocqq, odqq, .func (PySem.W.fnOf "check_every" "check_every" (defArgs s_check_every) (defBody s_check_every) (defScope s_check_every) .none kVqq dcqq pmqq anqq cdqq ctqq), slqq⟩) (eqq : PySem.W.codeIn K cdqq "check_every" = true) (kqq : PySem.W.keepIn K (.ref fqq) = true)
    (aqo : PySem.W.nsIn K mainGlobals "day_of_date" = some (some (.ref fqo))) (lqo : K.lookup fqo = some ⟨ocqo, odqo, .func (PySem.W.fnOf "day_of_date" "day_of_date" (defArgs s_day_of_date) (defBody s_day_of_date) (defScope s_day_of_date) .none kVqo dcqo pmqo anqo cdqo ctqo), slqo⟩) (eqo : PySem.W.codeIn K cdqo "day_of_date" = true) (kqo : PySem.W.keepIn K (.ref fqo) = true)
    (aqw : PySem.W.nsIn K mainGlobals "day_of_nth" = some (some (.ref fqw))) (lqw : K.lookup fqw = some ⟨ocqw, odqw, .func (PySem.W.fnOf "day_of_nth" "day_of_nth" (defArgs s_day_of_nth) (defBody s_day_of_nth) (defScope s_day_of_nth) .none kVqw dcqw pmqw anqw cdqw ctqw), slqw⟩) (eqw : PySem.W.codeIn K cdqw "day_of_nth" = true) (kqw : PySem.W.keepIn K (.ref fqw) = true)
    (aql : PySem.W.findIn K (.ref x_Every) "__init__" = some (some (.ref fql))) (lql : K.lookup fql = some ⟨ocql, odql, .func (PySem.W.fnOf "__init__" "Every.__init__" (defArgs s_Every___init) (defBody s_Every___init) (defScope s_Every___init) dVql kVql dcql pmql anql cdql ctql), slql⟩) (eql : PySem.W.codeIn K cdql "Every.__init__" = true) (kql : PySem.W.keepIn K (.ref fql) = true)
    (iql : PySem.W.isFn K (.ref fql) = true)
    (vql : dVql = .ref tql) (wql : K.lookup tql = some otql) (xql : otql.data = .seq #[.int 0 uql_0] ntql)
    (aq1 : PySem.W.findIn K (.ref x_Weekly) "weeks_over" = some (some (.ref fq1))) (lq1 : K.lookup fq1 = some ⟨ocq1, odq1, .func (PySem.W.fnOf "weeks_over" "Weekly.weeks_over" (defArgs s_Weekly_weeks_over) (defBody s_Weekly_weeks_over) (defScope s_Weekly_weeks_over) .none kVq1 dcq1 pmq1 anq1 cdq1 ctq1), slq1⟩) (eq1 : PySem.W.codeIn K cdq1 "Weekly.weeks_over" = true) (kq1 : PySem.W.keepIn K (.ref fq1) = true)
    (iq1 : PySem.W.isFn K (.ref fq1) = true)
    (aqp : PySem.W.findIn K (.ref x_Days) "__init__" = some (some (.ref fqp))) (lqp : K.lookup fqp = some ⟨ocqp, odqp, .func (PySem.W.fnOf "__init__" "Days.__init__" (defArgs s_Days___init) (defBody s_Days___init) (defScope s_Days___init) .none kVqp dcqp pmqp anqp cdqp ctqp), slqp⟩) (eqp : PySem.W.codeIn K cdqp "Days.__init__" = true) (kqp : PySem.W.keepIn K (.ref fqp) = true)
    (iqp : PySem.W.isFn K (.ref fqp) = true)
    (aqc : PySem.W.findIn K (.ref x_Where) "next_in" = some (some (.ref fqc))) (lqc : K.lookup fqc = some ⟨ocqc, odqc, .func (PySem.W.fnOf "next_in" "Where.next_in" (defArgs s_Where_next_in) (defBody s_Where_next_in) (defScope s_Where_next_in) dVqc kVqc dcqc pmqc anqc cdqc ctqc), slqc⟩) (eqc : PySem.W.codeIn K cdqc "Where.next_in" = true) (kqc : PySem.W.keepIn K (.ref fqc) = true)
    (iqc : PySem.W.isFn K (.ref fqc) = true)
    (vqc : dVqc = .ref tqc) (wqc : K.lookup tqc = some otqc) (xqc : otqc.data = .seq #[.int 0 uqc_0, .int 146097 uqc_1] ntqc)
    (aq1a : PySem.W.nsIn K mainGlobals "_law_date" = some (some (.ref fq1a))) (lq1a : K.lookup fq1a = some ⟨ocq1a, odq1a, .func (PySem.W.fnOf "_law_date" "_law_date" (defArgs s_law_date) (defBody s_law_date) (defScope s_law_date) .none kVq1a dcq1a pmq1a anq1a cdq1a ctq1a), slq1a⟩) (eq1a : PySem.W.codeIn K cdq1a "_law_date" = true) (kq1a : PySem.W.keepIn K (.ref fq1a) = true)
    (aq1e : PySem.W.nsIn K mainGlobals "_law_day" = some (some (.ref fq1e))) (lq1e : K.lookup fq1e = some ⟨ocq1e, odq1e, .func (PySem.W.fnOf "_law_day" "_law_day" (defArgs s_law_day) (defBody s_law_day) (defScope s_law_day) .none kVq1e dcq1e pmq1e anq1e cdq1e ctq1e), slq1e⟩) (eq1e : PySem.W.codeIn K cdq1e "_law_day" = true) (kq1e : PySem.W.keepIn K (.ref fq1e) = true)
    (aq1f : PySem.W.nsIn K mainGlobals "date_of" = some (some (.ref fq1f))) (lq1f : K.lookup fq1f = some ⟨ocq1f, odq1f, .func (PySem.W.fnOf "date_of" "date_of" (defArgs s_date_of) (defBody s_date_of) (defScope s_date_of) .none kVq1f dcq1f pmq1f anq1f cdq1f ctq1f), slq1f⟩) (eq1f : PySem.W.codeIn K cdq1f "date_of" = true) (kq1f : PySem.W.keepIn K (.ref fq1f) = true)
    (aq5 : PySem.W.findIn K (.ref x_Weekly) "next_in" = some (some (.ref fq5))) (lq5 : K.lookup fq5 = some ⟨ocq5, odq5, .func (PySem.W.fnOf "next_in" "Weekly.next_in" (defArgs s_Weekly_next_in) (defBody s_Weekly_next_in) (defScope s_Weekly_next_in) dVq5 kVq5 dcq5 pmq5 anq5 cdq5 ctq5), slq5⟩) (eq5 : PySem.W.codeIn K cdq5 "Weekly.next_in" = true) (kq5 : PySem.W.keepIn K (.ref fq5) = true)
    (iq5 : PySem.W.isFn K (.ref fq5) = true)
    (vq5 : dVq5 = .ref tq5) (wq5 : K.lookup tq5 = some otq5) (xq5 : otq5.data = .seq #[.int 0 uq5_0, .int 146097 uq5_1] ntq5)
    (aqe : PySem.W.findIn K (.ref x_Weekly) "__init__" = some (some (.ref fqe))) (lqe : K.lookup fqe = some ⟨ocqe, odqe, .func (PySem.W.fnOf "__init__" "Weekly.__init__" (defArgs s_Weekly___init) (defBody s_Weekly___init) (defScope s_Weekly___init) dVqe kVqe dcqe pmqe anqe cdqe ctqe), slqe⟩) (eqe : PySem.W.codeIn K cdqe "Weekly.__init__" = true) (kqe : PySem.W.keepIn K (.ref fqe) = true)
    (iqe : PySem.W.isFn K (.ref fqe) = true)
    (vqe : dVqe = .ref tqe) (wqe : K.lookup tqe = some otqe) (xqe : otqe.data = .seq #[.int 0 uqe_0, .int 1 uqe_1] ntqe)
    (aq7 : PySem.W.findIn K (.ref x_Monthly) "day_in" = some (some (.ref fq7))) (lq7 : K.lookup fq7 = some ⟨ocq7, odq7, .func (PySem.W.fnOf "day_in" "Monthly.day_in" (defArgs s_Monthly_day_in) (defBody s_Monthly_day_in) (defScope s_Monthly_day_in) .none kVq7 dcq7 pmq7 anq7 cdq7 ctq7), slq7⟩) (eq7 : PySem.W.codeIn K cdq7 "Monthly.day_in" = true) (kq7 : PySem.W.keepIn K (.ref fq7) = true)
    (iq7 : PySem.W.isFn K (.ref fq7) = true)
    (aq6 : PySem.W.findIn K (.ref x_Monthly) "__init__" = some (some (.ref fq6))) (lq6 : K.lookup fq6 = some ⟨ocq6, odq6, .func (PySem.W.fnOf "__init__" "Monthly.__init__" (defArgs s_Monthly___init) (defBody s_Monthly___init) (defScope s_Monthly___init) dVq6 kVq6 dcq6 pmq6 anq6 cdq6 ctq6), slq6⟩) (eq6 : PySem.W.codeIn K cdq6 "Monthly.__init__" = true) (kq6 : PySem.W.keepIn K (.ref fq6) = true)
    (iq6 : PySem.W.isFn K (.ref fq6) = true)
    (vq6 : dVq6 = .ref tq6) (wq6 : K.lookup tq6 = some otq6) (xq6 : otq6.data = .seq #[.int 0 uq6_0, .int 1 uq6_1] ntq6)
    (aqt : PySem.W.findIn K (.ref x_Nth) "day_in" = some (some (.ref fqt))) (lqt : K.lookup fqt = some ⟨ocqt, odqt, .func (PySem.W.fnOf "day_in" "Nth.day_in" (defArgs s_Nth_day_in) (defBody s_Nth_day_in) (defScope s_Nth_day_in) .none kVqt dcqt pmqt anqt cdqt ctqt), slqt⟩) (eqt : PySem.W.codeIn K cdqt "Nth.day_in" = true) (kqt : PySem.W.keepIn K (.ref fqt) = true)
    (iqt : PySem.W.isFn K (.ref fqt) = true)
    (aq10 : PySem.W.findIn K (.ref x_Nth) "__init__" = some (some (.ref fq10))) (lq10 : K.lookup fq10 = some ⟨ocq10, odq10, .func (PySem.W.fnOf "__init__" "Nth.__init__" (defArgs s_Nth___init) (defBody s_Nth___init) (defScope s_Nth___init) dVq10 kVq10 dcq10 pmq10 anq10 cdq10 ctq10), slq10⟩) (eq10 : PySem.W.codeIn K cdq10 "Nth.__init__" = true) (kq10 : PySem.W.keepIn K (.ref fq10) = true)
    (iq10 : PySem.W.isFn K (.ref fq10) = true)
    (vq10 : dVq10 = .ref tq10) (wq10 : K.lookup tq10 = some otq10) (xq10 : otq10.data = .seq #[.int 0 uq10_0, .int 1 uq10_1] ntq10)
    (aqd : PySem.W.findIn K (.ref x_Yearly) "day_in" = some (some (.ref fqd))) (lqd : K.lookup fqd = some ⟨ocqd, odqd, .func (PySem.W.fnOf "day_in" "Yearly.day_in" (defArgs s_Yearly_day_in) (defBody s_Yearly_day_in) (defScope s_Yearly_day_in) .none kVqd dcqd pmqd anqd cdqd ctqd), slqd⟩) (eqd : PySem.W.codeIn K cdqd "Yearly.day_in" = true) (kqd : PySem.W.keepIn K (.ref fqd) = true)
    (iqd : PySem.W.isFn K (.ref fqd) = true)
    (aqg : PySem.W.nsIn K mainGlobals "_law_some_day" = some (some (.ref fqg))) (lqg : K.lookup fqg = some ⟨ocqg, odqg, .func (PySem.W.fnOf "_law_some_day" "_law_some_day" (defArgs s_law_some_day) (defBody s_law_some_day) (defScope s_law_some_day) .none kVqg dcqg pmqg anqg cdqg ctqg), slqg⟩) (eqg : PySem.W.codeIn K cdqg "_law_some_day" = true) (kqg : PySem.W.keepIn K (.ref fqg) = true)
    (aqx : PySem.W.nsIn K mainGlobals "_law_simple" = some (some (.ref fqx))) (lqx : K.lookup fqx = some ⟨ocqx, odqx, .func (PySem.W.fnOf "_law_simple" "_law_simple" (defArgs s_law_simple) (defBody s_law_simple) (defScope s_law_simple) .none kVqx dcqx pmqx anqx cdqx ctqx), slqx⟩) (eqx : PySem.W.codeIn K cdqx "_law_simple" = true) (kqx : PySem.W.keepIn K (.ref fqx) = true)
    (aq9 : PySem.W.nsIn K mainGlobals "_law_months_off" = some (some (.ref fq9))) (lq9 : K.lookup fq9 = some ⟨ocq9, odq9, .func (PySem.W.fnOf "_law_months_off" "_law_months_off" (defArgs s_law_months_off) (defBody s_law_months_off) (defScope s_law_months_off) .none kVq9 dcq9 pmq9 anq9 cdq9 ctq9), slq9⟩) (eq9 : PySem.W.codeIn K cdq9 "_law_months_off" = true) (kq9 : PySem.W.keepIn K (.ref fq9) = true)
    (aq2 : PySem.W.findIn K (.ref x_ByMonth) "next_in" = some (some (.ref fq2))) (lq2 : K.lookup fq2 = some ⟨ocq2, odq2, .func (PySem.W.fnOf "next_in" "ByMonth.next_in" (defArgs s_ByMonth_next_in) (defBody s_ByMonth_next_in) (defScope s_ByMonth_next_in) dVq2 kVq2 dcq2 pmq2 anq2 cdq2 ctq2), slq2⟩) (eq2 : PySem.W.codeIn K cdq2 "ByMonth.next_in" = true) (kq2 : PySem.W.keepIn K (.ref fq2) = true)
    (iq2 : PySem.W.isFn K (.ref fq2) = true)
    (vq2 : dVq2 = .ref tq2) (wq2 : K.lookup tq2 = some otq2) (xq2 : otq2.data = .seq #[.int 0 uq2_0, .int 146097 uq2_1] ntq2)
    (aqb : PySem.W.findIn K (.ref x_Yearly) "__init__" = some (some (.ref fqb))) (lqb : K.lookup fqb = some ⟨ocqb, odqb, .func (PySem.W.fnOf "__init__" "Yearly.__init__" (defArgs s_Yearly___init) (defBody s_Yearly___init) (defScope s_Yearly___init) dVqb kVqb dcqb pmqb anqb cdqb ctqb), slqb⟩) (eqb : PySem.W.codeIn K cdqb "Yearly.__init__" = true) (kqb : PySem.W.keepIn K (.ref fqb) = true)
    (iqb : PySem.W.isFn K (.ref fqb) = true)
    (vqb : dVqb = .ref tqb) (wqb : K.lookup tqb = some otqb) (xqb : otqb.data = .seq #[.int 0 uqb_0, .int 1 uqb_1] ntqb)
    (aq14 : PySem.W.nsIn K mainGlobals "_law_plain" = some (some (.ref fq14))) (lq14 : K.lookup fq14 = some ⟨ocq14, odq14, .func (PySem.W.fnOf "_law_plain" "_law_plain" (defArgs s_law_plain) (defBody s_law_plain) (defScope s_law_plain) .none kVq14 dcq14 pmq14 anq14 cdq14 ctq14), slq14⟩) (eq14 : PySem.W.codeIn K cdq14 "_law_plain" = true) (kq14 : PySem.W.keepIn K (.ref fq14) = true)
    (aq3 : PySem.W.nsIn K mainGlobals "_law_days_alone" = some (some (.ref fq3))) (lq3 : K.lookup fq3 = some ⟨ocq3, odq3, .func (PySem.W.fnOf "_law_days_alone" "_law_days_alone" (defArgs s_law_days_alone) (defBody s_law_days_alone) (defScope s_law_days_alone) .none kVq3 dcq3 pmq3 anq3 cdq3 ctq3), slq3⟩) (eq3 : PySem.W.codeIn K cdq3 "_law_days_alone" = true) (kq3 : PySem.W.keepIn K (.ref fq3) = true)
    (aq1d : PySem.W.nsIn K mainGlobals "_law_soon" = some (some (.ref fq1d))) (lq1d : K.lookup fq1d = some ⟨ocq1d, odq1d, .func (PySem.W.fnOf "_law_soon" "_law_soon" (defArgs s_law_soon) (defBody s_law_soon) (defScope s_law_soon) .none kVq1d dcq1d pmq1d anq1d cdq1d ctq1d), slq1d⟩) (eq1d : PySem.W.codeIn K cdq1d "_law_soon" = true) (kq1d : PySem.W.keepIn K (.ref fq1d) = true)
    (aqj : PySem.W.nsIn K mainGlobals "_law_left_out" = some (some (.ref fqj))) (lqj : K.lookup fqj = some ⟨ocqj, odqj, .func (PySem.W.fnOf "_law_left_out" "_law_left_out" (defArgs s_law_left_out) (defBody s_law_left_out) (defScope s_law_left_out) .none kVqj dcqj pmqj anqj cdqj ctqj), slqj⟩) (eqj : PySem.W.codeIn K cdqj "_law_left_out" = true) (kqj : PySem.W.keepIn K (.ref fqj) = true)
    (aqi : PySem.W.nsIn K mainGlobals "_law_by_month" = some (some (.ref fqi))) (lqi : K.lookup fqi = some ⟨ocqi, odqi, .func (PySem.W.fnOf "_law_by_month" "_law_by_month" (defArgs s_law_by_month) (defBody s_law_by_month) (defScope s_law_by_month) .none kVqi dcqi pmqi anqi cdqi ctqi), slqi⟩) (eqi : PySem.W.codeIn K cdqi "_law_by_month" = true) (kqi : PySem.W.keepIn K (.ref fqi) = true)
    (aq1b : PySem.W.nsIn K mainGlobals "_law_rule" = some (some (.ref fq1b))) (lq1b : K.lookup fq1b = some ⟨ocq1b, odq1b, .func (PySem.W.fnOf "_law_rule" "_law_rule" (defArgs s_law_rule) (defBody s_law_rule) (defScope s_law_rule) .none kVq1b dcq1b pmq1b anq1b cdq1b ctq1b), slq1b⟩) (eq1b : PySem.W.codeIn K cdq1b "_law_rule" = true) (kq1b : PySem.W.keepIn K (.ref fq1b) = true)
    (aq1k : PySem.W.nsIn K mainGlobals "law" = some (some (.ref fq1k))) (lq1k : K.lookup fq1k = some ⟨ocq1k, odq1k, .func (PySem.W.fnOf "law" "law" (defArgs s_law) (defBody s_law) (defScope s_law) .none kVq1k dcq1k pmq1k anq1k cdq1k ctq1k), slq1k⟩) (eq1k : PySem.W.codeIn K cdq1k "law" = true) (kq1k : PySem.W.keepIn K (.ref fq1k) = true)
    (j_Monthly_next_in : PySem.W.findIn K (.ref x_Monthly) "next_in" = some (some (.ref fq2)))
    (j_Nth_next_in : PySem.W.findIn K (.ref x_Nth) "next_in" = some (some (.ref fq2)))
    (j_Yearly_next_in : PySem.W.findIn K (.ref x_Yearly) "next_in" = some (some (.ref fq2)))
    (g_DAYS : PySem.W.nsIn K mainGlobals "DAYS" = some (some (.int 146097 t_DAYS)))
    (g_DAYS_AHEAD : PySem.W.nsIn K mainGlobals "DAYS_AHEAD" = some (some (.ref c_DAYS_AHEAD))) (o_DAYS_AHEAD' : K.lookup c_DAYS_AHEAD = some o_DAYS_AHEAD) (p_DAYS_AHEAD : o_DAYS_AHEAD.cls = .type "tuple") (q_DAYS_AHEAD : o_DAYS_AHEAD.data = .seq #[.int 0 t_DAYS_AHEAD_0, .int 31 t_DAYS_AHEAD_1, .int 59 t_DAYS_AHEAD_2, .int 90 t_DAYS_AHEAD_3, .int 120 t_DAYS_AHEAD_4, .int 151 t_DAYS_AHEAD_5, .int 181 t_DAYS_AHEAD_6, .int 212 t_DAYS_AHEAD_7, .int 243 t_DAYS_AHEAD_8, .int 273 t_DAYS_AHEAD_9, .int 304 t_DAYS_AHEAD_10, .int 334 t_DAYS_AHEAD_11] n_DAYS_AHEAD)
    (g_FIRST_WEEKDAY : PySem.W.nsIn K mainGlobals "FIRST_WEEKDAY" = some (some (.int 5 t_FIRST_WEEKDAY)))
    (g_FIRST_YEAR : PySem.W.nsIn K mainGlobals "FIRST_YEAR" = some (some (.int 2000 t_FIRST_YEAR)))
    (g_LONG_YEAR : PySem.W.nsIn K mainGlobals "LONG_YEAR" = some (some (.int 2000 t_LONG_YEAR)))
    (g_MONTHS : PySem.W.nsIn K mainGlobals "MONTHS" = some (some (.int 4800 t_MONTHS)))
    (g_MONTH_LENGTHS : PySem.W.nsIn K mainGlobals "MONTH_LENGTHS" = some (some (.ref c_MONTH_LENGTHS))) (o_MONTH_LENGTHS' : K.lookup c_MONTH_LENGTHS = some o_MONTH_LENGTHS) (p_MONTH_LENGTHS : o_MONTH_LENGTHS.cls = .type "tuple") (q_MONTH_LENGTHS : o_MONTH_LENGTHS.data = .seq #[.int 31 t_MONTH_LENGTHS_0, .int 28 t_MONTH_LENGTHS_1, .int 31 t_MONTH_LENGTHS_2, .int 30 t_MONTH_LENGTHS_3, .int 31 t_MONTH_LENGTHS_4, .int 30 t_MONTH_LENGTHS_5, .int 31 t_MONTH_LENGTHS_6, .int 31 t_MONTH_LENGTHS_7, .int 30 t_MONTH_LENGTHS_8, .int 31 t_MONTH_LENGTHS_9, .int 30 t_MONTH_LENGTHS_10, .int 31 t_MONTH_LENGTHS_11] n_MONTH_LENGTHS)
    (g_MOST_EVERY : PySem.W.nsIn K mainGlobals "MOST_EVERY" = some (some (.int 1000 t_MOST_EVERY)))
    (cg_ByMonth : PySem.W.specialIn K (.ref x_ByMonth) "__getattribute__" = some (some (.builtin "type.__getattribute__"))) (cr_ByMonth : PySem.W.readsIn K x_ByMonth (.type "type") = true) (ca_ByMonth___init : PySem.W.findCls K (.ref x_ByMonth) (.type "type") "__init__" = some (.val (.ref fq8))) (ch_ByMonth___init : PySem.W.handedIn (.ref fq8) = true)
    (n_abs : PySem.W.nsIn K mainGlobals "abs" = some none)
    (n_bool : PySem.W.nsIn K mainGlobals "bool" = some none)
    (n_int : PySem.W.nsIn K mainGlobals "int" = some none)
    (n_isinstance : PySem.W.nsIn K mainGlobals "isinstance" = some none)
    (n_len : PySem.W.nsIn K mainGlobals "len" = some none)
    (n_max : PySem.W.nsIn K mainGlobals "max" = some none)
    (n_min : PySem.W.nsIn K mainGlobals "min" = some none)
    (n_range : PySem.W.nsIn K mainGlobals "range" = some none)
    (n_set : PySem.W.nsIn K mainGlobals "set" = some none)
    (n_sorted : PySem.W.nsIn K mainGlobals "sorted" = some none)
    (n_str : PySem.W.nsIn K mainGlobals "str" = some none)
    (n_sum : PySem.W.nsIn K mainGlobals "sum" = some none)
    (n_tuple : PySem.W.nsIn K mainGlobals "tuple" = some none)
    (cvq1b : cdq1b = .ref ccq1b) (lkq1b : K.lookup ccq1b = some ⟨u1q1b, u2q1b, .fields u3q1b, u4q1b⟩) (pvq1b : u3q1b[11]? = some (.ref ptq1b)) (npq1b : K.lookup ptq1b = none)
    (cvq3 : cdq3 = .ref ccq3) (lkq3 : K.lookup ccq3 = some ⟨u1q3, u2q3, .fields u3q3, u4q3⟩) (pvq3 : u3q3[11]? = some (.ref ptq3)) (npq3 : K.lookup ptq3 = none)
    (nq_tabs : (ptq1b == ptq3) = false) :
    ∃ a : Adr, Txt K mg a ∧ a.f_law = fq1k ∧ PySem.W.tabIn K "_law_rule" = some (a.cc_law_rule, a.pt_law_rule) ∧ K.lookup a.pt_law_rule = none ∧ PySem.W.tabIn K "_law_days_alone" = some (a.cc_law_days_alone, a.pt_law_days_alone) ∧ K.lookup a.pt_law_days_alone = none ∧ a.pt_law_rule ≠ a.pt_law_days_alone ∧ ∀ (s : Shared) (v : Value), BindsTo s a.d_law ⟨[v], []⟩ [("_law_script", v)] := by
  have Fq1j := fun_mk (st := s_is_day) lq1j eq1j kq1j
  have bq1j := Fq1j.binds (ps := ["number"]) fun _ _ _ _ _ _ us hl => by obtain ⟨_, rfl⟩ := L2.ex1 hl; exact rfl
  have Fq1g := fun_mk (st := s_is_leap) lq1g eq1g kq1g
  have bq1g := Fq1g.binds (ps := ["year"]) fun _ _ _ _ _ _ us hl => by obtain ⟨_, rfl⟩ := L2.ex1 hl; exact rfl
  have Fqu := fun_mk (st := s_year_begin) lqu equ kqu
  have bqu := Fqu.binds (ps := ["year"]) fun _ _ _ _ _ _ us hl => by obtain ⟨_, rfl⟩ := L2.ex1 hl; exact rfl
  have Fq1i := fun_mk (st := s_weekday) lq1i eq1i kq1i
  have bq1i := Fq1i.binds (ps := ["day"]) fun _ _ _ _ _ _ us hl => by obtain ⟨_, rfl⟩ := L2.ex1 hl; exact rfl
  have Fqh := fun_mk (st := s_check_bounds) lqh eqh kqh
  have bqh := Fqh.binds (ps := ["number", "least", "most"]) fun _ _ _ _ _ _ us hl => by obtain ⟨_, _, _, rfl⟩ := L2.ex3 hl; exact rfl
  have Fqs := fun_mk (st := s_count_below) lqs eqs kqs
  have bqs := Fqs.binds (ps := ["days", "number"]) fun _ _ _ _ _ _ us hl => by obtain ⟨_, _, rfl⟩ := L2.ex2 hl; exact rfl
  subst vqm
  have Fqm := funD_mk (st := s_Rule_next_in) lqm eqm kqm
  have bqm : Binds K (PySem.W.fnOf "next_in" "Rule.next_in" (defArgs s_Rule_next_in) (defBody s_Rule_next_in) (defScope s_Rule_next_in) (.ref tqm) kVqm dcqm pmqm anqm cdqm ctqm) ["self", "day", "end"] [] := fun s us KX hl => by obtain ⟨_, _, _, rfl⟩ := L2.ex3 (us := us) (by rw [List.append_nil] at hl; exact hl); exact BindsTo.of_defaults rfl (KX _ _ wqm) xqm rfl rfl
  subst vqa
  have Fqa := funD_mk (st := s_Every_next_in) lqa eqa kqa
  have bqa : Binds K (PySem.W.fnOf "next_in" "Every.next_in" (defArgs s_Every_next_in) (defBody s_Every_next_in) (defScope s_Every_next_in) (.ref tqa) kVqa dcqa pmqa anqa cdqa ctqa) ["self", "day", "end"] [] := fun s us KX hl => by obtain ⟨_, _, _, rfl⟩ := L2.ex3 (us := us) (by rw [List.append_nil] at hl; exact hl); exact BindsTo.of_defaults rfl (KX _ _ wqa) xqa rfl rfl
  have Fq8 := fun_mk (st := s_ByMonth___init) lq8 eq8 kq8
  have bq8 := Fq8.binds (ps := ["self", "origin", "stride", "first"]) fun _ _ _ _ _ _ us hl => by obtain ⟨_, _, _, _, rfl⟩ := L2.ex4 hl; exact rfl
  have Fqk := fun_mk (st := s_Where___init) lqk eqk kqk
  have bqk := Fqk.binds (ps := ["self", "test"]) fun _ _ _ _ _ _ us hl => by obtain ⟨_, _, rfl⟩ := L2.ex2 hl; exact rfl
  have Fqr := fun_mk (st := s_law_cell_at) lqr eqr kqr
  have bqr := Fqr.binds (ps := ["_law_script", "_law_k"]) fun _ _ _ _ _ _ us hl => by obtain ⟨_, _, rfl⟩ := L2.ex2 hl; exact rfl
  have Fq19 := fun_mk (st := s_law_next) lq19 eq19 kq19
  have bq19 := Fq19.binds (ps := ["_law_pick"]) fun _ _ _ _ _ _ us hl => by obtain ⟨_, rfl⟩ := L2.ex1 hl; exact rfl
  have Fq18 := fun_mk (st := s_law_leap) lq18 eq18 kq18
  have bq18 := Fq18.binds (ps := ["_law_year_here"]) fun _ _ _ _ _ _ us hl => by obtain ⟨_, rfl⟩ := L2.ex1 hl; exact rfl
  have Fq1c := fun_mk (st := s_law_year) lq1c eq1c kq1c
  have bq1c := Fq1c.binds (ps := ["_law_year_here"]) fun _ _ _ _ _ _ us hl => by obtain ⟨_, rfl⟩ := L2.ex1 hl; exact rfl
  have Fq15 := fun_mk (st := s_law_same) lq15 eq15 kq15
  have bq15 := Fq15.binds (ps := ["_law_found", "_law_due"]) fun _ _ _ _ _ _ us hl => by obtain ⟨_, _, rfl⟩ := L2.ex2 hl; exact rfl
  have Fq16 := fun_mk (st := s_law_near) lq16 eq16 kq16
  have bq16 := Fq16.binds (ps := ["_law_pick", "_law_base"]) fun _ _ _ _ _ _ us hl => by obtain ⟨_, _, rfl⟩ := L2.ex2 hl; exact rfl
  have Fq12 := fun_mk (st := s_law_often) lq12 eq12 kq12
  have bq12 := Fq12.binds (ps := ["_law_pick"]) fun _ _ _ _ _ _ us hl => by obtain ⟨_, rfl⟩ := L2.ex1 hl; exact rfl
  have Fqv := fun_mk (st := s_month_days) lqv eqv kqv
  have bqv := Fqv.binds (ps := ["year", "month"]) fun _ _ _ _ _ _ us hl => by obtain ⟨_, _, rfl⟩ := L2.ex2 hl; exact rfl
  have Fqn := fun_mk (st := s_month_begin) lqn eqn kqn
  have bqn := Fqn.binds (ps := ["number"]) fun _ _ _ _ _ _ us hl => by obtain ⟨_, rfl⟩ := L2.ex1 hl; exact rfl
  have Fq11 := fun_mk (st := s_check_day) lq11 eq11 kq11
  have bq11 := Fq11.binds (ps := ["number"]) fun _ _ _ _ _ _ us hl => by obtain ⟨_, rfl⟩ := L2.ex1 hl; exact rfl
  have Fq1h := fun_mk (st := s_week_of) lq1h eq1h kq1h
  have bq1h := Fq1h.binds (ps := ["day"]) fun _ _ _ _ _ _ us hl => by obtain ⟨_, rfl⟩ := L2.ex1 hl; exact rfl
  have Fqz := fun_mk (st := s_week_begin) lqz eqz kqz
  have bqz := Fqz.binds (ps := ["number"]) fun _ _ _ _ _ _ us hl => by obtain ⟨_, rfl⟩ := L2.ex1 hl; exact rfl
  have Fq0 := fun_mk (st := s_Weekly_has_weekday) lq0 eq0 kq0
  have bq0 := Fq0.binds (ps := ["self", "day"]) fun _ _ _ _ _ _ us hl => by obtain ⟨_, _, rfl⟩ := L2.ex2 hl; exact rfl
  subst vqf
  have Fqf := funD_mk (st := s_Days_next_in) lqf eqf kqf
  have bqf : Binds K (PySem.W.fnOf "next_in" "Days.next_in" (defArgs s_Days_next_in) (defBody s_Days_next_in) (defScope s_Days_next_in) (.ref tqf) kVqf dcqf pmqf anqf cdqf ctqf) ["self", "day", "end"] [] := fun s us KX hl => by obtain ⟨_, _, _, rfl⟩ := L2.ex3 (us := us) (by rw [List.append_nil] at hl; exact hl); exact BindsTo.of_defaults rfl (KX _ _ wqf) xqf rfl rfl
  have Fq4 := fun_mk (st := s_Where_falls_on) lq4 eq4 kq4
  have bq4 := Fq4.binds (ps := ["self", "day"]) fun _ _ _ _ _ _ us hl => by obtain ⟨_, _, rfl⟩ := L2.ex2 hl; exact rfl
  have Fqy := fun_mk (st := s_law_length) lqy eqy kqy
  have bqy := Fqy.binds (ps := ["_law_year_here", "_law_month"]) fun _ _ _ _ _ _ us hl => by obtain ⟨_, _, rfl⟩ := L2.ex2 hl; exact rfl
  have Fq13 := fun_mk (st := s_law_first) lq13 eq13 kq13
  have bq13 := Fq13.binds (ps := ["_law_pick", "_law_base"]) fun _ _ _ _ _ _ us hl => by obtain ⟨_, _, rfl⟩ := L2.ex2 hl; exact rfl
  have Fq17 := fun_mk (st := s_month_of) lq17 eq17 kq17
  have bq17 := Fq17.binds (ps := ["day"]) fun _ _ _ _ _ _ us hl => by obtain ⟨_, rfl⟩ := L2.ex1 hl; exact rfl
  have Fqq := fun_mk (st := s_check_every) lqq eqq kqq
  have bqq := Fqq.binds (ps := ["first", "every"]) fun _ _ _ _ _ _ us hl => by obtain ⟨_, _, rfl⟩ := L2.ex2 hl; exact rfl
  have Fqo := fun_mk (st := s_day_of_date) lqo eqo kqo
  have bqo := Fqo.binds (ps := ["number", "date"]) fun _ _ _ _ _ _ us hl => by obtain ⟨_, _, rfl⟩ := L2.ex2 hl; exact rfl
  have Fqw := fun_mk (st := s_day_of_nth) lqw eqw kqw
  have bqw := Fqw.binds (ps := ["number", "which", "weekday_of"]) fun _ _ _ _ _ _ us hl => by obtain ⟨_, _, _, rfl⟩ := L2.ex3 hl; exact rfl
  subst vql
  have Fql := funD_mk (st := s_Every___init) lql eql kql
  have bql : Binds K (PySem.W.fnOf "__init__" "Every.__init__" (defArgs s_Every___init) (defBody s_Every___init) (defScope s_Every___init) (.ref tql) kVql dcql pmql anql cdql ctql) ["self", "step", "first"] [] := fun s us KX hl => by obtain ⟨_, _, _, rfl⟩ := L2.ex3 (us := us) (by rw [List.append_nil] at hl; exact hl); exact BindsTo.of_defaults rfl (KX _ _ wql) xql rfl rfl
  have Fq1 := fun_mk (st := s_Weekly_weeks_over) lq1 eq1 kq1
  have bq1 := Fq1.binds (ps := ["self", "day"]) fun _ _ _ _ _ _ us hl => by obtain ⟨_, _, rfl⟩ := L2.ex2 hl; exact rfl
  have Fqp := fun_mk (st := s_Days___init) lqp eqp kqp
  have bqp := Fqp.binds (ps := ["self", "days"]) fun _ _ _ _ _ _ us hl => by obtain ⟨_, _, rfl⟩ := L2.ex2 hl; exact rfl
  subst vqc
  have Fqc := funD_mk (st := s_Where_next_in) lqc eqc kqc
  have bqc : Binds K (PySem.W.fnOf "next_in" "Where.next_in" (defArgs s_Where_next_in) (defBody s_Where_next_in) (defScope s_Where_next_in) (.ref tqc) kVqc dcqc pmqc anqc cdqc ctqc) ["self", "day", "end"] [] := fun s us KX hl => by obtain ⟨_, _, _, rfl⟩ := L2.ex3 (us := us) (by rw [List.append_nil] at hl; exact hl); exact BindsTo.of_defaults rfl (KX _ _ wqc) xqc rfl rfl
  have Fq1a := fun_mk (st := s_law_date) lq1a eq1a kq1a
  have bq1a := Fq1a.binds (ps := ["_law_day_here"]) fun _ _ _ _ _ _ us hl => by obtain ⟨_, rfl⟩ := L2.ex1 hl; exact rfl
  have Fq1e := fun_mk (st := s_law_day) lq1e eq1e kq1e
  have bq1e := Fq1e.binds (ps := ["_law_year_here", "_law_month", "_law_date_here"]) fun _ _ _ _ _ _ us hl => by obtain ⟨_, _, _, rfl⟩ := L2.ex3 hl; exact rfl
  have Fq1f := fun_mk (st := s_date_of) lq1f eq1f kq1f
  have bq1f := Fq1f.binds (ps := ["day"]) fun _ _ _ _ _ _ us hl => by obtain ⟨_, rfl⟩ := L2.ex1 hl; exact rfl
  subst vq5
  have Fq5 := funD_mk (st := s_Weekly_next_in) lq5 eq5 kq5
  have bq5 : Binds K (PySem.W.fnOf "next_in" "Weekly.next_in" (defArgs s_Weekly_next_in) (defBody s_Weekly_next_in) (defScope s_Weekly_next_in) (.ref tq5) kVq5 dcq5 pmq5 anq5 cdq5 ctq5) ["self", "day", "end"] [] := fun s us KX hl => by obtain ⟨_, _, _, rfl⟩ := L2.ex3 (us := us) (by rw [List.append_nil] at hl; exact hl); exact BindsTo.of_defaults rfl (KX _ _ wq5) xq5 rfl rfl
  subst vqe
  have Fqe := funD_mk (st := s_Weekly___init) lqe eqe kqe
  have bqe : Binds K (PySem.W.fnOf "__init__" "Weekly.__init__" (defArgs s_Weekly___init) (defBody s_Weekly___init) (defScope s_Weekly___init) (.ref tqe) kVqe dcqe pmqe anqe cdqe ctqe) ["self", "mask", "first", "every"] [] := fun s us KX hl => by obtain ⟨_, _, _, _, rfl⟩ := L2.ex4 (us := us) (by rw [List.append_nil] at hl; exact hl); exact BindsTo.of_defaults rfl (KX _ _ wqe) xqe rfl rfl
  have Fq7 := fun_mk (st := s_Monthly_day_in) lq7 eq7 kq7
  have bq7 := Fq7.binds (ps := ["self", "number"]) fun _ _ _ _ _ _ us hl => by obtain ⟨_, _, rfl⟩ := L2.ex2 hl; exact rfl
  subst vq6
  have Fq6 := funD_mk (st := s_Monthly___init) lq6 eq6 kq6
  have bq6 : Binds K (PySem.W.fnOf "__init__" "Monthly.__init__" (defArgs s_Monthly___init) (defBody s_Monthly___init) (defScope s_Monthly___init) (.ref tq6) kVq6 dcq6 pmq6 anq6 cdq6 ctq6) ["self", "date", "first", "every"] [] := fun s us KX hl => by obtain ⟨_, _, _, _, rfl⟩ := L2.ex4 (us := us) (by rw [List.append_nil] at hl; exact hl); exact BindsTo.of_defaults rfl (KX _ _ wq6) xq6 rfl rfl
  have Fqt := fun_mk (st := s_Nth_day_in) lqt eqt kqt
  have bqt := Fqt.binds (ps := ["self", "number"]) fun _ _ _ _ _ _ us hl => by obtain ⟨_, _, rfl⟩ := L2.ex2 hl; exact rfl
  subst vq10
  have Fq10 := funD_mk (st := s_Nth___init) lq10 eq10 kq10
  have bq10 : Binds K (PySem.W.fnOf "__init__" "Nth.__init__" (defArgs s_Nth___init) (defBody s_Nth___init) (defScope s_Nth___init) (.ref tq10) kVq10 dcq10 pmq10 anq10 cdq10 ctq10) ["self", "which", "weekday_of", "first", "every"] [] := fun s us KX hl => by obtain ⟨_, _, _, _, _, rfl⟩ := L2.ex5 (us := us) (by rw [List.append_nil] at hl; exact hl); exact BindsTo.of_defaults rfl (KX _ _ wq10) xq10 rfl rfl
  have Fqd := fun_mk (st := s_Yearly_day_in) lqd eqd kqd
  have bqd := Fqd.binds (ps := ["self", "number"]) fun _ _ _ _ _ _ us hl => by obtain ⟨_, _, rfl⟩ := L2.ex2 hl; exact rfl
  have Fqg := fun_mk (st := s_law_some_day) lqg eqg kqg
  have bqg := Fqg.binds (ps := ["_law_cell"]) fun _ _ _ _ _ _ us hl => by obtain ⟨_, rfl⟩ := L2.ex1 hl; exact rfl
  have Fqx := fun_mk (st := s_law_simple) lqx eqx kqx
  have bqx := Fqx.binds (ps := ["_law_pick", "_law_base"]) fun _ _ _ _ _ _ us hl => by obtain ⟨_, _, rfl⟩ := L2.ex2 hl; exact rfl
  have Fq9 := fun_mk (st := s_law_months_off) lq9 eq9 kq9
  have bq9 := Fq9.binds (ps := ["_law_day_here", "_law_date_here", "_law_first_here", "_law_often_here"]) fun _ _ _ _ _ _ us hl => by obtain ⟨_, _, _, _, rfl⟩ := L2.ex4 hl; exact rfl
  subst vq2
  have Fq2 := funD_mk (st := s_ByMonth_next_in) lq2 eq2 kq2
  have bq2 : Binds K (PySem.W.fnOf "next_in" "ByMonth.next_in" (defArgs s_ByMonth_next_in) (defBody s_ByMonth_next_in) (defScope s_ByMonth_next_in) (.ref tq2) kVq2 dcq2 pmq2 anq2 cdq2 ctq2) ["self", "day", "end"] [] := fun s us KX hl => by obtain ⟨_, _, _, rfl⟩ := L2.ex3 (us := us) (by rw [List.append_nil] at hl; exact hl); exact BindsTo.of_defaults rfl (KX _ _ wq2) xq2 rfl rfl
  subst vqb
  have Fqb := funD_mk (st := s_Yearly___init) lqb eqb kqb
  have bqb : Binds K (PySem.W.fnOf "__init__" "Yearly.__init__" (defArgs s_Yearly___init) (defBody s_Yearly___init) (defScope s_Yearly___init) (.ref tqb) kVqb dcqb pmqb anqb cdqb ctqb) ["self", "month", "date", "first", "every"] [] := fun s us KX hl => by obtain ⟨_, _, _, _, _, rfl⟩ := L2.ex5 (us := us) (by rw [List.append_nil] at hl; exact hl); exact BindsTo.of_defaults rfl (KX _ _ wqb) xqb rfl rfl
  have Fq14 := fun_mk (st := s_law_plain) lq14 eq14 kq14
  have bq14 := Fq14.binds (ps := ["_law_rule_here", "_law_day_here", "_law_date_here"]) fun _ _ _ _ _ _ us hl => by obtain ⟨_, _, _, rfl⟩ := L2.ex3 hl; exact rfl
  have Fq3 := fun_mk (st := s_law_days_alone) lq3 eq3 kq3
  have bq3 := Fq3.binds (ps := ["_law_cell"]) fun _ _ _ _ _ _ us hl => by obtain ⟨_, rfl⟩ := L2.ex1 hl; exact rfl
  have Fq1d := fun_mk (st := s_law_soon) lq1d eq1d kq1d
  have bq1d := Fq1d.binds (ps := ["_law_rule_here", "_law_begin", "_law_end"]) fun _ _ _ _ _ _ us hl => by obtain ⟨_, _, _, rfl⟩ := L2.ex3 hl; exact rfl
  have Fqj := fun_mk (st := s_law_left_out) lqj eqj kqj
  have bqj := Fqj.binds (ps := ["_law_cell"]) fun _ _ _ _ _ _ us hl => by obtain ⟨_, rfl⟩ := L2.ex1 hl; exact rfl
  have Fqi := fun_mk (st := s_law_by_month) lqi eqi kqi
  have bqi := Fqi.binds (ps := ["_law_tree", "_law_short"]) fun _ _ _ _ _ _ us hl => by obtain ⟨_, _, rfl⟩ := L2.ex2 hl; exact rfl
  have Fq1b := fun_mk (st := s_law_rule) lq1b eq1b kq1b
  have bq1b := Fq1b.binds (ps := ["_law_tree", "_law_short"]) fun _ _ _ _ _ _ us hl => by obtain ⟨_, _, rfl⟩ := L2.ex2 hl; exact rfl
  have Fq1k := fun_mk (st := s_law) lq1k eq1k kq1k
  have bq1k := Fq1k.binds (ps := ["_law_script"]) fun _ _ _ _ _ _ us hl => by obtain ⟨_, rfl⟩ := L2.ex1 hl; exact rfl
  exact ⟨{ f_is_day := fq1j, d_is_day := _, f_is_leap := fq1g, d_is_leap := _, f_year_begin := fqu, d_year_begin := _, f_weekday := fq1i, d_weekday := _, f_check_bounds := fqh, d_check_bounds := _, f_count_below := fqs, d_count_below := _, f_Rule_next_in := fqm, d_Rule_next_in := _, f_Every_next_in := fqa, d_Every_next_in := _, f_ByMonth___init := fq8, d_ByMonth___init := _, f_Where___init := fqk, d_Where___init := _, f_law_cell_at := fqr, d_law_cell_at := _, f_law_next := fq19, d_law_next := _, f_law_leap := fq18, d_law_leap := _, f_law_year := fq1c, d_law_year := _, f_law_same := fq15, d_law_same := _, f_law_near := fq16, d_law_near := _, f_law_often := fq12, d_law_often := _, f_month_days := fqv, d_month_days := _, f_month_begin := fqn, d_month_begin := _, f_check_day := fq11, d_check_day := _, f_week_of := fq1h, d_week_of := _, f_week_begin := fqz, d_week_begin := _, f_Weekly_has_weekday := fq0, d_Weekly_has_weekday := _, f_Days_next_in := fqf, d_Days_next_in := _, f_Where_falls_on := fq4, d_Where_falls_on := _, f_law_length := fqy, d_law_length := _, f_law_first := fq13, d_law_first := _, f_month_of := fq17, d_month_of := _, f_check_every := fqq, d_check_every := _, f_day_of_date := fqo, d_day_of_date := _, f_day_of_nth := fqw, d_day_of_nth := _, f_Every___init := fql, d_Every___init := _, f_Weekly_weeks_over := fq1, d_Weekly_weeks_over := _, f_Days___init := fqp, d_Days___init := _, f_Where_next_in := fqc, d_Where_next_in := _, f_law_date := fq1a, d_law_date := _, f_law_day := fq1e, d_law_day := _, f_date_of := fq1f, d_date_of := _, f_Weekly_next_in := fq5, d_Weekly_next_in := _, f_Weekly___init := fqe, d_Weekly___init := _, f_Monthly_day_in := fq7, d_Monthly_day_in := _, f_Monthly___init := fq6, d_Monthly___init := _, f_Nth_day_in := fqt, d_Nth_day_in := _, f_Nth___init := fq10, d_Nth___init := _, f_Yearly_day_in := fqd, d_Yearly_day_in := _, f_law_some_day := fqg, d_law_some_day := _, f_law_simple := fqx, d_law_simple := _, f_law_months_off := fq9, d_law_months_off := _, f_ByMonth_next_in := fq2, d_ByMonth_next_in := _, f_Yearly___init := fqb, d_Yearly___init := _, f_law_plain := fq14, d_law_plain := _, f_law_days_alone := fq3, d_law_days_alone := _, f_law_soon := fq1d, d_law_soon := _, f_law_left_out := fqj, d_law_left_out := _, f_law_by_month := fqi, d_law_by_month := _, f_law_rule := fq1b, d_law_rule := _, f_law := fq1k, d_law := _, c_DAYS_AHEAD := c_DAYS_AHEAD, c_MONTH_LENGTHS := c_MONTH_LENGTHS, x_ByMonth := x_ByMonth, x_Days := x_Days, x_Every := x_Every, x_Monthly := x_Monthly, x_Nth := x_Nth, x_Rule := x_Rule, x_Weekly := x_Weekly, x_Where := x_Where, x_Yearly := x_Yearly, cc_law_rule := ccq1b, pt_law_rule := ptq1b, cc_law_days_alone := ccq3, pt_law_days_alone := ptq3 }, ⟨Fq1j, PySem.W.mg_of X G aq1j, bq1j, Fq1g, PySem.W.mg_of X G aq1g, bq1g, Fqu, PySem.W.mg_of X G aqu, bqu, Fq1i, PySem.W.mg_of X G aq1i, bq1i, Fqh, PySem.W.mg_of X G aqh, bqh, Fqs, PySem.W.mg_of X G aqs, bqs, Fqm, bqm, ⟨[.int 0 uqm_0, .int 146097 uqm_1], (fun s us KX hl => match us, (show us.length = 1 by rw [List.length_append] at hl; simpa using hl) with | [_], _ => BindsTo.of_defaults rfl (KX _ _ wqm) xqm rfl rfl), (.cons (⟨_, rfl⟩) (.cons (⟨_, rfl⟩) .nil))⟩, Fqa, bqa, ⟨[.int 146097 uqa_1], (fun s us KX hl => match us, (show us.length = 2 by rw [List.length_append] at hl; simpa using hl) with | [_, _], _ => BindsTo.of_defaults rfl (KX _ _ wqa) xqa rfl rfl), (.cons (⟨_, rfl⟩) .nil)⟩, ⟨[.int 0 uqa_0, .int 146097 uqa_1], (fun s us KX hl => match us, (show us.length = 1 by rw [List.length_append] at hl; simpa using hl) with | [_], _ => BindsTo.of_defaults rfl (KX _ _ wqa) xqa rfl rfl), (.cons (⟨_, rfl⟩) (.cons (⟨_, rfl⟩) .nil))⟩, Fq8, bq8, Fqk, bqk, Fqr, PySem.W.mg_of X G aqr, bqr, Fq19, PySem.W.mg_of X G aq19, bq19, Fq18, PySem.W.mg_of X G aq18, bq18, Fq1c, PySem.W.mg_of X G aq1c, bq1c, Fq15, PySem.W.mg_of X G aq15, bq15, Fq16, PySem.W.mg_of X G aq16, bq16, Fq12, PySem.W.mg_of X G aq12, bq12, Fqv, PySem.W.mg_of X G aqv, bqv, Fqn, PySem.W.mg_of X G aqn, bqn, Fq11, PySem.W.mg_of X G aq11, bq11, Fq1h, PySem.W.mg_of X G aq1h, bq1h, Fqz, PySem.W.mg_of X G aqz, bqz, Fq0, bq0, Fqf, bqf, ⟨[.int 0 uqf_0, .int 146097 uqf_1], (fun s us KX hl => match us, (show us.length = 1 by rw [List.length_append] at hl; simpa using hl) with | [_], _ => BindsTo.of_defaults rfl (KX _ _ wqf) xqf rfl rfl), (.cons (⟨_, rfl⟩) (.cons (⟨_, rfl⟩) .nil))⟩, Fq4, bq4, Fqy, PySem.W.mg_of X G aqy, bqy, Fq13, PySem.W.mg_of X G aq13, bq13, Fq17, PySem.W.mg_of X G aq17, bq17, Fqq, PySem.W.mg_of X G aqq, bqq, Fqo, PySem.W.mg_of X G aqo, bqo, Fqw, PySem.W.mg_of X G aqw, bqw, Fql, bql, ⟨[.int 0 uql_0], (fun s us KX hl => match us, (show us.length = 2 by rw [List.length_append] at hl; simpa using hl) with | [_, _], _ => BindsTo.of_defaults rfl (KX _ _ wql) xql rfl rfl), (.cons (⟨_, rfl⟩) .nil)⟩, Fq1, bq1, Fqp, bqp, Fqc, bqc, Fq1a, PySem.W.mg_of X G aq1a, bq1a, Fq1e, PySem.W.mg_of X G aq1e, bq1e, Fq1f, PySem.W.mg_of X G aq1f, bq1f, Fq5, bq5, ⟨[.int 146097 uq5_1], (fun s us KX hl => match us, (show us.length = 2 by rw [List.length_append] at hl; simpa using hl) with | [_, _], _ => BindsTo.of_defaults rfl (KX _ _ wq5) xq5 rfl rfl), (.cons (⟨_, rfl⟩) .nil)⟩, Fqe, bqe, ⟨[.int 1 uqe_1], (fun s us KX hl => match us, (show us.length = 3 by rw [List.length_append] at hl; simpa using hl) with | [_, _, _], _ => BindsTo.of_defaults rfl (KX _ _ wqe) xqe rfl rfl), (.cons (⟨_, rfl⟩) .nil)⟩, ⟨[.int 0 uqe_0, .int 1 uqe_1], (fun s us KX hl => match us, (show us.length = 2 by rw [List.length_append] at hl; simpa using hl) with | [_, _], _ => BindsTo.of_defaults rfl (KX _ _ wqe) xqe rfl rfl), (.cons (⟨_, rfl⟩) (.cons (⟨_, rfl⟩) .nil))⟩, Fq7, bq7, Fq6, bq6, ⟨[.int 1 uq6_1], (fun s us KX hl => match us, (show us.length = 3 by rw [List.length_append] at hl; simpa using hl) with | [_, _, _], _ => BindsTo.of_defaults rfl (KX _ _ wq6) xq6 rfl rfl), (.cons (⟨_, rfl⟩) .nil)⟩, ⟨[.int 0 uq6_0, .int 1 uq6_1], (fun s us KX hl => match us, (show us.length = 2 by rw [List.length_append] at hl; simpa using hl) with | [_, _], _ => BindsTo.of_defaults rfl (KX _ _ wq6) xq6 rfl rfl), (.cons (⟨_, rfl⟩) (.cons (⟨_, rfl⟩) .nil))⟩, Fqt, bqt, Fq10, bq10, ⟨[.int 1 uq10_1], (fun s us KX hl => match us, (show us.length = 4 by rw [List.length_append] at hl; simpa using hl) with | [_, _, _, _], _ => BindsTo.of_defaults rfl (KX _ _ wq10) xq10 rfl rfl), (.cons (⟨_, rfl⟩) .nil)⟩, ⟨[.int 0 uq10_0, .int 1 uq10_1], (fun s us KX hl => match us, (show us.length = 3 by rw [List.length_append] at hl; simpa using hl) with | [_, _, _], _ => BindsTo.of_defaults rfl (KX _ _ wq10) xq10 rfl rfl), (.cons (⟨_, rfl⟩) (.cons (⟨_, rfl⟩) .nil))⟩, Fqd, bqd, Fqg, PySem.W.mg_of X G aqg, bqg, Fqx, PySem.W.mg_of X G aqx, bqx, Fq9, PySem.W.mg_of X G aq9, bq9, Fq2, bq2, Fqb, bqb, ⟨[.int 1 uqb_1], (fun s us KX hl => match us, (show us.length = 4 by rw [List.length_append] at hl; simpa using hl) with | [_, _, _, _], _ => BindsTo.of_defaults rfl (KX _ _ wqb) xqb rfl rfl), (.cons (⟨_, rfl⟩) .nil)⟩, ⟨[.int 0 uqb_0, .int 1 uqb_1], (fun s us KX hl => match us, (show us.length = 3 by rw [List.length_append] at hl; simpa using hl) with | [_, _, _], _ => BindsTo.of_defaults rfl (KX _ _ wqb) xqb rfl rfl), (.cons (⟨_, rfl⟩) (.cons (⟨_, rfl⟩) .nil))⟩, Fq14, PySem.W.mg_of X G aq14, bq14, Fq3, PySem.W.mg_of X G aq3, bq3, Fq1d, PySem.W.mg_of X G aq1d, bq1d, Fqj, PySem.W.mg_of X G aqj, bqj, Fqi, PySem.W.mg_of X G aqi, bqi, Fq1b, PySem.W.mg_of X G aq1b, bq1b, Fq1k, PySem.W.mg_of X G aq1k, bq1k, ⟨_, PySem.W.mg_of X G g_DAYS⟩, PySem.W.mg_of X G g_DAYS_AHEAD, fun H => .inr ⟨_, _, _, o_DAYS_AHEAD', p_DAYS_AHEAD, q_DAYS_AHEAD, (by show 12 ≤ sizeLine; decide), (.cons ⟨_, rfl⟩ (.cons ⟨_, rfl⟩ (.cons ⟨_, rfl⟩ (.cons ⟨_, rfl⟩ (.cons ⟨_, rfl⟩ (.cons ⟨_, rfl⟩ (.cons ⟨_, rfl⟩ (.cons ⟨_, rfl⟩ (.cons ⟨_, rfl⟩ (.cons ⟨_, rfl⟩ (.cons ⟨_, rfl⟩ (.cons ⟨_, rfl⟩ .nil))))))))))))⟩, ⟨_, PySem.W.mg_of X G g_FIRST_WEEKDAY⟩, ⟨_, PySem.W.mg_of X G g_FIRST_YEAR⟩, ⟨_, PySem.W.mg_of X G g_LONG_YEAR⟩, ⟨_, PySem.W.mg_of X G g_MONTHS⟩, PySem.W.mg_of X G g_MONTH_LENGTHS, fun H => .inr ⟨_, _, _, o_MONTH_LENGTHS', p_MONTH_LENGTHS, q_MONTH_LENGTHS, (by show 12 ≤ sizeLine; decide), (.cons ⟨_, rfl⟩ (.cons ⟨_, rfl⟩ (.cons ⟨_, rfl⟩ (.cons ⟨_, rfl⟩ (.cons ⟨_, rfl⟩ (.cons ⟨_, rfl⟩ (.cons ⟨_, rfl⟩ (.cons ⟨_, rfl⟩ (.cons ⟨_, rfl⟩ (.cons ⟨_, rfl⟩ (.cons ⟨_, rfl⟩ (.cons ⟨_, rfl⟩ .nil))))))))))))⟩, ⟨_, PySem.W.mg_of X G g_MOST_EVERY⟩, ⟨cg_ByMonth, cr_ByMonth, ca_ByMonth___init, ch_ByMonth___init, kq8⟩, PySem.W.mg_of X G aC_ByMonth, ⟨pg_ByMonth, hd_ByMonth, po_ByMonth, sa_ByMonth⟩, ⟨mk_ByMonth, aq8, iq8, kc_ByMonth⟩, nf_origin_ByMonth, nf_stride_ByMonth, nf_first_ByMonth, PySem.W.mg_of X G aC_Days, ⟨pg_Days, hd_Days, po_Days, sa_Days⟩, ⟨mk_Days, aqp, iqp, kc_Days⟩, nf_days_Days, ⟨aqf, iqf, kqf⟩, PySem.W.mg_of X G aC_Every, ⟨pg_Every, hd_Every, po_Every, sa_Every⟩, ⟨mk_Every, aql, iql, kc_Every⟩, nf_step_Every, nf_first_Every, ⟨aqa, iqa, kqa⟩, PySem.W.mg_of X G aC_Monthly, ⟨pg_Monthly, hd_Monthly, po_Monthly, sa_Monthly⟩, ⟨mk_Monthly, aq6, iq6, kc_Monthly⟩, nf_date_Monthly, nf_every_Monthly, nf_origin_Monthly, nf_stride_Monthly, nf_first_Monthly, ⟨aq7, iq7, kq7⟩, ⟨j_Monthly_next_in, iq2, kq2⟩, PySem.W.mg_of X G aC_Nth, ⟨pg_Nth, hd_Nth, po_Nth, sa_Nth⟩, ⟨mk_Nth, aq10, iq10, kc_Nth⟩, nf_which_Nth, nf_weekday_of_Nth, nf_every_Nth, nf_origin_Nth, nf_stride_Nth, nf_first_Nth, ⟨aqt, iqt, kqt⟩, ⟨j_Nth_next_in, iq2, kq2⟩, PySem.W.mg_of X G aC_Rule, ⟨pg_Rule, hd_Rule, po_Rule, sa_Rule⟩, ⟨mk_Rule, oi_Rule, kc_Rule⟩, ⟨aqm, iqm, kqm⟩, PySem.W.mg_of X G aC_Weekly, ⟨pg_Weekly, hd_Weekly, po_Weekly, sa_Weekly⟩, ⟨mk_Weekly, aqe, iqe, kc_Weekly⟩, nf_mask_Weekly, nf_first_Weekly, nf_every_Weekly, ⟨aq0, iq0, kq0⟩, ⟨aq5, iq5, kq5⟩, ⟨aq1, iq1, kq1⟩, PySem.W.mg_of X G aC_Where, ⟨pg_Where, hd_Where, po_Where, sa_Where⟩, ⟨mk_Where, aqk, iqk, kc_Where⟩, nf_test_Where, ⟨aq4, iq4, kq4⟩, ⟨aqc, iqc, kqc⟩, PySem.W.mg_of X G aC_Yearly, ⟨pg_Yearly, hd_Yearly, po_Yearly, sa_Yearly⟩, ⟨mk_Yearly, aqb, iqb, kc_Yearly⟩, nf_month_Yearly, nf_date_Yearly, nf_every_Yearly, nf_origin_Yearly, nf_stride_Yearly, nf_first_Yearly, ⟨aqd, iqd, kqd⟩, ⟨j_Yearly_next_in, iq2, kq2⟩, PySem.W.mg_none_of X G n_abs, PySem.W.mg_none_of X G n_bool, PySem.W.mg_none_of X G n_int, PySem.W.mg_none_of X G n_isinstance, PySem.W.mg_none_of X G n_len, PySem.W.mg_none_of X G n_max, PySem.W.mg_none_of X G n_min, PySem.W.mg_none_of X G n_range, PySem.W.mg_none_of X G n_set, PySem.W.mg_none_of X G n_sorted, PySem.W.mg_none_of X G n_str, PySem.W.mg_none_of X G n_sum, PySem.W.mg_none_of X G n_tuple, codeRef_of lq1b cvq1b, codeRef_of lq3 cvq3⟩, rfl, tabIn_of aq1b lq1b cvq1b lkq1b pvq1b, npq1b, tabIn_of aq3 lq3 cvq3 lkq3 pvq3, npq3, (fun e => by have e2 := nq_tabs; rw [beq_eq_false_iff_ne] at e2; exact e2 e), fun s v => .of_eq rfl⟩
end K12
namespace K12
open PySem L2
theorem walk {l : PySem.W.OpenLaw} {q : Program} {loose : List Str} {XP : (Str → Option Value) → Heap → Prop} {YP : World → Heap → Prop} {d : DefRec} {K : Params → PySem.W.Frag} (hn : l.most = some 63) (hdf : d.params.defaults = [])
    (hY : ∀ (w : World) (h : Heap), YP w h → (K w.params).In h) (hrec : ∀ y ∈ (["_law_rule", "_law_days_alone"] : List Str), ((PyProof.Rows.recsOf q).find? (fun e => e.name == y)).isSome = true)
    (F : ∀ (w : World) (mg : Str → Option Value) (fa : Addr) (h : Heap), (K w.params).In h → h.Ns mainGlobals mg → mg d.name = some (.ref fa) →
      ∃ (fd : FuncData) (ts : List (Addr × Addr)), (∀ t ∈ ts, (∃ y ∈ (["_law_rule", "_law_days_alone"] : List Str), PySem.W.tabIn (K w.params) y = some t) ∧ (K w.params).lookup t.2 = none) ∧ (∀ (s : Shared) (u : Value), BindsTo s fd ⟨[u], []⟩ [("_law_script", u)]) ∧ ∀ base : Heap, (K w.params).In base → base.Ns mainGlobals mg → (∀ t ∈ ts, MkL mg base t.1 t.2) → FnOk l.prog w (K w.params) mg base CX0 true 11 fa fd ["_law_script"] (sp_law (K w.params) ts)) :
    PySem.W.WalkO q loose XP YP l.row.toRowW d [] (fun f vs => PySem.call f vs) :=
  L2.walk_ofTs (cm := true) (n := 63) (k := 11) (x := "_law_script") (ys := ["_law_rule", "_law_days_alone"]) (CX := fun _ => CX0) (sp := fun w ts => sp_law (K w.params) ts) hn (by decide) hdf ⟨fun _ => rfl, by decide, by decide⟩ hY hrec F (fun _ _ a ts ns hl _ hT hS => ⟨a, ns, rfl, hS, hl, hT, fun _ => rfl⟩) fun _ _ _ _ _ z => z
theorem all_ok {l : PySem.W.OpenLaw} {w : World} {K : PySem.W.Frag} {mg : Str → Option Value} {fa f : Addr} (hfa : mg "law" = some (.ref fa))
    (h : ∃ a : Adr, Txt K mg a ∧ a.f_law = f ∧ PySem.W.tabIn K "_law_rule" = some (a.cc_law_rule, a.pt_law_rule) ∧ K.lookup a.pt_law_rule = none ∧ PySem.W.tabIn K "_law_days_alone" = some (a.cc_law_days_alone, a.pt_law_days_alone) ∧ K.lookup a.pt_law_days_alone = none ∧ a.pt_law_rule ≠ a.pt_law_days_alone ∧ ∀ (s : Shared) (v : Value), BindsTo s a.d_law ⟨[v], []⟩ [("_law_script", v)]) :
    ∃ (fd : FuncData) (ts : List (Addr × Addr)), (∀ t ∈ ts, (∃ y ∈ (["_law_rule", "_law_days_alone"] : List Str), PySem.W.tabIn K y = some t) ∧ K.lookup t.2 = none) ∧ (∀ (s : Shared) (u : Value), BindsTo s fd ⟨[u], []⟩ [("_law_script", u)]) ∧ ∀ base : Heap, K.In base → base.Ns mainGlobals mg → (∀ t ∈ ts, MkL mg base t.1 t.2) → FnOk l.prog w K mg base CX0 true 11 fa fd ["_law_script"] (sp_law K ts) := by
  obtain ⟨a, T, _, h1, h2, h3, h4, ne, hb⟩ := h
  have e := T.m_law
  rw [hfa] at e
  cases e
  refine ⟨a.d_law, [(a.cc_law_rule, a.pt_law_rule), (a.cc_law_days_alone, a.pt_law_days_alone)], fun t ht => ?_, hb, fun base _ _ M => ok_law ⟨T, M _ (List.mem_cons_self ..), M _ (List.mem_cons_of_mem _ (List.mem_cons_self ..)), ne⟩⟩
  rcases List.mem_cons.mp ht with rfl | ht
  · exact ⟨⟨_, List.mem_cons_self .., h1⟩, h2⟩
  rcases List.mem_cons.mp ht with rfl | ht
  · exact ⟨⟨_, List.mem_cons_of_mem _ (List.mem_cons_self ..), h3⟩, h4⟩
  · cases ht
end K12
open PySem PySem.W PyProof.Rows
set_option maxRecDepth 100000 in
set_option maxHeartbeats 0 in
theorem PySem.Challenge.cw_hourhouse_k12_simple_next_holds : PySem.Challenge.rw_hourhouse_k12_simple_next.Holds := by
  w_on; o_law; k_head; (case hw => w_witness2)
  k_fill
  refine K12.walk (l := PySem.Challenge.rw_hourhouse_k12_simple_next) rfl rfl (fun w h Y => PySem.W.km_in_of Y) (by decide +kernel) ?F
  case F =>
    intro w mg fa h KX G hmg
    refine' K12.all_ok hmg (K12.txt_mk KX G ?aC_ByMonth ?pg_ByMonth ?hd_ByMonth ?po_ByMonth ?sa_ByMonth ?mk_ByMonth ?kc_ByMonth ?nf_origin_ByMonth ?nf_stride_ByMonth ?nf_first_ByMonth ?aC_Days ?pg_Days ?hd_Days ?po_Days ?sa_Days ?mk_Days ?kc_Days ?nf_days_Days ?aC_Every ?pg_Every ?hd_Every ?po_Every ?sa_Every ?mk_Every ?kc_Every ?nf_step_Every ?nf_first_Every ?aC_Monthly ?pg_Monthly ?hd_Monthly ?po_Monthly ?sa_Monthly ?mk_Monthly ?kc_Monthly ?nf_date_Monthly ?nf_every_Monthly ?nf_origin_Monthly ?nf_stride_Monthly ?nf_first_Monthly ?aC_Nth ?pg_Nth ?hd_Nth ?po_Nth ?sa_Nth ?mk_Nth ?kc_Nth ?nf_which_Nth ?nf_weekday_of_Nth ?nf_every_Nth ?nf_origin_Nth ?nf_stride_Nth ?nf_first_Nth ?aC_Rule ?pg_Rule ?hd_Rule ?po_Rule ?sa_Rule ?mk_Rule ?kc_Rule ?oi_Rule ?aC_Weekly ?pg_Weekly ?hd_Weekly ?po_Weekly ?sa_Weekly ?mk_Weekly ?kc_Weekly ?nf_mask_Weekly ?nf_first_Weekly ?nf_every_Weekly ?aC_Where ?pg_Where ?hd_Where ?po_Where ?sa_Where ?mk_Where ?kc_Where ?nf_test_Where ?aC_Yearly ?pg_Yearly ?hd_Yearly ?po_Yearly ?sa_Yearly ?mk_Yearly ?kc_Yearly ?nf_month_Yearly ?nf_date_Yearly ?nf_every_Yearly ?nf_origin_Yearly ?nf_stride_Yearly ?nf_first_Yearly ?aq1j ?lq1j ?eq1j ?kq1j ?aq1g ?lq1g ?eq1g ?kq1g ?aqu ?lqu ?equ ?kqu ?aq1i ?lq1i ?eq1i ?kq1i ?aqh ?lqh ?eqh ?kqh ?aqs ?lqs ?eqs ?kqs ?aqm ?lqm ?eqm ?kqm ?iqm ?vqm ?wqm ?xqm ?aqa ?lqa ?eqa ?kqa ?iqa ?vqa ?wqa ?xqa ?aq8 ?lq8 ?eq8 ?kq8 ?iq8 ?aqk ?lqk ?eqk ?kqk ?iqk ?aqr ?lqr ?eqr ?kqr ?aq19 ?lq19 ?eq19 ?kq19 ?aq18 ?lq18 ?eq18 ?kq18 ?aq1c ?lq1c ?eq1c ?kq1c ?aq15 ?lq15 ?eq15 ?kq15 ?aq16 ?lq16 ?eq16 ?kq16 ?aq12 ?lq12 ?eq12 ?kq12 ?aqv ?lqv ?eqv ?kqv ?aqn ?lqn ?eqn ?kqn ?aq11 ?lq11 ?eq11 ?kq11 ?aq1h ?lq1h ?eq1h ?kq1h ?aqz ?lqz ?eqz ?kqz ?aq0 ?lq0 ?eq0 ?kq0 ?iq0 ?aqf ?lqf ?eqf ?kqf ?iqf ?vqf ?wqf ?xqf ?aq4 ?lq4 ?eq4 ?kq4 ?iq4 ?aqy ?lqy ?eqy ?kqy ?aq13 ?lq13 ?eq13 ?kq13 ?aq17 ?lq17 ?eq17 ?kq17 ?aqq ?lqq ?eqq ?kqq ?aqo ?lqo ?eqo ?kqo ?aqw ?lqw ?eqw ?kqw ?aql ?lql ?eql ?kql ?iql ?vql ?wql ?xql ?aq1 ?lq1 ?eq1 ?kq1 ?iq1 ?aqp ?lqp ?eqp ?kqp ?iqp ?aqc ?lqc ?eqc ?kqc ?iqc ?vqc ?wqc ?xqc ?aq1a ?lq1a ?eq1a ?kq1a ?aq1e ?lq1e ?eq1e ?kq1e ?aq1f ?lq1f ?eq1f ?kq1f ?aq5 ?lq5 ?eq5 ?kq5 ?iq5 ?vq5 ?wq5 ?xq5 ?aqe ?lqe ?eqe ?kqe ?iqe ?vqe ?wqe ?xqe ?aq7 ?lq7 ?eq7 ?kq7 ?iq7 ?aq6 ?lq6 ?eq6 ?kq6 ?iq6 ?vq6 ?wq6 ?xq6 ?aqt ?lqt ?eqt ?kqt ?iqt ?aq10 ?lq10 ?eq10 ?kq10 ?iq10 ?vq10 ?wq10 ?xq10 ?aqd ?lqd ?eqd ?kqd ?iqd ?aqg ?lqg ?eqg ?kqg ?aqx ?lqx ?eqx ?kqx ?aq9 ?lq9 ?eq9 ?kq9 ?aq2 ?lq2 ?eq2 ?kq2 ?iq2 ?vq2 ?wq2 ?xq2 ?aqb ?lqb ?eqb ?kqb ?iqb ?vqb ?wqb ?xqb ?aq14 ?lq14 ?eq14 ?kq14 ?aq3 ?lq3 ?eq3 ?kq3 ?aq1d ?lq1d ?eq1d ?kq1d ?aqj ?lqj ?eqj ?kqj ?aqi ?lqi ?eqi ?kqi ?aq1b ?lq1b ?eq1b ?kq1b ?aq1k ?lq1k ?eq1k ?kq1k ?j_Monthly_next_in ?j_Nth_next_in ?j_Yearly_next_in ?g_DAYS ?g_DAYS_AHEAD ?o_DAYS_AHEAD' ?p_DAYS_AHEAD ?q_DAYS_AHEAD ?g_FIRST_WEEKDAY ?g_FIRST_YEAR ?g_LONG_YEAR ?g_MONTHS ?g_MONTH_LENGTHS ?o_MONTH_LENGTHS' ?p_MONTH_LENGTHS ?q_MONTH_LENGTHS ?g_MOST_EVERY ?cg_ByMonth ?cr_ByMonth ?ca_ByMonth___init ?ch_ByMonth___init ?n_abs ?n_bool ?n_int ?n_isinstance ?n_len ?n_max ?n_min ?n_range ?n_set ?n_sorted ?n_str ?n_sum ?n_tuple ?cvq1b ?lkq1b ?pvq1b ?npq1b ?cvq3 ?lkq3 ?pvq3 ?npq3 ?nq_tabs)
    (case aC_ByMonth => k_is)
    (case pg_ByMonth => k_is)
    (case hd_ByMonth => k_is)
    (case po_ByMonth => k_is)
    (case sa_ByMonth => k_is)
    (case mk_ByMonth => k_is)
    (case kc_ByMonth => k_is)
    (case nf_origin_ByMonth => k_is)
    (case nf_stride_ByMonth => k_is)
    (case nf_first_ByMonth => k_is)
    (case aC_Days => k_is)
    (case pg_Days => k_is)
    (case hd_Days => k_is)
    (case po_Days => k_is)
    (case sa_Days => k_is)
    (case mk_Days => k_is)
    (case kc_Days => k_is)
    (case nf_days_Days => k_is)
    (case aC_Every => k_is)
    (case pg_Every => k_is)
    (case hd_Every => k_is)
    (case po_Every => k_is)
    (case sa_Every => k_is)
    (case mk_Every => k_is)
    (case kc_Every => k_is)
    (case nf_step_Every => k_is)
    (case nf_first_Every => k_is)
    (case aC_Monthly => k_is)
    (case pg_Monthly => k_is)
    (case hd_Monthly => k_is)
    (case po_Monthly => k_is)
    (case sa_Monthly => k_is)
    (case mk_Monthly => k_is)
    (case kc_Monthly => k_is)
    (case nf_date_Monthly => k_is)
    (case nf_every_Monthly => k_is)
    (case nf_origin_Monthly => k_is)
    (case nf_stride_Monthly => k_is)
    (case nf_first_Monthly => k_is)
    (case aC_Nth => k_is)
    (case pg_Nth => k_is)
    (case hd_Nth => k_is)
    (case po_Nth => k_is)
    (case sa_Nth => k_is)
    (case mk_Nth => k_is)
    (case kc_Nth => k_is)
    (case nf_which_Nth => k_is)
    (case nf_weekday_of_Nth => k_is)
    (case nf_every_Nth => k_is)
    (case nf_origin_Nth => k_is)
    (case nf_stride_Nth => k_is)
    (case nf_first_Nth => k_is)
    (case aC_Rule => k_is)
    (case pg_Rule => k_is)
    (case hd_Rule => k_is)
    (case po_Rule => k_is)
    (case sa_Rule => k_is)
    (case mk_Rule => k_is)
    (case kc_Rule => k_is)
    (case oi_Rule => k_is)
    (case aC_Weekly => k_is)
    (case pg_Weekly => k_is)
    (case hd_Weekly => k_is)
    (case po_Weekly => k_is)
    (case sa_Weekly => k_is)
    (case mk_Weekly => k_is)
    (case kc_Weekly => k_is)
    (case nf_mask_Weekly => k_is)
    (case nf_first_Weekly => k_is)
    (case nf_every_Weekly => k_is)
    (case aC_Where => k_is)
    (case pg_Where => k_is)
    (case hd_Where => k_is)
    (case po_Where => k_is)
    (case sa_Where => k_is)
    (case mk_Where => k_is)
    (case kc_Where => k_is)
    (case nf_test_Where => k_is)
    (case aC_Yearly => k_is)
    (case pg_Yearly => k_is)
    (case hd_Yearly => k_is)
    (case po_Yearly => k_is)
    (case sa_Yearly => k_is)
    (case mk_Yearly => k_is)
    (case kc_Yearly => k_is)
    (case nf_month_Yearly => k_is)
    (case nf_date_Yearly => k_is)
    (case nf_every_Yearly => k_is)
    (case nf_origin_Yearly => k_is)
    (case nf_stride_Yearly => k_is)
    (case nf_first_Yearly => k_is)
    (case aq1j => k_is)
    (case lq1j => k_is)
    (case eq1j => k_is)
    (case kq1j => k_is)
    (case aq1g => k_is)
    (case lq1g => k_is)
    (case eq1g => k_is)
    (case kq1g => k_is)
    (case aqu => k_is)
    (case lqu => k_is)
    (case equ => k_is)
    (case kqu => k_is)
    (case aq1i => k_is)
    (case lq1i => k_is)
    (case eq1i => k_is)
    (case kq1i => k_is)
    (case aqh => k_is)
    (case lqh => k_is)
    (case eqh => k_is)
    (case kqh => k_is)
    (case aqs => k_is)
    (case lqs => k_is)
    (case eqs => k_is)
    (case kqs => k_is)
    (case aqm => k_is)
    (case lqm => k_is)
    (case eqm => k_is)
    (case kqm => k_is)
    (case iqm => k_is)
    (case vqm => rfl)
    (case wqm => k_is)
    (case xqm => rfl)
    (case aqa => k_is)
    (case lqa => k_is)
    (case eqa => k_is)
    (case kqa => k_is)
    (case iqa => k_is)
    (case vqa => rfl)
    (case wqa => k_is)
    (case xqa => rfl)
    (case aq8 => k_is)
    (case lq8 => k_is)
    (case eq8 => k_is)
    (case kq8 => k_is)
    (case iq8 => k_is)
    (case aqk => k_is)
    (case lqk => k_is)
    (case eqk => k_is)
    (case kqk => k_is)
    (case iqk => k_is)
    (case aqr => k_is)
    (case lqr => k_is)
    (case eqr => k_is)
    (case kqr => k_is)
    (case aq19 => k_is)
    (case lq19 => k_is)
    (case eq19 => k_is)
    (case kq19 => k_is)
    (case aq18 => k_is)
    (case lq18 => k_is)
    (case eq18 => k_is)
    (case kq18 => k_is)
    (case aq1c => k_is)
    (case lq1c => k_is)
    (case eq1c => k_is)
    (case kq1c => k_is)
    (case aq15 => k_is)
    (case lq15 => k_is)
    (case eq15 => k_is)
    (case kq15 => k_is)
    (case aq16 => k_is)
    (case lq16 => k_is)
    (case eq16 => k_is)
    (case kq16 => k_is)
    (case aq12 => k_is)
    (case lq12 => k_is)
    (case eq12 => k_is)
    (case kq12 => k_is)
    (case aqv => k_is)
    (case lqv => k_is)
    (case eqv => k_is)
    (case kqv => k_is)
    (case aqn => k_is)
    (case lqn => k_is)
    (case eqn => k_is)
    (case kqn => k_is)
    (case aq11 => k_is)
    (case lq11 => k_is)
    (case eq11 => k_is)
    (case kq11 => k_is)
    (case aq1h => k_is)
    (case lq1h => k_is)
    (case eq1h => k_is)
    (case kq1h => k_is)
    (case aqz => k_is)
    (case lqz => k_is)
    (case eqz => k_is)
    (case kqz => k_is)
    (case aq0 => k_is)
    (case lq0 => k_is)
    (case eq0 => k_is)
    (case kq0 => k_is)
    (case iq0 => k_is)
    (case aqf => k_is)
    (case lqf => k_is)
    (case eqf => k_is)
    (case kqf => k_is)
    (case iqf => k_is)
    (case vqf => rfl)
    (case wqf => k_is)
    (case xqf => rfl)
    (case aq4 => k_is)
    (case lq4 => k_is)
    (case eq4 => k_is)
    (case kq4 => k_is)
    (case iq4 => k_is)
    (case aqy => k_is)
    (case lqy => k_is)
    (case eqy => k_is)
    (case kqy => k_is)
    (case aq13 => k_is)
    (case lq13 => k_is)
    (case eq13 => k_is)
    (case kq13 => k_is)
    (case aq17 => k_is)
    (case lq17 => k_is)
    (case eq17 => k_is)
    (case kq17 => k_is)
    (case aqq => k_is)
    (case lqq => k_is)
    (case eqq => k_is)
    (case kqq => k_is)
    (case aqo => k_is)
    (case lqo => k_is)
    (case eqo => k_is)
    (case kqo => k_is)
    (case aqw => k_is)
    (case lqw => k_is)
    (case eqw => k_is)
    (case kqw => k_is)
    (case aql => k_is)
    (case lql => k_is)
    (case eql => k_is)
    (case kql => k_is)
    (case iql => k_is)
    (case vql => rfl)
    (case wql => k_is)
    (case xql => rfl)
    (case aq1 => k_is)
    (case lq1 => k_is)
    (case eq1 => k_is)
    (case kq1 => k_is)
    (case iq1 => k_is)
    (case aqp => k_is)
    (case lqp => k_is)
    (case eqp => k_is)
    (case kqp => k_is)
    (case iqp => k_is)
    (case aqc => k_is)
    (case lqc => k_is)
    (case eqc => k_is)
    (case kqc => k_is)
    (case iqc => k_is)
    (case vqc => rfl)
    (case wqc => k_is)
    (case xqc => rfl)
    (case aq1a => k_is)
    (case lq1a => k_is)
    (case eq1a => k_is)
    (case kq1a => k_is)
    (case aq1e => k_is)
    (case lq1e => k_is)
    (case eq1e => k_is)
    (case kq1e => k_is)
    (case aq1f => k_is)
    (case lq1f => k_is)
    (case eq1f => k_is)
    (case kq1f => k_is)
    (case aq5 => k_is)
    (case lq5 => k_is)
    (case eq5 => k_is)
    (case kq5 => k_is)
    (case iq5 => k_is)
    (case vq5 => rfl)
    (case wq5 => k_is)
    (case xq5 => rfl)
    (case aqe => k_is)
    (case lqe => k_is)
    (case eqe => k_is)
    (case kqe => k_is)
    (case iqe => k_is)
    (case vqe => rfl)
    (case wqe => k_is)
    (case xqe => rfl)
    (case aq7 => k_is)
    (case lq7 => k_is)
    (case eq7 => k_is)
    (case kq7 => k_is)
    (case iq7 => k_is)
    (case aq6 => k_is)
    (case lq6 => k_is)
    (case eq6 => k_is)
    (case kq6 => k_is)
    (case iq6 => k_is)
    (case vq6 => rfl)
    (case wq6 => k_is)
    (case xq6 => rfl)
    (case aqt => k_is)
    (case lqt => k_is)
    (case eqt => k_is)
    (case kqt => k_is)
    (case iqt => k_is)
    (case aq10 => k_is)
    (case lq10 => k_is)
    (case eq10 => k_is)
    (case kq10 => k_is)
    (case iq10 => k_is)
    (case vq10 => rfl)
    (case wq10 => k_is)
    (case xq10 => rfl)
    (case aqd => k_is)
    (case lqd => k_is)
    (case eqd => k_is)
    (case kqd => k_is)
    (case iqd => k_is)
    (case aqg => k_is)
    (case lqg => k_is)
    (case eqg => k_is)
    (case kqg => k_is)
    (case aqx => k_is)
    (case lqx => k_is)
    (case eqx => k_is)
    (case kqx => k_is)
    (case aq9 => k_is)
    (case lq9 => k_is)
    (case eq9 => k_is)
    (case kq9 => k_is)
    (case aq2 => k_is)
    (case lq2 => k_is)
    (case eq2 => k_is)
    (case kq2 => k_is)
    (case iq2 => k_is)
    (case vq2 => rfl)
    (case wq2 => k_is)
    (case xq2 => rfl)
    (case aqb => k_is)
    (case lqb => k_is)
    (case eqb => k_is)
    (case kqb => k_is)
    (case iqb => k_is)
    (case vqb => rfl)
    (case wqb => k_is)
    (case xqb => rfl)
    (case aq14 => k_is)
    (case lq14 => k_is)
    (case eq14 => k_is)
    (case kq14 => k_is)
    (case aq3 => k_is)
    (case lq3 => k_is)
    (case eq3 => k_is)
    (case kq3 => k_is)
    (case aq1d => k_is)
    (case lq1d => k_is)
    (case eq1d => k_is)
    (case kq1d => k_is)
    (case aqj => k_is)
    (case lqj => k_is)
    (case eqj => k_is)
    (case kqj => k_is)
    (case aqi => k_is)
    (case lqi => k_is)
    (case eqi => k_is)
    (case kqi => k_is)
    (case aq1b => k_is)
    (case lq1b => k_is)
    (case eq1b => k_is)
    (case kq1b => k_is)
    (case aq1k => k_is)
    (case lq1k => k_is)
    (case eq1k => k_is)
    (case kq1k => k_is)
    (case j_Monthly_next_in => k_is)
    (case j_Nth_next_in => k_is)
    (case j_Yearly_next_in => k_is)
    (case g_DAYS => k_is)
    (case g_DAYS_AHEAD => k_is)
    (case o_DAYS_AHEAD' => k_is)
    (case p_DAYS_AHEAD => rfl)
    (case q_DAYS_AHEAD => rfl)
    (case g_FIRST_WEEKDAY => k_is)
    (case g_FIRST_YEAR => k_is)
    (case g_LONG_YEAR => k_is)
    (case g_MONTHS => k_is)
    (case g_MONTH_LENGTHS => k_is)
    (case o_MONTH_LENGTHS' => k_is)
    (case p_MONTH_LENGTHS => rfl)
    (case q_MONTH_LENGTHS => rfl)
    (case g_MOST_EVERY => k_is)
    (case cg_ByMonth => k_is)
    (case cr_ByMonth => k_is)
    (case ca_ByMonth___init => k_is)
    (case ch_ByMonth___init => rfl)
    (case n_abs => k_is)
    (case n_bool => k_is)
    (case n_int => k_is)
    (case n_isinstance => k_is)
    (case n_len => k_is)
    (case n_max => k_is)
    (case n_min => k_is)
    (case n_range => k_is)
    (case n_set => k_is)
    (case n_sorted => k_is)
    (case n_str => k_is)
    (case n_sum => k_is)
    (case n_tuple => k_is)
    (case cvq1b => rfl)
    (case lkq1b => k_is)
    (case pvq1b => rfl)
    (case npq1b => kernel_rfl)
    (case cvq3 => rfl)
    (case lkq3 => k_is)
    (case pvq3 => rfl)
    (case npq3 => kernel_rfl)
    (case nq_tabs => first | rfl | kernel_rfl | decide)
