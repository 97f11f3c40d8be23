import PyProof.Rows.All
import Wide.All
import OpenK.AllK
import Wide.FinOn
import Lean
import PyProof.EqAt
import PyProof.EqKinds
import PyProof.TupleCall
import PySem.Challenge.RW_hourhouse_k13_rules_refused
set_option Elab.async false
set_option linter.all false
set_option maxRecDepth 100000
/-! These names are taken so that the head makes no twins of its heaps, trees and objects: the compiled file would be too big. Nothing refers to them, and they prove nothing. -/
def PySem.W.Fast.tw3950384295966425029 : Unit := ()
def PySem.W.Fast.tw2519142086508686949 : Unit := ()
def PySem.W.Fast.tw4936509202471515038 : Unit := ()
def PySem.W.Fast.tw14437021091261015225 : Unit := ()
def PySem.W.Fast.tw10002863758365178420 : Unit := ()
def PySem.W.Fast.tw1450356039462750466 : Unit := ()
def PySem.W.Fast.tw9897426846572148152 : Unit := ()
def PySem.W.Fast.tw6779014827053483898 : Unit := ()
def PySem.W.Fast.tw18370408896910590020 : Unit := ()
def PySem.W.Fast.tw14311737381446356755 : Unit := ()
def PySem.W.Fast.tw6343470826096616043 : Unit := ()
def PySem.W.Fast.tw9841827947486564935 : Unit := ()
def PySem.W.Fast.tw2442959779891783249 : Unit := ()
def PySem.W.Fast.tw10913198213903515718 : Unit := ()
def PySem.W.Fast.tw12570367743115326071 : Unit := ()
def PySem.W.Fast.tw608293094957038392 : Unit := ()
def PySem.W.Fast.tw7448812287007582612 : Unit := ()
def PySem.W.Fast.tw12678130324231455245 : Unit := ()
def PySem.W.Fast.tw5761218322813553558 : Unit := ()
def PySem.W.Fast.tw2276773575301678136 : Unit := ()
def PySem.W.Fast.tw5985393417313825623 : Unit := ()
def PySem.W.Fast.tw5316695012640832618 : Unit := ()
def PySem.W.Fast.tw9005079457068062023 : Unit := ()
def PySem.W.Fast.tw4450049181131605757 : Unit := ()
def PySem.W.Fast.tw5378499063261334881 : Unit := ()
def PySem.W.Fast.tw15377921305539892384 : Unit := ()
def PySem.W.Fast.tw8025901111932849456 : Unit := ()
def PySem.W.Fast.tw5129113991801695466 : Unit := ()
def PySem.W.Fast.tw17447906821519972991 : Unit := ()
def PySem.W.Fast.tw7959369995549961542 : Unit := ()
def PySem.W.Fast.tw12177459523678230493 : Unit := ()
def PySem.W.Fast.tw9485455550631947085 : Unit := ()
def PySem.W.Fast.tw16908394835568547790 : Unit := ()
def PySem.W.Fast.tw13493748681700019107 : Unit := ()
def PySem.W.Fast.tw8032577062333398408 : Unit := ()
def PySem.W.Fast.tw10242905071042195644 : Unit := ()
def PySem.W.Fast.tw4744138059930647312 : Unit := ()
def PySem.W.Fast.tw5813972248270352728 : Unit := ()
def PySem.W.Fast.tw968512934553732704 : Unit := ()
def PySem.W.Fast.tw3864495154009579878 : Unit := ()
def PySem.W.Fast.tw17109578204220294374 : Unit := ()
def PySem.W.Fast.tw9349309581819163673 : Unit := ()
def PySem.W.Fast.tw1102924247017493882 : Unit := ()
def PySem.W.Fast.tw4262647721232461045 : Unit := ()
def PySem.W.Fast.tw8909851856145353344 : Unit := ()
def PySem.W.Fast.tw6506454845752572115 : Unit := ()
def PySem.W.Fast.tw3048627069325112940 : Unit := ()
def PySem.W.Fast.tw784218726603601182 : Unit := ()
def PySem.W.Fast.tw14367889830840637301 : Unit := ()
def PySem.W.Fast.tw15945562197190002516 : Unit := ()
def PySem.W.Fast.tw7016098624022833694 : Unit := ()
def PySem.W.Fast.tw13289626060148983141 : Unit := ()
def PySem.W.Fast.tw9838839104858161170 : Unit := ()
def PySem.W.Fast.tw1553355768165328652 : Unit := ()
def PySem.W.Fast.tw6089213829536574029 : Unit := ()
def PySem.W.Fast.tw9722138310731916801 : Unit := ()
def PySem.W.Fast.tw9282671118840009778 : Unit := ()
def PySem.W.Fast.tw18095765895177991906 : Unit := ()
def PySem.W.Fast.tw9260497915342986016 : Unit := ()
def PySem.W.Fast.tw12638050965736017739 : Unit := ()
def PySem.W.Fast.tw2565590073379552329 : Unit := ()
def PySem.W.Fast.tw5704616812853653863 : Unit := ()
def PySem.W.Fast.tw13029783206169176487 : Unit := ()
def PySem.W.Fast.tw8735799347594052167 : Unit := ()
def PySem.W.Fast.tw1145417439283792666 : Unit := ()
def PySem.W.Fast.tw18175783620857337865 : Unit := ()
def PySem.W.Fast.tw10954977774331742389 : Unit := ()
def PySem.W.Fast.tw1906562790734329146 : Unit := ()
def PySem.W.Fast.tw8926528339335766187 : Unit := ()
def PySem.W.Fast.tw14094619860416641486 : Unit := ()
def PySem.W.Fast.tw16142850845693800927 : Unit := ()
def PySem.W.Fast.tw3484290145366558705 : Unit := ()
def PySem.W.Fast.tw15119271193917414483 : Unit := ()
def PySem.W.Fast.tw11255659940199423309 : Unit := ()
def PySem.W.Fast.tw1000226380953022717 : Unit := ()
def PySem.W.Fast.tw12330655066599307157 : Unit := ()
def PySem.W.Fast.tw8372336263942264032 : Unit := ()
def PySem.W.Fast.tw6223068452854194990 : Unit := ()
def PySem.W.Fast.tw5364244570088187058 : Unit := ()
def PySem.W.Fast.tw4413348934141155723 : Unit := ()
def PySem.W.Fast.tw3813945582288609782 : Unit := ()
def PySem.W.Fast.tw6889712786220972708 : Unit := ()
def PySem.W.Fast.tw530083145133307379 : Unit := ()
def PySem.W.Fast.tw2689345858472250560 : Unit := ()
def PySem.W.Fast.tw18376700117551121634 : Unit := ()
def PySem.W.Fast.tw14520039593717094566 : Unit := ()
def PySem.W.Fast.tw15343650709867130488 : Unit := ()
def PySem.W.Fast.tw7496405479754627761 : Unit := ()
def PySem.W.Fast.tw770796708393375582 : Unit := ()
def PySem.W.Fast.tw12952848293655490814 : Unit := ()
def PySem.W.Fast.tw9015372637483760819 : Unit := ()
def PySem.W.Fast.tw13045629541056287306 : Unit := ()
def PySem.W.Fast.tw2958458033258283367 : Unit := ()
def PySem.W.Fast.tw13427389590328633570 : Unit := ()
def PySem.W.Fast.tw16142123197269951163 : Unit := ()
def PySem.W.Fast.tw9128785263162114135 : Unit := ()
def PySem.W.Fast.tw15779646584450434599 : Unit := ()
def PySem.W.Fast.tw7664399154120321430 : Unit := ()
def PySem.W.Fast.tw12283567894742343543 : Unit := ()
def PySem.W.Fast.tw4591535143006705031 : Unit := ()
def PySem.W.Fast.tw13095295968096694607 : Unit := ()
def PySem.W.Fast.tw3108246922134097213 : Unit := ()
def PySem.W.Fast.tw13671141423966349375 : Unit := ()
def PySem.W.Fast.tw5286765906946616064 : Unit := ()
def PySem.W.Fast.tw1962020221422678234 : Unit := ()
def PySem.W.Fast.tw12684851047236439888 : Unit := ()
def PySem.W.Fast.tw9266109449502641354 : Unit := ()
def PySem.W.Fast.tw13333912133856500310 : Unit := ()
def PySem.W.Fast.tw11673543347475230569 : Unit := ()
def PySem.W.Fast.tw5101051187938221469 : Unit := ()
def PySem.W.Fast.tw13821684333647359114 : Unit := ()
def PySem.W.Fast.tw10257333057084706756 : Unit := ()
def PySem.W.Fast.tw16676826786371334657 : Unit := ()
def PySem.W.Fast.tw3700242269471038243 : Unit := ()
def PySem.W.Fast.tw16189131588784846858 : Unit := ()
def PySem.W.Fast.tw5726004544658580022 : Unit := ()
def PySem.W.Fast.tw3525712126341970063 : Unit := ()
def PySem.W.Fast.tw2394110672867152101 : Unit := ()
def PySem.W.Fast.tw16825528786494650940 : Unit := ()
def PySem.W.Fast.tw2443733880088057627 : Unit := ()
def PySem.W.Fast.tw278199566479272657 : Unit := ()
def PySem.W.Fast.tw3061644703357056693 : Unit := ()
def PySem.W.Fast.tw5565692398337090317 : Unit := ()
def PySem.W.Fast.tw15005462341901175066 : Unit := ()
def PySem.W.Fast.tw7755274422755492477 : Unit := ()
def PySem.W.Fast.tw12917692280712177714 : Unit := ()
def PySem.W.Fast.tw2666719353050599423 : Unit := ()
def PySem.W.Fast.tw7883913672189037807 : Unit := ()
def PySem.W.Fast.tw16597214954927859235 : Unit := ()
def PySem.W.Fast.tw10776441711242831213 : Unit := ()
def PySem.W.Fast.tw15203864329766106697 : Unit := ()
def PySem.W.Fast.tw8286749139762103568 : Unit := ()
def PySem.W.Fast.tw18370663919404842624 : Unit := ()
def PySem.W.Fast.tw2527082727087742281 : Unit := ()
def PySem.W.Fast.tw12490445169216858382 : Unit := ()
def PySem.W.Fast.tw4820593952768674035 : Unit := ()
def PySem.W.Fast.tw8547321339821775360 : Unit := ()
def PySem.W.Fast.tw1867040877514473239 : Unit := ()
def PySem.W.Fast.tw11452010274196216256 : Unit := ()
def PySem.W.Fast.tw3401328884417617199 : Unit := ()
def PySem.W.Fast.tw14172455068746467325 : Unit := ()
def PySem.W.Fast.tw5054201847959822328 : Unit := ()
def PySem.W.Fast.tw18050979841055588259 : Unit := ()
def PySem.W.Fast.tw18428740832120063819 : Unit := ()
def PySem.W.Fast.tw3745388408994369113 : Unit := ()
def PySem.W.Fast.tw8139136282408373555 : Unit := ()
def PySem.W.Fast.tw16156560172646379134 : Unit := ()
def PySem.W.Fast.tw13797577457933072387 : Unit := ()
def PySem.W.Fast.tw142131224704739280 : Unit := ()
def PySem.W.Fast.tw16439756918649145611 : Unit := ()
def PySem.W.Fast.tw5867205504137272960 : Unit := ()
def PySem.W.Fast.tw3523025710297858239 : Unit := ()
def PySem.W.Fast.tw16059556664112556593 : Unit := ()
def PySem.W.Fast.tw17624177846723460939 : Unit := ()
def PySem.W.Fast.tw11400678960241917579 : Unit := ()
def PySem.W.Fast.tw5407426516235495575 : Unit := ()
def PySem.W.Fast.tw9548660455182707671 : Unit := ()
def PySem.W.Fast.tw8423316358687840013 : Unit := ()
def PySem.W.Fast.tw14519244567233088605 : Unit := ()
def PySem.W.Fast.tw10123580081282031716 : Unit := ()
def PySem.W.Fast.tw16653961421498199401 : Unit := ()
def PySem.W.Fast.tw3671984676955254860 : Unit := ()
def PySem.W.Fast.tw2489055681167039868 : Unit := ()
def PySem.W.Fast.tw17190210799326316019 : Unit := ()
def PySem.W.Fast.tw6032954956150464917 : Unit := ()
def PySem.W.Fast.tw1806106201657979956 : Unit := ()
def PySem.W.Fast.tw17662996316034556288 : Unit := ()
def PySem.W.Fast.tw15635035892858924046 : Unit := ()
def PySem.W.Fast.tw17901844077160838092 : Unit := ()
def PySem.W.Fast.tw2307713058473621435 : Unit := ()
def PySem.W.Fast.tw13753416344372526718 : Unit := ()
def PySem.W.Fast.tw9626693809738819894 : Unit := ()
def PySem.W.Fast.tw4113193705154120279 : Unit := ()
def PySem.W.Fast.tw10206234272922344753 : Unit := ()
def PySem.W.Fast.tw4902412172822818620 : Unit := ()
def PySem.W.Fast.tw8456098469794193196 : Unit := ()
def PySem.W.Fast.tw9660287605624179134 : Unit := ()
def PySem.W.Fast.tw5134033863774058031 : Unit := ()
def PySem.W.Fast.tw16616194832454622789 : Unit := ()
def PySem.W.Fast.tw7097478885369465328 : Unit := ()
def PySem.W.Fast.tw7734906695587258322 : Unit := ()
def PySem.W.Fast.tw760504490342239182 : Unit := ()
def PySem.W.Fast.tw292834561557891750 : Unit := ()
def PySem.W.Fast.tw8197464673827282403 : Unit := ()
def PySem.W.Fast.tw12712751837022701429 : Unit := ()
def PySem.W.Fast.tw7052367257737940428 : Unit := ()
def PySem.W.Fast.tw751581590286512996 : Unit := ()
def PySem.W.Fast.tw4983662879102404175 : Unit := ()
def PySem.W.Fast.tw4027797861212968152 : Unit := ()
def PySem.W.Fast.tw12779289067297213181 : Unit := ()
def PySem.W.Fast.tw5980790010203418499 : Unit := ()
def PySem.W.Fast.tw4824356404678671330 : Unit := ()
def PySem.W.Fast.tw9974588231801585653 : Unit := ()
def PySem.W.Fast.tw17559080992587121698 : Unit := ()
def PySem.W.Fast.tw9059383863579377847 : Unit := ()
def PySem.W.Fast.tw3870124949291081434 : Unit := ()
def PySem.W.Fast.tw7960130106389538899 : Unit := ()
def PySem.W.Fast.tw635429762668133702 : Unit := ()
def PySem.W.Fast.tw14759143728129503443 : Unit := ()
def PySem.W.Fast.tw7759028470138337940 : Unit := ()
def PySem.W.Fast.tw2551833897837947136 : Unit := ()
def PySem.W.Fast.tw712623362494109071 : Unit := ()
def PySem.W.Fast.tw11344465078547470185 : Unit := ()
def PySem.W.Fast.tw3917857717923508 : Unit := ()
def PySem.W.Fast.tw4640936303765486301 : Unit := ()
def PySem.W.Fast.tw8466984993344440318 : Unit := ()
def PySem.W.Fast.tw12384615181111434371 : Unit := ()
def PySem.W.Fast.tw7463917453761696657 : Unit := ()
def PySem.W.Fast.tw124986463189029556 : Unit := ()
def PySem.W.Fast.tw11300361637921996245 : Unit := ()
def PySem.W.Fast.tw17336151971762734273 : Unit := ()
def PySem.W.Fast.tw5556956851381354374 : Unit := ()
def PySem.W.Fast.tw959534708695669506 : Unit := ()
def PySem.W.Fast.tw9389121547715947383 : Unit := ()
def PySem.W.Fast.tw1060250429271054456 : Unit := ()
def PySem.W.Fast.tw18366861065832904138 : Unit := ()
def PySem.W.Fast.tw11997895701731084320 : Unit := ()
def PySem.W.Fast.tw11408403984891546660 : Unit := ()
def PySem.W.Fast.tw6979254954510063157 : Unit := ()
def PySem.W.Fast.tw17512880910229781256 : Unit := ()
def PySem.W.Fast.tw5097354153455643924 : Unit := ()
def PySem.W.Fast.tw3356848850125159256 : Unit := ()
def PySem.W.Fast.tw10249411676520375670 : Unit := ()
def PySem.W.Fast.tw4471124392412230949 : Unit := ()
def PySem.W.Fast.tw8546488312039723548 : Unit := ()
def PySem.W.Fast.tw2682894326964710038 : Unit := ()
def PySem.W.Fast.tw7926916782313945171 : Unit := ()
def PySem.W.Fast.tw14438419879161369800 : Unit := ()
def PySem.W.Fast.tw8092992814293819236 : Unit := ()
def PySem.W.Fast.tw8160710708596481297 : Unit := ()
def PySem.W.Fast.tw16373090331064865187 : Unit := ()
def PySem.W.Fast.tw5683485375647419750 : Unit := ()
def PySem.W.Fast.tw16809360531695624419 : Unit := ()
def PySem.W.Fast.tw14732729350850024037 : Unit := ()
def PySem.W.Fast.tw1190408806883623377 : Unit := ()
def PySem.W.Fast.tw9868402193486873963 : Unit := ()
def PySem.W.Fast.tw1813831990030120096 : Unit := ()
def PySem.W.Fast.tw1011705644721688965 : Unit := ()
def PySem.W.Fast.tw2162302465127805561 : Unit := ()
def PySem.W.Fast.tw16958328272493321018 : Unit := ()
def PySem.W.Fast.tw12527397637586008391 : Unit := ()
def PySem.W.Fast.tw7905324952034762528 : Unit := ()
def PySem.W.Fast.tw17487677861978606543 : Unit := ()
def PySem.W.Fast.tw17607772216969254696 : Unit := ()
def PySem.W.Fast.tw17894968517526710784 : Unit := ()
def PySem.W.Fast.tw12003119902076884961 : Unit := ()
def PySem.W.Fast.tw15730262899077713184 : Unit := ()
def PySem.W.Fast.tw16590293309179031174 : Unit := ()
def PySem.W.Fast.tw12542195550772022047 : Unit := ()
def PySem.W.Fast.tw13723208768657790813 : Unit := ()
def PySem.W.Fast.tw148314559937889323 : Unit := ()
def PySem.W.Fast.tw12469235791599989770 : Unit := ()
def PySem.W.Fast.tw13584276833286342112 : Unit := ()
def PySem.W.Fast.tw10271712684836053328 : Unit := ()
def PySem.W.Fast.tw7559068357542893884 : Unit := ()
def PySem.W.Fast.tw9893780590063506081 : Unit := ()
def PySem.W.Fast.tw2488601538263626440 : Unit := ()
def PySem.W.Fast.tw10917489359462989350 : Unit := ()
def PySem.W.Fast.tw10807641867422604419 : Unit := ()
def PySem.W.Fast.tw3300535716537359209 : Unit := ()
def PySem.W.Fast.tw14503847497764467733 : Unit := ()
def PySem.W.Fast.tw11205528570832151485 : Unit := ()
def PySem.W.Fast.tw8628668318042626159 : Unit := ()
def PySem.W.Fast.tw3694950044917930352 : Unit := ()
def PySem.W.Fast.tw8530922857251914342 : Unit := ()
def PySem.W.Fast.tw7387224353166104933 : Unit := ()
def PySem.W.Fast.tw12620978383327940488 : Unit := ()
def PySem.W.Fast.tw8155857840595727059 : Unit := ()
def PySem.W.Fast.tw13200325382179700552 : Unit := ()
def PySem.W.Fast.tw10774145288046816618 : Unit := ()
def PySem.W.Fast.tw18344163999534054889 : Unit := ()
def PySem.W.Fast.tw12247702664774576218 : Unit := ()
def PySem.W.Fast.tw6789993625477604772 : Unit := ()
def PySem.W.Fast.tw16567038139286832185 : Unit := ()
def PySem.W.Fast.tw453327349055360888 : Unit := ()
def PySem.W.Fast.tw9861058519132401955 : Unit := ()
def PySem.W.Fast.tw2413356927018137399 : Unit := ()
def PySem.W.Fast.tw11061883051753736808 : Unit := ()
def PySem.W.Fast.tw14308389312300999384 : Unit := ()
def PySem.W.Fast.tw9669540095959166523 : Unit := ()
def PySem.W.Fast.tw8696533072110340506 : Unit := ()
def PySem.W.Fast.tw1829245841466047455 : Unit := ()
def PySem.W.Fast.tw2695583877615578772 : Unit := ()
def PySem.W.Fast.tw14578468282411161716 : Unit := ()
def PySem.W.Fast.tw2349927769890969681 : Unit := ()
def PySem.W.Fast.tw11642353525380450855 : Unit := ()
def PySem.W.Fast.tw1224246537286607893 : Unit := ()
def PySem.W.Fast.tw11368349452329134174 : Unit := ()
def PySem.W.Fast.tw8530615801712825365 : Unit := ()
def PySem.W.Fast.tw89387127576060951 : Unit := ()
def PySem.W.Fast.tw13651452622169167788 : Unit := ()
def PySem.W.Fast.tw17477809760626769154 : Unit := ()
def PySem.W.Fast.tw9845459749226187326 : Unit := ()
def PySem.W.Fast.tw4628408184346859618 : Unit := ()
def PySem.W.Fast.tw16298520113363981694 : Unit := ()
def PySem.W.Fast.tw3393523882477469926 : Unit := ()
def PySem.W.Fast.tw15324912587766141451 : Unit := ()
def PySem.W.Fast.tw16089801800512788864 : Unit := ()
def PySem.W.Fast.tw16177304552442674662 : Unit := ()
def PySem.W.Fast.tw16249172161892422332 : Unit := ()
def PySem.W.Fast.tw11619566940244133542 : Unit := ()
def PySem.W.Fast.tw7175706681061466905 : Unit := ()
def PySem.W.Fast.tw688025666905277717 : Unit := ()
def PySem.W.Fast.tw15631515105880979126 : Unit := ()
def PySem.W.Fast.tw15599287764013516469 : Unit := ()
def PySem.W.Fast.tw10585767425188308627 : Unit := ()
def PySem.W.Fast.tw15785890799900294571 : Unit := ()
def PySem.W.Fast.tw16290323427844962653 : Unit := ()
def PySem.W.Fast.tw2077657214445826230 : Unit := ()
def PySem.W.Fast.tw8700408610171367060 : Unit := ()
def PySem.W.Fast.tw6685238343662639033 : Unit := ()
def PySem.W.Fast.tw13804211252995421536 : Unit := ()
def PySem.W.Fast.tw5061213147887822085 : Unit := ()
def PySem.W.Fast.tw3038098532663396729 : Unit := ()
def PySem.W.Fast.tw13297102454885593046 : Unit := ()
def PySem.W.Fast.tw18204372398522655437 : Unit := ()
def PySem.W.Fast.tw7677385318364894827 : Unit := ()
def PySem.W.Fast.tw5144464733418171335 : Unit := ()
def PySem.W.Fast.tw14076379219920528835 : Unit := ()
def PySem.W.Fast.tw14931568593631521856 : Unit := ()
def PySem.W.Fast.tw13822027459417039695 : Unit := ()
def PySem.W.Fast.tw5799981775662484547 : Unit := ()
def PySem.W.Fast.tw14352606665317703383 : Unit := ()
def PySem.W.Fast.tw11050170080229763042 : Unit := ()
def PySem.W.Fast.tw8184817245827023336 : Unit := ()
def PySem.W.Fast.tw17278236594308317121 : Unit := ()
def PySem.W.Fast.tw13111368612887797864 : Unit := ()
def PySem.W.Fast.tw1468866680261150066 : Unit := ()
def PySem.W.Fast.tw12994026563907122638 : Unit := ()
def PySem.W.Fast.tw7025919942595231455 : Unit := ()
def PySem.W.Fast.tw4514072477950607430 : Unit := ()
def PySem.W.Fast.tw3365288205879949527 : Unit := ()
def PySem.W.Fast.tw9423821104870868024 : Unit := ()
def PySem.W.Fast.tw12132910282004962626 : Unit := ()
def PySem.W.Fast.tw1928416644593173598 : Unit := ()
def PySem.W.Fast.tw7488934970434273551 : Unit := ()
def PySem.W.Fast.tw10568545467842121289 : Unit := ()
def PySem.W.Fast.tw14368403079624087557 : Unit := ()
def PySem.W.Fast.tw16270047724503272064 : Unit := ()
def PySem.W.Fast.tw7011177906819371774 : Unit := ()
def PySem.W.Fast.tw15332855648388771214 : Unit := ()
def PySem.W.Fast.tw4837582770728223790 : Unit := ()
def PySem.W.Fast.tw3546895821624923115 : Unit := ()
def PySem.W.Fast.tw243575166122276750 : Unit := ()
def PySem.W.Fast.tw7149819891002548750 : Unit := ()
def PySem.W.Fast.tw14673001093646899689 : Unit := ()
def PySem.W.Fast.tw13916053778741414418 : Unit := ()
def PySem.W.Fast.tw9946657629184428876 : Unit := ()
def PySem.W.Fast.tw6244036018675945721 : Unit := ()
def PySem.W.Fast.tw13366845295347265576 : Unit := ()
def PySem.W.Fast.tw7778277079594324497 : Unit := ()
def PySem.W.Fast.tw8725286885513838403 : Unit := ()
def PySem.W.Fast.tw4519897353266603050 : Unit := ()
def PySem.W.Fast.tw10394964747784914102 : Unit := ()
def PySem.W.Fast.tw18156462168763456824 : Unit := ()
def PySem.W.Fast.tw14940391966131860342 : Unit := ()
def PySem.W.Fast.tw9389690852988024829 : Unit := ()
def PySem.W.Fast.tw15370091358421686966 : Unit := ()
def PySem.W.Fast.tw8099859914235582049 : Unit := ()
def PySem.W.Fast.tw4197998263476451973 : Unit := ()
def PySem.W.Fast.tw14265816958937921946 : Unit := ()
def PySem.W.Fast.tw17184931731155080656 : Unit := ()
def PySem.W.Fast.tw10099783997452178075 : Unit := ()
def PySem.W.Fast.tw16252211911352445915 : Unit := ()
def PySem.W.Fast.tw6185010845742856694 : Unit := ()
def PySem.W.Fast.tw1752438137151064204 : Unit := ()
def PySem.W.Fast.tw13936002458537775606 : Unit := ()
def PySem.W.Fast.tw587337210278067680 : Unit := ()
def PySem.W.Fast.tw9710218239007544567 : Unit := ()
def PySem.W.Fast.tw7700099013197096377 : Unit := ()
def PySem.W.Fast.tw6248626981975800837 : Unit := ()
def PySem.W.Fast.tw5948958930818523791 : Unit := ()
def PySem.W.Fast.tw14937780019151075662 : Unit := ()
def PySem.W.Fast.tw16948727518094026886 : Unit := ()
def PySem.W.Fast.tw11662950866128256965 : Unit := ()
def PySem.W.Fast.tw17614836559771592217 : Unit := ()
def PySem.W.Fast.tw6950900119484085230 : Unit := ()
def PySem.W.Fast.tw8354050892955017701 : Unit := ()
def PySem.W.Fast.tw2541139538665018496 : Unit := ()
def PySem.W.Fast.tw9041568872898108406 : Unit := ()
def PySem.W.Fast.tw10095738955880444552 : Unit := ()
def PySem.W.Fast.tw6039315663510688147 : Unit := ()
def PySem.W.Fast.tw7642814700733770341 : Unit := ()
def PySem.W.Fast.tw14034250871568447170 : Unit := ()
def PySem.W.Fast.tw3218872985342438850 : Unit := ()
def PySem.W.Fast.tw371853544862603997 : Unit := ()
def PySem.W.Fast.tw2573579719104091648 : Unit := ()
def PySem.W.Fast.tw15226600616904720576 : Unit := ()
def PySem.W.Fast.tw2116410407993625447 : Unit := ()
def PySem.W.Fast.tw16322125279737193391 : Unit := ()
def PySem.W.Fast.tw8538036030144657643 : Unit := ()
def PySem.W.Fast.tw15990870268292489237 : Unit := ()
def PySem.W.Fast.tw17962677198546145545 : Unit := ()
def PySem.W.Fast.tw16545124769723328759 : Unit := ()
def PySem.W.Fast.tw13748321789716901516 : Unit := ()
def PySem.W.Fast.tw3825280510192153485 : Unit := ()
def PySem.W.Fast.tw5132169997132247882 : Unit := ()
def PySem.W.Fast.tw10685217726158691566 : Unit := ()
def PySem.W.Fast.tw10393130980212427570 : Unit := ()
def PySem.W.Fast.tw10716062141653327447 : Unit := ()
def PySem.W.Fast.tw15050082080331008897 : Unit := ()
def PySem.W.Fast.tw4718582074360617950 : Unit := ()
def PySem.W.Fast.tw11388740256258611946 : Unit := ()
def PySem.W.Fast.tw15637607699763716357 : Unit := ()
def PySem.W.Fast.tw12360286969841519262 : Unit := ()
def PySem.W.Fast.tw7368391201779795391 : Unit := ()
def PySem.W.Fast.tw8918742619032734332 : Unit := ()
def PySem.W.Fast.tw1446476293172976262 : Unit := ()
def PySem.W.Fast.tw8335846791983389595 : Unit := ()
def PySem.W.Fast.tw12612532931250157452 : Unit := ()
def PySem.W.Fast.tw14827457701760828768 : Unit := ()
def PySem.W.Fast.tw13442134801273470297 : Unit := ()
def PySem.W.Fast.tw10275553583432657603 : Unit := ()
def PySem.W.Fast.tw1179761436283732743 : Unit := ()
def PySem.W.Fast.tw17869772426242968137 : Unit := ()
def PySem.W.Fast.tw1181481056677679820 : Unit := ()
def PySem.W.Fast.tw1415805345346377696 : Unit := ()
def PySem.W.Fast.tw9888416622484211466 : Unit := ()
def PySem.W.Fast.tw1599082193609874479 : Unit := ()
def PySem.W.Fast.tw10555765071530581244 : Unit := ()
def PySem.W.Fast.tw53345224275999273 : Unit := ()
def PySem.W.Fast.tw9593381430546596772 : Unit := ()
def PySem.W.Fast.tw6342456662387605162 : Unit := ()
def PySem.W.Fast.tw6053483144317053115 : Unit := ()
def PySem.W.Fast.tw2167553056290512835 : Unit := ()
def PySem.W.Fast.tw8045076532006264674 : Unit := ()
def PySem.W.Fast.tw15183938375254610029 : Unit := ()
def PySem.W.Fast.tw8181686927436165553 : Unit := ()
def PySem.W.Fast.tw92645305880153438 : Unit := ()
def PySem.W.Fast.tw4890618508480092408 : Unit := ()
def PySem.W.Fast.tw6708561949943205442 : Unit := ()
def PySem.W.Fast.tw16863493979931373912 : Unit := ()
def PySem.W.Fast.tw503563231283883127 : Unit := ()
def PySem.W.Fast.tw12670825667027252491 : Unit := ()
def PySem.W.Fast.tw18183232147619109368 : Unit := ()
def PySem.W.Fast.tw5560791113166231285 : Unit := ()
def PySem.W.Fast.tw5172037827561574030 : Unit := ()
def PySem.W.Fast.tw16865057295650888396 : Unit := ()
def PySem.W.Fast.tw268254244226447380 : Unit := ()
def PySem.W.Fast.tw18205440260965258790 : Unit := ()
def PySem.W.Fast.tw14811155476517631659 : Unit := ()
def PySem.W.Fast.tw4704644952496118585 : Unit := ()
def PySem.W.Fast.tw8198098644813751871 : Unit := ()
def PySem.W.Fast.tw6422480768288913461 : Unit := ()
def PySem.W.Fast.tw7846329587422588262 : Unit := ()
def PySem.W.Fast.tw4640599565091282503 : Unit := ()
def PySem.W.Fast.tw7497063711021860026 : Unit := ()
def PySem.W.Fast.tw16498198250656977561 : Unit := ()
def PySem.W.Fast.tw7660734410239164383 : Unit := ()
def PySem.W.Fast.tw611113410747084019 : Unit := ()
def PySem.W.Fast.tw9209956990958079377 : Unit := ()
def PySem.W.Fast.tw12748537964935987188 : Unit := ()
def PySem.W.Fast.tw914087451193350661 : Unit := ()
def PySem.W.Fast.tw17399954188336263453 : Unit := ()
def PySem.W.Fast.tw11314468910876800342 : Unit := ()
def PySem.W.Fast.tw1814648647377309568 : Unit := ()
def PySem.W.Fast.tw1127164560529550605 : Unit := ()
def PySem.W.Fast.tw6956051428156219770 : Unit := ()
def PySem.W.Fast.tw6762283255615862751 : Unit := ()
def PySem.W.Fast.tw1856999015113051695 : Unit := ()
def PySem.W.Fast.tw9255305070060629558 : Unit := ()
def PySem.W.Fast.tw7879058726292327324 : Unit := ()
def PySem.W.Fast.tw7252093965554096404 : Unit := ()
def PySem.W.Fast.tw9971972422605275833 : Unit := ()
def PySem.W.Fast.tw9054939190490558835 : Unit := ()
def PySem.W.Fast.tw716143178422081264 : Unit := ()
def PySem.W.Fast.tw15271181617881304901 : Unit := ()
def PySem.W.Fast.tw17582486233726296615 : Unit := ()
def PySem.W.Fast.tw5758922106177851611 : Unit := ()
def PySem.W.Fast.tw8322723985020125711 : Unit := ()
def PySem.W.Fast.tw6900804485100414395 : Unit := ()
def PySem.W.Fast.tw3098066376111172551 : Unit := ()
def PySem.W.Fast.tw16562911794445575828 : Unit := ()
def PySem.W.Fast.tw10279478506024623789 : Unit := ()
def PySem.W.Fast.tw194749484098913234 : Unit := ()
def PySem.W.Fast.tw2530850085119851932 : Unit := ()
def PySem.W.Fast.tw14605408263559561951 : Unit := ()
def PySem.W.Fast.tw16429695563888456520 : Unit := ()
def PySem.W.Fast.tw1036921972366756660 : Unit := ()
def PySem.W.Fast.tw16211254889357272751 : Unit := ()
def PySem.W.Fast.tw9800270059706857365 : Unit := ()
def PySem.W.Fast.tw11417608348785074024 : Unit := ()
def PySem.W.Fast.tw15371501735382171023 : Unit := ()
def PySem.W.Fast.tw13744254934361409625 : Unit := ()
def PySem.W.Fast.tw410276058309051613 : Unit := ()
def PySem.W.Fast.tw9472077996376690552 : Unit := ()
def PySem.W.Fast.tw5218863387381727718 : Unit := ()
def PySem.W.Fast.tw14258150866745091282 : Unit := ()
def PySem.W.Fast.tw6339960443122579991 : Unit := ()
def PySem.W.Fast.tw9140108912032428784 : Unit := ()
def PySem.W.Fast.tw16786380035167432100 : Unit := ()
def PySem.W.Fast.tw7627838884142748359 : Unit := ()
def PySem.W.Fast.tw17675415162926993575 : Unit := ()
def PySem.W.Fast.tw6475081095840123813 : Unit := ()
def PySem.W.Fast.tw12692836083525896190 : Unit := ()
def PySem.W.Fast.tw18358566990730066864 : Unit := ()
def PySem.W.Fast.tw14406507724592452519 : Unit := ()
def PySem.W.Fast.tw13084467404934233452 : Unit := ()
def PySem.W.Fast.tw11666196116250448067 : Unit := ()
def PySem.W.Fast.tw11292148254281696221 : Unit := ()
def PySem.W.Fast.tw17455218106482825552 : Unit := ()
def PySem.W.Fast.tw6136916770282932983 : Unit := ()
def PySem.W.Fast.tw16994329113479288425 : Unit := ()
def PySem.W.Fast.tw17122095419357310361 : Unit := ()
def PySem.W.Fast.tw9229020514613047857 : Unit := ()
def PySem.W.Fast.tw13631028110766305704 : Unit := ()
def PySem.W.Fast.tw10093826577371491121 : Unit := ()
def PySem.W.Fast.tw10805880875267667711 : Unit := ()
def PySem.W.Fast.tw13807765399434759173 : Unit := ()
def PySem.W.Fast.tw3128365466173126728 : Unit := ()
def PySem.W.Fast.tw14054716387449324268 : Unit := ()
def PySem.W.Fast.tw4964453415742938286 : Unit := ()
def PySem.W.Fast.tw7799821646573831154 : Unit := ()
def PySem.W.Fast.tw14029389957541886922 : Unit := ()
def PySem.W.Fast.tw9573876003427815510 : Unit := ()
def PySem.W.Fast.tw11370743483088306053 : Unit := ()
def PySem.W.Fast.tw17249709171321411334 : Unit := ()
def PySem.W.Fast.tw2114110620198025470 : Unit := ()
def PySem.W.Fast.tw4927609174977583106 : Unit := ()
def PySem.W.Fast.tw16481252022465817988 : Unit := ()
def PySem.W.Fast.tw4448822147307999395 : Unit := ()
def PySem.W.Fast.tw2869226803454834400 : Unit := ()
def PySem.W.Fast.tw15531551036604449377 : Unit := ()
def PySem.W.Fast.tw15559876446099376062 : Unit := ()
def PySem.W.Fast.tw16183695165398951777 : Unit := ()
def PySem.W.Fast.tw18198887282634149376 : Unit := ()
def PySem.W.Fast.tw16996251541685323021 : Unit := ()
def PySem.W.Fast.tw5628064340907761646 : Unit := ()
def PySem.W.Fast.tw4652972434251569354 : Unit := ()
def PySem.W.Fast.tw8415884249591959568 : Unit := ()
def PySem.W.Fast.tw8135572983239209068 : Unit := ()
def PySem.W.Fast.tw8622559966535774593 : Unit := ()
def PySem.W.Fast.tw7470458276854877422 : Unit := ()
def PySem.W.Fast.tw10010039100224688906 : Unit := ()
def PySem.W.Fast.tw4152305329211962455 : Unit := ()
def PySem.W.Fast.tw4173660788460819329 : Unit := ()
def PySem.W.Fast.tw11208116203677229571 : Unit := ()
def PySem.W.Fast.tw5522943624505992165 : Unit := ()
def PySem.W.Fast.tw818657576762678349 : Unit := ()
def PySem.W.Fast.tw5638996698428701396 : Unit := ()
def PySem.W.Fast.tw3858900058071867852 : Unit := ()
def PySem.W.Fast.tw11651331398781433998 : Unit := ()
def PySem.W.Fast.tw9980316757809250585 : Unit := ()
def PySem.W.Fast.tw15448066626408198245 : Unit := ()
def PySem.W.Fast.tw1150251658232488080 : Unit := ()
def PySem.W.Fast.tw8528522972171344661 : Unit := ()
def PySem.W.Fast.tw9717534839109920920 : Unit := ()
def PySem.W.Fast.tw3505774421473254878 : Unit := ()
def PySem.W.Fast.tw11551333448775285505 : Unit := ()
def PySem.W.Fast.tw15006492812602574344 : Unit := ()
def PySem.W.Fast.tw7366249986822188462 : Unit := ()
def PySem.W.Fast.tw1622544541236075472 : Unit := ()
def PySem.W.Fast.tw1460145620436924634 : Unit := ()
def PySem.W.Fast.tw16783116462370196692 : Unit := ()
def PySem.W.Fast.tw13528129080413253449 : Unit := ()
def PySem.W.Fast.tw3654967994585503413 : Unit := ()
def PySem.W.Fast.tw1342795610768303627 : Unit := ()
def PySem.W.Fast.tw3346115469701807473 : Unit := ()
def PySem.W.Fast.tw12798641221371676284 : Unit := ()
def PySem.W.Fast.tw11320228091858285226 : Unit := ()
def PySem.W.Fast.tw5168159726179488118 : Unit := ()
def PySem.W.Fast.tw13464974833555177972 : Unit := ()
def PySem.W.Fast.tw201417463745188386 : Unit := ()
def PySem.W.Fast.tw12846168995205670580 : Unit := ()
def PySem.W.Fast.tw16083877558536970602 : Unit := ()
def PySem.W.Fast.tw8593762020990007458 : Unit := ()
def PySem.W.Fast.tw8151152824581800058 : Unit := ()
def PySem.W.Fast.tw711658134925066062 : Unit := ()
def PySem.W.Fast.tw5189993154574705091 : Unit := ()
def PySem.W.Fast.tw477878175945401206 : Unit := ()
def PySem.W.Fast.tw5029047310905485745 : Unit := ()
def PySem.W.Fast.tw4349617065490388458 : Unit := ()
def PySem.W.Fast.tw13820628853947683626 : Unit := ()
def PySem.W.Fast.tw17775087560551465876 : Unit := ()
def PySem.W.Fast.tw15174468595312036039 : Unit := ()
def PySem.W.Fast.tw7531343074382309657 : Unit := ()
def PySem.W.Fast.tw902114719799816700 : Unit := ()
def PySem.W.Fast.tw11297177495949162914 : Unit := ()
def PySem.W.Fast.tw11796722110870061072 : Unit := ()
def PySem.W.Fast.tw14870808289173191129 : Unit := ()
def PySem.W.Fast.tw14013576431076024568 : Unit := ()
def PySem.W.Fast.tw16575255454872054471 : Unit := ()
def PySem.W.Fast.tw18140728741729251669 : Unit := ()
def PySem.W.Fast.tw106031952536745955 : Unit := ()
def PySem.W.Fast.tw370035687226173799 : Unit := ()
def PySem.W.Fast.tw12769603459850630994 : Unit := ()
def PySem.W.Fast.tw4469812790082828427 : Unit := ()
def PySem.W.Fast.tw9800378147257768832 : Unit := ()
def PySem.W.Fast.tw2827802945892651563 : Unit := ()
def PySem.W.Fast.tw1982860071016660009 : Unit := ()
def PySem.W.Fast.tw16223584685766130282 : Unit := ()
def PySem.W.Fast.tw11895642453629119121 : Unit := ()
def PySem.W.Fast.tw3162500503984310025 : Unit := ()
def PySem.W.Fast.tw13818883914827025936 : Unit := ()
def PySem.W.Fast.tw3120840170882562878 : Unit := ()
def PySem.W.Fast.tw9558238996982011646 : Unit := ()
def PySem.W.Fast.tw13799203304770816075 : Unit := ()
def PySem.W.Fast.tw10684385107246294549 : Unit := ()
def PySem.W.Fast.tw4713524258875243212 : Unit := ()
def PySem.W.Fast.tw7560418397350148674 : Unit := ()
def PySem.W.Fast.tw2688789977944783020 : Unit := ()
def PySem.W.Fast.tw4508656291877455687 : Unit := ()
def PySem.W.Fast.tw12821231016802543267 : Unit := ()
def PySem.W.Fast.tw10641685045368179087 : Unit := ()
def PySem.W.Fast.tw400293065800220835 : Unit := ()
def PySem.W.Fast.tw8085816413615290559 : Unit := ()
def PySem.W.Fast.tw12030031027159419917 : Unit := ()
def PySem.W.Fast.tw2549480762130182376 : Unit := ()
def PySem.W.Fast.tw9828658327655824255 : Unit := ()
def PySem.W.Fast.tw16693268876740509807 : Unit := ()
def PySem.W.Fast.tw590583762443467079 : Unit := ()
def PySem.W.Fast.tw8811707549893617470 : Unit := ()
def PySem.W.Fast.tw13250361324063763192 : Unit := ()
def PySem.W.Fast.tw14673044865158558094 : Unit := ()
def PySem.W.Fast.tw2574833739375639825 : Unit := ()
def PySem.W.Fast.tw4626200483660715841 : Unit := ()
def PySem.W.Fast.tw9862254137115416066 : Unit := ()
def PySem.W.Fast.tw1996424327117840334 : Unit := ()
def PySem.W.Fast.tw5756088394692359499 : Unit := ()
def PySem.W.Fast.tw4257038012153248431 : Unit := ()
def PySem.W.Fast.tw6970456425301011433 : Unit := ()
def PySem.W.Fast.tw13427837339696767052 : Unit := ()
def PySem.W.Fast.tw771604978180783654 : Unit := ()
def PySem.W.Fast.tw14933676978496788600 : Unit := ()
def PySem.W.Fast.tw17000744321096920106 : Unit := ()
def PySem.W.Fast.tw8478517055057267293 : Unit := ()
def PySem.W.Fast.tw9618568943861561522 : Unit := ()
def PySem.W.Fast.tw17357990919674264789 : Unit := ()
def PySem.W.Fast.tw4807798461645233252 : Unit := ()
def PySem.W.Fast.tw10211087902400700428 : Unit := ()
def PySem.W.Fast.tw2399176180060550341 : Unit := ()
def PySem.W.Fast.tw16789792268064521492 : Unit := ()
def PySem.W.Fast.tw15003562108969190830 : Unit := ()
def PySem.W.Fast.tw4651577902299678628 : Unit := ()
def PySem.W.Fast.tw495268646007845616 : Unit := ()
def PySem.W.Fast.tw12155264663871002048 : Unit := ()
def PySem.W.Fast.tw7934626198118212865 : Unit := ()
def PySem.W.Fast.tw16568299075233113448 : Unit := ()
def PySem.W.Fast.tw11851294536277929758 : Unit := ()
def PySem.W.Fast.tw2469853258309905238 : Unit := ()
def PySem.W.Fast.tw5795008066426380746 : Unit := ()
def PySem.W.Fast.tw1681325228943313493 : Unit := ()
def PySem.W.Fast.tw4610907325461937692 : Unit := ()
def PySem.W.Fast.tw9934344581520178291 : Unit := ()
def PySem.W.Fast.tw13627010375082655572 : Unit := ()
def PySem.W.Fast.tw2120679493726623301 : Unit := ()
def PySem.W.Fast.tw12897299881329740419 : Unit := ()
def PySem.W.Fast.tw17640752068030645890 : Unit := ()
def PySem.W.Fast.tw1647048936227693882 : Unit := ()
def PySem.W.Fast.tw16393834203504432633 : Unit := ()
def PySem.W.Fast.tw15198565340728556638 : Unit := ()
def PySem.W.Fast.tw8179391122500227382 : Unit := ()
def PySem.W.Fast.tw13592672374245061904 : Unit := ()
def PySem.W.Fast.tw10220736652452895916 : Unit := ()
def PySem.W.Fast.tw152371778037061393 : Unit := ()
def PySem.W.Fast.tw16260894749492042488 : Unit := ()
def PySem.W.Fast.tw10280927771722488552 : Unit := ()
def PySem.W.Fast.tw3800224753382913982 : Unit := ()
def PySem.W.Fast.tw13506072715181277475 : Unit := ()
def PySem.W.Fast.tw5296982570072672169 : Unit := ()
def PySem.W.Fast.tw6945975465083354902 : Unit := ()
def PySem.W.Fast.tw12222643945038816535 : Unit := ()
def PySem.W.Fast.tw660701761599628162 : Unit := ()
def PySem.W.Fast.tw13854105005526892000 : Unit := ()
def PySem.W.Fast.tw5656278720232741001 : Unit := ()
def PySem.W.Fast.tw10335359719419401563 : Unit := ()
def PySem.W.Fast.tw4396531488554232350 : Unit := ()
def PySem.W.Fast.tw146782204470978556 : Unit := ()
def PySem.W.Fast.tw9922808026522142856 : Unit := ()
def PySem.W.Fast.tw14262554269085757813 : Unit := ()
def PySem.W.Fast.tw1468960604768656649 : Unit := ()
def PySem.W.Fast.tw16754942739115874091 : Unit := ()
def PySem.W.Fast.tw9543338135603043385 : Unit := ()
def PySem.W.Fast.tw13320655994691957165 : Unit := ()
def PySem.W.Fast.tw14985278539534770388 : Unit := ()
def PySem.W.Fast.tw584545448058428668 : Unit := ()
def PySem.W.Fast.tw6527974123757626314 : Unit := ()
def PySem.W.Fast.tw15796557875061899122 : Unit := ()
def PySem.W.Fast.tw7352955837900181765 : Unit := ()
def PySem.W.Fast.tw6011743567055644599 : Unit := ()
def PySem.W.Fast.tw11048082810975380656 : Unit := ()
def PySem.W.Fast.tw5594869888559239916 : Unit := ()
def PySem.W.Fast.tw14768984675169119282 : Unit := ()
def PySem.W.Fast.tw10440578184415436389 : Unit := ()
def PySem.W.Fast.tw8506019009602857587 : Unit := ()
def PySem.W.Fast.tw13436815330981457817 : Unit := ()
def PySem.W.Fast.tw8011707619323402519 : Unit := ()
def PySem.W.Fast.tw7783357471402334802 : Unit := ()
def PySem.W.Fast.tw4670381218757617577 : Unit := ()
def PySem.W.Fast.tw1465389212561158650 : Unit := ()
def PySem.W.Fast.tw1459023843460853091 : Unit := ()
def PySem.W.Fast.tw1843882958670193654 : Unit := ()
def PySem.W.Fast.tw5506367223118557891 : Unit := ()
def PySem.W.Fast.tw15884904469241358142 : Unit := ()
def PySem.W.Fast.tw6168572979411946752 : Unit := ()
def PySem.W.Fast.tw540383878409334866 : Unit := ()
def PySem.W.Fast.tw6504452648001762312 : Unit := ()
def PySem.W.Fast.tw5492815032549308746 : Unit := ()
def PySem.W.Fast.tw11203725930259903707 : Unit := ()
def PySem.W.Fast.tw2472587319642573307 : Unit := ()
def PySem.W.Fast.tw9881055191255058742 : Unit := ()
def PySem.W.Fast.tw7960674800086905650 : Unit := ()
def PySem.W.Fast.tw7727227717274951202 : Unit := ()
def PySem.W.Fast.tw12465041104732052983 : Unit := ()
def PySem.W.Fast.tw5646886360599308686 : Unit := ()
def PySem.W.Fast.tw16915582899897757580 : Unit := ()
def PySem.W.Fast.tw5431333543759588141 : Unit := ()
def PySem.W.Fast.tw276318005732854797 : Unit := ()
def PySem.W.Fast.tw9355389355453647411 : Unit := ()
def PySem.W.Fast.tw10101586323263740251 : Unit := ()
def PySem.W.Fast.tw8730881383065047118 : Unit := ()
def PySem.W.Fast.tw17638908144227336877 : Unit := ()
def PySem.W.Fast.tw14287613402727298638 : Unit := ()
def PySem.W.Fast.tw6238074897536528226 : Unit := ()
def PySem.W.Fast.tw11190607748383181054 : Unit := ()
def PySem.W.Fast.tw17029598760536646024 : Unit := ()
def PySem.W.Fast.tw13206899793323349927 : Unit := ()
def PySem.W.Fast.tw9271443163981126073 : Unit := ()
def PySem.W.Fast.tw10645357855344293833 : Unit := ()
def PySem.W.Fast.tw18332847890864045255 : Unit := ()
def PySem.W.Fast.tw4380619118138804239 : Unit := ()
def PySem.W.Fast.tw3365185234891907452 : Unit := ()
def PySem.W.Fast.tw12146327479566681562 : Unit := ()
def PySem.W.Fast.tw18310053465048083809 : Unit := ()
def PySem.W.Fast.tw9646903072688977948 : Unit := ()
def PySem.W.Fast.tw7619825961547297413 : Unit := ()
def PySem.W.Fast.tw17889762995777678380 : Unit := ()
def PySem.W.Fast.tw9601940641329773135 : Unit := ()
def PySem.W.Fast.tw6754521533977784168 : Unit := ()
def PySem.W.Fast.tw4599291722316573257 : Unit := ()
def PySem.W.Fast.tw2160384472701764041 : Unit := ()
def PySem.W.Fast.tw1835321310340337688 : Unit := ()
def PySem.W.Fast.tw3587984497574064913 : Unit := ()
def PySem.W.Fast.tw14037982036654029697 : Unit := ()
def PySem.W.Fast.tw14448664089234929306 : Unit := ()
def PySem.W.Fast.tw4762816180655540651 : Unit := ()
def PySem.W.Fast.tw11270145621571639506 : Unit := ()
def PySem.W.Fast.tw17465946815232154992 : Unit := ()
def PySem.W.Fast.tw3405346812533733759 : Unit := ()
def PySem.W.Fast.tw8508769358368831763 : Unit := ()
def PySem.W.Fast.tw5916253193834281889 : Unit := ()
def PySem.W.Fast.tw15623369700707376395 : Unit := ()
def PySem.W.Fast.tw11001035464000768192 : Unit := ()
def PySem.W.Fast.tw4938885563136412926 : Unit := ()
def PySem.W.Fast.tw15752442078707904287 : Unit := ()
def PySem.W.Fast.tw6146706001050117529 : Unit := ()
def PySem.W.Fast.tw3926800292714447253 : Unit := ()
def PySem.W.Fast.tw10240559469226767370 : Unit := ()
def PySem.W.Fast.tw4306928632459674369 : Unit := ()
def PySem.W.Fast.tw7324355369641587224 : Unit := ()
def PySem.W.Fast.tw11929268990726316731 : Unit := ()
def PySem.W.Fast.tw13474594956203192358 : Unit := ()
def PySem.W.Fast.tw3884328279484942186 : Unit := ()
def PySem.W.Fast.tw8986405031859028688 : Unit := ()
def PySem.W.Fast.tw9646211694247147249 : Unit := ()
def PySem.W.Fast.tw16044310320331751168 : Unit := ()
def PySem.W.Fast.tw6506821776932804941 : Unit := ()
def PySem.W.Fast.tw12798850163260797764 : Unit := ()
def PySem.W.Fast.tw7960046584519540674 : Unit := ()
def PySem.W.Fast.tw15922298617224361509 : Unit := ()
def PySem.W.Fast.tw4194455921539516626 : Unit := ()
def PySem.W.Fast.tw3471655767594927527 : Unit := ()
def PySem.W.Fast.tw12782687826922653066 : Unit := ()
def PySem.W.Fast.tw16487582700196859677 : Unit := ()
def PySem.W.Fast.tw15697036986234442456 : Unit := ()
def PySem.W.Fast.tw10845783725732977439 : Unit := ()
def PySem.W.Fast.tw5351990095686905649 : Unit := ()
def PySem.W.Fast.tw11515600299373030506 : Unit := ()
def PySem.W.Fast.tw10715464159872864636 : Unit := ()
def PySem.W.Fast.tw5207977765880399859 : Unit := ()
def PySem.W.Fast.tw14935155009890241198 : Unit := ()
def PySem.W.Fast.tw12018190965585224628 : Unit := ()
def PySem.W.Fast.tw10528006210168315815 : Unit := ()
def PySem.W.Fast.tw8973480298853114442 : Unit := ()
def PySem.W.Fast.tw18283088321258590629 : Unit := ()
def PySem.W.Fast.tw13018590662227449283 : Unit := ()
def PySem.W.Fast.tw8598854779106466796 : Unit := ()
def PySem.W.Fast.tw1017507461460577077 : Unit := ()
def PySem.W.Fast.tw13175337292437290463 : Unit := ()
def PySem.W.Fast.tw1958595299946913141 : Unit := ()
def PySem.W.Fast.tw9929903477404394041 : Unit := ()
def PySem.W.Fast.tw16339917708591478706 : Unit := ()
def PySem.W.Fast.tw17840540686678360687 : Unit := ()
def PySem.W.Fast.tw6725436493598151182 : Unit := ()
def PySem.W.Fast.tw12480837025800239063 : Unit := ()
def PySem.W.Fast.tw2282928767664506275 : Unit := ()
def PySem.W.Fast.tw4707130964662438473 : Unit := ()
def PySem.W.Fast.tw6561757354119717655 : Unit := ()
def PySem.W.Fast.tw7315837510008919980 : Unit := ()
def PySem.W.Fast.tw13364564411151472221 : Unit := ()
def PySem.W.Fast.tw9885068159971308624 : Unit := ()
def PySem.W.Fast.tw13383947539132558110 : Unit := ()
def PySem.W.Fast.tw14078815476410158068 : Unit := ()
def PySem.W.Fast.tw264769604702481543 : Unit := ()
def PySem.W.Fast.tw1541137280023696183 : Unit := ()
def PySem.W.Fast.tw2102972233569524912 : Unit := ()
def PySem.W.Fast.tw4617327481136167089 : Unit := ()
def PySem.W.Fast.tw9645063683081251370 : Unit := ()
def PySem.W.Fast.tw5645253240340713472 : Unit := ()
def PySem.W.Fast.tw982800338212429348 : Unit := ()
def PySem.W.Fast.tw15502193010729009865 : Unit := ()
def PySem.W.Fast.tw15110976185199118232 : Unit := ()
def PySem.W.Fast.tw3014458905004303414 : Unit := ()
def PySem.W.Fast.tw3135989404343135424 : Unit := ()
def PySem.W.Fast.tw1872005080013485096 : Unit := ()
def PySem.W.Fast.tw1768619375742779786 : Unit := ()
def PySem.W.Fast.tw6310174048810465701 : Unit := ()
def PySem.W.Fast.tw8668144918435351055 : Unit := ()
def PySem.W.Fast.tw14447076589627203976 : Unit := ()
def PySem.W.Fast.tw9346640047554411535 : Unit := ()
def PySem.W.Fast.tw17580471533218142576 : Unit := ()
def PySem.W.Fast.tw4492535536458063181 : Unit := ()
def PySem.W.Fast.tw12886486825558903503 : Unit := ()
def PySem.W.Fast.tw8680903347211931506 : Unit := ()
def PySem.W.Fast.tw7159898972618647923 : Unit := ()
/-! THE HAND LAYER, for ints, bools, texts, own classes, LISTS and tuples (index, slices, in, append, pop ..), calls, loops. Paste it whole ahead of your own text; what your proof does not reach may be deleted. -/
namespace L2
open PySem PySem.Spec PyProof.Rows

/-- a key: an int or a str -/
abbrev Key := Sum Int Str
def keyIs : Key → Value → Bool
  | .inl k, v => Value.isInt k v
  | .inr x, v => Value.isStrOf x v
def keyH (w : World) : Key → Int
  | .inl k => hashInt k
  | .inr x => hashStr w x
theorem keyIs_shape : ∀ {k : Key} {v : Value}, keyIs k v = true → (∃ i t, k = Sum.inl i ∧ v = Value.int i t) ∨ (∃ x t, k = Sum.inr x ∧ v = Value.str x t)
  | .inl i, v, h => by
    obtain ⟨t, e⟩ := Value.isInt_shape (k := i) (v := v) h
    exact .inl ⟨i, t, rfl, e⟩
  | .inr x, v, h => by
    obtain ⟨t, e⟩ := Value.isStrOf_shape (x := x) (v := v) h
    exact .inr ⟨x, t, rfl, e⟩
theorem keyIs_int (i : Int) (t : Tok) : keyIs (.inl i) (.int i t) = true := by simp [keyIs, Value.isInt]
theorem keyIs_str (x : Str) (t : Tok) : keyIs (.inr x) (.str x t) = true := by simp [keyIs, Value.isStrOf]
theorem key_ll (a b : Int) : decide ((Sum.inl a : Key) = Sum.inl b) = (a == b) := by
  by_cases e : a = b
  · subst e; simp
  · have h : ¬ (Sum.inl a : Key) = Sum.inl b := fun q => e (Sum.inl.inj q)
    rw [decide_eq_false h]
    exact (beq_eq_false_iff_ne.mpr e).symm
theorem key_rr (a b : Str) : decide ((Sum.inr a : Key) = Sum.inr b) = decide (a = b) := by
  by_cases e : a = b
  · subst e; simp
  · have h : ¬ (Sum.inr a : Key) = Sum.inr b := fun q => e (Sum.inr.inj q)
    rw [decide_eq_false h, decide_eq_false e]
theorem key_lr (a : Int) (b : Str) : decide ((Sum.inl a : Key) = Sum.inr b) = false := decide_eq_false (fun q => nomatch q)
theorem key_rl (a : Str) (b : Int) : decide ((Sum.inr a : Key) = Sum.inl b) = false := decide_eq_false (fun q => nomatch q)

def mixKind (prog : Program) (w : World) : PySem.KeyKind prog w Key where
  is := keyIs
  hash := keyH w
  inj := fun v a b ha hb => by
    rcases keyIs_shape ha with ⟨i, t, rfl, rfl⟩ | ⟨x, t, rfl, rfl⟩
    · rcases keyIs_shape hb with ⟨j, u, rfl, e⟩ | ⟨y, u, rfl, e⟩
      · injection e with e1 _; rw [e1]
      · exact nomatch e
    · rcases keyIs_shape hb with ⟨j, u, rfl, e⟩ | ⟨y, u, rfl, e⟩
      · exact nomatch e
      · injection e with e1 _; rw [e1]
  byValue := fun k v h => by
    rcases keyIs_shape h with ⟨i, t, rfl, rfl⟩ | ⟨x, t, rfl, rfl⟩ <;> rfl
  pyHash := fun hv h => by
    rcases keyIs_shape hv with ⟨i, t, rfl, rfl⟩ | ⟨x, t, rfl, rfl⟩
    · exact wpAny_pyHash_int h
    · exact wpAny_pyHash_str h
  eqBool := fun hu hv h => by
    rcases keyIs_shape hu with ⟨i, t, rfl, rfl⟩ | ⟨x, t, rfl, rfl⟩
    · rcases keyIs_shape hv with ⟨j, u, rfl, rfl⟩ | ⟨y, u, rfl, rfl⟩
      · rw [key_ll] at h; exact wpAny_eqBool_int h
      · rw [key_lr] at h; exact SeqAt.EqAt.int_str i t y u _ _ _ _ h
    · rcases keyIs_shape hv with ⟨j, u, rfl, rfl⟩ | ⟨y, u, rfl, rfl⟩
      · rw [key_rl] at h; exact SeqAt.EqAt.str_int x t j u _ _ _ _ h
      · rw [key_rr] at h; exact wpAny_eqBool_str h
  «strs» := fun k x t v h => by
    rcases keyIs_shape h with ⟨i, u, rfl, e⟩ | ⟨y, u, rfl, e⟩
    · exact nomatch e
    · injection e with e1 _
      subst e1
      cases v <;> rfl

theorem mixKind_int (prog : Program) (w : World) (i : Int) (t : Tok) : (mixKind prog w).is (.inl i) (.int i t) = true := keyIs_int i t
theorem mixKind_str (prog : Program) (w : World) (x : Str) (t : Tok) : (mixKind prog w).is (.inr x) (.str x t) = true := keyIs_str x t
end L2

namespace L2
open PySem PySem.Spec PyProof.Rows

/-- a value, without the heap -/
inductive V where
  | non | bl (b : Bool) | int (i : Int) | str (x : Str) | byt (b : Array UInt8) | flt (b : UInt64) | ref (a : Addr) | ty (n : String)
  deriving DecidableEq

def RelV : V → Value → Prop
  | .non, u => u = Value.none
  | .bl b, u => u = Value.bool b
  | .int i, u => ∃ t, u = Value.int i t
  | .str x, u => ∃ t, u = Value.str x t
  | .byt b, u => ∃ t, u = Value.bytes b t
  | .flt b, u => ∃ t, u = Value.float b t
  | .ref a, u => u = Value.ref a
  | .ty n, u => u = Value.type n

abbrev Vals : List V → List Value → Prop := Paired RelV
theorem Vals.length {xs : List V} {us : List Value} (r : Vals xs us) : xs.length = us.length := Paired.length r
theorem Vals.get : ∀ {xs : List V} {us : List Value} {i : Nat} {x : V}, Vals xs us → xs[i]? = some x → ∃ u, us[i]? = some u ∧ RelV x u
  | _, _, _, _, .nil, e => by simp at e
  | _, _, 0, _, .cons r _, e => by simp at e; subst e; exact ⟨_, rfl, r⟩
  | _, _, i + 1, x, .cons _ t, e => by
    obtain ⟨u, h1, h2⟩ := Vals.get (i := i) (x := x) t (by simpa using e)
    exact ⟨u, by simpa using h1, h2⟩
theorem Vals.set {x : V} {u : Value} (r : RelV x u) : ∀ {xs : List V} {us : List Value} (i : Nat), Vals xs us → Vals (xs.set i x) (us.set i u)
  | _, _, _, .nil => .nil
  | _, _, 0, .cons _ t => .cons r t
  | _, _, i + 1, .cons q t => .cons q (Vals.set r i t)
theorem Vals.append : ∀ {xs ys : List V} {us ws : List Value}, Vals xs us → Vals ys ws → Vals (xs ++ ys) (us ++ ws)
  | _, _, _, _, .nil, s => s
  | _, _, _, _, .cons r t, s => .cons r (Vals.append t s)
theorem Vals.take : ∀ {xs : List V} {us : List Value} (n : Nat), Vals xs us → Vals (xs.take n) (us.take n)
  | _, _, 0, _ => .nil
  | _, _, _ + 1, .nil => .nil
  | _, _, n + 1, .cons r t => .cons r (Vals.take n t)
theorem Vals.drop : ∀ {xs : List V} {us : List Value} (n : Nat), Vals xs us → Vals (xs.drop n) (us.drop n)
  | _, _, 0, r => r
  | _, _, _ + 1, .nil => .nil
  | _, _, n + 1, .cons _ t => Vals.drop n t
theorem Vals.none_of : ∀ {xs : List V} {us : List Value} {i : Nat}, Vals xs us → xs[i]? = none → us[i]? = none := fun {xs us i} r e => by
  have h1 := r.length
  have h2 : xs.length ≤ i := List.getElem?_eq_none_iff.mp e
  exact List.getElem?_eq_none_iff.mpr (by omega)

def RelO : Option V → Option Value → Prop
  | some v, some u => RelV v u
  | none, none => True
  | _, _ => False
def KV {κ : Type} : List (κ × V) → List (κ × Value) → Prop := Paired fun (p : κ × V) (q : κ × Value) => p.1 = q.1 ∧ RelV p.2 q.2

/-- a key of a dict (00_mix): an int or a text -/
def kV : Key → V
  | .inl i => .int i
  | .inr x => .str x

/-- what stands at a tracked address -/
inductive HO where
  /-- a list -/
  | lst (xs : List V)
  /-- a tuple (never changes) -/
  | tup (xs : List V)
  /-- a dict whose keys are ints and texts; one whose keys are tuples of ints and texts (the empty one is both) -/
  | dK (kvs : List (Key × V)) | dT (kvs : List (List Key × V))
  /-- a set of ints: its members, its size -/
  | set (S : Int → Bool) (n : Nat)
  /-- an instance of the class at C, its dict at dx, its attributes -/
  | ins (C dx : Addr) (fs : List (Str × V))
  /-- the dict of the instance at x -/
  | own (x : Addr)
  /-- the dict of an exception -/
  | xd (fs : List (Str × V))
  /-- a bound method, f of x -/
  | met (f x : Addr)
  /-- a range object lo, lo + 1, .. below hi -/
  | rng (lo hi : Int)
  /-- a thing that is known to the object (the script; a dict while a loop walks it): read, never written while it is so -/
  | frz (o : Obj) (u : HO)
  /-- a code object's table -/
  | tbl (ps : Array Value)
  /-- any other thing, by what is true of its one object (a def of one's own: SetO a S n := HO.ext fun h => ..) -/
  | ext (φ : Heap → Prop)

abbrev Hp := Addr → Option HO
def upd (H : Hp) (a : Addr) (o : HO) : Hp := fun b => if b = a then some o else H b
theorem upd_same {H : Hp} {a : Addr} {o : HO} : upd H a o a = some o := by unfold upd; rw [if_pos rfl]
theorem upd_ne {H : Hp} {a b : Addr} {o : HO} (h : b ≠ a) : upd H a o b = H b := by unfold upd; rw [if_neg h]
/-- two objects of different content stand apart -/
theorem ne_of {H : Hp} {a b : Addr} {o u : HO} (h : H a = some o) (h' : H b = some u) (d : o ≠ u) : a ≠ b := by
  intro e; subst e; rw [h] at h'; exact d (Option.some.inj h')
theorem ne_of_none {H : Hp} {a b : Addr} {o : HO} (h : H a = some o) (h' : H b = none) : a ≠ b := by
  intro e; subst e; rw [h] at h'; cases h'

section
variable (P : Program) (w : World)
def ObjOk (H : Hp) (h : Heap) (a : Addr) : HO → Prop
  | .lst xs => xs.length ≤ sizeLine ∧ ∃ (its : List Value) (n : Nat), Vals xs its ∧ h.get? a = some { cls := .type "list", data := .seq its.toArray n }
  | .tup xs => xs.length ≤ sizeLine ∧ ∃ its : List Value, Vals xs its ∧ IsTup h a its.toArray
  | .dK kvs => kvs.length ≤ sizeLine ∧ (a == sysModules) = false ∧ ∃ vs, KV kvs vs ∧ h.DictOf (mixKind P w) a vs
  | .dT kvs => kvs.length ≤ sizeLine ∧ (a == sysModules) = false ∧ ∃ xs : List (List Key × Addr × Value),
      Paired (fun (p : List Key × V) (q : List Key × Addr × Value) => p.1 = q.1 ∧ H q.2.1 = some (.tup (p.1.map kV)) ∧ RelV p.2 q.2.2) kvs xs ∧
      ∃ o es ep, h.get? a = some o ∧ o.ExactDict ∧ o.data = .dict es ep ∧ es.toList = xs.map (entryOfKey (tupleKind (mixKind P w))) ∧ (xs.map (·.1)).Nodup
  | .set S n => h.SetOf (intKind P w) a S n
  | .ins C dx fs => H dx = some (.own a) ∧ fs.length ≤ 1000 ∧ dx ≠ a ∧ h.get? a = some (PySem.W.instObj C dx) ∧
      ∃ mA, h.Ns1 dx mA ∧ (∀ f, RelO (fs.lookup f) (mA f)) ∧ PySem.Within mA (fs.map (·.1))
  | .own _ => ∃ o, h.get? a = some o
  | .xd fs => ∃ mA, h.Ns1 a mA ∧ ∀ f, RelO (fs.lookup f) (mA f)
  | .rng lo hi => ∃ t u v, h.get? a = some { cls := .type "range", data := .fields #[.int lo t, .int hi u, .int 1 v] }
  | .frz o u => h.get? a = some o ∧ ObjOk H h a u
  | .tbl ps => h.get? a = some { cls := .none, data := .fields ps }
  | .met f x => h.get? a = some (PySem.W.methodObj (.ref f) (.ref x))
  | .ext φ => φ h ∧ (∃ o, h.get? a = some o) ∧ ∀ h1 h2 : Heap, φ h1 → (∀ o, h1.get? a = some o → h2.get? a = some o) → φ h2
/-- the abstract heap is held -/
def HOk (H : Hp) (h : Heap) : Prop := ∀ a o, H a = some o → ObjOk P w H h a o
end

section
variable {P : Program} {w : World} {H H' : Hp} {h h' : Heap} {a : Addr} {o : HO}
theorem ObjOk.lt (x : ObjOk P w H h a o) : a < h.objs.size := by
  cases o with
  | lst xs => obtain ⟨_, _, _, _, e⟩ := x; exact Heap.lt_size e
  | tup xs => obtain ⟨_, _, _, p⟩ := x; exact p.lt
  | dK kvs => obtain ⟨_, _, _, _, o, _, _, e, _⟩ := x; exact Heap.lt_size e
  | dT kvs => obtain ⟨_, _, _, _, o, _, _, e, _⟩ := x; exact Heap.lt_size e
  | set S n => obtain ⟨o, _, _, _, e, _⟩ := x; exact Heap.lt_size e
  | ins C dx fs => obtain ⟨_, _, _, e, _⟩ := x; exact Heap.lt_size e
  | own y => obtain ⟨_, e⟩ := x; exact Heap.lt_size e
  | xd fs => obtain ⟨_, ⟨_, _, _, e, _⟩, _⟩ := x; exact Heap.lt_size e
  | rng lo hi => obtain ⟨_, _, _, e⟩ := x; exact Heap.lt_size e
  | frz ob u => obtain ⟨e, _⟩ := x; exact Heap.lt_size e
  | tbl ps => exact Heap.lt_size (show h.get? a = some _ from x)
  | met f y => exact Heap.lt_size (show h.get? a = some _ from x)
  | ext φ => obtain ⟨_, ⟨_, e⟩, _⟩ := x; exact Heap.lt_size e
theorem Paired.mapP {α β : Type} {F G : α → β → Prop} : ∀ {l₁ : List α} {l₂ : List β}, Paired F l₁ l₂ → (∀ a b, F a b → G a b) → Paired G l₁ l₂
  | _, _, .nil, _ => .nil
  | _, _, .cons r t, f => .cons (f _ _ r) (Paired.mapP t f)
/-- what an object's description leans on: its own object, its own dict, the tuples -/
theorem ObjOk.stay (x : ObjOk P w H h a o) (k : ∀ b u, (b = a ∨ H b = some (.own a)) → h.get? b = some u → h'.get? b = some u)
    (ho : ∀ b, H b = some (.own a) → H' b = some (.own a)) (ht : ∀ b xs, H b = some (.tup xs) → H' b = some (.tup xs)) : ObjOk P w H' h' a o := by
  induction o with
  | lst xs => obtain ⟨z, its, n, r, e⟩ := x; exact ⟨z, its, n, r, k _ _ (.inl rfl) e⟩
  | tup xs => obtain ⟨z, its, r, ob, e, c⟩ := x; exact ⟨z, its, r, ob, k _ _ (.inl rfl) e, c⟩
  | dK kvs => obtain ⟨z, y, vs, r, ob, es, ep, e, c⟩ := x; exact ⟨z, y, vs, r, ob, es, ep, k _ _ (.inl rfl) e, c⟩
  | dT kvs =>
    obtain ⟨z, y, xs, r, ob, es, ep, e, c⟩ := x
    exact ⟨z, y, xs, Paired.mapP r fun p q z => ⟨z.1, ht _ _ z.2.1, z.2.2⟩, ob, es, ep, k _ _ (.inl rfl) e, c⟩
  | set S n => obtain ⟨ob, es, ep, t, e, c⟩ := x; exact ⟨ob, es, ep, t, k _ _ (.inl rfl) e, c⟩
  | ins C dx fs =>
    obtain ⟨d, z, ne, e, mA, ⟨od, es, ep, e2, c⟩, r⟩ := x
    exact ⟨ho _ d, z, ne, k _ _ (.inl rfl) e, mA, ⟨od, es, ep, k _ _ (.inr d) e2, c⟩, r⟩
  | own y => obtain ⟨ob, e⟩ := x; exact ⟨ob, k _ _ (.inl rfl) e⟩
  | xd fs => obtain ⟨mA, ⟨od, es, ep, e, c⟩, r⟩ := x; exact ⟨mA, ⟨od, es, ep, k _ _ (.inl rfl) e, c⟩, r⟩
  | rng lo hi => obtain ⟨t, u, v, e⟩ := x; exact ⟨t, u, v, k _ _ (.inl rfl) e⟩
  | frz ob u ih => obtain ⟨e, q⟩ := x; exact ⟨k _ _ (.inl rfl) e, ih q⟩
  | tbl ps =>
    have e : h.get? a = some { cls := .none, data := .fields ps } := x
    show h'.get? a = some { cls := .none, data := .fields ps }
    exact k a _ (.inl rfl) e
  | met f y =>
    have e : h.get? a = some (PySem.W.methodObj (.ref f) (.ref y)) := x
    show h'.get? a = some (PySem.W.methodObj (.ref f) (.ref y))
    exact k a _ (.inl rfl) e
  | ext φ => obtain ⟨p, ⟨o, e⟩, st⟩ := x; exact ⟨st _ _ p fun o q => k _ _ (.inl rfl) q, ⟨o, k _ _ (.inl rfl) e⟩, st⟩
theorem HOk.lt (x : HOk P w H h) (e : H a = some o) : a < h.objs.size := (x a o e).lt
theorem HOk.fresh (x : HOk P w H h) (e : h.objs.size ≤ a) : H a = none := by
  cases q : H a with
  | none => rfl
  | some u => exact absurd (Nat.lt_of_lt_of_le (x.lt q) e) (Nat.lt_irrefl _)
/-- every object of the heap is kept -/
theorem HOk.kept (x : HOk P w H h) (k : ∀ b u, h.get? b = some u → h'.get? b = some u) : HOk P w H h' := fun a o e =>
  (x a o e).stay (fun b u _ q => k b u q) (fun _ q => q) fun _ _ q => q
/-- a new object is laid and tracked -/
theorem HOk.laid (x : HOk P w H h) (k : ∀ b u, h.get? b = some u → h'.get? b = some u) (hp : h.objs.size ≤ a) (new : ObjOk P w (upd H a o) h' a o) : HOk P w (upd H a o) h' := fun b u e => by
  have hn := x.fresh hp
  by_cases hb : b = a
  · subst hb; rw [upd_same] at e; cases e; exact new
  · rw [upd_ne hb] at e
    exact (x b u e).stay (fun c v _ q => k c v q) (fun c q => by rw [upd_ne (ne_of_none q hn)]; exact q) fun c xs q => by rw [upd_ne (ne_of_none q hn)]; exact q
end

/-- what may be read as u: it is u, or a known u -/
def Rd (H : Hp) (a : Addr) (u : HO) : Prop := H a = some u ∨ ∃ o, H a = some (.frz o u)
theorem Rd.of {H : Hp} {a : Addr} {u : HO} (h : H a = some u) : Rd H a u := .inl h
theorem Rd.ok {P : Program} {w : World} {H : Hp} {h : Heap} {a : Addr} {u : HO} (r : Rd H a u) (x : HOk P w H h) : ObjOk P w H h a u := by
  rcases r with r | ⟨o, r⟩
  · exact x a u r
  · obtain ⟨_, q⟩ := x a _ r
    exact q
/-- what may be written -/
def Mut : Option HO → Prop
  | some (.lst _) => True
  | some (.dK _) => True
  | some (.dT _) => True
  | some (.set _ _) => True
  | some (.ins _ _ _) => True
  | some (.ext _) => True
  | _ => False
section
variable {P : Program} {w : World} {H : Hp} {h h' : Heap} {x e : Addr} {o' : HO}
/-- the object at e is changed: x itself, or the dict of the instance x -/
theorem HOk.write (ok : HOk P w H h) (mu : Mut (H x)) (he : e = x ∨ H e = some (.own x)) (k : ∀ b u, b ≠ e → h.get? b = some u → h'.get? b = some u) (heo : ∃ u, h'.get? e = some u)
    (new : ObjOk P w (upd H x o') h' x o') : HOk P w (upd H x o') h' := fun b u q => by
  have nown : ∀ c y, H c = some (.own y) → c ≠ x := fun c y r z => by subst z; rw [r] at mu; exact mu
  have ntup : ∀ c xs, H c = some (.tup xs) → c ≠ x := fun c xs r z => by subst z; rw [r] at mu; exact mu
  by_cases hb : b = x
  · subst hb; rw [upd_same] at q; cases q; exact new
  · rw [upd_ne hb] at q
    by_cases hbe : b = e
    · have q' : H b = some (.own x) := by
        rcases he with z | z
        · exact absurd (hbe.trans z) hb
        · rw [hbe]; exact z
      rw [q] at q'; cases q'
      obtain ⟨v, hv⟩ := heo
      exact ⟨v, by rw [hbe]; exact hv⟩
    · refine (ok b u q).stay (fun c v hc r => k c v ?_ r) (fun c r => by rw [upd_ne (nown c b r)]; exact r) fun c xs r => by rw [upd_ne (ntup c xs r)]; exact r
      rcases hc with rfl | hc
      · exact hbe
      · rintro rfl
        rcases he with z | z
        · exact nown c b hc z
        · rw [hc] at z; cases z; exact hb rfl
end

/-! ### kept unless tracked; of the frames at fs (the callers') the slots may change (an exception that passes writes there); of the records at ex (iterators) nothing is said -/
structure Un (fs ex : List Addr) (H H' : Hp) (h h' : Heap) : Prop where
  keep : ∀ b o, h.get? b = some o → H b = none → b ∉ fs → b ∉ ex → h'.get? b = some o
  slot : ∀ b o, h.get? b = some o → H b = none → b ∈ fs → b ∉ ex → ∃ sl, h'.get? b = some { o with slots := sl }
  free : ∀ b o, h.get? b = some o → H b = none → b ∉ ex → H' b = none
  there : ∀ b o, h.get? b = some o → b ∉ ex → ∃ o', h'.get? b = some o'
  tups : ∀ b xs, H b = some (.tup xs) → H' b = some (.tup xs)
  frzs : ∀ b o u, H b = some (.frz o u) → H' b = some (.frz o u)
  tbls : ∀ b ps, H b = some (.tbl ps) → ∃ more, H' b = some (.tbl (ps ++ more))
section
variable {fs fs' ex ex' : List Addr} {H H1 H2 : Hp} {h h1 h2 h' : Heap} {a x e : Addr} {o : HO}
theorem Un.any (u : Un fs ex H H1 h h1) {b : Addr} {ob : Obj} (q : h.get? b = some ob) (n : H b = none) (hx : b ∉ ex) : ∃ sl, h1.get? b = some { ob with slots := sl } := by
  by_cases hb : b ∈ fs
  · exact u.slot b ob q n hb hx
  · exact ⟨ob.slots, u.keep b ob q n hb hx⟩
theorem Un.trans (a : Un fs ex H H1 h h1) (b : Un fs ex H1 H2 h1 h2) : Un fs ex H H2 h h2 where
  keep := fun c ob q n hc hx => b.keep c ob (a.keep c ob q n hc hx) (a.free c ob q n hx) hc hx
  slot := fun c ob q n hc hx => by
    obtain ⟨sl, e1⟩ := a.slot c ob q n hc hx
    obtain ⟨sl', e2⟩ := b.slot c _ e1 (a.free c ob q n hx) hc hx
    exact ⟨sl', e2⟩
  free := fun c ob q n hx => by
    obtain ⟨o', e1⟩ := a.there c ob q hx
    exact b.free c o' e1 (a.free c ob q n hx) hx
  there := fun c ob q hx => by
    obtain ⟨o', e1⟩ := a.there c ob q hx
    exact b.there c o' e1 hx
  tups := fun c xs q => b.tups c xs (a.tups c xs q)
  frzs := fun c ob xs q => b.frzs c ob xs (a.frzs c ob xs q)
  tbls := fun c ps q => by
    obtain ⟨m1, e1⟩ := a.tbls c ps q
    obtain ⟨m2, e2⟩ := b.tbls c _ e1
    exact ⟨m1 ++ m2, by rw [e2, Array.append_assoc]⟩
theorem Un.kept (k : ∀ b u, h.get? b = some u → h'.get? b = some u) : Un fs ex H H h h' :=
  ⟨fun b ob q _ _ _ => k b ob q, fun b ob q _ _ _ => ⟨ob.slots, k b ob q⟩, fun _ _ _ n _ => n, fun b ob q _ => ⟨ob, k b ob q⟩, fun _ _ q => q, fun _ _ _ q => q, fun _ ps q => ⟨#[], by rw [q]; simp⟩⟩
theorem Un.refl : Un fs ex H H h h := Un.kept fun _ _ q => q
theorem Un.laid (k : ∀ b u, h.get? b = some u → h'.get? b = some u) (hp : h.objs.size ≤ a) (hn : H a = none) : Un fs ex H (upd H a o) h h' where
  keep := fun b u q _ _ _ => k b u q
  slot := fun b u q _ _ _ => ⟨u.slots, k b u q⟩
  free := fun b u q n _ => by rw [upd_ne (Nat.ne_of_lt (Nat.lt_of_lt_of_le (Heap.lt_size q) hp))]; exact n
  there := fun b u q _ => ⟨u, k b u q⟩
  tups := fun b xs q => by rw [upd_ne (ne_of_none q hn)]; exact q
  frzs := fun b u xs q => by rw [upd_ne (ne_of_none q hn)]; exact q
  tbls := fun b ps q => ⟨#[], by rw [upd_ne (ne_of_none q hn), q]; simp⟩
theorem Un.write (mu : Mut (H x)) (he : e = x ∨ H e = some (.own x)) (k : ∀ b u, b ≠ e → h.get? b = some u → h'.get? b = some u) (heo : ∃ u, h'.get? e = some u) : Un fs ex H (upd H x o) h h' := by
  have hx : ∀ b, H b = none → b ≠ x := fun b n z => by subst z; rw [n] at mu; exact mu
  have hb : ∀ b, H b = none → b ≠ e := fun b n z => by
    subst z
    rcases he with r | r
    · exact hx b n r
    · rw [n] at r; cases r
  have hm : ∀ b u, H b = some u → ¬ Mut (some u) → b ≠ x := fun b u q nm z => by subst z; rw [q] at mu; exact nm mu
  refine ⟨fun b u q n _ _ => k b u (hb b n) q, fun b u q n _ _ => ⟨u.slots, k b u (hb b n) q⟩, fun b u q n _ => by rw [upd_ne (hx b n)]; exact n, fun b u q _ => ?_,
    fun b xs q => by rw [upd_ne (hm b _ q fun z => z)]; exact q, fun b u xs q => by rw [upd_ne (hm b _ q fun z => z)]; exact q, fun b ps q => ⟨#[], by rw [upd_ne (hm b _ q fun z => z), q]; simp⟩⟩
  by_cases hbe : b = e
  · subst hbe; exact heo
  · exact ⟨u, k b u hbe q⟩
theorem Un.mono (u : Un fs ex H H1 h h1) (hs : ∀ b ∈ fs, b ∈ fs') (hx : ∀ b ∈ ex, b ∈ ex') : Un fs' ex' H H1 h h1 :=
  ⟨fun b ob q n hb he => u.keep b ob q n (fun z => hb (hs b z)) fun z => he (hx b z), fun _ _ q n _ he => u.any q n fun z => he (hx _ z), fun b ob q n he => u.free b ob q n fun z => he (hx b z), fun b ob q he => u.there b ob q fun z => he (hx b z), u.tups, u.frzs, u.tbls⟩
end

/-! ### the heap without what is tracked -/
def trk (h : Heap) (H : Hp) : List Addr := (List.range h.objs.size).filter fun a => (H a).isSome
def hidT (h : Heap) (H : Hp) : Heap := PySem.W.hideAll h (trk h H)
theorem hidT_size (h : Heap) (H : Hp) : (hidT h H).objs.size = h.objs.size := PySem.W.hideAll_size _ _
theorem hidT_get {h : Heap} {H : Hp} {b : Addr} {o : Obj} (e : h.get? b = some o) (n : H b = none) : (hidT h H).get? b = some o :=
  PySem.W.hideAll_get _ e fun hm => by
    have q : (H b).isSome = true := (List.mem_filter.mp hm).2
    rw [n] at q; simp at q
theorem of_hidT {h : Heap} {H : Hp} {b : Addr} {o : Obj} (e : (hidT h H).get? b = some o) : h.get? b = some o ∧ H b = none := by
  have e' : h.get? b = some o := PySem.W.of_hideAll (trk h H) e
  refine ⟨e', ?_⟩
  cases q : H b with
  | none => rfl
  | some x =>
    have hm : b ∈ trk h H := List.mem_filter.mpr ⟨List.mem_range.mpr (Heap.lt_size e'), by simp [q]⟩
    have z : (hidT h H).get? b = none := PySem.W.hideAll_none (trk h H) hm
    rw [z] at e; cases e

/-! ### OpenK's ledger, filled with every new object but one -/
def allNews (g h : Heap) (L : Addr) : List (Addr × Obj) := (List.range h.objs.size).filterMap fun a => if a = L ∨ (g.get? a).isSome = true then none else (h.get? a).map fun o => (a, o)
def rest (g h : Heap) (L d : Addr) : List (Addr × Obj) := (allNews g h L).filter fun p => decide (p.1 ≠ d)
end L2

namespace L2
open PySem PySem.Spec PyProof.Rows

/-- the module's facts, over the base: the heap at the law's entry without what is tracked there -/
structure Mod (K : PySem.W.Frag) (mg : Str → Option Value) (base : Heap) : Prop where
  kin : K.In base
  glob : base.Ns mainGlobals mg
  blt : ∃ mb, base.Ns builtinsNs mb ∧ ∀ x : Str, x ≠ "__name__" → mb x = bootBuiltins x
  nolimit : base.NoLimit

/-- the context: a def's body (or a comprehension's block) running. base: fixed through the whole law; s₀, H₀: the entry; outer: the frames whose slots others may change (a def's callers); stack: all frames that run;
   ex: iterators that were made ahead of the entry and are walked here (a comprehension's); fn: the names whose cells were made at the entry (a def: all; a comprehension's block: its own); calm: not within an except suite; pn: pins that every state bears; xe: what is wanted of an exception that leaves the code -/
structure Cx where
  prog : Program
  w : World
  K : PySem.W.Frag
  mg : Str → Option Value
  base : Heap
  A : Around
  N : List Str
  s₀ : Shared
  H₀ : Hp
  env : Env
  outer : List Env
  stack : List Env
  ex : List Addr
  fn : Str → Bool
  calm : Bool
  pn : List (Addr × Obj)
  xe : Value → Shared → Prop
/-- the callers' frames -/
def frs (l : List Env) : List Addr := l.filterMap (·.frame)
abbrev Cx.fs (X : Cx) : List Addr := frs X.outer

def Vis (sc : Scope) (x : Str) : Prop := sc.names.lookup x = some .local ∨ sc.names.lookup x = some .cell ∨ sc.names.lookup x = some .free
def Loc (sc : Scope) (x : Str) : Prop := sc.names.lookup x = some .local ∨ sc.names.lookup x = some .cell
def Look (env : Env) (h : Heap) (m : Str → Option Value) (x : Str) (u : Value) : Prop :=
  (env.kindOf x = some .local ∧ m x = some u) ∨ ((env.kindOf x = some .cell ∨ env.kindOf x = some .free) ∧ ∃ c, env.cells.lookup x = some c ∧ h.IsCell c (some u))

structure Cx.Ok (X : Cx) : Prop where
  mod : Mod X.K X.mg X.base
  kind : X.env.scope.kind = .function
  glob : X.env.globals = mainGlobals
  blt : X.env.builtins = builtinsNs
  above : X.s₀.heap.objs.size ≤ X.env.locals
  inj : ∀ x y c, X.env.cells.lookup x = some c → X.env.cells.lookup y = some c → x = y
  has : ∀ x, (X.env.kindOf x = some .cell ∨ X.env.kindOf x = some .free) → ∃ c, X.env.cells.lookup x = some c
  cab : ∀ x c, X.fn x = true → X.env.cells.lookup x = some c → X.s₀.heap.objs.size ≤ c
  hd : X.calm = true → X.A.handled = none
  frames : X.A.frames = some X.stack
  stk : X.stack = X.outer ∨ (X.stack = X.env :: X.outer ∧ X.env.frame = some X.env.locals)
  exf : ∀ b ∈ X.ex, b ≠ X.env.locals ∧ ∀ x c, X.env.cells.lookup x = some c → c ≠ b
  bs : ∀ b o, X.base.get? b = some o → X.s₀.heap.get? b = some o ∧ X.H₀ b = none
  bsz : X.base.objs.size ≤ X.s₀.heap.objs.size
  noex : ∀ b o, X.base.get? b = some o → b ∉ X.ex
  exfs : ∀ b ∈ X.ex, b ∉ X.fs
  funs : X.s₀.heap.FunFrames X.base X.outer
  frf : ∀ b ∈ X.fs, X.H₀ b = none

structure Inv (X : Cx) (pins : List (Addr × Obj)) (σ : List (Option V)) (H : Hp) (s : Shared) : Prop where
  ok : X.Ok
  os : s.os = X.s₀.os
  bare : AllBare s.gens
  base : Un X.fs X.ex X.H₀ H X.s₀.heap s.heap
  loc : ∃ m, s.heap.Ns X.env.locals m ∧ ∀ (i : Nat) (x : Str) (v : V), X.N[i]? = some x → σ[i]? = some (some v) → Vis X.env.scope x → ∃ u, RelV v u ∧ Look X.env s.heap m x u
  cell : ∀ x c, X.env.cells.lookup x = some c → ∃ v, s.heap.IsCell c v
  free : H X.env.locals = none
  freeC : ∀ x c, X.env.cells.lookup x = some c → H c = none
  pin : ∀ p ∈ X.pn ++ pins, s.heap.get? p.1 = some p.2 ∧ H p.1 = none ∧ p.1 ≠ X.env.locals ∧ p.1 ∉ X.fs ∧ ∀ v, p.2.data ≠ .cell v
  hok : HOk X.prog X.w H s.heap
  len : σ.length = X.N.length

section
variable {X : Cx} {pins : List (Addr × Obj)} {σ : List (Option V)} {H H' : Hp} {s : Shared} {h' : Heap}

theorem Cx.Ok.nofr (ok : X.Ok) {b : Addr} {o : Obj} (e : X.base.get? b = some o) : b ∉ X.fs := fun hb => by
  have := (ok.funs.mem hb).1
  rw [e] at this; cases this
theorem Inv.bs (I : Inv X pins σ H s) : ∀ b o, X.base.get? b = some o → s.heap.get? b = some o ∧ H b = none := fun b o e =>
  ⟨I.base.keep b o (I.ok.bs b o e).1 (I.ok.bs b o e).2 (I.ok.nofr e) (I.ok.noex b o e), I.base.free b o (I.ok.bs b o e).1 (I.ok.bs b o e).2 (I.ok.noex b o e)⟩
theorem Inv.bk (I : Inv X pins σ H s) : ∀ b o, X.base.get? b = some o → s.heap.get? b = some o := fun b o e => (I.bs b o e).1
theorem Inv.mod (I : Inv X pins σ H s) : Mod X.K X.mg X.base := I.ok.mod
theorem Inv.kIn (I : Inv X pins σ H s) : X.K.In s.heap := I.ok.mod.kin.keeps I.bk
theorem Inv.nolimit (I : Inv X pins σ H s) : s.heap.NoLimit := I.ok.mod.nolimit.keeps I.bk
theorem Inv.lt (I : Inv X pins σ H s) : X.env.locals < s.heap.objs.size := let ⟨_, hn, _⟩ := I.loc; hn.lt
theorem Inv.sz (I : Inv X pins σ H s) : X.s₀.heap.objs.size ≤ s.heap.objs.size := Nat.le_trans I.ok.above (Nat.le_of_lt I.lt)
theorem Inv.nofs (I : Inv X pins σ H s) {a : Addr} (h : s.heap.objs.size ≤ a) : a ∉ X.fs := fun hb => by
  obtain ⟨_, o, ho, _⟩ := I.ok.funs.mem hb
  exact absurd (Nat.lt_of_lt_of_le (Heap.lt_size ho) (Nat.le_trans I.sz h)) (Nat.lt_irrefl _)
theorem Inv.cne (I : Inv X pins σ H s) : ∀ x c, X.env.cells.lookup x = some c → c ≠ X.env.locals := fun x c e z => by
  obtain ⟨v, o, ho, hd⟩ := I.cell x c e
  obtain ⟨m, ⟨o', es, ep, ho', hd', _⟩, _⟩ := I.loc
  rw [z, ho'] at ho; cases ho; rw [hd'] at hd; cases hd
theorem Inv.funs (I : Inv X pins σ H s) : s.heap.FunFrames X.base X.outer := by
  have all : ∀ (l : List Env), (∀ b ∈ frs l, b ∈ X.fs) → X.s₀.heap.FunFrames X.base l → s.heap.FunFrames X.base l := by
    intro l
    induction l with
    | nil => intro _ _; trivial
    | cons env r ih =>
      intro hs hl
      obtain ⟨hk, ⟨L, o, hf, hn, ho, hd⟩, hr⟩ := hl
      have hL : L ∈ X.fs := hs L (by unfold frs; rw [List.filterMap_cons, hf]; exact List.mem_cons_self)
      obtain ⟨sl, e⟩ := I.base.slot L o ho (I.ok.frf L hL) hL fun z => I.ok.exfs L z hL
      exact ⟨hk, ⟨L, _, hf, hn, e, hd⟩, ih (fun b hb => hs b (by unfold frs; rw [List.filterMap_cons, hf]; exact List.mem_cons_of_mem _ hb)) hr⟩
  exact all X.outer (fun _ hb => hb) I.ok.funs

/-- the frames that run, for a call -/
theorem Inv.stack (I : Inv X pins σ H s) : s.heap.FunFrames X.base X.stack := by
  rcases I.ok.stk with e | ⟨e, hf⟩
  · rw [e]; exact I.funs
  · rw [e]
    obtain ⟨m, hn, _⟩ := I.loc
    refine .cons (by rw [I.ok.kind]; decide) hf hn ?_ I.funs
    exact Heap.get?_none_of_le (Nat.le_trans I.ok.bsz I.ok.above)
theorem Inv.stkSub (I : Inv X pins σ H s) : ∀ b ∈ frs X.stack, b ∈ X.env.locals :: X.fs := fun b hb => by
  rcases I.ok.stk with e | ⟨e, hf⟩
  · rw [e] at hb; exact List.mem_cons_of_mem _ hb
  · rw [e] at hb
    unfold frs at hb
    rw [List.filterMap_cons, hf] at hb
    exact hb
theorem Inv.stkFree (I : Inv X pins σ H s) : ∀ b ∈ frs X.stack, H b = none := fun b hb => by
  rcases List.mem_cons.mp (I.stkSub b hb) with e | hb
  · rw [e]; exact I.free
  · obtain ⟨_, o, ho, _⟩ := I.ok.funs.mem hb
    exact I.base.free b o ho (I.ok.frf b hb) fun z => I.ok.exfs b z hb

/-- THE STEP: the untracked objects but the frame and the records at ch are kept (the callers' frames up to slots), the frame's map is kept, the new abstract heap is held -/
theorem Inv.step {g' : Array GenState} {t' : Nat} {d' : Drawn} {ch : List Addr} (I : Inv X pins σ H s)
    (hch : ∀ b ∈ ch, (b ∈ X.ex ∨ X.s₀.heap.objs.size ≤ b) ∧ b ≠ X.env.locals ∧ (∀ x c, X.env.cells.lookup x = some c → c ≠ b) ∧ ∀ p ∈ X.pn ++ pins, p.1 ≠ b)
    (keep : ∀ b o, b ≠ X.env.locals → b ∉ X.fs → b ∉ ch → s.heap.get? b = some o → H b = none → h'.get? b = some o)
    (slot : ∀ b o, b ≠ X.env.locals → b ∈ X.fs → b ∉ ch → s.heap.get? b = some o → H b = none → ∃ sl, h'.get? b = some { o with slots := sl }) (free : ∀ b o, b ∉ ch → s.heap.get? b = some o → H b = none → H' b = none)
    (there : ∀ b o, b ∉ ch → s.heap.get? b = some o → ∃ o', h'.get? b = some o')
    (tups : ∀ b xs, H b = some (.tup xs) → H' b = some (.tup xs)) (frzs : ∀ b o u, H b = some (.frz o u) → H' b = some (.frz o u)) (tbls : ∀ b ps, H b = some (.tbl ps) → ∃ more, H' b = some (.tbl (ps ++ more)))
    (ns : ∀ m, s.heap.Ns X.env.locals m → h'.Ns X.env.locals m) (hok : HOk X.prog X.w H' h') (hg : AllBare g') :
    Inv X pins σ H' { s with heap := h', gens := g', drawn := d', toks := t' } := by
  have neL : ∀ b o, X.s₀.heap.get? b = some o → b ≠ X.env.locals := fun b o e => Nat.ne_of_lt (Nat.lt_of_lt_of_le (Heap.lt_size e) I.ok.above)
  have neC : ∀ b o, X.s₀.heap.get? b = some o → b ∉ X.ex → b ∉ ch := fun b o e hx hb => by
    rcases (hch b hb).1 with z | z
    · exact hx z
    · exact absurd (Nat.lt_of_lt_of_le (Heap.lt_size e) z) (Nat.lt_irrefl _)
  have cellK : ∀ x c, X.env.cells.lookup x = some c → ∀ v, s.heap.IsCell c v → h'.IsCell c v := fun x c e v ⟨o, ho, hd⟩ => by
    have nch : c ∉ ch := fun z => (hch c z).2.2.1 x c e rfl
    by_cases hc : c ∈ X.fs
    · obtain ⟨sl, q⟩ := slot c o (I.cne x c e) hc nch ho (I.freeC x c e)
      exact ⟨_, q, hd⟩
    · exact ⟨o, keep c o (I.cne x c e) hc nch ho (I.freeC x c e), hd⟩
  refine ⟨I.ok, I.os, hg, ⟨fun b o e n hb hx => ?_, fun b o e n hb hx => ?_, fun b o e n hx => ?_, fun b o e hx => ?_, fun b xs e => tups b xs (I.base.tups b xs e), fun b o xs e => frzs b o xs (I.base.frzs b o xs e), fun b ps e => ?_⟩, ?_, fun x c e => ?_, ?_, fun x c e => ?_, fun p hp => ?_, hok, I.len⟩
  · exact keep b o (neL b o e) hb (neC b o e hx) (I.base.keep b o e n hb hx) (I.base.free b o e n hx)
  · obtain ⟨sl, e1⟩ := I.base.slot b o e n hb hx
    obtain ⟨sl', e2⟩ := slot b _ (neL b o e) hb (neC b o e hx) e1 (I.base.free b o e n hx)
    exact ⟨sl', e2⟩
  · obtain ⟨o', e1⟩ := I.base.there b o e hx
    exact free b o' (neC b o e hx) e1 (I.base.free b o e n hx)
  · obtain ⟨o', e1⟩ := I.base.there b o e hx
    exact there b o' (neC b o e hx) e1
  · obtain ⟨m1, e1⟩ := I.base.tbls b ps e
    obtain ⟨m2, e2⟩ := tbls b _ e1
    exact ⟨m1 ++ m2, by rw [e2, Array.append_assoc]⟩
  · obtain ⟨m, hn, hl⟩ := I.loc
    refine ⟨m, ns m hn, fun i x v e1 e2 e3 => ?_⟩
    obtain ⟨u, r, l⟩ := hl i x v e1 e2 e3
    refine ⟨u, r, ?_⟩
    rcases l with l | ⟨k, c, e, z⟩
    · exact .inl l
    · exact .inr ⟨k, c, e, cellK x c e _ z⟩
  · obtain ⟨v, z⟩ := I.cell x c e
    exact ⟨v, cellK x c e v z⟩
  · obtain ⟨m, ⟨o, _, _, ho, _⟩, _⟩ := I.loc
    exact free _ o (fun z => (hch _ z).2.1 rfl) ho I.free
  · obtain ⟨v, o, ho, hd⟩ := I.cell x c e
    exact free c o (fun z => (hch c z).2.2.1 x c e rfl) ho (I.freeC x c e)
  · obtain ⟨e, n, ne, nf, d⟩ := I.pin p hp
    have nch : p.1 ∉ ch := fun z => (hch p.1 z).2.2.2 p hp rfl
    exact ⟨keep p.1 p.2 ne nf nch e n, free p.1 p.2 nch e n, ne, nf, d⟩
/-- .. where the frame's own object is kept too -/
theorem Inv.un {t' : Nat} (I : Inv X pins σ H s) (u : Un X.fs [] H H' s.heap h') (hok : HOk X.prog X.w H' h') : Inv X pins σ H' { s with heap := h', toks := t' } := by
  obtain ⟨m, ⟨o, es, ep, ho, r⟩, _⟩ := id I.loc
  obtain ⟨sl, hL⟩ := u.any ho I.free (by simp)
  exact I.step (g' := s.gens) (d' := s.drawn) (ch := []) (fun _ z => nomatch z) (fun b o _ hb _ e n => u.keep b o e n hb (by simp)) (fun b o _ hb _ e n => u.slot b o e n hb (by simp)) (fun b o _ e n => u.free b o e n (by simp)) (fun b o _ e => u.there b o e (by simp)) u.tups u.frzs u.tbls (fun m' hm => by
    obtain ⟨o', es', ep', ho', r'⟩ := hm
    rw [ho] at ho'; cases ho'
    exact ⟨_, es', ep', hL, r'⟩) hok I.bare
/-- behind a call (or a comprehension's block): the slots of this frame may have changed too, the records at ch may have turned -/
theorem Inv.call {g' : Array GenState} {t' : Nat} {d' : Drawn} {ch : List Addr} (I : Inv X pins σ H s) (u : Un (frs X.stack) ch H H' s.heap h') (hok : HOk X.prog X.w H' h') (hg : AllBare g')
    (hch : ∀ b ∈ ch, (b ∈ X.ex ∨ X.s₀.heap.objs.size ≤ b) ∧ b ≠ X.env.locals ∧ (∀ x c, X.env.cells.lookup x = some c → c ≠ b) ∧ ∀ p ∈ X.pn ++ pins, p.1 ≠ b) :
    Inv X pins σ H' { s with heap := h', gens := g', drawn := d', toks := t' } := by
  obtain ⟨m, ⟨o, es, ep, ho, r⟩, _⟩ := id I.loc
  obtain ⟨sl, hL⟩ := u.any ho I.free fun z => (hch _ z).2.1 rfl
  exact I.step (ch := ch) hch (fun b o hL hb hc e n => u.keep b o e n (fun z => (List.mem_cons.mp (I.stkSub b z)).elim hL hb) hc) (fun b o _ _ hc e n => u.any e n hc) (fun b o hc e n => u.free b o e n hc) (fun b o hc e => u.there b o e hc) u.tups u.frzs u.tbls (fun m' hm => by
    obtain ⟨o', es', ep', ho', r'⟩ := hm
    rw [ho] at ho'; cases ho'
    exact ⟨_, es', ep', hL, r'⟩) hok hg
/-- an untracked record of ours (an iterator) has turned -/
theorem Inv.turned {t' : Nat} {it : Addr} (I : Inv X pins σ H s) (k : ∀ b o, b ≠ it → s.heap.get? b = some o → h'.get? b = some o) (hn : H it = none) (hL : it ≠ X.env.locals)
    (h1 : it ∈ X.ex ∨ X.s₀.heap.objs.size ≤ it) (h2 : ∀ x c, X.env.cells.lookup x = some c → c ≠ it) (h3 : ∀ p ∈ X.pn ++ pins, p.1 ≠ it) : Inv X pins σ H { s with heap := h', toks := t' } := by
  have nit : ∀ b u, H b = some u → b ≠ it := fun b u e z => by rw [z, hn] at e; cases e
  refine I.step (g' := s.gens) (d' := s.drawn) (ch := [it]) (fun b hb => ?_) (fun b o _ _ hc e _ => k b o (fun z => hc (by simp [z])) e) (fun b o _ _ hc e _ => ⟨o.slots, k b o (fun z => hc (by simp [z])) e⟩) (fun _ _ _ _ n => n)
    (fun b o hc e => ⟨o, k b o (fun z => hc (by simp [z])) e⟩) (fun _ _ e => e) (fun _ _ _ e => e) (fun b ps e => ⟨#[], by rw [e]; simp⟩) (fun m hm => ?_) (fun b u e => ?_) I.bare
  · have e : b = it := by simpa using hb
    subst e
    exact ⟨h1, hL, h2, h3⟩
  · obtain ⟨o, es, ep, ho, r⟩ := hm
    exact ⟨o, es, ep, k _ o (Ne.symm hL) ho, r⟩
  · refine (I.hok b u e).stay (fun c v hc q => k c v ?_ q) (fun _ q => q) fun _ _ q => q
    rcases hc with z | z
    · rw [z]; exact nit b u e
    · exact nit c _ z
theorem Inv.tok (I : Inv X pins σ H s) (t : Nat) : Inv X pins σ H { s with toks := t } := I.un (h' := s.heap) (t' := t) Un.refl I.hok
/-- all objects kept -/
theorem Inv.kept {t' : Nat} (I : Inv X pins σ H s) (k : ∀ b u, s.heap.get? b = some u → h'.get? b = some u) : Inv X pins σ H { s with heap := h', toks := t' } := I.un (Un.kept k) (I.hok.kept k)
/-- a new object laid and tracked -/
theorem Inv.laid {a : Addr} {o : HO} {t' : Nat} (I : Inv X pins σ H s) (k : ∀ b u, s.heap.get? b = some u → h'.get? b = some u) (hp : s.heap.objs.size ≤ a) (new : ObjOk X.prog X.w (upd H a o) h' a o) :
    Inv X pins σ (upd H a o) { s with heap := h', toks := t' } := I.un (Un.laid k hp (I.hok.fresh hp)) (I.hok.laid k hp new)
/-- an object written -/
theorem Inv.write {x e : Addr} {o : HO} {t' : Nat} (I : Inv X pins σ H s) (mu : Mut (H x)) (he : e = x ∨ H e = some (.own x)) (k : ∀ b u, b ≠ e → s.heap.get? b = some u → h'.get? b = some u) (heo : ∃ u, h'.get? e = some u)
    (new : ObjOk X.prog X.w (upd H x o) h' x o) : Inv X pins σ (upd H x o) { s with heap := h', toks := t' } := I.un (Un.write mu he k heo) (I.hok.write mu he k heo new)
theorem Inv.pins_of {pins' : List (Addr × Obj)} (I : Inv X pins σ H s) (h : ∀ p ∈ pins', s.heap.get? p.1 = some p.2 ∧ H p.1 = none ∧ p.1 ≠ X.env.locals ∧ p.1 ∉ X.fs ∧ ∀ v, p.2.data ≠ .cell v) : Inv X pins' σ H s :=
  ⟨I.ok, I.os, I.bare, I.base, I.loc, I.cell, I.free, I.freeC, fun p hp => (List.mem_append.mp hp).elim (fun z => I.pin p (List.mem_append_left _ z)) (h p), I.hok, I.len⟩

theorem nodup_ix {N : List Str} (hN : N.Nodup) {i j : Nat} {x : Str} (a : N[i]? = some x) (b : N[j]? = some x) : i = j := by
  obtain ⟨h1, e1⟩ := List.getElem?_eq_some_iff.mp a
  obtain ⟨h2, e2⟩ := List.getElem?_eq_some_iff.mp b
  exact (List.getElem_inj hN).mp (e1.trans e2.symm)

/-- a name is stored; what changed -/
theorem store_ok2 {M : Model} {A : Around} {E : Value → Shared → Prop} {i : Nat} {x : Str} {v : V} {u : Value} {Q : Unit → Shared → Prop} (I : Inv X pins σ H s) (hN : X.N.Nodup) (hi : X.N[i]? = some x) (hx : Loc X.env.scope x) (r : RelV v u)
    (h : ∀ s', Inv X pins (σ.set i (some v)) H s' → (∃ a, Heap.SameBut a s.heap s'.heap ∧ (a = X.env.locals ∨ X.env.cells.lookup x = some a)) → Q () s') (hf : X.fn x = true ∨ X.env.scope.names.lookup x = some .local := by first | exact .inl rfl | exact .inr rfl | assumption) : wpAny M A (storeName X.env x u) Q E s := by
  obtain ⟨m, hn, hl⟩ := id I.loc
  have hcls : (X.env.scope.kind == .class || (X.env.scope.kind == .module && X.env.locals != X.env.globals)) = false := by rw [I.ok.kind]; rfl
  have hiσ : i < σ.length := by rw [I.len]; exact (List.getElem?_eq_some_iff.mp hi).1
  have cne := I.cne
  have tracked : ∀ {a : Addr} {h' : Heap}, (∃ o, s.heap.get? a = some o ∧ H a = none) → Heap.SameBut a s.heap h' → HOk X.prog X.w H h' := fun {a h'} ha hs b ob e => by
    obtain ⟨_, _, hfree⟩ := ha
    refine (I.hok b ob e).stay (fun c w' hc q => (hs.2 c ?_).trans q) (fun _ q => q) fun _ _ q => q
    rintro rfl
    rcases hc with rfl | hc
    · rw [hfree] at e; cases e
    · rw [hfree] at hc; cases hc
  rcases hx with hk | hk
  · refine wpAny_storeName_local hk hn (fun h' hn' hs => ?_) hcls
    obtain ⟨oL, _, _, hoL, _⟩ := id hn
    refine h _ ⟨I.ok, I.os, I.bare, ⟨fun b o e n hb hx => ?_, fun b o e n hb hx => ?_, I.base.free, fun b o e hx => ?_, I.base.tups, I.base.frzs, I.base.tbls⟩, ⟨_, hn', fun j y v' e1 e2 e3 => ?_⟩, fun y c e => ?_, I.free, I.freeC, fun p hp => ?_, tracked ⟨oL, hoL, I.free⟩ hs, by simpa using I.len⟩ ⟨_, hs, .inl rfl⟩
    · exact (hs.2 b (Nat.ne_of_lt (Nat.lt_of_lt_of_le (Heap.lt_size e) I.ok.above))).trans (I.base.keep b o e n hb hx)
    · obtain ⟨sl, e1⟩ := I.base.slot b o e n hb hx
      exact ⟨sl, (hs.2 b (Nat.ne_of_lt (Nat.lt_of_lt_of_le (Heap.lt_size e) I.ok.above))).trans e1⟩
    · obtain ⟨o', e1⟩ := I.base.there b o e hx
      exact ⟨o', (hs.2 b (Nat.ne_of_lt (Nat.lt_of_lt_of_le (Heap.lt_size e) I.ok.above))).trans e1⟩
    · by_cases hj : j = i
      · subst hj
        rw [hi] at e1; cases e1
        rw [List.getElem?_set_self hiσ] at e2
        cases e2
        exact ⟨u, r, .inl ⟨hk, by simp⟩⟩
      · rw [List.getElem?_set_ne (Ne.symm hj)] at e2
        obtain ⟨u', r', q⟩ := hl j y v' e1 e2 e3
        refine ⟨u', r', ?_⟩
        rcases q with ⟨k, e⟩ | ⟨k, c, e, z⟩
        · refine .inl ⟨k, ?_⟩
          have : y ≠ x := fun e => hj (nodup_ix hN e1 (e ▸ hi))
          simp [this, e]
        · exact .inr ⟨k, c, e, z.sameBut hs (cne y c e)⟩
    · obtain ⟨w', z⟩ := I.cell y c e
      exact ⟨w', z.sameBut hs (cne y c e)⟩
    · obtain ⟨e, n, ne, nf, d⟩ := I.pin p hp
      exact ⟨(hs.2 p.1 ne).trans e, n, ne, nf, d⟩
  · have hfn : X.fn x = true := by
      rcases hf with z | z
      · exact z
      · rw [z] at hk; cases hk
    obtain ⟨c, hc⟩ := I.ok.has x (.inl hk)
    obtain ⟨w', z⟩ := I.cell x c hc
    refine wpAny_storeName_cell I.ok.kind hk hc z (fun h' hc' hs => ?_)
    obtain ⟨oc, hoc, hocd⟩ := id z
    refine h { s with heap := h' } ⟨I.ok, I.os, I.bare, ⟨fun b o e n hb hx => ?_, fun b o e n hb hx => ?_, I.base.free, fun b o e hx => ?_, I.base.tups, I.base.frzs, I.base.tbls⟩, ⟨m, hn.sameBut hs (Ne.symm (cne x c hc)), fun j y v' e1 e2 e3 => ?_⟩, fun y c' e => ?_, I.free, I.freeC, fun p hp => ?_, tracked ⟨oc, hoc, I.freeC x c hc⟩ hs, by simpa using I.len⟩ ⟨c, hs, .inr hc⟩
    · exact (hs.2 b (Nat.ne_of_lt (Nat.lt_of_lt_of_le (Heap.lt_size e) (I.ok.cab x c hfn hc)))).trans (I.base.keep b o e n hb hx)
    · obtain ⟨sl, e1⟩ := I.base.slot b o e n hb hx
      exact ⟨sl, (hs.2 b (Nat.ne_of_lt (Nat.lt_of_lt_of_le (Heap.lt_size e) (I.ok.cab x c hfn hc)))).trans e1⟩
    · obtain ⟨o', e1⟩ := I.base.there b o e hx
      exact ⟨o', (hs.2 b (Nat.ne_of_lt (Nat.lt_of_lt_of_le (Heap.lt_size e) (I.ok.cab x c hfn hc)))).trans e1⟩
    · by_cases hj : j = i
      · subst hj
        rw [hi] at e1; cases e1
        rw [List.getElem?_set_self hiσ] at e2
        cases e2
        exact ⟨u, r, .inr ⟨.inl hk, c, hc, hc'⟩⟩
      · rw [List.getElem?_set_ne (Ne.symm hj)] at e2
        obtain ⟨u', r', q⟩ := hl j y v' e1 e2 e3
        refine ⟨u', r', ?_⟩
        rcases q with q | ⟨k, c', e, z'⟩
        · exact .inl q
        · refine .inr ⟨k, c', e, z'.sameBut hs ?_⟩
          rintro rfl
          exact hj (nodup_ix hN e1 (I.ok.inj _ _ _ e hc ▸ hi))
    · by_cases hcc : c' = c
      · subst hcc; exact ⟨_, hc'⟩
      · obtain ⟨w2, z2⟩ := I.cell y c' e
        exact ⟨w2, z2.sameBut hs hcc⟩
    · obtain ⟨e, n, ne, nf, d⟩ := I.pin p hp
      refine ⟨(hs.2 p.1 ?_).trans e, n, ne, nf, d⟩
      intro q
      rw [q, hoc] at e
      have q' : oc = p.2 := Option.some.inj e
      exact d w' (by rw [← q']; exact hocd)
theorem store_ok {M : Model} {A : Around} {E : Value → Shared → Prop} {i : Nat} {x : Str} {v : V} {u : Value} {Q : Unit → Shared → Prop} (I : Inv X pins σ H s) (hN : X.N.Nodup) (hi : X.N[i]? = some x) (hx : Loc X.env.scope x) (r : RelV v u)
    (h : ∀ s', Inv X pins (σ.set i (some v)) H s' → Q () s') (hf : X.fn x = true ∨ X.env.scope.names.lookup x = some .local := by first | exact .inl rfl | exact .inr rfl | assumption) : wpAny M A (storeName X.env x u) Q E s :=
  store_ok2 I hN hi hx r (fun s' I' _ => h s' I') hf
/-- behind a call or a block, the state as it is -/
theorem Inv.call' {s' : Shared} {ch : List Addr} (I : Inv X pins σ H s) (ho : s'.os = s.os) (u : Un (frs X.stack) ch H H' s.heap s'.heap) (hok : HOk X.prog X.w H' s'.heap) (hg : AllBare s'.gens)
    (hch : ∀ b ∈ ch, (b ∈ X.ex ∨ X.s₀.heap.objs.size ≤ b) ∧ b ≠ X.env.locals ∧ (∀ x c, X.env.cells.lookup x = some c → c ≠ b) ∧ ∀ p ∈ X.pn ++ pins, p.1 ≠ b) : Inv X pins σ H' s' := by
  obtain ⟨h', g', d', t', o'⟩ := s'
  have e : o' = s.os := ho
  subst e
  exact I.call (g' := g') (t' := t') (d' := d') u hok hg hch
end

/-! ### the judgements -/
/-- an exception: its class, its own dict's address (where it has one), the abstract heap behind it -/
abbrev XK := Value → Option Addr → Hp → Prop
abbrev St := List (Option V)
abbrev VK := V → Hp → Prop
/-- an expression's reading; a test's; an argument list's -/
abbrev TE := St → Hp → VK → Prop
abbrev TT := St → Hp → (Bool → Hp → Prop) → Prop
abbrev TA := St → Hp → (List V → Hp → Prop) → Prop
/-- what is wanted behind a statement -/
structure Ends where
  nx : St → Hp → Prop
  rt : St → VK
  bk : St → Hp → Prop := fun _ _ => False
  ct : St → Hp → Prop := fun _ _ => False
abbrev TS := Ends → St → Hp → Prop

def EP (X : Cx) (pins : List (Addr × Obj)) (σ : St) (Q : VK) (u : Value) (s' : Shared) : Prop := ∃ v H', Inv X pins σ H' s' ∧ RelV v u ∧ Q v H'
def TP (X : Cx) (pins : List (Addr × Obj)) (σ : St) (Q : Bool → Hp → Prop) (b : Bool) (s' : Shared) : Prop := ∃ H', Inv X pins σ H' s' ∧ Q b H'
def AP (X : Cx) (pins : List (Addr × Obj)) (σ : St) (Q : List V → Hp → Prop) (us : List Value) (s' : Shared) : Prop := ∃ vs H', Inv X pins σ H' s' ∧ Vals vs us ∧ Q vs H'
def SP (X : Cx) (pins : List (Addr × Obj)) (D : Ends) (f : Flow) (s' : Shared) : Prop :=
  match f with
  | .next => ∃ σ' H', Inv X pins σ' H' s' ∧ D.nx σ' H'
  | .brk => ∃ σ' H', Inv X pins σ' H' s' ∧ D.bk σ' H'
  | .cont => ∃ σ' H', Inv X pins σ' H' s' ∧ D.ct σ' H'
  | .ret u => ∃ v σ' H', Inv X pins σ' H' s' ∧ RelV v u ∧ D.rt σ' v H'

def PE (X : Cx) (e : Expr) (t : TE) : Prop :=
  ∀ (pins : List (Addr × Obj)) (s : Shared) (σ : St) (H : Hp) (Q : VK), Inv X pins σ H s → t σ H Q → wpAny (model X.prog X.w) X.A (eval e X.env) (EP X pins σ Q) X.xe s
def PT (X : Cx) (e : Expr) (t : TT) : Prop :=
  ∀ (pins : List (Addr × Obj)) (s : Shared) (σ : St) (H : Hp) (Q : Bool → Hp → Prop), Inv X pins σ H s → t σ H Q → wpAny (model X.prog X.w) X.A (isTrue e X.env (eval e X.env)) (TP X pins σ Q) X.xe s
/-- a test whatever its 'whole' is (and, or) -/
def PW (X : Cx) (e : Expr) (t : TT) : Prop :=
  ∀ (whole : Sem Value) (pins : List (Addr × Obj)) (s : Shared) (σ : St) (H : Hp) (Q : Bool → Hp → Prop), Inv X pins σ H s → t σ H Q → wpAny (model X.prog X.w) X.A (isTrue e X.env whole) (TP X pins σ Q) X.xe s
theorem PW.pt {X : Cx} {e : Expr} {t : TT} (h : PW X e t) : PT X e t := h _
/-- an argument list (no star), from the left -/
def PA (X : Cx) (es : List Expr) (t : TA) : Prop :=
  ∀ (pos : Pos) (pins : List (Addr × Obj)) (s : Shared) (σ : St) (H : Hp) (Q : List V → Hp → Prop), Inv X pins σ H s → t σ H Q → wpAny (model X.prog X.w) X.A (spliced (backTo pos (starEach es X.env))) (AP X pins σ Q) X.xe s
def PS (X : Cx) (st : Stmt) (t : TS) : Prop :=
  ∀ (pins : List (Addr × Obj)) (s : Shared) (σ : St) (H : Hp) (D : Ends), Inv X pins σ H s → t D σ H → wpAny (model X.prog X.w) X.A (exec st X.env) (SP X pins D) X.xe s
def PSs (X : Cx) (st : List Stmt) (t : TS) : Prop :=
  ∀ (pins : List (Addr × Obj)) (s : Shared) (σ : St) (H : Hp) (D : Ends), Inv X pins σ H s → t D σ H → wpAny (model X.prog X.w) X.A (execs st X.env) (SP X pins D) X.xe s
/-- weaken the end -/
theorem thn {α : Type} {t : Sem α} {Q Q' : α → Shared → Prop} {M : Model} {A : Around} {E : Value → Shared → Prop} {s : Shared} (h : wpAny M A t Q E s) (hQ : ∀ a s, Q a s → Q' a s) : wpAny M A t Q' E s := wpAny_mono h hQ fun _ _ x => x
end L2

namespace L2
open PySem PySem.Spec PyProof.Rows
section
variable {X : Cx}

/-! ### names and constants -/
def tVar (i : Nat) : TE := fun σ H Q => ∃ v, σ[i]? = some (some v) ∧ Q v H
def tC (v : V) : TE := fun _ H Q => Q v H
theorem pe_var {i : Nat} {x : Str} {pos : Pos} (hN : X.N[i]? = some x) (hv : Vis X.env.scope x) (hd : (x == ("__debug__" : Str)) = false := by decide) (hcd : (x == ("__classdict__" : Str)) = false := by decide) : PE X (.Name x pos) (tVar i) := by
  intro pins s σ H Q I h
  obtain ⟨v, e, h⟩ := h
  obtain ⟨m, hn, hl⟩ := I.loc
  obtain ⟨u, r, l⟩ := hl i x v hN e hv
  have fin : EP X pins σ Q u s := ⟨v, H, I, r, h⟩
  rcases l with ⟨hk, hm⟩ | ⟨hk, c, hc, hcell⟩
  · exact wpAny_Name (wpAny_loadName_local I.ok.kind hk hn hm fin) hd
  · rcases hk with hk | hk
    · exact wpAny_Name (wpAny_loadName_cell I.ok.kind hk hc hcell fin) hd
    · exact wpAny_Name (wpAny_loadName_free I.ok.kind hk hc hcell fin hcd) hd
theorem pe_int {i j pos} : PE X (.Constant (.int i) j pos) (tC (.int i)) := fun _ _ _ H _ I h => wpAny_Constant_int ⟨.int i, H, I.tok _, ⟨_, rfl⟩, h⟩
theorem pe_bl {b j pos} : PE X (.Constant (.bool b) j pos) (tC (.bl b)) := fun _ _ _ H _ I h => Constant_bool ⟨.bl b, H, I, rfl, h⟩
theorem pe_non {j pos} : PE X (.Constant .none j pos) (tC .non) := fun _ _ _ H _ I h => Constant_none ⟨.non, H, I, rfl, h⟩
theorem pe_str {x j pos} : PE X (.Constant (.str x) j pos) (tC (.str x)) := fun _ _ _ H _ I h => Calls.Constant_str ⟨.str x, H, I.tok _, ⟨_, rfl⟩, h⟩

/-- a global name of the def -/
def Gl (X : Cx) (x : Str) : Prop := X.env.kindOf x = some .globalImplicit
theorem ld_glob {E : Value → Shared → Prop} {pins : List (Addr × Obj)} {s : Shared} {σ : St} {H : Hp} {x : Str} {u : Value} {pos : Pos} {Q : Value → Shared → Prop} (I : Inv X pins σ H s) (hg : Gl X x) (hm : X.mg x = some u) (h : Q u s)
    (hd : (x == ("__debug__" : Str)) = false := by decide) : wpAny (model X.prog X.w) X.A (eval (.Name x pos) X.env) Q E s :=
  Calls.Name_function_global I.ok.kind hg (Calls.loadGlobal_global (by rw [I.ok.glob]; exact I.mod.glob.keeps I.bk) hm h) hd
theorem ld_blt {E : Value → Shared → Prop} {pins : List (Addr × Obj)} {s : Shared} {σ : St} {H : Hp} {x : Str} {u : Value} {pos : Pos} {Q : Value → Shared → Prop} (I : Inv X pins σ H s) (hg : Gl X x) (hm : X.mg x = none) (hv : bootBuiltins x = some u) (h : Q u s)
    (hn : x ≠ "__name__" := by decide) (hd : (x == ("__debug__" : Str)) = false := by decide) : wpAny (model X.prog X.w) X.A (eval (.Name x pos) X.env) Q E s := by
  obtain ⟨mb, h1, h2⟩ := I.mod.blt
  exact Calls.Name_function_global I.ok.kind hg (Calls.loadGlobal_builtin (by rw [I.ok.glob]; exact I.mod.glob.keeps I.bk) hm (by rw [I.ok.blt]; exact h1.keeps I.bk) ((h2 x hn).trans hv) h) hd
/-- a module's constant, a class, a function, as a value -/
theorem pe_glob {x : Str} {v : V} {u : Value} {pos : Pos} (hg : Gl X x) (hm : X.mg x = some u) (r : RelV v u) (hd : (x == ("__debug__" : Str)) = false := by decide) : PE X (.Name x pos) (tC v) :=
  fun _ _ _ H _ I h => ld_glob I hg hm ⟨v, H, I, r, h⟩ hd
theorem pe_bltn {x : Str} {v : V} {u : Value} {pos : Pos} (hg : Gl X x) (hm : X.mg x = none) (hv : bootBuiltins x = some u) (r : RelV v u) (hn : x ≠ "__name__" := by decide) (hd : (x == ("__debug__" : Str)) = false := by decide) : PE X (.Name x pos) (tC v) :=
  fun _ _ _ H _ I h => ld_blt I hg hm hv ⟨v, H, I, r, h⟩ hn hd

/-! ### arithmetic -/
variable {a b : Expr} {ta tb : TE} {pos : Pos}
/-! ### comparisons -/
/-- a comparison as a value, as a test -/
def tB (t : TE) : TT := fun σ H Q => t σ H fun x H1 => ∃ c, x = .bl c ∧ Q c H1
/-- an expression whose value is a bool, as a test -/
theorem pt_val {e : Expr} {t : TE} (h : PE X e t) (he : ∀ whole, isTrue e X.env whole = (do let v ← whole; standAt e.pos; holding [v] (truthy v)) := by intro _; rfl) : PT X e (tB t) := by
  intro pins s σ H Q I hw
  refine isTrue_plain (thn (h pins s σ H _ I hw) fun v s1 ⟨x, H1, I1, r1, q1⟩ => ?_) (he _)
  obtain ⟨d, rfl, q⟩ := q1
  cases r1
  exact wpAny_truthy_bool ⟨H1, I1, q⟩

/-! ### and, or, not -/
variable {tA tB' : TT} {rest : List Expr}
def tAnd (t u : TT) : TT := fun σ H Q => t σ H fun c H1 => if c = true then u σ H1 Q else Q false H1
def tOr (t u : TT) : TT := fun σ H Q => t σ H fun c H1 => if c = true then Q true H1 else u σ H1 Q
def tNot (t : TT) : TT := fun σ H Q => t σ H fun c H1 => Q (!c) H1
theorem pw_and1 (ha : PT X a tA) : PW X (.BoolOp .And [a] pos) tA := by
  intro wh pins s σ H Q I h
  refine isTrue_and (thn (ha pins s σ H Q I h) fun c s1 e => ?_)
  cases c with
  | true => exact isTrue_and_nil e
  | false => exact e
theorem pw_or1 (ha : PT X a tA) : PW X (.BoolOp .Or [a] pos) tA := by
  intro wh pins s σ H Q I h
  refine isTrue_or (thn (ha pins s σ H Q I h) fun c s1 e => ?_)
  cases c with
  | false => exact isTrue_or_nil e
  | true => exact e
theorem pw_and (ha : PT X a tA) (hb : PW X (.BoolOp .And (b :: rest) pos) tB') : PW X (.BoolOp .And (a :: b :: rest) pos) (tAnd tA tB') := by
  intro wh pins s σ H Q I h
  refine isTrue_and (thn (ha pins s σ H _ I h) fun c s1 ⟨H1, I1, q1⟩ => ?_)
  cases c with
  | true => exact hb wh pins s1 σ H1 Q I1 q1
  | false => exact ⟨H1, I1, q1⟩
theorem pw_or (ha : PT X a tA) (hb : PW X (.BoolOp .Or (b :: rest) pos) tB') : PW X (.BoolOp .Or (a :: b :: rest) pos) (tOr tA tB') := by
  intro wh pins s σ H Q I h
  refine isTrue_or (thn (ha pins s σ H _ I h) fun c s1 ⟨H1, I1, q1⟩ => ?_)
  cases c with
  | true => exact ⟨H1, I1, q1⟩
  | false => exact hb wh pins s1 σ H1 Q I1 q1
theorem pt_not (ha : PT X a tA) : PT X (.UnaryOp .Not a pos) (tNot tA) := by
  intro pins s σ H Q I h
  exact isTrue_not (ha pins s σ H (fun c H1 => Q (!c) H1) I h)
/-- .. as values (bools) -/
def tAndV (ta tb : TE) : TE := fun σ H Q => ta σ H fun x H1 => ∃ c, x = .bl c ∧ if c = true then tb σ H1 Q else Q (.bl false) H1
def tOrV (ta tb : TE) : TE := fun σ H Q => ta σ H fun x H1 => ∃ c, x = .bl c ∧ if c = true then Q (.bl true) H1 else tb σ H1 Q
theorem pe_one {op} {t : TE} (h : PE X a t) : PE X (.BoolOp op [a] pos) t := fun pins s σ H Q I hw => BoolOp_one (h pins s σ H Q I hw)
theorem pe_and (ha : PE X a ta) (hb : PE X (.BoolOp .And (b :: rest) pos) tb) : PE X (.BoolOp .And (a :: b :: rest) pos) (tAndV ta tb) := by
  intro pins s σ H Q I h
  refine BoolOp_and (thn (ha pins s σ H _ I h) fun v s1 ⟨x, H1, I1, r1, q1⟩ => ?_)
  obtain ⟨c, rfl, q1⟩ := q1
  cases r1
  refine wpAny_truthy_bool ?_
  cases c with
  | true => exact hb pins s1 σ H1 Q I1 q1
  | false => exact ⟨.bl false, H1, I1, rfl, q1⟩
theorem pe_or (ha : PE X a ta) (hb : PE X (.BoolOp .Or (b :: rest) pos) tb) : PE X (.BoolOp .Or (a :: b :: rest) pos) (tOrV ta tb) := by
  intro pins s σ H Q I h
  refine BoolOp_or (thn (ha pins s σ H _ I h) fun v s1 ⟨x, H1, I1, r1, q1⟩ => ?_)
  obtain ⟨c, rfl, q1⟩ := q1
  cases r1
  refine wpAny_truthy_bool ?_
  cases c with
  | false => exact hb pins s1 σ H1 Q I1 q1
  | true => exact ⟨.bl true, H1, I1, rfl, q1⟩
/-- a if t else b -/
def tIf (t : TT) (ta tb : TE) : TE := fun σ H Q => t σ H fun c H1 => if c = true then ta σ H1 Q else tb σ H1 Q
theorem pe_ifExp {c : Expr} (hc : PT X c tA) (ha : PE X a ta) (hb : PE X b tb) : PE X (.IfExp c a b pos) (tIf tA ta tb) := by
  intro pins s σ H Q I h
  refine wpAny_IfExp (thn (hc pins s σ H _ I h) fun d s1 ⟨H1, I1, q1⟩ => ?_)
  cases d with
  | true => exact ha pins s1 σ H1 Q I1 q1
  | false => exact hb pins s1 σ H1 Q I1 q1
end
end L2

namespace L2
open PySem PySem.Spec PyProof.Rows

/-! ### a list, a tuple that is read: tracked, frozen, or an object of the module -/
def SqL (K : PySem.W.Frag) (H : Hp) (a : Addr) (xs : List V) : Prop :=
  Rd H a (.lst xs) ∨
    ∃ (o : Obj) (its : Array Value) (n : Nat), K.lookup a = some o ∧ o.cls = .type "list" ∧ o.dict = none ∧ o.data = .seq its n ∧ its.size ≤ sizeLine ∧ Vals xs its.toList
def SqT (K : PySem.W.Frag) (H : Hp) (a : Addr) (xs : List V) : Prop :=
  Rd H a (.tup xs) ∨
    ∃ (o : Obj) (its : Array Value) (n : Nat), K.lookup a = some o ∧ o.cls = .type "tuple" ∧ o.data = .seq its n ∧ its.size ≤ sizeLine ∧ Vals xs its.toList
def absV : Value → Option V
  | .none => some .non
  | .bool b => some (.bl b)
  | .int i _ => some (.int i)
  | .str x _ => some (.str x)
  | .bytes b _ => some (.byt b)
  | .float b _ => some (.flt b)
  | .ref a => some (.ref a)
  | .type n => some (.ty n)
  | _ => none
theorem RelV.abs {x : V} {u : Value} (r : RelV x u) : absV u = some x := by
  cases x with
  | non => cases r; rfl
  | bl _ => cases r; rfl
  | int _ => obtain ⟨t, rfl⟩ := r; rfl
  | str _ => obtain ⟨t, rfl⟩ := r; rfl
  | byt _ => obtain ⟨t, rfl⟩ := r; rfl
  | flt _ => obtain ⟨t, rfl⟩ := r; rfl
  | ref _ => cases r; rfl
  | ty _ => cases r; rfl
theorem RelV.inj {x y : V} {u : Value} (r : RelV x u) (q : RelV y u) : x = y := Option.some.inj (r.abs.symm.trans q.abs)
theorem Vals.inj : ∀ {xs ys : List V} {us : List Value}, Vals xs us → Vals ys us → xs = ys
  | _, _, _, .nil, .nil => rfl
  | _, _, _, .cons r t, .cons r' t' => by rw [r.inj r', Vals.inj t t']
section
variable {X : Cx} {pins : List (Addr × Obj)} {σ : St} {H : Hp} {s : Shared} {a : Addr} {xs ys : List V}
theorem SqL.of {K : PySem.W.Frag} (h : H a = some (.lst xs)) : SqL K H a xs := .inl (.inl h)
theorem SqT.of {K : PySem.W.Frag} (h : H a = some (.tup xs)) : SqT K H a xs := .inl (.inl h)
theorem Inv.list (I : Inv X pins σ H s) (h : SqL X.K H a xs) : ∃ its : List Value, Vals xs its ∧ PlainL s.heap a its.toArray ∧ xs.length ≤ sizeLine := by
  rcases h with h | ⟨o, its, n, hk, hc, hd, hs, hz, r⟩
  · obtain ⟨z, its, n, r, e⟩ := h.ok I.hok
    exact ⟨its, r, ⟨_, n, e, rfl, rfl, rfl⟩, z⟩
  · refine ⟨its.toList, r, ⟨o, n, I.kIn a o hk, hc, hd, by simpa using hs⟩, ?_⟩
    have e := r.length
    simp only [Array.length_toList] at e
    omega
theorem Inv.tuple (I : Inv X pins σ H s) (h : SqT X.K H a xs) : ∃ its : List Value, Vals xs its ∧ IsTup s.heap a its.toArray ∧ xs.length ≤ sizeLine := by
  rcases h with h | ⟨o, its, n, hk, hc, hs, hz, r⟩
  · obtain ⟨z, its, r, p⟩ := h.ok I.hok
    exact ⟨its, r, p, z⟩
  · refine ⟨its.toList, r, ⟨o, I.kIn a o hk, hc, n, by simpa using hs⟩, ?_⟩
    have e := r.length
    simp only [Array.length_toList] at e
    omega
theorem Inv.list_inj (I : Inv X pins σ H s) (h : SqL X.K H a xs) (h' : SqL X.K H a ys) : xs = ys := by
  obtain ⟨its, r, ⟨o, n, e, _, _, d⟩, _⟩ := I.list h
  obtain ⟨its', r', ⟨o', n', e', _, _, d'⟩, _⟩ := I.list h'
  rw [e] at e'; cases e'
  rw [d] at d'
  injection d' with d1 _
  have : its = its' := by simpa using congrArg Array.toList d1
  subst this
  exact r.inj r'
theorem Inv.tuple_inj (I : Inv X pins σ H s) (h : SqT X.K H a xs) (h' : SqT X.K H a ys) : xs = ys := by
  obtain ⟨its, r, ⟨o, e, _, n, d⟩, _⟩ := I.tuple h
  obtain ⟨its', r', ⟨o', e', _, n', d'⟩, _⟩ := I.tuple h'
  rw [e] at e'; cases e'
  rw [d] at d'
  injection d' with d1 _
  have : its = its' := by simpa using congrArg Array.toList d1
  subst this
  exact r.inj r'
end

/-! ### another wish about exceptions -/
abbrev Cx.wish (X : Cx) (E : Value → Shared → Prop) : Cx := { X with xe := E }
/-- no exception leaves -/
abbrev Cx.nox (X : Cx) : Cx := X.wish fun _ _ => False
theorem Cx.Ok.wish {X : Cx} (ok : X.Ok) (E : Value → Shared → Prop) : (X.wish E).Ok :=
  ⟨ok.mod, ok.kind, ok.glob, ok.blt, ok.above, ok.inj, ok.has, ok.cab, ok.hd, ok.frames, ok.stk, ok.exf, ok.bs, ok.bsz, ok.noex, ok.exfs, ok.funs, ok.frf⟩
theorem Cx.Ok.unwish {X : Cx} {E : Value → Shared → Prop} (ok : (X.wish E).Ok) : X.Ok :=
  ⟨ok.mod, ok.kind, ok.glob, ok.blt, ok.above, ok.inj, ok.has, ok.cab, ok.hd, ok.frames, ok.stk, ok.exf, ok.bs, ok.bsz, ok.noex, ok.exfs, ok.funs, ok.frf⟩
section
variable {X : Cx} {pins : List (Addr × Obj)} {σ : St} {H : Hp} {s : Shared} {E : Value → Shared → Prop}
theorem Inv.wish (I : Inv X pins σ H s) (E : Value → Shared → Prop) : Inv (X.wish E) pins σ H s := ⟨I.ok.wish E, I.os, I.bare, I.base, I.loc, I.cell, I.free, I.freeC, I.pin, I.hok, I.len⟩
theorem Inv.unwish (I : Inv (X.wish E) pins σ H s) : Inv X pins σ H s := ⟨I.ok.unwish, I.os, I.bare, I.base, I.loc, I.cell, I.free, I.freeC, I.pin, I.hok, I.len⟩
theorem SP.unwish {D : Ends} {f : Flow} {s' : Shared} (h : SP (X.wish E) pins D f s') : SP X pins D f s' := by
  cases f with
  | next => obtain ⟨σ', H', I, q⟩ := h; exact ⟨σ', H', I.unwish, q⟩
  | brk => obtain ⟨σ', H', I, q⟩ := h; exact ⟨σ', H', I.unwish, q⟩
  | cont => obtain ⟨σ', H', I, q⟩ := h; exact ⟨σ', H', I.unwish, q⟩
  | ret u => obtain ⟨v, σ', H', I, r, q⟩ := h; exact ⟨v, σ', H', I.unwish, r, q⟩
theorem PE.nox {e : Expr} {t : TE} (h : PE X.nox e t) : PE X e t := fun pins s σ H Q I hw =>
  wpAny_mono (h pins s σ H Q (I.wish _) hw) (fun _ _ ⟨v, H', I', r, q⟩ => ⟨v, H', I'.unwish, r, q⟩) fun _ _ z => False.elim z
theorem PT.nox {e : Expr} {t : TT} (h : PT X.nox e t) : PT X e t := fun pins s σ H Q I hw =>
  wpAny_mono (h pins s σ H Q (I.wish _) hw) (fun _ _ ⟨H', I', q⟩ => ⟨H', I'.unwish, q⟩) fun _ _ z => False.elim z
theorem PSs.nox {st : List Stmt} {t : TS} (h : PSs X.nox st t) : PSs X st t := fun pins s σ H D I hw =>
  wpAny_mono (h pins s σ H D (I.wish _) hw) (fun _ _ q => q.unwish) fun _ _ z => False.elim z
end

/-! ### blocks and small statements -/
section
variable {X : Cx} {st : Stmt} {rest : List Stmt} {t u : TS} {e : Expr} {te : TE} {pos : Pos}
def tNext : TS := fun D σ H => D.nx σ H
def tSeq (t u : TS) : TS := fun D σ H => t { D with nx := u D } σ H
theorem pss_nil : PSs X [] tNext := fun _ _ σ H _ I h => wpAny_execs_nil ⟨σ, H, I, h⟩
theorem pss_cons (h1 : PS X st t) (h2 : PSs X rest u) : PSs X (st :: rest) (tSeq t u) := by
  intro pins s σ H D I h
  refine wpAny_execs_cons (thn (h1 pins s σ H { D with nx := u D } I h) fun f s1 q => ?_)
  cases f with
  | next =>
    obtain ⟨σ', H', I', q⟩ := q
    exact h2 pins s1 σ' H' D I' q
  | ret v => exact q
  | brk => exact q
  | cont => exact q
theorem pss_one (h1 : PS X st t) : PSs X [st] t := by
  intro pins s σ H D I h
  refine wpAny_execs_cons (thn (h1 pins s σ H D I h) fun f s1 q => ?_)
  cases f with
  | next => exact wpAny_execs_nil q
  | ret v => exact q
  | brk => exact q
  | cont => exact q
/-- in a def's body nothing is shown -/
theorem Inv.quiet {pins : List (Addr × Obj)} {σ : St} {H : Hp} {s : Shared} (I : Inv X pins σ H s) : interactive X.env = false := by simp [interactive, I.ok.kind]
/-- an expression whose value is dropped -/
def tDrop (te : TE) : TS := fun D σ H => te σ H fun _ H1 => D.nx σ H1
theorem ps_expr (he : PE X e te) (hs : swapsWith e none pos.line X.env = pure false := by rfl) : PS X (.Expr e pos) (tDrop te) := by
  intro pins s σ H D I h
  exact wpAny_Expr_any (thn (he pins s σ H _ I h) fun v s1 ⟨x, H1, I1, r1, q1⟩ => ⟨σ, H1, I1, q1⟩) I.quiet hs
def tRet (te : TE) : TS := fun D σ H => te σ H (D.rt σ)
theorem ps_ret (he : PE X e te) : PS X (.Return (some e) pos) (tRet te) := by
  intro pins s σ H D I h
  exact wpAny_Return_some (thn (he pins s σ H _ I h) fun v s1 ⟨x, H1, I1, r1, q1⟩ => ⟨x, σ, H1, I1, r1, q1⟩)
def tIfS (c : TT) (t u : TS) : TS := fun D σ H => c σ H fun b H1 => if b = true then t D σ H1 else u D σ H1
theorem ps_if {c : Expr} {a b : List Stmt} {tc : TT} (hc : PT X c tc) (ha : PSs X a t) (hb : PSs X b u) : PS X (.If c a b pos) (tIfS tc t u) := by
  intro pins s σ H D I h
  refine wpAny_If (thn (hc pins s σ H _ I h) fun d s1 ⟨H1, I1, q1⟩ => ?_)
  cases d with
  | true => exact ha pins s1 σ H1 D I1 q1
  | false => exact hb pins s1 σ H1 D I1 q1
/-- code that the proof never comes to -/
def tNever : TS := fun _ _ _ => False
theorem ps_never : PS X st tNever := fun _ _ _ _ _ _ h => h.elim
end

/-! ### targets -/
abbrev TG := V → St → Hp → (St → Hp → Prop) → Prop
abbrev TGs := List V → St → Hp → (St → Hp → Prop) → Prop
def PG (X : Cx) (target : Expr) (t : TG) : Prop :=
  ∀ (pins : List (Addr × Obj)) (s : Shared) (σ : St) (H : Hp) (v : V) (u : Value) (Q : St → Hp → Prop), Inv X pins σ H s → RelV v u → t v σ H Q →
    wpAny (model X.prog X.w) X.A (assign target X.env u) (fun _ s' => ∃ σ' H', Inv X pins σ' H' s' ∧ Q σ' H') X.xe s
/-- several targets, one after another -/
def PGs (X : Cx) (ts : List Expr) (t : TGs) : Prop :=
  ∀ (pins : List (Addr × Obj)) (s : Shared) (σ : St) (H : Hp) (vs : List V) (us : List Value) (Q : St → Hp → Prop), Inv X pins σ H s → Vals vs us → t vs σ H Q →
    wpAny (model X.prog X.w) X.A (assignInOrder ((assignEach ts X.env).map (·.2)) us) (fun _ s' => ∃ σ' H', Inv X pins σ' H' s' ∧ Q σ' H') X.xe s
/-- o[i] = v, by values -/
abbrev TSet := V → V → V → Hp → (Hp → Prop) → Prop
def PSet (X : Cx) (t : TSet) : Prop :=
  ∀ (pins : List (Addr × Obj)) (s : Shared) (σ : St) (H : Hp) (o i v : V) (ov iv u : Value) (Q : Hp → Prop), Inv X pins σ H s → RelV o ov → RelV i iv → RelV v u → t o i v H Q →
    wpAny (model X.prog X.w) X.A (setItem ov iv u) (fun _ s' => ∃ H', Inv X pins σ H' s' ∧ Q H') X.xe s
section
variable {X : Cx} {pos : Pos}
def gName (i : Nat) : TG := fun v σ H Q => Q (σ.set i (some v)) H
theorem pg_name {i : Nat} {x : Str} (hN : X.N.Nodup) (hi : X.N[i]? = some x) (hx : Loc X.env.scope x) (hf : X.fn x = true ∨ X.env.scope.names.lookup x = some .local := by first | exact .inl rfl | exact .inr rfl | assumption) : PG X (.Name x pos) (gName i) := by
  intro pins s σ H v u Q I r h
  exact wpAny_assign_Name (store_ok I hN hi hx r (fun s' I' => ⟨_, H, I', h⟩) hf)
def gNil : TGs := fun vs σ H Q => vs = [] ∧ Q σ H
def gCons (t : TG) (u : TGs) : TGs := fun vs σ H Q => ∃ v r, vs = v :: r ∧ t v σ H fun σ' H' => u r σ' H' Q
theorem pgs_nil : PGs X [] gNil := by
  intro pins s σ H vs us Q I r h
  obtain ⟨e, h⟩ := h
  subst e
  cases r
  exact assignInOrder_nil ⟨σ, H, I, h⟩
theorem pgs_cons {e : Expr} {es : List Expr} {t : TG} {u : TGs} (h1 : PG X e t) (h2 : PGs X es u)
    (hs : (assignEach (e :: es) X.env).map (·.2) = assign e X.env :: (assignEach es X.env).map (·.2) := by rfl) : PGs X (e :: es) (gCons t u) := by
  intro pins s σ H vs us Q I r h
  obtain ⟨v, vr, e1, h⟩ := h
  subst e1
  cases r with
  | cons r rr =>
    rw [hs]
    refine assignInOrder_cons (thn (h1 pins s σ H _ _ _ I r h) fun _ s1 ⟨σ1, H1, I1, q1⟩ => ?_)
    exact h2 pins s1 σ1 H1 _ _ Q I1 rr q1
/-- (a, b, ..) = a tuple of that length -/
def gTup (K : PySem.W.Frag) (n : Nat) (t : TGs) : TG := fun v σ H Q => ∃ a xs, v = .ref a ∧ SqT K H a xs ∧ xs.length = n ∧ t xs σ H Q
theorem pg_tup {es : List Expr} {k : Nat} {t : TGs} {n : Nat} (hc : X.calm = true) (h : PGs X es t)
    (hn : (assignEach es X.env).length = n := by rfl) (hst : (assignEach es X.env).findIdx? (·.1) = none := by rfl) : PG X (.Tuple es k pos) (gTup X.K n t) := by
  intro pins s σ H v u Q I r hw
  obtain ⟨a, xs, e1, hq, hl, hw⟩ := hw
  subst e1
  cases r
  obtain ⟨its, rv, ht, hz⟩ := I.tuple hq
  refine assign_Tuple_tuple (I.ok.hd hc) ht (by simp [hn, ← hl, rv.length]) hst fun h' hx => ?_
  have I1 : Inv X pins σ H { s with heap := h' } := I.kept (t' := s.toks) fun b o e => hx b o (Nat.ne_of_lt (Heap.lt_size e)) e
  exact h pins _ σ H xs _ Q I1 (by simpa using rv) hw
/-- o[i] = .. -/
def gSub (to ti : TE) (t : TSet) : TG := fun v σ H Q => to σ H fun o H1 => ti σ H1 fun i H2 => t o i v H2 fun H3 => Q σ H3
theorem pg_sub {o i : Expr} {to ti : TE} {t : TSet} (ho : PE X o to) (hi : PE X i ti) (hs : PSet X t)
    (ha : ∀ v, assign (.Subscript o i pos) X.env v = (do
      let ov ← holding [v] (eval o X.env)
      let iv ← holding [v, ov] (eval i X.env)
      standAt pos
      holding [v, ov, iv] (setItem ov iv v)
      release [v, ov, iv] []) := by intro _; rfl) : PG X (.Subscript o i pos) (gSub to ti t) := by
  intro pins s σ H v u Q I r h
  rw [ha]
  refine wpAny_bind (wpAny_holding (thn (ho pins s σ H _ I h) fun ov s1 ⟨x, H1, I1, r1, q1⟩ => ?_))
  refine wpAny_bind (wpAny_holding (thn (hi pins s1 σ H1 _ I1 q1) fun iv s2 ⟨y, H2, I2, r2, q2⟩ => ?_))
  refine wpAny_bind (wpAny_standAt (wpAny_bind (wpAny_holding (thn (hs pins s2 σ H2 x y v ov iv u _ I2 r1 r2 r q2) fun _ s3 ⟨H3, I3, q3⟩ => ?_))))
  exact wpAny_release ⟨σ, H3, I3, q3⟩
/-- target = value -/
def tAsg (te : TE) (g : TG) : TS := fun D σ H => te σ H fun x H1 => g x σ H1 D.nx
theorem ps_asg {tg e : Expr} {te : TE} {g : TG} (he : PE X e te) (hg : PG X tg g) (hs : swapsWithSole [tg] e pos.line X.env = pure false := by rfl) (hw : swappedStores [tg] e X.env = pure none := by rfl)
    (h1 : (assignEach [tg] X.env).map (·.2) = [assign tg X.env] := by rfl) : PS X (.Assign [tg] e pos) (tAsg te g) := by
  intro pins s σ H D I h
  refine wpAny_Assign_stores (thn (he pins s σ H _ I h) fun v s1 ⟨x, H1, I1, r1, q1⟩ => ?_) hs hw
  rw [h1]
  exact thn (hg pins s1 σ H1 x v _ I1 r1 q1) fun _ s2 q => q
/-- name = value -/
theorem ps_set {i : Nat} {x : Str} {e : Expr} {te : TE} {pos' : Pos} (hN : X.N.Nodup) (hi : X.N[i]? = some x) (hx : Loc X.env.scope x) (he : PE X e te) (hs : swapsWith e (some (.Name x pos')) pos.line X.env = pure false := by rfl) (hf : X.fn x = true ∨ X.env.scope.names.lookup x = some .local := by first | exact .inl rfl | exact .inr rfl | assumption) :
    PS X (.Assign [.Name x pos'] e pos) (tAsg te (gName i)) := by
  intro pins s σ H D I h
  refine wpAny_Assign_Name (thn (he pins s σ H _ I h) fun v s1 ⟨y, H1, I1, r1, q1⟩ => ?_) hs
  exact store_ok I1 hN hi hx r1 (fun s2 I2 => ⟨_, H1, I2, q1⟩) hf
end

/-! ### while -/
section
variable {X : Cx} {pos : Pos}
end

/-! ### what a loop or a comprehension walks -/
/-- at turn i: it yields x (the heap may grow), or it stops -/
structure It where
  go : Nat → Hp → Prop
  yld : Nat → Hp → V → Hp → Prop
  stop : Nat → Hp → Prop
/-- the iterator's own objects may turn: they are not the frame's, not pinned, younger than the entry (or a comprehension's own) -/
def FpOk (X : Cx) (pins : List (Addr × Obj)) (H : Hp) (b : Addr) : Prop :=
  H b = none ∧ b ≠ X.env.locals ∧ b ∉ X.fs ∧ (b ∈ X.ex ∨ X.s₀.heap.objs.size ≤ b) ∧ (∀ x c, X.env.cells.lookup x = some c → c ≠ b) ∧ ∀ p ∈ X.pn ++ pins, p.1 ≠ b
theorem Inv.fpOk {X : Cx} {pins : List (Addr × Obj)} {σ : St} {H H' : Hp} {s : Shared} {b : Addr} (I : Inv X pins σ H s) (hb : s.heap.objs.size ≤ b) (hn : H' b = none) : FpOk X pins H' b := by
  refine ⟨hn, Nat.ne_of_gt (Nat.lt_of_lt_of_le I.lt hb), I.nofs hb, .inr (Nat.le_trans I.sz hb), fun x c e z => ?_, fun p hp z => ?_⟩
  · obtain ⟨v, q⟩ := I.cell x c e
    exact absurd (Nat.lt_of_lt_of_le q.lt (by rw [z]; exact hb)) (Nat.lt_irrefl _)
  · exact absurd (Nat.lt_of_lt_of_le (Heap.lt_size (I.pin p hp).1) (by rw [z]; exact hb)) (Nat.lt_irrefl _)
structure Turn (P : Program) (w : World) (K : PySem.W.Frag) (tg : Expr) (J : It) (fp : List Addr) (it : Addr) (tn : Nat → Heap → Prop) : Prop where
  mem : it ∈ fp
  obj : ∀ i h, tn i h → ∀ b ∈ fp, ∃ o, h.get? b = some o ∧ ∀ v, o.data ≠ .cell v
  keep : ∀ i h h', tn i h → (∀ b ∈ fp, ∀ o, h.get? b = some o → h'.get? b = some o) → tn i h'
  item : ∀ (X : Cx), X.prog = P → X.w = w → X.K = K → X.calm = true → ∀ (i : Nat) (pins : List (Addr × Obj)) (s : Shared) (σ : St) (H : Hp) (E : Value → Shared → Prop), Inv X pins σ H s → (∀ b ∈ fp, FpOk X pins H b) → tn i s.heap → J.go i H →
    wpAny (model P w) X.A (pyNext (.ref it)) (fun r s1 => ∃ u, r = some u ∧
      wpAny (model P w) X.A (letOwnedTupleGo tg (.ref it) u) (fun _ s2 => ∃ x H', Inv X pins σ H' s2 ∧ RelV x u ∧ J.yld i H x H' ∧ tn (i + 1) s2.heap ∧ ∀ b ∈ fp, H' b = none) E s1) E s
  done : ∀ (X : Cx), X.prog = P → X.w = w → X.K = K → X.calm = true → ∀ (i : Nat) (pins : List (Addr × Obj)) (s : Shared) (σ : St) (H : Hp) (E : Value → Shared → Prop), Inv X pins σ H s → (∀ b ∈ fp, FpOk X pins H b) → tn i s.heap → J.stop i H →
    wpAny (model P w) X.A (pyNext (.ref it)) (fun r s1 => r = none ∧ Inv X pins σ H s1) E s
  self : ∀ (A : Around) (i : Nat) (s : Shared) (Q : Value → Shared → Prop) (E : Value → Shared → Prop), tn i s.heap → Q (.ref it) s → wpAny (model P w) A (pyIter (.ref it)) Q E s
abbrev TI := St → Hp → (It → Hp → Prop) → Prop
/-- an iterator has come -/
def PIE (X : Cx) (pins : List (Addr × Obj)) (σ : St) (tg : Expr) (R : It → Hp → Prop) (itv : Value) (s2 : Shared) : Prop :=
  ∃ (it : Addr) (fp : List Addr) (tn : Nat → Heap → Prop) (J : It) (H' : Hp), itv = .ref it ∧ Inv X pins σ H' s2 ∧ Turn X.prog X.w X.K tg J fp it tn ∧ tn 0 s2.heap ∧ (∀ b ∈ fp, FpOk X pins H' b) ∧ R J H'
def PI (X : Cx) (tg iter : Expr) (wi : TI) : Prop :=
  ∀ (pins : List (Addr × Obj)) (s : Shared) (σ : St) (H : Hp) (R : It → Hp → Prop), Inv X pins σ H s → wi σ H R →
    wpAny (model X.prog X.w) X.A (eval iter X.env) (fun v s1 => wpAny (model X.prog X.w) X.A (pyIter v) (PIE X pins σ tg R) X.xe s1) X.xe s

/-- the step ahead of the store is nothing for an iterator that keeps no tuple -/
theorem go_of {M : Model} {A : Around} {E : Value → Shared → Prop} {s : Shared} {tg : Expr} {it : Addr} {u : Value} {o : Obj} {n : String} {vs : Array Value} {Q : Unit → Shared → Prop} (ho : s.heap.get? it = some o) (hc : o.cls = .type n) (hd : o.data = .fields vs)
    (hn : ["enumerate", "zip", "dict_itemiterator", "dict_reverseitemiterator", "odict_iterator", "itertools.zip_longest", "itertools.pairwise"].contains n = false) (hQ : Q () s) : wpAny M A (letOwnedTupleGo tg (.ref it) u) Q E s := by
  unfold letOwnedTupleGo
  cases tg <;> first
    | exact wpAny_pure hQ
    | (cases u <;> first
        | exact wpAny_pure hQ
        | (refine wpAny_bind (wpAny_load ho ?_)
           rw [hc, hd]
           show wpAny M A (if (["enumerate", "zip", "dict_itemiterator", "dict_reverseitemiterator", "odict_iterator", "itertools.zip_longest", "itertools.pairwise"].contains n && vs[0]? == some (rawInt _)) = true then _ else _) Q E s
           rw [if_neg (by intro h; rw [hn, Bool.false_and] at h; cases h)]
           exact wpAny_pure hQ))

/-- the list at a, as it stands at each turn (a loop may append to it) -/
def Itl (K : PySem.W.Frag) (a : Addr) : It :=
  ⟨fun i H => ∃ xs x, SqL K H a xs ∧ xs[i]? = some x, fun i H x H' => H' = H ∧ ∀ xs, SqL K H a xs → xs[i]? = some x, fun i H => ∃ xs, SqL K H a xs ∧ xs.length ≤ i⟩
def Itt (K : PySem.W.Frag) (a : Addr) : It :=
  ⟨fun i H => ∃ xs x, SqT K H a xs ∧ xs[i]? = some x, fun i H x H' => H' = H ∧ ∀ xs, SqT K H a xs → xs[i]? = some x, fun i H => ∃ xs, SqT K H a xs ∧ xs.length ≤ i⟩
/-- lo, lo + 1, .. (n of them) -/
def Itr (lo : Int) (n : Nat) : It := ⟨fun i _ => i < n, fun i H x H' => H' = H ∧ x = .int (lo + i), fun i _ => n ≤ i⟩
theorem turn_list {P : Program} {w : World} {K : PySem.W.Frag} {tg : Expr} (a it : Addr) : Turn P w K tg (Itl K a) [it] it (fun i h => h.IsListIter it a i) where
  mem := by simp
  obj := fun i h st b hb => by
    have e : b = it := by simpa using hb
    subst e
    obtain ⟨o, e, c, d⟩ := st
    exact ⟨o, e, fun v z => by rw [d] at z; cases z⟩
  keep := fun i h h' st k => st.at fun o e => k it (by simp) o e
  item := by
    intro X hP hw hK hc i pins s σ H E I hf st hg
    subst hP hw hK
    obtain ⟨xs, x, hq, hx⟩ := hg
    obtain ⟨its, rv, p, hz⟩ := I.list hq
    obtain ⟨u, hu, ru⟩ := rv.get hx
    obtain ⟨f0, f1, f2, f3, f4, f5⟩ := hf it (by simp)
    refine wpAny_pyNext_list_item st p.isList (x := u) (by simpa using hu) fun h' st' sb => ?_
    have I1 : Inv X pins σ H { s with heap := h' } := I.turned (t' := s.toks) (fun b o hb e => (sb.2 b hb).trans e) f0 f1 f3 f4 f5
    obtain ⟨o, e, c, d⟩ := id st'
    exact ⟨u, rfl, go_of (s := { s with heap := h' }) e c d (by decide) ⟨x, H, I1, ru, ⟨rfl, fun ys hy => by rw [I.list_inj hy hq]; exact hx⟩, st', fun b hb => (hf b hb).1⟩⟩
  done := by
    intro X hP hw hK hc i pins s σ H E I hf st hg
    subst hP hw hK
    obtain ⟨xs, hq, hx⟩ := hg
    obtain ⟨its, rv, p, hz⟩ := I.list hq
    obtain ⟨f0, f1, f2, f3, f4, f5⟩ := hf it (by simp)
    have hl := rv.length
    exact wpAny_pyNext_list_end (I.ok.hd hc) st p.isList (by simp; omega) fun h' eb => ⟨rfl, I.turned (t' := s.toks) (fun b o hb e => eb b o hb e) f0 f1 f3 f4 f5⟩
  self := fun _ _ _ _ _ st h => wpAny_pyIter_listiter st h
theorem turn_tuple {P : Program} {w : World} {K : PySem.W.Frag} {tg : Expr} (a it : Addr) : Turn P w K tg (Itt K a) [it] it (fun i h => h.IsTupleIter it a i) where
  mem := by simp
  obj := fun i h st b hb => by
    have e : b = it := by simpa using hb
    subst e
    obtain ⟨o, e, c, d⟩ := st
    exact ⟨o, e, fun v z => by rw [d] at z; cases z⟩
  keep := fun i h h' st k => st.at fun o e => k it (by simp) o e
  item := by
    intro X hP hw hK hc i pins s σ H E I hf st hg
    subst hP hw hK
    obtain ⟨xs, x, hq, hx⟩ := hg
    obtain ⟨its, rv, p, hz⟩ := I.tuple hq
    obtain ⟨u, hu, ru⟩ := rv.get hx
    obtain ⟨f0, f1, f2, f3, f4, f5⟩ := hf it (by simp)
    refine wpAny_pyNext_tuple_item st (show s.heap.IsTuple a its.toArray from p) (x := u) (by simpa using hu) fun h' st' sb => ?_
    have I1 : Inv X pins σ H { s with heap := h' } := I.turned (t' := s.toks) (fun b o hb e => (sb.2 b hb).trans e) f0 f1 f3 f4 f5
    obtain ⟨o, e, c, d⟩ := id st'
    exact ⟨u, rfl, go_of (s := { s with heap := h' }) e c d (by decide) ⟨x, H, I1, ru, ⟨rfl, fun ys hy => by rw [I.tuple_inj hy hq]; exact hx⟩, st', fun b hb => (hf b hb).1⟩⟩
  done := by
    intro X hP hw hK hc i pins s σ H E I hf st hg
    subst hP hw hK
    obtain ⟨xs, hq, hx⟩ := hg
    obtain ⟨its, rv, p, hz⟩ := I.tuple hq
    obtain ⟨f0, f1, f2, f3, f4, f5⟩ := hf it (by simp)
    have hl := rv.length
    exact wpAny_pyNext_tuple_end (I.ok.hd hc) st (show s.heap.IsTuple a its.toArray from p) (by simp; omega) fun h' eb => ⟨rfl, I.turned (t' := s.toks) (fun b o hb e => eb b o hb e) f0 f1 f3 f4 f5⟩
  self := fun _ _ _ _ _ st h => wpAny_pyIter_tupleiter st h
theorem turn_range {P : Program} {w : World} {K : PySem.W.Frag} {tg : Expr} (it : Addr) (lo : Int) (n : Nat) : Turn P w K tg (Itr lo n) [it] it (fun i h => IsRangeIter h it (lo + (i : Nat) * 1) ((n : Int) - (i : Nat)) 1) where
  mem := by simp
  obj := fun i h st b hb => by
    have e : b = it := by simpa using hb
    subst e
    exact ⟨_, st, fun v z => by
      have z' : Data.fields _ = Data.cell v := z
      cases z'⟩
  keep := fun i h h' st k => k it (by simp) _ st
  item := by
    intro X hP hw hK hc i pins s σ H E I hf st hg
    subst hP hw hK
    obtain ⟨f0, f1, f2, f3, f4, f5⟩ := hf it (by simp)
    have W := Walks.range (prog := X.prog) (w := X.w) (I.ok.hd hc) it lo 1 n
    refine W.item i s _ _ hg st fun v h' tk hv st' kk => ?_
    obtain ⟨t, rfl⟩ := hv
    have I1 : Inv X pins σ H { s with heap := h', toks := tk } := I.turned (fun b o hb e => kk b o (by simpa using hb) e) f0 f1 f3 f4 f5
    refine ⟨_, rfl, go_of (s := { s with heap := h', toks := tk }) (n := "range_iterator") st' rfl rfl (by decide) ⟨.int (lo + i), H, I1, ⟨t, ?_⟩, ⟨rfl, rfl⟩, st', fun b hb => (hf b hb).1⟩⟩
    rw [Int.mul_one]
  done := by
    intro X hP hw hK hc i pins s σ H E I hf st hg
    subst hP hw hK
    obtain ⟨f0, f1, f2, f3, f4, f5⟩ := hf it (by simp)
    exact wpAny_pyNext_range_end (I.ok.hd hc) st (by have : n ≤ i := hg; omega) fun h' eb => ⟨rfl, I.turned (t' := s.toks) (fun b o hb e => eb b o hb e) f0 f1 f3 f4 f5⟩
  self := fun _ _ _ _ _ st h => wpAny_pyIter_rangeiter st h
end L2

namespace L2
open PySem PySem.Spec PyProof.Rows
section
variable {X : Cx} {tg : Expr}
def iList (K : PySem.W.Frag) (tl : TE) : TI := fun σ H R => tl σ H fun x H1 => ∃ a, x = .ref a ∧ (∃ xs, SqL K H1 a xs) ∧ R (Itl K a) H1
def iTup (K : PySem.W.Frag) (tl : TE) : TI := fun σ H R => tl σ H fun x H1 => ∃ a, x = .ref a ∧ (∃ xs, SqT K H1 a xs) ∧ R (Itt K a) H1
theorem pi_list {l : Expr} {tl : TE} (hl : PE X l tl) : PI X tg l (iList X.K tl) := by
  intro pins s σ H R I h
  refine thn (hl pins s σ H _ I h) fun v s1 ⟨x, H1, I1, r1, q1⟩ => ?_
  obtain ⟨a, e, ⟨xs, hq⟩, q⟩ := q1
  subst e
  cases r1
  obtain ⟨its, rv, p, hz⟩ := I1.list hq
  refine wpAny_pyIter_list p.isList ?_
  refine ⟨s1.heap.objs.size, [s1.heap.objs.size], _, _, H1, rfl, I1.kept (t' := s1.toks) fun b o e => Heap.get?_push_of_some _ e, turn_list a _, ⟨_, Heap.get?_push_size _ rfl, rfl, rfl⟩, fun b hb => ?_, q⟩
  have e : b = s1.heap.objs.size := by simpa using hb
  subst e
  exact I1.fpOk (Nat.le_refl _) (I1.hok.fresh (Nat.le_refl _))
theorem pi_tup {l : Expr} {tl : TE} (hl : PE X l tl) : PI X tg l (iTup X.K tl) := by
  intro pins s σ H R I h
  refine thn (hl pins s σ H _ I h) fun v s1 ⟨x, H1, I1, r1, q1⟩ => ?_
  obtain ⟨a, e, ⟨xs, hq⟩, q⟩ := q1
  subst e
  cases r1
  obtain ⟨its, rv, p, hz⟩ := I1.tuple hq
  refine wpAny_pyIter_tuple (show s1.heap.IsTuple a its.toArray from p) ?_
  refine ⟨s1.heap.objs.size, [s1.heap.objs.size], _, _, H1, rfl, I1.kept (t' := s1.toks) fun b o e => Heap.get?_push_of_some _ e, turn_tuple a _, ⟨_, Heap.get?_push_size _ rfl, rfl, rfl⟩, fun b hb => ?_, q⟩
  have e : b = s1.heap.objs.size := by simpa using hb
  subst e
  exact I1.fpOk (Nat.le_refl _) (I1.hok.fresh (Nat.le_refl _))
/-- a range object just made, walked -/
theorem range_it {pins : List (Addr × Obj)} {σ : St} {H : Hp} {s : Shared} {R : It → Hp → Prop} {E : Value → Shared → Prop} {lo hi : Int} {t u v : Tok} {tk : Nat} (I : Inv X pins σ H s) (h1 : -(2 ^ 62) ≤ lo) (h2 : lo < 2 ^ 62) (h3 : -(2 ^ 62) ≤ hi) (h4 : hi < 2 ^ 62)
    (q : R (Itr lo (hi - lo).toNat) H) : wpAny (model X.prog X.w) X.A (pyIter (.ref s.heap.objs.size)) (PIE X pins σ tg R) E { s with heap := s.heap.push { cls := .type "range", data := .fields #[.int lo t, .int hi u, .int 1 v] }, toks := tk } := by
  refine wpAny_pyIter_range (IsRange.new ..) (small_one h1 h2 h3 h4) ?_
  have I1 : Inv X pins σ H { s with heap := s.heap.push { cls := .type "range", data := .fields #[.int lo t, .int hi u, .int 1 v] }, toks := tk } := I.kept fun b o e => Heap.get?_push_of_some _ e
  refine ⟨(s.heap.push { cls := .type "range", data := .fields #[.int lo t, .int hi u, .int 1 v] }).objs.size, [(s.heap.push { cls := .type "range", data := .fields #[.int lo t, .int hi u, .int 1 v] }).objs.size], _, _, H, rfl,
    I1.kept (t' := tk) fun b o e => Heap.get?_push_of_some _ e, turn_range _ lo (hi - lo).toNat, ?_, fun b hb => ?_, q⟩
  · have e1 : lo + ((0 : Nat) : Int) * 1 = lo := by simp
    have e2 : (((hi - lo).toNat : Nat) : Int) - ((0 : Nat) : Int) = Builtin.Range.rangeSize lo hi 1 := by rw [rangeSize_one]; split <;> omega
    show IsRangeIter _ _ (lo + ((0 : Nat) : Int) * 1) ((((hi - lo).toNat : Nat) : Int) - ((0 : Nat) : Int)) 1
    rw [e1, e2]
    exact Heap.get?_push_size _ rfl
  · have e : b = (s.heap.push { cls := .type "range", data := .fields #[.int lo t, .int hi u, .int 1 v] }).objs.size := by simpa using hb
    subst e
    exact I1.fpOk (Nat.le_refl _) (I1.hok.fresh (Nat.le_refl _))
def iRng1 (ta : TA) : TI := fun σ H R => ta σ H fun vs H1 => ∃ j : Int, vs = [.int j] ∧ -(2 ^ 62) ≤ j ∧ j < 2 ^ 62 ∧ R (Itr 0 j.toNat) H1
def iRng2 (ta : TA) : TI := fun σ H R => ta σ H fun vs H1 => ∃ i j : Int, vs = [.int i, .int j] ∧ (-(2 ^ 62) ≤ i ∧ i < 2 ^ 62 ∧ -(2 ^ 62) ≤ j ∧ j < 2 ^ 62) ∧ R (Itr i (j - i).toNat) H1
theorem pi_range1 {a : Expr} {ta : TA} {p pos : Pos} (hg : Gl X "range") (hm : X.mg "range" = none) (ha : PA X [a] ta) (hs : starEach [a] X.env = [(false, eval a X.env)] := by rfl) : PI X tg (.Call (.Name "range" p) [a] [] pos) (iRng1 ta) := by
  intro pins s σ H R I h
  refine Call_ (ld_blt I hg hm boot_range (PyProof.Rows.callWith_type1 (thn (ha pos pins s σ H _ I h) fun us s1 ⟨vs, H1, I1, r1, q1⟩ => ?_) hs rfl))
  obtain ⟨j, e, q1, q2, q⟩ := q1
  subst e
  cases r1 with
  | cons r rr =>
    cases rr
    obtain ⟨t, rfl⟩ := r
    exact call_range_1 (range_it I1 (by omega) (by omega) q1 q2 (by simpa using q))
theorem pi_range2 {a b : Expr} {ta : TA} {p pos : Pos} (hg : Gl X "range") (hm : X.mg "range" = none) (ha : PA X [a, b] ta) (hs : starEach [a, b] X.env = [(false, eval a X.env), (false, eval b X.env)] := by rfl) (hs2 : starEach [b] X.env = [(false, eval b X.env)] := by rfl) :
    PI X tg (.Call (.Name "range" p) [a, b] [] pos) (iRng2 ta) := by
  intro pins s σ H R I h
  refine Call_ (ld_blt I hg hm boot_range (PyProof.Rows.callWith_type1 (thn (ha pos pins s σ H _ I h) fun us s1 ⟨vs, H1, I1, r1, q1⟩ => ?_) (by rw [hs, hs2]) (by rw [hs2]; rfl)))
  obtain ⟨i, j, e, ⟨q1, q2, q3, q4⟩, q⟩ := q1
  subst e
  cases r1 with
  | cons r rr =>
    cases rr with
    | cons r' rr =>
      cases rr
      obtain ⟨t, rfl⟩ := r
      obtain ⟨t', rfl⟩ := r'
      exact call_range_2 (range_it I1 q1 q2 q3 q4 q)

/-! ### for -/
/-- W: the invariant by the turn and a measure; N: what the body is to reach -/
def tFor (wi : TI) (g : TG) (tb : TS) : TS := fun D σ H => wi σ H fun J H1 => ∃ W : Nat → Nat → St → Hp → Prop, (∃ m, W 0 m σ H1) ∧ ∀ i m σ H, W i m σ H →
  (J.stop i H ∧ D.nx σ H) ∨ (J.go i H ∧ ∃ N : St → Hp → Prop, (∀ σ' H', N σ' H' → ∃ m', m' < m ∧ W (i + 1) m' σ' H') ∧ ∀ x H', J.yld i H x H' → g x σ H' fun σ2 H2 => tb { D with nx := N, ct := N, bk := D.nx } σ2 H2)
/-- the records at fp as they stand -/
def pinsAt (fp : List Addr) (h : Heap) : List (Addr × Obj) := fp.filterMap fun b => (h.get? b).map fun o => (b, o)
theorem mem_pinsAt {fp : List Addr} {h : Heap} {b : Addr} {o : Obj} (hb : b ∈ fp) (e : h.get? b = some o) : (b, o) ∈ pinsAt fp h := List.mem_filterMap.mpr ⟨b, hb, by rw [e]; rfl⟩
theorem of_pinsAt {fp : List Addr} {h : Heap} {p : Addr × Obj} (hp : p ∈ pinsAt fp h) : p.1 ∈ fp ∧ h.get? p.1 = some p.2 := by
  obtain ⟨b, hb, e⟩ := List.mem_filterMap.mp hp
  cases q : h.get? b with
  | none => rw [q] at e; cases e
  | some o =>
    rw [q] at e
    have e' : (b, o) = p := Option.some.inj e
    subst e'
    exact ⟨hb, q⟩
theorem Inv.pinned {pins : List (Addr × Obj)} {σ : St} {H : Hp} {s : Shared} {fp : List Addr} (I : Inv X pins σ H s) (hf : ∀ b ∈ fp, FpOk X pins H b) (ho : ∀ b ∈ fp, ∃ o, s.heap.get? b = some o ∧ ∀ v, o.data ≠ .cell v) : Inv X (pins ++ pinsAt fp s.heap) σ H s :=
  I.pins_of fun p hp => (List.mem_append.mp hp).elim (fun z => I.pin p (List.mem_append_right _ z)) fun z => by
    obtain ⟨hb, e⟩ := of_pinsAt z
    obtain ⟨f0, f1, f2, _⟩ := hf p.1 hb
    obtain ⟨o, e', d⟩ := ho p.1 hb
    rw [e] at e'; cases e'
    exact ⟨e, f0, f1, f2, d⟩
theorem Inv.unpinned {pins pl : List (Addr × Obj)} {σ : St} {H : Hp} {s : Shared} (I : Inv X (pins ++ pl) σ H s) : Inv X pins σ H s := I.pins_of fun p hp => I.pin p (List.mem_append_right _ (List.mem_append_left _ hp))
theorem ps_for {iter : Expr} {body : List Stmt} {wi : TI} {g : TG} {tb : TS} {pos : Pos} (hp : PassesOwn (model X.prog X.w) X.A X.env X.xe) (hc : X.calm = true) (hi : PI X tg iter wi) (hg : PG X tg g) (hb : PSs X body tb)
    (hs : ∀ x, foldedSetIterable iter X.env x = pure x := by intro _; rfl) : PS X (.For tg iter body [] pos) (tFor wi g tb) := by
  intro pins s σ H D I h
  refine wpAny_For (thn (hi pins s σ H _ I h) fun v s1 h1 => thn h1 fun itv s2 h2 => ?_) hs
  obtain ⟨it, fp, tn, J, H2, e, I2, T, st2, f2, W, ⟨m0, w0⟩, turn⟩ := h2
  subst e
  -- what stays true of the iterator's objects through the loop
  have stat : ∀ {H' : Hp}, (∀ b ∈ fp, H' b = none) → ∀ b ∈ fp, FpOk X pins H' b := fun hn b hb => ⟨hn b hb, (f2 b hb).2⟩
  refine codeAny_forLoop_any (fun n s' => ∃ i σ' H', Inv X pins σ' H' s' ∧ tn i s'.heap ∧ (∀ b ∈ fp, H' b = none) ∧ W i n σ' H') ?_ m0 ⟨0, σ, H2, I2, st2, fun b hb => (f2 b hb).1, w0⟩
  rintro n s3 ⟨i, σ3, H3, I3, st3, fr3, w3⟩
  rcases turn i n σ3 H3 w3 with ⟨stop, qn⟩ | ⟨go, N, hN, step⟩
  · refine wpAny_passesOwn hp (thn (T.done X rfl rfl rfl hc i pins s3 σ3 H3 X.xe I3 (stat fr3) st3 stop) fun r s4 ⟨hr, I4⟩ => ?_)
    subst hr
    exact wpAny_execs_nil ⟨σ3, H3, I4, qn⟩
  · refine wpAny_passesOwn hp (thn (T.item X rfl rfl rfl hc i pins s3 σ3 H3 X.xe I3 (stat fr3) st3 go) fun r s4 ⟨u, hr, h4⟩ => ?_)
    subst hr
    refine wpAny_passesOwn hp (thn h4 fun _ s5 ⟨x, H5, I5, r5, y5, st5, fr5⟩ => ?_)
    have I5' := I5.pinned (stat fr5) (T.obj _ _ st5)
    refine wpAny_passesOwn hp (thn (hg _ s5 σ3 H5 x u _ I5' r5 (step x H5 y5)) fun _ s6 ⟨σ6, H6, I6, q6⟩ => ?_)
    refine wpAny_passesOwn hp (thn (hb _ s6 σ6 H6 _ I6 q6) fun f s7 q7 => ?_)
    have again : ∀ {σ7 : St} {H7 : Hp}, Inv X (pins ++ pinsAt fp s5.heap) σ7 H7 s7 → N σ7 H7 → ∃ m, m < n ∧ ∃ i σ' H', Inv X pins σ' H' s7 ∧ tn i s7.heap ∧ (∀ b ∈ fp, H' b = none) ∧ W i m σ' H' := fun {σ7 H7} I7 n7 => by
      obtain ⟨m', hm, w7⟩ := hN σ7 H7 n7
      refine ⟨m', hm, i + 1, σ7, H7, I7.unpinned, T.keep _ _ _ st5 fun b hb o e => (I7.pin (b, o) (List.mem_append_right _ (List.mem_append_right _ (mem_pinsAt hb e)))).1, fun b hb => ?_, w7⟩
      obtain ⟨o, e, d⟩ := T.obj _ _ st5 b hb
      exact (I7.pin (b, o) (List.mem_append_right _ (List.mem_append_right _ (mem_pinsAt hb e)))).2.1
    cases f with
    | next => obtain ⟨σ7, H7, I7, n7⟩ := q7; exact again I7 n7
    | cont => obtain ⟨σ7, H7, I7, n7⟩ := q7; exact again I7 n7
    | brk => obtain ⟨σ7, H7, I7, q7⟩ := q7; exact ⟨σ7, H7, I7.unpinned, q7⟩
    | ret v => obtain ⟨x7, σ7, H7, I7, r7, q7⟩ := q7; exact ⟨x7, σ7, H7, I7.unpinned, r7, q7⟩
end

/-! ### the forms one uses -/
theorem for_range {lo : Int} {n : Nat} {g : TG} {tb : TS} {D : Ends} {σ : St} {H : Hp} (Pv : Nat → St → Hp → Prop) (h0 : Pv 0 σ H)
    (hs : ∀ i σ H, i < n → Pv i σ H → g (.int (lo + i)) σ H fun σ2 H2 => tb { D with nx := Pv (i + 1), ct := Pv (i + 1), bk := D.nx } σ2 H2) (hd : ∀ σ H, Pv n σ H → D.nx σ H) :
    ∃ W : Nat → Nat → St → Hp → Prop, (∃ m, W 0 m σ H) ∧ ∀ i m σ H, W i m σ H →
      ((Itr lo n).stop i H ∧ D.nx σ H) ∨ ((Itr lo n).go i H ∧ ∃ N : St → Hp → Prop, (∀ σ' H', N σ' H' → ∃ m', m' < m ∧ W (i + 1) m' σ' H') ∧ ∀ x H', (Itr lo n).yld i H x H' → g x σ H' fun σ2 H2 => tb { D with nx := N, ct := N, bk := D.nx } σ2 H2) := by
  refine ⟨fun i m σ H => m = n - i ∧ i ≤ n ∧ Pv i σ H, ⟨n, by simp, Nat.zero_le _, h0⟩, ?_⟩
  rintro i m σ H ⟨rfl, hi, p⟩
  by_cases hlt : i < n
  · refine .inr ⟨hlt, Pv (i + 1), fun σ' H' p' => ⟨n - (i + 1), by omega, rfl, hlt, p'⟩, fun x H' y => ?_⟩
    obtain ⟨e, y⟩ := y
    subst e y
    exact hs i σ _ hlt p
  · have e : i = n := by omega
    subst e
    exact .inl ⟨Nat.le_refl _, hd σ H p⟩
end L2

namespace L2
open PySem PySem.Spec PyProof.Rows

abbrev R2 := V → V → Hp → VK → Prop
/-- a two-place operation on values: f is binaryOp op, inplaceOp op or compareOp op -/
def OpR (X : Cx) (f : Value → Value → Sem Value) (r : R2) : Prop :=
  ∀ (pins : List (Addr × Obj)) (s : Shared) (σ : St) (H : Hp) (x y : V) (v u : Value) (Q : VK), Inv X pins σ H s → RelV x v → RelV y u → r x y H Q →
    wpAny (model X.prog X.w) X.A (f v u) (EP X pins σ Q) X.xe s
/-- a one-place operation -/
def UnR (X : Cx) (f : Value → Sem Value) (r : V → Hp → VK → Prop) : Prop :=
  ∀ (pins : List (Addr × Obj)) (s : Shared) (σ : St) (H : Hp) (x : V) (v : Value) (Q : VK), Inv X pins σ H s → RelV x v → r x H Q →
    wpAny (model X.prog X.w) X.A (f v) (EP X pins σ Q) X.xe s
/-- a call of a value that is known (a builtin, a type) with values -/
def CallR (X : Cx) (f : Value) (r : List V → Hp → VK → Prop) : Prop :=
  ∀ (pins : List (Addr × Obj)) (s : Shared) (σ : St) (H : Hp) (xs : List V) (us : List Value) (Q : VK), Inv X pins σ H s → Vals xs us → r xs H Q →
    wpAny (model X.prog X.w) X.A (call f us) (EP X pins σ Q) X.xe s
def tOp (r : R2) (ta tb : TE) : TE := fun σ H Q => ta σ H fun x H1 => tb σ H1 fun y H2 => r x y H2 Q
def tUn (r : V → Hp → VK → Prop) (ta : TE) : TE := fun σ H Q => ta σ H fun x H1 => r x H1 Q
/-- ints in, under C, and a value out -/
def rI (C : Int → Int → Prop) (g : Int → Int → V) : R2 := fun x y H Q => ∃ i j, x = .int i ∧ y = .int j ∧ C i j ∧ Q (g i j) H
def rI0 (g : Int → Int → V) : R2 := fun x y H Q => ∃ i j, x = .int i ∧ y = .int j ∧ Q (g i j) H
def rU (g : Int → V) : V → Hp → VK → Prop := fun x H Q => ∃ i, x = .int i ∧ Q (g i) H

section
variable {X : Cx} {a b c : Expr} {ta tb tc : TE} {pos : Pos}

theorem binT (ha : PE X a ta) (hb : PE X b tb) {pins : List (Addr × Obj)} {s : Shared} {σ : St} {H : Hp} {R : V → V → Hp → Prop} (I : Inv X pins σ H s)
    (h : ta σ H fun x H1 => tb σ H1 fun y H2 => R x y H2) {Q : Value → Shared → Prop} {f : Value → Value → Sem Value}
    (hf : ∀ v u s2 x y H2, Inv X pins σ H2 s2 → RelV x v → RelV y u → R x y H2 → wpAny (model X.prog X.w) X.A (f v u) Q X.xe s2) :
    wpAny (model X.prog X.w) X.A (eval a X.env) (fun v s₁ => wpAny (model X.prog X.w) X.A (eval b X.env) (fun u s₂ => wpAny (model X.prog X.w) X.A (f v u) Q X.xe s₂) X.xe s₁) X.xe s := by
  refine thn (ha pins s σ H _ I h) fun v s1 ⟨x, H1, I1, r1, q1⟩ => ?_
  refine thn (hb pins s1 σ H1 _ I1 q1) fun u s2 ⟨y, H2, I2, r2, q2⟩ => ?_
  exact hf v u s2 x y H2 I2 r1 r2 q2

theorem pe_op {op : Operator} {r : R2} (ho : OpR X (binaryOp op) r) (ha : PE X a ta) (hb : PE X b tb) : PE X (.BinOp a op b pos) (tOp r ta tb) := by
  intro pins s σ H Q I h
  exact wpAny_BinOp (binT ha hb I h fun v u s2 x y H2 I2 rx ry q => ho pins s2 σ H2 x y v u Q I2 rx ry q)
theorem pe_un {op : UnaryOp} {r : V → Hp → VK → Prop} (ho : UnR X (unaryOp op) r) (ha : PE X a ta) : PE X (.UnaryOp op a pos) (tUn r ta) := by
  intro pins s σ H Q I h
  exact UnaryOp_ (thn (ha pins s σ H _ I h) fun v s1 ⟨x, H1, I1, r1, q1⟩ => ho pins s1 σ H1 x v Q I1 r1 q1)
/-! ### ints -/
theorem opI {f : Value → Value → Sem Value} {C : Int → Int → Prop} {g : Int → Int → Int}
    (rule : ∀ (i j : Int) (t u : Tok) (s : Shared) (Q : Value → Shared → Prop) (E : Value → Shared → Prop), C i j → Q (.int (g i j) s.toks) { s with toks := s.toks + 1 } → wpAny (model X.prog X.w) X.A (f (.int i t) (.int j u)) Q E s) :
    OpR X f (rI C fun i j => .int (g i j)) := by
  intro pins s σ H x y v u Q I rx ry h
  obtain ⟨i, j, rfl, rfl, hc, q⟩ := h
  obtain ⟨t, rfl⟩ := rx
  obtain ⟨t', rfl⟩ := ry
  exact rule i j t t' s _ _ hc ⟨.int (g i j), H, I.tok _, ⟨_, rfl⟩, q⟩
theorem opI0 {f : Value → Value → Sem Value} {g : Int → Int → Int}
    (rule : ∀ (i j : Int) (t u : Tok) (s : Shared) (Q : Value → Shared → Prop) (E : Value → Shared → Prop), Q (.int (g i j) s.toks) { s with toks := s.toks + 1 } → wpAny (model X.prog X.w) X.A (f (.int i t) (.int j u)) Q E s) :
    OpR X f (rI0 fun i j => .int (g i j)) := by
  intro pins s σ H x y v u Q I rx ry h
  obtain ⟨i, j, rfl, rfl, q⟩ := h
  obtain ⟨t, rfl⟩ := rx
  obtain ⟨t', rfl⟩ := ry
  exact rule i j t t' s _ _ ⟨.int (g i j), H, I.tok _, ⟨_, rfl⟩, q⟩
theorem opB0 {f : Value → Value → Sem Value} {g : Int → Int → Bool}
    (rule : ∀ (i j : Int) (t u : Tok) (s : Shared) (Q : Value → Shared → Prop) (E : Value → Shared → Prop), Q (.bool (g i j)) s → wpAny (model X.prog X.w) X.A (f (.int i t) (.int j u)) Q E s) :
    OpR X f (rI0 fun i j => .bl (g i j)) := by
  intro pins s σ H x y v u Q I rx ry h
  obtain ⟨i, j, rfl, rfl, q⟩ := h
  obtain ⟨t, rfl⟩ := rx
  obtain ⟨t', rfl⟩ := ry
  exact rule i j t t' s _ _ ⟨.bl (g i j), H, I, rfl, q⟩

def CDiv (i j : Int) : Prop := 0 < j ∧ j < 1073741824
def CPow (i j : Int) : Prop := 0 ≤ j ∧ j ≤ 1000000 ∧ i.natAbs < 2 ^ 64
def CMul (i j : Int) : Prop := (-(2 ^ 64) < i ∧ i < 2 ^ 64) ∨ (-(2 ^ 64) < j ∧ j < 2 ^ 64)
theorem CMul.ok {i j : Int} (h : CMul i j) : IntMulOk i j := by
  rcases h with ⟨h1, h2⟩ | ⟨h1, h2⟩
  · exact .of_left (intBits_le_64 h1 h2)
  · exact .of_right (intBits_le_64 h1 h2)
theorem op_add : OpR X (binaryOp .Add) (rI0 fun i j => .int (i + j)) := opI0 fun _ _ _ _ _ _ _ q => add_int q
theorem op_sub : OpR X (binaryOp .Sub) (rI0 fun i j => .int (i - j)) := opI0 fun _ _ _ _ _ _ _ q => sub_int q
theorem op_mul : OpR X (binaryOp .Mult) (rI CMul fun i j => .int (i * j)) := opI fun _ _ _ _ _ _ _ hc q => mul_int q hc.ok
/-- // by a positive divisor -/
theorem op_fdiv : OpR X (binaryOp .FloorDiv) (rI CDiv fun i j => .int (i / j)) := opI fun i j _ _ _ _ _ hc q => by
  have h1 : (0 : Int) < j := hc.1
  have h2 : j < 1073741824 := hc.2
  exact floordiv_int (by omega) (by rw [Int.fdiv_eq_ediv_of_nonneg i (by omega)]; exact q) (.inl (PyProof.noPylong_small (by omega)))
/-- % by a positive divisor of any size -/
theorem op_mod : OpR X (binaryOp .Mod) (rI (fun _ j => 0 < j) fun i j => .int (i % j)) := opI fun i j _ _ _ _ _ hc q => by
  have h1 : (0 : Int) < j := hc
  exact mod_int' (by omega) (by rw [Int.fmod_eq_emod_of_nonneg i (by omega)]; exact q)
theorem op_pow : OpR X (binaryOp .Pow) (rI CPow fun i j => .int (i ^ j.toNat)) := opI fun _ _ _ _ _ _ _ hc q => pow_int_small hc.1 hc.2.1 hc.2.2 q
theorem unI {f : Value → Sem Value} {g : Int → Int}
    (rule : ∀ (i : Int) (t : Tok) (s : Shared) (Q : Value → Shared → Prop) (E : Value → Shared → Prop), Q (.int (g i) s.toks) { s with toks := s.toks + 1 } → wpAny (model X.prog X.w) X.A (f (.int i t)) Q E s) :
    UnR X f (rU fun i => .int (g i)) := by
  intro pins s σ H x v Q I rx h
  obtain ⟨i, rfl, q⟩ := h
  obtain ⟨t, rfl⟩ := rx
  exact rule i t s _ _ ⟨.int (g i), H, I.tok _, ⟨_, rfl⟩, q⟩
theorem un_neg : UnR X (unaryOp .USub) (rU fun i => .int (-i)) := unI fun _ _ _ _ _ q => neg_int q
/-! ### bools among ints: n += (a < b) -/
end

/-! ### comparisons -/
/-- the scalars that == tells apart as data does -/
def scal : V → V → Bool
  | .non, .non => true | .non, .int _ => true | .int _, .non => true | .non, .bl _ => true | .bl _, .non => true | .non, .str _ => true | .str _, .non => true
  | .int _, .int _ => true | .bl _, .bl _ => true | .str _, .str _ => true | .byt _, .byt _ => true
  | .int _, .str _ => true | .str _, .int _ => true | .bl _, .str _ => true | .str _, .bl _ => true
  | _, _ => false
def rEq : R2 := fun x y H Q => scal x y = true ∧ Q (.bl (decide (x = y))) H
def rNe : R2 := fun x y H Q => scal x y = true ∧ Q (.bl (!decide (x = y))) H

theorem dec_int {i j : Int} : decide (V.int i = V.int j) = (i == j) := by
  rw [Bool.eq_iff_iff]
  simp
theorem dec_bl {i j : Bool} : decide (V.bl i = V.bl j) = (i == j) := by
  rw [Bool.eq_iff_iff]
  simp
theorem dec_str {i j : Str} : decide (V.str i = V.str j) = (i == j) := by
  rw [Bool.eq_iff_iff]
  simp
theorem dec_byt {i j : Array UInt8} : decide (V.byt i = V.byt j) = (i.toList == j.toList) := by
  rw [Bool.eq_iff_iff]
  cases i
  cases j
  simp

section
variable {X : Cx} {a b c : Expr} {ta tb tc : TE} {pos : Pos}
theorem fin_bl {pins : List (Addr × Obj)} {σ : St} {H : Hp} {s : Shared} {Q : VK} {k k' : Bool} (I : Inv X pins σ H s) (q : Q (.bl k) H) (e : k = k') : EP X pins σ Q (.bool k') s := by
  subst e
  exact ⟨.bl k, H, I, rfl, q⟩
theorem op_eq : OpR X (compareOp .Eq) rEq := by
  intro pins s σ H x y v u Q I rx ry h
  obtain ⟨hs, q⟩ := h
  cases x with
  | non =>
    cases rx
    cases y with
    | non => cases ry; exact PySem.EqNone.eq_none_none (fin_bl I q (by simp))
    | bl j => cases ry; exact PySem.EqNone.eq_none_bool (fin_bl I q (by simp))
    | int j => obtain ⟨t', rfl⟩ := ry; exact PySem.EqNone.eq_none_int (fin_bl I q (by simp))
    | str j => obtain ⟨t', rfl⟩ := ry; exact PySem.EqNone.eq_none_str (fin_bl I q (by simp))
    | _ => exact absurd (show false = true from hs) Bool.false_ne_true
  | bl i =>
    cases rx
    cases y with
    | non => cases ry; exact PySem.EqNone.eq_bool_none (fin_bl I q (by simp))
    | bl j => cases ry; exact eq_bool (fin_bl I q dec_bl)
    | str j => obtain ⟨t', rfl⟩ := ry; exact PySem.EqMixed.eq_bool_str (fin_bl I q (by simp))
    | _ => exact absurd (show false = true from hs) Bool.false_ne_true
  | int i =>
    obtain ⟨t, rfl⟩ := rx
    cases y with
    | non => cases ry; exact PySem.EqNone.eq_int_none (fin_bl I q (by simp))
    | int j => obtain ⟨t', rfl⟩ := ry; exact eq_int (fin_bl I q dec_int)
    | str j => obtain ⟨t', rfl⟩ := ry; exact PySem.EqMixed.eq_int_str (fin_bl I q (by simp))
    | _ => exact absurd (show false = true from hs) Bool.false_ne_true
  | str i =>
    obtain ⟨t, rfl⟩ := rx
    cases y with
    | non => cases ry; exact PySem.EqNone.eq_str_none (fin_bl I q (by simp))
    | bl j => cases ry; exact PySem.EqMixed.eq_str_bool (fin_bl I q (by simp))
    | int j => obtain ⟨t', rfl⟩ := ry; exact PySem.EqMixed.eq_str_int (fin_bl I q (by simp))
    | str j => obtain ⟨t', rfl⟩ := ry; exact eq_str (fin_bl I q dec_str)
    | _ => exact absurd (show false = true from hs) Bool.false_ne_true
  | byt i =>
    obtain ⟨t, rfl⟩ := rx
    cases y with
    | byt j => obtain ⟨t', rfl⟩ := ry; exact PySem.W.eq_bytes (fin_bl I q dec_byt)
    | _ => exact absurd (show false = true from hs) Bool.false_ne_true
  | _ => cases y <;> exact absurd (show false = true from hs) Bool.false_ne_true
theorem op_ne : OpR X (compareOp .NotEq) rNe := by
  intro pins s σ H x y v u Q I rx ry h
  obtain ⟨hs, q⟩ := h
  cases x with
  | non =>
    cases rx
    cases y with
    | non => cases ry; exact PySem.EqNone.ne_none_none (fin_bl I q (by simp))
    | bl j => cases ry; exact PySem.EqNone.ne_none_bool (fin_bl I q (by simp))
    | int j => obtain ⟨t', rfl⟩ := ry; exact PySem.EqNone.ne_none_int (fin_bl I q (by simp))
    | str j => obtain ⟨t', rfl⟩ := ry; exact PySem.EqNone.ne_none_str (fin_bl I q (by simp))
    | _ => exact absurd (show false = true from hs) Bool.false_ne_true
  | bl i =>
    cases rx
    cases y with
    | non => cases ry; exact PySem.EqNone.ne_bool_none (fin_bl I q (by simp))
    | bl j => cases ry; exact ne_bool (fin_bl I q (congrArg not dec_bl))
    | str j => obtain ⟨t', rfl⟩ := ry; exact PySem.EqMixed.ne_bool_str (fin_bl I q (by simp))
    | _ => exact absurd (show false = true from hs) Bool.false_ne_true
  | int i =>
    obtain ⟨t, rfl⟩ := rx
    cases y with
    | non => cases ry; exact PySem.EqNone.ne_int_none (fin_bl I q (by simp))
    | int j => obtain ⟨t', rfl⟩ := ry; exact ne_int (fin_bl I q (congrArg not dec_int))
    | str j => obtain ⟨t', rfl⟩ := ry; exact PySem.EqMixed.ne_int_str (fin_bl I q (by simp))
    | _ => exact absurd (show false = true from hs) Bool.false_ne_true
  | str i =>
    obtain ⟨t, rfl⟩ := rx
    cases y with
    | non => cases ry; exact PySem.EqNone.ne_str_none (fin_bl I q (by simp))
    | bl j => cases ry; exact PySem.EqMixed.ne_str_bool (fin_bl I q (by simp))
    | int j => obtain ⟨t', rfl⟩ := ry; exact PySem.EqMixed.ne_str_int (fin_bl I q (by simp))
    | str j => obtain ⟨t', rfl⟩ := ry; exact ne_str (fin_bl I q (congrArg not dec_str))
    | _ => exact absurd (show false = true from hs) Bool.false_ne_true
  | byt i =>
    obtain ⟨t, rfl⟩ := rx
    cases y with
    | byt j => obtain ⟨t', rfl⟩ := ry; exact PySem.W.ne_bytes (fin_bl I q (congrArg not dec_byt))
    | _ => exact absurd (show false = true from hs) Bool.false_ne_true
  | _ => cases y <;> exact absurd (show false = true from hs) Bool.false_ne_true

theorem op_lt : OpR X (compareOp .Lt) (rI0 fun i j => .bl (decide (i < j))) := opB0 fun _ _ _ _ _ _ _ q => lt_int q
theorem op_le : OpR X (compareOp .LtE) (rI0 fun i j => .bl (decide (i ≤ j))) := opB0 fun _ _ _ _ _ _ _ q => le_int q
theorem op_gt : OpR X (compareOp .Gt) (rI0 fun i j => .bl (decide (j < i))) := opB0 fun _ _ _ _ _ _ _ q => gt_int q
theorem op_ge : OpR X (compareOp .GtE) (rI0 fun i j => .bl (decide (j ≤ i))) := opB0 fun _ _ _ _ _ _ _ q => ge_int q
/-- is None, is not None: the right side a value none -/
theorem op_isN : OpR X (compareOp .Is) (fun x y H Q => y = .non ∧ Q (.bl (decide (x = .non))) H) := by
  intro pins s σ H x y v u Q I rx ry h
  obtain ⟨rfl, q⟩ := h
  cases ry
  refine is_none_gen (fin_bl I q ?_)
  cases x <;> first
    | (cases rx; rfl)
    | (obtain ⟨t, rfl⟩ := rx; rfl)
/-- two rules for one operation: by cases -/
theorem OpR.or {f : Value → Value → Sem Value} {r r' : R2} (h : OpR X f r) (h' : OpR X f r') : OpR X f (fun x y H Q => r x y H Q ∨ r' x y H Q) := by
  intro pins s σ H x y v u Q I rx ry q
  rcases q with q | q
  · exact h pins s σ H x y v u Q I rx ry q
  · exact h' pins s σ H x y v u Q I rx ry q

theorem nomark (b : Expr) {op : CmpOp} (h : op ≠ .In := by decide) (h2 : op ≠ .NotIn := by decide) : behindInMarks op b = false := by
  have e1 : (op == CmpOp.In) = false := by cases op <;> first | rfl | exact absurd rfl h
  have e2 : (op == CmpOp.NotIn) = false := by cases op <;> first | rfl | exact absurd rfl h2
  cases b <;> simp [behindInMarks, e1, e2]
/-- a comparison as a value; hm: nomark b, or (for in, not in) by with_unfolding_all rfl -/
theorem pe_cmpR {op : CmpOp} {r : R2} (ho : OpR X (compareOp op) r) (ha : PE X a ta) (hb : PE X b tb) (hm : behindInMarks op b = false) : PE X (.Compare a [op] [b] pos) (tOp r ta tb) := by
  intro pins s σ H Q I h
  exact wpAny_Compare1 (binT ha hb I h fun v u s2 x y H2 I2 rx ry q => ho pins s2 σ H2 x y v u Q I2 rx ry q) hm
/-- a reading of a value as a test -/
def tTest (t : TE) : TT := fun σ H Q => t σ H fun x H' => ∃ k, x = .bl k ∧ Q k H'
theorem pt_cmpR {op : CmpOp} {r : R2} (ho : OpR X (compareOp op) r) (ha : PE X a ta) (hb : PE X b tb) (hm : behindInMarks op b = false) : PT X (.Compare a [op] [b] pos) (tTest (tOp r ta tb)) := by
  intro pins s σ H Q I h
  refine wpAny_isTrue_Compare1 (thn (ha pins s σ H _ I h) fun v s1 ⟨x, H1, I1, r1, q1⟩ => thn (hb pins s1 σ H1 _ I1 q1) fun u s2 ⟨y, H2, I2, r2, q2⟩ =>
    thn (ho pins s2 σ H2 x y v u _ I2 r1 r2 q2) fun c s3 ⟨z, H3, I3, r3, k, e, q3⟩ => ?_) hm
  subst e
  cases r3
  exact wpAny_truthy_bool ⟨H3, I3, q3⟩
/-- a op1 b op2 c -/
def tChain (r r' : R2) (ta tb tc : TE) : TE := fun σ H Q => ta σ H fun x H1 => tb σ H1 fun y H2 => r x y H2 fun z H3 => ∃ k, z = .bl k ∧
  (if k = true then tc σ H3 fun w' H4 => r' y w' H4 Q else Q (.bl false) H3)
theorem pe_chain {op op' : CmpOp} {r r' : R2} (ho : OpR X (compareOp op) r) (ho' : OpR X (compareOp op') r') (ha : PE X a ta) (hb : PE X b tb) (hc : PE X c tc)
    (hm : lastMarks [op, op'] [b, c] = false := by with_unfolding_all rfl) : PE X (.Compare a [op, op'] [b, c] pos) (tChain r r' ta tb tc) := by
  intro pins s σ H Q I h
  refine Compare_chain (thn (ha pins s σ H _ I h) fun v s1 ⟨x, H1, I1, r1, q1⟩ => chain_link (thn (hb pins s1 σ H1 _ I1 q1) fun u s2 ⟨y, H2, I2, r2, q2⟩ =>
    thn (ho pins s2 σ H2 x y v u _ I2 r1 r2 q2) fun d s3 ⟨z, H3, I3, r3, k, e, q3⟩ => ?_)) hm
  subst e
  cases r3
  refine wpAny_truthy_bool ?_
  cases k with
  | false => exact ite_ff ⟨.bl false, H3, I3, rfl, q3⟩
  | true => exact ite_tt (chain_last (thn (hc pins s3 σ H3 _ I3 q3) fun w' s4 ⟨z', H4, I4, r4, q4⟩ => ho' pins s4 σ H4 y z' u w' Q I4 r2 r4 q4))
/-! ### truth -/
theorem line63 : (sizeLine : Nat) < 2 ^ 63 := by rw [sizeLine_eq]; decide
/-! ### strs and bytes -/
/-! ### scalar builtins, by CallR -/
theorem vals1 {x : V} {us : List Value} (r : Vals [x] us) : ∃ u, us = [u] ∧ RelV x u := by
  cases r with
  | cons r1 r2 => cases r2; exact ⟨_, rfl, r1⟩
theorem call_abs : CallR X (.builtin "abs") (fun xs H Q => ∃ i, xs = [.int i] ∧ Q (.int (if i < 0 then -i else i)) H) := by
  intro pins s σ H xs us Q I r h
  obtain ⟨i, rfl, q⟩ := h
  obtain ⟨u, rfl, t, rfl⟩ := vals1 r
  exact call_abs_int fun u tk => ⟨.int (if i < 0 then -i else i), H, I.tok _, ⟨_, rfl⟩, q⟩
theorem call_int1 : CallR X (.type "int") (fun xs H Q => (∃ i, xs = [.int i] ∧ Q (.int i) H) ∨ ∃ k, xs = [.bl k] ∧ Q (.int (if k then 1 else 0)) H) := by
  intro pins s σ H xs us Q I r h
  rcases h with ⟨i, rfl, q⟩ | ⟨k, rfl, q⟩
  · obtain ⟨u, rfl, t, rfl⟩ := vals1 r
    exact call_int_int ⟨.int i, H, I, ⟨_, rfl⟩, q⟩
  · obtain ⟨u, rfl, r1⟩ := vals1 r
    cases r1
    exact call_int_bool ⟨.int (if k then 1 else 0), H, I.tok _, ⟨_, rfl⟩, q⟩
end
end L2

namespace L2
open PySem PySem.Spec PyProof.Rows

/-! ### an instance, its attributes a map -/
structure ObjM (h : Heap) (x dx C : Addr) (mA : Str → Option Value) : Prop where
  obj : h.get? x = some (PySem.W.instObj C dx)
  ns : h.Ns1 dx mA
  ne : dx ≠ x

theorem lookIn_ns {h : Heap} {dx : Addr} {mA : Str → Option Value} (n : h.Ns1 dx mA) : ∃ od, h.get? dx = some od ∧ ∀ name, PySem.W.lookIn name od = some (mA name) := by
  obtain ⟨o, es, ep, ho, hd, hk, _, hm⟩ := n
  refine ⟨o, ho, fun name => ?_⟩
  have e := hm name
  unfold nsFind findBy at e
  rw [← Array.find?_toList] at e
  unfold PySem.W.lookIn
  rw [hd]
  dsimp only
  split
  · rename_i y q
    rw [q] at e
    exact congrArg some e
  · rename_i q
    rw [q] at e
    have a : es.toList.any (·.refKey) = false := by
      rw [List.any_eq_false]
      intro y hy
      obtain ⟨z, t, hkey⟩ := hk y (Array.mem_toList_iff.mp hy)
      simp [DictEntry.refKey, hkey]
    have a' : ¬ es.toList.any (·.refKey) = true := by rw [a]; exact Bool.false_ne_true
    rw [if_neg a']
    exact congrArg some e

theorem ObjM.look {h : Heap} {x dx C : Addr} {mA : Str → Option Value} (I : ObjM h x dx C mA) : ∃ od, PySem.W.InstAt h x (PySem.W.instObj C dx) C (some od) ∧ ∀ name, PySem.W.lookIn name od = some (mA name) :=
  let ⟨od, ho, hl⟩ := lookIn_ns I.ns
  ⟨od, ⟨I.obj, rfl, rfl, ho⟩, hl⟩

section
variable {prog : Program} {w : World} {A : Around} {E : Value → Shared → Prop} {s : Shared} {K : PySem.W.Frag} {x dx C f : Addr} {mA : Str → Option Value} {name : Str} {v : Value}

theorem get_map {expr : Bool} {Q : Value → Shared → Prop} (X : K.In s.heap) (I : ObjM s.heap x dx C mA) (hg : PySem.W.plainGet K C name = true) (hh : PySem.W.hasDictIn K C = true)
    (ha : PySem.W.findIn K (.ref C) name = some none) (hv : mA name = some v) (hv' : PySem.W.handedIn v = true) (h : Q v { s with toks := s.toks + 1 }) :
    wpAny (model prog w) A (getAttr (.ref x) name expr) Q E s := by
  obtain ⟨od, J, hl⟩ := I.look
  exact PySem.W.get_value X J (PySem.W.plainGet_of hg).1 (PySem.W.findObj_own hh ha rfl (by rw [hl, hv])) hv' h

theorem get_meth {pl : Sem Bool} {Q : Value × List Value → Shared → Prop} (X : K.In s.heap) (I : ObjM s.heap x dx C mA) (hg : PySem.W.plainGet K C name = true)
    (hf : PySem.W.findIn K (.ref C) name = some (some (.ref f))) (ht : PySem.W.isFn K (.ref f) = true) (hv : mA name = none) (h : Q (.ref f, [.ref x]) s) :
    wpAny (model prog w) A (getMethod (.ref x) name pl) Q E s := by
  obtain ⟨od, J, hl⟩ := I.look
  exact PySem.W.method_fn X J (PySem.W.plainGet_of hg).1 (PySem.W.plainGet_of hg).2 hf (beq_iff_eq.mp ht) (by show (PySem.W.lookIn name od).map (·.isSome) = some false; rw [hl, hv]; rfl) h

theorem set_map {ns : List Str} {Q : Unit → Shared → Prop} (X : K.In s.heap) (I : ObjM s.heap x dx C mA)
    (hs : PySem.W.findIn K (.ref C) "__setattr__" = some (some (.builtin "object.__setattr__"))) (hp : PySem.W.plainOver K C = true) (ht : PySem.W.takerIn K C name = some none) (hh : PySem.W.hasDictIn K C = true)
    (hw : PySem.Within mA ns) (hsz : ns.length ≤ sizeLine)
    (h : ∀ h', ObjM h' x dx C (fun y => if y = name then some v else mA y) → Heap.SameBut dx s.heap h' → Q () { s with heap := h', toks := s.toks + 2 }) :
    wpAny (model prog w) A (setAttr (.ref x) name v) Q E s := by
  obtain ⟨od, J, hl⟩ := I.look
  refine PySem.W.set_plain X J hs (PySem.W.osa_open (s := { s with toks := s.toks + 1 }) (r := none) X J hp ht fun b => ?_)
  obtain ⟨cd, hc, hd'⟩ := PySem.W.any_some hh
  have hx : s.heap.get? x = some ⟨.ref C, some dx, .plain, #[]⟩ := I.obj
  refine wpAny_bind (wpAny_pure (wpAny_bind (wpAny_bind (wpAny_loadPart hx (wpAny_bind (PySem.W.Looks.here (s := { s with toks := s.toks + 1 }) (PySem.W.looks_clsIn X hc) ?_))))))
  rw [hd']
  refine wpAny_pure (a := some dx) (wpAny_bind (wpAny_pure (wpAny_bind ?_)))
  refine wpAny_nsSet1 (s := { s with toks := s.toks + 1 }) I.ns fun h' hn2 hs2 => ?_
  obtain ⟨oD, esD, epD, hoD, hdD, hcD⟩ := hn2.count (PySem.Within.cons name v hw)
  refine wpAny_bind (wpAny_lookBehind hoD (by rw [hdD]; exact pastItsLine_dict (Nat.le_trans hcD (by rw [List.length_cons]; omega))) ?_)
  exact wpAny_pure (h _ ⟨(hs2.2 _ (Ne.symm I.ne)).trans I.obj, hn2, I.ne⟩ hs2)

/-- C(..): the dict at the heap's end, the instance behind it; then its __init__ -/
theorem make_map {R : Result → Shared → Prop} {vs : List Value} {kw : List (Str × Value)} (X : K.In s.heap) (hm : PySem.W.makesIn K C = true)
    (hi : PySem.W.findIn K (.ref C) "__init__" = some (some (.ref f))) (hf : PySem.W.typeIn K (.ref f) = some (.type "function"))
    (h : codeAny (model prog w) (A.under (.builtin "type.__call__" ⟨.ref C :: vs, kw⟩)) (.call (.ref f) ⟨.ref (s.heap.objs.size + 1) :: vs, kw⟩) (PySem.W.InitBack (s.heap.objs.size + 1) R)
      { s with heap := (s.heap.push PySem.W.emptyDict).push (PySem.W.instObj C s.heap.objs.size) }) :
    codeAny (model prog w) A (.call (.ref C) ⟨vs, kw⟩) R s := by
  obtain ⟨hh, g, d, t, os⟩ := s
  exact PySem.W.make_core (PySem.W.makes_of X hm) (PySem.W.looks_findIn X hi) (fun self => PySem.W.bind_fn X self hf) (.inl rfl) h
end

/-! ### the attributes as a list of pairs -/
def putF (f : Str) (v : V) : List (Str × V) → List (Str × V)
  | [] => [(f, v)]
  | (g, x) :: r => if g = f then (g, v) :: r else (g, x) :: putF f v r
theorem lookup_putF (f g : Str) (v : V) : ∀ fs : List (Str × V), (putF f v fs).lookup g = if g = f then some v else fs.lookup g
  | [] => by
    show List.lookup g [(f, v)] = _
    by_cases h : g = f
    · have hb : (g == f) = true := beq_iff_eq.mpr h
      simp only [List.lookup, hb, if_pos h]
    · have hb : (g == f) = false := beq_eq_false_iff_ne.mpr h
      simp only [List.lookup, hb, if_neg h]
  | (k, x) :: r => by
    have ih := lookup_putF f g v r
    rw [show putF f v ((k, x) :: r) = (if k = f then (k, v) :: r else (k, x) :: putF f v r) from rfl]
    by_cases hk : k = f
    · rw [if_pos hk]
      by_cases h : g = k
      · have hb : (g == k) = true := beq_iff_eq.mpr h
        simp only [List.lookup, hb, if_pos (h.trans hk)]
      · have hb : (g == k) = false := beq_eq_false_iff_ne.mpr h
        simp only [List.lookup, hb, if_neg (fun e : g = f => h (e.trans hk.symm))]
    · rw [if_neg hk]
      by_cases h : g = k
      · have hb : (g == k) = true := beq_iff_eq.mpr h
        simp only [List.lookup, hb, if_neg (fun e : g = f => hk (h.symm.trans e))]
      · have hb : (g == k) = false := beq_eq_false_iff_ne.mpr h
        simp only [List.lookup, hb]
        exact ih
theorem keys_putF (f : Str) (v : V) : ∀ fs : List (Str × V), f ∈ (putF f v fs).map (·.1) ∧ ∀ g, g ∈ fs.map (·.1) → g ∈ (putF f v fs).map (·.1)
  | [] => ⟨by simp [putF], fun g h => by simp at h⟩
  | (k, x) :: r => by
    obtain ⟨i1, i2⟩ := keys_putF f v r
    rw [show putF f v ((k, x) :: r) = (if k = f then (k, v) :: r else (k, x) :: putF f v r) from rfl]
    by_cases hk : k = f
    · rw [if_pos hk]
      subst hk
      exact ⟨by simp, fun g h => by simpa using h⟩
    · rw [if_neg hk]
      refine ⟨?_, fun g h => ?_⟩
      · rw [List.map_cons]
        exact List.mem_cons_of_mem _ i1
      · rw [List.map_cons] at h ⊢
        rcases List.mem_cons.mp h with e | e
        · exact List.mem_cons.mpr (.inl e)
        · exact List.mem_cons_of_mem _ (i2 g e)
theorem length_putF (f : Str) (v : V) : ∀ fs : List (Str × V), (putF f v fs).length ≤ fs.length + 1
  | [] => by simp [putF]
  | (k, x) :: r => by
    have ih := length_putF f v r
    rw [show putF f v ((k, x) :: r) = (if k = f then (k, v) :: r else (k, x) :: putF f v r) from rfl]
    by_cases hk : k = f
    · rw [if_pos hk, List.length_cons, List.length_cons]; omega
    · rw [if_neg hk, List.length_cons, List.length_cons]; omega

theorem RelO.some_of {v : V} {o : Option Value} (r : RelO (some v) o) : ∃ u, o = some u ∧ RelV v u := by
  cases o with
  | none => exact (show False from r).elim
  | some u => exact ⟨u, rfl, r⟩
theorem RelO.none_of {o : Option Value} (r : RelO none o) : o = none := by
  cases o with
  | none => rfl
  | some u => exact (show False from r).elim
theorem handed_of {v : V} {u : Value} (r : RelV v u) : PySem.W.handedIn u = true := by
  cases v with
  | non => cases (show u = Value.none from r); rfl
  | bl b => cases (show u = Value.bool b from r); rfl
  | int i => obtain ⟨t, e⟩ := (show ∃ t, u = Value.int i t from r); cases e; rfl
  | str x => obtain ⟨t, e⟩ := (show ∃ t, u = Value.str x t from r); cases e; rfl
  | byt b => obtain ⟨t, e⟩ := (show ∃ t, u = Value.bytes b t from r); cases e; rfl
  | flt b => obtain ⟨t, e⟩ := (show ∃ t, u = Value.float b t from r); cases e; rfl
  | ref a => cases (show u = Value.ref a from r); rfl
  | ty n => cases (show u = Value.type n from r); rfl

section
variable {P : Program} {w : World} {H H' : Hp} {h h' : Heap} {a C dx : Addr} {fs fs' : List (Str × V)}
theorem ins_get (hok : HOk P w H h) (e : H a = some (.ins C dx fs)) : ∃ mA, ObjM h a dx C mA ∧ (∀ f, RelO (fs.lookup f) (mA f)) ∧ PySem.Within mA (fs.map (·.1)) ∧ fs.length ≤ 1000 ∧ H dx = some (.own a) := by
  obtain ⟨d, z, ne, ob, mA, n, r, q⟩ := (show ObjOk P w H h a (.ins C dx fs) from hok a _ e)
  exact ⟨mA, ⟨ob, n, ne⟩, r, q, z, d⟩
end

/-! ### what of the text a class must have -/
structure Cls (K : PySem.W.Frag) (C : Addr) : Prop where
  pg : PySem.W.plainGet K C Str.empty = true
  hd : PySem.W.hasDictIn K C = true
  po : PySem.W.plainOver K C = true
  sa : PySem.W.findIn K (.ref C) "__setattr__" = some (some (.builtin "object.__setattr__"))
theorem Cls.get {K : PySem.W.Frag} {C : Addr} (c : Cls K C) (f : Str) : PySem.W.plainGet K C f = true := c.pg
/-- no class of it has the name -/
def NoAttr (K : PySem.W.Frag) (C : Addr) (f : Str) : Prop := PySem.W.findIn K (.ref C) f = some none
theorem NoAttr.taker {K : PySem.W.Frag} {C : Addr} {f : Str} (n : NoAttr K C f) : PySem.W.takerIn K C f = some none := by
  unfold PySem.W.takerIn
  rw [show PySem.W.findIn K (.ref C) f = some none from n]
  rfl
/-- a constant of the class -/
structure Con (K : PySem.W.Frag) (C : Addr) (f : Str) (v : V) (u : Value) : Prop where
  at_ : PySem.W.findIn K (.ref C) f = some (some u)
  rel : RelV v u
  get : PySem.W.specialIn K u "__get__" = some none
  cp : PySem.W.copiedNames.contains f = false
/-- a method: a plain def of the class or of one above it -/
structure Meth (K : PySem.W.Frag) (C : Addr) (m : Str) (f : Addr) : Prop where
  at_ : PySem.W.findIn K (.ref C) m = some (some (.ref f))
  fn : PySem.W.isFn K (.ref f) = true
  kp : PySem.W.keepIn K (.ref f) = true

section
variable {X : Cx} {pins : List (Addr × Obj)} {σ : St} {H : Hp} {s : Shared} {a C dx : Addr} {fs : List (Str × V)} {f : Str} {v : V} {A : Around} {E : Value → Shared → Prop}

theorem getattr_ok {b : Bool} {Q : Value → Shared → Prop} (I : Inv X pins σ H s) (e : H a = some (.ins C dx fs)) (c : Cls X.K C) (n : NoAttr X.K C f) (l : fs.lookup f = some v)
    (h : ∀ u s', Inv X pins σ H s' → RelV v u → Q u s') : wpAny (model X.prog X.w) A (getAttr (.ref a) f b) Q E s := by
  obtain ⟨mA, O, r, _, _, _⟩ := ins_get I.hok e
  obtain ⟨u, hu, ru⟩ := RelO.some_of (v := v) (o := mA f) (by rw [← l]; exact r f)
  exact get_map I.kIn O (c.get f) c.hd n hu (handed_of ru) (h u _ (I.tok _) ru)

theorem getmeth_ok {m : Str} {g : Addr} {pl : Sem Bool} {Q : Value × List Value → Shared → Prop} (I : Inv X pins σ H s) (e : H a = some (.ins C dx fs)) (c : Cls X.K C) (k : Meth X.K C m g) (l : fs.lookup m = none)
    (h : Q (.ref g, [.ref a]) s) : wpAny (model X.prog X.w) A (getMethod (.ref a) m pl) Q E s := by
  obtain ⟨mA, O, r, _, _, _⟩ := ins_get I.hok e
  have hn : mA m = none := RelO.none_of (by rw [← l]; exact r m)
  exact get_meth I.kIn O (c.get m) k.at_ k.fn hn h

theorem setattr_ok {y : V} {u : Value} {Q : Unit → Shared → Prop} (I : Inv X pins σ H s) (e : H a = some (.ins C dx fs)) (c : Cls X.K C) (n : NoAttr X.K C f) (hl : fs.length < 1000) (ry : RelV y u)
    (h : ∀ s', Inv X pins σ (upd H a (.ins C dx (putF f y fs))) s' → Q () s') : wpAny (model X.prog X.w) A (setAttr (.ref a) f u) Q E s := by
  obtain ⟨mA, O, r, wi, _, ho⟩ := ins_get I.hok e
  have hz : (fs.map (·.1)).length ≤ sizeLine := by rw [List.length_map, sizeLine_eq]; omega
  refine set_map I.kIn O c.sa c.po n.taker c.hd wi hz fun h' O' sb => h _ ?_
  have hd : ∃ o, h'.get? dx = some o := let ⟨o, _, _, e', _⟩ := O'.ns; ⟨o, e'⟩
  refine I.write (x := a) (e := dx) (by rw [e]; exact True.intro) (.inr ho) (fun b q hb z => (sb.2 b hb).trans z) hd ?_
  refine ⟨by rw [upd_ne O.ne]; exact ho, ?_, O.ne, O'.obj, _, O'.ns, fun g => ?_, fun g hg => ?_⟩
  · have := length_putF f y fs; omega
  · show RelO ((putF f y fs).lookup g) (if g = f then some u else mA g)
    rw [lookup_putF]
    by_cases q : g = f
    · rw [if_pos q, if_pos q]; exact ry
    · rw [if_neg q, if_neg q]; exact r g
  · by_cases q : g = f
    · rw [q]; exact (keys_putF f y fs).1
    · refine (keys_putF f y fs).2 g (wi g fun z => hg ?_)
      show (if g = f then some u else mA g) = none
      rw [if_neg q]; exact z

/-- a new instance, tracked, without attributes -/
theorem Inv.made (I : Inv X pins σ H s) : Inv X pins σ (upd (upd H s.heap.objs.size (.own (s.heap.objs.size + 1))) (s.heap.objs.size + 1) (.ins C s.heap.objs.size []))
    { s with heap := (s.heap.push PySem.W.emptyDict).push (PySem.W.instObj C s.heap.objs.size) } := by
  have e1 : (s.heap.push PySem.W.emptyDict).get? s.heap.objs.size = some PySem.W.emptyDict := Heap.get?_push_size s.heap rfl
  have e2 : ((s.heap.push PySem.W.emptyDict).push (PySem.W.instObj C s.heap.objs.size)).get? (s.heap.objs.size + 1) = some (PySem.W.instObj C s.heap.objs.size) := by
    have := Heap.get?_push_size (s.heap.push PySem.W.emptyDict) (o := PySem.W.instObj C s.heap.objs.size) rfl
    rwa [Heap.size_push] at this
  have e3 : (s.heap.push PySem.W.emptyDict).Ns s.heap.objs.size (fun _ => none) := ⟨PySem.W.emptyDict, #[], _, e1, rfl, (fun e he => absurd he (by simp)), fun _ => rfl⟩
  have I1 := I.laid (a := s.heap.objs.size) (o := .own (s.heap.objs.size + 1)) (h' := s.heap.push PySem.W.emptyDict) (t' := s.toks) (fun b u q => Heap.get?_push_of_some _ q) (Nat.le_refl _) ⟨_, e1⟩
  refine I1.laid (a := s.heap.objs.size + 1) (o := .ins C s.heap.objs.size []) (t' := s.toks) (fun b u q => Heap.get?_push_of_some _ q) (Nat.le_of_eq (Heap.size_push _ _)) ?_
  have ne : s.heap.objs.size ≠ s.heap.objs.size + 1 := Nat.ne_of_lt (Nat.lt_succ_self _)
  refine ⟨by rw [upd_ne ne, upd_same], Nat.zero_le _, ne, e2, fun _ => none, (Heap.Ns1.of_empty e3).at fun o q => Heap.get?_push_of_some _ q, fun _ => True.intro, fun y hy => absurd rfl hy⟩

/-- e.f where nothing but the object is asked: through attributeBase (super) and the last hold -/
theorem attr_of {prog : Program} {w : World} {env : Env} {e : Expr} {f : Str} {pos : Pos} {s : Shared} {Q : Value → Shared → Prop} (hb : attributeBase e f env (eval e env) = eval e env)
    (h : wpAny (model prog w) A (eval e env) (fun o s₁ => wpAny (model prog w) A (getAttr o f true) Q E s₁) E s) : wpAny (model prog w) A (eval (.Attribute e f pos) env) Q E s :=
  Attribute_any_ h (by rw [arm_eval_Attribute, hb])
end

/-! ### readings and rules -/
/-- e.f, an attribute of the instance -/
def tFld (K : PySem.W.Frag) (ta : TE) (f : Str) : TE := fun σ H Q => ta σ H fun x H1 => ∃ a C dx fs v, x = .ref a ∧ H1 a = some (.ins C dx fs) ∧ Cls K C ∧ NoAttr K C f ∧ fs.lookup f = some v ∧ Q v H1
/-- e.f = value -/
def sFld (K : PySem.W.Frag) (ta tv : TE) (f : Str) : TS := fun D σ H => tv σ H fun y H1 => ta σ H1 fun x H2 => ∃ a C dx fs, x = .ref a ∧ H2 a = some (.ins C dx fs) ∧ Cls K C ∧ NoAttr K C f ∧ fs.length < 1000 ∧
  D.nx σ (upd H2 a (.ins C dx (putF f y fs)))
section
variable {X : Cx} {o e value : Expr} {f : Str} {pos pos' tpos : Pos} {ta tv : TE}
theorem pe_fld (he : PE X e ta) (hb : attributeBase e f X.env (eval e X.env) = eval e X.env) : PE X (.Attribute e f pos) (tFld X.K ta f) := by
  intro pins s σ H Q I h
  refine attr_of hb (thn (he pins s σ H _ I h) fun u s1 ⟨x, H1, I1, rx, a, C, dx, fs, v, ex, ea, c, n, l, q⟩ => ?_)
  subst ex
  obtain rfl : u = Value.ref a := rx
  exact getattr_ok I1 ea c n l fun u' s2 I2 ru => ⟨v, H1, I2, ru, q⟩
theorem ps_fld (ha : PE X o ta) (hv : PE X value tv) (hs : swapsWith value (some (.Attribute o f pos')) pos.line X.env = pure false) : PS X (.Assign [.Attribute o f pos'] value pos) (sFld X.K ta tv f) := by
  intro pins s σ H D I h
  refine plainObj_wpAny_Assign_Attribute (thn (hv pins s σ H _ I h) fun u s1 ⟨y, H1, I1, ry, q⟩ => thn (ha pins s1 σ H1 _ I1 q) fun ov s2 ⟨x, H2, I2, rx, a, C, dx, fs, ex, ea, c, n, l, q2⟩ => ?_) hs
  subst ex
  obtain rfl : ov = Value.ref a := rx
  exact setattr_ok I2 ea c n l ry fun s3 I3 => ⟨σ, _, I3, q2⟩
end

/-! ### isinstance -/
section
variable {X : Cx} {pins : List (Addr × Obj)} {σ : St} {H : Hp} {s : Shared} {A : Around} {E : Value → Shared → Prop} {Q : Value → Shared → Prop} {c : Value} {b : Bool}
/-- the type of a value, as the fragment's deciders take it; for an instance its class -/
inductive TyOf (K : PySem.W.Frag) (H : Hp) : V → Value → Prop where
  | non : TyOf K H .non (.type "NoneType")
  | bl (x : Bool) : TyOf K H (.bl x) (.type "bool")
  | int (i : Int) : TyOf K H (.int i) (.type "int")
  | str (x : Str) : TyOf K H (.str x) (.type "str")
  | flt (x : UInt64) : TyOf K H (.flt x) (.type "float")
  | lst {a : Addr} {xs : List V} (e : H a = some (.lst xs)) : TyOf K H (.ref a) (.type "list")
  | frz {a : Addr} {o : Obj} {xs : List V} (e : H a = some (.frz o (.lst xs))) : TyOf K H (.ref a) (.type "list")
  | tup {a : Addr} {xs : List V} (e : H a = some (.tup xs)) : TyOf K H (.ref a) (.type "tuple")
  | dK {a : Addr} {kvs : List (Key × V)} (e : H a = some (.dK kvs)) : TyOf K H (.ref a) (.type "dict")
  | dT {a : Addr} {kvs : List (List Key × V)} (e : H a = some (.dT kvs)) : TyOf K H (.ref a) (.type "dict")
  | ins {a C dx : Addr} {fs : List (Str × V)} (e : H a = some (.ins C dx fs)) (cl : Cls K C) (ha : PySem.W.findIn K (.ref C) "__class__" = some (some (.builtin "object.__class__")))
      (hn : PySem.W.specialIn K (.builtin "object.__class__") "__get__" = some (some (.builtin "getset_descriptor.__get__"))) (htk : PySem.W.takesIn K (.builtin "object.__class__") = some true)
      (hm : PySem.W.mroIn K C (.type "object") = some true) : TyOf K H (.ref a) (.ref C)
/-- isinstance(x, c) for one class c, a built-in or an own one: kitOne's answer -/
theorem isinst_ok {x : V} {u t : Value} (I : Inv X pins σ H s) (rx : RelV x u) (ty : TyOf X.K H x t) (e : PySem.W.kitOne X.K t c = some b) (h : ∀ tk, Q (.bool b) { s with toks := tk }) :
    wpAny (model X.prog X.w) A (call (.builtin "isinstance") [u, c]) Q E s := by
  cases ty with
  | non => cases (show u = Value.none from rx); exact PySem.W.kia_one PySem.W.kitx_none I.kIn True.intro e (fun z => nomatch z) h
  | bl y => cases (show u = Value.bool y from rx); exact PySem.W.kia_one PySem.W.kitx_bool I.kIn True.intro e (fun z => nomatch z) h
  | int i => obtain ⟨t, q⟩ := (show ∃ t, u = Value.int i t from rx); cases q; exact PySem.W.kia_one PySem.W.kitx_int I.kIn True.intro e (fun z => nomatch z) h
  | str y => obtain ⟨t, q⟩ := (show ∃ t, u = Value.str y t from rx); cases q; exact PySem.W.kia_one PySem.W.kitx_str I.kIn True.intro e (fun z => nomatch z) h
  | flt y => obtain ⟨t, q⟩ := (show ∃ t, u = Value.float y t from rx); cases q; exact PySem.W.kia_one PySem.W.kitx_float I.kIn True.intro e (fun z => nomatch z) h
  | @lst a xs ea =>
    cases (show u = Value.ref a from rx)
    obtain ⟨_, _, n, _, h1⟩ := (show ObjOk X.prog X.w H s.heap a (.lst xs) from I.hok a _ ea)
    exact PySem.W.kia_one PySem.W.kitx_list I.kIn ⟨_, h1, rfl⟩ e (fun z => nomatch z) h
  | @frz a ob xs ea =>
    cases (show u = Value.ref a from rx)
    obtain ⟨_, _, _, n, _, h1⟩ := (show ObjOk X.prog X.w H s.heap a (.frz ob (.lst xs)) from I.hok a _ ea)
    exact PySem.W.kia_one PySem.W.kitx_list I.kIn ⟨_, h1, rfl⟩ e (fun z => nomatch z) h
  | @tup a xs ea =>
    cases (show u = Value.ref a from rx)
    obtain ⟨_, _, _, p⟩ := (show ObjOk X.prog X.w H s.heap a (.tup xs) from I.hok a _ ea)
    obtain ⟨o, h1, h2, _⟩ := p
    exact PySem.W.kia_one PySem.W.kitx_tuple I.kIn ⟨o, h1, h2⟩ e (fun z => nomatch z) h
  | @dK a kvs ea =>
    cases (show u = Value.ref a from rx)
    obtain ⟨_, _, vs, _, p⟩ := (show ObjOk X.prog X.w H s.heap a (.dK kvs) from I.hok a _ ea)
    obtain ⟨o, es, ep, h1, h2, _⟩ := p
    exact PySem.W.kia_one PySem.W.kitx_dict I.kIn ⟨o, h1, h2.1⟩ e (fun z => nomatch z) h
  | @dT a kvs ea =>
    cases (show u = Value.ref a from rx)
    obtain ⟨_, _, xs, _, o, es, ep, h1, h2, _⟩ := (show ObjOk X.prog X.w H s.heap a (.dT kvs) from I.hok a _ ea)
    exact PySem.W.kia_one PySem.W.kitx_dict I.kIn ⟨o, h1, h2.1⟩ e (fun z => nomatch z) h
  | @ins a C dx fs ea cl ha hn htk hm =>
    cases (show u = Value.ref a from rx)
    obtain ⟨mA, O, _⟩ := ins_get I.hok ea
    obtain ⟨od, J, _⟩ := O.look
    exact PySem.W.kia_one (PySem.W.kitx_own (cl.get _) cl.hd ha hn htk hm) I.kIn J e (fun z => nomatch z) h
end
end L2

namespace L2
open PySem PySem.Spec PyProof.Rows

/-! ### room -/
structure Room (cm : Bool) (k : Nat) (A : Around) : Prop where
  hd : cm = true → A.handled = none
  dp : A.depth + 3 * k + 5 < recursionLimit
  un : A.units + 16 * k + 200 < cLine
theorem Room.mono {cm : Bool} {j k : Nat} {A : Around} (r : Room cm k A) (h : j ≤ k) : Room cm j A := ⟨r.hd, by have := r.dp; omega, by have := r.un; omega⟩
theorem Room.deeper {cm : Bool} {k : Nat} {A : Around} (r : Room cm (k + 1) A) (env : Env) : Room cm k (A.deeper env) :=
  ⟨r.hd, by have := r.dp; show A.depth + 1 + 3 * k + 5 < _; omega, by have := r.un; show A.units + 3 + 16 * k + 200 < _; omega⟩
theorem Room.in1 {cm : Bool} {k : Nat} {A : Around} (r : Room cm (k + 1) A) : Room cm k A.in1 :=
  ⟨r.hd, by have := r.dp; show A.depth + 3 * k + 5 < _; omega, by have := r.un; show A.units + 1 + 16 * k + 200 < _; omega⟩
theorem make_depth {A : Around} {C : Addr} {us : List Value} {kw : List (Str × Value)} : (A.under (.builtin "type.__call__" ⟨.ref C :: us, kw⟩)).depth = A.depth + 1 := by
  first | rfl | simp [Around.under, Code.weight, Code.isCreation, Code.isGuard, Code.isCaller, Code.frames, Code.isFrame, guardIds]
theorem make_units {A : Around} {C : Addr} {us : List Value} {kw : List (Str × Value)} : (A.under (.builtin "type.__call__" ⟨.ref C :: us, kw⟩)).units = A.units + 1 := by
  first | rfl | simp [Around.under, Code.cUnits, Code.frames, Code.isFrame]
theorem Room.make {cm : Bool} {k : Nat} {A : Around} (r : Room cm (k + 1) A) (C : Addr) (us : List Value) (kw : List (Str × Value)) : Room cm k (A.under (.builtin "type.__call__" ⟨.ref C :: us, kw⟩)) :=
  ⟨r.hd, by have := r.dp; rw [make_depth]; omega, by have := r.un; rw [make_units]; omega⟩
theorem Room.depth {cm : Bool} {k : Nat} {A : Around} (r : Room cm k A) : A.depth < recursionLimit := by have := r.dp; omega
theorem Room.units {cm : Bool} {k : Nat} {A : Around} (r : Room cm k A) : A.units + 64 < cLine := by have := r.un; omega
/-! ### argument lists and displays -/
def tNil : TA := fun _ H Q => Q [] H
def tCons (ta : TE) (tr : TA) : TA := fun σ H Q => ta σ H fun x H1 => tr σ H1 fun xs H2 => Q (x :: xs) H2
section
variable {X : Cx} {e : Expr} {es : List Expr} {te : TE} {t : TA} {pos : Pos}
theorem pa_nil : PA X [] tNil := fun _ _ _ _ H Q I h => Calls.spliced_nil ⟨[], H, I, .nil, h⟩
theorem pa_cons (ha : PE X e te) (hr : PA X es t) (hs : starEach (e :: es) X.env = (false, eval e X.env) :: starEach es X.env := by rfl) : PA X (e :: es) (tCons te t) := by
  intro pos pins s σ H Q I h
  rw [hs]
  show wpAny _ _ (spliced ((false, eval e X.env) :: backTo pos (starEach es X.env))) _ _ s
  refine Calls.spliced_cons (thn (ha pins s σ H _ I h) fun u s1 ⟨x, H1, I1, r1, q1⟩ => ?_)
  exact thn (hr pos pins s1 σ H1 _ I1 q1) fun us s2 ⟨xs, H2, I2, r2, q2⟩ => ⟨x :: xs, H2, I2, .cons r1 r2, q2⟩

/-- a tuple, a list of written items -/
def tTup (t : TA) : TE := fun σ H Q => t σ H fun xs H1 => xs.length ≤ sizeLine ∧ ∀ p, H1 p = none → Q (.ref p) (upd H1 p (.tup xs))
def tLst (t : TA) : TE := fun σ H Q => t σ H fun xs H1 => xs.length ≤ sizeLine ∧ ∀ p, H1 p = none → Q (.ref p) (upd H1 p (.lst xs))
theorem pe_tup {x1} (h : PA X es t) : PE X (.Tuple es x1 pos) (tTup t) := by
  intro pins s σ H Q I hq
  refine wpAny_Tuple_spliced (thn (h pos pins s σ H _ I hq) fun us s1 ⟨xs, H1, I1, r, z, q⟩ => ⟨by rw [← r.length]; exact z, ?_⟩)
  have hf : H1 s1.heap.objs.size = none := I1.hok.fresh (Nat.le_refl _)
  refine ⟨.ref s1.heap.objs.size, upd H1 s1.heap.objs.size (.tup xs), I1.laid (t' := s1.toks) (fun b u e => Heap.get?_push_of_some _ e) (Nat.le_refl _) ?_, rfl, q _ hf⟩
  exact ⟨z, us, r, ⟨_, Heap.get?_push_size _ rfl, rfl, _, rfl⟩⟩
theorem pe_lst (h : PA X es t) : PE X (.List es pos) (tLst t) := by
  intro pins s σ H Q I hq
  refine wpAny_List_spliced (thn (h pos pins s σ H _ I hq) fun us s1 ⟨xs, H1, I1, r, z, q⟩ => ⟨by rw [← r.length]; exact z, ?_⟩)
  have hf : H1 s1.heap.objs.size = none := I1.hok.fresh (Nat.le_refl _)
  refine ⟨.ref s1.heap.objs.size, upd H1 s1.heap.objs.size (.lst xs), I1.laid (t' := s1.toks) (fun b u e => Heap.get?_push_of_some _ e) (Nat.le_refl _) ?_, rfl, q _ hf⟩
  exact ⟨z, us, 0, r, Heap.get?_push_size _ rfl⟩
end

/-! ### what a def promises -/
/-- a def's promise: the bound arguments in the parameters' order, the heap, the wanted end, the wanted exception -/
abbrev Sp := List V → Hp → VK → XK → Prop
/-- how an exception lies behind a call (file 08 gives it): the callers' frames, abstract heap and state ahead of the call, the wish, the exception, the state -/
abbrev CXT := List Env → Hp → Shared → XK → Value → Shared → Prop

/-- the state at a call -/
structure Env0 (P : Program) (w : World) (K : PySem.W.Frag) (mg : Str → Option Value) (base : Heap) (A : Around) (outer : List Env) (s : Shared) (H : Hp) : Prop where
  frames : A.frames = some outer
  mod : Mod K mg base
  bs : ∀ b o, base.get? b = some o → s.heap.get? b = some o ∧ H b = none
  bsz : base.objs.size ≤ s.heap.objs.size
  funs : s.heap.FunFrames base outer
  frf : ∀ b ∈ frs outer, H b = none
  hok : HOk P w H s.heap
  bare : AllBare s.gens
/-- a call's end -/
def CE (outer : List Env) (P : Program) (w : World) (H : Hp) (s : Shared) (Q : VK) (u : Value) (s' : Shared) : Prop :=
  ∃ v H', s'.os = s.os ∧ AllBare s'.gens ∧ Un (frs outer) [] H H' s.heap s'.heap ∧ HOk P w H' s'.heap ∧ RelV v u ∧ Q v H'
def CR (CX : CXT) (outer : List Env) (P : Program) (w : World) (H : Hp) (s : Shared) (Q : VK) (E : XK) (r : Result) (s' : Shared) : Prop :=
  match r with
  | .ok (.ret u) => CE outer P w H s Q u s'
  | .ok _ => False
  | .error e => CX outer H s E e s'
structure FnOk (P : Program) (w : World) (K : PySem.W.Frag) (mg : Str → Option Value) (base : Heap) (CX : CXT) (cm : Bool) (k : Nat) (f : Addr) (fd : FuncData) (ps : List Str) (sp : Sp) : Prop where
  len : ∀ vs H Q E, sp vs H Q E → vs.length = ps.length
  run : ∀ (A : Around) (outer : List Env) (s : Shared) (H : Hp) (args : Args) (us : List Value) (vs : List V) (Q : VK) (E : XK), Room cm k A → Env0 P w K mg base A outer s H → BindsTo s fd args (ps.zip us) → Vals vs us → sp vs H Q E →
    codeAny (model P w) A (.call (.ref f) args) (CR CX outer P w H s Q E) s
theorem FnOk.mono {cm : Bool} {P : Program} {w : World} {K : PySem.W.Frag} {mg : Str → Option Value} {base : Heap} {CX : CXT} {j k : Nat} {f : Addr} {fd : FuncData} {ps : List Str} {sp : Sp} (F : FnOk P w K mg base CX cm j f fd ps sp) (h : j ≤ k) :
    FnOk P w K mg base CX cm k f fd ps sp := ⟨F.len, fun A outer s H args us vs Q E hr => F.run A outer s H args us vs Q E (hr.mono h)⟩
/-- a weaker promise -/
theorem FnOk.imp {cm : Bool} {P : Program} {w : World} {K : PySem.W.Frag} {mg : Str → Option Value} {base : Heap} {CX : CXT} {k : Nat} {f : Addr} {fd : FuncData} {ps : List Str} {sp sp' : Sp} (F : FnOk P w K mg base CX cm k f fd ps sp)
    (h : ∀ vs H Q E, sp' vs H Q E → sp vs H Q E) : FnOk P w K mg base CX cm k f fd ps sp' :=
  ⟨fun vs H Q E q => F.len vs H Q E (h _ _ _ _ q), fun A outer s H args us vs Q E hr he hb hv hs => F.run A outer s H args us vs Q E hr he hb hv (h _ _ _ _ hs)⟩

theorem Env0.make {P : Program} {w : World} {K : PySem.W.Frag} {mg : Str → Option Value} {base : Heap} {A : Around} {outer : List Env} {s : Shared} {H : Hp} (e : Env0 P w K mg base A outer s H) (C : Addr) (us : List Value) (kw : List (Str × Value)) :
    Env0 P w K mg base (A.under (.builtin "type.__call__" ⟨.ref C :: us, kw⟩)) outer s H := ⟨by first | exact e.frames | (simpa [Around.under, Code.envs, Code.isFrame, pushEnvs] using e.frames), e.mod, e.bs, e.bsz, e.funs, e.frf, e.hok, e.bare⟩
theorem Env0.in1 {P : Program} {w : World} {K : PySem.W.Frag} {mg : Str → Option Value} {base : Heap} {A : Around} {outer : List Env} {s : Shared} {H : Hp} (e : Env0 P w K mg base A outer s H) :
    Env0 P w K mg base A.in1 outer s H := ⟨e.frames, e.mod, e.bs, e.bsz, e.funs, e.frf, e.hok, e.bare⟩

section
variable {X : Cx} {pins : List (Addr × Obj)} {σ : St} {H : Hp} {s s' : Shared}
/-- from a body: what a callee wants -/
theorem Inv.env0 (I : Inv X pins σ H s) : Env0 X.prog X.w X.K X.mg X.base X.A X.stack s H :=
  ⟨I.ok.frames, I.ok.mod, I.bs, Nat.le_trans I.ok.bsz I.sz, I.stack, I.stkFree, I.hok, I.bare⟩
/-- behind a call -/
theorem Inv.after {Q : VK} {u : Value} (I : Inv X pins σ H s) (h : CE X.stack X.prog X.w H s Q u s') : EP X pins σ Q u s' := by
  obtain ⟨v, H', os, bare, un, hok, r, q⟩ := h
  obtain ⟨hh, g, d, t, os'⟩ := s'
  obtain rfl : os' = s.os := os
  exact ⟨v, H', I.call (h' := hh) (g' := g) (d' := d) (t' := t) (ch := []) un hok bare (fun b z => absurd z (by simp)), r, q⟩
end

/-! ### calls -/
/-- f(..): the written arguments, then the defaults dvs; E: what is wanted of an exception -/
def tCall (sp : Sp) (dvs : List V) (E : XK) (t : TA) : TE := fun σ H Q => t σ H fun vs H1 => sp (vs ++ dvs) H1 Q E
/-- C(..): a new instance and its dict, then __init__ -/
def tMake (C : Addr) (sp : Sp) (dvs : List V) (E : XK) (t : TA) : TE := fun σ H Q => t σ H fun vs H1 => ∀ x dx, H1 x = none → H1 dx = none → dx ≠ x →
  sp (.ref x :: (vs ++ dvs)) (upd (upd H1 dx (.own x)) x (.ins C dx [])) (fun v H2 => v = .non ∧ Q (.ref x) H2) E

/-- how the parameters are bound: us the positional arguments, kw the keywords' values by name, ds the defaults that fill up -/
def Binds (K : PySem.W.Frag) (fd : FuncData) (ps : List Str) (ds : List Value) : Prop :=
  ∀ (s : Shared) (us : List Value), K.In s.heap → (us ++ ds).length = ps.length → BindsTo s fd ⟨us, []⟩ (ps.zip (us ++ ds))
/-- every parameter is given -/
theorem Binds.all {K : PySem.W.Frag} {fd : FuncData} {ps : List Str} (h : ∀ us : List Value, us.length = ps.length → bindArgs fd ⟨us, []⟩ = pure (ps.zip us)) : Binds K fd ps [] := fun s us _ hl => by
  rw [List.append_nil] at hl ⊢
  exact .of_eq (h us hl)

/-- an exception of a callee reaches what this body wants of exceptions -/
def Passes (CX : CXT) (X : Cx) (E : XK) : Prop := ∀ (pins : List (Addr × Obj)) (σ : St) (H : Hp) (s : Shared) (e : Value) (s' : Shared), Inv X pins σ H s → CX X.stack H s E e s' → X.xe e s'

section
variable {X : Cx} {CX : CXT} {cm : Bool} {k : Nat} {f C : Addr} {fd : FuncData} {ps : List Str} {sp : Sp} {dvs : List V} {ds : List Value} {E : XK} {x m : Str} {p pos apos : Pos} {e o : Expr} {es : List Expr} {ta : TE} {t : TA}

/-- the callee runs -/
theorem run_fn {pins : List (Addr × Obj)} {σ : St} {H : Hp} {s : Shared} {Q : VK} {us : List Value} {vs : List V} (F : FnOk X.prog X.w X.K X.mg X.base CX cm k f fd ps sp) (hr : Room cm k X.A) (hb : Binds X.K fd ps ds) (hd : Vals dvs ds) (hx : Passes CX X E)
    (I : Inv X pins σ H s) (r : Vals vs us) (h : sp (vs ++ dvs) H Q E) : wpAny (model X.prog X.w) X.A (call (.ref f) us) (EP X pins σ Q) X.xe s := by
  have r2 : Vals (vs ++ dvs) (us ++ ds) := r.append hd
  have hl : (us ++ ds).length = ps.length := by rw [← r2.length]; exact F.len _ _ _ _ h
  refine wpAny_call (codeAny_mono (F.run X.A X.stack s H ⟨us, []⟩ (us ++ ds) (vs ++ dvs) Q E hr I.env0 (hb s us I.kIn hl) r2 h) fun r s' hq => ?_)
  cases r with
  | error e => exact hx pins σ H s e s' I hq
  | ok fl =>
    cases fl with
    | ret u => exact I.after hq
    | next => exact False.elim hq
    | brk => exact False.elim hq
    | cont => exact False.elim hq

theorem pe_call (F : FnOk X.prog X.w X.K X.mg X.base CX cm k f fd ps sp) (hr : Room cm k X.A) (hg : Gl X x) (hm : X.mg x = some (.ref f)) (hk : PySem.W.keepIn X.K (.ref f) = true) (hb : Binds X.K fd ps ds) (hd : Vals dvs ds) (hx : Passes CX X E)
    (ha : PA X (e :: es) t) (hdb : (x == ("__debug__" : Str)) = false := by decide) (he : starEach (e :: es) X.env = (false, eval e X.env) :: starEach es X.env := by rfl) (hpl : (backTo pos (starEach es X.env)).any (·.1) = false := by rfl) :
    PE X (.Call (.Name x p) (e :: es) [] pos) (tCall sp dvs E t) := by
  intro pins s σ H Q I h
  refine wpAny_Call_Name_kw (ld_glob I hg hm ?_ hdb)
  refine PySem.W.callWith_K (h₀ := X.base) I.ok.mod.kin hk (thn (ha pos pins s σ H _ I h) fun us s1 ⟨vs, H1, I1, r, q⟩ => ⟨I1.kIn, ?_⟩) he hpl
  exact run_fn F hr hb hd hx I1 r q
/-- what a class must have to be made -/
structure Mk (K : PySem.W.Frag) (C f : Addr) : Prop where
  makes : PySem.W.makesIn K C = true
  init : PySem.W.findIn K (.ref C) "__init__" = some (some (.ref f))
  fn : PySem.W.isFn K (.ref f) = true
  kp : PySem.W.keepIn K (.ref C) = true

theorem run_make {pins : List (Addr × Obj)} {σ : St} {H : Hp} {s : Shared} {Q : VK} {us : List Value} {vs : List V} (M : Mk X.K C f) (F : FnOk X.prog X.w X.K X.mg X.base CX cm k f fd ps sp) (hr : Room cm (k + 1) X.A) (hb : Binds X.K fd ps ds) (hd : Vals dvs ds)
    (hx : Passes CX X E) (I : Inv X pins σ H s) (r : Vals vs us)
    (h : ∀ x dx, H x = none → H dx = none → dx ≠ x → sp (.ref x :: (vs ++ dvs)) (upd (upd H dx (.own x)) x (.ins C dx [])) (fun v H2 => v = .non ∧ Q (.ref x) H2) E) :
    wpAny (model X.prog X.w) X.A (call (.ref C) us) (EP X pins σ Q) X.xe s := by
  have hq := h (s.heap.objs.size + 1) s.heap.objs.size (I.hok.fresh (Nat.le_succ _)) (I.hok.fresh (Nat.le_refl _)) (Nat.ne_of_lt (Nat.lt_succ_self _))
  have I2 := Inv.made (C := C) I
  have r2 : Vals (V.ref (s.heap.objs.size + 1) :: (vs ++ dvs)) (Value.ref (s.heap.objs.size + 1) :: (us ++ ds)) := .cons rfl (r.append hd)
  have hl : (Value.ref (s.heap.objs.size + 1) :: us ++ ds).length = ps.length := by
    have e := r2.length
    rw [F.len _ _ _ _ hq] at e
    exact e.symm
  refine wpAny_call (make_map (f := f) I.kIn M.makes M.init (beq_iff_eq.mp M.fn) (codeAny_mono (F.run _ X.stack _ _ ⟨Value.ref (s.heap.objs.size + 1) :: us, []⟩ (Value.ref (s.heap.objs.size + 1) :: (us ++ ds)) _ _ E (hr.make C us [])
    (I2.env0.make C us []) (hb _ (Value.ref (s.heap.objs.size + 1) :: us) I2.kIn hl) r2 hq) fun r s' hq' => ?_))
  cases r with
  | error e => exact hx pins σ _ _ e s' I2 hq'
  | ok fl =>
    cases fl with
    | ret u =>
      obtain ⟨v, H', I3, rv, ev, q3⟩ := I2.after hq'
      subst ev
      exact ⟨rv, ⟨V.ref (s.heap.objs.size + 1), H', I3, rfl, q3⟩⟩
    | next => exact False.elim hq'
    | brk => exact False.elim hq'
    | cont => exact False.elim hq'
theorem pe_make (M : Mk X.K C f) (F : FnOk X.prog X.w X.K X.mg X.base CX cm k f fd ps sp) (hr : Room cm (k + 1) X.A) (hg : Gl X x) (hm : X.mg x = some (.ref C)) (hb : Binds X.K fd ps ds) (hd : Vals dvs ds) (hx : Passes CX X E)
    (ha : PA X (e :: es) t) (hdb : (x == ("__debug__" : Str)) = false := by decide) (he : starEach (e :: es) X.env = (false, eval e X.env) :: starEach es X.env := by rfl) (hpl : (backTo pos (starEach es X.env)).any (·.1) = false := by rfl) :
    PE X (.Call (.Name x p) (e :: es) [] pos) (tMake C sp dvs E t) := by
  intro pins s σ H Q I h
  refine wpAny_Call_Name_kw (ld_glob I hg hm ?_ hdb)
  refine PySem.W.callWith_K (h₀ := X.base) I.ok.mod.kin M.kp (thn (ha pos pins s σ H _ I h) fun us s1 ⟨vs, H1, I1, r, q⟩ => ⟨I1.kIn, ?_⟩) he hpl
  exact run_make M F hr hb hd hx I1 r q
end

/-! ### keywords -/
section
variable {X : Cx} {CX : CXT} {cm : Bool} {k : Nat} {f C : Addr} {fd : FuncData} {ps ks : List Str} {sp : Sp} {E : XK} {x m : Str} {p pos apos kpos : Pos} {e o : Expr} {es : List Expr} {kws : List Keyword} {te ta : TE} {t tk : TA} {nm : Option Str}
/-- how a call with keywords binds: g puts the positional values us and the keywords' values ws (names ks) in the parameters' order, defaults among them -/
structure KBinds (K : PySem.W.Frag) (fd : FuncData) (ps ks : List Str) (g : List Value → List Value → List Value) (gV : List V → List V → List V) : Prop where
  to : ∀ (s : Shared) (us ws : List Value), K.In s.heap → (g us ws).length = ps.length → BindsTo s fd ⟨us, ks.zip ws⟩ (ps.zip (g us ws))
  rel : ∀ {vs : List V} {us : List Value} {zs : List V} {ws : List Value}, Vals vs us → Vals zs ws → Vals (gV vs zs) (g us ws)
variable {g : List Value → List Value → List Value} {gV : List V → List V → List V}
end

/-! ### a def's body keeps its promise -/
/-- names: the parameters first -/
structure FnScope (N P : List Str) (sc : Scope) : Prop where
  kind : sc.kind = .function
  co : sc.isCoroutine = false
  gen : sc.isGenerator = false
  nd : N.Nodup
  pre : N.take P.length = P
  par : ∀ x ∈ P, sc.names.lookup x = some .local ∨ sc.names.lookup x = some .cell
  nofree : ∀ y ∈ sc.names, y.2 ≠ .free

theorem bindL_out {kindOf : Str → Option NameKind} {x : Str} : ∀ {binds : List (Str × Value)} {m : Str → Option Value}, (∀ v, (x, v) ∉ binds) → bindL kindOf binds m x = m x
  | [], _, _ => rfl
  | (n, v) :: r, m, h => by
    unfold bindL
    rw [bindL_out fun w hw => h w (List.mem_cons_of_mem _ hw)]
    split
    · have : x ≠ n := by rintro rfl; exact h v List.mem_cons_self
      simp [this]
    · rfl
theorem bindC_out {kindOf : Str → Option NameKind} {x : Str} : ∀ {binds : List (Str × Value)} {m : Str → Option Value}, (∀ v, (x, v) ∉ binds) → bindC kindOf binds m x = m x
  | [], _, _ => rfl
  | (n, v) :: r, m, h => by
    unfold bindC
    rw [bindC_out fun w hw => h w (List.mem_cons_of_mem _ hw)]
    split
    · rfl
    · have : x ≠ n := by rintro rfl; exact h v List.mem_cons_self
      simp [this]
theorem bindL_get {kindOf : Str → Option NameKind} {x : Str} {v : Value} : ∀ {P : List Str} {vs : List Value} {i : Nat} {m : Str → Option Value}, P.Nodup → P[i]? = some x → vs[i]? = some v → kindOf x = some .local →
    bindL kindOf (P.zip vs) m x = some v
  | [], _, _, _, _, h, _, _ => by simp at h
  | _ :: _, [], _, _, _, _, h, _ => by simp at h
  | p :: P, w :: vs, 0, m, nd, h1, h2, hk => by
    simp at h1 h2; subst h1; subst h2
    show bindL kindOf ((p, w) :: P.zip vs) m p = _
    unfold bindL
    rw [bindL_out fun v hv => (List.nodup_cons.mp nd).1 (List.of_mem_zip hv).1, if_pos hk]
    simp
  | p :: P, w :: vs, i + 1, m, nd, h1, h2, hk => by
    show bindL kindOf ((p, w) :: P.zip vs) m x = _
    unfold bindL
    exact bindL_get (i := i) (List.nodup_cons.mp nd).2 (by simpa using h1) (by simpa using h2) hk
theorem bindC_get {kindOf : Str → Option NameKind} {x : Str} {v : Value} : ∀ {P : List Str} {vs : List Value} {i : Nat} {m : Str → Option Value}, P.Nodup → P[i]? = some x → vs[i]? = some v → kindOf x ≠ some .local →
    bindC kindOf (P.zip vs) m x = some v
  | [], _, _, _, _, h, _, _ => by simp at h
  | _ :: _, [], _, _, _, _, h, _ => by simp at h
  | p :: P, w :: vs, 0, m, nd, h1, h2, hk => by
    simp at h1 h2; subst h1; subst h2
    show bindC kindOf ((p, w) :: P.zip vs) m p = _
    unfold bindC
    rw [bindC_out fun v hv => (List.nodup_cons.mp nd).1 (List.of_mem_zip hv).1, if_neg hk]
    simp
  | p :: P, w :: vs, i + 1, m, nd, h1, h2, hk => by
    show bindC kindOf ((p, w) :: P.zip vs) m x = _
    unfold bindC
    exact bindC_get (i := i) (List.nodup_cons.mp nd).2 (by simpa using h1) (by simpa using h2) hk

/-- the names' values at the entry -/
def start (N : List Str) (vs : List V) : St := vs.map some ++ List.replicate (N.length - vs.length) none

/-- the context of a def's body, at its entry; an exception leaves the frame, then lies as CX says -/
def cxOf (CX : CXT) (cm : Bool) (P : Program) (w : World) (K : PySem.W.Frag) (mg : Str → Option Value) (base : Heap) (N : List Str) (qual : Str) (scope : Scope) (f : Addr) (cd : Value) (A : Around) (outer : List Env) (s : Shared) (H : Hp) (E : XK) : Cx where
  prog := P
  w := w
  K := K
  mg := mg
  base := base
  A := A.deeper (envOfC qual scope s.heap.objs.size f cd)
  N := N
  s₀ := s
  H₀ := H
  env := envOfC qual scope s.heap.objs.size f cd
  outer := outer
  stack := envOfC qual scope s.heap.objs.size f cd :: outer
  ex := []
  calm := cm
  fn := fun _ => true
  pn := []
  xe := fun e s' => wpAny (model P w) (A.deeper (envOfC qual scope s.heap.objs.size f cd)) (leaving (envOfC qual scope s.heap.objs.size f cd) e) (fun _ s'' => CX outer H s E e s'') (fun e' s'' => CX outer H s E e' s'') s'

theorem cell_has {sc : Scope} {n : Nat} {x : Str} (h : sc.names.lookup x = some .cell) : ∃ c, (cellsFrom n sc.names []).lookup x = some c := by
  have q := PySem.W.cellsFrom_some sc.names n [] (.inl h)
  exact Option.isSome_iff_exists.mp q

theorem inv_start {cm : Bool} {CX : CXT} {P : Program} {w : World} {K : PySem.W.Frag} {mg : Str → Option Value} {base : Heap} {N ps : List Str} {qual : Str} {scope : Scope} {f : Addr} {cd : Value} {A : Around} {outer : List Env} {s s1 : Shared} {H : Hp} {E : XK} {us : List Value} {vs : List V}
    (S : FnScope N ps scope) (hd : cm = true → A.handled = none) (e0 : Env0 P w K mg base A outer s H) (hl : vs.length = ps.length) (r : Vals vs us)
    (x : InCallC s s.heap.objs.size (bindL (envOfC qual scope s.heap.objs.size f cd).kindOf (ps.zip us) fun _ => none) (cellsFrom (s.heap.objs.size + 1) scope.names []) (bindC (envOfC qual scope s.heap.objs.size f cd).kindOf (ps.zip us) fun _ => none) s1) :
    Inv (cxOf CX cm P w K mg base N qual scope f cd A outer s H E) [] (start N vs) H s1 := by
  have hpl : ps.length ≤ N.length := by have := congrArg List.length S.pre; rw [List.length_take] at this; omega
  obtain ⟨h1, tk, rfl, hk⟩ := x.done
  have noA : ∀ b : Addr, b ∉ (cxOf CX cm P w K mg base N qual scope f cd A outer s H E).ex := fun b z => absurd (show b ∈ ([] : List Addr) from z) (by simp)
  refine ⟨⟨e0.mod, S.kind, rfl, rfl, Nat.le_refl _, fun y z c h1 h2 => ?_, fun y hy => ?_, fun y c _ h => ?_, hd, Around.frames_deeper e0.frames, .inr ⟨rfl, rfl⟩, fun b z => absurd z (noA b), e0.bs, e0.bsz, fun b _ _ => noA b, fun b z => absurd z (noA b), e0.funs, e0.frf⟩,
    rfl, e0.bare, Un.kept hk, ⟨_, x.toInCall.ns, fun i y v h1 h2 h3 => ?_⟩, fun y c h => ⟨_, x.cell y c h⟩, e0.hok.fresh (Nat.le_refl _), fun y c h => ?_, fun p hp => absurd (show p ∈ ([] : List (Addr × Obj)) from hp) (by simp), e0.hok.kept hk, ?_⟩
  · exact name_of_addr x.apart (PySem.mem_of_lookup h1) (PySem.mem_of_lookup h2)
  · have hy : scope.names.lookup y = some .cell ∨ scope.names.lookup y = some .free := hy
    rcases hy with hy | hy
    · exact cell_has hy
    · exact absurd rfl (S.nofree _ (PySem.mem_of_lookup hy))
  · exact Nat.le_of_lt (x.above y c (PySem.mem_of_lookup h))
  · have hi : i < vs.length := by
      unfold start at h2
      by_cases hi : i < vs.length
      · exact hi
      · rw [List.getElem?_append_right (by simpa using hi)] at h2
        rw [List.getElem?_replicate] at h2
        split at h2 <;> cases h2
    have ha : vs[i]? = some v := by
      unfold start at h2
      rw [List.getElem?_append_left (by simpa using hi), List.getElem?_map] at h2
      cases e : vs[i]? with
      | none => rw [e] at h2; cases h2
      | some a => rw [e] at h2; cases h2; rfl
    obtain ⟨u, hu, rv⟩ := r.get ha
    have hp : ps[i]? = some y := by
      rw [← S.pre, List.getElem?_take_of_lt (by omega)]; exact h1
    have ndP : ps.Nodup := by rw [← S.pre]; exact S.nd.sublist (List.take_sublist _ _)
    refine ⟨u, rv, ?_⟩
    rcases S.par y (List.mem_of_getElem? hp) with k | k
    · exact .inl ⟨k, bindL_get ndP hp hu k⟩
    · obtain ⟨c, e⟩ := cell_has (n := s.heap.objs.size + 1) k
      refine .inr ⟨.inl k, c, e, ?_⟩
      have q := x.cell y c e
      rw [bindC_get ndP hp hu (by show scope.names.lookup y ≠ _; rw [k]; decide)] at q
      exact q
  · exact e0.hok.fresh (Nat.le_of_lt (x.above y c (PySem.mem_of_lookup h)))
  · unfold start
    show _ = N.length
    rw [List.length_append, List.length_map, List.length_replicate]
    omega

/-- THE RULE: a def (or a method) of the text, by its body. The body's reading t is chosen for each entry; it is run at the parameters' values -/
theorem fn_of {cm : Bool} {CX : CXT} {P : Program} {w : World} {K : PySem.W.Frag} {mg : Str → Option Value} {base : Heap} {k : Nat} {f : Addr} {name qual : Str} {params : Arguments} {body : List Stmt} {scope : Scope} {dV kV doc pm cdv ct oc : Value} {an od : Option Addr}
    {osl : Array (Option Value)} {N ps : List Str} {sp : Sp} (lk : K.lookup f = some ⟨oc, od, .func (PySem.W.fnOf name qual params body scope dV kV doc pm an cdv ct), osl⟩) (hcd : PySem.W.codeIn K cdv qual = true) (S : FnScope N ps scope)
    (len : ∀ vs H Q E, sp vs H Q E → vs.length = ps.length)
    (hbody : ∀ (A : Around) (outer : List Env) (s : Shared) (H : Hp) (vs : List V) (Q : VK) (E : XK), Room cm k (A.deeper (envOfC qual scope s.heap.objs.size f cdv)) → sp vs H Q E →
      ∃ t, PSs (cxOf CX cm P w K mg base N qual scope f cdv A outer s H E) body t ∧ t { nx := fun _ H' => Q .non H', rt := fun _ => Q } (start N vs) H) :
    FnOk P w K mg base CX cm (k + 1) f (PySem.W.fnOf name qual params body scope dV kV doc pm an cdv ct) ps sp := by
  refine ⟨len, fun A outer s H args us vs Q E hr e0 hb r hsp => ?_⟩
  have hl := len _ _ _ _ hsp
  have KX : K.In s.heap := e0.mod.kin.keeps fun b o e => (e0.bs b o e).1
  have lim : s.heap.NoLimit := e0.mod.nolimit.keeps fun b o e => (e0.bs b o e).1
  have hkind : ∀ y ∈ ps.zip us, scope.names.lookup y.1 = some .local ∨ (scope.names.lookup y.1 = some .cell ∧ ((cellsFrom (s.heap.objs.size + 1) scope.names []).lookup y.1).isSome = true) := fun ⟨n, v⟩ hy => by
    rcases S.par n (List.of_mem_zip hy).1 with q | q
    · exact .inl q
    · exact .inr ⟨q, PySem.W.cellsFrom_some _ _ _ (.inl q)⟩
  refine codeAny_call_function hr.depth (KX _ _ lk) rfl S.co S.gen rfl (PySem.W.codeRec_of KX hcd) (hb _ _ _ _ ?_)
  refine wpAny_newFunctionEnv_cells S.kind hkind fun env he s1 x => ?_
  subst he
  refine ⟨lim.keeps x.toInCall.keep, codeAny_func ?_⟩
  obtain ⟨t, ht, hq⟩ := hbody A outer s H vs Q E (hr.deeper _) hsp
  have I : Inv (cxOf CX cm P w K mg base N qual scope f cdv A outer s H E) [] (start N vs) H s1 := inv_start S hr.hd e0 hl r x
  refine wpAny_mono (ht [] s1 (start N vs) H _ I hq) (fun fl s' hs => ?_) fun e s' hs => hs
  have fin : ∀ {σ' : St} {H' : Hp} {v : V} {u : Value}, Inv (cxOf CX cm P w K mg base N qual scope f cdv A outer s H E) [] σ' H' s' → RelV v u → Q v H' → CE outer P w H s Q u s' :=
    fun {σ' H' v u} J rv q => ⟨v, H', J.os, J.bare, J.base, J.hok, rv, q⟩
  cases fl with
  | ret u =>
    obtain ⟨v, σ', H', J, rv, q⟩ := hs
    exact fin J rv q
  | next =>
    obtain ⟨σ', H', J, q⟩ := hs
    exact fin (v := V.non) (u := Value.none) J rfl q
  | brk =>
    obtain ⟨_, _, _, q⟩ := hs
    exact False.elim q
  | cont =>
    obtain ⟨_, _, _, q⟩ := hs
    exact False.elim q
end L2

namespace L2
open PySem PySem.Spec PyProof.Rows
section
variable {X : Cx} {x : Str} {p pos : Pos} {e : Expr} {es : List Expr} {t : TA} {id T : String} {r : List V → Hp → VK → Prop}

def tCB (r : List V → Hp → VK → Prop) (t : TA) : TE := fun σ H Q => t σ H fun vs H1 => r vs H1 Q
/-- f(e, ..), f a built-in function -/
theorem pe_callB (hc : CallR X (.builtin id) r) (hg : Gl X x) (hm : X.mg x = none) (hv : bootBuiltins x = some (.builtin id)) (ha : PA X (e :: es) t) (hn : x ≠ "__name__" := by decide) (hdb : (x == ("__debug__" : Str)) = false := by decide)
    (he : starEach (e :: es) X.env = (false, eval e X.env) :: starEach es X.env := by rfl) (hpl : (backTo pos (starEach es X.env)).any (·.1) = false := by rfl) : PE X (.Call (.Name x p) (e :: es) [] pos) (tCB r t) := by
  intro pins s σ H Q I h
  refine wpAny_Call_Name_kw (ld_blt I hg hm hv ?_ hn hdb)
  exact PyProof.Rows.callWith_builtin1 (thn (ha pos pins s σ H _ I h) fun us s1 ⟨vs, H1, I1, r1, q1⟩ => hc pins s1 σ H1 vs us Q I1 r1 q1) he hpl
/-- T(e, ..), T a built-in type -/
theorem pe_callTy (hc : CallR X (.type T) r) (hg : Gl X x) (hm : X.mg x = none) (hv : bootBuiltins x = some (.type T)) (ha : PA X (e :: es) t) (hn : x ≠ "__name__" := by decide) (hdb : (x == ("__debug__" : Str)) = false := by decide)
    (he : starEach (e :: es) X.env = (false, eval e X.env) :: starEach es X.env := by rfl) (hpl : (backTo pos (starEach es X.env)).any (·.1) = false := by rfl) : PE X (.Call (.Name x p) (e :: es) [] pos) (tCB r t) := by
  intro pins s σ H Q I h
  refine wpAny_Call_Name_kw (ld_blt I hg hm hv ?_ hn hdb)
  exact PyProof.Rows.callWith_type1 (thn (ha pos pins s σ H _ I h) fun us s1 ⟨vs, H1, I1, r1, q1⟩ => hc pins s1 σ H1 vs us Q I1 r1 q1) he hpl
end
end L2

namespace HT
open PySem PyProof.Rows

section
open PySem.SeqAt
open PySem.AutoSeq1 (wpAny_loadPart')
open PySem.MeetsSeq PySem.MeetsSeq2 PySem.MeetsSeq3

end

section
variable {prog : Program} {w : World} {A : Around} {E : Value → Shared → Prop} {s : Shared}

/-- t + u, t not empty -/
theorem cat_tup {t b : Addr} {vs ws : List Value} {Q : Value → Shared → Prop} (ht : IsTup s.heap t vs.toArray) (hb : IsTup s.heap b ws.toArray) (hv : vs ≠ [])
    (h1 : ws = [] → Q (.ref t) s) (h2 : ws ≠ [] → Q (.ref s.heap.objs.size) { s with heap := s.heap.push { cls := .type "tuple", data := .seq (vs ++ ws).toArray } })
    (hsz : vs.length + ws.length ≤ sizeLine) : wpAny (model prog w) A (binaryOp .Add (.ref t) (.ref b)) Q E s := by
  obtain ⟨⟨cls, dd, data, sl⟩, ho, hc, n, hd⟩ := id ht
  obtain ⟨⟨cls2, dd2, data2, sl2⟩, ho2, hc2, n2, hd2⟩ := id hb
  simp only at hc hd hc2 hd2
  subst hc hd hc2 hd2
  have e : vs.toArray ++ ws.toArray = (vs ++ ws).toArray := by simp
  by_cases hw : ws = []
  · exact concat_meets ⟨_, ho, rfl⟩ ⟨_, ho2, rfl⟩ noFill_tuple_add seq_tuple_add PySem.F.slot_tuple_add PySem.F.entry_tuple_add (PySem.F.args_tuple_add_2 _ _)
      (tuple_addW1 t b vs.toArray ws.toArray n n2 dd dd2 sl sl2 (by simpa using hv) (by simp [hw])) ⟨ho, ho2, h1 hw⟩
  · refine concat_meets ⟨_, ho, rfl⟩ ⟨_, ho2, rfl⟩ noFill_tuple_add seq_tuple_add PySem.F.slot_tuple_add PySem.F.entry_tuple_add (PySem.F.args_tuple_add_2 _ _)
      (tuple_addW2 t b vs.toArray ws.toArray n n2 dd dd2 sl sl2 (by simpa using hv) (by simpa using hw) (by rw [List.size_toArray, List.size_toArray]; exact hsz)) ⟨ho, ho2, ?_⟩
    rw [e]
    exact h2 hw

/-! ### t[a:b], not the whole -/
end
end HT

namespace L2
open PySem PySem.Spec PyProof.Rows

/-! ### the parts of a slice -/
abbrev TO := St → Hp → (Option Int → Hp → Prop) → Prop
theorem intsAre_of {ns : List Int} : ∀ {us : List Value}, Vals (ns.map V.int) us → IntsAre us ns := by
  induction ns with
  | nil => intro us r; rw [List.map_nil] at r; cases r; exact .nil
  | cons n ns ih =>
    intro us r
    rw [List.map_cons] at r
    cases r with
    | cons r1 r2 =>
      obtain ⟨t, e⟩ := r1
      subst e
      exact .cons n t (ih r2)

section
variable {X : Cx} {e : Expr} {te : TE} {lo hi : Option Expr} {tl th : TO} {pos p2 : Pos}

/-- what a slice of a value is, by values: the slice object stands at sl -/
def SlR (X : Cx) (r : V → Option Int → Option Int → Hp → VK → Prop) : Prop :=
  ∀ (pins : List (Addr × Obj)) (s : Shared) (σ : St) (H : Hp) (x : V) (v vl vu : Value) (lo hi : Option Int) (sl : Addr) (Q : VK), Inv X pins σ H s → RelV x v → s.heap.IsSliceOf sl vl vu .none → IsPart vl lo → IsPart vu hi → r x lo hi H Q →
    ∃ T id, typeLookup (.type T) "__getitem__" = pure (some (.builtin id)) ∧ s.TypeIs v T ∧ wpAny (model X.prog X.w) X.A (getItem v (.ref sl)) (EP X pins σ Q) X.xe s
theorem SlR.or {r r' : V → Option Int → Option Int → Hp → VK → Prop} (h : SlR X r) (h' : SlR X r') : SlR X (fun x lo hi H Q => r x lo hi H Q ∨ r' x lo hi H Q) := by
  intro pins s σ H x v vl vu lo hi sl Q I rx hs pl pu q
  rcases q with q | q
  · exact h pins s σ H x v vl vu lo hi sl Q I rx hs pl pu q
  · exact h' pins s σ H x v vl vu lo hi sl Q I rx hs pl pu q
/-! ### t < u, t + u -/
/-- t + u, t not empty: u empty gives t itself -/
def rCatT (K : PySem.W.Frag) : R2 := fun x y H Q => ∃ a b xs ys, x = .ref a ∧ y = .ref b ∧ SqT K H a xs ∧ SqT K H b ys ∧ xs ≠ [] ∧ xs.length + ys.length ≤ sizeLine ∧
  (ys = [] → Q (.ref a) H) ∧ (ys ≠ [] → ∀ p, H p = none → Q (.ref p) (upd H p (.tup (xs ++ ys))))
theorem Vals.nil_iff {xs : List V} {us : List Value} (r : Vals xs us) : us = [] ↔ xs = [] := by
  cases r with
  | nil => simp
  | cons _ _ => simp
theorem op_catT : OpR X (binaryOp .Add) (rCatT X.K) := by
  intro pins s σ H x y v u Q I rx ry h
  obtain ⟨a, b, xs, ys, rfl, rfl, ha, hb, hx, hz, q1, q2⟩ := h
  cases rx
  cases ry
  obtain ⟨its, r1, p1, _⟩ := I.tuple ha
  obtain ⟨its2, r2, p2, _⟩ := I.tuple hb
  refine HT.cat_tup p1 p2 (fun z => hx (r1.nil_iff.mp z)) (fun z => ⟨.ref a, H, I, rfl, q1 (r2.nil_iff.mp z)⟩) (fun z => ?_) (by rw [← r1.length, ← r2.length]; exact hz)
  refine ⟨.ref s.heap.objs.size, _, I.laid (t' := s.toks) (o := .tup (xs ++ ys)) (fun b ob q => Heap.get?_push_of_some _ q) (Nat.le_refl _) ?_, rfl, q2 (fun w => z (r2.nil_iff.mpr w)) _ (I.hok.fresh (Nat.le_refl _))⟩
  exact ⟨by rw [List.length_append]; exact hz, _, r1.append r2, IsTup.new _ _⟩
end
end L2

namespace L2
open PySem PySem.Spec PyProof.Rows

/-! ### places -/
/-- the place that an index of any sign means -/
def ixN (n : Nat) (i : Int) : Option Nat := if 0 ≤ i then (if i < n then some i.toNat else none) else if -(n : Int) ≤ i then some (i + n).toNat else none
def atI {α : Type} (xs : List α) (i : Int) : Option α := (ixN xs.length i).bind fun j => xs[j]?
theorem ixN_seq {n : Nat} {i : Int} {j : Nat} (h : ixN n i = some j) : seqIndex? i n = some j ∧ j < n ∧ -(n : Int) ≤ i ∧ i < n := by
  unfold ixN at h
  by_cases h0 : 0 ≤ i
  · rw [if_pos h0] at h
    by_cases h1 : i < n
    · rw [if_pos h1] at h
      have e : i.toNat = j := Option.some.inj h
      exact ⟨by rw [seqIndex_of h0 h1, e], by omega, by omega, h1⟩
    · rw [if_neg h1] at h; cases h
  · rw [if_neg h0] at h
    by_cases h1 : -(n : Int) ≤ i
    · rw [if_pos h1] at h
      have e : (i + n).toNat = j := Option.some.inj h
      exact ⟨by rw [seqIndex_neg (by omega) h1, e], by omega, h1, by omega⟩
    · rw [if_neg h1] at h; cases h
theorem atI_get {α : Type} {xs : List α} {i : Int} {v : α} (h : atI xs i = some v) : ∃ j, seqIndex? i xs.length = some j ∧ xs[j]? = some v ∧ j < xs.length ∧ -(xs.length : Int) ≤ i ∧ i < xs.length := by
  unfold atI at h
  cases e : ixN xs.length i with
  | none => rw [e] at h; cases h
  | some j =>
    rw [e] at h
    obtain ⟨h1, h2, h3, h4⟩ := ixN_seq e
    exact ⟨j, h1, h, h2, h3, h4⟩
theorem atI_nat {α : Type} {xs : List α} {j : Nat} {v : α} (h : xs[j]? = some v) : atI xs (j : Int) = some v := by
  have hj : j < xs.length := (List.getElem?_eq_some_iff.mp h).1
  have e : ixN xs.length (j : Int) = some j := by
    unfold ixN
    rw [if_pos (by omega), if_pos (by omega)]; simp
  unfold atI; rw [e]; exact h
/-! ### what may be subscripted -/
/-- what stands as an index of a plain subscript -/
def PlainIx (b : Expr) : Prop := ∀ o i, subscripted b false o i = operate [o, i] (getItem o i)
/-- a subscript by values -/
def IxR (X : Cx) (r : R2) : Prop :=
  ∀ (value slice : Expr) (pins : List (Addr × Obj)) (s : Shared) (σ : St) (H : Hp) (x y : V) (v u : Value) (Q : VK), Inv X pins σ H s → RelV x v → RelV y u → r x y H Q →
    subscripted slice false v u = operate [v, u] (getItem v u) → wpAny (model X.prog X.w) X.A (subscriptTail value slice v u) (EP X pins σ Q) X.xe s
/-- a call of a builtin's method by values: the receiver, the arguments -/
def MtR (X : Cx) (id : String) (r : V → List V → Hp → VK → Prop) : Prop :=
  ∀ (pins : List (Addr × Obj)) (s : Shared) (σ : St) (H : Hp) (x : V) (xs : List V) (v : Value) (us : List Value) (Q : VK), Inv X pins σ H s → RelV x v → Vals xs us → r x xs H Q →
    wpAny (model X.prog X.w) X.A (call (.builtin id) (v :: us)) (EP X pins σ Q) X.xe s
section
variable {X : Cx} {a b : Expr} {ta tb : TE} {pos : Pos}
theorem IxR.or {r r' : R2} (h : IxR X r) (h' : IxR X r') : IxR X (fun x y H Q => r x y H Q ∨ r' x y H Q) := by
  intro value slice pins s σ H x y v u Q I rx ry q hs
  rcases q with q | q
  · exact h value slice pins s σ H x y v u Q I rx ry q hs
  · exact h' value slice pins s σ H x y v u Q I rx ry q hs
theorem MtR.or {id : String} {r r' : V → List V → Hp → VK → Prop} (h : MtR X id r) (h' : MtR X id r') : MtR X id (fun x xs H Q => r x xs H Q ∨ r' x xs H Q) := by
  intro pins s σ H x xs v us Q I rx rs q
  rcases q with q | q
  · exact h pins s σ H x xs v us Q I rx rs q
  · exact h' pins s σ H x xs v us Q I rx rs q
/-- a[b] -/
theorem pe_ix {r : R2} (hr : IxR X r) (ha : PE X a ta) (hb : PE X b tb) (hs : PlainIx b) : PE X (.Subscript a b pos) (tOp r ta tb) := by
  intro pins s σ H Q I h
  exact Subscript_ (binT ha hb I h fun v u s2 x y H2 I2 rx ry q => hr a b pins s2 σ H2 x y v u Q I2 rx ry q (hs _ _))

def rIxL (K : PySem.W.Frag) : R2 := fun x y H Q => ∃ p xs i v, x = .ref p ∧ y = .int i ∧ SqL K H p xs ∧ atI xs i = some v ∧ Q v H
def rIxT (K : PySem.W.Frag) : R2 := fun x y H Q => ∃ p xs i v, x = .ref p ∧ y = .int i ∧ SqT K H p xs ∧ atI xs i = some v ∧ Q v H
theorem ix_list : IxR X (rIxL X.K) := by
  intro value slice pins s σ H x y v u Q I rx ry h hs
  obtain ⟨p, xs, i, z, rfl, rfl, hq, he, q⟩ := h
  cases rx
  obtain ⟨t, rfl⟩ := ry
  obtain ⟨its, r, pl, hz⟩ := I.list hq
  obtain ⟨j, h1, h2, h3, h4, h5⟩ := atI_get he
  obtain ⟨w, ew, rw'⟩ := r.get h2
  have hl := r.length
  have hn := line63
  have fin : EP X pins σ Q w s := ⟨z, H, I, rw', q⟩
  by_cases h0 : 0 ≤ i
  · have hj : i.toNat = j := by
      rw [seqIndex_of h0 h5] at h1
      exact Option.some.inj h1
    exact item_listR pl.isList h0 (by omega) (by rw [hj]; simpa using ew) fin hs
  · have hj : (i + (its.toArray.size : Int)).toNat = j := by
      rw [seqIndex_neg (by omega) h4] at h1
      rw [List.size_toArray, ← hl]
      exact Option.some.inj h1
    exact subscriptTail_builtinR (x := w) pl.isList.typeIs slot_list_getitem.lookup
      (wpAny_getItem_list_neg (Q := fun r s' => r = w ∧ EP X pins σ Q r s') pl.isList (by omega) (by rw [List.size_toArray] <;> omega) (by omega) (by rw [hj]; simpa using ew) ⟨rfl, fin⟩) hs
theorem ix_tup : IxR X (rIxT X.K) := by
  intro value slice pins s σ H x y v u Q I rx ry h hs
  obtain ⟨p, xs, i, z, rfl, rfl, hq, he, q⟩ := h
  cases rx
  obtain ⟨t, rfl⟩ := ry
  obtain ⟨its, r, pl, hz⟩ := I.tuple hq
  obtain ⟨j, h1, h2, h3, h4, h5⟩ := atI_get he
  obtain ⟨w, ew, rw'⟩ := r.get h2
  have hl := r.length
  have hn := line63
  have fin : EP X pins σ Q w s := ⟨z, H, I, rw', q⟩
  exact subscriptTail_builtinR (x := w) pl.typeIs slot_tuple_getitem.lookup
    (getItem_tuple (j := j) (Q := fun r s' => r = w ∧ EP X pins σ Q r s') pl (by omega) (by omega) (by rw [List.size_toArray, ← hl]; exact h1) (by simpa using ew) ⟨rfl, fin⟩) hs
/-! ### xs[i] = v, any sign -/
/-- the list's object behind a store -/
theorem mapSeq_set (its : List Value) (n j : Nat) (u : Value) : Obj.mapSeq (·.setIfInBounds j u) { cls := .type "list", data := .seq its.toArray n } = { cls := .type "list", data := .seq (its.set j u).toArray n } := by
  simp [Obj.mapSeq]
theorem Inv.lst {pins : List (Addr × Obj)} {σ : St} {H : Hp} {s : Shared} {p : Addr} {xs : List V} (I : Inv X pins σ H s) (h : H p = some (.lst xs)) :
    ∃ (its : List Value) (n : Nat), Vals xs its ∧ s.heap.get? p = some { cls := .type "list", data := .seq its.toArray n } ∧ xs.length ≤ sizeLine := by
  obtain ⟨z, its, n, r, e⟩ := I.hok p _ h
  exact ⟨its, n, r, e, z⟩
/-- the list at p is written by an update of its object -/
theorem Inv.lstUpd {pins : List (Addr × Obj)} {σ : St} {H : Hp} {s : Shared} {p : Addr} {xs ys : List V} {its its' : List Value} {n n' : Nat} {f : Obj → Obj} (I : Inv X pins σ H s) (h : H p = some (.lst xs))
    (ho : s.heap.get? p = some { cls := .type "list", data := .seq its.toArray n }) (hf : f { cls := .type "list", data := .seq its.toArray n } = { cls := .type "list", data := .seq its'.toArray n' }) (r : Vals ys its') (hz : ys.length ≤ sizeLine) (t : Nat) :
    Inv X pins σ (upd H p (.lst ys)) { s with heap := s.heap.update p f, toks := t } := by
  have e : (s.heap.update p f).get? p = some { cls := .type "list", data := .seq its'.toArray n' } := by
    rw [Heap.get?_update_self f ho (by rw [hf] <;> rfl), hf]
  refine I.write (x := p) (e := p) (by rw [h]; trivial) (.inl rfl) (fun b u hb q => (Heap.get?_update_other _ _ (Ne.symm hb)).trans q) ⟨_, e⟩ ?_
  exact ⟨hz, its', n', r, e⟩
def rSetL : V → V → V → Hp → (Hp → Prop) → Prop := fun o i v H Q => ∃ p xs k j, o = .ref p ∧ i = .int k ∧ H p = some (.lst xs) ∧ ixN xs.length k = some j ∧ Q (upd H p (.lst (xs.set j v)))
theorem set_list : PSet X rSetL := by
  intro pins s σ H o i v ov iv u Q I ro ri rv h
  obtain ⟨p, xs, k, j, rfl, rfl, hp, hj, q⟩ := h
  cases ro
  obtain ⟨t, rfl⟩ := ri
  obtain ⟨its, n, r, ho, hz⟩ := I.lst hp
  obtain ⟨h1, h2, h3, h4⟩ := ixN_seq hj
  have hl := r.length
  have hn := line63
  have I' : Inv X pins σ (upd H p (.lst (xs.set j v))) { s with heap := s.heap.update p (Obj.mapSeq (·.setIfInBounds j u)) } :=
    I.lstUpd hp ho (mapSeq_set its n j u) (r.set rv j) (by rw [List.length_set]; exact hz) s.toks
  by_cases h0 : 0 ≤ k
  · have hk : k.toNat = j := by
      rw [seqIndex_of h0 h4] at h1
      exact Option.some.inj h1
    exact PySem.W.ki_setAt ho h0 (by omega) (by rw [List.size_toArray, ← hl]; exact h4) (by rw [hk]; exact ⟨_, I', q⟩)
  · have hk : (k + (its.toArray.size : Int)).toNat = j := by
      rw [seqIndex_neg (by omega) h3] at h1
      rw [List.size_toArray, ← hl]
      exact Option.some.inj h1
    exact PySem.W.ki_setBack ho (by omega) (by rw [List.size_toArray, ← hl]; exact h3) (by omega) (by rw [hk]; exact ⟨_, I', q⟩)

/-! ### slices -/
/-! ### in, not in: flat items -/
def flatV : V → Bool
  | .non => true
  | .bl _ => true
  | .int _ => true
  | .str _ => true
  | _ => false
/-- == of flat values -/
def eqV : V → V → Bool
  | .non, .non => true
  | .bl a, .bl b => a == b
  | .bl a, .int b => (if a then 1 else 0) == b
  | .int a, .bl b => a == (if b then 1 else 0)
  | .int a, .int b => a == b
  | .str a, .str b => a == b
  | _, _ => false
theorem eqAt_V {A : Around} {s : Shared} {y x : V} {u v : Value} (ry : RelV y u) (rx : RelV x v) (fy : flatV y = true) (fx : flatV x = true) : SeqAt.EqAt A s u v (eqV y x) := by
  cases y with
  | non =>
    cases ry
    cases x with
    | non => cases rx; exact SeqAt.EqAt.same _
    | bl b => cases rx; exact SeqAt.EqAt.none_bool b
    | int b => obtain ⟨t, rfl⟩ := rx; exact SeqAt.EqAt.none_int b t
    | str b => obtain ⟨t, rfl⟩ := rx; exact SeqAt.EqAt.none_str b t
    | _ => exact absurd (show false = true from fx) Bool.false_ne_true
  | bl a =>
    cases ry
    cases x with
    | non => cases rx; exact SeqAt.EqAt.bool_none a
    | bl b => cases rx; exact SeqAt.EqAt.bool_bool a b
    | int b => obtain ⟨t, rfl⟩ := rx; exact SeqAt.EqAt.bool_int a b t
    | str b => obtain ⟨t, rfl⟩ := rx; exact SeqAt.EqAt.bool_str a b t
    | _ => exact absurd (show false = true from fx) Bool.false_ne_true
  | int a =>
    obtain ⟨t', rfl⟩ := ry
    cases x with
    | non => cases rx; exact SeqAt.EqAt.int_none a t'
    | bl b => cases rx; exact SeqAt.EqAt.int_bool a t' b
    | int b => obtain ⟨t, rfl⟩ := rx; exact SeqAt.EqAt.int_int a t' b t
    | str b => obtain ⟨t, rfl⟩ := rx; exact SeqAt.EqAt.int_str a t' b t
    | _ => exact absurd (show false = true from fx) Bool.false_ne_true
  | str a =>
    obtain ⟨t', rfl⟩ := ry
    cases x with
    | non => cases rx; exact SeqAt.EqAt.str_none a t'
    | bl b => cases rx; exact SeqAt.EqAt.str_bool a t' b
    | int b => obtain ⟨t, rfl⟩ := rx; exact SeqAt.EqAt.str_int a t' b t
    | str b => obtain ⟨t, rfl⟩ := rx; exact SeqAt.EqAt.str_str a t' b t
    | _ => exact absurd (show false = true from fx) Bool.false_ne_true
  | _ => exact absurd (show false = true from fy) Bool.false_ne_true
/-- the items' answers, read off the values (a value's own answer does not lean on its token) -/
def eqU (x : V) (u : Value) : Bool := match u with
  | .none => eqV .non x
  | .bool b => eqV (.bl b) x
  | .int i _ => eqV (.int i) x
  | .str z _ => eqV (.str z) x
  | _ => false
theorem eqU_of {x y : V} {u : Value} (r : RelV y u) (f : flatV y = true) : eqU x u = eqV y x := by
  cases y with
  | non => cases r; rfl
  | bl b => cases r; rfl
  | int i => obtain ⟨t, rfl⟩ := r; rfl
  | str z => obtain ⟨t, rfl⟩ := r; rfl
  | _ => exact absurd (show false = true from f) Bool.false_ne_true
theorem any_eqU {x : V} : ∀ {xs : List V} {us : List Value}, Vals xs us → xs.all flatV = true → us.any (eqU x) = xs.any fun y => eqV y x
  | _, _, .nil, _ => rfl
  | y :: xs, u :: us, .cons r t, f => by
    rw [List.all_cons, Bool.and_eq_true] at f
    rw [List.any_cons, List.any_cons, eqU_of r f.1, any_eqU t f.2]
theorem mem_eqAt {A : Around} {s : Shared} {x : V} {v : Value} (rx : RelV x v) (fx : flatV x = true) : ∀ {xs : List V} {us : List Value}, Vals xs us → xs.all flatV = true → ∀ u ∈ us, SeqAt.EqAt A s u v (eqU x u)
  | _, _, .nil, _ => fun u hu => by cases hu
  | y :: xs, u :: us, .cons r t, f => fun u' hu => by
    rw [List.all_cons, Bool.and_eq_true] at f
    rcases List.mem_cons.mp hu with rfl | hu
    · rw [eqU_of r f.1]; exact eqAt_V r rx f.1 fx
    · exact mem_eqAt rx fx t f.2 u' hu
def inV (x : V) (xs : List V) : Bool := xs.any fun y => eqV y x
/-- x in a list or tuple of flat items -/
def rIn (K : PySem.W.Frag) (neg : Bool) : R2 := fun x y H Q => ∃ p xs, y = .ref p ∧ (SqL K H p xs ∨ SqT K H p xs) ∧ flatV x = true ∧ xs.all flatV = true ∧ Q (.bl (if neg then !inV x xs else inV x xs)) H
theorem op_in_seq : OpR X (compareOp .In) (rIn X.K false) := by
  intro pins s σ H x y v u Q I rx ry h
  obtain ⟨p, xs, rfl, hq, fx, fs, q⟩ := h
  cases ry
  rcases hq with hq | hq
  · obtain ⟨its, r, pl, hz⟩ := I.list hq
    refine SeqAt.in_listAt (eqU x) pl.isList (fun w hw => mem_eqAt rx fx r fs w (by simpa using hw)) ⟨.bl _, H, I, rfl, ?_⟩
    rw [show its.toArray.any (eqU x) = its.any (eqU x) by simp, any_eqU r fs]
    exact q
  · obtain ⟨its, r, pl, hz⟩ := I.tuple hq
    refine SeqAt.in_tupleAt (eqU x) pl (fun w hw => mem_eqAt rx fx r fs w (by simpa using hw)) ⟨.bl _, H, I, rfl, ?_⟩
    rw [show its.toArray.any (eqU x) = its.any (eqU x) by simp, any_eqU r fs]
    exact q
theorem op_notIn_seq : OpR X (compareOp .NotIn) (rIn X.K true) := by
  intro pins s σ H x y v u Q I rx ry h
  obtain ⟨p, xs, rfl, hq, fx, fs, q⟩ := h
  cases ry
  rcases hq with hq | hq
  · obtain ⟨its, r, pl, hz⟩ := I.list hq
    refine SeqAt.notIn_listAt (eqU x) pl.isList (fun w hw => mem_eqAt rx fx r fs w (by simpa using hw)) ⟨.bl _, H, I, rfl, ?_⟩
    rw [show its.toArray.any (eqU x) = its.any (eqU x) by simp, any_eqU r fs]
    exact q
  · obtain ⟨its, r, pl, hz⟩ := I.tuple hq
    refine SeqAt.notIn_tupleAt (eqU x) pl (fun w hw => mem_eqAt rx fx r fs w (by simpa using hw)) ⟨.bl _, H, I, rfl, ?_⟩
    rw [show its.toArray.any (eqU x) = its.any (eqU x) by simp, any_eqU r fs]
    exact q
/-! ### len, list(x), tuple(x) of any list or tuple that is read -/
theorem call_len_seq : CallR X (.builtin "len") (fun xs H Q => ∃ p ys, xs = [.ref p] ∧ (SqL X.K H p ys ∨ SqT X.K H p ys) ∧ Q (.int ys.length) H) := by
  intro pins s σ H xs us Q I r h
  obtain ⟨p, ys, rfl, hq, q⟩ := h
  obtain ⟨u, rfl, rx⟩ := vals1 r
  cases rx
  have hn := line63
  rcases hq with hq | hq
  · obtain ⟨its, r', pl, hz⟩ := I.list hq
    have hlen := r'.length
    exact Calls.call_len_list pl.isList (by simp only [List.size_toArray] <;> omega) ⟨.int ys.length, H, I.tok _, ⟨s.toks + 1, by rw [List.size_toArray, hlen]⟩, q⟩
  · obtain ⟨its, r', pl, hz⟩ := I.tuple hq
    have hlen := r'.length
    exact len_tuple pl (by simp only [List.size_toArray] <;> omega) ⟨.int ys.length, H, I.tok _, ⟨s.toks + 1, by rw [List.size_toArray, hlen]⟩, q⟩
theorem CallR.or {f : Value} {r r' : List V → Hp → VK → Prop} (h : CallR X f r) (h' : CallR X f r') : CallR X f (fun xs H Q => r xs H Q ∨ r' xs H Q) := by
  intro pins s σ H xs us Q I rs q
  rcases q with q | q
  · exact h pins s σ H xs us Q I rs q
  · exact h' pins s σ H xs us Q I rs q
theorem call_list_of : CallR X (.type "list") (fun xs H Q => ∃ p ys, xs = [.ref p] ∧ (SqL X.K H p ys ∨ SqT X.K H p ys) ∧ ∀ l, H l = none → Q (.ref l) (upd H l (.lst ys))) := by
  intro pins s σ H xs us Q I r h
  obtain ⟨p, ys, rfl, hq, q⟩ := h
  obtain ⟨u, rfl, rx⟩ := vals1 r
  cases rx
  have fin : ∀ (its : List Value), Vals ys its → ys.length ≤ sizeLine → ∀ (h' : Heap) (c' : Nat), (∀ b o', s.heap.get? b = some o' → h'.get? b = some o') →
      h'.get? s.heap.objs.size = some { cls := .type "list", dict := none, data := .seq its.toArray c', slots := #[] } → EP X pins σ Q (.ref s.heap.objs.size) { s with heap := h' } := fun its r' hz h' c' kp e =>
    ⟨.ref s.heap.objs.size, _, I.laid (t' := s.toks) kp (Nat.le_refl _) (show ObjOk X.prog X.w _ h' _ (.lst ys) from ⟨hz, its, c', r', e⟩), rfl, q _ (I.hok.fresh (Nat.le_refl _))⟩
  rcases hq with hq | hq
  · obtain ⟨its, r', pl, hz⟩ := I.list hq
    have hlen := r'.length
    obtain ⟨o, ho, hc, n, hd⟩ := pl.isList
    exact call_list_seq p (.inl rfl) ho hc hd (fun h' c' kp e => fin its r' hz h' c' kp e) (by simp only [List.size_toArray] <;> omega)
  · obtain ⟨its, r', pl, hz⟩ := I.tuple hq
    have hlen := r'.length
    obtain ⟨o, ho, hc, n, hd⟩ := pl
    exact call_list_seq p (.inr rfl) ho hc hd (fun h' c' kp e => fin its r' hz h' c' kp e) (by simp only [List.size_toArray] <;> omega)
theorem call_tuple_of : CallR X (.type "tuple") (fun xs H Q => ∃ p ys, xs = [.ref p] ∧ ((SqL X.K H p ys ∧ ∀ l, H l = none → Q (.ref l) (upd H l (.tup ys))) ∨ (SqT X.K H p ys ∧ Q (.ref p) H))) := by
  intro pins s σ H xs us Q I r h
  obtain ⟨p, ys, rfl, h⟩ := h
  obtain ⟨u, rfl, rx⟩ := vals1 r
  cases rx
  rcases h with ⟨hq, q⟩ | ⟨hq, q⟩
  · obtain ⟨its, r', pl, hz⟩ := I.list hq
    have hlen := r'.length
    refine call_tuple_list pl.isList (fun h' kp => ?_) (by simp only [List.size_toArray] <;> omega)
    have I1 : Inv X pins σ H { s with heap := h' } := I.kept (t' := s.toks) kp
    have I2 : Inv X pins σ (upd H h'.objs.size (.tup ys)) { s with heap := h'.push { cls := .type "tuple", data := .seq its.toArray } } :=
      I1.laid (t' := s.toks) (fun b o e => Heap.get?_push_of_some _ e) (Nat.le_refl _) (show ObjOk X.prog X.w _ _ _ (.tup ys) from ⟨hz, its, r', IsTup.new _ _⟩)
    exact ⟨.ref h'.objs.size, _, I2, rfl, q _ (I1.hok.fresh (Nat.le_refl _))⟩
  · obtain ⟨its, r', pl, hz⟩ := I.tuple hq
    exact call_tuple_same pl ⟨.ref p, H, I, rfl, q⟩

/-! ### the call of a builtin's method: o.m(..) -/
/-- the value is of that builtin type -/
def tyV (K : PySem.W.Frag) (T : String) (x : V) (H : Hp) : Prop := match x with
  | .str _ => T = "str"
  | .int _ => T = "int"
  | .ref p => (T = "list" ∧ ∃ xs, SqL K H p xs) ∨ (T = "tuple" ∧ ∃ o, K.lookup p = some o ∧ o.cls = .type "tuple" ∧ o.dict = none) ∨
      (T = "dict" ∧ ((∃ kvs, H p = some (.dK kvs)) ∨ ∃ kvs, H p = some (.dT kvs))) ∨ (T = "set" ∧ ∃ S n, H p = some (.set S n))
  | _ => False
theorem tyV_is {pins : List (Addr × Obj)} {σ : St} {H : Hp} {s : Shared} {T : String} {x : V} {v : Value} (I : Inv X pins σ H s) (r : RelV x v) (ty : tyV X.K T x H) :
    s.TypeIs v T ∧ ∀ a, v = .ref a → ∃ ob, s.heap.get? a = some ob ∧ ob.dict = none := by
  cases x with
  | str z =>
    obtain ⟨t, rfl⟩ := r
    cases (show T = "str" from ty)
    exact ⟨typeIs_str s z t, fun _ e => nomatch e⟩
  | int i =>
    obtain ⟨t, rfl⟩ := r
    cases (show T = "int" from ty)
    exact ⟨typeIs_int s i t, fun _ e => nomatch e⟩
  | ref p =>
    cases r
    rcases ty with ⟨rfl, xs, hq⟩ | ⟨rfl, o, hk, hc, hd⟩ | ⟨rfl, hk⟩ | ⟨rfl, S, n, hk⟩
    · obtain ⟨its, _, pl, _⟩ := I.list hq
      refine ⟨pl.isList.typeIs, fun a e => ?_⟩
      cases e
      obtain ⟨o, n, e, c, hd, _⟩ := pl
      exact ⟨o, e, hd⟩
    · refine ⟨⟨o, I.kIn p o hk, hc⟩, fun a e => ?_⟩
      cases e
      exact ⟨o, I.kIn _ o hk, hd⟩
    · have z : ∃ o, s.heap.get? p = some o ∧ o.ExactDict := by
        rcases hk with ⟨kvs, hk⟩ | ⟨kvs, hk⟩
        · obtain ⟨_, _, _, _, o, _, _, e, ex, _⟩ := I.hok p _ hk
          exact ⟨o, e, ex⟩
        · obtain ⟨_, _, _, _, o, _, _, e, ex, _⟩ := I.hok p _ hk
          exact ⟨o, e, ex⟩
      obtain ⟨o, e, ex⟩ := z
      refine ⟨⟨o, e, ex.1⟩, fun a e2 => ?_⟩
      cases e2
      exact ⟨o, e, ex.2.1⟩
    · obtain ⟨o, _, _, _, e, ex, _⟩ := I.hok p _ hk
      refine ⟨⟨o, e, ex.1⟩, fun a e2 => ?_⟩
      cases e2
      exact ⟨o, e, ex.2.1⟩
  | _ => exact False.elim ty
def tBM (K : PySem.W.Frag) (T : String) (r : V → List V → Hp → VK → Prop) (to : TE) (t : TA) : TE := fun σ H Q => to σ H fun x H1 => tyV K T x H1 ∧ t σ H1 fun xs H2 => r x xs H2 Q
variable {o e : Expr} {es : List Expr} {to : TE} {t : TA} {name : Str} {apos cpos : Pos} {T id : String} {r : V → List V → Hp → VK → Prop}
theorem pe_bm (pa : PlainAttrs T) (slot : Slot T name id) (hty : typeOf (.builtin id) = pure (.type "method_descriptor")) (hm : MtR X id r) (ho : PE X o to) (ha : PA X (e :: es) t)
    (hbase : attributeBase o name X.env (eval o X.env) = eval o X.env := by rfl)
    (hfew : ((backTo cpos (starEach (e :: es) X.env)).all (fun x => !x.1) && (backToKw cpos (keywordEach [] X.env)).all (fun x => x.1.isSome)
      && decide ((e :: es).length + ([] : List Keyword).length + (if ([] : List Keyword).isEmpty then 0 else 1) < 30)) = true := by rfl)
    (hline : (apos.endLine == cpos.line) = true := by rfl) (hs : starEach (e :: es) X.env = (false, eval e X.env) :: starEach es X.env := by rfl) (hplain : (backTo cpos (starEach es X.env)).any (·.1) = false := by rfl) :
    PE X (.Call (.Attribute o name apos) (e :: es) [] cpos) (tBM X.K T r to t) := by
  intro pins s σ H Q I h
  refine wpAny_Call_method_late hbase hfew hline rfl (thn (ho pins s σ H _ I h) fun v s1 ⟨x, H1, I1, r1, ty, q1⟩ => ?_)
  obtain ⟨h1, h2⟩ := tyV_is I1 r1 ty
  refine ⟨T, id, pa, slot, hty, h1, h2, ?_⟩
  have hA := ha cpos pins s1 σ H1 _ I1 q1
  rw [hs] at hA ⊢
  refine Calls.callWith_builtin (by show (false || (backTo cpos (starEach es X.env)).any (·.1)) = false; rw [hplain] <;> rfl) (Calls.evalArgs_plain ?_)
  exact thn hA fun us s2 ⟨vs, H2, I2, r2, q2⟩ => hm pins s2 σ H2 x vs v us Q I2 r1 r2 q2
/- xs.append(e), list.index on a module's tuple .. are MtR facts of 06m -/
end
end L2

namespace L2
open PySem PySem.Spec PyProof.Rows

def MtM (X : Cx) (id : String) (r : V → List V → Hp → VK → Prop) : Prop :=
  ∀ (pins : List (Addr × Obj)) (s : Shared) (σ : St) (H : Hp) (x : V) (xs : List V) (v : Value) (us : List Value) (Q : VK), Inv X pins σ H s → RelV x v → Vals xs us → r x xs H Q →
    wpAny (model X.prog X.w) X.A (call (.builtin id) (v :: us)) (EP X pins σ Q) X.xe s

/-! ### lists of values -/
theorem Vals.one : ∀ {x : V} {us : List Value}, Vals [x] us → ∃ u, us = [u] ∧ RelV x u
  | _, _, .cons r .nil => ⟨_, rfl, r⟩
theorem Vals.two : ∀ {x y : V} {us : List Value}, Vals [x, y] us → ∃ u v, us = [u, v] ∧ RelV x u ∧ RelV y v
  | _, _, _, .cons r (.cons q .nil) => ⟨_, _, rfl, r, q⟩
theorem Vals.zero : ∀ {us : List Value}, Vals [] us → us = []
  | _, .nil => rfl
theorem Vals.eraseIdx : ∀ {xs : List V} {us : List Value} (i : Nat), Vals xs us → Vals (xs.eraseIdx i) (us.eraseIdx i)
  | _, _, _, .nil => .nil
  | _, _, 0, .cons _ t => t
  | _, _, i + 1, .cons r t => .cons r (Vals.eraseIdx i t)
theorem Vals.reverse {xs : List V} {us : List Value} (h : Vals xs us) : Vals xs.reverse us.reverse := by
  induction h with
  | nil => exact .nil
  | cons r t ih => rw [List.reverse_cons, List.reverse_cons]; exact Vals.append ih (.cons r .nil)
section
variable {X : Cx} {pins : List (Addr × Obj)} {σ : St} {H : Hp} {s : Shared} {l b : Addr} {xs ys zs : List V}

/-! ### the two steps: a tracked list is rewritten, a new list is laid -/
theorem Inv.lset {its its' : List Value} {n : Nat} {f : Array Value → Array Value} {t' : Nat} (I : Inv X pins σ H s) (hH : H l = some (.lst xs))
    (e : s.heap.get? l = some { cls := .type "list", data := .seq its.toArray n }) (hf : f its.toArray = its'.toArray) (hv : Vals ys its') (hz : ys.length ≤ sizeLine) :
    Inv X pins σ (upd H l (.lst ys)) { s with heap := s.heap.update l (Obj.mapSeq f), toks := t' } := by
  have q := PySem.IsL.update e f
  rw [hf] at q
  refine I.write (x := l) (e := l) (by rw [hH]; exact trivial) (.inl rfl) (fun b' u hb hu => (Heap.get?_update_other s.heap (Obj.mapSeq f) (Ne.symm hb)).trans hu) ⟨_, q⟩ ?_
  exact ⟨hz, its', _, hv, q⟩
theorem Inv.lnew {its : List Value} {t' : Nat} (I : Inv X pins σ H s) (hv : Vals ys its) (hz : ys.length ≤ sizeLine) :
    Inv X pins σ (upd H s.heap.objs.size (.lst ys)) { s with heap := s.heap.push { cls := .type "list", data := .seq its.toArray }, toks := t' } :=
  I.laid (fun _ _ q => Heap.get?_push_of_some _ q) (Nat.le_refl _) ⟨hz, its, 0, hv, Heap.get?_push_size _ rfl⟩
theorem Inv.fresh (I : Inv X pins σ H s) : H s.heap.objs.size = none := I.hok.fresh (Nat.le_refl _)
theorem Inv.lstM (I : Inv X pins σ H s) (hH : H l = some (.lst xs)) : xs.length ≤ sizeLine ∧ ∃ (its : List Value) (n : Nat), Vals xs its ∧ xs.length = its.length ∧ s.heap.get? l = some { cls := .type "list", data := .seq its.toArray n } := by
  obtain ⟨z, its, n, r, e⟩ := I.hok l _ hH
  exact ⟨z, its, n, r, r.length, e⟩

end

section
variable {X : Cx}

/-! ### methods -/
def rAppend : V → List V → Hp → VK → Prop := fun x vs H Q => ∃ l xs y, x = .ref l ∧ vs = [y] ∧ H l = some (.lst xs) ∧ xs.length < sizeLine ∧ Q .non (upd H l (.lst (xs ++ [y])))
theorem mt_append : MtM X "list.append" rAppend := by
  intro pins s σ H x vs v us Q I rx rv h
  obtain ⟨l, xs, y, rfl, rfl, hH, hz, q⟩ := h
  cases rx
  obtain ⟨u, rfl, ru⟩ := rv.one
  obtain ⟨z, its, n, r, hl, e⟩ := I.lstM hH
  refine call_meets F.slot_list_append ⟨_, e, rfl⟩ F.entry_list_append (F.args_list_append_2 _ _) (PySem.list_append l its.toArray n u (by rw [List.size_toArray]; omega)) ⟨e, ?_⟩
  refine ⟨.non, _, I.lset (its' := its ++ [u]) hH e (by simp) (r.append (.cons ru .nil)) ?_, rfl, q⟩
  rw [List.length_append, List.length_singleton]
  omega

/-! ### list + list, list += list, list * int -/
def rCat : R2 := fun x y H Q => ∃ l b xs zs, x = .ref l ∧ y = .ref b ∧ H l = some (.lst xs) ∧ H b = some (.lst zs) ∧ xs.length + zs.length ≤ sizeLine ∧ ∀ p, H p = none → Q (.ref p) (upd H p (.lst (xs ++ zs)))
theorem op_cat : OpR X (binaryOp .Add) rCat := by
  intro pins s σ H x y v u Q I rx ry h
  obtain ⟨l, b, xs, zs, rfl, rfl, hH, hB, hz, q⟩ := h
  cases rx
  cases ry
  obtain ⟨z, its, n, r, hl, e⟩ := I.lstM hH
  obtain ⟨z2, its2, n2, r2, hl2, e2⟩ := I.lstM hB
  refine PySem.P.add_list e e2 ?_ (by rw [List.size_toArray, List.size_toArray]; omega)
  have ea : its.toArray ++ its2.toArray = (its ++ its2).toArray := by simp
  rw [ea]
  exact ⟨.ref _, _, I.lnew (t' := s.toks) (r.append r2) (by rw [List.length_append]; omega), rfl, q _ I.fresh⟩
/-! ### del xs[i] -/
end

/-! ### xs[a:b] = ys -/
section
variable {prog : Program} {w : World} {A : Around} {E : Value → Shared → Prop} {s : Shared}
end

section
variable {X : Cx}
end
end L2

namespace Att
open PySem PySem.W PySem.Calls PyProof.Rows

/-! ### the script -/
theorem ints_of_wellAll {P : Params} {h : Heap} : ∀ (ns : List Int) (vs : List Value), WellAll P h vs (ns.map WData.int) → IntsAre vs ns := by
  intro ns
  induction ns with
  | nil =>
    intro vs w
    rw [List.map_nil] at w
    cases w
    exact .nil
  | cons n ns ih =>
    intro vs w
    rw [List.map_cons] at w
    cases w with
    | cons a b =>
      cases a
      exact .cons _ _ (ih _ b)

theorem script_of {l : OpenLaw} {n : Nat} (hn : l.most = some n) {P : Params} {h : Heap} {args : List WData} {vals : List Value}
    (hpre : l.row.toRowW.claim.pre args = true) (hwl : WellAll P h vals args) :
    ∃ a vs ns, vals = [Value.ref a] ∧ args = [WData.list (ns.map WData.int)] ∧ h.get? a = some { cls := .type "list", data := .seq vs.toArray } ∧ IntsAre vs ns ∧ ns.length ≤ n := by
  have hsh : WShape.hasAll [] args [.list .int] = true := (pre_splitW hpre).1
  have hc : l.pre.holds [] { args := args } = true := (pre_splitW hpre).2
  obtain ⟨d, r, rfl, h1, h2⟩ := hasAllW_cons hsh
  obtain rfl := hasAllW_nil h2
  obtain ⟨xs, rfl, h3⟩ := hasW_list h1
  obtain ⟨ns, rfl⟩ := items_int h3
  have hlen : ns.length ≤ n := by
    unfold OpenLaw.pre at hc
    have h4 : (WTm.not (.lt (.lit (.int (n : Int))) (.len (.arg 0)))).holds [] { args := [.list (ns.map .int)] } = true := by
      have h4 := (holds_andW hc).1
      rw [hn] at h4
      exact h4
    have h5 := condW_of h4 (w_not (w_lt w_lit (w_len_list (w_arg rfl))))
    rw [List.length_map] at h5
    refine Nat.le_of_not_lt fun q => ?_
    have q' : (n : Int) < ((ns.length : Nat) : Int) := by omega
    first
      | (rw [decide_eq_true q'] at h5; exact absurd h5 (by decide))
      | (simp at h5; omega)
  cases hwl with
  | cons w1 w2 =>
    cases w2
    cases w1 with
    | list ho hall => exact ⟨_, _, ns, rfl, rfl, ho, ints_of_wellAll ns _ hall, hlen⟩

theorem post_true (l : OpenLaw) (args : List WData) : l.row.toRowW.claim.post args (.bool true) args = true :=
  postW_of (r := l.row.toRowW) (X := (true == true))
    (show WShape.has [] (.bool true) .bool = true by first | rfl | decide | simp [WShape.has, WShape.arms, WShape.armsAll])
    (show (WTm.eq .res (.lit (.bool true))).value [] { args := args, res := some (.bool true), after := args } = some (.bool (true == true)) from w_eq_bool (w_res rfl) w_lit) rfl

/-! ### the attachment: holds_open's last premise (the goal 'hc' behind k_head) from a wpAny of the law's body -/
/-- the same from a codeAny of the CALL (for a layer whose function contracts speak of calls) -/
theorem attach_call {l : OpenLaw} {n : Nat} {q : Program} {loose : List Str} {XP : (Str → Option Value) → Heap → Prop} {YP : World → Heap → Prop} {d : DefRec}
    (hn : l.most = some n) (hdf : d.params.defaults = [])
    (call : ∀ (w : World) (s₀ s₁ : Shared) (mg mb : Str → Option Value) (fa : Addr) (o : Obj) (pm cd doc : Value) (a : Addr) (vs : List Value) (ns : List Int),
      Ground q loose [] XP w s₀ mg mb s₁.heap → YP w s₁.heap →
      s₁.heap.get? fa = some o → o.data = .func (docDef d.name d.params d.body d.scope pm cd doc) → s₁.heap.CodeRec cd d.name → mg d.name = some (.ref fa) →
      s₁.heap.get? a = some { cls := .type "list", data := .seq vs.toArray } → IntsAre vs ns → ns.length ≤ n → s₁.gens = #[] →
      codeAny (model l.prog w) callerA (.call (.ref fa) ⟨[.ref a], []⟩) (fun r s' => r = .ok (.ret (.bool true)) ∧ OldK s₁.heap s'.heap ∧ s'.os = s₁.os ∧ AllBare s'.gens) s₁) :
    WalkO q loose XP YP l.row.toRowW d [] (fun f vs => PySem.call f vs) := by
  intro w s₀ s₁ mg mb G Y fa o pm cd doc dV kV ho hd hcd hD hmg hg args vals as hpre hlay hrd hwl hlo
  obtain rfl : dV = .none := Dflts.none hD hdf
  obtain rfl : kV = .none := Dflts.noKw hD
  obtain ⟨a, vs, ns, rfl, rfl, hobj, hints, hlen⟩ := script_of hn hpre hwl
  refine enter_call (codeAny_mono (call w s₀ s₁ mg mb fa o pm cd doc a vs ns G Y ho (fd_plain hd) hcd hmg hobj hints hlen hg) fun r s' hq => ?_)
  obtain ⟨rfl, h2, h3, h4⟩ := hq
  exact ⟨.inl ⟨.bool true, .bool true, [], rfl, fun _ => rfl, .bool true, post_true l _, fun _ => ⟨List.Pairwise.nil, fun _ hm => (nomatch hm)⟩⟩, h2, h3, h4⟩

/-! ### rules over ANY heap (no ledger) from facts about the written part K: the library's own take a ledger (News) for what they write -/
section
variable {prog : Program} {w : World} {A : Around} {E : Value → Shared → Prop} {s : Shared} {K : Frag}

/-! the whole heap as the ledger: makes every rule that writes through a ledger a rule over any heap -/
def ledger (h : Heap) (L d : Addr) : List (Addr × Obj) := (List.range h.objs.size).filterMap fun a => if a = L ∨ a = d then none else (h.get? a).map fun o => (a, o)
end
end Att

namespace L2
open PySem PySem.Spec PyProof.Rows

theorem vals_ints : ∀ {vs : List Value} {ns : List Int}, IntsAre vs ns → Vals (ns.map V.int) vs
  | _, _, .nil => .nil
  | _, _, .cons n t h => .cons ⟨t, rfl⟩ (vals_ints h)

/-- nothing is tracked but the script, known to the object (or it is an object of the module) -/
def Only (H : Hp) : Prop := ∀ b, H b = none ∨ ∃ o xs, H b = some (.frz o (.lst xs))

/-- THE HEAD: the law's promise, at the heap behind the top. F, the promise of the law's def, may use that base is part of the heap (so K.In base, base.Ns mainGlobals mg stand in Mod) -/
theorem law_call {cm : Bool} {P : Program} {w : World} {K : PySem.W.Frag} {mg mb : Str → Option Value} {CX : CXT} {k : Nat} {fa a : Addr} {fd : FuncData} {x : Str} {sp : Sp} {s₁ : Shared} {vs : List Value} {ns : List Int}
    (KX : K.In s₁.heap) (hns : s₁.heap.Ns mainGlobals mg) (hb : s₁.heap.Ns builtinsNs mb) (hbb : ∀ x : Str, x ≠ "__name__" → mb x = bootBuiltins x) (hlim : s₁.heap.NoLimit) (hg : s₁.gens = #[])
    (ha : s₁.heap.get? a = some { cls := .type "list", data := .seq vs.toArray }) (hi : IntsAre vs ns) (hl : ns.length ≤ sizeLine) (hr : Room cm k callerA)
    (F : ∀ base : Heap, K.In base → base.Ns mainGlobals mg → FnOk P w K mg base CX cm k fa fd [x] sp) (hbind : ∀ (s : Shared) (u : Value), BindsTo s fd ⟨[u], []⟩ [(x, u)])
    (hsp : ∀ H : Hp, Only H → SqL K H a (ns.map V.int) → sp [.ref a] H (fun v _ => v = .bl true) fun _ _ _ => False)
    (hCX : ∀ H e s', CX [] H s₁ (fun _ _ _ => False) e s' → False) :
    codeAny (model P w) callerA (.call (.ref fa) ⟨[.ref a], []⟩) (fun r s' => r = .ok (.ret (.bool true)) ∧ OldK s₁.heap s'.heap ∧ s'.os = s₁.os ∧ AllBare s'.gens) s₁ := by
  have rv := vals_ints hi
  have lenV := hi.length
  -- from an abstract heap in which nothing but the script may be tracked
  have core : ∀ H : Hp, Only H → SqL K H a (ns.map V.int) → HOk P w H s₁.heap → (∀ b, H b ≠ none → b = a) → (H a ≠ none → K.lookup a = none) →
      codeAny (model P w) callerA (.call (.ref fa) ⟨[.ref a], []⟩) (fun r s' => r = .ok (.ret (.bool true)) ∧ OldK s₁.heap s'.heap ∧ s'.os = s₁.os ∧ AllBare s'.gens) s₁ := by
    intro H hO hS hok hA hK
    have base_of : ∀ {b : Addr} {o : Obj}, s₁.heap.get? b = some o → H b = none → (hidT s₁.heap H).get? b = some o := fun e n => hidT_get e n
    have noA : ∀ {b : Addr} {o : Obj} {es : Array DictEntry} {ep : Nat}, s₁.heap.get? b = some o → o.data = .dict es ep → H b = none := fun {b o es ep} e d => by
      cases q : H b with
      | none => rfl
      | some u =>
        have e' : b = a := hA b (by rw [q]; simp)
        subst e'
        rw [ha] at e; cases e
        have d' : Data.seq vs.toArray _ = Data.dict es ep := d
        cases d'
    have nsK : ∀ {b : Addr} {m : Str → Option Value}, s₁.heap.Ns b m → (hidT s₁.heap H).Ns b m := fun {b m} ⟨o, es, ep, e, d, r⟩ => ⟨o, es, ep, base_of e (noA e d), d, r⟩
    have hKb : K.In (hidT s₁.heap H) := fun b o e => base_of (KX b o e) (by
      cases q : H b with
      | none => rfl
      | some u =>
        have e' : b = a := hA b (by rw [q]; simp)
        subst e'
        rw [hK (by rw [q]; simp)] at e; cases e)
    have hM : Mod K mg (hidT s₁.heap H) := ⟨hKb, nsK hns, ⟨mb, nsK hb, hbb⟩, let ⟨mc, h1, h2⟩ := hlim; ⟨mc, nsK h1, h2⟩⟩
    have e0 : Env0 P w K mg (hidT s₁.heap H) callerA [] s₁ H := ⟨rfl, hM, fun b o e => of_hidT e, Nat.le_of_eq (hidT_size _ _), trivial, fun b hb => absurd (show b ∈ ([] : List Addr) from hb) (by simp), hok, .of_eq hg⟩
    refine codeAny_mono ((F _ hKb (nsK hns)).run callerA [] s₁ H ⟨[.ref a], []⟩ [.ref a] [.ref a] _ _ hr e0 (hbind s₁ (.ref a)) (.cons rfl .nil) (hsp H hO hS)) fun r s' h => ?_
    cases r with
    | error e => exact (hCX H e s' h).elim
    | ok fl =>
      cases fl with
      | next => exact False.elim h
      | brk => exact False.elim h
      | cont => exact False.elim h
      | ret u =>
        obtain ⟨v, H', os, bare, un, hok', r', q⟩ := h
        have q' : v = .bl true := q
        subst q'
        obtain rfl : u = Value.bool true := r'
        refine ⟨rfl, OldK.of_keep fun b o e => ?_, os, bare⟩
        cases q : H b with
        | none => exact un.keep b o e q (by intro z; exact absurd (show b ∈ ([] : List Addr) from z) (by simp)) (by simp)
        | some u =>
          rcases hO b with z | ⟨ob, xs, z⟩
          · rw [q] at z; cases z
          · have z2 := un.frzs b ob _ z
            obtain ⟨e1, _⟩ := hok b _ z
            obtain ⟨e2, _⟩ := hok' b _ z2
            rw [e] at e1; cases e1
            exact e2
  cases hk : K.lookup a with
  | some o =>
    -- the script is one of the module's own objects
    have e := KX a o hk
    rw [ha] at e
    cases e
    refine core (fun _ => none) (fun _ => .inl rfl) (.inr ⟨_, vs.toArray, _, hk, rfl, rfl, rfl, by rw [List.size_toArray, lenV]; exact hl, by simpa using rv⟩) (fun b u z => by have z' : (none : Option HO) = some u := z; cases z') (fun b z => absurd rfl z) fun z => absurd rfl z
  | none =>
    refine core (fun b => if b = a then some (.frz { cls := .type "list", data := .seq vs.toArray } (.lst (ns.map V.int))) else none) (fun b => ?_) (.inl (.inr ⟨{ cls := .type "list", data := .seq vs.toArray }, if_pos rfl⟩)) (fun b u z => ?_) (fun b z => ?_) fun _ => hk
    · by_cases hb : b = a
      · exact .inr ⟨_, _, if_pos hb⟩
      · exact .inl (if_neg hb)
    · by_cases hb : b = a
      · have z' := (if_pos hb).symm.trans z
        cases z'
        subst hb
        exact ⟨ha, by rw [List.length_map]; exact hl, vs, _, rv, ha⟩
      · have z' := (if_neg hb).symm.trans z
        cases z'
    · by_cases hb : b = a
      · exact hb
      · exact absurd (if_neg hb) z
end L2

namespace L2
open PySem PySem.Spec PyProof.Rows

abbrev KOf {K : PySem.W.Frag} {h : Heap} (_ : K.In h) : PySem.W.Frag := K

/-- the goal that k_head leaves (case hc), from the law's promise. F gives the function object fd (K's own) once, then the promise over every base -/
theorem walk_of {cm : Bool} {l : PySem.W.OpenLaw} {n k : Nat} {q : Program} {loose : List Str} {XP : (Str → Option Value) → Heap → Prop} {YP : World → Heap → Prop} {d : DefRec} {K : Params → PySem.W.Frag} {CX : World → CXT} {sp : World → Sp} {x : Str}
    (hn : l.most = some n) (hn2 : n ≤ sizeLine) (hdf : d.params.defaults = []) (hr : Room cm k callerA)
    (hY : ∀ (w : World) (h : Heap), YP w h → (K w.params).In h)
    (F : ∀ (w : World) (mg : Str → Option Value) (fa : Addr) (h : Heap), (K w.params).In h → h.Ns mainGlobals mg → mg d.name = some (.ref fa) →
      ∃ fd : FuncData, (∀ (s : Shared) (u : Value), BindsTo s fd ⟨[u], []⟩ [(x, u)]) ∧
        ∀ base : Heap, (K w.params).In base → base.Ns mainGlobals mg → FnOk l.prog w (K w.params) mg base (CX w) cm k fa fd [x] (sp w))
    (hsp : ∀ (w : World) (H : Hp) (a : Addr) (ns : List Int), ns.length ≤ n → Only H → SqL (K w.params) H a (ns.map V.int) → sp w [.ref a] H (fun v _ => v = .bl true) fun _ _ _ => False)
    (hCX : ∀ (w : World) (H : Hp) (s : Shared) (e : Value) (s' : Shared), CX w [] H s (fun _ _ _ => False) e s' → False) :
    PySem.W.WalkO q loose XP YP l.row.toRowW d [] (fun f vs => PySem.call f vs) := by
  refine Att.attach_call hn hdf fun w s₀ s₁ mg mb fa o pm cd doc a vs ns G Y ho hd hcd hmg hobj hints hlen hg => ?_
  have KX := hY w _ Y
  obtain ⟨fd, hb, hF⟩ := F w mg fa _ KX G.T.g hmg
  exact law_call KX G.T.g G.T.b G.T.builtins G.T.nolimit hg hobj hints (Nat.le_trans hlen hn2) hr hF hb (fun H hO hS => hsp w H a ns hlen hO hS) fun H e s' => hCX w H s₁ e s'
end L2

/- THE LAST THEOREM (shape; LID, My.* are yours):
   My.Adr: a structure of the addresses that your layer names (classes, functions); My.Txt K t: a structure (Prop) of the equations over K;
   My.txt_mk : {K} {implicit addresses ..} (e1 : nsIn K mainGlobals "law" = some (some (.ref f))) (e2 : K.lookup f = some ⟨oc, od, .func (fnOf "law" "law" params body scope dV kV doc pm an cdv ct), sl⟩) (e3 : codeIn K cdv "law" = true) .. : ∃ t, My.Txt K t

set_option maxRecDepth 100000 in
set_option maxHeartbeats 0 in
theorem PySem.Challenge.cw_LID_holds : PySem.Challenge.rw_LID.Holds := by
  w_on; o_law; k_head; (case hw => w_witness2)
  k_fill
  refine L2.walk_of (l := PySem.Challenge.rw_LID) (n := 63) (k := 40) (x := "script") (CX := fun w => ..) (sp := fun _ => My.sp_law) rfl (by decide) rfl ⟨rfl, by decide, by decide⟩ (fun w h Y => PySem.W.kIn_of Y) ?F ?S ?C
  case F =>
    intro w mg fa h KX G hmg
    have T : ∃ t, My.Txt (L2.KOf KX) t := by
      dsimp only [L2.KOf]                          -- K must stand as «<heap const> w.params» for k_is
      refine' My.txt_mk ?e1 ?e2 ?e3 ..
      (case e1 => PySem.W.k_is)                    -- in the order: a name -> its address -> its object -> its parts
      (case e2 => PySem.W.k_is)
      ..
    obtain ⟨t, T⟩ := T
    have e0 := hmg.symm.trans (PySem.W.mg_of KX G T.law)
    cases e0                                       -- fa is the law's own address
    exact ⟨_, fun s u => .of_eq rfl, fun base kb nb => My.law_fn T kb nb⟩     -- if «.of_eq rfl» comes too early: refine' ⟨_, ?b, fun base kb nb => My.law_fn T kb nb⟩; exact fun s u => .of_eq rfl
  case S => exact fun w H a ns hl hO hS => ..
  case C => exact ..
(the tactic k_is has no namespace: write k_is) -/

/-! SHORT WORDS over the layer: a def of the text, its body, what a loop and a test want. -/
namespace L2
open PySem PySem.Spec PyProof.Rows

/-! ### the text by places -/
/-- the j-th statement of a class's body -/
def inClass (s : Stmt) (j : Nat) : Stmt := match s with
  | .ClassDef _ _ _ body _ _ _ _ _ _ _ => body.getD j (.Pass ⟨0, 0, 0, 0⟩)
  | _ => .Pass ⟨0, 0, 0, 0⟩
def defArgs (s : Stmt) : Arguments := match s with
  | .FunctionDef _ a _ _ _ _ _ _ _ _ => a
  | _ => { posonlyargs := [], args := [], vararg := none, kwonlyargs := [], kw_defaults := [], kwarg := none, defaults := [] }
def defBody (s : Stmt) : List Stmt := match s with
  | .FunctionDef _ _ b _ _ _ _ _ _ _ => b
  | _ => []
def defScope (s : Stmt) : Scope := match s with
  | .FunctionDef _ _ _ _ _ _ sc _ _ _ => sc
  | _ => { kind := .function, names := [], isGenerator := false, isCoroutine := false }

/-! ### no exception leaves a def -/
abbrev CX0 : CXT := fun _ _ _ _ _ _ => False
abbrev E0 : XK := fun _ _ _ => False
theorem pass0 {X : Cx} : Passes CX0 X E0 := fun _ _ _ _ _ _ _ h => h.elim

/-! ### a def (or method) of the text as it stands behind the top -/
structure Fun (K : PySem.W.Frag) (x qual : Str) (st : Stmt) (f : Addr) (fd : FuncData) : Prop where
  ex : ∃ (oc : Value) (od : Option Addr) (kV doc pm : Value) (an : Option Addr) (cdv ct : Value) (osl : Array (Option Value)),
    fd = PySem.W.fnOf x qual (defArgs st) (defBody st) (defScope st) .none kV doc pm an cdv ct ∧ K.lookup f = some ⟨oc, od, .func fd, osl⟩ ∧ PySem.W.codeIn K cdv qual = true
  kp : PySem.W.keepIn K (.ref f) = true
section
variable {P : Program} {w : World} {K : PySem.W.Frag} {mg : Str → Option Value} {base : Heap}
/-- THE RULE for a def: its body as a term of rules, and the reading of that term -/
theorem Fun.ok {cm : Bool} {x qual : Str} {st : Stmt} {f : Addr} {fd : FuncData} {N ps : List Str} {k : Nat} {sp : Sp} (F : Fun K x qual st f fd) (S : FnScope N ps (defScope st)) (len : ∀ vs H Q E, sp vs H Q E → vs.length = ps.length)
    (hbody : ∀ (cdv : Value) (A : Around) (outer : List Env) (s : Shared) (H : Hp) (vs : List V) (Q : VK) (E : XK), Room cm k (A.deeper (envOfC qual (defScope st) s.heap.objs.size f cdv)) → sp vs H Q E →
      ∃ t, PSs (cxOf CX0 cm P w K mg base N qual (defScope st) f cdv A outer s H E).nox (defBody st) t ∧ t { nx := fun _ H' => Q .non H', rt := fun _ => Q } (start N vs) H) : FnOk P w K mg base CX0 cm (k + 1) f fd ps sp := by
  obtain ⟨oc, od, kV, doc, pm, an, cdv, ct, osl, rfl, lk, hcd⟩ := F.ex
  refine fn_of lk hcd S len fun A outer s H vs Q E hr hsp => ?_
  obtain ⟨t, h, q⟩ := hbody cdv A outer s H vs Q E hr hsp
  exact ⟨t, h.nox, q⟩
/-- how its arguments bind (no defaults): h is «fun _ _ _ _ _ _ us hl => match us, hl with | [_, _], _ => rfl», one _ a parameter -/
theorem Fun.binds {x qual : Str} {st : Stmt} {f : Addr} {fd : FuncData} {ps : List Str} (F : Fun K x qual st f fd)
    (h : ∀ (kV doc pm : Value) (an : Option Addr) (cdv ct : Value) (us : List Value), us.length = ps.length → bindArgs (PySem.W.fnOf x qual (defArgs st) (defBody st) (defScope st) .none kV doc pm an cdv ct) ⟨us, []⟩ = pure (ps.zip us)) : Binds K fd ps [] := by
  obtain ⟨oc, od, kV, doc, pm, an, cdv, ct, osl, rfl, lk, hcd⟩ := F.ex
  exact .all (h kV doc pm an cdv ct)
theorem fun_mk {x qual : Str} {st : Stmt} {f : Addr} {oc : Value} {od an : Option Addr} {osl : Array (Option Value)} {kV doc pm cdv ct : Value} (l : K.lookup f = some ⟨oc, od, .func (PySem.W.fnOf x qual (defArgs st) (defBody st) (defScope st) .none kV doc pm an cdv ct), osl⟩)
    (c : PySem.W.codeIn K cdv qual = true) (k : PySem.W.keepIn K (.ref f) = true) : Fun K x qual st f (PySem.W.fnOf x qual (defArgs st) (defBody st) (defScope st) .none kV doc pm an cdv ct) := ⟨⟨oc, od, kV, doc, pm, an, cdv, ct, osl, rfl, l, c⟩, k⟩
end
theorem hu_of {cm : Bool} {A : Around} {k : Nat} (hr : Room cm k A) : A.units + 1 < cLine := Nat.lt_of_le_of_lt (Nat.add_le_add_left (by decide : 1 ≤ 64) _) hr.units
/-! ### expressions in short: the name that stands in the i-th slot -/
section
variable {X : Cx}
theorem pv (i : Nat) {x : Str} {pos : Pos} (hN : X.N[i]? = some x := by rfl) (hv : Vis X.env.scope x := by first | exact Or.inl rfl | exact Or.inr (Or.inl rfl) | exact Or.inr (Or.inr rfl)) (hd : (x == ("__debug__" : Str)) = false := by decide)
    (hcd : (x == ("__classdict__" : Str)) = false := by decide) : PE X (.Name x pos) (tVar i) := pe_var hN hv hd hcd
end

/-! ### tests -/
theorem iteF {A B : Prop} (h : B) : if false = true then A else B := by
  rw [if_neg Bool.false_ne_true]
  exact h
theorem iteT {A B : Prop} (h : A) : if true = true then A else B := by
  rw [if_pos rfl]
  exact h
theorem ite2 {c A B : Prop} [Decidable c] (h1 : c → A) (h2 : ¬ c → B) : if c then A else B := by
  by_cases h : c
  · rw [if_pos h]
    exact h1 h
  · rw [if_neg h]
    exact h2 h
theorem iteNS {c A B : Prop} [Decidable c] (hc : c) (h : B) : if (!decide c) = true then A else B := by
  rw [decide_eq_true hc]
  exact iteF h

/-! ### heaps -/
/-- all that was tracked is as it was -/
def Same (H H' : Hp) : Prop := ∀ b o, H b = some o → H' b = some o
theorem Same.refl (H : Hp) : Same H H := fun _ _ h => h
theorem Same.trans {H H1 H2 : Hp} (a : Same H H1) (b : Same H1 H2) : Same H H2 := fun c o h => b c o (a c o h)
theorem Same.free {H H' : Hp} (e : Same H H') {l : Addr} (h : H' l = Option.none) : H l = Option.none := by
  cases q : H l with
  | none => rfl
  | some o =>
    rw [e l o q] at h
    cases h
theorem Same.seq {K : PySem.W.Frag} {H H' : Hp} {a : Addr} {xs : List V} (e : Same H H') (h : SqL K H a xs) : SqL K H' a xs := by
  rcases h with (h | ⟨o, h⟩) | h
  · exact .inl (.inl (e _ _ h))
  · exact .inl (.inr ⟨o, e _ _ h⟩)
  · exact .inr h

end L2

namespace L2
open PySem PySem.Spec PyProof.Rows

/-- what a comprehension's scope draws from around: the free names' cells -/
def clOf (env : Env) : List (Str × NameKind) → List (Str × Addr) → List (Str × Addr)
  | [], acc => acc
  | (n, k) :: r, acc => if k == .free then clOf env r ((n, (env.cells.lookup n).getD 0) :: acc) else clOf env r acc
theorem clOf_old {env : Env} {x : Str} {c : Addr} : ∀ {ns : List (Str × NameKind)} {acc : List (Str × Addr)}, (∃ c, acc.lookup x = some c) → ∃ c, (clOf env ns acc).lookup x = some c
  | [], _, h => h
  | (n, k) :: r, acc, h => by
    unfold clOf
    split
    · refine clOf_old (c := c) ?_
      obtain ⟨c', e⟩ := h
      rw [List.lookup_cons]
      cases q : x == n
      · exact ⟨c', e⟩
      · exact ⟨_, rfl⟩
    · exact clOf_old (c := c) h
theorem clOf_has {env : Env} {x : Str} : ∀ {ns : List (Str × NameKind)} {acc : List (Str × Addr)}, (x, NameKind.free) ∈ ns → ∃ c, (clOf env ns acc).lookup x = some c
  | (n, k) :: r, acc, h => by
    unfold clOf
    rcases List.mem_cons.mp h with e | h
    · cases e
      rw [if_pos (by rfl)]
      exact clOf_old (c := 0) ⟨_, by rw [List.lookup_cons, beq_self_eq_true]⟩
    · split
      · exact clOf_has h
      · exact clOf_has h
theorem clOf_of {env : Env} {x : Str} {c : Addr} : ∀ {ns : List (Str × NameKind)} {acc : List (Str × Addr)}, (∀ y ∈ ns, y.2 = .free → ∃ d, env.cells.lookup y.1 = some d) → (∀ y d, acc.lookup y = some d → env.cells.lookup y = some d) →
    (clOf env ns acc).lookup x = some c → env.cells.lookup x = some c
  | [], _, _, ha, h => ha _ _ h
  | (n, k) :: r, acc, hn, ha, h => by
    unfold clOf at h
    have hr : ∀ y ∈ r, y.2 = .free → ∃ d, env.cells.lookup y.1 = some d := fun y hy => hn y (List.mem_cons_of_mem _ hy)
    split at h
    · rename_i hk
      have hk' : k = .free := by simpa using hk
      obtain ⟨d, hd⟩ := hn (n, k) List.mem_cons_self hk'
      refine clOf_of hr (fun y d' hy => ?_) h
      rw [List.lookup_cons] at hy
      cases q : y == n
      · rw [q] at hy
        exact ha y d' hy
      · rw [q] at hy
        have e : y = n := by simpa using q
        subst e
        have hd' : env.cells.lookup y = some d := hd
        rw [hd'] at hy
        rw [hd']
        exact hy
    · exact clOf_of hr ha h
theorem mem_of_lookup_str {x : Str} {k : NameKind} : ∀ {ns : List (Str × NameKind)}, ns.lookup x = some k → (x, k) ∈ ns
  | (n, j) :: r, h => by
    rw [List.lookup_cons] at h
    cases q : x == n
    · rw [q] at h
      exact List.mem_cons_of_mem _ (mem_of_lookup_str h)
    · rw [q] at h
      have e : x = n := by simpa using q
      subst e
      cases h
      exact List.mem_cons_self

/-- the context of a comprehension's block; no exception leaves it -/
def cxComp (X : Cx) (N : List Str) (scope : Scope) (C : Addr) (s : Shared) (H : Hp) (fp : List Addr) : Cx where
  prog := X.prog
  w := X.w
  K := X.K
  mg := X.mg
  base := X.base
  A := X.A
  N := N
  s₀ := s
  H₀ := H
  env := compEnvC scope (clOf X.env scope.names []) C X.env
  outer := X.stack
  stack := X.stack
  ex := fp
  fn := fun _ => false
  calm := X.calm
  pn := []
  xe := fun _ _ => False

/-- the names that are drawn from around, by their places -/
def capOk (sc scope : Scope) (N0 : List Str) : List (Option Nat) → List Str → Bool
  | [], _ => true
  | none :: r, _ :: n => capOk sc scope N0 r n
  | some j :: r, x :: n => decide (N0[j]? = some x) && decide (scope.names.lookup x = some .free) && decide (sc.names.lookup x = some .cell) && capOk sc scope N0 r n
  | _ :: _, [] => false
theorem capOk_get {sc scope : Scope} {N0 : List Str} : ∀ {cap : List (Option Nat)} {N : List Str} {i j : Nat}, capOk sc scope N0 cap N = true → cap[i]? = some (some j) →
    ∃ x, N[i]? = some x ∧ N0[j]? = some x ∧ scope.names.lookup x = some .free ∧ sc.names.lookup x = some .cell
  | [], _, _, _, _, e => by simp at e
  | o :: _, [], _, _, h, _ => by cases o <;> simp [capOk] at h
  | o :: r, y :: n, 0, j, h, e => by
    simp at e
    subst e
    unfold capOk at h
    simp only [Bool.and_eq_true, decide_eq_true_eq] at h
    exact ⟨y, rfl, h.1.1.1, h.1.1.2, h.1.2⟩
  | o :: r, y :: n, i + 1, j, h, e => by
    have h' : capOk sc scope N0 r n = true := by
      cases o with
      | none => exact h
      | some k =>
        unfold capOk at h
        simp only [Bool.and_eq_true] at h
        exact h.2
    obtain ⟨x, a, b⟩ := capOk_get (i := i) (j := j) h' (by simpa using e)
    exact ⟨x, by simpa using a, b⟩
/-- what must be true of the written scope; sc: the scope around -/
structure CompScope (sc scope : Scope) (N0 N : List Str) (cap : List (Option Nat)) : Prop where
  kind : scope.kind = .function
  cell : ∀ y ∈ scope.names, y.2 ≠ .cell
  names : ∀ y ∈ scope.names, y.2 = .local → scope.names.lookup y.1 = some .local
  free : ∀ y ∈ scope.names, y.2 = .free → sc.names.lookup y.1 = some .cell
  nd : N.Nodup
  len : cap.length = N.length
  cap : capOk sc scope N0 cap N = true

/-- the block's names ahead of the first turn -/
def capt (cap : List (Option Nat)) (σ : St) : St := cap.map fun o => match o with
  | none => none
  | some j => (σ[j]?).join

theorem relabel_free {scope : Scope} {env : Env} (hk : env.scope.kind = .function) (hf : ∀ y ∈ scope.names, y.2 = .free → env.kindOf y.1 = some .cell) {x : Str} (h : scope.names.lookup x = some .free) :
    (relabel scope env).names.lookup x = some .cell := by
  have all : ∀ (ns : List (Str × NameKind)), (∀ y ∈ ns, y.2 = .free → env.kindOf y.1 = some .cell) → ns.lookup x = some .free →
      (ns.map fun (n, k) => if (k == .free && env.scope.kind == .function && env.kindOf n == some .cell) then (n, NameKind.cell) else (n, k)).lookup x = some .cell := by
    intro ns
    induction ns with
    | nil => intro _ h; simp at h
    | cons y r ih =>
      obtain ⟨n, k⟩ := y
      intro hf h
      rw [List.map_cons]
      rw [List.lookup_cons] at h
      cases q : x == n
      · rw [q] at h
        have := ih (fun y hy => hf y (List.mem_cons_of_mem _ hy)) h
        show List.lookup x ((if (k == .free && env.scope.kind == .function && env.kindOf n == some .cell) = true then (n, NameKind.cell) else (n, k)) :: _) = _
        split <;> (rw [List.lookup_cons, q]; exact this)
      · rw [q] at h
        cases h
        have e := hf (n, .free) List.mem_cons_self rfl
        show List.lookup x ((if (NameKind.free == .free && env.scope.kind == .function && env.kindOf n == some .cell) = true then (n, NameKind.cell) else (n, NameKind.free)) :: _) = _
        rw [if_pos (by rw [hk, e]; rfl), List.lookup_cons, q]
  exact all scope.names hf h
theorem relabel_back {scope : Scope} {env : Env} {x : Str} (hc : ∀ y ∈ scope.names, y.2 ≠ .cell) (h : (relabel scope env).names.lookup x = some .cell ∨ (relabel scope env).names.lookup x = some .free) : (x, NameKind.free) ∈ scope.names := by
  have all : ∀ (ns : List (Str × NameKind)), (∀ y ∈ ns, y.2 ≠ .cell) →
      (∀ k, (k = NameKind.cell ∨ k = NameKind.free) → (ns.map fun (n, k) => if (k == .free && env.scope.kind == .function && env.kindOf n == some .cell) then (n, NameKind.cell) else (n, k)).lookup x = some k → (x, NameKind.free) ∈ ns) := by
    intro ns
    induction ns with
    | nil => intro _ k _ h; simp at h
    | cons y r ih =>
      obtain ⟨n, j⟩ := y
      intro hc k hk h
      rw [List.map_cons] at h
      have hr : ∀ y ∈ r, y.2 ≠ NameKind.cell := fun y hy => hc y (List.mem_cons_of_mem _ hy)
      change List.lookup x ((if (j == .free && env.scope.kind == .function && env.kindOf n == some .cell) = true then (n, NameKind.cell) else (n, j)) :: _) = some k at h
      split at h
      · rename_i hj
        rw [Bool.and_eq_true, Bool.and_eq_true] at hj
        have hj' : j = .free := by simpa using hj.1.1
        subst hj'
        rw [List.lookup_cons] at h
        cases q : x == n
        · rw [q] at h
          exact List.mem_cons_of_mem _ (ih hr k hk h)
        · have e : x = n := by simpa using q
          subst e
          exact List.mem_cons_self
      · rw [List.lookup_cons] at h
        cases q : x == n
        · rw [q] at h
          exact List.mem_cons_of_mem _ (ih hr k hk h)
        · rw [q] at h
          cases h
          have e : x = n := by simpa using q
          subst e
          rcases hk with z | z
          · exact absurd z (hc (x, j) List.mem_cons_self)
          · rw [z]; exact List.mem_cons_self
  rcases h with h | h
  · exact all scope.names hc _ (.inl rfl) h
  · exact all scope.names hc _ (.inr rfl) h

section
variable {X : Cx} {pins : List (Addr × Obj)} {σ : St} {H : Hp} {s : Shared} {h₁ : Heap} {scope : Scope} {N : List Str} {cap : List (Option Nat)} {fp : List Addr} {t' : Nat}

theorem comp_start (S : CompScope X.env.scope scope X.N N cap) (I : Inv X pins σ H s) (hf : ∀ b ∈ fp, FpOk X pins H b) (hlt : ∀ b ∈ fp, b < s.heap.objs.size)
    (hns : h₁.Ns s.heap.objs.size (fun x => ([] : List (Str × Value)).reverse.lookup x)) (keep : ∀ b o, s.heap.get? b = some o → h₁.get? b = some o) :
    Inv (cxComp X N scope s.heap.objs.size s H fp) [] (capt cap σ) H { s with heap := h₁, toks := t' } := by
  have hkf : ∀ y ∈ scope.names, y.2 = .free → X.env.kindOf y.1 = some .cell := S.free
  have hcell : ∀ y ∈ scope.names, y.2 = .free → ∃ d, X.env.cells.lookup y.1 = some d := fun y hy e => I.ok.has _ (.inl (hkf y hy e))
  have hcl : ∀ x c, (clOf X.env scope.names []).lookup x = some c → X.env.cells.lookup x = some c := fun x c h => clOf_of hcell (fun y d h => by simp at h) h
  refine ⟨⟨I.ok.mod, S.kind, I.ok.glob, I.ok.blt, Nat.le_refl _, fun x y c h1 h2 => I.ok.inj x y c (hcl x c h1) (hcl y c h2), fun x h => clOf_has (relabel_back S.cell h), (fun x c h => nomatch h), I.ok.hd, I.ok.frames, .inl rfl,
    fun b hb => ⟨Nat.ne_of_lt (hlt b hb), fun x c h => (hf b hb).2.2.2.2.1 x c (hcl x c h)⟩, I.bs, Nat.le_trans I.ok.bsz I.sz, fun b o e hb => ?_, fun b hb h => ?_, I.stack, I.stkFree⟩,
    rfl, I.bare, Un.kept keep, ⟨_, hns, fun i x v e1 e2 e3 => ?_⟩, fun x c h => ?_, I.hok.fresh (Nat.le_refl _), fun x c h => I.freeC x c (hcl x c h), fun p hp => (by simp [cxComp] at hp), I.hok.kept keep, ?_⟩
  · rcases (hf b hb).2.2.2.1 with z | z
    · exact I.ok.noex b o e z
    · exact absurd (Nat.lt_of_lt_of_le (Heap.lt_size (I.ok.bs b o e).1) z) (Nat.lt_irrefl _)
  · rcases List.mem_cons.mp (I.stkSub b h) with z | z
    · exact (hf b hb).2.1 z
    · exact (hf b hb).2.2.1 z
  · have e2' : (capt cap σ)[i]? = some (some v) := e2
    unfold capt at e2'
    rw [List.getElem?_map] at e2'
    cases q : cap[i]? with
    | none => rw [q] at e2'; cases e2'
    | some o =>
      cases o with
      | none => rw [q] at e2'; cases e2'
      | some j =>
        rw [q] at e2'
        obtain ⟨y, n1, n2, n3, n4⟩ := capOk_get S.cap q
        have e1' : N[i]? = some x := e1
        rw [n1] at e1'
        cases e1'
        have ej : σ[j]? = some (some v) := by
          have e3 : (σ[j]?).join = some v := Option.some.inj e2'
          cases r : σ[j]? with
          | none => rw [r] at e3; cases e3
          | some o => rw [r] at e3; rw [show o = some v from e3]
        obtain ⟨m, hn, hl⟩ := I.loc
        obtain ⟨u, ru, l⟩ := hl j x v n2 ej (.inr (.inl n4))
        refine ⟨u, ru, .inr ⟨.inl (relabel_free I.ok.kind hkf n3), ?_⟩⟩
        rcases l with ⟨hk, _⟩ | ⟨_, c, hc, z⟩
        · have n4' : X.env.kindOf x = some .cell := n4
          rw [n4'] at hk; cases hk
        · obtain ⟨c', hc'⟩ := clOf_has (env := X.env) (acc := []) (mem_of_lookup_str n3)
          have := hcl x c' hc'
          rw [hc] at this
          cases this
          exact ⟨c, hc', z.keeps keep⟩
  · obtain ⟨v, z⟩ := I.cell x c (hcl x c h)
    exact ⟨v, z.keeps keep⟩
  · show (capt cap σ).length = N.length
    unfold capt
    rw [List.length_map]
    exact S.len

/-- behind the block: the frame is as it was -/
theorem comp_end {pins' : List (Addr × Obj)} {σ' : St} {H' : Hp} {s' : Shared} {h' : Heap} (I : Inv X pins σ H s) (hf : ∀ b ∈ fp, FpOk X pins H b) (J : Inv (cxComp X N scope s.heap.objs.size s H fp) pins' σ' H' s')
    (sb : Heap.SameBut s.heap.objs.size s'.heap h') : Inv X pins σ H' { s' with heap := h' } := by
  have I1 : Inv X pins σ H' s' := I.call' J.os J.base J.hok J.bare fun b hb => ⟨(hf b hb).2.2.2.1, (hf b hb).2.1, (hf b hb).2.2.2.2.1, (hf b hb).2.2.2.2.2⟩
  have hfree : H' s.heap.objs.size = none := J.free
  refine I1.turned (t' := s'.toks) (it := s.heap.objs.size) (fun b o hb e => (sb.2 b hb).trans e) hfree (Nat.ne_of_gt I.lt) (.inr I.sz) (fun x c h z => ?_) fun p hp z => ?_
  · obtain ⟨v, q⟩ := I.cell x c h
    have := q.lt
    rw [z] at this
    exact Nat.lt_irrefl _ this
  · have := Heap.lt_size (I.pin p hp).1
    rw [z] at this
    exact Nat.lt_irrefl _ this
end

/-- the tests of a clause: none, or one -/
def PIfs (X : Cx) (ifs : List Expr) (t : TT) : Prop :=
  ∀ (pins : List (Addr × Obj)) (s : Shared) (σ : St) (H : Hp) (Q : Bool → Hp → Prop), Inv X pins σ H s → t σ H Q →
    wpAny (model X.prog X.w) X.A (forIn ifs true fun c r => if r = true then do let ok ← isTrue c X.env (eval c X.env); pure (ForInStep.yield ok) else pure (ForInStep.yield r)) (TP X pins σ Q) X.xe s
def tYes : TT := fun _ H Q => Q true H
theorem pf_none {X : Cx} : PIfs X [] tYes := fun pins s σ H Q I h => wpAny_tests_nil ⟨H, I, h⟩
theorem pf_one {X : Cx} {c : Expr} {t : TT} (h : PT X c t) : PIfs X [c] t := fun pins s σ H Q I hq => wpAny_tests_one (h pins s σ H Q I hq)

section
variable {prog : Program} {w : World} {A : Around} {R : Result → Shared → Prop} {s : Shared}
theorem compLoop_gen {elt target iter : Expr} {ifs : List Expr} {scope : Scope} {pos : Pos} {it acc : Value} {env : Env} (I : Nat → Shared → Prop)
    (turn : ∀ n s, I n s → wpAny (model prog w) A (pyNext it) (fun r s₁ => match r with
      | none => R (.ok .next) s₁
      | some v => wpAny (model prog w) A (letOwnedTupleGo target it v) (fun _ s₀ => wpAny (model prog w) A (assign target env v) (fun _ s₂ =>
          wpAny (model prog w) A (forIn ifs true fun c r => if r = true then do let ok ← isTrue c env (eval c env); pure (ForInStep.yield ok) else pure (ForInStep.yield r)) (fun ok s₃ =>
            if ok = true then wpAny (model prog w) A (eval elt env) (fun x s₄ =>
              wpAny (model prog w) A (call (.builtin "list.append") [acc, x]) (fun _ s₅ => ∃ m, m < n ∧ I m s₅) (fun _ _ => False) s₄) (fun _ _ => False) s₃
            else ∃ m, m < n ∧ I m s₃) (fun _ _ => False) s₂) (fun _ _ => False) s₀) (fun _ _ => False) s₁) (fun _ _ => False) s)
    (n : Nat) (h : I n s) : codeAny (model prog w) A (.compLoop (.ListComp elt [⟨target, iter, ifs, 0⟩] scope pos) 0 it acc env) R s := by
  refine codeAny_loop rfl I (fun n s hI => ?_) n h
  show wpAny _ A ((compTurn (.ListComp elt [⟨target, iter, ifs, 0⟩] scope pos) 0 it acc env).onRaise (fun x => do noteFrame x env; theTreesLotGoes x)) _ _ s
  refine wpAny_noted ?_
  rw [compTurn_list]
  refine wpAny_bind (wpAny_standAt (wpAny_bind (wpAny_mono (turn n s hI) (fun r s₁ h₁ => ?_) fun _ _ h' => h'.elim)))
  cases r with
  | none => exact wpAny_pure h₁
  | some v =>
    refine wpAny_bind (wpAny_mono h₁ (fun _ s₀ h₀ => ?_) fun _ _ h' => h'.elim)
    refine wpAny_bind (wpAny_mono h₀ (fun _ s₂ h₂ => wpAny_bind (wpAny_mono h₂ (fun ok s₃ h₃ => ?_) fun _ _ h' => h'.elim)) fun _ _ h' => h'.elim)
    cases ok with
    | false => exact wpAny_pure ⟨rfl, h₃⟩
    | true =>
      exact wpAny_bind (wpAny_bind (wpAny_mono h₃ (fun x s₄ h₄ => wpAny_bind (wpAny_mono h₄ (fun _ s₅ h₅ => wpAny_pure (wpAny_pure ⟨rfl, h₅⟩)) fun _ _ h' => h'.elim)) fun _ _ h' => h'.elim))
end

/-- the turns of a comprehension: D the new list, W the invariant by the turn, a measure, the items so far, the block's names, the heap -/
def compBody (J : It) (H1 : Hp) (cap : List (Option Nat)) (g : TG) (tt : TT) (te : TE) (σ : St) (Q : VK) : Prop := ∀ D, H1 D = none →
  ∃ W : Nat → Nat → List V → St → Hp → Prop, (∃ m, W 0 m [] (capt cap σ) (upd H1 D (.lst []))) ∧ ∀ i m ys σ' H', W i m ys σ' H' → H' D = some (.lst ys) ∧
    ((J.stop i H' ∧ Q (.ref D) H') ∨ (J.go i H' ∧ ∀ x H2, J.yld i H' x H2 → g x σ' H2 fun σ2 H3 => tt σ2 H3 fun b H4 =>
      if b = true then te σ2 H4 fun y H5 => H5 D = some (.lst ys) ∧ ys.length < sizeLine ∧ ∃ m', m' < m ∧ W (i + 1) m' (ys ++ [y]) σ2 (upd H5 D (.lst (ys ++ [y])))
      else ∃ m', m' < m ∧ W (i + 1) m' ys σ2 H4))
/-- [elt for target in iter if test] -/
def tComp (wi : TI) (cap : List (Option Nat)) (g : TG) (tt : TT) (te : TE) : TE := fun σ H Q => wi σ H fun J H1 => compBody J H1 cap g tt te σ Q

end L2

namespace L2
open PySem PySem.Spec PyProof.Rows
section
variable {X : Cx} {x : Str} {pos : Pos} {tg : Expr}
/-- a module's int, text, object -/
theorem pe_globI {i : Int} (hg : Gl X x) (hm : ∃ t, X.mg x = some (.int i t)) (hd : (x == ("__debug__" : Str)) = false := by decide) : PE X (.Name x pos) (tC (.int i)) := by
  obtain ⟨t, e⟩ := hm
  exact pe_glob hg e ⟨t, rfl⟩ hd
theorem pe_globR {a : Addr} (hg : Gl X x) (hm : X.mg x = some (.ref a)) (hd : (x == ("__debug__" : Str)) = false := by decide) : PE X (.Name x pos) (tC (.ref a)) := pe_glob hg hm rfl hd

/-- is True, is not False .. of bools -/
theorem op_isB : OpR X (compareOp .Is) (fun x y H Q => ∃ a b, x = .bl a ∧ y = .bl b ∧ Q (.bl (a == b)) H) := by
  intro pins s σ H x y v u Q I rx ry h
  obtain ⟨a, b, rfl, rfl, q⟩ := h
  cases rx; cases ry
  exact is_bool ⟨.bl _, H, I, rfl, q⟩
end
end L2
namespace L2
open PySem PySem.Spec PyProof.Rows
/-- a def with defaults -/
structure FunD (K : PySem.W.Frag) (x qual : Str) (st : Stmt) (f : Addr) (fd : FuncData) : Prop where
  ex : ∃ (oc : Value) (od : Option Addr) (dV kV doc pm : Value) (an : Option Addr) (cdv ct : Value) (osl : Array (Option Value)),
    fd = PySem.W.fnOf x qual (defArgs st) (defBody st) (defScope st) dV kV doc pm an cdv ct ∧ K.lookup f = some ⟨oc, od, .func fd, osl⟩ ∧ PySem.W.codeIn K cdv qual = true
  kp : PySem.W.keepIn K (.ref f) = true
section
variable {P : Program} {w : World} {K : PySem.W.Frag} {mg : Str → Option Value} {base : Heap}
theorem FunD.ok {cm : Bool} {x qual : Str} {st : Stmt} {f : Addr} {fd : FuncData} {N ps : List Str} {k : Nat} {sp : Sp} (F : FunD K x qual st f fd) (S : FnScope N ps (defScope st)) (len : ∀ vs H Q E, sp vs H Q E → vs.length = ps.length)
    (hbody : ∀ (cdv : Value) (A : Around) (outer : List Env) (s : Shared) (H : Hp) (vs : List V) (Q : VK) (E : XK), Room cm k (A.deeper (envOfC qual (defScope st) s.heap.objs.size f cdv)) → sp vs H Q E →
      ∃ t, PSs (cxOf CX0 cm P w K mg base N qual (defScope st) f cdv A outer s H E).nox (defBody st) t ∧ t { nx := fun _ H' => Q .non H', rt := fun _ => Q } (start N vs) H) : FnOk P w K mg base CX0 cm (k + 1) f fd ps sp := by
  obtain ⟨oc, od, dV, kV, doc, pm, an, cdv, ct, osl, rfl, lk, hcd⟩ := F.ex
  exact fn_of lk hcd S len fun A outer s H vs Q E hr h => by
    obtain ⟨t, ht, q⟩ := hbody cdv A outer s H vs Q E hr h
    exact ⟨t, ht.nox, q⟩
theorem funD_mk {x qual : Str} {st : Stmt} {f : Addr} {oc : Value} {od an : Option Addr} {osl : Array (Option Value)} {dV kV doc pm cdv ct : Value} (l : K.lookup f = some ⟨oc, od, .func (PySem.W.fnOf x qual (defArgs st) (defBody st) (defScope st) dV kV doc pm an cdv ct), osl⟩)
    (c : PySem.W.codeIn K cdv qual = true) (k : PySem.W.keepIn K (.ref f) = true) : FunD K x qual st f (PySem.W.fnOf x qual (defArgs st) (defBody st) (defScope st) dV kV doc pm an cdv ct) :=
  ⟨⟨oc, od, dV, kV, doc, pm, an, cdv, ct, osl, rfl, l, c⟩, k⟩
end
end L2
namespace L2
open PySem PySem.Spec PyProof.Rows
/-- what an iterator yields, whatever else is laid meanwhile -/
def Seq (J : It) (H : Hp) (xs : List V) : Prop := ∀ H', Same H H' → (∀ (i : Nat) x, xs[i]? = some x → J.go i H' ∧ ∀ x' H2, J.yld i H' x' H2 → x' = x ∧ H2 = H') ∧ J.stop xs.length H'
theorem Seq.up {J : It} {H H' : Hp} {xs : List V} (h : Seq J H xs) (s : Same H H') : Seq J H' xs := fun H2 s2 => h H2 (s.trans s2)
theorem seq_list {K : PySem.W.Frag} {H : Hp} {a : Addr} {xs : List V} (h : SqL K H a xs) : Seq (Itl K a) H xs := fun H' s => by
  have h' := s.seq h
  refine ⟨fun i x e => ⟨⟨xs, x, h', e⟩, fun x' H2 hy => ?_⟩, ⟨xs, h', Nat.le_refl _⟩⟩
  obtain ⟨e1, e2⟩ := hy
  have := e2 xs h'
  rw [e] at this
  exact ⟨(Option.some.inj this).symm, e1⟩
theorem Same.seqT {K : PySem.W.Frag} {H H' : Hp} {a : Addr} {xs : List V} (e : Same H H') (h : SqT K H a xs) : SqT K H' a xs := by
  rcases h with (h | ⟨o, h⟩) | h
  · exact .inl (.inl (e _ _ h))
  · exact .inl (.inr ⟨o, e _ _ h⟩)
  · exact .inr h
theorem seq_tup {K : PySem.W.Frag} {H : Hp} {a : Addr} {xs : List V} (h : SqT K H a xs) : Seq (Itt K a) H xs := fun H' s => by
  have h' := s.seqT h
  refine ⟨fun i x e => ⟨⟨xs, x, h', e⟩, fun x' H2 hy => ?_⟩, ⟨xs, h', Nat.le_refl _⟩⟩
  obtain ⟨e1, e2⟩ := hy
  have := e2 xs h'
  rw [e] at this
  exact ⟨(Option.some.inj this).symm, e1⟩
theorem same_upd {H : Hp} {p : Addr} {o : HO} (h : H p = none) : Same H (upd H p o) := fun b u e => by rw [upd_ne (ne_of_none e h)]; exact e
/-- for, over what an iterator yields -/
theorem for_seq {J : It} {xs : List V} {g : TG} {tb : TS} {D : Ends} {σ : St} {H0 H : Hp} (hJ : Seq J H0 xs) (Pv : Nat → St → Hp → Prop) (h0 : Pv 0 σ H) (hsm : ∀ i σ H, i ≤ xs.length → Pv i σ H → Same H0 H)
    (hs : ∀ (i : Nat) x σ H, xs[i]? = some x → Pv i σ H → g x σ H fun σ2 H2 => tb { D with nx := Pv (i + 1), ct := Pv (i + 1), bk := D.nx } σ2 H2) (hd : ∀ σ H, Pv xs.length σ H → D.nx σ H) :
    ∃ W : Nat → Nat → St → Hp → Prop, (∃ m, W 0 m σ H) ∧ ∀ i m σ H, W i m σ H →
      (J.stop i H ∧ D.nx σ H) ∨ (J.go i H ∧ ∃ N : St → Hp → Prop, (∀ σ' H', N σ' H' → ∃ m', m' < m ∧ W (i + 1) m' σ' H') ∧ ∀ x H', J.yld i H x H' → g x σ H' fun σ2 H2 => tb { D with nx := N, ct := N, bk := D.nx } σ2 H2) := by
  refine ⟨fun i m σ H => m = xs.length - i ∧ i ≤ xs.length ∧ Pv i σ H, ⟨xs.length, by simp, Nat.zero_le _, h0⟩, ?_⟩
  rintro i m σ H ⟨rfl, hi, p⟩
  obtain ⟨q1, q2⟩ := hJ H (hsm i σ H hi p)
  by_cases hlt : i < xs.length
  · have e : xs[i]? = some xs[i] := by simp [hlt]
    obtain ⟨go, y⟩ := q1 i _ e
    refine .inr ⟨go, Pv (i + 1), fun σ' H' p' => ⟨xs.length - (i + 1), by omega, rfl, hlt, p'⟩, fun x H' hy => ?_⟩
    obtain ⟨rfl, rfl⟩ := y x H' hy
    exact hs i _ σ _ e p
  · have e : i = xs.length := by omega
    subst e
    exact .inl ⟨q2, hd σ H p⟩
end L2
namespace L2
open PySem PySem.Spec PyProof.Rows
section
variable {X : Cx}
end
theorem atI_int {α : Type} {xs : List α} {i : Int} (h0 : 0 ≤ i) (h1 : i < xs.length) : atI xs i = some (xs[i.toNat]'(by omega)) := by
  have := atI_nat (xs := xs) (j := i.toNat) (v := xs[i.toNat]'(by omega)) (by simp)
  rw [show ((i.toNat : Nat) : Int) = i by omega] at this
  exact this
theorem atI_ints {ts : List Int} {i : Int} (h0 : 0 ≤ i) (h1 : i < ts.length) : ∃ t, t ∈ ts ∧ atI (ts.map V.int) i = some (.int t) := by
  refine ⟨ts[i.toNat]'(by omega), List.getElem_mem _, ?_⟩
  rw [atI_int h0 (by simpa using h1)]
  simp
end L2
namespace L2
open PySem PySem.Spec PyProof.Rows
/-- written items -/
def litOf : Expr → Option V
  | .Constant (.int i) _ _ => some (.int i)
  | .Constant (.str x) _ _ => some (.str x)
  | .Constant (.bool b) _ _ => some (.bl b)
  | .Constant .none _ _ => some .non
  | .UnaryOp .USub (.Constant (.int i) _ _) _ => some (.int (-i))
  | _ => none
def litsOf : List Expr → Option (List V)
  | [] => some []
  | e :: r => match litOf e, litsOf r with
    | some v, some vs => some (v :: vs)
    | _, _ => none
theorem pe_lit {X : Cx} {e : Expr} {v : V} (h : litOf e = some v) : PE X e (tC v) ∧ ∀ es : List Expr, starEach (e :: es) X.env = (false, eval e X.env) :: starEach es X.env := by
  unfold litOf at h
  split at h
  · cases h; exact ⟨pe_int, fun _ => rfl⟩
  · cases h; exact ⟨pe_str, fun _ => rfl⟩
  · cases h; exact ⟨pe_bl, fun _ => rfl⟩
  · cases h; exact ⟨pe_non, fun _ => rfl⟩
  · rename_i i j p q
    cases h
    refine ⟨fun pins s σ H Q I hq => pe_un un_neg pe_int pins s σ H Q I ⟨_, rfl, hq⟩, fun _ => rfl⟩
  · cases h
theorem pa_lits0 {X : Cx} : ∀ {es : List Expr} {vs : List V}, litsOf es = some vs → PA X es (fun _ H Q => Q vs H)
  | [], vs, h => by cases h; exact pa_nil
  | e :: r, vs, h => by
    unfold litsOf at h
    split at h
    · rename_i v ws h1 h2
      cases h
      have p := pe_lit (X := X) h1
      exact pa_cons p.1 (pa_lits0 h2) (p.2 r)
    · cases h
/-- the items, one by one -/
def litsAre (es : List Expr) (vs : List V) : Bool := decide (litsOf es = some vs)
theorem pa_lits {X : Cx} {es : List Expr} (vs : List V) (h : litsAre es vs = true) : PA X es (fun _ H Q => Q vs H) := pa_lits0 (of_decide_eq_true h)
end L2
namespace L2
theorem inV_ints (m : Int) : ∀ ns : List Int, inV (.int m) (ns.map V.int) = decide (m ∈ ns)
  | [] => rfl
  | n :: ns => by
    have ih := inV_ints m ns
    unfold inV at *
    rw [List.map_cons, List.any_cons, ih]
    have e : eqV (.int n) (.int m) = decide (m = n) := by
      show (n == m) = _
      by_cases h : m = n
      · subst h; simp
      · rw [decide_eq_false h]; exact beq_eq_false_iff_ne.mpr (Ne.symm h)
    rw [e, ← Bool.decide_or]
    exact decide_eq_decide.mpr (by rw [List.mem_cons])
end L2

namespace L2
open PySem PySem.Spec PyProof.Rows

/-! ### own error classes, as the written part tells them -/
/-- the bases of an error class under ValueError -/
def vE : List Value := [.type "ValueError", .type "Exception", .type "BaseException", .type "object"]
theorem exc_obj {K : PySem.W.Frag} {h : Heap} {C : Addr} {bmB : List Value} {newId : String} (X : K.In h) (q : PySem.W.excIn K C bmB newId = true) :
    ∃ bm N nm qn bs hd sn sub ab col dd k0 k1 k2 k3 k5 mN, h.get? C = some (excClassObj nm qn C N bs bm hd sn sub ab col dd k0 k1 k2 k3 k5 newId) ∧ h.Ns N mN ∧ mN "__init__" = none ∧ OwnTail h bmB bm := by
  unfold PySem.W.excIn at q
  split at q
  case h_2 => cases q
  case h_1 dct cdat slots look =>
    split at q
    case h_2 => cases q
    case h_1 C2 tl a0 a1 a2 a3 nw a5 e1 e2 =>
      simp only [Bool.and_eq_true, beq_iff_eq, Bool.not_eq_true'] at q
      obtain ⟨⟨⟨⟨⟨z1, z2⟩, z3⟩, z4⟩, z5⟩, z6⟩ := q
      subst z1 z2
      obtain ⟨nm, bs, mro, ns, qn, hd, sn, sub, ab, col, del⟩ := cdat
      dsimp only at e1 z3 z5 z6
      subst e1 z3
      have es : slots = #[a0, a1, a2, a3, some (.builtin nw), a5] := by
        cases slots
        exact congrArg Array.mk e2
      subst es
      exact ⟨tl, ns, nm, qn, bs, hd, sn, sub, ab, col, dct, a0, a1, a2, a3, a5, _, X _ _ look, .of_isNs (PySem.W.isNs_of_in X z5), PySem.W.nsMap_none_of_in X z5 z6, PySem.W.tail_of_in X z4⟩

/-! ### what is tracked stays -/
theorem HOk.tracked {P : Program} {w : World} {H : Hp} {h h' : Heap} (x : HOk P w H h) (k : ∀ b u o, H b = some u → h.get? b = some o → h'.get? b = some o) : HOk P w H h' := fun a o e =>
  (x a o e).stay (fun b u hb q => by
    rcases hb with hb | hb
    · subst hb; exact k _ _ _ e q
    · exact k _ _ _ hb q) (fun _ q => q) fun _ _ q => q

/-- an exception of an own class, in flight behind a call -/
def CXe (P : Program) (w : World) : CXT := fun outer H s E ev s' => ∃ (ea t C : Addr) (H' : Hp) (B : Heap), ev = .ref ea ∧ s'.os = s.os ∧ AllBare s'.gens ∧
  Un (frs outer) [] H H' s.heap s'.heap ∧ HOk P w H' s'.heap ∧ Heap.FlyingW B outer ea (.ref C) (.ref t) s'.heap ∧
  (∀ b o, s.heap.get? b = some o → H b = none → b ∉ frs outer → B.get? b = some o) ∧ (∀ b o, s.heap.get? b = some o → b ∉ frs outer → ∃ o', B.get? b = some o') ∧
  (∀ b u o, H' b = some u → s'.heap.get? b = some o → B.get? b = some o) ∧ H' ea = none ∧ s.heap.get? ea = none ∧ E (.ref C) none H'

/-- no exception is wanted: none comes -/
theorem passF {P : Program} {w : World} {X : Cx} : Passes (CXe P w) X (fun _ _ _ => False) := fun _ _ _ _ _ _ _ c => by
  obtain ⟨_, _, _, _, _, _, _, _, _, _, _, _, _, _, _, _, q⟩ := c
  exact q.elim

theorem HOk.there {P : Program} {w : World} {H : Hp} {h : Heap} {b : Addr} {v : HO} (ok : HOk P w H h) (e : H b = some v) : ∃ o', h.get? b = some o' := by
  have := ok b v e
  cases v with
  | lst xs => obtain ⟨_, _, _, _, z⟩ := this; exact ⟨_, z⟩
  | tup xs => obtain ⟨_, _, _, o, z, _⟩ := this; exact ⟨_, z⟩
  | dK kvs => obtain ⟨_, _, _, _, o, _, _, z, _⟩ := this; exact ⟨_, z⟩
  | dT kvs => obtain ⟨_, _, _, _, o, _, _, z, _⟩ := this; exact ⟨_, z⟩
  | set S n => obtain ⟨o, _, _, _, z, _⟩ := this; exact ⟨_, z⟩
  | ins C dx fs => obtain ⟨_, _, _, z, _⟩ := this; exact ⟨_, z⟩
  | own y => exact this
  | xd fs => obtain ⟨_, ⟨_, _, _, z, _⟩, _⟩ := this; exact ⟨_, z⟩
  | rng lo hi => obtain ⟨_, _, _, z⟩ := this; exact ⟨_, z⟩
  | frz ob u => obtain ⟨z, _⟩ := this; exact ⟨_, z⟩
  | tbl ps => exact ⟨_, this⟩
  | met f y => exact ⟨_, this⟩
  | ext φ => exact this.2.1

section
variable {X : Cx} {pins : List (Addr × Obj)} {σ : St} {H H' : Hp} {s : Shared} {h h2 B : Heap}
/-- out of a frame: what lay behind a call lies behind the caller's own -/
theorem lies_of (I : Inv X pins σ H s) (hst : X.stack = X.env :: X.outer) (hex : X.ex = []) (u : Un (frs X.stack) [] H H' s.heap h) (ok : HOk X.prog X.w H' h)
    (oldB : ∀ b o, s.heap.get? b = some o → H b = none → b ∉ frs X.stack → B.get? b = some o) (thB : ∀ b o, s.heap.get? b = some o → b ∉ frs X.stack → ∃ o', B.get? b = some o')
    (trB : ∀ b u o, H' b = some u → h.get? b = some o → B.get? b = some o) (st : B.StaysIn h2) (up : h.UpToSlots h2) :
    Un (frs X.outer) [] X.H₀ H' X.s₀.heap h2 ∧ HOk X.prog X.w H' h2 ∧ (∀ b o, X.s₀.heap.get? b = some o → X.H₀ b = none → b ∉ frs X.outer → B.get? b = some o) ∧
      (∀ b o, X.s₀.heap.get? b = some o → b ∉ frs X.outer → ∃ o', B.get? b = some o') ∧ (∀ b u o, H' b = some u → h2.get? b = some o → B.get? b = some o) := by
  have nx : ∀ b, b ∉ X.ex := fun b => by rw [hex]; simp
  have nst : ∀ b o, X.s₀.heap.get? b = some o → b ∉ frs X.outer → b ∉ frs X.stack := fun b o e hb z => by
    rcases List.mem_cons.mp (I.stkSub b z) with q | q
    · exact absurd q (Nat.ne_of_lt (Nat.lt_of_lt_of_le (Heap.lt_size e) I.ok.above))
    · exact hb q
  have sub : ∀ b, b ∈ frs X.outer → b ∈ frs X.stack := fun b hb => by
    rw [hst]
    unfold frs at *
    rw [List.filterMap_cons]
    split
    · exact hb
    · exact List.mem_cons_of_mem _ hb
  have old : ∀ b o, X.s₀.heap.get? b = some o → X.H₀ b = none → b ∉ frs X.outer → B.get? b = some o := fun b o e n hb => oldB b o (I.base.keep b o e n hb (nx b)) (I.base.free b o e n (nx b)) (nst b o e hb)
  have th : ∀ b o, X.s₀.heap.get? b = some o → b ∉ frs X.outer → ∃ o', B.get? b = some o' := fun b o e hb => by
    obtain ⟨o', e'⟩ := I.base.there b o e (nx b)
    exact thB b o' e' (nst b o e hb)
  have sl : ∀ b o, X.s₀.heap.get? b = some o → b ∈ frs X.outer → ∃ sl, h2.get? b = some { o with slots := sl } := fun b o e hb => by
    have n0 := I.ok.frf b hb
    obtain ⟨s1, e1⟩ := I.base.slot b o e n0 hb (nx b)
    obtain ⟨s2, e2⟩ := u.slot b _ e1 (I.base.free b o e n0 (nx b)) (sub b hb) (by simp)
    obtain ⟨_, o', e', nf⟩ := I.ok.funs.mem hb
    rw [e] at e'
    cases e'
    obtain ⟨s3, e3⟩ := up b _ e2 nf
    exact ⟨s3, e3⟩
  refine ⟨⟨fun b o e n hb _ => st b o (old b o e n hb), fun b o e n hb _ => sl b o e hb, fun b o e n _ => ?_, fun b o e _ => ?_, fun b xs e => u.tups b xs (I.base.tups b xs e), fun b o v e => u.frzs b o v (I.base.frzs b o v e), fun b ps e => ?_⟩,
    ok.tracked fun b v o e q => st b o (trB b v o e q), old, th, fun b v o e q => ?_⟩
  · obtain ⟨o', e'⟩ := I.base.there b o e (nx b)
    exact u.free b o' e' (I.base.free b o e n (nx b)) (by simp)
  · by_cases hb : b ∈ frs X.outer
    · obtain ⟨s1, e1⟩ := sl b o e hb
      exact ⟨_, e1⟩
    · obtain ⟨o', e'⟩ := th b o e hb
      exact ⟨o', st b o' e'⟩
  · obtain ⟨m1, e1⟩ := I.base.tbls b ps e
    obtain ⟨m2, e2⟩ := u.tbls b _ e1
    exact ⟨m1 ++ m2, by rw [e2, Array.append_assoc]⟩
  · have hl := ok.lt e
    obtain ⟨o', e'⟩ := ok.there e
    have z := trB b v o' e e'
    have := st b o' z
    rw [q] at this
    cases this
    exact z
end

/-- an exception that is made here leaves as it is wanted -/
def Raises (X : Cx) (E : XK) : Prop := ∀ (pins : List (Addr × Obj)) (σ : St) (H : Hp) (s : Shared) (e C : Addr) (h' : Heap) (vs : List Value), Inv X pins σ H s → Heap.MadeExcOf s.heap h' e (.ref C) vs → E (.ref C) none H → X.xe (.ref e) { s with heap := h' }

section
variable {cm : Bool} {P : Program} {w : World} {K : PySem.W.Frag} {mg : Str → Option Value} {base : Heap} {N : List Str} {qual : Str} {scope : Scope} {f : Addr} {cd : Value} {A : Around} {outer : List Env} {s : Shared} {H : Hp} {E : XK}
theorem raises_def : Raises (cxOf (CXe P w) cm P w K mg base N qual scope f cd A outer s H E) E := by
  intro pins σ H1 s1 e C h' vs I mx q
  have old : ∀ b o, s1.heap.get? b = some o → H1 b = none → b ∉ frs (cxOf (CXe P w) cm P w K mg base N qual scope f cd A outer s H E).stack → (PySem.W.hideAll s1.heap (frs (cxOf (CXe P w) cm P w K mg base N qual scope f cd A outer s H E).stack)).get? b = some o := fun b o e _ hb => PySem.W.hideAll_get _ e hb
  have nfr : ∀ b u, H1 b = some u → b ∉ frs (cxOf (CXe P w) cm P w K mg base N qual scope f cd A outer s H E).stack := fun b u e z => by
    have := I.stkFree b z
    rw [e] at this
    cases this
  have ok1 : HOk P w H1 h' := I.hok.kept mx.keeps
  have tr : ∀ b u o, H1 b = some u → h'.get? b = some o → (PySem.W.hideAll s1.heap (frs (cxOf (CXe P w) cm P w K mg base N qual scope f cd A outer s H E).stack)).get? b = some o := fun b u o e z => by
    have hl : b < s1.heap.objs.size := I.hok.lt e
    cases q1 : s1.heap.get? b with
    | none =>
      obtain ⟨o', e'⟩ := I.hok.there e
      rw [q1] at e'
      cases e'
    | some o' =>
      have := mx.keeps b o' q1
      rw [z] at this
      cases this
      exact PySem.W.hideAll_get _ q1 (nfr b u e)
  refine wpAny_leaves_madeW (s := { s1 with heap := h' }) (base := PySem.W.hideAll s1.heap (frs (cxOf (CXe P w) cm P w K mg base N qual scope f cd A outer s H E).stack)) (h := s1.heap) I.ok.frames rfl (fun b o z => PySem.W.of_hideAll _ z) (PySem.W.funFrames_hide I.stack fun env he b hb => List.mem_filterMap.mpr ⟨env, he, hb⟩) mx fun h2 t fl tup ht up => ?_
  obtain ⟨u1, o1, b1, t1, r1⟩ := lies_of I rfl rfl (Un.kept mx.keeps) ok1 old (fun b o e hb => ⟨o, PySem.W.hideAll_get _ e hb⟩) tr fl.1 up
  refine ⟨e, t, C, H1, _, rfl, I.os, I.bare, u1, o1, fl, b1, t1, r1, ?_, ?_, q⟩
  · cases z : H1 e with
    | none => rfl
    | some v =>
      obtain ⟨o', e'⟩ := I.hok.there z
      have := mx.new
      rw [e'] at this
      cases this
  · cases z : s.heap.get? e with
    | none => rfl
    | some o =>
      obtain ⟨o', e'⟩ := I.base.there e o z (fun q => nomatch q)
      have := mx.new
      rw [e'] at this
      cases this
theorem passes_def : Passes (CXe P w) (cxOf (CXe P w) cm P w K mg base N qual scope f cd A outer s H E) E := by
  intro pins σ H1 s1 e s' I c
  obtain ⟨ea, t, C, H', B, rfl, os, bare, u, ok, fl, oldB, thB, trB, n1, n2, q⟩ := c
  refine wpAny_leaves_onW (s := s') I.ok.frames rfl fl fun h2 fl' up => ?_
  obtain ⟨u1, o1, b1, t1, r1⟩ := lies_of I rfl rfl u ok oldB thB trB fl'.1 up
  refine ⟨ea, t, C, H', B, rfl, os.trans I.os, bare, u1, o1, fl', b1, t1, r1, n1, ?_, q⟩
  cases z : s.heap.get? ea with
  | none => rfl
  | some o =>
    obtain ⟨o', e'⟩ := I.base.there ea o z (fun q => nomatch q)
    rw [n2] at e'
    cases e'

/-- a def from which exceptions may leave -/
theorem Fun.okE {x : Str} {st : Stmt} {f : Addr} {fd : FuncData} {N ps : List Str} {k : Nat} {sp : Sp} (F : Fun K x qual st f fd) (S : FnScope N ps (defScope st)) (len : ∀ vs H Q E, sp vs H Q E → vs.length = ps.length)
    (hbody : ∀ (cdv : Value) (A : Around) (outer : List Env) (s : Shared) (H : Hp) (vs : List V) (Q : VK) (E : XK), Room cm k (A.deeper (envOfC qual (defScope st) s.heap.objs.size f cdv)) → sp vs H Q E →
      ∃ t, PSs (cxOf (CXe P w) cm P w K mg base N qual (defScope st) f cdv A outer s H E) (defBody st) t ∧ t { nx := fun _ H' => Q .non H', rt := fun _ => Q } (start N vs) H) : FnOk P w K mg base (CXe P w) cm (k + 1) f fd ps sp := by
  obtain ⟨oc, od, kV, doc, pm, an, cdv, ct, osl, rfl, lk, hcd⟩ := F.ex
  exact fn_of lk hcd S len fun A outer s H vs Q E hr h => hbody cdv A outer s H vs Q E hr h
theorem FunD.okE {x : Str} {st : Stmt} {f : Addr} {fd : FuncData} {N ps : List Str} {k : Nat} {sp : Sp} (F : FunD K x qual st f fd) (S : FnScope N ps (defScope st)) (len : ∀ vs H Q E, sp vs H Q E → vs.length = ps.length)
    (hbody : ∀ (cdv : Value) (A : Around) (outer : List Env) (s : Shared) (H : Hp) (vs : List V) (Q : VK) (E : XK), Room cm k (A.deeper (envOfC qual (defScope st) s.heap.objs.size f cdv)) → sp vs H Q E →
      ∃ t, PSs (cxOf (CXe P w) cm P w K mg base N qual (defScope st) f cdv A outer s H E) (defBody st) t ∧ t { nx := fun _ H' => Q .non H', rt := fun _ => Q } (start N vs) H) : FnOk P w K mg base (CXe P w) cm (k + 1) f fd ps sp := by
  obtain ⟨oc, od, dV, kV, doc, pm, an, cdv, ct, osl, rfl, lk, hcd⟩ := F.ex
  exact fn_of lk hcd S len fun A outer s H vs Q E hr h => hbody cdv A outer s H vs Q E hr h
end

section
variable {X : Cx} {E : XK} {x : Str} {C : Addr} {np cpos pos : Pos} {e0 : Expr} {es : List Expr} {t : TA}
/-- raise C(..), C an own class under ValueError -/
theorem ps_raise (R : Raises X E) (hc : X.calm = true) (hg : Gl X x) (hm : X.mg x = some (.ref C)) (q : PySem.W.excIn X.K C vE "ValueError.__new__" = true) (ha : PA X (e0 :: es) t)
    (he : starEach (e0 :: es) X.env = (false, eval e0 X.env) :: starEach es X.env := by rfl) (hpl : (backTo cpos (starEach es X.env)).any (·.1) = false := by rfl) (hd : (x == ("__debug__" : Str)) = false := by decide) :
    PS X (.Raise (some (.Call (.Name x np) (e0 :: es) [] cpos)) none pos) (fun _ σ H => t σ H fun vs H1 => vs.length ≤ sizeLine ∧ E (.ref C) none H1) := by
  intro pins s σ H D I h
  obtain ⟨bm, N, nm, qn, bs, hdc, sn, sub, ab, col, dd, k0, k1, k2, k3, k5, mN, hC, hN, hni, TL⟩ := exc_obj I.mod.kin q
  refine wpAny_Raise_call_subT (C := C) (nm := nm) (q := qn) (N := N) (bs := bs) (bm := bm) (hdct := hdc) (sn := sn) (sub := sub) (ab := ab) (col := col) (dd := dd) (k0 := k0) (k1 := k1) (k2 := k2) (k3 := k3) (k5 := k5)
    PySem.F.excBase_ValueError (mN := mN) (TL.hasType PySem.F.excBase_ValueError.hasBase) (I.ok.hd hc) (by rw [he]; show (false || (backTo cpos (starEach es X.env)).any (·.1)) = false; rw [hpl]; rfl) hni (ld_glob I hg hm ⟨rfl, ?_⟩ hd)
  have w1 := ha cpos pins s σ H _ I h
  rw [he] at w1 ⊢
  exact Calls.evalArgs_plain (thn w1 fun us s1 ⟨vs, H1, I1, r1, z, q1⟩ => ⟨rfl, by rw [← r1.length]; exact z, I1.bk _ _ hC, hN.keeps I1.bk, TL.keeps I1.bk, fun h' e mx => R pins σ H1 s1 e C h' us I1 mx q1⟩)
end

/-! ### try, except C: .. -/
/-- a handler's suite: an exception is being handled -/
def Cx.hnd (X : Cx) (e : Value) : Cx := { X with A := X.A.mark (some e), calm := false, xe := fun _ _ => False }
theorem Inv.hnd {X : Cx} {pins : List (Addr × Obj)} {σ : St} {H : Hp} {s : Shared} (I : Inv X pins σ H s) (e : Value) : Inv (X.hnd e) pins σ H s :=
  ⟨⟨I.ok.mod, I.ok.kind, I.ok.glob, I.ok.blt, I.ok.above, I.ok.inj, I.ok.has, I.ok.cab, (fun z => nomatch z), I.ok.frames, I.ok.stk, I.ok.exf, I.ok.bs, I.ok.bsz, I.ok.noex, I.ok.exfs, I.ok.funs, I.ok.frf⟩,
    I.os, I.bare, I.base, I.loc, I.cell, I.free, I.freeC, I.pin, I.hok, I.len⟩
theorem Inv.unhnd {X : Cx} {pins : List (Addr × Obj)} {σ : St} {H : Hp} {s : Shared} {e : Value} (ok : X.Ok) (I : Inv (X.hnd e) pins σ H s) : Inv X pins σ H s :=
  ⟨ok, I.os, I.bare, I.base, I.loc, I.cell, I.free, I.freeC, I.pin, I.hok, I.len⟩
end L2

namespace L2
open PySem PySem.Spec PyProof.Rows

/-- an exception of a callee reaches what this body wants, the names as they stand at the call -/
def PassesAt (CX : CXT) (X : Cx) (σ : St) (E : XK) : Prop := ∀ (pins : List (Addr × Obj)) (H : Hp) (s : Shared) (e : Value) (s' : Shared), Inv X pins σ H s → CX X.stack H s E e s' → X.xe e s'
def tCallT (sp : Sp) (dvs : List V) (E : St → XK) (t : TA) : TE := fun σ H Q => t σ H fun vs H1 => sp (vs ++ dvs) H1 Q (E σ)
section
variable {X : Cx} {CX : CXT} {cm : Bool} {k : Nat} {f : Addr} {fd : FuncData} {ps : List Str} {sp : Sp} {dvs : List V} {ds : List Value} {E : St → XK} {x : Str} {p pos : Pos} {e : Expr} {es : List Expr} {t : TA}
theorem pe_callT (F : FnOk X.prog X.w X.K X.mg X.base CX cm k f fd ps sp) (hr : Room cm k X.A) (hg : Gl X x) (hm : X.mg x = some (.ref f)) (hk : PySem.W.keepIn X.K (.ref f) = true) (hb : Binds X.K fd ps ds) (hd : Vals dvs ds) (hx : ∀ σ, PassesAt CX X σ (E σ))
    (ha : PA X (e :: es) t) (hdb : (x == ("__debug__" : Str)) = false := by decide) (he : starEach (e :: es) X.env = (false, eval e X.env) :: starEach es X.env := by rfl) (hpl : (backTo pos (starEach es X.env)).any (·.1) = false := by rfl) :
    PE X (.Call (.Name x p) (e :: es) [] pos) (tCallT sp dvs E t) := by
  intro pins s σ H Q I h
  refine wpAny_Call_Name_kw (ld_glob I hg hm ?_ hdb)
  refine PySem.W.callWith_K (h₀ := X.base) I.ok.mod.kin hk (thn (ha pos pins s σ H _ I h) fun us s1 ⟨vs, H1, I1, r, q⟩ => ⟨I1.kIn, ?_⟩) he hpl
  have r2 : Vals (vs ++ dvs) (us ++ ds) := r.append hd
  have hl : (us ++ ds).length = ps.length := by rw [← r2.length]; exact F.len _ _ _ _ q
  refine wpAny_call (codeAny_mono (F.run X.A X.stack s1 H1 ⟨us, []⟩ (us ++ ds) (vs ++ dvs) Q (E σ) hr I1.env0 (hb s1 us I1.kIn hl) r2 q) fun fl s' hq => ?_)
  rcases fl with ev | fl
  · exact hx σ pins H1 s1 ev s' I1 hq
  · cases fl with
    | ret u => exact I1.after hq
    | next => exact hq.elim
    | brk => exact hq.elim
    | cont => exact hq.elim
end

/-- the handler's class, of the text -/
structure Catch (K : PySem.W.Frag) (Cc : Addr) : Prop where
  ty : PySem.W.typeIn K (.ref Cc) = some (.type "type")
  mb : PySem.W.mroIn K Cc (.type "BaseException") = some true
theorem Catch.cls {K : PySem.W.Frag} {Cc : Addr} (c : Catch K Cc) : ∃ cd, PySem.W.clsIn K Cc = some cd := by
  obtain ⟨cd, a, _⟩ := Option.bind_eq_some_iff.mp c.mb
  exact ⟨cd, a⟩
theorem excMatches_in {K : PySem.W.Frag} {prog : Program} {w : World} {A : Around} {E : Value → Shared → Prop} {s : Shared} {Q : Bool → Shared → Prop} {e Cc C : Addr} {oe : Obj} (X : K.In s.heap) (he : s.heap.get? e = some oe) (hc : oe.cls = .ref C)
    (ct : Catch K Cc) (ms : PySem.W.mroIn K C (.ref Cc) = some true) (q : Q true s) : wpAny (model prog w) A (excMatches (.ref e) (.ref Cc)) Q E s := by
  obtain ⟨cd, hcd⟩ := ct.cls
  have L3 := PySem.W.looks_mroIn (M := model prog w) X ct.mb
  have L4 := PySem.W.looks_mroIn (M := model prog w) X ms
  have same : ∀ b o, s.heap.get? b = some o → s.heap.get? b = some o := fun _ _ z => z
  have f := tc_notTuple
  unfold PySem.W.clsIn at hcd
  split at hcd
  case h_2 => cases hcd
  case h_1 a1 a2 a3 a4 lk =>
    have ho := X _ _ lk
    have ty : Option.map (fun o : Obj => o.cls) (K.lookup Cc) = some (.type "type") := ct.ty
    rw [lk] at ty
    have ty' : a1 = .type "type" := Option.some.inj ty
    subst ty'
    obtain ⟨hp, g, d, tk, os⟩ := s
    have M3 : ∀ (A : Around) (Q : Bool → Shared → Prop) (E : Value → Shared → Prop), Q true ⟨hp, g, d, tk, os⟩ → wpAny (model prog w) A (isSubtype (.ref Cc) (.type "BaseException")) Q E ⟨hp, g, d, tk, os⟩ := fun A Q E z => L3 A Q E _ same z
    have M4 : ∀ (A : Around) (Q : Bool → Shared → Prop) (E : Value → Shared → Prop), Q true ⟨hp, g, d, tk, os⟩ → wpAny (model prog w) A (isSubtype (.ref C) (.ref Cc)) Q E ⟨hp, g, d, tk, os⟩ := fun A Q E z => L4 A Q E _ same z
    unfold excMatches
    repeat (first | (with_reducible refine wpAny_loadPart_at he ?_; rw [hc]) | with_reducible refine wpAny_loadPart_at ho ?_ | with_reducible refine M3 _ _ _ ?_ | with_reducible refine M4 _ _ _ ?_ | wp_step)
    exact q

/-- what a try's body runs in: its own wish about exceptions; the pins are borne by every state -/
def Cx.tryx (X : Cx) (pins : List (Addr × Obj)) (Eb : Value → Shared → Prop) : Cx := { X with pn := X.pn ++ pins, xe := Eb }
section
variable {X : Cx} {pins pins' : List (Addr × Obj)} {σ : St} {H H' : Hp} {s : Shared} {Eb : Value → Shared → Prop} {h h2 B : Heap}
theorem Inv.tryx (I : Inv X pins σ H s) (Eb : Value → Shared → Prop) : Inv (X.tryx pins Eb) [] σ H s :=
  ⟨⟨I.ok.mod, I.ok.kind, I.ok.glob, I.ok.blt, I.ok.above, I.ok.inj, I.ok.has, I.ok.cab, I.ok.hd, I.ok.frames, I.ok.stk, I.ok.exf, I.ok.bs, I.ok.bsz, I.ok.noex, I.ok.exfs, I.ok.funs, I.ok.frf⟩,
    I.os, I.bare, I.base, I.loc, I.cell, I.free, I.freeC, (fun p hp => I.pin p (by simpa [Cx.tryx] using hp)), I.hok, I.len⟩
theorem Inv.untryx (ok : X.Ok) (I : Inv (X.tryx pins Eb) pins' σ H s) : Inv X pins σ H s :=
  ⟨ok, I.os, I.bare, I.base, I.loc, I.cell, I.free, I.freeC, (fun p hp => I.pin p (List.mem_append_left _ hp)), I.hok, I.len⟩
/-- an exception has landed: the frame as it stood at the call -/
theorem Inv.landed (I : Inv X pins σ H s) {s' : Shared} (os : s'.os = s.os) (bare : AllBare s'.gens) (u : Un (frs X.stack) [] H H' s.heap s'.heap) (ok : HOk X.prog X.w H' s'.heap)
    (oldB : ∀ b o, s.heap.get? b = some o → H b = none → b ∉ frs X.stack → B.get? b = some o) (thB : ∀ b o, s.heap.get? b = some o → b ∉ frs X.stack → ∃ o', B.get? b = some o')
    (trB : ∀ b u o, H' b = some u → s'.heap.get? b = some o → B.get? b = some o) (st : B.StaysIn h2) (up : s'.heap.UpToSlots h2) : Inv X pins σ H' { s' with heap := h2 } := by
  have sl : ∀ b o, s.heap.get? b = some o → H b = none → b ∈ frs X.stack → ∃ sl, h2.get? b = some { o with slots := sl } := fun b o e n hb => by
    obtain ⟨s2, e2⟩ := u.slot b o e n hb (by simp)
    obtain ⟨_, o', e', nf⟩ := I.stack.mem hb
    rw [e] at e'
    cases e'
    obtain ⟨s3, e3⟩ := up b _ e2 nf
    exact ⟨s3, e3⟩
  refine I.call' (s' := { s' with heap := h2 }) (ch := []) os ⟨fun b o e n hb _ => st b o (oldB b o e n hb), fun b o e n hb _ => sl b o e n hb, u.free, fun b o e _ => ?_, u.tups, u.frzs, u.tbls⟩ (ok.tracked fun b v o e q => st b o (trB b v o e q)) bare (fun b z => nomatch z)
  by_cases hb : b ∈ frs X.stack
  · obtain ⟨s1, e1⟩ := sl b o e (I.stkFree b hb) hb
    exact ⟨_, e1⟩
  · obtain ⟨o', e'⟩ := thB b o e hb
    exact ⟨o', st b o' e'⟩
end

end L2

namespace L2
open PySem PySem.Spec PyProof.Rows
section
variable {X : Cx}
/-! ### f-strings of texts -/
end
end L2

namespace L2
open PySem PySem.Spec PyProof.Rows
section
variable {X : Cx}
end
end L2

namespace L2
open PySem PySem.Spec PySem.Calls PyProof.Rows Builtin Builtin.ObjectAttr Builtin.Getset_descriptor

/-! ### isinstance of an exception of an own class -/
/-- what the text tells of an own error class -/
structure ExC (K : PySem.W.Frag) (C : Addr) : Prop where
  cs : (PySem.W.clsIn K C).isSome = true
  ga : PySem.W.findIn K (.ref C) "__getattribute__" = some (some (.builtin "BaseException.__getattribute__"))
  gn : PySem.W.findIn K (.ref C) "__getattr__" = some none
  ca : PySem.W.findIn K (.ref C) "__class__" = some (some (.builtin "object.__class__"))
  sg : PySem.W.specialIn K (.builtin "object.__class__") "__get__" = some (some (.builtin "getset_descriptor.__get__"))
  tk : PySem.W.takesIn K (.builtin "object.__class__") = some true
  mo : PySem.W.mroIn K C (.type "object") = some true
  mb : PySem.W.mroIn K C (.type "BaseException") = some true

def ExcAt (e C : Addr) (h : Heap) : Prop := ∃ oe, h.get? e = some oe ∧ oe.cls = .ref C
theorem ExcAt.type {M : Model} {e C : Addr} {h : Heap} (p : ExcAt e C h) : PySem.W.Looks M h (typeOf (.ref e)) (.ref C) := by
  obtain ⟨oe, a, b⟩ := p
  exact b ▸ (PySem.W.Looks.ld a).andThen .now

section
variable {prog : Program} {w : World} {K : PySem.W.Frag} {e C : Addr}
/-- object.__class__ of an exception -/
theorem exc_cls_get {A : Around} {R : Result → Shared → Prop} {tp : Value} {s : Shared} (X : K.In s.heap) (p : ExcAt e C s.heap) (mo : PySem.W.mroIn K C (.type "object") = some true)
    (z : R (.ok (.ret (.ref C))) s) : codeAny (model prog w) A (.call (.builtin "getset_descriptor.__get__") ⟨[.builtin "object.__class__", .ref e, tp], []⟩) R s := by
  obtain ⟨h0, g0, d0, t0, o0⟩ := s
  have K0 := p.type (M := model prog w)
  have K1 := PySem.W.looks_mroIn (M := model prog w) X mo
  refine codeAny_call_builtin PySem.W.KF.slot_gs.plain PySem.W.KF.entry_gs ?_
  refine PySem.W.KF.slot_gs.check _ _ _ _ _ _ _ _ PySem.W.KF.type_class (PySem.W.KF.args_gs _ _ _) ?_
  unfold Builtin.«getset_descriptor.__get__»
  unfold descrGet
  rw [PySem.W.dga_obj]
  refine wpAny_bind ?_
  refine wpAny_pure ?_
  unfold descrGetter descrCheckInstance
  unfold descrNameAndClass isInstance
  simp only [PySem.W.KF.owner_class]
  repeat lk
  refine ⟨Code.quiet_builtin _ (by decide +kernel), ?_⟩
  refine codeAny_builtin PySem.W.KF.entry_class ?_
  unfold Builtin.«object.__class__»
  unfold shownTypeOf
  repeat lk
  exact z
theorem exc_check {A : Around} {M : Model} {E : Value → Shared → Prop} {nameV : Value} {Q : Unit → Shared → Prop} {s : Shared} (X : K.In s.heap) (p : ExcAt e C s.heap) (c : ExC K C) (z : Q () s) :
    wpAny M A (checkBuiltinCall "BaseException.__getattribute__" ⟨[.ref e, nameV], []⟩) Q E s := by
  obtain ⟨h0, g0, d0, t0, o0⟩ := s
  have k1 : builtinKind "BaseException.__getattribute__" = some .slot := by decide +kernel
  have k2 : splitId "BaseException.__getattribute__" = some ("BaseException", "__getattribute__") := by decide +kernel
  have k3 := PySem.F.args_bexc_ga (.ref e) nameV
  have KI : PySem.W.Looks M h0 (isInstance (.ref e) (.type "BaseException")) true := p.type.andThen (PySem.W.looks_mroIn X c.mb)
  simp only [checkBuiltinCall, k1, k2]
  refine wpAny_bind ?_
  repeat (first | with_reducible refine KI.at ?_ | wp_step)
  exact z
theorem exc_entry {A : Around} {E : Value → Shared → Prop} {tk : Tok} {Q : Fin → Shared → Prop} {s : Shared} (X : K.In s.heap) (p : ExcAt e C s.heap) (c : ExC K C) (z : Q (.done (.ret (.ref C))) s) :
    wpAny (model prog w) A (Builtin.«object.__getattribute__» ⟨[.ref e, .str "__class__" tk], []⟩) Q E s := by
  obtain ⟨h0, g0, d0, t0, o0⟩ := s
  have K0 := p.type (M := model prog w)
  have K3 := PySem.W.looks_findIn (M := model prog w) X c.ca
  have K4 := PySem.W.looks_specialIn (M := model prog w) X c.sg
  have K5 := PySem.W.looks_takesIn (M := model prog w) X c.tk
  have KF : PySem.W.Looks (model prog w) h0 (find (.ref e) (.ref C) "__class__") (.bind (.builtin "getset_descriptor.__get__") (.builtin "object.__class__")) :=
    K3.andThen (PySem.W.Looks.andThen (a := some (Value.builtin "getset_descriptor.__get__")) (show PySem.W.Looks (model prog w) h0 (getOf (some (.builtin "object.__class__"))) _ from K4)
      (PySem.W.Looks.andThen (a := some (Value.builtin "getset_descriptor.__get__", Value.builtin "object.__class__")) (show PySem.W.Looks (model prog w) h0 (dataDescriptor? (some (.builtin "object.__class__")) (some (.builtin "getset_descriptor.__get__"))) _ from K5.andThen .now) (PySem.W.Looks.tag .now)))
  repeat (first | with_reducible refine K0.at ?_ | with_reducible refine KF.at ?_ | wp_step)
  exact exc_cls_get (s := ⟨h0, g0, d0, t0, o0⟩) X p c.mo (wpAny_pure z)
theorem exc_cls {A : Around} {E : Value → Shared → Prop} {Q : Option Value → Shared → Prop} {s : Shared} (X : K.In s.heap) (p : ExcAt e C s.heap) (c : ExC K C) (z : Q (some (.ref C)) { s with toks := s.toks + 1 }) :
    wpAny (model prog w) A (getAttr? (.ref e) "__class__") Q E s := by
  obtain ⟨h0, g0, d0, t0, o0⟩ := s
  have K0 := p.type (M := model prog w)
  have K1 := PySem.W.looks_findIn (M := model prog w) X c.ga
  have K2 := PySem.W.looks_findIn (M := model prog w) X c.gn
  unfold getAttr? getAttrBy?
  unfold getAttrBy
  refine wpAny_bind (wpAny_mkText ?_)
  refine wpAny_bind (wpAny_attempt (wpAny_holding ?_))
  refine wpAny_bind (K0.at ?_)
  refine wpAny_bind (K1.at ?_)
  have n1 : (onTheHeap (Value.ref C) && Value.builtin "BaseException.__getattribute__" == Value.builtin "object.__getattribute__") = false := by
    rw [show (Value.builtin "BaseException.__getattribute__" == Value.builtin "object.__getattribute__") = false by decide +kernel, Bool.and_false]
  dsimp only
  rw [if_neg (by rw [n1]; exact Bool.false_ne_true)]
  unfold getAttrByItsOwn hookBefore
  refine wpAny_bind ?_
  rw [if_pos (show onTheHeap (Value.ref C) = true from rfl)]
  refine K2.at ?_
  refine wpAny_bind (wpAny_attempt (wpAny_holding ?_))
  unfold callGetattribute
  rw [if_neg (by rw [Bool.false_and]; exact Bool.false_ne_true)]
  unfold boundAndCalled
  rw [PySem.F.attrBase_ValueError.ga.bind (.ref e)]
  refine wpAny_bind (wpAny_pure ?_)
  refine wpAny_call ?_
  refine codeAny_call_builtin PySem.F.attrBase_ValueError.ga.plain PySem.F.entry_bexc_ga ?_
  refine exc_check (s := ⟨h0, g0, d0, t0 + 1, o0⟩) X p c ?_
  refine exc_entry (s := ⟨h0, g0, d0, t0 + 1, o0⟩) X p c ?_
  repeat (any_goals (first | exact z | wp_step))
theorem exc_kit (c : ExC K C) : PySem.W.KitX K (.ref e) (.ref C) (ExcAt e C) := by
  obtain ⟨cd, hcd⟩ := Option.isSome_iff_exists.mp c.cs
  have cls : ∃ c1 d1 e1 f1, K.lookup C = some ⟨c1, d1, .cls e1, f1⟩ := by
    unfold PySem.W.clsIn at hcd
    split at hcd
    · exact ⟨_, _, _, _, by assumption⟩
    · cases hcd
  obtain ⟨c1, d1, e1, f1, lk⟩ := cls
  refine ⟨fun _ _ _ p => p.type, fun M h X _ => ?_, fun h tp dd its n sl X htp => ?_, fun X p k => exc_cls X p c k⟩
  · intro A' Q' E' s' k q
    unfold isType
    unfold loadHead
    exact wpAny_bind (wpAny_loadPart (k _ _ (X _ _ lk)) (wpAny_pure q))
  · refine Bool.eq_false_iff.mpr fun q => ?_
    have e2 : C = tp := Value.ref.inj (beq_iff_eq.mp q)
    subst e2
    rw [X _ _ lk] at htp
    cases htp
end

/-- an exception that is known by its class -/
def exo (e C : Addr) : HO := .ext (ExcAt e C)
section
variable {X : Cx}
theorem isi_exc {pins : List (Addr × Obj)} {σ : St} {H : Hp} {s : Shared} {e C : Addr} {c : Value} {b : Bool} {Q : VK} (I : Inv X pins σ H s) (he : H e = some (exo e C)) (x : ExC X.K C) (k : PySem.W.kitOne X.K (.ref C) c = some b) (q : Q (.bl b) H) :
    wpAny (model X.prog X.w) X.A (call (.builtin "isinstance") [.ref e, c]) (EP X pins σ Q) X.xe s := by
  have p : ExcAt e C s.heap := (I.hok e _ he).1
  exact PySem.W.kia_one (exc_kit x) I.kIn p k (fun z => nomatch z) fun tk => ⟨.bl b, H, I.tok tk, rfl, q⟩
/-- isinstance(e, D), D an own class; isinstance(e, T), T a built-in one -/
theorem call_isiE : CallR X (.builtin "isinstance") (fun xs H Q => ∃ (e C : Addr) (d : V) (c : Value) (b : Bool), xs = [.ref e, d] ∧ H e = some (exo e C) ∧ ExC X.K C ∧ ((∃ D, d = .ref D ∧ c = .ref D) ∨ ∃ T, d = .ty T ∧ c = .type T) ∧ PySem.W.kitOne X.K (.ref C) c = some b ∧ Q (.bl b) H) := by
  intro pins s σ H xs us Q I r h
  obtain ⟨e, C, d, c, b, rfl, he, x, hc, k, q⟩ := h
  obtain ⟨u, v, rfl, ru, rv⟩ := r.two
  cases ru
  rcases hc with ⟨D, rfl, rfl⟩ | ⟨T, rfl, rfl⟩
  · cases rv; exact isi_exc I he x k q
  · cases rv; exact isi_exc I he x k q
theorem mt_countB : MtR X "list.count" (fun x xs H Q => ∃ (l : Addr) (bs : List Bool) (k : Bool), x = .ref l ∧ xs = [.bl k] ∧ SqL X.K H l (bs.map V.bl) ∧ Q (.int ((bs.countP (· == k) : Nat) : Int)) H) := by
  intro pins s σ H x xs v us Q I rx r h
  obtain ⟨l, bs, k, rfl, rfl, hl, q⟩ := h
  cases rx
  obtain ⟨u, rfl, ru⟩ := r.one
  cases ru
  obtain ⟨its, rv, pl, hz⟩ := I.list hl
  obtain ⟨⟨c0, d0, t0, s0⟩, ho, hc, n, hd⟩ := pl.isList
  simp only at hc hd
  subst hc hd
  have hb : ∀ {bs : List Bool} {us : List Value}, Vals (bs.map V.bl) us → us = bs.map Value.bool := by
    intro bs
    induction bs with
    | nil => intro us r; cases r; rfl
    | cons b bs ih =>
      intro us r
      cases r with
      | cons r1 r2 => cases r1; rw [List.map_cons, ih r2]
  have e := hb rv
  subst e
  refine call_meets PySem.F.slot_list_count ⟨_, ho, rfl⟩ PySem.F.entry_list_count (PySem.F.args_list_count_2 _ _) (PySem.SeqAt.list_countAt l _ n d0 s0 (.bool k) (fun y => match y with | .bool b => b == k | _ => false)) ⟨ho, fun y hy => ?_, ?_⟩
  · have hy' : y ∈ bs.map Value.bool := by simpa using hy
    obtain ⟨b, _, rfl⟩ := List.mem_map.mp hy'
    exact PySem.SeqAt.EqAt.bool_bool b k
  · have e2 : (bs.map Value.bool).countP (fun y => match y with | .bool b => b == k | _ => false) = bs.countP (· == k) := by
      rw [List.countP_map]
      rfl
    show EP X pins σ Q (.int (((bs.map Value.bool).countP (fun y => match y with | .bool b => b == k | _ => false) : Nat) : Int) s.toks) _
    rw [e2]
    exact ⟨.int _, H, I.tok _, ⟨_, rfl⟩, q⟩
end

/-! ### except C as e -/
theorem Room.mark {cm : Bool} {k : Nat} {A : Around} (r : Room cm k A) (v : Option Value) : Room false k (A.mark v) := ⟨(fun z => nomatch z), r.dp, r.un⟩
section
variable {X : Cx} {pins pins' : List (Addr × Obj)} {σ : St} {H H' : Hp} {s : Shared} {h h2 B : Heap} {ea C : Addr}
/-- an exception has landed, and is known -/
theorem Inv.landedX (I : Inv X pins σ H s) {s' : Shared} (os : s'.os = s.os) (bare : AllBare s'.gens) (u : Un (frs X.stack) [] H H' s.heap s'.heap) (ok : HOk X.prog X.w H' s'.heap)
    (oldB : ∀ b o, s.heap.get? b = some o → H b = none → b ∉ frs X.stack → B.get? b = some o) (thB : ∀ b o, s.heap.get? b = some o → b ∉ frs X.stack → ∃ o', B.get? b = some o')
    (trB : ∀ b u o, H' b = some u → s'.heap.get? b = some o → B.get? b = some o) (st : B.StaysIn h2) (up : s'.heap.UpToSlots h2) (n1 : H' ea = none) (n2 : s.heap.get? ea = none) (at2 : ExcAt ea C h2) :
    Inv X pins σ (upd H' ea (exo ea C)) { s' with heap := h2 } := by
  have sl : ∀ b o, s.heap.get? b = some o → H b = none → b ∈ frs X.stack → ∃ sl, h2.get? b = some { o with slots := sl } := fun b o e n hb => by
    obtain ⟨s2, e2⟩ := u.slot b o e n hb (by simp)
    obtain ⟨_, o', e', nf⟩ := I.stack.mem hb
    rw [e] at e'
    cases e'
    obtain ⟨s3, e3⟩ := up b _ e2 nf
    exact ⟨s3, e3⟩
  have ne1 : ∀ b o, s.heap.get? b = some o → b ≠ ea := fun b o e z => by rw [z, n2] at e; cases e
  have ne2 : ∀ b o, H b = some o → b ≠ ea := fun b o e => by
    obtain ⟨o', e'⟩ := I.hok.there e
    exact ne1 b o' e'
  have ne3 : ∀ b o, H' b = some o → b ≠ ea := fun b o e z => by rw [z, n1] at e; cases e
  have ok2 : HOk X.prog X.w H' h2 := ok.tracked fun b v o e q => st b o (trB b v o e q)
  have ok3 : HOk X.prog X.w (upd H' ea (exo ea C)) h2 := fun b o e => by
    by_cases hb : b = ea
    · subst hb
      rw [upd_same] at e
      cases e
      obtain ⟨ob, e1, e2⟩ := id at2
      exact ⟨at2, ⟨ob, e1⟩, fun a1 a2 p k => by obtain ⟨o1, q1, q2⟩ := p; exact ⟨o1, k o1 q1, q2⟩⟩
    · rw [upd_ne hb] at e
      exact (ok2 b o e).stay (fun c w _ q => q) (fun c q => by rw [upd_ne (ne3 c _ q)]; exact q) fun c xs q => by rw [upd_ne (ne3 c _ q)]; exact q
  refine I.call' (s' := { s' with heap := h2 }) (ch := []) os ⟨fun b o e n hb _ => st b o (oldB b o e n hb), fun b o e n hb _ => sl b o e n hb, fun b o e n hb => by rw [upd_ne (ne1 b o e)]; exact u.free b o e n hb, fun b o e _ => ?_, fun b xs e => by rw [upd_ne (ne2 b _ e)]; exact u.tups b xs e,
    fun b o v e => by rw [upd_ne (ne2 b _ e)]; exact u.frzs b o v e, fun b ps e => by rw [upd_ne (ne2 b _ e)]; exact u.tbls b ps e⟩ ok3 bare (fun b z => nomatch z)
  by_cases hb : b ∈ frs X.stack
  · obtain ⟨s1, e1⟩ := sl b o e (I.stkFree b hb) hb
    exact ⟨_, e1⟩
  · obtain ⟨o', e'⟩ := thB b o e hb
    exact ⟨o', st b o' e'⟩
/-- a name goes behind a handler -/
theorem gone_ok {M : Model} {A : Around} {E : Value → Shared → Prop} {i : Nat} {x : Str} {pos : Pos} {Q : Unit → Shared → Prop} (I : Inv X pins σ H s) (hN : X.N.Nodup) (hi : X.N[i]? = some x) (hk : X.env.kindOf x = some .local)
    (h : ∀ s', Inv X pins (σ.set i none) H s' → Q () s') : wpAny M A (do bindName X.env x .none; unbindBehindTheSuite X.env x pos) Q E s := by
  obtain ⟨m, hn, hl⟩ := id I.loc
  have hcls : (X.env.scope.kind == .class || (X.env.scope.kind == .module && X.env.locals != X.env.globals)) = false := by rw [I.ok.kind]; rfl
  refine wpAny_nameGoes_keeps hk hn hcls fun h' v hn' hs => ?_
  have cne := I.cne
  have lne : ∀ b o, X.s₀.heap.get? b = some o → b ≠ X.env.locals := fun b o e => Nat.ne_of_lt (Nat.lt_of_lt_of_le (Heap.lt_size e) I.ok.above)
  have tne : ∀ b o, H b = some o → b ≠ X.env.locals := fun b o e z => by rw [z, I.free] at e; cases e
  refine h _ ⟨I.ok, I.os, I.bare, ⟨fun b o e n hb hx => (hs.2 b (lne b o e)).trans (I.base.keep b o e n hb hx), fun b o e n hb hx => ?_, I.base.free, fun b o e hx => ?_, I.base.tups, I.base.frzs, I.base.tbls⟩,
    ⟨_, hn', fun j y v' e1 e2 e3 => ?_⟩, fun y c e => ?_, I.free, I.freeC, fun p hp => ?_, fun b ob e => ?_, by simpa using I.len⟩
  · obtain ⟨sl, e1⟩ := I.base.slot b o e n hb hx
    exact ⟨sl, (hs.2 b (lne b o e)).trans e1⟩
  · obtain ⟨o', e1⟩ := I.base.there b o e hx
    exact ⟨o', (hs.2 b (lne b o e)).trans e1⟩
  · by_cases hj : j = i
    · subst hj
      have hiσ : j < σ.length := by rw [I.len]; exact (List.getElem?_eq_some_iff.mp hi).1
      rw [List.getElem?_set_self hiσ] at e2
      cases e2
    · rw [List.getElem?_set_ne (Ne.symm hj)] at e2
      obtain ⟨u', r', q⟩ := hl j y v' e1 e2 e3
      refine ⟨u', r', ?_⟩
      rcases q with ⟨k, e⟩ | ⟨k, c, e, z⟩
      · have ny : y ≠ x := fun e => hj (nodup_ix hN e1 (e ▸ hi))
        exact .inl ⟨k, by show (if y = x then v else m y) = some u'; rw [if_neg ny]; exact e⟩
      · exact .inr ⟨k, c, e, z.sameBut hs (cne y c e)⟩
  · obtain ⟨w', z⟩ := I.cell y c e
    exact ⟨w', z.sameBut hs (cne y c e)⟩
  · obtain ⟨e, n, ne, nf, d⟩ := I.pin p hp
    exact ⟨(hs.2 p.1 ne).trans e, n, ne, nf, d⟩
  · refine (I.hok b ob e).stay (fun c w' hc q => (hs.2 c ?_).trans q) (fun _ q => q) fun _ _ q => q
    rcases hc with rfl | hc
    · exact tne _ _ e
    · exact tne _ _ hc
end

/-- try: body; except C as e: suite. The exception stands at a new address, its class is known; the name is gone behind the suite -/
def tTryAs (K : PySem.W.Frag) (Cc : Addr) (i : Nat) (tb : (St → XK) → TS) (th : Value → TS) : TS := fun D σ H =>
  tb (fun σ' cls _ H' => ∃ C, cls = .ref C ∧ PySem.W.mroIn K C (.ref Cc) = some true ∧ ∀ e, H' e = none → th (.ref e) { nx := fun σ2 H2 => D.nx (σ2.set i none) H2, rt := fun σ2 => D.rt (σ2.set i none), bk := fun σ2 H2 => D.bk (σ2.set i none) H2, ct := fun σ2 H2 => D.ct (σ2.set i none) H2 }
    (σ'.set i (some (.ref e))) (upd H' e (exo e C))) D σ H
theorem ps_tryAs {X : Cx} {i : Nat} {x n : Str} {Cc : Addr} {np hpos pos : Pos} {body suite : List Stmt} {b0 : Stmt} {tb : (St → XK) → TS} {th : Value → TS} (hg : Gl X x) (hm : X.mg x = some (.ref Cc)) (ct : Catch X.K Cc) (hN : X.N.Nodup) (hi : X.N[i]? = some n) (hk : X.env.kindOf n = some .local) (hl : X.env.scope.names.lookup n = some .local)
    (hb : ∀ (pins : List (Addr × Obj)) (Eb : Value → Shared → Prop) (E : St → XK), (∀ σ, PassesAt (CXe X.prog X.w) (X.tryx pins Eb) σ (E σ)) → PSs (X.tryx pins Eb) body (tb E))
    (hh : ∀ e : Value, PSs (X.hnd e) (b0 :: suite) (th e)) (hst : X.stack = X.env :: X.outer := by rfl) (hf : X.env.frame = some X.env.locals := by rfl) (hd : (x == ("__debug__" : Str)) = false := by decide) :
    PS X (.Try body [.ExceptHandler (some (.Name x np)) (some n) (b0 :: suite) hpos] [] [] pos) (tTryAs X.K Cc i tb th) := by
  intro pins s σ H D I h
  refine wpAny_Try_except ?_
  have pass : ∀ σ', PassesAt (CXe X.prog X.w) (X.tryx pins fun e s₁ => wpAny (model X.prog X.w) X.A (noteFrame e X.env) (fun _ s₂ => wpAny (model X.prog X.w) X.A (setFlight e none) (fun _ s₃ =>
      wpAny (model X.prog X.w) X.A (handleBy e X.env [.ExceptHandler (some (.Name x np)) (some n) (b0 :: suite) hpos]) (SP X pins D) X.xe s₃) X.xe s₂) X.xe s₁) σ' (fun cls _ H' => ∃ C, cls = .ref C ∧ PySem.W.mroIn X.K C (.ref Cc) = some true ∧
        ∀ e, H' e = none → th (.ref e) { nx := fun σ2 H2 => D.nx (σ2.set i none) H2, rt := fun σ2 => D.rt (σ2.set i none), bk := fun σ2 H2 => D.bk (σ2.set i none) H2, ct := fun σ2 H2 => D.ct (σ2.set i none) H2 } (σ'.set i (some (.ref e))) (upd H' e (exo e C))) := by
    intro σ' pins' H1 s1 ev s2 I1 c
    obtain ⟨ea, t, C, H', B, rfl, os, bare, u, ok, fl, oldB, thB, trB, n1, n2, C', eC, ms, q⟩ := c
    cases eC
    have J1 : Inv X pins σ' H1 s1 := I1.untryx I.ok
    have hfr : X.A.frames = some (X.env :: X.outer) := by rw [← hst]; exact I.ok.frames
    have fl' : Heap.FlyingW B (X.env :: X.outer) ea (.ref C) (.ref t) s2.heap := by rw [← hst]; exact fl
    refine wpAny_looks_onW (s := s2) hfr hf fl' fun h4 held up4 => ?_
    refine wpAny_landsW (s := { s2 with heap := h4 }) held fun h5 fl5 up5 => ?_
    have J5 : Inv X pins σ' H' { s2 with heap := h5 } := J1.landed os bare u ok oldB thB trB fl5.1 (up4.trans up5)
    obtain ⟨ob, hob, hobc⟩ := fl5.there
    refine wpAny_handleBy_cons (codeAny_handlers_test (ld_glob (X := X.hnd (.ref ea)) (J5.hnd (.ref ea)) hg hm ?_ hd)) (by intro z; cases z)
    refine excMatches_in J5.kIn hob hobc ct ms (codeAny_handlers_suite_as ?_)
    refine lands_againW (s := { s2 with heap := h5 }) fl5 fun h6 fl6 up6 => ?_
    have J6 : Inv X pins σ' (upd H' ea (exo ea C)) { s2 with heap := h6 } := J1.landedX os bare u ok oldB thB trB fl6.1 ((up4.trans up5).trans up6) n1 n2 (by obtain ⟨o6, a6, b6⟩ := fl6.there; exact ⟨o6, a6, b6⟩)
    refine store_ok (X := X.hnd (.ref ea)) (J6.hnd (.ref ea)) hN hi (.inl hl) (show RelV (.ref ea) (.ref ea) from rfl) (fun s7 I7 => ?_) (.inr hl)
    refine wpAny_mono (hh (.ref ea) pins s7 _ _ _ I7 (q ea n1)) (fun f s8 z => ?_) fun _ _ z => z.elim
    cases f with
    | next => obtain ⟨σ8, H8, I8, q8⟩ := z; exact gone_ok (I8.unhnd I.ok) hN hi hk fun s9 I9 => ⟨_, H8, I9, q8⟩
    | brk => obtain ⟨σ8, H8, I8, q8⟩ := z; exact gone_ok (I8.unhnd I.ok) hN hi hk fun s9 I9 => ⟨_, H8, I9, q8⟩
    | cont => obtain ⟨σ8, H8, I8, q8⟩ := z; exact gone_ok (I8.unhnd I.ok) hN hi hk fun s9 I9 => ⟨_, H8, I9, q8⟩
    | ret v => obtain ⟨v8, σ8, H8, I8, r8, q8⟩ := z; exact gone_ok (I8.unhnd I.ok) hN hi hk fun s9 I9 => ⟨v8, _, H8, I9, r8, q8⟩
  refine wpAny_mono (hb pins _ _ pass [] s σ H D (I.tryx _) h) (fun f s7 z => ?_) fun _ _ z => z
  cases f with
  | next => obtain ⟨σ7, H7, I7, q7⟩ := z; exact wpAny_execs_nil ⟨σ7, H7, I7.untryx I.ok, q7⟩
  | brk => obtain ⟨σ7, H7, I7, q7⟩ := z; exact ⟨σ7, H7, I7.untryx I.ok, q7⟩
  | cont => obtain ⟨σ7, H7, I7, q7⟩ := z; exact ⟨σ7, H7, I7.untryx I.ok, q7⟩
  | ret v => obtain ⟨v7, σ7, H7, I7, r7, q7⟩ := z; exact ⟨v7, σ7, H7, I7.untryx I.ok, r7, q7⟩
end L2

/-! the rules that lean on the text, by its own name (within a comprehension, a try, a handler) -/
namespace L2
open PySem PySem.Spec PyProof.Rows
theorem exc_cs {K : PySem.W.Frag} {C : Addr} {v : Value} (h : PySem.W.mroIn K C v = some true) : (PySem.W.clsIn K C).isSome = true := by
  obtain ⟨cd, a, _⟩ := Option.bind_eq_some_iff.mp h
  rw [a]
  rfl
section
variable {X : Cx} {K : PySem.W.Frag} (hK : X.K = K)
include hK
theorem ix_tupK : IxR X (rIxT K) := by subst hK; exact ix_tup
theorem ix_listK : IxR X (rIxL K) := by subst hK; exact ix_list
theorem op_in_seqK : OpR X (compareOp .In) (rIn K false) := by subst hK; exact op_in_seq
theorem op_notIn_seqK : OpR X (compareOp .NotIn) (rIn K true) := by subst hK; exact op_notIn_seq
theorem call_len_seqK : CallR X (.builtin "len") (fun xs H Q => ∃ p ys, xs = [.ref p] ∧ (SqL K H p ys ∨ SqT K H p ys) ∧ Q (.int ys.length) H) := by subst hK; exact call_len_seq
theorem call_list_ofK : CallR X (.type "list") (fun xs H Q => ∃ p ys, xs = [.ref p] ∧ (SqL K H p ys ∨ SqT K H p ys) ∧ ∀ l, H l = none → Q (.ref l) (upd H l (.lst ys))) := by subst hK; exact call_list_of
theorem call_tuple_ofK : CallR X (.type "tuple") (fun xs H Q => ∃ p ys, xs = [.ref p] ∧ ((SqL K H p ys ∧ ∀ l, H l = none → Q (.ref l) (upd H l (.tup ys))) ∨ (SqT K H p ys ∧ Q (.ref p) H))) := by subst hK; exact call_tuple_of
theorem call_isiEK : CallR X (.builtin "isinstance") (fun xs H Q => ∃ (e C : Addr) (d : V) (c : Value) (b : Bool), xs = [.ref e, d] ∧ H e = some (exo e C) ∧ ExC K C ∧ ((∃ D, d = .ref D ∧ c = .ref D) ∨ ∃ T, d = .ty T ∧ c = .type T) ∧ PySem.W.kitOne K (.ref C) c = some b ∧ Q (.bl b) H) := by
  subst hK; exact call_isiE
theorem mt_countBK : MtR X "list.count" (fun x xs H Q => ∃ (l : Addr) (bs : List Bool) (k : Bool), x = .ref l ∧ xs = [.bl k] ∧ SqL K H l (bs.map V.bl) ∧ Q (.int ((bs.countP (· == k) : Nat) : Int)) H) := by subst hK; exact mt_countB
theorem pi_listK {tg l : Expr} {tl : TE} (hl : PE X l tl) : PI X tg l (iList K tl) := by subst hK; exact pi_list hl
theorem pi_tupK {tg l : Expr} {tl : TE} (hl : PE X l tl) : PI X tg l (iTup K tl) := by subst hK; exact pi_tup hl
end
end L2

set_option maxHeartbeats 1000000
namespace L2
open PySem PySem.W PyProof.Rows
/-! the sort of the model, its questions answered by keys of an order: what comes out is a rearrangement that rises -/
section
variable {O : KeyOrd} {key : Nat → O.α} {n : Nat} {cmp : Nat → Nat → (Bool → Shared → Prop) → Shared → Prop} {s : Shared}
def ka {O : KeyOrd} (key : Nat → O.α) (p : Array Nat) (i : Nat) : O.α := key (p.getD i 0)
def Up {O : KeyOrd} (key : Nat → O.α) (p : Array Nat) (k : Nat) : Prop := ∀ i j, i ≤ j → j < k → O.kle (ka key p i) (ka key p j)
def Down {O : KeyOrd} (key : Nat → O.α) (p : Array Nat) (k : Nat) : Prop := ∀ i j, i ≤ j → j < k → O.kle (ka key p j) (ka key p i)
def Rg (n : Nat) (p : Array Nat) : Prop := p.Perm (List.toArray (List.range n))
theorem Rg.size {p : Array Nat} (h : Rg n p) : p.size = n := by rw [Array.Perm.size_eq h]; simp
theorem Rg.at {p : Array Nat} (h : Rg n p) {i : Nat} (hi : i < n) : p.getD i 0 < n := by
  have hz := h.size
  have e : p.getD i 0 = p[i]'(by omega) := by simp [Array.getD, show i < p.size by omega]
  have hm : p[i]'(by omega) ∈ p.toList := by simp
  have := (Array.perm_iff_toList_perm.mp h).mem_iff.mp hm
  simp at this
  omega
theorem Rg.rev {p : Array Nat} (h : Rg n p) (i j : Nat) : Rg n (kas_rev p i j) := (mirror_perm p i j _).trans h
theorem Up.more {p : Array Nat} {k : Nat} (h : Up key p k) (hk : O.blt (ka key p k) (ka key p (k - 1)) = false) : Up key p (k + 1) := by
  intro i j hij hj
  by_cases hjk : j < k
  · exact h i j hij hjk
  · obtain rfl : j = k := by omega
    by_cases hi : i = j
    · rw [hi]; exact KeyOrd.kle_refl _
    · exact KeyOrd.kle_trans (h i (j - 1) (by omega) (by omega)) hk
theorem Down.more {p q : Array Nat} {k : Nat} (h : Down key p k) (e : ∀ i, ka key q i = ka key p i) (hk : O.kle (ka key p k) (ka key p (k - 1))) : Down key q (k + 1) := by
  intro i j hij hj
  rw [e, e]
  by_cases hjk : j < k
  · exact h i j hij hjk
  · obtain rfl : j = k := by omega
    by_cases hi : i = j
    · rw [hi]; exact KeyOrd.kle_refl _
    · exact KeyOrd.kle_trans hk (h i (j - 1) (by omega) (by omega))
def Eqs {O : KeyOrd} (key : Nat → O.α) (p : Array Nat) (m q : Nat) : Prop := q + 1 ≤ m ∧ ∀ i, m - (q + 1) ≤ i → i < m → ka key p i = ka key p (m - 1)
theorem Eqs.zero {p : Array Nat} {m : Nat} (h : 1 ≤ m) : Eqs key p m 0 := ⟨by omega, fun i h1 h2 => by rw [show i = m - 1 by omega]⟩
end
/-! rows: lists of tuples of two ints -/
abbrev RA := Addr × (Int × Int)
def refs (rs : List RA) : List V := rs.map fun x => V.ref x.1
def RowOk (H : Hp) (rs : List RA) : Prop := ∀ x ∈ rs, H x.1 = some (.tup [.int x.2.1, .int x.2.2])
def TupsH (h : Heap) (rs : List RA) : Prop := ∀ x ∈ rs, ∃ (o : Obj) (t u : Tok) (k : Nat), h.get? x.1 = some o ∧ o.cls = .type "tuple" ∧ o.data = .seq #[.int x.2.1 t, .int x.2.2 u] k
theorem Inv.pair {X : Cx} {pins : List (Addr × Obj)} {σ : St} {H : Hp} {s : Shared} (I : Inv X pins σ H s) {a : Addr} {i j : Int} (h : H a = some (.tup [.int i, .int j])) :
    ∃ (o : Obj) (t u : Tok) (k : Nat), s.heap.get? a = some o ∧ o.cls = .type "tuple" ∧ o.data = .seq #[.int i t, .int j u] k := by
  obtain ⟨its, r, ⟨o, ho, hc, k, hd⟩, _⟩ := I.tuple (SqT.of h)
  cases r with
  | cons r1 r =>
    cases r with
    | cons r2 r =>
      cases r
      obtain ⟨t, rfl⟩ := r1
      obtain ⟨u, rfl⟩ := r2
      exact ⟨o, t, u, k, ho, hc, hd⟩
theorem Inv.tups {X : Cx} {pins : List (Addr × Obj)} {σ : St} {H : Hp} {s : Shared} (I : Inv X pins σ H s) {rs : List RA} (h : RowOk H rs) : TupsH s.heap rs := fun x hx => I.pair (h x hx)
section
variable {prog : Program} {w : World} {A : Around} {E : Value → Shared → Prop} {s : Shared} {rs : List RA}
end
end L2

namespace L2
open PySem PySem.Spec PyProof.Rows PySem.SeqAt
/-! rows compared, turned about; lists that are empty or not -/
def sps (rs : List RA) : List (Int × Int) := rs.map (·.2)
theorem refs_get {rs : List RA} {i : Nat} {x : V} (h : (refs rs)[i]? = some x) : ∃ y, rs[i]? = some y ∧ y ∈ rs ∧ x = .ref y.1 := by
  unfold refs at h
  rw [List.getElem?_map] at h
  obtain ⟨y, e, rfl⟩ := Option.map_eq_some_iff.mp h
  exact ⟨y, e, List.mem_of_getElem? e, rfl⟩
theorem RowOk.up {H H' : Hp} {rs : List RA} (h : RowOk H rs) (s : Same H H') : RowOk H' rs := fun x hx => s _ _ (h x hx)
theorem RowOk.upd {H : Hp} {rs : List RA} {l : Addr} {xs : List V} {o : HO} (h : RowOk H rs) (hl : H l = some (.lst xs)) : RowOk (upd H l o) rs := fun x hx => by
  rw [upd_ne (fun e => by have := h x hx; rw [e, hl] at this; cases this)]
  exact h x hx
theorem RowOk.nil {H : Hp} : RowOk H [] := fun _ h => nomatch h
theorem RowOk.app {H : Hp} {rs : List RA} {a : Addr} {b e : Int} (h : RowOk H rs) (ha : H a = some (.tup [.int b, .int e])) : RowOk H (rs ++ [(a, b, e)]) := fun x hx => by
  rcases List.mem_append.mp hx with hx | hx
  · exact h x hx
  · rw [List.mem_singleton] at hx
    subst hx
    exact ha
theorem RowOk.init {H : Hp} {rs : List RA} {y : RA} (h : RowOk H (rs ++ [y])) : RowOk H rs := fun x hx => h x (List.mem_append_left _ hx)
theorem refs_app (rs : List RA) (a : Addr) (b e : Int) : refs rs ++ [.ref a] = refs (rs ++ [(a, b, e)]) := by unfold refs; rw [List.map_append]; rfl
theorem refs_len (rs : List RA) : (refs rs).length = rs.length := List.length_map ..
theorem sps_len (rs : List RA) : (sps rs).length = rs.length := List.length_map ..
section
variable {X : Cx}
theorem RowOk.same {H : Hp} {rs qs : List RA} (h : RowOk H rs) (h' : RowOk H qs) : ∀ x ∈ rs, ∀ y ∈ qs, x.1 = y.1 → x.2 = y.2 := by
  intro x hx y hy e
  have a := h x hx
  have b := h' y hy
  rw [e, b] at a
  injection a with a
  injection a with a
  injection a with a1 a
  injection a with a2 _
  injection a1 with a1
  injection a2 with a2
  exact Prod.ext a1.symm a2.symm
theorem Vals.rev : ∀ {xs : List V} {us : List Value}, Vals xs us → Vals xs.reverse us.reverse
  | [], [], .nil => .nil
  | x :: xs, u :: us, .cons r1 r2 => by
    rw [List.reverse_cons, List.reverse_cons]
    exact (Vals.rev r2).append (.cons r1 .nil)
end
end L2

namespace L2
open PySem PySem.Spec PyProof.Rows PySem.SeqAt
def RowAt (H : Hp) (l : Addr) (rs : List RA) : Prop := H l = some (.lst (refs rs)) ∧ RowOk H rs
theorem RowAt.up {H H' : Hp} {l : Addr} {rs : List RA} (h : RowAt H l rs) (s : Same H H') : RowAt H' l rs := ⟨s _ _ h.1, h.2.up s⟩
/-- all but what stands at F is as it was -/
def SameX (F : Addr) (H H' : Hp) : Prop := ∀ b o, b ≠ F → H b = some o → H' b = some o
theorem SameX.refl (F : Addr) (H : Hp) : SameX F H H := fun _ _ _ e => e
theorem SameX.same {F : Addr} {H H2 H' : Hp} (s : Same H H2) (x : SameX F H2 H') (hF : H F = none) : Same H H' := fun b o e => x b o (ne_of_none e hF) (s b o e)
theorem SameX.put {F t : Addr} {H H' : Hp} {o : HO} {xs : List V} (x : SameX F H H') (ht : H' t = none) : SameX F H (upd (upd H' t o) F (.lst xs)) := fun b u hb e => by
  rw [upd_ne hb]
  exact same_upd ht _ _ (x b u hb e)
theorem RowAt.upX {F l : Addr} {H H' : Hp} {rs : List RA} {xs : List V} (h : RowAt H l rs) (hl : l ≠ F) (hF : H F = some (.lst xs)) (x : SameX F H H') : RowAt H' l rs :=
  ⟨x _ _ hl h.1, fun y hy => x _ _ (fun e => by have := h.2 y hy; rw [e, hF] at this; cases this) (h.2 y hy)⟩
theorem RowAt.put {H : Hp} {F t : Addr} {fs : List RA} {b e : Int} (h : RowAt H F fs) (ht : H t = none) : RowAt (upd (upd H t (.tup [.int b, .int e])) F (.lst (refs fs ++ [.ref t]))) F (fs ++ [(t, b, e)]) := by
  have htF : t ≠ F := fun z => by rw [z, h.1] at ht; cases ht
  have hF2 : upd H t (.tup [.int b, .int e]) F = some (.lst (refs fs)) := by rw [upd_ne (fun z => htF z.symm)]; exact h.1
  exact ⟨by rw [upd_same, refs_app _ _ b e], RowOk.app ((h.2.up (same_upd ht)).upd hF2) (by rw [upd_ne htF]; exact upd_same)⟩
theorem RowAt.at2 {H : Hp} {F t : Addr} {fs : List RA} {o : HO} (h : RowAt H F fs) (ht : H t = none) : upd H t o F = some (.lst (refs fs)) := by
  rw [upd_ne (fun z => by rw [← z, h.1] at ht; cases ht)]
  exact h.1
section
variable {X : Cx}
end
end L2

/-! ### split, join -/
namespace L2
open PySem PySem.Spec PySem.Calls PyProof.Rows Builtin Builtin.Str
section
variable {X : Cx}
end
end L2

namespace L2
open PySem PySem.Spec PySem.Calls PyProof.Rows
section
variable {X : Cx} {m : Str} {apos pos : Pos} {o e : Expr} {es : List Expr} {ta : TE} {t : TA}
/-- one class's answer to a call of m -/
structure Ans (X : Cx) (m : Str) (n : Nat) (C : Addr) (R : V → List V → Hp → VK → Prop) : Prop where
  cls : Cls X.K C
  run : ∃ (f : Addr) (fd : FuncData) (ps : List Str) (ds : List Value) (dvs : List V) (CX : CXT) (cm : Bool) (k : Nat) (sp : Sp) (E : XK), Meth X.K C m f ∧ FnOk X.prog X.w X.K X.mg X.base CX cm k f fd ps sp ∧ Room cm k X.A ∧ Binds X.K fd ps ds ∧ Vals dvs ds ∧ Passes CX X E ∧
    ∀ x vs H Q, vs.length = n → R x vs H Q → sp (x :: (vs ++ dvs)) H Q E
/-- o.m(..), the class known by what stands there -/
def tMethV (m : Str) (n : Nat) (D : Addr → (V → List V → Hp → VK → Prop) → Prop) (ta : TE) (t : TA) : TE := fun σ H Q => ta σ H fun x H1 => ∃ a C dx fs R, x = .ref a ∧ H1 a = some (.ins C dx fs) ∧ fs.lookup m = none ∧ D C R ∧
  t σ H1 fun vs H2 => vs.length = n ∧ R x vs H2 Q
theorem pe_methV {pl : Sem Bool} {n : Nat} {D : Addr → (V → List V → Hp → VK → Prop) → Prop} (he : PE X o ta) (hD : ∀ C R, D C R → Ans X m n C R) (ha : PA X (e :: es) t)
    (hst : starEach (e :: es) X.env = (false, eval e X.env) :: starEach es X.env := by rfl) (hpl : (backTo pos (starEach es X.env)).any (·.1) = false := by rfl)
    (ht : eval (.Call (.Attribute o m apos) (e :: es) [] pos) X.env = (do
      let ov ← eval o X.env
      standAt apos.atName
      let (f, first) ← holding [ov] (getMethod ov m pl)
      callWith pos f first (backTo pos (starEach (e :: es) X.env)) (backToKw pos (keywordEach [] X.env))) := by rfl) :
    PE X (.Call (.Attribute o m apos) (e :: es) [] pos) (tMethV m n D ta t) := by
  intro pins s σ H Q I h
  refine PySem.W.methodCall_KW (pl := pl) (thn (he pins s σ H _ I h) fun u s1 ⟨x, H1, I1, rx, a, C, dx, fs, R, ex, ea, l, d, q⟩ => ?_) ht
  subst ex
  obtain rfl : u = Value.ref a := rx
  obtain ⟨c, f, fd, ps, ds, dvs, CX, cm, k, sp, E, hm, F, hr, hb, hd, hx, hR⟩ := hD C R d
  refine getmeth_ok I1 ea c hm l ?_
  refine PySem.W.callWith_K (first := [.ref a]) (h₀ := X.base) I.ok.mod.kin hm.kp (thn (ha pos pins s1 σ H1 _ I1 q) fun us s2 ⟨vs, H2, I2, r, hn, q2⟩ => ⟨I2.kIn, ?_⟩) hst hpl
  exact run_fn (us := .ref a :: us) (vs := .ref a :: vs) F hr hb hd hx I2 (.cons rfl r) (hR _ _ _ _ hn q2)
end
section
variable {X : Cx} {K : PySem.W.Frag} {o e value : Expr} {f : Str} {pos pos' : Pos} {ta tv : TE} (hK : X.K = K)
include hK
theorem pe_fldK (he : PE X e ta) (hb : attributeBase e f X.env (eval e X.env) = eval e X.env := by rfl) : PE X (.Attribute e f pos) (tFld K ta f) := by subst hK; exact pe_fld he hb
theorem ps_fldK (ha : PE X o ta) (hv : PE X value tv) (hs : swapsWith value (some (.Attribute o f pos')) pos.line X.env = pure false := by rfl) : PS X (.Assign [.Attribute o f pos'] value pos) (sFld K ta tv f) := by subst hK; exact ps_fld ha hv hs
end
end L2
namespace L2
open PySem PySem.Spec PySem.Calls PyProof.Rows
section
variable {X : Cx} {CX : CXT} {cm : Bool} {k : Nat} {f C : Addr} {fd : FuncData} {ps : List Str} {sp : Sp} {dvs : List V} {ds : List Value} {E : XK} {x m : Str} {p pos apos : Pos} {e : Expr} {es : List Expr} {t : TA}
/-- a def of a class, read of the class itself -/
structure ClsFn (K : PySem.W.Frag) (C : Addr) (m : Str) (f : Addr) : Prop where
  ga : PySem.W.specialIn K (.ref C) "__getattribute__" = some (some (.builtin "type.__getattribute__"))
  rd : PySem.W.readsIn K C (.type "type") = true
  at_ : PySem.W.findCls K (.ref C) (.type "type") m = some (.val (.ref f))
  hi : PySem.W.handedIn (.ref f) = true
  kp : PySem.W.keepIn K (.ref f) = true
/-- C.m(e, ..) -/
theorem pe_clsfn {pl : Sem Bool} (c : ClsFn X.K C m f) (F : FnOk X.prog X.w X.K X.mg X.base CX cm k f fd ps sp) (hr : Room cm k X.A) (hg : Gl X x) (hm : X.mg x = some (.ref C)) (hb : Binds X.K fd ps ds) (hd : Vals dvs ds) (hx : Passes CX X E)
    (ha : PA X (e :: es) t) (hdb : (x == ("__debug__" : Str)) = false := by decide) (he : starEach (e :: es) X.env = (false, eval e X.env) :: starEach es X.env := by rfl) (hpl : (backTo pos (starEach es X.env)).any (·.1) = false := by rfl)
    (ht : eval (.Call (.Attribute (.Name x p) m apos) (e :: es) [] pos) X.env = (do
      let ov ← eval (.Name x p) X.env
      standAt apos.atName
      let (f, first) ← holding [ov] (getMethod ov m pl)
      callWith pos f first (backTo pos (starEach (e :: es) X.env)) (backToKw pos (keywordEach [] X.env))) := by rfl) :
    PE X (.Call (.Attribute (.Name x p) m apos) (e :: es) [] pos) (tCall sp dvs E t) := by
  intro pins s σ H Q I h
  refine PySem.W.methodCall_KW (pl := pl) (ld_glob I hg hm ?_ hdb) ht
  refine PySem.W.method_cls I.kIn c.ga ?_
  refine PySem.W.cls_value I.kIn c.rd c.at_ c.hi ?_
  refine PySem.W.callWith_K (first := []) (h₀ := X.base) I.ok.mod.kin c.kp (thn (ha pos pins _ σ H _ (I.tok _) h) fun us s1 ⟨vs, H1, I1, r, q⟩ => ⟨I1.kIn, ?_⟩) he hpl
  exact run_fn F hr hb hd hx I1 r q
end
end L2

namespace L2
open PySem PySem.Spec PyProof.Rows
theorem pg_tupK {X : Cx} {K : PySem.W.Frag} {es : List Expr} {k : Nat} {t : TGs} {n : Nat} {pos : Pos} (hK : X.K = K) (hc : X.calm = true) (h : PGs X es t)
    (hn : (assignEach es X.env).length = n := by rfl) (hst : (assignEach es X.env).findIdx? (·.1) = none := by rfl) : PG X (.Tuple es k pos) (gTup K n t) := by subst hK; exact pg_tup hc h hn hst
/-- a comprehension over pairs of ints, two names its target -/
theorem comp_pair {K : PySem.W.Frag} {J : It} {cap : List (Option Nat)} {tt : TT} {te : TE} {σ : St} {H1 : Hp} {Q : VK} {rs : List RA} (hJ : Seq J H1 (refs rs)) (ok : RowOk H1 rs) (p : Int × Int → Bool) (f : Int × Int → V) (hsz : rs.length ≤ 100000)
    (hp : ∀ y ∈ rs, ∀ H', Same H1 H' → ∀ R : Bool → Hp → Prop, (∀ H'', Same H' H'' → R (p y.2) H'') → tt (((capt cap σ).set 0 (some (.int y.2.1))).set 1 (some (.int y.2.2))) H' R)
    (he : ∀ y ∈ rs, p y.2 = true → ∀ H', Same H1 H' → ∀ R : VK, (∀ H'', Same H' H'' → R (f y.2) H'') → te (((capt cap σ).set 0 (some (.int y.2.1))).set 1 (some (.int y.2.2))) H' R)
    (k : ∀ D H', Same H1 H' → H1 D = none → H' D = some (.lst (((sps rs).filter p).map f)) → Q (.ref D) H') :
    compBody J H1 cap (gTup K 2 (gCons (gName 0) (gCons (gName 1) gNil))) tt te σ Q := by
  intro D hD
  refine ⟨fun i m ys σ' H' => m = rs.length - i ∧ i ≤ rs.length ∧ (∀ v w, (σ'.set 0 v).set 1 w = ((capt cap σ).set 0 v).set 1 w) ∧ H' D = some (.lst ys) ∧ Same H1 H' ∧ ys = (((sps rs).take i).filter p).map f,
    ⟨rs.length, by simp, Nat.zero_le _, fun _ _ => rfl, upd_same, same_upd hD, by simp⟩, ?_⟩
  rintro i m ys σ' H' ⟨rfl, hi, hσ, hl, sm, hys⟩
  refine ⟨hl, ?_⟩
  obtain ⟨q1, q2⟩ := hJ H' sm
  by_cases hlt : i < rs.length
  · have e : (refs rs)[i]? = some (.ref (rs[i]).1) := by unfold refs; simp [hlt]
    have es : (sps rs)[i]? = some (rs[i]).2 := by unfold sps; simp [hlt]
    obtain ⟨go, y⟩ := q1 i _ e
    refine .inr ⟨go, fun x H2 hy => ?_⟩
    obtain ⟨rfl, rfl⟩ := y x H2 hy
    have hm : rs[i] ∈ rs := List.getElem_mem hlt
    have etake : (sps rs).take (i + 1) = (sps rs).take i ++ [(rs[i]).2] := by rw [List.take_add_one, es]; rfl
    refine ⟨(rs[i]).1, _, rfl, SqT.of (sm _ _ (ok _ hm)), rfl, _, _, rfl, _, _, rfl, rfl, ?_⟩
    show tt ((σ'.set 0 (some (.int (rs[i]).2.1))).set 1 (some (.int (rs[i]).2.2))) _ _
    rw [hσ]
    refine hp _ hm _ sm _ fun H4 s4 => ?_
    have hss : ∀ v w, ((((capt cap σ).set 0 (some (.int (rs[i]).2.1))).set 1 (some (.int (rs[i]).2.2))).set 0 v).set 1 w = ((capt cap σ).set 0 v).set 1 w := fun v w => by
      rw [List.set_comm _ _ (by decide : (1 : Nat) ≠ 0), List.set_set, List.set_set]
    cases hb : p (rs[i]).2 with
    | false =>
      refine iteF ⟨rs.length - (i + 1), by omega, rfl, hlt, hss, s4 _ _ hl, sm.trans s4, ?_⟩
      rw [etake, List.filter_append, hys]
      simp [hb]
    | true =>
      refine iteT ?_
      refine he _ hm hb _ (sm.trans s4) _ fun H5 s5 => ?_
      have hl5 := s5 _ _ (s4 _ _ hl)
      refine ⟨hl5, ?_, rs.length - (i + 1), by omega, rfl, hlt, hss, upd_same, fun b o eb => ?_, ?_⟩
      · have h1 : ys.length ≤ rs.length := by
          rw [hys, List.length_map]
          refine Nat.le_trans (List.length_filter_le _ _) ?_
          rw [List.length_take, sps_len]
          exact Nat.min_le_right _ _
        have h2 : (100000 : Nat) < sizeLine := by decide
        omega
      · rw [upd_ne (ne_of_none eb hD)]
        exact s5 _ _ (s4 _ _ (sm _ _ eb))
      · rw [etake, List.filter_append, hys]
        simp [hb]
  · have e : i = rs.length := by omega
    subst e
    have e2 : (refs rs).length = rs.length := refs_len rs
    refine .inl ⟨e2 ▸ q2, k D _ sm hD ?_⟩
    rw [hl, hys, ← sps_len rs, List.take_length]
end L2
namespace L2
open PySem PySem.Spec PyProof.Rows PySem.SeqAt
section
variable {X : Cx}
end
end L2
namespace L2
open PySem PySem.Spec PyProof.Rows PySem.SeqAt
/-- a comprehension over pairs of ints, one name its target -/
theorem comp_row {J : It} {cap : List (Option Nat)} {tt : TT} {te : TE} {σ : St} {H1 : Hp} {Q : VK} {rs : List RA} (hJ : Seq J H1 (refs rs)) (ok : RowOk H1 rs) (p : Int × Int → Bool) (f : Int × Int → V) (hsz : rs.length ≤ 100000)
    (hp : ∀ y ∈ rs, ∀ H', Same H1 H' → ∀ R : Bool → Hp → Prop, (∀ H'', Same H' H'' → R (p y.2) H'') → tt ((capt cap σ).set 0 (some (.ref y.1))) H' R)
    (he : ∀ y ∈ rs, p y.2 = true → ∀ H', Same H1 H' → ∀ R : VK, (∀ H'', Same H' H'' → R (f y.2) H'') → te ((capt cap σ).set 0 (some (.ref y.1))) H' R)
    (k : ∀ D H', Same H1 H' → H1 D = none → H' D = some (.lst (((sps rs).filter p).map f)) → Q (.ref D) H') :
    compBody J H1 cap (gName 0) tt te σ Q := by
  intro D hD
  refine ⟨fun i m ys σ' H' => m = rs.length - i ∧ i ≤ rs.length ∧ (∀ v, σ'.set 0 v = (capt cap σ).set 0 v) ∧ H' D = some (.lst ys) ∧ Same H1 H' ∧ ys = (((sps rs).take i).filter p).map f,
    ⟨rs.length, by simp, Nat.zero_le _, fun _ => rfl, upd_same, same_upd hD, by simp⟩, ?_⟩
  rintro i m ys σ' H' ⟨rfl, hi, hσ, hl, sm, hys⟩
  refine ⟨hl, ?_⟩
  obtain ⟨q1, q2⟩ := hJ H' sm
  by_cases hlt : i < rs.length
  · have e : (refs rs)[i]? = some (.ref (rs[i]).1) := by unfold refs; simp [hlt]
    have es : (sps rs)[i]? = some (rs[i]).2 := by unfold sps; simp [hlt]
    obtain ⟨go, y⟩ := q1 i _ e
    refine .inr ⟨go, fun x H2 hy => ?_⟩
    obtain ⟨rfl, rfl⟩ := y x H2 hy
    have hm : rs[i] ∈ rs := List.getElem_mem hlt
    have etake : (sps rs).take (i + 1) = (sps rs).take i ++ [(rs[i]).2] := by rw [List.take_add_one, es]; rfl
    show tt (σ'.set 0 (some (.ref (rs[i]).1))) _ _
    rw [hσ]
    refine hp _ hm _ sm _ fun H4 s4 => ?_
    have hss : ∀ v, ((capt cap σ).set 0 (some (.ref (rs[i]).1))).set 0 v = (capt cap σ).set 0 v := fun v => by rw [List.set_set]
    cases hb : p (rs[i]).2 with
    | false =>
      refine iteF ⟨rs.length - (i + 1), by omega, rfl, hlt, hss, s4 _ _ hl, sm.trans s4, ?_⟩
      rw [etake, List.filter_append, hys]
      simp [hb]
    | true =>
      refine iteT ?_
      refine he _ hm hb _ (sm.trans s4) _ fun H5 s5 => ?_
      have hl5 := s5 _ _ (s4 _ _ hl)
      refine ⟨hl5, ?_, rs.length - (i + 1), by omega, rfl, hlt, hss, upd_same, fun b o eb => ?_, ?_⟩
      · have h1 : ys.length ≤ rs.length := by
          rw [hys, List.length_map]
          refine Nat.le_trans (List.length_filter_le _ _) ?_
          rw [List.length_take, sps_len]
          exact Nat.min_le_right _ _
        have h2 : (100000 : Nat) < sizeLine := by decide
        omega
      · rw [upd_ne (ne_of_none eb hD)]
        exact s5 _ _ (s4 _ _ (sm _ _ eb))
      · rw [etake, List.filter_append, hys]
        simp [hb]
  · have e : i = rs.length := by omega
    subst e
    have e2 : (refs rs).length = rs.length := refs_len rs
    refine .inl ⟨e2 ▸ q2, k D _ sm hD ?_⟩
    rw [hl, hys, ← sps_len rs, List.take_length]
section
variable {X : Cx}
end
end L2

namespace L2
open PySem PySem.Spec PyProof.Rows
/-! C(..) within a try: its __init__ may refuse -/
section
variable {X : Cx} {CX : CXT} {cm : Bool} {k : Nat} {f C : Addr} {fd : FuncData} {ps : List Str} {sp : Sp} {dvs : List V} {ds : List Value} {E : St → XK} {x : Str} {p pos : Pos} {e : Expr} {es : List Expr} {t : TA}
end
end L2

namespace L2
open PySem PySem.Spec PyProof.Rows
section
variable {X : Cx}
/-- t + u, both of the heap, either of them empty -/
theorem op_catA : OpR X (binaryOp .Add) (fun x y H Q => ∃ a b xs ys, x = .ref a ∧ y = .ref b ∧ H a = some (.tup xs) ∧ H b = some (.tup ys) ∧ xs.length + ys.length ≤ sizeLine ∧
    ∀ p H', Same H H' → H' p = some (.tup (xs ++ ys)) → Q (.ref p) H') := by
  intro pins s σ H x y v u Q I rx ry h
  obtain ⟨a, b, xs, ys, rfl, rfl, ha, hb, hz, q⟩ := h
  by_cases hx : xs = []
  · cases rx
    cases ry
    obtain ⟨its, r1, p1, _⟩ := I.tuple (SqT.of (K := X.K) ha)
    obtain ⟨its2, r2, p2, _⟩ := I.tuple (SqT.of (K := X.K) hb)
    obtain ⟨⟨cls, dd, data, sl⟩, ho, hc, n, hd⟩ := id p1
    obtain ⟨⟨cls2, dd2, data2, sl2⟩, ho2, hc2, n2, hd2⟩ := id p2
    simp only at hc hd hc2 hd2
    subst hc hd hc2 hd2
    have hv : its = [] := r1.nil_iff.mpr hx
    have q0 := q b H (Same.refl _) (by rw [hx]; exact hb)
    exact concat_meets ⟨_, ho, rfl⟩ ⟨_, ho2, rfl⟩ noFill_tuple_add seq_tuple_add PySem.F.slot_tuple_add PySem.F.entry_tuple_add (PySem.F.args_tuple_add_2 _ _)
      (tuple_addW0 a b its.toArray its2.toArray n n2 dd dd2 sl sl2 (by simp [hv])) ⟨ho, ho2, ⟨.ref b, H, I, rfl, q0⟩⟩
  · refine op_catT pins s σ H _ _ v u Q I rx ry ⟨a, b, xs, ys, rfl, rfl, SqT.of ha, SqT.of hb, hx, hz, fun e => ?_, fun _ p hp => q p _ (same_upd hp) upd_same⟩
    exact q a H (Same.refl _) (by rw [e, List.append_nil]; exact ha)
end
end L2

namespace L2
open PySem PySem.Spec PyProof.Rows
/-! a place where ways meet: what is known behind a statement, said once -/
def tCut (t u : TS) : TS := fun D σ H => ∃ P : St → Hp → Prop, t { D with nx := P } σ H ∧ ∀ σ' H', P σ' H' → u D σ' H'
section
variable {X : Cx} {st : Stmt} {rest : List Stmt} {t u : TS}
theorem pss_cut (h1 : PS X st t) (h2 : PSs X rest u) : PSs X (st :: rest) (tCut t u) := by
  intro pins s σ H D I h
  obtain ⟨P, ha, hb⟩ := h
  refine wpAny_execs_cons (thn (h1 pins s σ H { D with nx := P } I ha) fun f s1 q => ?_)
  cases f with
  | next =>
    obtain ⟨σ', H', I', q⟩ := q
    exact h2 pins s1 σ' H' D I' (hb σ' H' q)
  | ret v => exact q
  | brk => exact q
  | cont => exact q
end
end L2

namespace L2
open PySem PySem.Spec PySem.Calls PyProof.Rows
/-! C(): a class that has no __init__ but object's -/
structure MkN (K : PySem.W.Frag) (C : Addr) : Prop where
  makes : PySem.W.makesIn K C = true
  init : PySem.W.findIn K (.ref C) "__init__" = some (some (.builtin "object.__init__"))
  kp : PySem.W.keepIn K (.ref C) = true
section
variable {X : Cx} {C : Addr} {x : Str} {p pos : Pos}
end
end L2

namespace L2
open PySem PySem.Spec PyProof.Rows

end L2

namespace L2
open PySem PySem.Spec PyProof.Rows

section
variable (P : Program) (w : World)
end

section
variable {P : Program} {w : World} {H H' : Hp} {h h' : Heap} {a : Addr} {o : HO}
end

section
variable {P : Program} {w : World} {H : Hp} {h h' : Heap} {x e : Addr} {o' : HO}
end

section
variable {fs fs' ex ex' : List Addr} {H H1 H2 : Hp} {h h1 h2 h' : Heap} {a x e : Addr} {o : HO}
end

end L2

namespace L2
open PySem PySem.Spec PyProof.Rows

section
variable {X : Cx} {pins : List (Addr × Obj)} {σ : List (Option V)} {H H' : Hp} {s : Shared} {h' : Heap}

end

end L2

namespace L2
open PySem PySem.Spec PyProof.Rows
section
variable {X : Cx}

variable {a b : Expr} {ta tb : TE} {pos : Pos}
variable {tA tB' : TT} {rest : List Expr}
end
end L2

namespace L2
open PySem PySem.Spec PyProof.Rows

section
variable {X : Cx} {pins : List (Addr × Obj)} {σ : St} {H : Hp} {s : Shared} {a : Addr} {xs ys : List V}
end

section
variable {X : Cx} {pins : List (Addr × Obj)} {σ : St} {H : Hp} {s : Shared} {E : Value → Shared → Prop}
end

section
variable {X : Cx} {st : Stmt} {rest : List Stmt} {t u : TS} {e : Expr} {te : TE} {pos : Pos}
end

section
variable {X : Cx} {pos : Pos}
end

section
variable {X : Cx} {pos : Pos}
end

end L2

namespace L2
open PySem PySem.Spec PyProof.Rows
section
variable {X : Cx} {tg : Expr}
end

end L2

namespace L2
open PySem PySem.Spec PyProof.Rows

section
variable {X : Cx} {a b c : Expr} {ta tb tc : TE} {pos : Pos}

end

section
variable {X : Cx} {a b c : Expr} {ta tb tc : TE} {pos : Pos}
end
end L2

namespace L2
open PySem PySem.Spec PyProof.Rows

section
variable {prog : Program} {w : World} {A : Around} {E : Value → Shared → Prop} {s : Shared} {K : PySem.W.Frag} {x dx C f : Addr} {mA : Str → Option Value} {name : Str} {v : Value}

end

section
variable {P : Program} {w : World} {H H' : Hp} {h h' : Heap} {a C dx : Addr} {fs fs' : List (Str × V)}
end

section
variable {X : Cx} {pins : List (Addr × Obj)} {σ : St} {H : Hp} {s : Shared} {a C dx : Addr} {fs : List (Str × V)} {f : Str} {v : V} {A : Around} {E : Value → Shared → Prop}

end

section
variable {X : Cx} {o e value : Expr} {f : Str} {pos pos' tpos : Pos} {ta tv : TE}
end

section
variable {X : Cx} {pins : List (Addr × Obj)} {σ : St} {H : Hp} {s : Shared} {A : Around} {E : Value → Shared → Prop} {Q : Value → Shared → Prop} {c : Value} {b : Bool}
end
end L2

namespace L2
open PySem PySem.Spec PyProof.Rows

section
variable {X : Cx} {e : Expr} {es : List Expr} {te : TE} {t : TA} {pos : Pos}
end

section
variable {X : Cx} {pins : List (Addr × Obj)} {σ : St} {H : Hp} {s s' : Shared}
end

section
variable {X : Cx} {CX : CXT} {cm : Bool} {k : Nat} {f C : Addr} {fd : FuncData} {ps : List Str} {sp : Sp} {dvs : List V} {ds : List Value} {E : XK} {x m : Str} {p pos apos : Pos} {e o : Expr} {es : List Expr} {ta : TE} {t : TA}

end

section
variable {X : Cx} {CX : CXT} {cm : Bool} {k : Nat} {f C : Addr} {fd : FuncData} {ps ks : List Str} {sp : Sp} {E : XK} {x m : Str} {p pos apos kpos : Pos} {e o : Expr} {es : List Expr} {kws : List Keyword} {te ta : TE} {t tk : TA} {nm : Option Str}
variable {g : List Value → List Value → List Value} {gV : List V → List V → List V}
end

end L2

namespace L2
open PySem PySem.Spec PyProof.Rows
section
variable {X : Cx} {x : Str} {p pos : Pos} {e : Expr} {es : List Expr} {t : TA} {id T : String} {r : List V → Hp → VK → Prop}

end
end L2

namespace L2
open PySem PySem.Spec PyProof.Rows

section
variable {κ : Type} [DecidableEq κ]
def valV (kvs : List (κ × V)) (k : κ) : Option V := (kvs.find? fun kv => decide (kv.1 = k)).map (·.2)
def putK (kvs : List (κ × V)) (k : κ) (v : V) : List (κ × V) :=
  if (kvs.any fun kv => decide (kv.1 = k)) = true then kvs.map (fun kv => if kv.1 = k then (kv.1, v) else kv) else kvs ++ [(k, v)]
def dropK (kvs : List (κ × V)) (k : κ) : List (κ × V) := kvs.filter fun kv => decide (kv.1 ≠ k)

theorem valV_pos {p : κ × V} {r : List (κ × V)} {k : κ} (e : p.1 = k) : valV (p :: r) k = some p.2 := by simp [valV, List.find?_cons, e]
theorem valV_neg {p : κ × V} {r : List (κ × V)} {k : κ} (e : ¬ p.1 = k) : valV (p :: r) k = valV r k := by simp [valV, List.find?_cons, e]
theorem valV_any (k : κ) : ∀ kvs : List (κ × V), (kvs.any fun kv => decide (kv.1 = k)) = (valV kvs k).isSome
  | [] => rfl
  | p :: r => by
    rw [List.any_cons]
    by_cases e : p.1 = k
    · simp only [valV_pos e, decide_eq_true e, Bool.true_or, Option.isSome_some]
    · rw [valV_neg e, decide_eq_false e, Bool.false_or]; exact valV_any k r
theorem length_putK (kvs : List (κ × V)) (k : κ) (v : V) : (putK kvs k v).length ≤ kvs.length + 1 := by
  unfold putK
  split
  · rw [List.length_map]; omega
  · rw [List.length_append, List.length_cons, List.length_nil]; omega
theorem RelO.isSome_eq {o : Option V} {u : Option Value} (r : RelO o u) : o.isSome = u.isSome := by
  cases o with
  | none => cases u with
    | none => rfl
    | some _ => exact (show False from r).elim
  | some _ => cases u with
    | none => exact (show False from r).elim
    | some _ => rfl
theorem RelO.getD {o : Option V} {u : Option Value} {d : V} {d' : Value} (r : RelO o u) (rd : RelV d d') : RelV (o.getD d) (u.getD d') := by
  cases o with
  | none => cases u with
    | none => exact rd
    | some _ => exact (show False from r).elim
  | some _ => cases u with
    | none => exact (show False from r).elim
    | some _ => exact r

theorem KV.val {kvs : List (κ × V)} {vs : List (κ × Value)} (r : KV kvs vs) (k : κ) : RelO (valV kvs k) (valueAt vs k) := by
  unfold KV at r
  induction r with
  | nil => exact True.intro
  | @cons p q ps qs h t ih =>
    obtain ⟨h1, h2⟩ := h
    by_cases e : p.1 = k
    · have e' : q.1 = k := h1.symm.trans e
      have b : valueAt (q :: qs) k = some q.2 := by simp [valueAt, List.find?_cons, e']
      rw [valV_pos e, b]; exact h2
    · have e' : ¬ q.1 = k := fun z => e (h1.trans z)
      have b : valueAt (q :: qs) k = valueAt qs k := by simp [valueAt, List.find?_cons, e']
      rw [valV_neg e, b]; exact ih
theorem KV.any {kvs : List (κ × V)} {vs : List (κ × Value)} (r : KV kvs vs) (k : κ) : (kvs.any fun kv => decide (kv.1 = k)) = vs.any fun kv => decide (kv.1 = k) := by
  unfold KV at r
  induction r with
  | nil => rfl
  | cons h t ih => rw [List.any_cons, List.any_cons, ih, h.1]
theorem KV.repl {kvs : List (κ × V)} {vs : List (κ × Value)} (r : KV kvs vs) (k : κ) {y : V} {u : Value} (ry : RelV y u) :
    KV (kvs.map fun kv => if kv.1 = k then (kv.1, y) else kv) (vs.map fun kv => if kv.1 = k then (kv.1, u) else kv) := by
  unfold KV at r ⊢
  induction r with
  | nil => exact .nil
  | @cons p q ps qs h t ih =>
    rw [List.map_cons, List.map_cons]
    refine .cons ?_ ih
    obtain ⟨h1, h2⟩ := h
    by_cases e : p.1 = k
    · rw [if_pos e, if_pos (h1.symm.trans e)]; exact ⟨h1, ry⟩
    · rw [if_neg e, if_neg (fun z => e (h1.trans z))]; exact ⟨h1, h2⟩
theorem KV.put {kvs : List (κ × V)} {vs : List (κ × Value)} (r : KV kvs vs) (k : κ) {y : V} {u : Value} (ry : RelV y u) : KV (putK kvs k y) (stored vs k u) := by
  unfold putK stored
  rw [r.any k]
  by_cases e : (vs.any fun kv => decide (kv.1 = k)) = true
  · rw [if_pos e, if_pos e]; exact r.repl k ry
  · rw [if_neg e, if_neg e]; exact Paired.snoc r ⟨rfl, ry⟩
theorem KV.drop {kvs : List (κ × V)} {vs : List (κ × Value)} (r : KV kvs vs) (k : κ) : KV (dropK kvs k) (without vs k) := by
  unfold KV at r ⊢
  unfold dropK without
  induction r with
  | nil => exact .nil
  | @cons p q ps qs h t ih =>
    obtain ⟨h1, h2⟩ := h
    rw [List.filter_cons, List.filter_cons]
    by_cases e : p.1 = k
    · have a : ¬ decide (p.1 ≠ k) = true := by simp [e]
      have b : ¬ decide (q.1 ≠ k) = true := by simp [h1.symm.trans e]
      rw [if_neg a, if_neg b]; exact ih
    · have e' : ¬ q.1 = k := fun z => e (h1.trans z)
      have a : decide (p.1 ≠ k) = true := by simp [e]
      have b : decide (q.1 ≠ k) = true := by simp [e']
      rw [if_pos a, if_pos b]; exact .cons ⟨h1, h2⟩ ih
theorem KV.keys {kvs : List (κ × V)} {vs : List (κ × Value)} (r : KV kvs vs) : kvs.map (·.1) = vs.map (·.1) := by
  unfold KV at r
  induction r with
  | nil => rfl
  | cons h t ih => rw [List.map_cons, List.map_cons, ih, h.1]
theorem KV.length {kvs : List (κ × V)} {vs : List (κ × Value)} (r : KV kvs vs) : kvs.length = vs.length := Paired.length r
end


theorem kV_is {P : Program} {w : World} {k : Key} {u : Value} (r : RelV (kV k) u) : (mixKind P w).is k u = true := by
  cases k with
  | inl i => obtain ⟨t, e⟩ := (show ∃ t, u = Value.int i t from r); subst e; exact mixKind_int P w i t
  | inr x => obtain ⟨t, e⟩ := (show ∃ t, u = Value.str x t from r); subst e; exact mixKind_str P w x t
theorem items_are {P : Program} {w : World} : ∀ {ks : List Key} {us : List Value}, Vals (ks.map kV) us → ItemsAre (mixKind P w) ks us
  | [], _, r => by rw [List.map_nil] at r; cases r; exact .nil
  | k :: ks, _, r => by
    rw [List.map_cons] at r
    cases r with
    | cons h t => exact .cons (kV_is h) (items_are t)

abbrev KT (H : Hp) : List (List Key × V) → List (List Key × Addr × Value) → Prop := Paired fun p q => p.1 = q.1 ∧ H q.2.1 = some (.tup (p.1.map kV)) ∧ RelV p.2 q.2.2
theorem KT.val {H : Hp} {kvs : List (List Key × V)} {xs : List (List Key × Addr × Value)} (r : KT H kvs xs) (k : List Key) : RelO (valV kvs k) ((atKey xs k).map (·.2)) := by
  induction r with
  | nil => exact True.intro
  | @cons p q ps qs h t ih =>
    obtain ⟨h1, _, h2⟩ := h
    by_cases e : p.1 = k
    · have e' : q.1 = k := h1.symm.trans e
      have b : atKey (q :: qs) k = some q.2 := by simp [atKey, List.find?_cons, e']
      rw [valV_pos e, b]; exact h2
    · have e' : ¬ q.1 = k := fun z => e (h1.trans z)
      have b : atKey (q :: qs) k = atKey qs k := by simp [atKey, List.find?_cons, e']
      rw [valV_neg e, b]; exact ih
theorem KT.repl {H : Hp} {kvs : List (List Key × V)} {xs : List (List Key × Addr × Value)} (r : KT H kvs xs) (k : List Key) {y : V} {u : Value} (ry : RelV y u) :
    KT H (kvs.map fun kv => if kv.1 = k then (kv.1, y) else kv) (xs.map (putAt k u)) := by
  induction r with
  | nil => exact .nil
  | @cons p q ps qs h t ih =>
    rw [List.map_cons, List.map_cons]
    refine .cons ?_ ih
    obtain ⟨h1, h2, h3⟩ := h
    unfold putAt
    by_cases e : p.1 = k
    · rw [if_pos e, if_pos (h1.symm.trans e)]; exact ⟨h1, h2, ry⟩
    · rw [if_neg e, if_neg (fun z => e (h1.trans z))]; exact ⟨h1, h2, h3⟩
theorem KT.put {H : Hp} {kvs : List (List Key × V)} {xs : List (List Key × Addr × Value)} (r : KT H kvs xs) (k : List Key) {b : Addr} {y : V} {u : Value} (hb : H b = some (.tup (k.map kV))) (ry : RelV y u) :
    KT H (putK kvs k y) (storedH xs k b u) := by
  have e : (kvs.any fun kv => decide (kv.1 = k)) = (atKey xs k).isSome := by
    rw [valV_any, (r.val k).isSome_eq, Option.isSome_map]
  unfold putK storedH
  rw [e]
  by_cases q : (atKey xs k).isSome = true
  · rw [if_pos q, if_pos q]; exact r.repl k ry
  · rw [if_neg q, if_neg q]; exact Paired.snoc r ⟨rfl, hb, ry⟩
theorem KT.keeps {H H' : Hp} {kvs : List (List Key × V)} {xs : List (List Key × Addr × Value)} (r : KT H kvs xs) (ht : ∀ b ys, H b = some (.tup ys) → H' b = some (.tup ys)) : KT H' kvs xs :=
  Paired.mapP r fun _ _ z => ⟨z.1, ht _ _ z.2.1, z.2.2⟩

section
variable {P : Program} {w : World} {H : Hp} {h : Heap} {a : Addr}
theorem rd_of {u : HO} (ok : HOk P w H h) (e : Rd H a u) : ObjOk P w H h a u := e.ok ok
theorem dk_rd {kvs : List (Key × V)} (ok : HOk P w H h) (e : Rd H a (.dK kvs)) : kvs.length ≤ sizeLine ∧ (a == sysModules) = false ∧ ∃ vs, KV kvs vs ∧ h.DictOf (mixKind P w) a vs :=
  show ObjOk P w H h a (.dK kvs) from rd_of ok e
theorem dk_of {kvs : List (Key × V)} (ok : HOk P w H h) (e : H a = some (.dK kvs)) : kvs.length ≤ sizeLine ∧ (a == sysModules) = false ∧ ∃ vs, KV kvs vs ∧ h.DictOf (mixKind P w) a vs := dk_rd ok (.inl e)
theorem key_of {ks : List Key} (ok : HOk P w H h) (e : H a = some (.tup (ks.map kV))) : (tupleKind (mixKind P w)).is h ks a := by
  obtain ⟨_, its, r, o, h1, h2, n, h3⟩ := (show ObjOk P w H h a (.tup (ks.map kV)) from ok a _ e)
  exact ⟨o, its.toArray, n, h1, h2, h3, by simpa using items_are r⟩
theorem dt_rd {kvs : List (List Key × V)} (ok : HOk P w H h) (e : Rd H a (.dT kvs)) : kvs.length ≤ sizeLine ∧ (a == sysModules) = false ∧
    ∃ xs, KT H kvs xs ∧ h.DictOfH (tupleKind (mixKind P w)) a xs := by
  obtain ⟨z, y, xs, r, o, es, ep, h1, h2, h3, h4, h5⟩ := (show ObjOk P w H h a (.dT kvs) from rd_of ok e)
  refine ⟨z, y, xs, r, o, es, ep, h1, h2, h3, h4, fun x hx => ?_, h5⟩
  have all : ∀ {l : List (List Key × V)} {m : List (List Key × Addr × Value)}, KT H l m → ∀ x ∈ m, (tupleKind (mixKind P w)).is h x.1 x.2.1 := by
    intro l m q
    induction q with
    | nil => intro x hx; exact nomatch hx
    | @cons p q ps qs hq t ih =>
      intro x hx
      rcases List.mem_cons.mp hx with e | hx
      · subst e
        exact key_of ok (by rw [← hq.1]; exact hq.2.1)
      · exact ih x hx
  exact all r x hx
theorem dt_of {kvs : List (List Key × V)} (ok : HOk P w H h) (e : H a = some (.dT kvs)) : kvs.length ≤ sizeLine ∧ (a == sysModules) = false ∧
    ∃ xs, KT H kvs xs ∧ h.DictOfH (tupleKind (mixKind P w)) a xs := dt_rd ok (.inl e)
end

def DGet (H : Hp) (a : Addr) (y : V) (r : Option V) : Prop :=
  (∃ kvs k, Rd H a (.dK kvs) ∧ y = kV k ∧ r = valV kvs k) ∨ ∃ kvs k b, Rd H a (.dT kvs) ∧ y = .ref b ∧ H b = some (.tup (k.map kV)) ∧ r = valV kvs k
def DPut (H : Hp) (a : Addr) (y v : V) (H' : Hp) : Prop :=
  (∃ kvs k, H a = some (.dK kvs) ∧ y = kV k ∧ kvs.length < sizeLine ∧ H' = upd H a (.dK (putK kvs k v))) ∨
  ∃ kvs k b, H a = some (.dT kvs) ∧ y = .ref b ∧ H b = some (.tup (k.map kV)) ∧ kvs.length < sizeLine ∧ H' = upd H a (.dT (putK kvs k v))
theorem DGet.k {H : Hp} {a : Addr} {kvs : List (Key × V)} {k : Key} (e : H a = some (.dK kvs)) : DGet H a (kV k) (valV kvs k) := .inl ⟨kvs, k, .inl e, rfl, rfl⟩
theorem DGet.t {H : Hp} {a b : Addr} {kvs : List (List Key × V)} {k : List Key} (e : H a = some (.dT kvs)) (eb : H b = some (.tup (k.map kV))) : DGet H a (.ref b) (valV kvs k) := .inr ⟨kvs, k, b, .inl e, rfl, eb, rfl⟩
theorem DPut.k {H : Hp} {a : Addr} {kvs : List (Key × V)} {k : Key} {v : V} (e : H a = some (.dK kvs)) (hl : kvs.length < sizeLine) : DPut H a (kV k) v (upd H a (.dK (putK kvs k v))) := .inl ⟨kvs, k, e, rfl, hl, rfl⟩
theorem DPut.t {H : Hp} {a b : Addr} {kvs : List (List Key × V)} {k : List Key} {v : V} (e : H a = some (.dT kvs)) (eb : H b = some (.tup (k.map kV))) (hl : kvs.length < sizeLine) :
    DPut H a (.ref b) v (upd H a (.dT (putK kvs k v))) := .inr ⟨kvs, k, b, e, rfl, eb, hl, rfl⟩


section
variable {X : Cx} {pins : List (Addr × Obj)} {σ : St} {H : Hp} {s : Shared} {a : Addr} {y v : V} {u r : Value} {o : Option V} {A : Around} {E : Value → Shared → Prop}

theorem Inv.big (I : Inv X pins σ H s) : sysModules < s.heap.objs.size := by
  have h : mainGlobals < s.heap.objs.size := (I.mod.glob.keeps I.bk).lt
  exact Nat.lt_trans (by decide) h

theorem d_write {h' : Heap} {t' : Nat} {ob : HO} (I : Inv X pins σ H s) (mu : Mut (H a)) (hs : Heap.SameBut a s.heap h') (he : ∃ q, h'.get? a = some q) (new : ObjOk X.prog X.w (upd H a ob) h' a ob) :
    Inv X pins σ (upd H a ob) { s with heap := h', toks := t' } :=
  I.write (x := a) (e := a) mu (.inl rfl) (fun b q hb z => (hs.2 b hb).trans z) he new
theorem dk_new {P : Program} {w : World} {H' : Hp} {h' : Heap} {kvs : List (Key × V)} {vs : List (Key × Value)} (z : kvs.length ≤ sizeLine) (hd : (a == sysModules) = false) (rel : KV kvs vs) (dd : h'.DictOf (mixKind P w) a vs) :
    ObjOk P w H' h' a (.dK kvs) := ⟨z, hd, vs, rel, dd⟩
theorem d_setItem {H' : Hp} {Q : Unit → Shared → Prop} (hu : A.units + 1 < cLine) (I : Inv X pins σ H s) (g : DPut H a y v H') (ry : RelV y u) (rv : RelV v r) (h : ∀ s', Inv X pins σ H' s' → Q () s') :
    wpAny (model X.prog X.w) A (setItem (.ref a) u r) Q E s := by
  rcases g with ⟨kvs, k, e, ey, l, eH⟩ | ⟨kvs, k, b, e, ey, eb, l, eH⟩
  · subst ey eH
    obtain ⟨z, hd, vs, rel, dd⟩ := dk_of I.hok e
    have hz : vs.length ≤ sizeLine := by rw [← rel.length]; exact z
    have hl : (putK kvs k v).length ≤ sizeLine := by have := length_putK kvs k v; omega
    refine wpAny_setItem_pairs (hsz := hz) (kV_is ry) dd fun h' dd' hs => h _ ?_
    have he : ∃ q, h'.get? a = some q := let ⟨q, _, _, hq, _⟩ := dd'; ⟨q, hq⟩
    exact d_write I (by rw [e]; exact True.intro) hs he (dk_new hl hd (rel.put k rv) dd')
  · subst ey eH
    cases (show u = Value.ref b from ry)
    obtain ⟨z, hd, xs, rel, dd⟩ := dt_of I.hok e
    have hz : xs.length ≤ sizeLine := by rw [← Paired.length rel]; exact z
    have hl : (putK kvs k v).length ≤ sizeLine := by have := length_putK kvs k v; omega
    refine wpAny_setItem_heap (hsz := hz) (tupleKind_room_in1 hu) (key_of I.hok eb) dd fun h' dd' hs => h _ ?_
    obtain ⟨q, es, ep, hq, h2, h3, h4, _, h5⟩ := dd'
    refine d_write I (by rw [e]; exact True.intro) hs ⟨q, hq⟩ ⟨hl, hd, _, (rel.put k eb rv).keeps fun c ys ec => ?_, q, es, ep, hq, h2, h3, h4, h5⟩
    rw [upd_ne (ne_of ec e (fun z => nomatch z))]
    exact ec
end

section
variable {X : Cx} {pins : List (Addr × Obj)} {σ : St} {H : Hp} {s : Shared} {a : Addr} {kvs : List (Key × V)} {k : Key} {u : Value} {A : Around} {E : Value → Shared → Prop}
end


def sDPut (td ty tv : TE) : TS := fun D σ H => tv σ H fun v H1 => td σ H1 fun x H2 => ty σ H2 fun y H3 => ∃ a H4, x = .ref a ∧ DPut H3 a y v H4 ∧ D.nx σ H4
section
variable {X : Cx} {o i e value : Expr} {pos pos' tpos : Pos} {td ty tv : TE}
theorem ps_dput (hu : X.A.units + 1 < cLine) (ho : PE X o td) (hi : PE X i ty) (hv : PE X value tv) (hs : swapsWith value (some (.Subscript o i pos')) pos.line X.env = pure false) :
    PS X (.Assign [.Subscript o i pos'] value pos) (sDPut td ty tv) := by
  intro pins s σ H D I h
  refine wpAny_Assign_Subscript (thn (hv pins s σ H _ I h) fun r s1 ⟨v, H1, I1, rv, q1⟩ => thn (ho pins s1 σ H1 _ I1 q1) fun u s2 ⟨x, H2, I2, rx, q2⟩ => thn (hi pins s2 σ H2 _ I2 q2) fun iv s3 ⟨y, H3, I3, ry, a, H4, ex, g, q3⟩ => ?_) hs
  subst ex
  obtain rfl : u = Value.ref a := rx
  exact d_setItem hu I3 g ry rv fun s4 I4 => ⟨σ, H4, I4, q3⟩
end


theorem dk_empty {P : Program} {w : World} {H : Hp} (h : Heap) (hb : sysModules < h.objs.size) : ObjOk P w H (h.push { cls := .type "dict", data := .dict #[] }) h.objs.size (.dK []) :=
  ⟨Nat.zero_le _, beq_eq_false_iff_ne.mpr (Ne.symm (Nat.ne_of_lt hb)), [], .nil, Heap.DictOf.new h⟩
def tDNewK : TE := fun _ H Q => ∀ p, H p = none → Q (.ref p) (upd H p (.dK []))
section
variable {X : Cx} {pos : Pos}
theorem pe_dnewK : PE X (.Dict [] [] pos) tDNewK := fun pins s σ H Q I h =>
  wpAny_Dict_empty ⟨.ref s.heap.objs.size, _, I.laid (a := s.heap.objs.size) (o := .dK []) (t' := s.toks) (fun _ _ q => Heap.get?_push_of_some _ q) (Nat.le_refl _) (dk_empty s.heap I.big), rfl, h _ (I.hok.fresh (Nat.le_refl _))⟩
end

structure M1 (X : Cx) (o : Expr) (m : Str) (apos : Pos) (e : Expr) (cpos : Pos) : Prop where
  base : attributeBase o m X.env (eval o X.env) = eval o X.env
  few : ((backTo cpos (starEach [e] X.env)).all (fun x => !x.1) && (backToKw cpos (keywordEach [] X.env)).all (fun x => x.1.isSome)
    && decide (([e] : List Expr).length + ([] : List Keyword).length + (if ([] : List Keyword).isEmpty then 0 else 1) < 30)) = true
  line : (apos.endLine == cpos.line) = true
  trees : backTo cpos (starEach [e] X.env) = [(false, eval e X.env)]
structure M2 (X : Cx) (o : Expr) (m : Str) (apos : Pos) (e f : Expr) (cpos : Pos) : Prop where
  base : attributeBase o m X.env (eval o X.env) = eval o X.env
  few : ((backTo cpos (starEach [e, f] X.env)).all (fun x => !x.1) && (backToKw cpos (keywordEach [] X.env)).all (fun x => x.1.isSome)
    && decide (([e, f] : List Expr).length + ([] : List Keyword).length + (if ([] : List Keyword).isEmpty then 0 else 1) < 30)) = true
  line : (apos.endLine == cpos.line) = true
  trees : backTo cpos (starEach [e, f] X.env) = [(false, eval e X.env), (false, eval f X.env)]

section
variable {X : Cx} {pins : List (Addr × Obj)} {σ : St} {H : Hp} {s : Shared} {a : Addr} {y d : V} {u r : Value} {o : Option V} {A : Around} {E : Value → Shared → Prop}
end

section
variable {X : Cx} {o e f : Expr} {apos cpos : Pos} {td ty tx : TE}
end

section
variable {X : Cx} {pins : List (Addr × Obj)} {σ : St} {H : Hp} {s : Shared} {a : Addr} {kvs : List (Key × V)} {A : Around} {E : Value → Shared → Prop}
end


section
variable {X : Cx} {pins : List (Addr × Obj)} {σ : St} {H : Hp} {s : Shared} {a : Addr} {y : V} {u : Value} {A : Around} {E : Value → Shared → Prop}
end
end L2

namespace Att
open PySem PySem.W PySem.Calls PyProof.Rows

section
variable {prog : Program} {w : World} {A : Around} {E : Value → Shared → Prop} {s : Shared} {K : Frag}

end
end Att

namespace L2
open PySem PySem.Spec PyProof.Rows

end L2

namespace L2
open PySem PySem.Spec PyProof.Rows

end L2

namespace L2
open PySem PySem.Spec PyProof.Rows

section
variable {P : Program} {w : World} {K : PySem.W.Frag} {mg : Str → Option Value} {base : Heap}
end
section
variable {X : Cx}
end

section
variable {κ : Type} [DecidableEq κ]
end
end L2

namespace L2
open PySem PySem.Spec PyProof.Rows
/-! range(a, b, c), c above nought -/
section
variable {X : Cx} {tg : Expr}
end
section
variable {X : Cx}
end
end L2

namespace L2
open PySem PySem.Spec PyProof.Rows PySem.Calls
/-- x = [elt for target in iter if test], x a plain local name: stored ahead of the block's end -/
theorem ps_setComp {i0 : Nat} {x0 : Str} {X : Cx} {elt tgt iter : Expr} {ifs : List Expr} {scope : Scope} {pos pos' spos : Pos} {N : List Str} {cap : List (Option Nat)} {wi : TI} {g : TG} {tt : TT} {te : TE} (hN0 : X.N.Nodup) (hi0 : X.N[i0]? = some x0) (hx0 : X.env.scope.names.lookup x0 = some .local)
    (S : CompScope X.env.scope scope X.N N cap) (hc : X.calm = true) (hi : PI X tgt iter wi)
    (hb : ∀ (C : Addr) (s : Shared) (H : Hp) (fp : List Addr), PG (cxComp X N scope C s H fp) tgt g ∧ PIfs (cxComp X N scope C s H fp) ifs tt ∧ PE (cxComp X N scope C s H fp) elt te)
    (hclos : closureFor scope X.env = pure (clOf X.env scope.names []) := by with_unfolding_all rfl) (hs : ∀ x, foldedSetIterable iter X.env x = pure x := by intro _; rfl)
    (hsw : swapsWith (.ListComp elt [⟨tgt, iter, ifs, 0⟩] scope pos) (some (.Name x0 pos')) spos.line X.env = pure true := by with_unfolding_all rfl) :
    PS X (.Assign [.Name x0 pos'] (.ListComp elt [⟨tgt, iter, ifs, 0⟩] scope pos) spos) (tAsg (tComp wi cap g tt te) (gName i0)) := by
  intro pins s σ H D0 I h
  rw [exec_Assign_Name_used _ _ _ _ hsw]
  refine wpAny_bind (wpAny_standAt (wpAny_bind ?_))
  show wpAny (model X.prog X.w) X.A (comprehension (.ListComp elt [⟨tgt, iter, ifs, 0⟩] scope pos) scope X.env (firstIterPos [⟨tgt, iter, ifs, 0⟩] pos) (newList []) (firstAsync [⟨tgt, iter, ifs, 0⟩]) (firstIter [⟨tgt, iter, ifs, 0⟩] X.env) (some (assign (.Name x0 pos') X.env)) >>= fun _ => pure ()) _ _ _
  refine wpAny_bind (wpAny_mono (Q := fun _ s' => SP X pins D0 .next s') ?main (fun _ s' z => wpAny_pure (wpAny_pure z)) fun _ _ z => z)
  refine wpAny_comprehension_free (use := some (assign (.Name x0 pos') X.env)) (cl := clOf X.env scope.names []) rfl hs hclos S.kind S.names ?_
  refine thn (hi pins s σ H _ I h) fun v s1 h1 => thn h1 fun itv s2 h2 => ?_
  obtain ⟨it, fp, tn, J, H2, e, I2, T, st2, f2, k⟩ := h2
  subst e
  refine wpAny_newObj_type (wpAny_newFunctionEnv S.cell (by intro y hy; simp at hy) (fun h₁ hns₁ hsb₁ => ?_) S.kind)
  dsimp only at hns₁ hsb₁ ⊢
  have I3 : Inv X pins σ (upd H2 s2.heap.objs.size (.lst [])) { s2 with heap := s2.heap.push { cls := .type "list", dict := none, data := .seq ([] : List Value).toArray } } := I2.lnew (t' := s2.toks) .nil (Nat.zero_le _)
  obtain ⟨W, ⟨m0, w0⟩, turn⟩ := k s2.heap.objs.size I2.fresh
  generalize hD : s2.heap.objs.size = D at *
  generalize hsD : ({ s2 with heap := s2.heap.push { cls := .type "list", dict := none, data := .seq ([] : List Value).toArray } } : Shared) = sD at *
  have hsz : sD.heap.objs.size = D + 1 := by rw [← hsD, ← hD]; exact Heap.size_push ..
  have hheap : s2.heap.push { cls := .type "list", dict := none, data := .seq ([] : List Value).toArray } = sD.heap := by rw [← hsD]
  rw [hheap] at hns₁ hsb₁ ⊢
  have up : ∀ b o, s2.heap.get? b = some o → sD.heap.get? b = some o := fun b o e => by rw [← hheap]; exact Heap.get?_push_of_some _ e
  have keep : ∀ b o, sD.heap.get? b = some o → h₁.get? b = some o := fun b o e => hsb₁.extBut b o (Nat.ne_of_lt (Heap.lt_size e)) (Heap.get?_push_of_some _ e)
  have hfD : D ∉ fp := fun hm => by
    obtain ⟨o, e, _⟩ := T.obj _ _ st2 D hm
    have := Heap.lt_size e
    rw [hD] at this
    exact Nat.lt_irrefl _ this
  have f3 : ∀ b ∈ fp, FpOk X pins (upd H2 D (.lst [])) b := fun b hb => ⟨by rw [upd_ne (fun z => hfD (by rw [← z]; exact hb))]; exact (f2 b hb).1, (f2 b hb).2⟩
  have hlt : ∀ b ∈ fp, b < sD.heap.objs.size := fun b hb => by
    obtain ⟨o, e, _⟩ := T.obj _ _ st2 b hb
    exact Heap.lt_size (up b o e)
  have I4 := comp_start (t' := s2.toks + ([] : List (Str × Value)).length) S I3 f3 hlt hns₁ keep
  obtain ⟨hg, hif, hel⟩ := hb sD.heap.objs.size sD (upd H2 D (.lst [])) fp
  have st4 : tn 0 h₁ := T.keep _ _ _ st2 fun b hb o e => keep b o (up b o e)
  have stat : ∀ {H' : Hp}, (∀ b ∈ fp, H' b = none) → ∀ b ∈ fp, FpOk (cxComp X N scope sD.heap.objs.size sD (upd H2 D (.lst [])) fp) [] H' b := fun hn b hb =>
    ⟨hn b hb, (I4.ok.exf b hb).1, I4.ok.exfs b hb, .inl hb, fun x c h z => (I4.ok.exf b hb).2 x c h z, fun p hp => (by simp [cxComp] at hp)⟩
  have loop : codeAny (model X.prog X.w) X.A (.compLoop (.ListComp elt [⟨tgt, iter, ifs, 0⟩] scope pos) 0 (.ref it) (.ref D) (compEnvC scope (clOf X.env scope.names []) sD.heap.objs.size X.env))
      (compPost (model X.prog X.w) X.A X.xe (some (assign (.Name x0 pos') X.env)) (fun _ s' => SP X pins D0 .next s') (.ref D) sD.heap.objs.size) { sD with heap := h₁, toks := s2.toks + ([] : List (Str × Value)).length } := by
    refine compLoop_gen (fun n s' => ∃ i ys σ' H', Inv (cxComp X N scope sD.heap.objs.size sD (upd H2 D (.lst [])) fp) [] σ' H' s' ∧ tn i s'.heap ∧ (∀ b ∈ fp, H' b = none) ∧ W i n ys σ' H') ?_ m0
      ⟨0, [], capt cap σ, _, I4, st4, fun b hb => (f3 b hb).1, w0⟩
    rintro n s5 ⟨i, ys, σ5, H5, I5, st5, fr5, w5⟩
    obtain ⟨hD5, way⟩ := turn i n ys σ5 H5 w5
    rcases way with ⟨stop, q⟩ | ⟨go, step⟩
    · refine thn (T.done (cxComp X N scope sD.heap.objs.size sD (upd H2 D (.lst [])) fp) rfl rfl rfl hc i [] s5 σ5 H5 (fun _ _ => False) I5 (stat fr5) st5 stop) fun r s6 ⟨hr, I6⟩ => ?_
      subst hr
      obtain ⟨m, hn, _⟩ := I6.loc
      have hn' : s6.heap.Ns sD.heap.objs.size m := hn
      have J6 : Inv X pins σ H5 s6 := comp_end I3 f3 I6 (Heap.SameBut.refl _ _)
      have cellNe : ∀ x c, X.env.cells.lookup x = some c → c ≠ sD.heap.objs.size := fun x c h z => by
        obtain ⟨v, q⟩ := I3.cell x c h
        have := q.lt
        rw [z] at this
        exact Nat.lt_irrefl _ this
      refine wpAny_assign_Name (store_ok2 J6 hN0 hi0 (.inl hx0) (v := .ref D) rfl (fun s7 I7 ⟨a7, sb7, ha7⟩ => ⟨m, hn'.sameBut sb7 (fun z => ?_), fun h' sb => ?_⟩) (.inr hx0))
      · rcases ha7 with e | e
        · exact absurd (z.trans e) (Nat.ne_of_gt I3.lt)
        · exact cellNe _ _ e z.symm
      · refine ⟨_, H5, I7.turned (t' := s7.toks) (it := sD.heap.objs.size) (fun b o hb e => (sb.2 b hb).trans e) I6.free (Nat.ne_of_gt I3.lt) (.inr I3.sz) cellNe fun p hp z => ?_, q⟩
        have := Heap.lt_size (I3.pin p hp).1
        rw [z] at this
        exact Nat.lt_irrefl _ this
    · refine thn (T.item (cxComp X N scope sD.heap.objs.size sD (upd H2 D (.lst [])) fp) rfl rfl rfl hc i [] s5 σ5 H5 (fun _ _ => False) I5 (stat fr5) st5 go) fun r s6 ⟨u, hr, h6⟩ => ?_
      subst hr
      refine thn h6 fun _ s7 ⟨x, H7, I7, r7, y7, st7, fr7⟩ => ?_
      have I7' := I7.pinned (stat fr7) (T.obj _ _ st7)
      refine thn (hg _ s7 σ5 H7 x u _ I7' r7 (step x H7 y7)) fun _ s8 ⟨σ8, H8, I8, q8⟩ => ?_
      refine thn (hif _ s8 σ8 H8 _ I8 q8) fun b s9 ⟨H9, I9, q9⟩ => ?_
      have back : ∀ {σ' : St} {H' : Hp} {s' : Shared}, Inv (cxComp X N scope sD.heap.objs.size sD (upd H2 D (.lst [])) fp) ([] ++ pinsAt fp s7.heap) σ' H' s' → tn (i + 1) s'.heap ∧ ∀ b ∈ fp, H' b = none := fun {σ' H' s'} J' =>
        ⟨T.keep _ _ _ st7 fun b hb o e => (J'.pin (b, o) (List.mem_append_right _ (List.mem_append_right _ (mem_pinsAt hb e)))).1, fun b hb => by
          obtain ⟨o, e, d⟩ := T.obj _ _ st7 b hb
          exact (J'.pin (b, o) (List.mem_append_right _ (List.mem_append_right _ (mem_pinsAt hb e)))).2.1⟩
      cases b with
      | false =>
        obtain ⟨m', hm, w9⟩ := (show ∃ m', m' < n ∧ W (i + 1) m' ys σ8 H9 from q9)
        exact ⟨m', hm, i + 1, ys, σ8, H9, I9.unpinned, (back I9).1, (back I9).2, w9⟩
      | true =>
        refine thn (hel _ s9 σ8 H9 _ I9 (show te σ8 H9 _ from q9)) fun y s10 ⟨v10, H10, I10, r10, q10⟩ => ?_
        obtain ⟨hD10, hz, m', hm, w10⟩ := q10
        refine thn (mt_append (X := cxComp X N scope sD.heap.objs.size sD (upd H2 D (.lst [])) fp) _ s10 σ8 H10 (.ref D) [v10] (.ref D) [y] (fun _ H' => H' = upd H10 D (.lst (ys ++ [v10]))) I10 rfl (.cons r10 .nil) ⟨D, ys, v10, rfl, rfl, hD10, hz, rfl⟩) fun _ s11 ⟨v11, H11, I11, _, e11⟩ => ?_
        subst e11
        exact ⟨m', hm, i + 1, ys ++ [v10], σ8, _, I11.unpinned, (back I11).1, (back I11).2, w10⟩
  subst hsD
  subst hD
  exact codeAny_compStart_list loop (T.self _ 0 _ _ _ st4 loop)
end L2

namespace L2
/-! two rising lists taken together, front by front -/
section
variable {α : Type} {R : α → α → Prop}
structure MI (R : α → α → Prop) (all out A B : List α) : Prop where
  perm : (out ++ (A ++ B)).Perm all
  so : out.Pairwise R
  la : ∀ x ∈ out, ∀ y ∈ A, R x y
  lb : ∀ x ∈ out, ∀ y ∈ B, R x y
  sa : A.Pairwise R
  sb : B.Pairwise R
theorem MI.lefts {all out X A B : List α} (h : MI R all out (X ++ A) B) (hx : ∀ x ∈ X, ∀ y ∈ B, R x y) : MI R all (out ++ X) A B := by
  obtain ⟨p, so, la, lb, sa, sb⟩ := h
  rw [List.pairwise_append] at sa
  refine ⟨?_, ?_, ?_, ?_, sa.2.1, sb⟩
  · simpa [List.append_assoc] using p
  · rw [List.pairwise_append]
    exact ⟨so, sa.1, fun x hx y hy => la x hx y (List.mem_append_left _ hy)⟩
  · intro x hm y hy
    rcases List.mem_append.mp hm with hm | hm
    · exact la x hm y (List.mem_append_right _ hy)
    · exact sa.2.2 x hm y hy
  · intro x hm y hy
    rcases List.mem_append.mp hm with hm | hm
    · exact lb x hm y hy
    · exact hx x hm y hy
theorem MI.flip {all out A B : List α} (h : MI R all out A B) : MI R all out B A :=
  ⟨(List.Perm.append_left _ List.perm_append_comm).trans h.perm, h.so, h.lb, h.la, h.sb, h.sa⟩
theorem MI.rights {all out X A B : List α} (h : MI R all out A (X ++ B)) (hx : ∀ x ∈ X, ∀ y ∈ A, R x y) : MI R all (out ++ X) A B := (h.flip.lefts hx).flip
theorem MI.left {x : α} {all out A B : List α} (h : MI R all out (x :: A) B) (hx : ∀ y ∈ B, R x y) : MI R all (out ++ [x]) A B :=
  MI.lefts (X := [x]) h fun z hz y hy => by rw [List.mem_singleton.mp hz]; exact hx y hy
/-- what is told of a merge -/
def MD (R : α → α → Prop) (all l : List α) : Prop := l.Perm all ∧ l.Pairwise R
theorem MI.doneA {all out A : List α} (h : MI R all out A []) : MD R all (out ++ A) := by
  refine ⟨by simpa using h.perm, ?_⟩
  rw [List.pairwise_append]
  exact ⟨h.so, h.sa, h.la⟩
theorem MI.last {all out A B : List α} (h : MI R all out A B) (hx : ∀ y ∈ B, ∀ x ∈ A, R y x) : MD R all (out ++ (B ++ A)) := by
  have h' : MI R all out A (B ++ []) := by rw [List.append_nil]; exact h
  have := (h'.rights hx).doneA
  rw [List.append_assoc] at this
  exact this
end
/-! runs that lie one behind the other -/
section
variable {α : Type} {R : α → α → Prop}
def RunsL (R : α → α → Prop) : List (Nat × Nat × Nat) → Nat → List α → Prop
  | [], _, l => l = []
  | (a, n, _) :: r, x, l => a = x ∧ 1 ≤ n ∧ ∃ S l', l = S ++ l' ∧ S.length = n ∧ S.Pairwise R ∧ RunsL R r (x + n) l'
theorem RunsL.append : ∀ {p q : List (Nat × Nat × Nat)} {x : Nat} {l m : List α}, RunsL R p x l → RunsL R q (x + l.length) m → RunsL R (p ++ q) x (l ++ m)
  | [], q, x, l, m, h1, h2 => by
    cases (h1 : l = [])
    exact h2
  | (a, n, w) :: p, q, x, l, m, h1, h2 => by
    obtain ⟨e, hn, S, l', rfl, hS, hp, h1⟩ := h1
    refine ⟨e, hn, S, l' ++ m, by rw [List.append_assoc], hS, hp, RunsL.append h1 ?_⟩
    rw [List.length_append, hS] at h2
    rw [Nat.add_assoc]; exact h2
theorem RunsL.split : ∀ {p q : List (Nat × Nat × Nat)} {x : Nat} {l : List α}, RunsL R (p ++ q) x l → ∃ l1 l2, l = l1 ++ l2 ∧ RunsL R p x l1 ∧ RunsL R q (x + l1.length) l2
  | [], q, x, l, h => ⟨[], l, rfl, rfl, h⟩
  | (a, n, w) :: p, q, x, l, h => by
    obtain ⟨e, hn, S, l', rfl, hS, hp, h⟩ := h
    obtain ⟨l1, l2, rfl, h1, h2⟩ := RunsL.split h
    refine ⟨S ++ l1, l2, by rw [List.append_assoc], ⟨e, hn, S, l1, rfl, hS, hp, h1⟩, ?_⟩
    rw [List.length_append, hS, ← Nat.add_assoc]; exact h2
theorem RunsL.len : ∀ {p : List (Nat × Nat × Nat)} {x : Nat} {l : List α}, RunsL R p x l → p.length ≤ l.length
  | [], _, _, _ => Nat.zero_le _
  | (a, n, w) :: p, x, l, h => by
    obtain ⟨e, hn, S, l', rfl, hS, hp, h⟩ := h
    have := RunsL.len h
    rw [List.length_append, List.length_cons]; omega
theorem RunsL.two {p q : List (Nat × Nat × Nat)} {u v : Nat × Nat × Nat} {l : List α} (h : RunsL R (p ++ u :: v :: q) 0 l) :
    ∃ l1 X Y l2, l = l1 ++ (X ++ (Y ++ l2)) ∧ u.1 = l1.length ∧ u.2.1 = X.length ∧ v.1 = l1.length + X.length ∧ v.2.1 = Y.length ∧ 1 ≤ X.length ∧ 1 ≤ Y.length ∧ X.Pairwise R ∧ Y.Pairwise R ∧
      ∀ M w, M.Pairwise R → M.length = X.length + Y.length → RunsL R (p ++ (u.1, u.2.1 + v.2.1, w) :: q) 0 (l1 ++ (M ++ l2)) := by
  obtain ⟨l1, l2, rfl, h1, h2⟩ := h.split
  obtain ⟨a, n, w⟩ := u
  obtain ⟨b, m, w2⟩ := v
  obtain ⟨e, hn, X, l', rfl, hX, hpX, e2, hm, Y, l2, rfl, hY, hpY, h3⟩ := h2
  refine ⟨l1, X, Y, l2, rfl, by rw [e]; exact Nat.zero_add _, hX.symm, by rw [e2, hX, Nat.zero_add], hY.symm, by omega, by omega, hpX, hpY, fun M w' hM hl => h1.append ⟨e, by show 1 ≤ n + m; omega, M, l2, rfl, by show M.length = n + m; omega, hM, ?_⟩⟩
  show RunsL R q (0 + l1.length + (n + m)) l2
  rw [← Nat.add_assoc]; exact h3
end
/-! a stretch written over -/
end L2

namespace L2
open PySem PyProof.Rows
section
variable {M : Model} {A : Around} {E : Value → Shared → Prop} {s : Shared}
end
section
variable {prog : Program} {w : World} {A : Around} {E : Value → Shared → Prop} {s : Shared} {O : KeyOrd} {key : Keyed → O.α} {D : Keyed → Prop} {κ : SortKind}
end
end L2

namespace L2
open PySem PyProof.Rows
theorem ext_list (l : Array Keyed) (i j : Nat) : (l.extract i j).toList = (l.toList.drop i).take (j - i) := by
  rw [Array.toList_extract]
theorem ext_all (l : Array Keyed) (i : Nat) : (l.extract i l.size).toList = l.toList.drop i := by
  rw [ext_list, List.take_of_length_le]
  rw [List.length_drop, Array.length_toList]; exact Nat.le_refl _
def Upw (O : KeyOrd) (key : Keyed → O.α) (x y : Keyed) : Prop := O.kle (key x) (key y)
/-- but for the gallop's least all stays -/
def SameS (st st' : SortSt) : Prop := kindOf st' = kindOf st ∧ arrOf st' = arrOf st ∧ pendingOf st' = pendingOf st ∧ failedOf st' = failedOf st
theorem SameS.refl (st : SortSt) : SameS st st := ⟨rfl, rfl, rfl, rfl⟩
theorem SameS.trans {s1 s2 s3 : SortSt} (h1 : SameS s1 s2) (h2 : SameS s2 s3) : SameS s1 s3 :=
  ⟨h2.1.trans h1.1, h2.2.1.trans h1.2.1, h2.2.2.1.trans h1.2.2.1, h2.2.2.2.trans h1.2.2.2⟩
section lo
variable {prog : Program} {w : World} {A : Around} {E : Value → Shared → Prop} {s : Shared} {O : KeyOrd} {key : Keyed → O.α} {D : Keyed → Prop} {κ : SortKind} {a b : Array Keyed}
structure MPre (O : KeyOrd) (key : Keyed → O.α) (D : Keyed → Prop) (a b : Array Keyed) : Prop where
  ua : a.toList.Pairwise (Upw O key)
  ub : b.toList.Pairwise (Upw O key)
  da : ∀ x ∈ a.toList, D x
  db : ∀ x ∈ b.toList, D x
  na : 1 ≤ a.size
  nb : 1 ≤ b.size
  first : ∀ (h1 : 0 < a.size) (h2 : 0 < b.size), O.kle (key b[0]) (key a[0])
  last : ∀ (h1 : a.size - 1 < a.size) (h2 : b.size - 1 < b.size), O.kle (key b[b.size - 1]) (key a[a.size - 1])
abbrev GI (O : KeyOrd) (key : Keyed → O.α) (a b o : Array Keyed) (i j : Nat) : Prop := MI (Upw O key) (a.toList ++ b.toList) o.toList (a.toList.drop i) (b.toList.drop j)
theorem GI.size {o : Array Keyed} {i j : Nat} (h : GI O key a b o i j) (hi : i ≤ a.size) (hj : j ≤ b.size) : o.size = i + j := by
  have := h.perm.length_eq
  simp only [List.length_append, List.length_drop, Array.length_toList] at this
  omega
def GF (O : KeyOrd) (key : Keyed → O.α) (a b r : Array Keyed) : Prop := MD (Upw O key) (a.toList ++ b.toList) r.toList
/-- between two turns -/
structure Go (O : KeyOrd) (key : Keyed → O.α) (a b o : Array Keyed) (i j : Nat) : Prop where
  gi : GI O key a b o i j
  hi : i + 1 < a.size
  hj : j < b.size
theorem GI.endB {o : Array Keyed} {i j : Nat} (g : GI O key a b o i j) (hj : j = b.size) : GF O key a b (o ++ a.extract i a.size ++ b.extract j b.size) := by
  unfold GI at g
  unfold GF
  rw [Array.toList_append, Array.toList_append, ext_all, ext_all]
  rw [show b.toList.drop j = [] by rw [List.drop_eq_nil_iff, Array.length_toList]; omega] at g ⊢
  rw [List.append_nil]
  exact g.doneA
end lo
end L2

namespace L2
open PySem PyProof.Rows
theorem ext_zero (l : Array Keyed) (i : Nat) : (l.extract 0 i).toList = l.toList.take i := by
  rw [ext_list]; rfl
section hi
variable {prog : Program} {w : World} {A : Around} {E : Value → Shared → Prop} {s : Shared} {O : KeyOrd} {key : Keyed → O.α} {D : Keyed → Prop} {κ : SortKind} {a b : Array Keyed}
def Dnw (O : KeyOrd) (key : Keyed → O.α) (x y : Keyed) : Prop := O.kle (key y) (key x)
abbrev HI (O : KeyOrd) (key : Keyed → O.α) (a b o : Array Keyed) (i j : Nat) : Prop := MI (Dnw O key) (a.toList ++ b.toList) o.toList (a.toList.take i).reverse (b.toList.take j).reverse
theorem HI.size {o : Array Keyed} {i j : Nat} (h : HI O key a b o i j) (hi : i ≤ a.size) (hj : j ≤ b.size) : o.size + i + j = a.size + b.size := by
  have := h.perm.length_eq
  simp only [List.length_append, List.length_reverse, List.length_take, Array.length_toList] at this
  omega
theorem MD.rev {R : Keyed → Keyed → Prop} {all l : List Keyed} (h : MD (fun x y => R y x) all l) : MD R all l.reverse := ⟨(List.reverse_perm l).trans h.1, by rw [List.pairwise_reverse]; exact h.2⟩
/-- between two turns -/
structure Ho (O : KeyOrd) (key : Keyed → O.α) (a b o : Array Keyed) (i j : Nat) : Prop where
  gi : HI O key a b o i j
  i0 : 0 < i
  hi : i ≤ a.size
  j0 : 1 < j
  hj : j ≤ b.size
theorem HI.endB {o : Array Keyed} {i j : Nat} (g : HI O key a b o i j) (hj : j = 0) : GF O key a b (a.extract 0 i ++ b.extract 0 j ++ o.reverse) := by
  subst hj
  unfold HI at g
  unfold GF
  rw [Array.toList_append, Array.toList_append, Array.toList_reverse, ext_zero, ext_zero]
  rw [List.take_zero, List.reverse_nil] at g
  have := (g.doneA).rev
  rw [List.reverse_append, List.reverse_reverse] at this
  rw [List.take_zero, List.append_nil]
  exact this
end hi
end L2

namespace L2
open PySem PyProof.Rows
section
variable {prog : Program} {w : World} {A : Around} {E : Value → Shared → Prop} {s : Shared} {O : KeyOrd} {key : Keyed → O.α} {D : Keyed → Prop} {κ : SortKind}
end
end L2

namespace L2
open PySem PyProof.Rows
section
variable {prog : Program} {w : World} {A : Around} {E : Value → Shared → Prop} {s : Shared} {O : KeyOrd} {key : Keyed → O.α} {D : Keyed → Prop} {κ : SortKind} {a₀ : Array Keyed} {pd : Array (Nat × Nat × Nat)} {lo : Nat}
def kb {O : KeyOrd} (key : Keyed → O.α) (p : Array Keyed) (i : Nat) : O.α := key (p.getD i (Value.none, Value.none))
def UpS {O : KeyOrd} (key : Keyed → O.α) (p : Array Keyed) (lo hi : Nat) : Prop := ∀ i j, lo ≤ i → i ≤ j → j < hi → O.kle (kb key p i) (kb key p j)
def DnS {O : KeyOrd} (key : Keyed → O.α) (p : Array Keyed) (lo hi : Nat) : Prop := ∀ i j, lo ≤ i → i ≤ j → j < hi → O.kle (kb key p j) (kb key p i)
structure Bs (κ : SortKind) (a₀ : Array Keyed) (pd : Array (Nat × Nat × Nat)) (lo : Nat) (st : SortSt) : Prop where
  perm : (arrOf st).Perm a₀
  kind : kindOf st = κ
  failed : failedOf st = none
  pend : pendingOf st = pd
  pre : ∀ i, i < lo → (arrOf st)[i]? = a₀[i]?
theorem Bs.size {st : SortSt} (h : Bs κ a₀ pd lo st) : (arrOf st).size = a₀.size := h.perm.size_eq
theorem Bs.rev {st : SortSt} (h : Bs κ a₀ pd lo st) {i j : Nat} (hi : lo ≤ i) (hj : j ≤ a₀.size) : Bs κ a₀ pd lo (setArr st (mirror (arrOf st) i j ((j - i) / 2))) :=
  ⟨(mirror_perm _ _ _ _).trans h.perm, h.kind, h.failed, h.pend, fun k hk => by
    show (mirror (arrOf st) i j ((j - i) / 2))[k]? = _
    rw [getElem?_mirror_all (by rw [h.size]; exact hj), if_neg (by omega)]; exact h.pre k hk⟩
theorem UpS.more {p : Array Keyed} {k : Nat} (h : UpS key p lo k) (hk : O.blt (kb key p k) (kb key p (k - 1)) = false) : UpS key p lo (k + 1) := by
  intro i j hl hij hj
  by_cases hjk : j < k
  · exact h i j hl hij hjk
  · obtain rfl : j = k := by omega
    by_cases hi : i = j
    · rw [hi]; exact KeyOrd.kle_refl _
    · exact KeyOrd.kle_trans (h i (j - 1) hl (by omega) (by omega)) hk
theorem DnS.more {p q : Array Keyed} {k : Nat} (h : DnS key p lo k) (e : ∀ i, kb key q i = kb key p i) (hk : O.kle (kb key p k) (kb key p (k - 1))) : DnS key q lo (k + 1) := by
  intro i j hl hij hj
  rw [e, e]
  by_cases hjk : j < k
  · exact h i j hl hij hjk
  · obtain rfl : j = k := by omega
    by_cases hi : i = j
    · rw [hi]; exact KeyOrd.kle_refl _
    · exact KeyOrd.kle_trans hk (h i (j - 1) hl (by omega) (by omega))
end
end L2

namespace L2
open PySem PyProof.Rows
section
variable {prog : Program} {w : World} {A : Around} {E : Value → Shared → Prop} {s : Shared} {O : KeyOrd} {key : Keyed → O.α} {D : Keyed → Prop} {κ : SortKind} {a₀ : Array Keyed} {pd : Array (Nat × Nat × Nat)} {lo : Nat}
structure RJ (O : KeyOrd) (key : Keyed → O.α) (κ : SortKind) (a₀ : Array Keyed) (tl : List Keyed) (m : Nat) (st : SortSt) : Prop where
  perm : (arrOf st).toList.Perm a₀.toList
  kind : kindOf st = κ
  failed : failedOf st = none
  runs : ∃ C, (arrOf st).toList = C ++ tl ∧ C.length = m ∧ RunsL (Upw O key) (pendingOf st).toList 0 C
theorem RJ.push {st : SortSt} {S rest : List Keyed} {lo n : Nat} (h : RJ O key κ a₀ (S ++ rest) lo st) (hS : S.length = n) (hn : 1 ≤ n) (hu : S.Pairwise (Upw O key)) : RJ O key κ a₀ rest (lo + n) (setPending st ((pendingOf st).push (lo, n, 0))) := by
  obtain ⟨hp, hk, hf', C, hC, hm, hr⟩ := h
  refine ⟨hp, hk, hf', C ++ S, by show (arrOf st).toList = _; rw [hC]; simp, by rw [List.length_append]; omega, ?_⟩
  show RunsL (Upw O key) ((pendingOf st).push (lo, n, 0)).toList 0 (C ++ S)
  rw [Array.toList_push]
  refine hr.append ⟨by show lo = 0 + C.length; omega, hn, S, [], by simp, hS, hu, rfl⟩
end
end L2

namespace L2
open PySem PySem.W PyProof.Rows
/-! sorted() of lists of any length -/
structure Sorts (prog : Program) (w : World) (A : Around) (s : Shared) (κ : SortKind) {O : KeyOrd} (key : Value → O.α) (vs : List Value) : Prop where
  kind : ∀ (E : Value → Shared → Prop) (Q : SortKind → Shared → Prop), Q κ s → wpAny (model prog w) A (keyKind' vs.toArray) Q E s
  cmp : ∀ x ∈ vs, ∀ y ∈ vs, ∀ C : Bool → Shared → Prop, C (O.blt (key x) (key y)) s → wpAny (model prog w) A (keyLt' κ x y) C (fun _ _ => False) s
section
variable {prog : Program} {w : World} {A : Around} {E : Value → Shared → Prop} {s : Shared} {vs : List Value} {O : KeyOrd} {key : Value → O.α} {κ : SortKind}
end
theorem TupsH.kept {h h' : Heap} {rs : List RA} (t : TupsH h rs) (kp : ∀ b o, h.get? b = some o → h'.get? b = some o) : TupsH h' rs := fun x hx => by
  obtain ⟨o, t1, u1, n, ho, z⟩ := t x hx
  exact ⟨o, t1, u1, n, kp _ _ ho, z⟩
section
variable {X : Cx}
end
end L2

namespace L2
open PySem PySem.W PyProof.Rows
section
variable {prog : Program} {w : World} {A : Around} {E : Value → Shared → Prop} {s : Shared}
theorem collect_src {T : String} {r d : Addr} {n : Nat} {P : Nat → Value → Prop} {OK : Heap → Prop} {Q : List Value → Shared → Prop} (S : KdlSrc prog w T r d n P OK) (hh : A.handled = none) (hok : OK s.heap) (hn : n ≤ sizeLine)
    (h : ∀ h' tk (acc : Array Value), (∀ b o, s.heap.get? b = some o → h'.get? b = some o) → s.heap.objs.size ≤ h'.objs.size → ItemsOf P acc n → Q acc.toList { s with heap := h', toks := tk }) : wpAny (model prog w) A (collect (.ref r)) Q E s := by
  unfold collect
  refine wpAny_bind (wpAny_runValue (codeAny_builtin entry_proto_collect' ?_))
  show wpAny _ _ (do again (.builtin "list.__iadd__" ⟨[← newList [], .ref r], []⟩)) _ _ s
  refine wpAny_bind (wpAny_newList (wpAny_pure ⟨Code.quiet_builtin _ (by decide +kernel), codeAny_builtin entry_list_iadd' ?_⟩))
  show wpAny _ _ (Builtin.List.listExtendWith (.ref s.heap.objs.size) (.ref r) (.ref s.heap.objs.size)) _ _ { s with heap := s.heap.push (seqObj "list" #[] 0) }
  have hS : (s.heap.push (seqObj "list" #[] 0)).get? s.heap.objs.size = some { cls := .type "list", data := .seq #[] 0 } := Heap.get?_push_size _ rfl
  rw [Around.under_plainId PySem.F.plain_list_iadd _]
  refine kdl_extend (A := A) (R := fun r s' => match r with
      | Except.ok (Flow.ret v) => wpAny (model prog w) A (match v with
        | .ref a => do match (← load a).data with
          | .seq xs _ => pure xs.toList
          | _ => unsupported "internal:collect"
        | _ => unsupported "internal:collect") Q E s'
      | Except.ok _ => False
      | Except.error e => E e s') (s := { s with heap := s.heap.push (seqObj "list" #[] 0) }) S hh (S.keep _ _ hok fun b _ o e => Heap.get?_push_of_some _ e) s.heap.objs.size (Nat.ne_of_gt (S.there _ hok).1) (Nat.ne_of_gt (S.there _ hok).2) (.ref s.heap.objs.size) 0 hS (fun h' tk acc c' hk hS' hacc => ?_) hn
  show wpAny (model prog w) A (do
      let o ← load s.heap.objs.size
      match o.data with
      | .seq xs _ => pure xs.toList
      | _ => unsupported "internal:collect") Q E { s with heap := h', toks := tk }
  refine wpAny_bind (wpAny_load hS' ?_)
  exact wpAny_pure (h h' tk acc (fun b o e => hk b o (Nat.ne_of_lt (Heap.lt_size e)) (Heap.get?_push_of_some _ e)) (Nat.le_of_lt (Heap.lt_size hS')) hacc)
end
def numH : Value → Int
  | .int i _ => i
  | _ => 0
section
variable {X : Cx}
end
end L2

namespace L2
open PySem PySem.W PyProof.Rows
/-- places that rise -/
def Rises (xs : List Nat) : Prop := xs.Pairwise (· < ·)
theorem Rises.le {xs : Array Nat} (h : Rises xs.toList) {i k x y : Nat} (hi : xs[i]? = some x) (hk : xs[k]? = some y) (l : i ≤ k) : x ≤ y := by
  rcases Nat.lt_or_ge i k with l' | l'
  · rw [← Array.getElem?_toList] at hi hk
    obtain ⟨a, rfl⟩ := List.getElem?_eq_some_iff.mp hi
    obtain ⟨b, rfl⟩ := List.getElem?_eq_some_iff.mp hk
    exact Nat.le_of_lt (List.pairwise_iff_getElem.mp h i k a b l')
  · have e : i = k := by omega
    subst e
    rw [hi] at hk
    have := Option.some.inj hk
    omega
theorem below_go {xs : Array Nat} (hx : Rises xs.toList) {j : Nat} : ∀ (f lo hi : Nat), lo ≤ hi → hi ≤ xs.size → hi - lo ≤ f → (∀ i x, i < lo → xs[i]? = some x → x < j) → (∀ i x, hi ≤ i → xs[i]? = some x → j ≤ x) →
    (SetTable.below.go xs j f lo hi) ≤ xs.size ∧ (∀ i x, i < SetTable.below.go xs j f lo hi → xs[i]? = some x → x < j) ∧ (∀ i x, SetTable.below.go xs j f lo hi ≤ i → xs[i]? = some x → j ≤ x) := by
  intro f
  induction f with
  | zero =>
    intro lo hi h1 h2 h3 a b
    have e : lo = hi := by omega
    subst e
    exact ⟨h2, a, b⟩
  | succ f ih =>
    intro lo hi h1 h2 h3 a b
    unfold SetTable.below.go
    split
    · rename_i hl
      have hm : (lo + hi) / 2 < xs.size := by omega
      have em : xs[(lo + hi) / 2]? = some (xs[(lo + hi) / 2]) := Array.getElem?_eq_getElem hm
      have eg : xs.getD ((lo + hi) / 2) j = xs[(lo + hi) / 2] := by unfold Array.getD; rw [dif_pos hm]; rfl
      dsimp only
      rw [eg]
      split
      · rename_i hj
        refine ih _ _ (by omega) h2 (by omega) (fun i x hi' hxx => ?_) b
        exact Nat.lt_of_le_of_lt (hx.le hxx em (by omega)) hj
      · rename_i hj
        refine ih _ _ (by omega) (by omega) (by omega) a (fun i x hi' hxx => ?_)
        have := hx.le em hxx hi'
        omega
    · have e : lo = hi := by omega
      subst e
      exact ⟨h2, a, b⟩
theorem below_at {xs : Array Nat} (hx : Rises xs.toList) (j : Nat) : SetTable.below xs j ≤ xs.size ∧ (∀ i x, i < SetTable.below xs j → xs[i]? = some x → x < j) ∧ (∀ i x, SetTable.below xs j ≤ i → xs[i]? = some x → j ≤ x) := by
  unfold SetTable.below
  refine below_go hx _ _ _ (Nat.zero_le _) (Nat.le_refl _) (Nat.le_refl _) (fun i x h => absurd h (Nat.not_lt_zero _)) (fun i x h e => ?_)
  rw [Array.getElem?_eq_none h] at e
  cases e
/-- the place behind the i-th one is the next one's -/
theorem below_next {xs : Array Nat} (hx : Rises xs.toList) {i p : Nat} (h : xs[i]? = some p) : SetTable.below xs (p + 1) = i + 1 := by
  obtain ⟨b0, b1, b2⟩ := below_at hx (p + 1)
  rcases Nat.lt_trichotomy (SetTable.below xs (p + 1)) (i + 1) with l | l | l
  · have := b2 i p (by omega) h
    omega
  · exact l
  · have hs : i + 1 < xs.size := by omega
    have e1 := Array.getElem?_eq_getElem hs
    have := b1 (i + 1) _ l e1
    have hi : i < xs.size := by omega
    have e0 := Array.getElem?_eq_getElem hi
    rw [e0] at h
    have hp := Option.some.inj h
    have hlt : xs[i] < xs[i + 1] := by
      have := List.pairwise_iff_getElem.mp hx i (i + 1) (by simpa using hi) (by simpa using hs) (Nat.lt_succ_self _)
      simpa using this
    omega
theorem below_zero {xs : Array Nat} (hx : Rises xs.toList) : SetTable.below xs 0 = 0 := by
  obtain ⟨b0, b1, b2⟩ := below_at hx 0
  rcases Nat.eq_zero_or_pos (SetTable.below xs 0) with e | e
  · exact e
  · have hs : 0 < xs.size := by omega
    exact absurd (b1 0 _ e (Array.getElem?_eq_getElem hs)) (Nat.not_lt_zero _)
/-- what is no live slot has no place -/
theorem slot_free {t : SetTable} (ht : Rises t.place.toList) {j : Nat} (h : ∀ i, t.slot j ≠ .live i) : j ∉ t.place.toList := by
  intro hm
  obtain ⟨i, hi⟩ := List.getElem?_of_mem hm
  rw [Array.getElem?_toList] at hi
  obtain ⟨b0, b1, b2⟩ := below_at ht j
  have hbi : SetTable.below t.place j ≤ i := by
    rcases Nat.lt_or_ge i (SetTable.below t.place j) with l | l
    · exact absurd (b1 i j l hi) (Nat.lt_irrefl _)
    · exact l
  have his : i < t.place.size := by
    rcases Nat.lt_or_ge i t.place.size with l | l
    · exact l
    · rw [Array.getElem?_eq_none l] at hi; cases hi
  have eb := Array.getElem?_eq_getElem (show SetTable.below t.place j < t.place.size by omega)
  have e1 := b2 _ _ (Nat.le_refl _) eb
  have e2 := ht.le eb hi hbi
  refine h (SetTable.below t.place j) ?_
  unfold SetTable.slot
  dsimp only
  rw [eb, show t.place[SetTable.below t.place j] = j from by omega]
  simp
theorem put_up {t : SetTable} (ht : Rises t.place.toList) {j : Nat} (h : j ∉ t.place.toList) : Rises (t.put j).1.place.toList := by
  show Rises (SetTable.insertAt t.place (SetTable.below t.place j) j).toList
  rw [SetTable.toList_insertAt]
  obtain ⟨b0, b1, b2⟩ := below_at ht j
  have lo : ∀ x ∈ t.place.toList.take (SetTable.below t.place j), x < j := fun x hx => by
    obtain ⟨i, hi⟩ := List.getElem?_of_mem hx
    rw [List.getElem?_take] at hi
    split at hi
    · rename_i hl
      rw [Array.getElem?_toList] at hi
      exact b1 i x hl hi
    · cases hi
  have hi : ∀ x ∈ t.place.toList.drop (SetTable.below t.place j), j < x := fun x hx => by
    have hm := List.mem_of_mem_drop hx
    obtain ⟨i, hi⟩ := List.getElem?_of_mem hx
    rw [List.getElem?_drop, Array.getElem?_toList] at hi
    have := b2 _ x (Nat.le_add_right _ _) hi
    rcases Nat.lt_or_ge j x with l | l
    · exact l
    · exact absurd (show j = x by omega) (fun z => h (by rw [z]; exact hm))
  have e : Rises (t.place.toList.take (SetTable.below t.place j) ++ t.place.toList.drop (SetTable.below t.place j)) := by rw [List.take_append_drop]; exact ht
  obtain ⟨e1, e2, _⟩ := List.pairwise_append.mp e
  refine List.pairwise_append.mpr ⟨e1, List.pairwise_cons.mpr ⟨hi, e2⟩, fun a ha b hb => ?_⟩
  rcases List.mem_cons.mp hb with rfl | hb
  · exact lo a ha
  · exact Nat.lt_trans (lo a ha) (hi b hb)
theorem probe_free {t : SetTable} {h : Int} : ∀ (f : Nat) (p : SetTable.Probe), (∀ d, p.dummy = some d → t.slot d = .dummy) → ∀ j dm, SetTable.probe.go t (fun _ => h + 1) h f p = some (.empty j dm) → t.slot j = .empty ∧ ∀ d, dm = some d → t.slot d = .dummy := by
  intro f
  induction f with
  | zero => intro p _ j dm e; cases e
  | succ f ih =>
    intro p hp j dm e
    have adv : ∀ (q : SetTable.Probe), (t.advance q).dummy = q.dummy := fun q => by unfold SetTable.advance; split <;> rfl
    unfold SetTable.probe.go at e
    split at e
    · rename_i hs
      injection e with e
      injection e with e1 e2
      subst e1; subst e2
      exact ⟨hs, hp⟩
    · rename_i hs
      refine ih _ (fun d hd => ?_) j dm e
      rw [adv] at hd
      injection hd with hd
      rw [← hd]
      exact hs
    · rw [if_neg (by simp; omega)] at e
      refine ih _ (fun d hd => ?_) j dm e
      rw [adv] at hd
      exact hp d hd
theorem freeSlot_free {t : SetTable} (ht : Rises t.place.toList) {h : Int} {j : Nat} {b : Bool} (e : t.freeSlot h = some (j, b)) : j ∉ t.place.toList := by
  unfold SetTable.freeSlot at e
  split at e
  · rename_i j0 dm hp
    injection e with e
    obtain ⟨s1, s2⟩ := probe_free _ _ (fun d hd => by cases hd) _ _ hp
    injection e with e1 e2
    cases dm with
    | none =>
      have e1' : j0 = j := e1
      subst e1'
      exact slot_free ht fun i z => by rw [s1] at z; cases z
    | some d =>
      have e1' : d = j := e1
      subst e1'
      exact slot_free ht fun i z => by rw [s2 d rfl] at z; cases z
  · cases e
/-- a table whose places rise, of a maker led or not -/
def TbOk (b : Bool) (t : SetTable) : Prop := Rises t.place.toList ∧ t.led = b
theorem range_up : ∀ n, Rises (Array.range n).toList := fun n => by
  rw [Array.toList_range]
  exact List.pairwise_lt_range
theorem standIn_good {b : Bool} {t : SetTable} (n : Nat) (h : TbOk b t) : TbOk b (t.standIn n) := ⟨range_up n, h.2⟩
theorem orStandIn_good {b : Bool} {t : SetTable} (n : Nat) (h : TbOk b t) : TbOk b (t.orStandIn n) := by
  unfold SetTable.orStandIn
  split
  · exact h
  · exact standIn_good n h
theorem layNew_good {b : Bool} {t : SetTable} (h : TbOk b t) (es : Array (Int × Value)) (k : Int) (x : Value) : TbOk b (layNew t es k x).2.1 := by
  unfold layNew
  split
  · rename_i j wd hf
    exact orStandIn_good _ ⟨put_up h.1 (freeSlot_free h.1 hf), h.2⟩
  · exact standIn_good _ h
theorem live_up {f : Nat → Option Nat} : ∀ (n : Nat), Rises (((List.range n).filterMap fun j => (f j).map (j, ·)).map (·.1)) := by
  intro n
  have hr : (List.range n).Pairwise (· < ·) := List.pairwise_lt_range
  generalize List.range n = l at hr
  induction l with
  | nil => exact .nil
  | cons a l ih =>
    obtain ⟨h1, h2⟩ := List.pairwise_cons.mp hr
    cases hf : f a with
    | none => rw [List.filterMap_cons_none (by rw [hf]; rfl)]; exact ih h2
    | some v =>
      rw [List.filterMap_cons_some (b := (a, v)) (by rw [hf]; rfl), List.map_cons]
      refine List.pairwise_cons.mpr ⟨fun x hx => ?_, ih h2⟩
      obtain ⟨⟨y, z⟩, hy, rfl⟩ := List.mem_map.mp hx
      obtain ⟨c, hc, e⟩ := List.mem_filterMap.mp hy
      obtain ⟨_, _, e⟩ := Option.map_eq_some_iff.mp e
      injection e with e1 e2
      subst e1
      exact h1 _ hc
theorem relayAll_good {b : Bool} {t : SetTable} (h : TbOk b t) (es : Array (Int × Value)) (k : Nat) : TbOk b (relayAll t es k).2.1 := by
  unfold relayAll
  split
  · rename_i t' order hr
    dsimp only
    split
    · unfold SetTable.relaid SetTable.laid at hr
      obtain ⟨ow, _, e⟩ := Option.bind_eq_some_iff.mp hr
      have e' := Option.some.inj e
      have e1 := congrArg Prod.fst e'
      dsimp only at e1
      rw [← e1]
      exact ⟨live_up _, h.2⟩
    · exact standIn_good _ h
  · exact standIn_good _ h
end L2

namespace L2
open PySem PySem.W PyProof.Rows
/-- whether sets go by their places -/
def leds (w : World) : Bool := !w.params.followText "set-order"
section
variable (prog : Program) (w : World)
/-- entries and table of a set of the whole numbers ds -/
structure SetP (es : Array (Int × Value)) (t : SetTable) (ds : List Int) : Prop where
  el : ElemsOf (intKind prog w) es.toList
  ks : (es.toList.map fun e => numH e.2).Perm ds
  nd : ds.Nodup
  sz : es.size < scanBound
  ft : t.fits es.size = true
  tb : TbOk (leds w) t
def setObj (es : Array (Int × Value)) (ep : Nat) (t : SetTable) : Obj := { cls := .type "set", dict := none, data := .set es ep t }
/-- a set of the whole numbers ds -/
def SetI (a : Addr) (ds : List Int) (h : Heap) : Prop := ∃ es ep t, h.get? a = some (setObj es ep t) ∧ SetP prog w es t ds
end
section
variable {prog : Program} {w : World} {A : Around} {E : Value → Shared → Prop} {s : Shared} {es : Array (Int × Value)} {t : SetTable} {ds : List Int} {a : Addr}
theorem SetP.len (h : SetP prog w es t ds) : ds.length = es.size := by rw [← h.ks.length_eq, List.length_map, Array.length_toList]
theorem SetP.ints (h : SetP prog w es t ds) : ∀ e ∈ es.toList, ∃ k u, e.2 = .int k u := fun e he => by
  obtain ⟨⟨k, hk, _⟩, _⟩ := h.el e he
  obtain ⟨u, e⟩ := Value.isInt_shape (show Value.isInt k e.2 = true from hk)
  exact ⟨k, u, e⟩
theorem SetP.has (h : SetP prog w es t ds) (k : Int) : (∃ e ∈ es.toList, (intKind prog w).is k e.2 = true) ↔ k ∈ ds := by
  rw [← h.ks.mem_iff, List.mem_map]
  constructor
  · rintro ⟨e, he, hk⟩
    refine ⟨e, he, ?_⟩
    obtain ⟨u, e'⟩ := Value.isInt_shape (show Value.isInt k e.2 = true from hk)
    rw [e']; rfl
  · rintro ⟨e, he, hk⟩
    refine ⟨e, he, ?_⟩
    obtain ⟨m, u, e'⟩ := h.ints e he
    rw [e'] at hk ⊢
    have hk' : m = k := hk
    rw [hk']
    exact intKind_is prog w k u
theorem SetP.more (h : SetP prog w es t ds) {k : Int} (u : Tok) (hk : k ∉ ds) (hr : ds.length + 1 < scanBound) : SetP prog w (layNew t es (hashInt k) (.int k u)).1 (layNew t es (hashInt k) (.int k u)).2.1 (ds ++ [k]) := by
  have hp := layNew_perm t es (hashInt k) (.int k u)
  rw [Array.toList_push] at hp
  have hl := h.len
  refine ⟨(h.el.push (k := k) (intKind_is prog w k u) rfl).perm hp, ?_, ?_, ?_, layNew_fits .., layNew_good h.tb ..⟩
  · refine (hp.map _).trans ?_
    rw [List.map_append]
    exact h.ks.append_right _
  · refine List.nodup_append.mpr ⟨h.nd, List.nodup_cons.mpr ⟨List.not_mem_nil, .nil⟩, fun x hx y hy => ?_⟩
    rw [List.mem_singleton] at hy
    subst hy
    exact fun z => hk (by rw [← z]; exact hx)
  · rw [← Array.length_toList, hp.length_eq, List.length_append, Array.length_toList]
    show es.size + 1 < scanBound
    omega
theorem SetP.relay (h : SetP prog w es t ds) (n : Nat) : SetP prog w (relayAll t es n).1 (relayAll t es n).2.1 ds := by
  have hp := relayAll_perm t es n
  refine ⟨h.el.perm hp, (hp.map _).trans h.ks, h.nd, ?_, relayAll_fits .., relayAll_good h.tb ..⟩
  rw [← Array.length_toList, hp.length_eq, Array.length_toList]
  exact h.sz
theorem SetP.fresh : SetP prog w #[] (.fresh 0 0 (leds w)) [] := by
  refine ⟨fun e z => by simp at z, List.Perm.nil, List.Pairwise.nil, by decide, rfl, List.Pairwise.nil, rfl⟩
theorem stored {h : Heap} {ep : Nat} {es' : Array (Int × Value)} {t' : SetTable} (ho : h.get? a = some (setObj es ep t)) : (h.update a (Obj.putSet es' t')).get? a = some (setObj es' (ep + 1) t') :=
  Heap.get?_update_self (Obj.putSet es' t') ho rfl
/-- one more whole number -/
theorem wp_setAddI {k : Int} {u : Tok} {Q : Bool → Shared → Prop} (hS : SetI prog w a ds s.heap) (hr : ds.length + 1 < scanBound)
    (h : ∀ h', Heap.SameBut a s.heap h' → SetI prog w a (if k ∈ ds then ds else ds ++ [k]) h' → Q (decide (k ∉ ds)) { s with heap := h' }) :
    wpAny (model prog w) A (setAddHashed a (.int k u) (hashInt k)) Q E s := by
  obtain ⟨es, ep, t, ho, P⟩ := hS
  have hk : (intKind prog w).is k (.int k u) = true := intKind_is prog w k u
  unfold setAddHashed setAddHashedIn
  refine wpAny_holding (wpAny_bind (wpAny_setState_of ho rfl P.ft ?_))
  dsimp only
  rw [if_pos (byScan_of (knd := intKind prog w) rfl P.sz P.el)]
  unfold setAddByScan
  refine wpAny_bind (wpAny_bind (wpAny_rule (wpAny_bind (wpAny_setScan_of (knd := intKind prog w) hk ho rfl P.ft P.el ?_))))
  cases hf : es.toList.findIdx? (fun e => (intKind prog w).is k e.2) with
  | some j =>
    obtain ⟨hj, hpj, _⟩ := List.findIdx?_eq_some_iff_getElem.mp hf
    have hm : k ∈ ds := (P.has k).mp ⟨_, List.getElem_mem hj, hpj⟩
    refine wpAny_pure (wpAny_pure ?_)
    have z := h s.heap (Heap.SameBut.refl a s.heap) ⟨es, ep, t, ho, by rw [if_pos hm]; exact P⟩
    rw [decide_eq_false (fun c => c hm)] at z
    exact z
  | none =>
    have hm : k ∉ ds := fun z => by
      obtain ⟨e, he, w'⟩ := (P.has k).mpr z
      have := List.findIdx?_eq_none_iff.mp hf e he
      rw [w'] at this
      cases this
    have P1 := P.more u hm hr
    dsimp only
    generalize layNew t es (hashInt k) (.int k u) = L at P1 ⊢
    obtain ⟨es1, t1, wd, gv⟩ := L
    dsimp only at P1 ⊢
    have fin : ∀ h', Heap.SameBut a s.heap h' → SetI prog w a (ds ++ [k]) h' → Q true { s with heap := h' } := fun h' sb S' => by
      have z := h h' sb (by rw [if_neg hm]; exact S')
      rw [decide_eq_true hm] at z
      exact z
    refine wpAny_bind (wpAny_mono (Q := fun _ s' => s' = s) (E := E) (by cases gv <;> first | exact wpAny_pure rfl | exact wpAny_rule rfl) (fun _ s' e => ?_) fun _ _ z => z)
    subst e
    refine wpAny_ite_split (fun _ => wpAny_bind (wpAny_pure ?_)) (fun _ => wpAny_bind (wpAny_pure ?_))
    all_goals
      simp only [↓reduceIte]
      refine wpAny_bind (wpAny_storeSet_of ho rfl ?_ (fits_of_scanBound P1.sz))
      have o1 := stored (es' := es1) (t' := t1) ho
      have sb1 := Heap.SameBut.update s'.heap a (Obj.putSet es1 t1)
      split
      · have P2 := P1.relay (SetTable.grown es1.size)
        generalize relayAll t1 es1 (SetTable.grown es1.size) = L at P2 ⊢
        obtain ⟨es2, t2, gv2⟩ := L
        dsimp only at P2 ⊢
        refine wpAny_bind (wpAny_mono (Q := fun _ s2 => s2 = { s' with heap := s'.heap.update a (Obj.putSet es1 t1) }) (E := E) (by cases gv2 <;> first | exact wpAny_pure rfl | exact wpAny_rule rfl) (fun _ s2 e => ?_) fun _ _ z => z)
        subst e
        refine wpAny_bind (wpAny_storeSet_of o1 rfl ?_ (fits_of_scanBound P2.sz))
        refine wpAny_pure (wpAny_pure ?_)
        exact fin _ (sb1.trans (Heap.SameBut.update _ a _)) ⟨_, _, _, stored o1, P2⟩
      · refine wpAny_pure (wpAny_pure ?_)
        exact fin _ sb1 ⟨_, _, _, o1, P1⟩
end
end L2

namespace L2
open PySem PySem.W PyProof.Rows
def ins (ds : List Int) (k : Int) : List Int := if k ∈ ds then ds else ds ++ [k]
theorem ins_len (ds : List Int) (k : Int) : (ins ds k).length ≤ ds.length + 1 := by
  unfold ins
  split
  · exact Nat.le_succ _
  · rw [List.length_append]; exact Nat.le_refl _
theorem ins_mem {ds : List Int} {k x : Int} : x ∈ ins ds k ↔ x ∈ ds ∨ x = k := by
  unfold ins
  split
  · rename_i h
    exact ⟨.inl, fun z => z.elim id fun e => by rw [e]; exact h⟩
  · rw [List.mem_append, List.mem_singleton]
theorem folds_mem {x : Int} : ∀ (ns ds : List Int), x ∈ ns.foldl ins ds ↔ x ∈ ds ∨ x ∈ ns
  | [], ds => by simp
  | n :: ns, ds => by
    rw [List.foldl_cons, folds_mem ns, ins_mem, List.mem_cons]
    constructor
    · rintro ((h | h) | h)
      · exact .inl h
      · exact .inr (.inl h)
      · exact .inr (.inr h)
    · rintro (h | h | h)
      · exact .inl (.inl h)
      · exact .inl (.inr h)
      · exact .inr h
theorem SetI.at' {prog : Program} {w : World} {a : Addr} {ds : List Int} {h h' : Heap} (x : SetI prog w a ds h) (k : ∀ o, h.get? a = some o → h'.get? a = some o) : SetI prog w a ds h' :=
  let ⟨es, ep, t, ho, P⟩ := x
  ⟨es, ep, t, k _ ho, P⟩
section
variable {prog : Program} {w : World} {A : Around} {R : Result → Shared → Prop} {I : Addr} {fp wr : List Addr} {G : Array GenState → Array GenState → Prop} {n : Nat} {P : Nat → Value → Prop} {St : Nat → Shared → Prop}
theorem loop_setI (W : WalksS prog w A.in1 I fp wr G n P St) (S : Addr) (hSf : S ∉ fp) : ∀ (rest : List Int) (i : Nat) (ds : List Int) (s : Shared), i + rest.length = n → (∀ j k, rest[j]? = some k → ∀ v, P (i + j) v → ∃ t, v = .int k t) → ds.length + rest.length < scanBound → St i s → SetI prog w S ds s.heap →
    (∀ s', Moved (S :: wr) G s s' → SetI prog w S (rest.foldl ins ds) s'.heap → R (.ok (.ret .none)) s') → codeAny (model prog w) A (.builtin "set.update.loop" ⟨[.ref S, .ref I], []⟩) R s := by
  have off : S ∉ wr := fun z => hSf (W.sub _ z)
  have sub : ∀ b ∈ wr, b ∈ S :: wr := fun b hb => List.mem_cons_of_mem _ hb
  intro rest
  induction rest with
  | nil =>
    intro i ds s hi _ _ st hS hR
    have e : i = n := hi
    subst e
    refine codeAny_builtin F.entry_set_update_loop ?_
    rw [Around.under_plainId F.plain_set_update_loop _]
    show wpAny _ A.in1 (pyNext (.ref I) >>= _) _ _ s
    refine wpAny_bind (W.done s _ _ st fun s' m => ?_)
    exact wpAny_pure (hR s' (m.mono sub) (hS.at' fun o e => m.heap S o off e))
  | cons k rest ih =>
    intro i ds s hi hv hz st hS hR
    have hlt : i < n := by simp at hi; omega
    refine codeAny_builtin F.entry_set_update_loop ?_
    rw [Around.under_plainId F.plain_set_update_loop _]
    show wpAny _ A.in1 (pyNext (.ref I) >>= _) _ _ s
    refine wpAny_bind (W.item i s _ _ hlt st fun v s' hP st' m => ?_)
    obtain ⟨t, rfl⟩ := hv 0 k rfl v hP
    have S1 : SetI prog w S ds s'.heap := hS.at' fun o e => m.heap S o off e
    show wpAny _ A.in1 (holding [Value.int k t] (setAdd S (.int k t)) >>= _) _ _ s'
    refine wpAny_bind (wpAny_holding ?_)
    unfold setAdd
    refine wpAny_holding (wpAny_bind ((intKind prog w).pyHash (k := k) (intKind_is _ _ _ _) ?_))
    refine wp_setAddI (s := { s' with toks := s'.toks + 1 }) S1 (by rw [List.length_cons] at hz; omega) fun h' sb S2 => ?_
    refine wpAny_pure ⟨plainId_quiet F.plain_set_update_loop _, ih (i + 1) (ins ds k) _ (by rw [List.length_cons] at hi; omega) (fun j k' hj v' hp => hv (j + 1) k' hj v' (by rw [show i + (j + 1) = i + 1 + j by omega]; exact hp)) (by have := ins_len ds k; rw [List.length_cons] at hz; omega) (W.frame _ s' _ _ st' (Nat.le_succ _) fun b hb o e => ?_) S2 fun s'' m2 S3 => ?_⟩
    · rw [sb.2 b (fun z => hSf (by rw [← z]; exact hb))]; exact e
    · refine hR s'' (Moved.trans W.gtrans ((m.mono sub).then_heap (Nat.le_succ _) fun b o hb e => ?_) m2) S3
      rw [sb.2 b (fun z => hb (by rw [z]; exact List.mem_cons_self))]; exact e
end
section
variable {prog : Program} {w : World} {A : Around} {E : Value → Shared → Prop} {s : Shared}
theorem set_new (a : Value) {Q₁ : Value → Shared → Prop} (h : Q₁ (.ref s.heap.objs.size) { s with heap := s.heap.push (setObj #[] 0 (.fresh 0 0 (leds w))) }) :
    codeAny (model prog w) A (.call (.builtin "set.__new__") ⟨[.type "set", a], []⟩) (wants Q₁ E) s := by
  refine codeAny_of_tree ?_
  show wpAny _ A.in1 (do checkBuiltinCall "set.__new__" ⟨[.type "set", a], []⟩; again (.builtin "set.__new__" ⟨[.type "set", a], []⟩)) _ _ s
  refine wpAny_bind (wpAny_of_eq (F.newCall_set_1 a) (wpAny_pure ⟨plainId_quiet F.plain_set_new _, codeAny_builtin F.entry_set_new ?_⟩))
  rw [Around.under_plainId F.plain_set_new _]
  unfold Builtin.«set.__new__» Builtin.Frozenset.newClass
  have hsub := sub_set_self
  obtain ⟨hp, g, d, tk, os⟩ := s
  dsimp only
  wp_walk
  refine wpAny_askSetting (wpAny_pure ?_)
  dsimp only
  simp only [newObj]
  refine wpAny_bind (wpAny_alloc (wpAny_pure ?_))
  exact wpAny_pure h
end
end L2

namespace L2
open PySem PySem.W PyProof.Rows
section
variable {prog : Program} {w : World} {A : Around} {E : Value → Shared → Prop} {s : Shared}
/-- set(a list of whole numbers) -/
theorem vals_set {l : Addr} {items : Array Value} {ns : List Int} {Q : Value → Shared → Prop} (hh : A.handled = none) (hl : s.heap.IsList l items) (hi : IntsAre items.toList ns) (hb : ns.length < scanBound)
    (h : ∀ h' tk, SetI prog w s.heap.objs.size (ns.foldl ins []) h' → (∀ b o, s.heap.get? b = some o → h'.get? b = some o) → Q (.ref s.heap.objs.size) { s with heap := h', toks := tk }) :
    wpAny (model prog w) A (call (.type "set") [.ref l]) Q E s := by
  obtain ⟨c, tl, hmro⟩ := F.called_set.mro
  have m1 := F.called_set.made
  have m2 := F.called_set.sub
  have m3 := F.called_set.notType
  have m4 := F.called_set.canCreate
  have m5 := F.typeCall_set_1 (.ref l)
  refine wpAny_call (codeAny_of_tree ?_)
  show wpAny _ _ (callAny (.type "set") _) _ _ _
  refine wpAny_pure ⟨Code.quiet_builtin _ (by decide +kernel), codeAny_builtin F.entry_type_call ?_⟩
  rw [Around.under_plain (weight_type_call_type "set" [.ref l] []) rfl]
  repeat (any_goals (first | assumption | wp_step))
  refine codeAny_mono (set_new (.ref l) (E := E) (Q₁ := fun v s1 => v = .ref s.heap.objs.size ∧ s1 = { s with heap := s.heap.push (setObj #[] 0 (.fresh 0 0 (leds w))) }) ⟨rfl, rfl⟩) fun r s1 hr => ?_
  rcases r with e | f
  · exact hr
  cases f with
  | ret v =>
    obtain ⟨rfl, rfl⟩ := hr
    have hS : (s.heap.push (setObj #[] 0 (.fresh 0 0 (leds w)))).get? s.heap.objs.size = some (setObj #[] 0 (.fresh 0 0 (leds w))) := Heap.get?_push_size _ rfl
    have hT : Shared.TypeIs { s with heap := s.heap.push (setObj #[] 0 (.fresh 0 0 (leds w))) } (.ref s.heap.objs.size) "set" := ⟨_, hS, rfl⟩
    have i1 := F.called_set.init.lookup
    have i2 := F.called_set.init.bind (.ref s.heap.objs.size)
    repeat (any_goals (first | assumption | wp_step))
    refine codeAny_mono (codeAny_call_builtin (R := wants (fun r s2 => r = .none ∧ ∃ h' tk, s2 = { s with heap := h', toks := tk } ∧ SetI prog w s.heap.objs.size (ns.foldl ins []) h' ∧ ∀ b o, s.heap.get? b = some o → h'.get? b = some o) E) F.called_set.init.plain F.entry_set_init (check_set_init_1 hT ?_)) fun r2 s2 h2 => ?_
    · obtain ⟨ol, e1, e2, k, e3⟩ := hl
      obtain ⟨oc, od, oda, osl⟩ := ol
      simp only at e2 e3
      subst e2; subst e3
      have e1' := Heap.get?_push_of_some (setObj #[] 0 (.fresh 0 0 (leds w))) e1
      have j1 := F.sub_list_set
      have j2 := F.sub_list_frozenset
      have j3 : (Value.type "list" == Value.type "dict") = false := by decide
      have hl1 : (s.heap.push (setObj #[] 0 (.fresh 0 0 (leds w)))).IsList l items := ⟨_, e1', rfl, k, rfl⟩
      unfold setObj at *
      unfold Builtin.«set.__init__» noKeywords Builtin.Frozenset.updateFrom
      generalize hPI : pyIter = PI
      wp_walk
      subst hPI
      refine wpAny_pyIter_list hl1 (wpAny_bind (wpAny_runValue ?_))
      have hlS : l < s.heap.objs.size := Heap.lt_size e1
      have hn : items.size = ns.length := by rw [← IntsAre.length hi, Array.length_toList]
      refine loop_setI (G := _) ((Walks.list (by simp [hh]) _ l (by rw [Heap.size_push]; exact Nat.ne_of_lt (Nat.lt_succ_of_lt hlS)) items).toS) s.heap.objs.size (by rw [Heap.size_push]; simp only [List.mem_cons, List.not_mem_nil, or_false, not_or]; exact ⟨Nat.ne_of_lt (Nat.lt_succ_self _), Nat.ne_of_gt hlS⟩) ns 0 [] _ (by rw [hn]; omega) (fun j x hj v hv => ?_) (by simpa using hb) ⟨⟨_, Heap.get?_push_size _ rfl, rfl, rfl⟩, hl1.push _⟩ ⟨#[], 0, _, Heap.get?_push_of_some _ hS, SetP.fresh⟩ fun s' m S' => ?_
      · obtain ⟨t, e⟩ := IntsAre.int_at hi j v (by rw [Array.getElem?_toList]; have := hv; rw [Nat.zero_add] at this; exact this)
        refine ⟨t, ?_⟩
        rw [e, List.getD_eq_getElem?_getD, hj]
        rfl
      · obtain ⟨h', g', d', tk', os'⟩ := s'
        have q1 : g' = s.gens := m.gens
        have q2 : d' = s.drawn := m.drawn
        have q3 : os' = s.os := m.os
        subst q1; subst q2; subst q3
        show wpAny _ _ _ _ _ _
        refine wpAny_pure ?_
        show wpAny _ _ (ret Value.none) _ _ _
        refine wpAny_pure ⟨rfl, h', tk', rfl, S', fun b o e => ?_⟩
        have hb0 := Heap.lt_size e
        refine m.heap b o ?_ (Heap.get?_push_of_some _ (Heap.get?_push_of_some _ e))
        rw [Heap.size_push]
        simp only [List.mem_cons, List.not_mem_nil, or_false, not_or]
        exact ⟨Nat.ne_of_lt hb0, Nat.ne_of_lt (Nat.lt_succ_of_lt hb0)⟩
    · rcases r2 with e | f2
      · exact h2
      cases f2 with
      | ret r =>
        obtain ⟨rfl, h', tk, rfl, S', kp⟩ := h2
        repeat (any_goals (first | assumption | wp_step))
        exact h _ _ S' kp
      | _ => exact h2.elim
  | _ => exact hr.elim
end
end L2

namespace L2
open PySem PySem.W PyProof.Rows
theorem own_si : Manifest.owners.lookup (String.ofList ['r', 'o', 't', 'a', 'r', 'e', 't', 'i', '_', 't', 'e', 's'].reverse) = some Manifest.sig_set_iterator := by kernel_rfl
theorem slot_siN : Slot "set_iterator" "__next__" "set_iterator.__next__" :=
  .of (owner := "set_iterator") (n := "__next__") (by rw [typeLookup_type, builtinLookup_eq_fast]; kernel_rfl) (by decide +kernel) (by decide +kernel) (by decide +kernel) (.inl (by decide +kernel)) (by rw [isSubtype_type]; kernel_rfl)
theorem entry_siN : entryFor table "set_iterator.__next__" = some Builtin.«set_iterator.__next__» := entryFor_of_tree (by kernel_rfl)
theorem entry_setI : entryFor table "set.__iter__" = some Builtin.«frozenset.__iter__» := entryFor_alias (id' := "frozenset.__iter__") (by kernel_rfl) rfl (by decide +kernel) (by kernel_rfl)
theorem args_siN (a : Value) : argsOk "set_iterator.__next__" ⟨[a], []⟩ := by
  unfold argsOk
  rw [signature?_of (id := "set_iterator.__next__") (n := ['_', '_', 't', 'x', 'e', 'n', '_', '_']) (o := ['r', 'o', 't', 'a', 'r', 'e', 't', 'i', '_', 't', 'e', 's']) (by kernel_rfl) own_si]
  kernel_rfl
theorem out_perm {α : Type} {l : List α} {i : Nat} (h : i < l.length) : l.Perm (l[i] :: l.eraseIdx i) := by
  rw [List.eraseIdx_eq_take_drop_succ]
  refine List.Perm.trans ?_ List.perm_middle
  rw [← List.drop_eq_getElem_cons h, List.take_append_drop]
/-- a drawn order is an order of all -/
theorem pick_go {α : Type} (f : Nat → Nat) : ∀ (n k : Nat) (l : List α) (out : Array α), l.length = n → (pickOrder.go f n k l out).toList.Perm (out.toList ++ l)
  | 0, k, l, out, h => by
    cases l with
    | nil => unfold pickOrder.go; rw [List.append_nil]
    | cons _ _ => cases h
  | n + 1, k, l, out, h => by
    have hl : f k % l.length < l.length := Nat.mod_lt _ (by omega)
    unfold pickOrder.go
    rw [List.getElem?_eq_getElem hl]
    dsimp only
    refine (pick_go f n (k + 1) _ _ (by rw [List.length_eraseIdx_of_lt hl]; omega)).trans ?_
    rw [Array.toList_push, List.append_assoc]
    refine List.Perm.append_left _ ?_
    exact (out_perm hl).symm
theorem pick_perm {α : Type} (f : Nat → Nat) (xs : Array α) : (pickOrder f xs).toList.Perm xs.toList := by
  unfold pickOrder
  have := pick_go f xs.size 0 xs.toList #[] (by rw [Array.length_toList])
  simpa using this
section
variable {prog : Program} {w : World} {A : Around} {E : Value → Shared → Prop}
theorem wp_choose {src : Source} {n : Nat} {s : Shared} {Q : Nat → Shared → Prop} (hn : n ≠ 0) (h : ∀ i dr, i < n → Q i { s with drawn := dr }) : wpAny (model prog w) A (choose src n) Q E s :=
  fun _ _ _ => ⟨hn, h _ _ (Nat.mod_lt _ (Nat.pos_of_ne_zero hn))⟩
theorem wp_draw {α : Type} : ∀ (n : Nat) (xs : List α) (s : Shared) {Q : List α → Shared → Prop}, xs.length = n → (∀ ys dr, ys.Perm xs → Q ys { s with drawn := dr }) → wpAny (model prog w) A (drawOrder n xs) Q E s
  | 0, [], s, Q, _, h => wpAny_pure (h [] s.drawn (.refl _))
  | n + 1, x :: xs, s, Q, hl, h => by
    unfold drawOrder
    refine wpAny_bind (wp_choose (by simp) fun i dr hi => ?_)
    have hi' : i < (x :: xs).length := hi
    rw [List.getElem?_eq_getElem hi']
    dsimp only
    refine wpAny_bind (wp_draw n _ _ (by rw [List.length_eraseIdx_of_lt hi']; omega) fun ys dr2 hp => wpAny_pure ?_)
    exact h _ dr2 ((hp.cons _).trans (out_perm hi').symm)
  | 0, _ :: _, _, _, hl, _ => nomatch hl
  | _ + 1, [], _, _, hl, _ => nomatch hl
def siObj (f : Value) (i : Nat) (a : Addr) (n ep : Nat) : Obj := { cls := .type "set_iterator", data := .fields #[f, .int i 0, .ref a, .int n 0, .int ep 0] }
variable {s : Shared} {a it : Addr} {es : Array (Int × Value)} {ep : Nat} {t : SetTable} {ds : List Int}
/-- the way on by places -/
theorem wp_nextP {slot given ep' : Nat} {Q : Option (Value × Nat) → Shared → Prop} (ho : s.heap.get? a = some (setObj es ep t)) (P : SetP prog w es t ds) (hb : leds w = true) (hd : ¬ (t.plain = false ∧ 1 < es.size))
    (h : Q (match es[SetTable.below t.place slot]?, t.place[SetTable.below t.place slot]? with | some (_, x), some j => some (x, j + 1) | _, _ => none) s) : wpAny (model prog w) A (setNext a slot given ep') Q E s := by
  have hb' : w.params.followText "set-order" = false := by unfold leds at hb; simpa using hb
  unfold setNext
  refine wpAny_bind (wpAny_setState_of ho rfl P.ft ?_)
  dsimp only
  unfold setsByText
  refine wpAny_bind (wpAny_bind (wpAny_askSetting (wpAny_pure ?_)))
  show wpAny _ _ (if w.params.followText "set-order" = true then _ else _) _ _ _
  rw [if_neg (by rw [hb']; decide)]
  show wpAny _ _ (if (!t.plain && decide (es.size > 1)) = true then _ else _) _ _ _
  rw [if_neg (by intro z; simp at z; exact hd z)]
  refine wpAny_bind ?_
  show wpAny _ _ (if (!t.led && !es.isEmpty) = true then _ else pure ()) _ _ _
  rw [if_neg (by rw [P.tb.2, hb]; simp)]
  exact wpAny_pure (wpAny_pure h)
/-- the way on by the text -/
theorem wp_nextT {slot given : Nat} {Q : Option (Value × Nat) → Shared → Prop} (ho : s.heap.get? a = some (setObj es ep t)) (P : SetP prog w es t ds) (hb : leds w = false)
    (h : Q (((pickOrder (w.params.setOrder a ep) es)[given]?).map fun e => (e.2, slot)) s) : wpAny (model prog w) A (setNext a slot given ep) Q E s := by
  have hb' : w.params.followText "set-order" = true := by unfold leds at hb; simpa using hb
  unfold setNext
  refine wpAny_bind (wpAny_setState_of ho rfl P.ft ?_)
  dsimp only
  unfold setsByText
  refine wpAny_bind (wpAny_bind (wpAny_askSetting (wpAny_pure ?_)))
  show wpAny _ _ (if w.params.followText "set-order" = true then _ else _) _ _ _
  rw [if_pos hb', if_neg (by simp)]
  refine wpAny_bind ?_
  unfold setWalk
  refine wpAny_bind (wpAny_setState_of ho rfl P.ft ?_)
  dsimp only
  unfold setsByText
  refine wpAny_bind (wpAny_bind (wpAny_askSetting (wpAny_pure ?_)))
  show wpAny _ _ (if w.params.followText "set-order" = true then _ else _) _ _ _
  rw [if_pos hb']
  refine wpAny_bind (wpAny_askSetting (wpAny_pure (wpAny_pure h)))
theorem siT {f : Value} {i n : Nat} (hit : s.heap.get? it = some (siObj f i a n ep)) : s.TypeIs (.ref it) "set_iterator" := ⟨_, hit, rfl⟩
theorem next_int {slot i nx : Nat} {x : Value} {Q : Option Value → Shared → Prop} (hit : s.heap.get? it = some (siObj (.int slot 0) i a es.size ep)) (ho : s.heap.get? a = some (setObj es ep t)) (P : SetP prog w es t ds)
    (hx : ∀ (A' : Around) (Q' : Option (Value × Nat) → Shared → Prop) (E' : Value → Shared → Prop), Q' (some (x, nx)) s → wpAny (model prog w) A' (setNext a slot i ep) Q' E' s)
    (hQ : ∀ h', h'.get? it = some (siObj (.int nx 0) (i + 1) a es.size ep) → Heap.SameBut it s.heap h' → Q (some x) { s with heap := h' }) : wpAny (model prog w) A (pyNext (.ref it)) Q E s := by
  unfold pyNext
  refine wpAny_bind (wpAny_attempt (wpAny_callSpecial?_slot (name := Str.ofString "__next__") (siT hit) slot_siN (wpAny_call_entry slot_siN (siT hit) entry_siN ?_ (args_siN _))))
  unfold Builtin.«set_iterator.__next__»
  refine wpAny_bind (wpAny_pure ?_)
  refine wpAny_bind (wpAny_fieldsOf hit rfl ?_)
  dsimp only
  refine wpAny_bind (wpAny_setEntries_of ho rfl P.ft ?_)
  rw [if_neg (by simp)]
  rw [Int.toNat_natCast, Int.toNat_natCast, Int.toNat_natCast]
  refine wpAny_bind (hx _ _ _ ?_)
  dsimp only
  refine wpAny_bind (wpAny_setField hit rfl (by simp) ?_)
  have g1 : (s.heap.update it (Obj.mapFields (·.setIfInBounds 0 (rawInt (nx : Int))))).get? it = some (siObj (.int nx 0) i a es.size ep) := Heap.get?_update_self _ hit rfl
  refine wpAny_bind (wpAny_setField g1 rfl (by simp) ?_)
  have g2 : ((s.heap.update it (Obj.mapFields (·.setIfInBounds 0 (rawInt (nx : Int))))).update it (Obj.mapFields (·.setIfInBounds 1 (rawInt ((i : Int) + 1))))).get? it = some (siObj (.int nx 0) (i + 1) a es.size ep) := Heap.get?_update_self _ g1 rfl
  exact wpAny_pure ⟨_, rfl, wpAny_pure (hQ _ g2 ((Heap.SameBut.update ..).trans (Heap.SameBut.update ..)))⟩
/-- at the end -/
theorem stop_iter {f : Value} {i n k : Nat} {v : Value} {Q : Option Value → Shared → Prop} (hh : A.handled = none) (hit : s.heap.get? it = some (siObj f i a n ep)) (hk : k < 5)
    (hQ : ∀ h', Heap.ExtBut it s.heap h' → Q none { s with heap := h' }) :
    wpAny (model prog w) A.in1 (do setField (.ref it) k v; raiseNew (← newExc (.type "StopIteration") [])) (fun fin s' => ∃ u, fin = Fin.done (Flow.ret u) ∧ wpAny (model prog w) A (pure (some u)) Q E s')
      (fun e s' => wpAny (model prog w) A (do if ← isInstance e (.type "StopIteration") then pure none else throw e) Q E s') s := by
  refine wpAny_bind (wpAny_setField hit rfl (by simpa using hk) ?_)
  refine wpAny_bind ?_
  simp only [newExc, newTuple]
  refine wpAny_bind (wpAny_newObj_type ?_ (by size_fits))
  refine wpAny_bind (m := firstArgMember _ _) (wpAny_of_eq (a := Value.none) (by first | rfl | (simp only [firstArgMember]; rfl)) ?_)
  refine wpAny_newObj_type ?_ (by size_fits)
  simp only [raiseNew]
  refine wpAny_bind (wpAny_handled ?_)
  rw [show A.in1.handled = none from hh]
  refine wpAny_bind (wpAny_pure (wpAny_throw ?_))
  refine wpAny_bind (wpAny_isInstance (T := "StopIteration") (b := true) ⟨_, Heap.get?_push_size _ rfl, rfl⟩ isSubtype_stop ?_)
  exact wpAny_pure (hQ _ (((Heap.SameBut.update ..).extBut.push _).push _))
theorem next_intE {slot i : Nat} {Q : Option Value → Shared → Prop} (hh : A.handled = none) (hit : s.heap.get? it = some (siObj (.int slot 0) i a es.size ep)) (ho : s.heap.get? a = some (setObj es ep t)) (P : SetP prog w es t ds)
    (hx : ∀ (A' : Around) (Q' : Option (Value × Nat) → Shared → Prop) (E' : Value → Shared → Prop), Q' none s → wpAny (model prog w) A' (setNext a slot i ep) Q' E' s)
    (hQ : ∀ h', Heap.ExtBut it s.heap h' → Q none { s with heap := h' }) : wpAny (model prog w) A (pyNext (.ref it)) Q E s := by
  unfold pyNext
  refine wpAny_bind (wpAny_attempt (wpAny_callSpecial?_slot (name := Str.ofString "__next__") (siT hit) slot_siN (wpAny_call_entry slot_siN (siT hit) entry_siN ?_ (args_siN _))))
  unfold Builtin.«set_iterator.__next__»
  refine wpAny_bind (wpAny_pure (wpAny_bind (wpAny_fieldsOf hit rfl ?_)))
  dsimp only
  refine wpAny_bind (wpAny_setEntries_of ho rfl P.ft ?_)
  rw [if_neg (by simp), Int.toNat_natCast, Int.toNat_natCast, Int.toNat_natCast]
  refine wpAny_bind (hx _ _ _ ?_)
  exact stop_iter hh hit (by decide) hQ
/-- by a drawn order: the tuple of places -/
theorem next_drw {T : Addr} {js : Array Value} {i j : Nat} {x : Value} {hsh : Int} {Q : Option Value → Shared → Prop} (hit : s.heap.get? it = some (siObj (.ref T) i a es.size ep)) (ho : s.heap.get? a = some (setObj es ep t)) (P : SetP prog w es t ds)
    (hT : ∀ (A' : Around) (Q' : Option (Array Value) → Shared → Prop) (E' : Value → Shared → Prop), Q' (some js) s → wpAny (model prog w) A' (seqItems? (.ref T)) Q' E' s) (hj : js[i]? = some (.int j 0)) (hx : es[j]? = some (hsh, x))
    (hQ : ∀ h', h'.get? it = some (siObj (.ref T) (i + 1) a es.size ep) → Heap.SameBut it s.heap h' → Q (some x) { s with heap := h' }) : wpAny (model prog w) A (pyNext (.ref it)) Q E s := by
  unfold pyNext
  refine wpAny_bind (wpAny_attempt (wpAny_callSpecial?_slot (name := Str.ofString "__next__") (siT hit) slot_siN (wpAny_call_entry slot_siN (siT hit) entry_siN ?_ (args_siN _))))
  unfold Builtin.«set_iterator.__next__»
  refine wpAny_bind (wpAny_pure (wpAny_bind (wpAny_fieldsOf hit rfl ?_)))
  dsimp only
  refine wpAny_bind (wpAny_setEntries_of ho rfl P.ft ?_)
  rw [if_neg (by simp)]
  refine wpAny_bind (hT _ _ _ ?_)
  dsimp only
  rw [Int.toNat_natCast, hj]
  dsimp only
  unfold setNextDrawn
  rw [Int.toNat_natCast, Int.toNat_natCast]
  refine wpAny_bind (wpAny_bind (wpAny_setState_of ho rfl P.ft ?_))
  dsimp only
  rw [if_neg (by simp), hx]
  dsimp only
  refine wpAny_pure (wpAny_bind (wpAny_setField hit rfl (by simp) ?_))
  have g1 : (s.heap.update it (Obj.mapFields (·.setIfInBounds 1 (rawInt ((i : Int) + 1))))).get? it = some (siObj (.ref T) (i + 1) a es.size ep) := Heap.get?_update_self _ hit rfl
  exact wpAny_pure ⟨_, rfl, wpAny_pure (hQ _ g1 (Heap.SameBut.update ..))⟩
theorem next_drwE {T : Addr} {js : Array Value} {i : Nat} {Q : Option Value → Shared → Prop} (hh : A.handled = none) (hit : s.heap.get? it = some (siObj (.ref T) i a es.size ep)) (ho : s.heap.get? a = some (setObj es ep t)) (P : SetP prog w es t ds)
    (hT : ∀ (A' : Around) (Q' : Option (Array Value) → Shared → Prop) (E' : Value → Shared → Prop), Q' (some js) s → wpAny (model prog w) A' (seqItems? (.ref T)) Q' E' s) (hj : js[i]? = none)
    (hQ : ∀ h', Heap.ExtBut it s.heap h' → Q none { s with heap := h' }) : wpAny (model prog w) A (pyNext (.ref it)) Q E s := by
  unfold pyNext
  refine wpAny_bind (wpAny_attempt (wpAny_callSpecial?_slot (name := Str.ofString "__next__") (siT hit) slot_siN (wpAny_call_entry slot_siN (siT hit) entry_siN ?_ (args_siN _))))
  unfold Builtin.«set_iterator.__next__»
  refine wpAny_bind (wpAny_pure (wpAny_bind (wpAny_fieldsOf hit rfl ?_)))
  dsimp only
  refine wpAny_bind (wpAny_setEntries_of ho rfl P.ft ?_)
  rw [if_neg (by simp)]
  refine wpAny_bind (hT _ _ _ ?_)
  dsimp only
  rw [Int.toNat_natCast, hj]
  dsimp only
  refine wpAny_bind (wpAny_setField hit rfl (by simp) ?_)
  have g1 : (s.heap.update it (Obj.mapFields (·.setIfInBounds 0 (rawInt 0)))).get? it = some (siObj (rawInt 0) i a es.size ep) := Heap.get?_update_self _ hit rfl
  exact stop_iter (s := { s with heap := s.heap.update it (Obj.mapFields (·.setIfInBounds 0 (rawInt 0))) }) hh g1 (by decide) fun h' x => hQ h' fun b o hb e => x b o hb ((Heap.SameBut.update ..).extBut b o hb e)
end
end L2

namespace L2
open PySem PySem.W PyProof.Rows
theorem slot_siI : Slot "set_iterator" "__iter__" "set_iterator.__iter__" :=
  .of (owner := "set_iterator") (n := "__iter__") (by rw [typeLookup_type, builtinLookup_eq_fast]; kernel_rfl) (by decide +kernel) (by decide +kernel) (by decide +kernel) (.inl (by decide +kernel)) (by rw [isSubtype_type]; kernel_rfl)
theorem entry_siI : entryFor table "set_iterator.__iter__" = some Builtin.«dict_keyiterator.__iter__» := entryFor_alias (id' := "dict_keyiterator.__iter__") (by kernel_rfl) rfl (by decide +kernel) (by kernel_rfl)
theorem args_siI (a : Value) : argsOk "set_iterator.__iter__" ⟨[a], []⟩ := by
  unfold argsOk
  rw [signature?_of (id := "set_iterator.__iter__") (n := ['_', '_', 'r', 'e', 't', 'i', '_', '_']) (o := ['r', 'o', 't', 'a', 'r', 'e', 't', 'i', '_', 't', 'e', 's']) (by kernel_rfl) own_si]
  kernel_rfl
section
variable {prog : Program} {w : World} {A : Around} {E : Value → Shared → Prop} {s : Shared} {a it : Addr} {es : Array (Int × Value)} {ep : Nat} {t : SetTable} {ds : List Int}
theorem iter_si {f : Value} {i n : Nat} {Q : Value → Shared → Prop} (hit : s.heap.get? it = some (siObj f i a n ep)) (h : Q (.ref it) s) : wpAny (model prog w) A (pyIter (.ref it)) Q E s := by
  refine wpAny_pyIter_slot (siT hit) slot_siI (wpAny_call_entry slot_siI (siT hit) entry_siI ?_ (args_siI _))
  show wpAny _ _ (ret (.ref it)) _ _ s
  exact wpAny_pure ⟨_, rfl, "set_iterator", _, siT hit, slot_siN.lookup, h⟩
theorem setT (ho : s.heap.get? a = some (setObj es ep t)) : s.TypeIs (.ref a) "set" := ⟨_, ho, rfl⟩
theorem hint_set {Q : Bool → Shared → Prop} (hT : s.TypeIs (.ref a) "set") (h : Q false s) : wpAny (model prog w) A (Builtin.List.listLengthHint (.ref a)) Q E s := by
  unfold Builtin.List.listLengthHint
  refine wpAny_bind (wpAny_specialOf hT PySem.F.slot_set_len.lookup ?_)
  generalize hid : ("set.__len__" : String) = id0
  wp_delta
  rw [show splitId id0 = some ("set", "__len__") from by subst hid; decide +kernel]
  subst hid
  refine wpAny_bind (wpAny_isInstance (T := "set") (b := true) hT (by rw [isSubtype_type]; kernel_rfl) ?_)
  refine wpAny_ite_split (fun z => absurd z (by decide)) (fun _ => ?_)
  refine wpAny_ite_split (fun _ => ?_) (fun z => absurd (by decide +kernel) z)
  refine wpAny_bind (wpAny_typeOf hT ?_)
  exact wpAny_pure h
/-- whether the order is drawn -/
def Drawn (w : World) (es : Array (Int × Value)) (t : SetTable) : Prop := leds w = true ∧ t.plain = false ∧ 1 < es.size
theorem iter_set {Q : Value → Shared → Prop} (ho : s.heap.get? a = some (setObj es ep t)) (P : SetP prog w es t ds)
    (h1 : ¬ Drawn w es t → Q (.ref s.heap.objs.size) { s with heap := s.heap.push (siObj (.int 0 0) 0 a es.size ep) })
    (h2 : Drawn w es t → ∀ (js : List Nat) dr, js.Perm (List.range es.size) → Q (.ref (s.heap.objs.size + 1)) { s with heap := (s.heap.push { cls := .type "tuple", data := .seq (js.map fun (i : Nat) => rawInt i).toArray }).push (siObj (.ref s.heap.objs.size) 0 a es.size ep), drawn := dr }) :
    wpAny (model prog w) A (pyIter (.ref a)) Q E s := by
  refine wpAny_pyIter_slot (setT ho) PySem.F.slot_set_iter (wpAny_call_entry PySem.F.slot_set_iter (setT ho) entry_setI ?_ (PySem.F.args_set_iter_1 _))
  unfold Builtin.«frozenset.__iter__»
  refine wpAny_bind (wpAny_pure ?_)
  refine wpAny_bind (wpAny_bind (wpAny_setEntries_of ho rfl P.ft (wpAny_pure ?_)))
  refine wpAny_bind ?_
  unfold setDrawn
  refine wpAny_bind (wpAny_setState_of ho rfl P.ft ?_)
  dsimp only
  unfold setsByText
  refine wpAny_bind (wpAny_bind (wpAny_askSetting (wpAny_pure (wpAny_pure ?_))))
  show wpAny _ _ (if (!w.params.followText "set-order" && (!t.plain && decide (es.size > 1))) = true then _ else _) _ _ _
  refine wpAny_ite_split (fun z => ?_) (fun z => ?_)
  · rw [Bool.and_eq_true, Bool.and_eq_true] at z
    have hD : Drawn w es t := ⟨z.1, by simpa using z.2.1, of_decide_eq_true z.2.2⟩
    refine wpAny_bind (wp_draw es.size _ _ List.length_range fun js dr hp => wpAny_bind (wpAny_newTuple ?_ ?_))
    · refine wpAny_bind (wpAny_setEpoch_of (Heap.get?_push_of_some _ ho) rfl P.ft ?_)
      have hs : (s.heap.push { cls := .type "tuple", data := .seq (js.map fun (i : Nat) => rawInt i).toArray }).objs.size = s.heap.objs.size + 1 := Heap.size_push ..
      refine wpAny_bind (wpAny_newObj_type (wpAny_pure ⟨_, rfl, "set_iterator", _, ⟨_, Heap.get?_push_size _ rfl, rfl⟩, slot_siN.lookup, ?_⟩))
      have q := h2 hD js dr hp
      rw [← hs] at q
      exact q
    · rw [List.length_map, hp.length_eq, List.length_range]
      exact fits_of_scanBound P.sz
  · refine wpAny_bind (wpAny_pure ?_)
    refine wpAny_bind (wpAny_setEpoch_of ho rfl P.ft ?_)
    refine wpAny_bind (wpAny_newObj_type (wpAny_pure ⟨_, rfl, "set_iterator", _, ⟨_, Heap.get?_push_size _ rfl, rfl⟩, slot_siN.lookup, ?_⟩))
    refine h1 fun hD => z ?_
    rw [Bool.and_eq_true, Bool.and_eq_true]
    exact ⟨hD.1, by rw [hD.2.1]; rfl, decide_eq_true hD.2.2⟩
/-- the walk of an order xs, by slots -/
theorem walk_int (hh : A.handled = none) (I : Addr) (hne : a ≠ I) (P : SetP prog w es t ds) (xs : Array (Int × Value)) (sl : Nat → Nat) (hz : xs.size = es.size)
    (hnx : ∀ (s' : Shared) (i : Nat), s'.heap.get? a = some (setObj es ep t) → i ≤ es.size → ∀ (A' : Around) (Q' : Option (Value × Nat) → Shared → Prop) (E' : Value → Shared → Prop), Q' ((xs[i]?).map fun e => (e.2, sl (i + 1))) s' → wpAny (model prog w) A' (setNext a (sl i) i ep) Q' E' s') :
    Walks prog w A I [I, a] [I] es.size (fun i v => ∃ e, xs[i]? = some e ∧ v = e.2) (fun i h => h.get? I = some (siObj (.int (sl i) 0) i a es.size ep) ∧ h.get? a = some (setObj es ep t)) where
  sub := fun b hb => by simp at hb; simp [hb]
  frame := fun _ _ _ st hk => ⟨hk I (by simp) _ st.1, hk a (by simp) _ st.2⟩
  item := fun i s Q E hi st hQ => by
    have hx : xs[i]? = some (xs[i]'(by omega)) := Array.getElem?_eq_getElem (by omega)
    refine next_int (x := (xs[i]'(by omega)).2) (nx := sl (i + 1)) st.1 st.2 P (fun A' Q' E' q => hnx s i st.2 (by omega) A' Q' E' (by rw [hx]; exact q)) fun h' g sb => ?_
    exact hQ _ h' s.toks ⟨_, hx, rfl⟩ ⟨g, (sb.2 a hne).trans st.2⟩ fun b o hb e => (sb.2 b (fun z => hb (by simp [z]))).trans e
  done := fun s Q E st hQ => next_intE hh st.1 st.2 P (fun A' Q' E' q => hnx s es.size st.2 (Nat.le_refl _) A' Q' E' (by rw [Array.getElem?_eq_none (by omega)]; exact q)) fun h' x => hQ h' s.toks fun b o hb e => x b o (fun z => hb (by simp [z])) e
  self := fun _ _ _ _ st hQ => iter_si st.1 hQ
def slOf (t : SetTable) : Nat → Nat
  | 0 => 0
  | k + 1 => t.place.getD k 0 + 1
/-- a set whose order is not drawn, as a source -/
theorem src_set (P : SetP prog w es t ds) (hD : ¬ Drawn w es t) : ∃ xs : Array (Int × Value), xs.toList.Perm es.toList ∧ KdlSrc prog w "set" a a es.size (fun i v => ∃ e, xs[i]? = some e ∧ v = e.2) (fun h => h.get? a = some (setObj es ep t)) := by
  have mk : ∀ (xs : Array (Int × Value)) (sl : Nat → Nat), sl 0 = 0 → xs.toList.Perm es.toList →
      (∀ (s' : Shared) (i : Nat), s'.heap.get? a = some (setObj es ep t) → i ≤ es.size → ∀ (A' : Around) (Q' : Option (Value × Nat) → Shared → Prop) (E' : Value → Shared → Prop), Q' ((xs[i]?).map fun e => (e.2, sl (i + 1))) s' → wpAny (model prog w) A' (setNext a (sl i) i ep) Q' E' s') →
      KdlSrc prog w "set" a a es.size (fun i v => ∃ e, xs[i]? = some e ∧ v = e.2) (fun h => h.get? a = some (setObj es ep t)) := fun xs sl h0 hp hnx =>
    { type := fun s h => setT h
      there := fun h e => ⟨Heap.lt_size e, Heap.lt_size e⟩
      keep := fun h h' e k => k a (.inl rfl) _ e
      notList := by decide
      notTuple := by decide
      hint := fun A E s Q h q => hint_set (setT h) q
      iter := fun A s hh h => ⟨siObj (.int 0 0) 0 a es.size ep, _, fun E Q q => iter_set h P (fun _ => q) (fun z => absurd z hD), walk_int hh _ (Nat.ne_of_lt (Heap.lt_size h)) P xs sl (by rw [← Array.length_toList, hp.length_eq, Array.length_toList]) hnx, by rw [h0]; exact Heap.get?_push_size _ rfl, Heap.get?_push_of_some _ h⟩ }
  cases hb : leds w with
  | false =>
    refine ⟨_, pick_perm (w.params.setOrder a ep) es, mk _ (fun _ => 0) rfl (pick_perm _ es) fun s' i ho hi A' Q' E' q => wp_nextT ho P hb q⟩
  | true =>
    have hf := P.ft
    simp only [SetTable.fits, Bool.and_eq_true, beq_iff_eq, decide_eq_true_eq] at hf
    refine ⟨es, .refl _, mk es (slOf t) rfl (.refl _) fun s' i ho hi A' Q' E' q => wp_nextP ho P hb (fun z => hD ⟨hb, z⟩) ?_⟩
    have hbl : SetTable.below t.place (slOf t i) = i := by
      cases i with
      | zero => exact below_zero P.tb.1
      | succ k =>
        have hk : k < t.place.size := by omega
        have e : t.place[k]? = some (t.place[k]) := Array.getElem?_eq_getElem hk
        have eg : t.place.getD k 0 = t.place[k] := by unfold Array.getD; rw [dif_pos hk]; rfl
        show SetTable.below t.place (t.place.getD k 0 + 1) = k + 1
        rw [eg]
        exact below_next P.tb.1 e
    rw [hbl]
    rcases Nat.lt_or_ge i es.size with hl | hl
    · have hk : i < t.place.size := by omega
      have eg : t.place.getD i 0 = t.place[i] := by unfold Array.getD; rw [dif_pos hk]; rfl
      rw [Array.getElem?_eq_getElem hl] at q ⊢
      rw [Array.getElem?_eq_getElem hk]
      have q' : Q' (some ((es[i]).2, t.place.getD i 0 + 1)) s' := q
      rw [eg] at q'
      exact q'
    · rw [Array.getElem?_eq_none hl] at q ⊢
      exact q
end
end L2

namespace L2
open PySem PySem.W PyProof.Rows
def plcObj (js : List Nat) : Obj := { cls := .type "tuple", data := .seq (js.map fun (i : Nat) => rawInt i).toArray }
section
variable {prog : Program} {w : World} {A : Around} {E : Value → Shared → Prop} {s : Shared} {a it : Addr} {es : Array (Int × Value)} {ep : Nat} {t : SetTable} {ds : List Int}
theorem walk_drw (hh : A.handled = none) (I T : Addr) (hne : a ≠ I) (hnT : T ≠ I) (P : SetP prog w es t ds) {js : List Nat} (hp : js.Perm (List.range es.size)) :
    Walks prog w A I [I, a, T] [I] es.size (fun i v => ∃ j e, js[i]? = some j ∧ es[j]? = some e ∧ v = e.2) (fun i h => h.get? I = some (siObj (.ref T) i a es.size ep) ∧ h.get? a = some (setObj es ep t) ∧ h.get? T = some (plcObj js)) where
  sub := fun b hb => by simp at hb; simp [hb]
  frame := fun _ _ _ st hk => ⟨hk I (by simp) _ st.1, hk a (by simp) _ st.2.1, hk T (by simp) _ st.2.2⟩
  item := fun i s Q E hi st hQ => by
    have hl : js.length = es.size := by rw [hp.length_eq, List.length_range]
    have hj : js[i]? = some (js[i]'(by omega)) := List.getElem?_eq_getElem (by omega)
    have hm : js[i]'(by omega) < es.size := List.mem_range.mp (hp.mem_iff.mp (List.getElem_mem _))
    have hx : es[js[i]'(by omega)]? = some (es[js[i]'(by omega)]) := Array.getElem?_eq_getElem hm
    refine next_drw (js := (js.map fun (i : Nat) => rawInt i).toArray) (j := js[i]'(by omega)) (x := (es[js[i]'(by omega)]).2) (hsh := (es[js[i]'(by omega)]).1) st.1 st.2.1 P (fun A' Q' E' q => wpAny_seqItems st.2.2 rfl q) ?_ hx fun h' g sb => ?_
    · rw [List.getElem?_toArray, List.getElem?_map, hj]
      rfl
    · exact hQ _ h' s.toks ⟨_, _, hj, hx, rfl⟩ ⟨g, (sb.2 a hne).trans st.2.1, (sb.2 T hnT).trans st.2.2⟩ fun b o hb e => (sb.2 b (fun z => hb (by simp [z]))).trans e
  done := fun s Q E st hQ => by
    have hl : js.length = es.size := by rw [hp.length_eq, List.length_range]
    refine next_drwE (js := (js.map fun (i : Nat) => rawInt i).toArray) hh st.1 st.2.1 P (fun A' Q' E' q => wpAny_seqItems st.2.2 rfl q) ?_ fun h' x => hQ h' s.toks fun b o hb e => x b o (fun z => hb (by simp [z])) e
    rw [List.getElem?_toArray, List.getElem?_map, List.getElem?_eq_none (by omega)]
    rfl
  self := fun _ _ _ _ st hQ => iter_si st.1 hQ
/-- the values of entries that are ints -/
theorem ints_of {xs : List (Int × Value)} (h : ∀ e ∈ xs, ∃ k u, e.2 = .int k u) : IntsAre (xs.map (·.2)) (xs.map fun e => numH e.2) := by
  induction xs with
  | nil => exact .nil
  | cons e xs ih =>
    obtain ⟨k, u, hk⟩ := h e (List.mem_cons_self ..)
    rw [List.map_cons, List.map_cons, hk]
    exact .cons k u (ih fun e he => h e (List.mem_cons_of_mem _ he))
theorem acc_map {acc : Array Value} {n : Nat} {xs : List (Int × Value)} (hn : xs.length = n) (h : ItemsOf (fun i v => ∃ e, xs[i]? = some e ∧ v = e.2) acc n) : acc.toList = xs.map (·.2) := by
  apply List.ext_getElem?
  intro i
  rw [List.getElem?_map]
  have hz : acc.toList.length = n := by rw [Array.length_toList]; exact h.1
  rcases Nat.lt_or_ge i n with hi | hi
  · have e1 : acc.toList[i]? = some (acc.toList[i]'(by omega)) := List.getElem?_eq_getElem (by omega)
    obtain ⟨e, he, hv⟩ := h.2 i _ (by rw [← Array.getElem?_toList]; exact e1)
    rw [e1, he, hv]
    rfl
  · rw [List.getElem?_eq_none (by omega), List.getElem?_eq_none (by omega)]
    rfl
theorem pick_by {es : Array (Int × Value)} : ∀ {js : List Nat}, (∀ j ∈ js, j < es.size) → ∃ xs : List (Int × Value), xs = js.filterMap (fun j => es[j]?) ∧ xs.length = js.length ∧ ∀ (i j : Nat), js[i]? = some j → xs[i]? = es[j]?
  | [], _ => ⟨[], rfl, rfl, fun i j h => by cases h⟩
  | k :: js, h => by
    obtain ⟨xs, e, hl, hx⟩ := pick_by (js := js) fun j hj => h j (List.mem_cons_of_mem _ hj)
    have hk : es[k]? = some (es[k]'(h k (List.mem_cons_self ..))) := Array.getElem?_eq_getElem _
    refine ⟨es[k]'(h k (List.mem_cons_self ..)) :: xs, by rw [List.filterMap_cons_some hk, e], by rw [List.length_cons, List.length_cons, hl], fun i j hj => ?_⟩
    cases i with
    | zero =>
      have : k = j := Option.some.inj hj
      subst this
      exact hk.symm
    | succ i => exact hx i j hj
/-- all that a set holds, in whatever order -/
theorem collect_set {Q : List Value → Shared → Prop} (hS : SetI prog w a ds s.heap) (hh : A.handled = none)
    (h : ∀ h' tk dr (vs : List Value) (ns : List Int), (∀ b o, s.heap.get? b = some o → h'.get? b = some o) → s.heap.objs.size ≤ h'.objs.size → IntsAre vs ns → ns.Perm ds → Q vs { s with heap := h', toks := tk, drawn := dr }) : wpAny (model prog w) A (collect (.ref a)) Q E s := by
  obtain ⟨es, ep, t, ho, P⟩ := hS
  have hz : es.size ≤ sizeLine := fits_of_scanBound P.sz
  by_cases hD : Drawn w es t
  · unfold collect
    refine wpAny_bind (wpAny_runValue (codeAny_builtin entry_proto_collect' ?_))
    show wpAny _ _ (do again (.builtin "list.__iadd__" ⟨[← newList [], .ref a], []⟩)) _ _ s
    refine wpAny_bind (wpAny_newList (wpAny_pure ⟨Code.quiet_builtin _ (by decide +kernel), codeAny_builtin entry_list_iadd' ?_⟩))
    show wpAny _ _ (Builtin.List.listExtendWith (.ref s.heap.objs.size) (.ref a) (.ref s.heap.objs.size)) _ _ { s with heap := s.heap.push (seqObj "list" #[] 0) }
    have hS0 : (s.heap.push (seqObj "list" #[] 0)).get? s.heap.objs.size = some { cls := .type "list", data := .seq #[] 0 } := Heap.get?_push_size _ rfl
    have ho1 : (s.heap.push (seqObj "list" #[] 0)).get? a = some (setObj es ep t) := Heap.get?_push_of_some _ ho
    have haS : s.heap.objs.size ≠ a := Nat.ne_of_gt (Heap.lt_size ho)
    rw [Around.under_plainId PySem.F.plain_list_iadd _]
    unfold Builtin.List.listExtendWith
    refine wpAny_bind (wpAny_typeOf (T := "set") ⟨_, ho1, rfl⟩ ?_)
    have e1 : Builtin.List.listSameRef (.ref s.heap.objs.size) (.ref a) = false := by simp [Builtin.List.listSameRef, haS]
    have e2 : (Value.type "set" == Value.type "list") = false := by decide
    have e3 : (Value.type "set" == Value.type "tuple") = false := by decide
    simp only [e1, e2, e3, Bool.or_false, Bool.false_eq_true, if_false]
    refine wpAny_bind (iter_set ho1 P (fun z => absurd hD z) fun _ js dr hp => ?_)
    have hsz : (s.heap.push (seqObj "list" #[] 0)).objs.size = s.heap.objs.size + 1 := Heap.size_push ..
    rw [hsz]
    have hI : s.heap.objs.size + 1 + 1 = s.heap.objs.size + 2 := rfl
    have hT1 : ((s.heap.push (seqObj "list" #[] 0)).push (plcObj js)).get? (s.heap.objs.size + 1) = some (plcObj js) := by rw [← hsz]; exact Heap.get?_push_size _ rfl
    have hsz2 : ((s.heap.push (seqObj "list" #[] 0)).push (plcObj js)).objs.size = s.heap.objs.size + 1 + 1 := by rw [Heap.size_push, hsz]
    have hI1 : (((s.heap.push (seqObj "list" #[] 0)).push (plcObj js)).push (siObj (.ref (s.heap.objs.size + 1)) 0 a es.size ep)).get? (s.heap.objs.size + 1 + 1) = some (siObj (.ref (s.heap.objs.size + 1)) 0 a es.size ep) := by rw [← hsz2]; exact Heap.get?_push_size _ rfl
    have hla := Heap.lt_size ho
    have W := walk_drw (prog := prog) (w := w) (A := A.in1) (ep := ep) hh (s.heap.objs.size + 1 + 1) (s.heap.objs.size + 1) (a := a) (Nat.ne_of_lt (Nat.lt_succ_of_lt (Nat.lt_succ_of_lt hla))) (Nat.ne_of_lt (Nat.lt_succ_self _)) P hp
    have hSf : s.heap.objs.size ∉ [s.heap.objs.size + 1 + 1, a, s.heap.objs.size + 1] := by
      simp only [List.mem_cons, List.not_mem_nil, or_false, not_or]
      exact ⟨Nat.ne_of_lt (Nat.lt_succ_of_lt (Nat.lt_succ_self _)), haS, Nat.ne_of_lt (Nat.lt_succ_self _)⟩
    have key : ∀ (R : Result → Shared → Prop), (∀ h' tk (acc : Array Value) c', (∀ b o, s.heap.get? b = some o → h'.get? b = some o) → h'.get? s.heap.objs.size = some { cls := .type "list", dict := none, data := .seq acc c', slots := #[] } → ItemsOf (fun i v => ∃ j e, js[i]? = some j ∧ es[j]? = some e ∧ v = e.2) acc es.size → R (.ok (.ret (.ref s.heap.objs.size))) { s with heap := h', toks := tk, drawn := dr }) →
        ∀ (hp' : Heap) (c₁ tk : Nat), (hp'.get? (s.heap.objs.size + 1 + 1) = some (siObj (.ref (s.heap.objs.size + 1)) 0 a es.size ep) ∧ hp'.get? a = some (setObj es ep t) ∧ hp'.get? (s.heap.objs.size + 1) = some (plcObj js)) → (∀ b o, s.heap.get? b = some o → hp'.get? b = some o) →
        hp'.get? s.heap.objs.size = some { cls := .type "list", data := .seq #[] c₁ } → codeAny (model prog w) A (.builtin "list.extend.loop" ⟨[.ref s.heap.objs.size, .ref (s.heap.objs.size + 1 + 1), .ref s.heap.objs.size], []⟩) R { s with heap := hp', toks := tk, drawn := dr } := by
      intro R hR hp' c₁ tk st kp hS₁
      refine codeAny_extend_loopS W.toS hz s.heap.objs.size hSf _ es.size 0 _ #[] c₁ rfl (Nat.zero_le _) st hS₁ (ItemsOf.nil _) fun s' acc' c' hm hS' hacc => ?_
      rw [Moved.eq_with hm]
      refine hR s'.heap s'.toks acc' c' (fun b o e => hm.heap b o (fun hmem => ?_) (kp b o e)) hS' hacc
      have hb := Heap.lt_size e
      rcases List.mem_cons.mp hmem with e' | hmem
      · exact absurd hb (by rw [e']; exact Nat.lt_irrefl _)
      · exact absurd hb (by rw [List.mem_singleton.mp hmem]; exact Nat.not_lt.mpr (Nat.le_succ_of_le (Nat.le_succ _)))
    have fin : ∀ h' tk (acc : Array Value) c', (∀ b o, s.heap.get? b = some o → h'.get? b = some o) → h'.get? s.heap.objs.size = some { cls := .type "list", dict := none, data := .seq acc c', slots := #[] } → ItemsOf (fun i v => ∃ j e, js[i]? = some j ∧ es[j]? = some e ∧ v = e.2) acc es.size → Q acc.toList { s with heap := h', toks := tk, drawn := dr } := by
      intro h' tk acc c' kp hS' ia
      obtain ⟨xs, e, hl, hx⟩ := pick_by (es := es) (js := js) fun j hj => List.mem_range.mp (hp.mem_iff.mp hj)
      have hjl : js.length = es.size := by rw [hp.length_eq, List.length_range]
      have hpx : xs.Perm es.toList := by
        rw [e]
        refine (hp.filterMap _).trans ?_
        rw [filterMap_getElem?_range]
      have ea := acc_map (hl.trans hjl) ⟨ia.1, fun i v hv => by obtain ⟨j, e, hj, he, z⟩ := ia.2 i v hv; exact ⟨e, by rw [hx i j hj]; exact he, z⟩⟩
      exact h h' tk dr acc.toList (xs.map fun e => numH e.2) kp (Nat.le_of_lt (Heap.lt_size hS')) (by rw [ea]; exact ints_of fun x hx => P.ints x (hpx.mem_iff.mp hx)) ((hpx.map _).trans P.ks)
    have kp2 : ∀ b o, s.heap.get? b = some o → (((s.heap.push (seqObj "list" #[] 0)).push (plcObj js)).push (siObj (.ref (s.heap.objs.size + 1)) 0 a es.size ep)).get? b = some o := fun b o e => Heap.get?_push_of_some _ (Heap.get?_push_of_some _ (Heap.get?_push_of_some _ e))
    have hS2 : (((s.heap.push (seqObj "list" #[] 0)).push (plcObj js)).push (siObj (.ref (s.heap.objs.size + 1)) 0 a es.size ep)).get? s.heap.objs.size = some { cls := .type "list", data := .seq #[] 0 } := Heap.get?_push_of_some _ (Heap.get?_push_of_some _ hS0)
    show wpAny (model prog w) A.in1 _ _ _ { s with heap := ((s.heap.push (seqObj "list" #[] 0)).push (plcObj js)).push (siObj (.ref (s.heap.objs.size + 1)) 0 a es.size ep), drawn := dr }
    refine wpAny_bind (wpAny_holding (hint_set ⟨_, kp2 _ _ ho, rfl⟩ ?_))
    have all : ∀ (hp' : Heap) (c₁ tk : Nat), (hp'.get? (s.heap.objs.size + 1 + 1) = some (siObj (.ref (s.heap.objs.size + 1)) 0 a es.size ep) ∧ hp'.get? a = some (setObj es ep t) ∧ hp'.get? (s.heap.objs.size + 1) = some (plcObj js)) → (∀ b o, s.heap.get? b = some o → hp'.get? b = some o) →
        hp'.get? s.heap.objs.size = some { cls := .type "list", data := .seq #[] c₁ } → codeAny (model prog w) A (.builtin "list.extend.loop" ⟨[.ref s.heap.objs.size, .ref (s.heap.objs.size + 1 + 1), .ref s.heap.objs.size], []⟩) (fun r s' =>
              match r with
              | Except.ok (Flow.ret v) =>
                wpAny (model prog w) A (match v with
                  | .ref a => do match (← load a).data with
                    | .seq xs _ => pure xs.toList
                    | _ => unsupported "internal:collect"
                  | _ => unsupported "internal:collect") Q E s'
              | Except.ok _ => False
              | Except.error e => E e s') { s with heap := hp', toks := tk, drawn := dr } := key _ fun h' tk acc c' kp hS' ia => by
        show wpAny (model prog w) A (do
          let o ← load s.heap.objs.size
          match o.data with
          | .seq xs _ => pure xs.toList
          | _ => unsupported "internal:collect") Q E { s with heap := h', toks := tk, drawn := dr }
        exact wpAny_bind (wpAny_load hS' (wpAny_pure (fin h' tk acc c' kp hS' ia)))
    refine wpAny_ite_split (fun _ => ?_) (fun _ => wpAny_pure ⟨plainId_quiet PySem.F.plain_extend_loop _, all _ 0 s.toks ⟨hI1, kp2 _ _ ho, Heap.get?_push_of_some _ hT1⟩ kp2 hS2⟩)
    refine wpAny_bind (wpAny_rule (wpAny_bind ?_))
    show wpAny _ _ (updateSeq s.heap.objs.size (·.push .none) >>= fun _ => updateSeq s.heap.objs.size (·.pop)) _ _ _
    refine wpAny_bind (wpAny_updateSeq hS2 rfl ?_)
    have g2 := Heap.get?_update_self (Obj.mapSeq (·.push Value.none)) hS2 rfl
    refine wpAny_updateSeq (hz := by seq_fits) g2 rfl ?_
    have g3 := Heap.get?_update_self (Obj.mapSeq (·.pop)) g2 rfl
    have oth : ∀ b o, b ≠ s.heap.objs.size → (((s.heap.push (seqObj "list" #[] 0)).push (plcObj js)).push (siObj (.ref (s.heap.objs.size + 1)) 0 a es.size ep)).get? b = some o → (((((s.heap.push (seqObj "list" #[] 0)).push (plcObj js)).push (siObj (.ref (s.heap.objs.size + 1)) 0 a es.size ep)).update s.heap.objs.size (Obj.mapSeq (·.push Value.none))).update s.heap.objs.size (Obj.mapSeq (·.pop))).get? b = some o :=
      fun b o hb e => (Heap.get?_update_other _ _ (Ne.symm hb)).trans ((Heap.get?_update_other _ _ (Ne.symm hb)).trans e)
    refine wpAny_pure ⟨plainId_quiet PySem.F.plain_extend_loop _, all _ _ s.toks ⟨oth _ _ (Nat.ne_of_gt (Nat.lt_succ_of_lt (Nat.lt_succ_self _))) hI1, oth _ _ haS.symm (kp2 _ _ ho), oth _ _ (Nat.ne_of_gt (Nat.lt_succ_self _)) (Heap.get?_push_of_some _ hT1)⟩ (fun b o e => oth b o (Nat.ne_of_lt (Heap.lt_size e)) (kp2 b o e)) g3⟩
  · obtain ⟨xs, hp, K⟩ := src_set (a := a) (ep := ep) P hD
    refine collect_src K hh ho hz fun h' tk acc kp hge ia => ?_
    have hl : xs.toList.length = es.size := by rw [hp.length_eq, Array.length_toList]
    have e := acc_map hl ⟨ia.1, fun i v hv => by obtain ⟨e, he, z⟩ := ia.2 i v hv; exact ⟨e, by rw [Array.getElem?_toList]; exact he, z⟩⟩
    have q := h h' tk s.drawn acc.toList (xs.toList.map fun e => numH e.2) kp hge (by rw [e]; exact ints_of fun x hx => P.ints x (hp.mem_iff.mp hx)) ((hp.map _).trans P.ks)
    exact q
end
end L2

namespace L2
open PySem PySem.W PyProof.Rows
section
variable {prog : Program} {w : World} {A : Around} {E : Value → Shared → Prop} {s : Shared}
end
section
variable {X : Cx}
theorem Inv.drew {pins : List (Addr × Obj)} {σ : St} {H : Hp} {s : Shared} (I : Inv X pins σ H s) (dr : PySem.Drawn) : Inv X pins σ H { s with drawn := dr } :=
  ⟨I.ok, I.os, I.bare, I.base, I.loc, I.cell, I.free, I.freeC, I.pin, I.hok, I.len⟩
/-- set(list of ints) -/
theorem call_setL (hc : X.calm = true) : CallR X (.type "set") (fun xs H Q => ∃ (p : Addr) (ns : List Int), xs = [.ref p] ∧ H p = some (.lst (ns.map V.int)) ∧ ns.length < 4096 ∧
    ∀ (D : Addr) (ds : List Int), H D = none → (∀ x, x ∈ ds ↔ x ∈ ns) → ds.Nodup → Q (.ref D) (upd H D (.ext (SetI X.prog X.w D ds)))) := by
  intro pins s σ H xs us Q I r h
  obtain ⟨p, ns, rfl, hp, hz, q⟩ := h
  obtain ⟨u, rfl, ru⟩ := vals1 r
  cases ru
  obtain ⟨its, rv, pl, hl⟩ := I.list (SqL.of (K := X.K) hp)
  have hi := intsAre_of rv
  refine vals_set (I.ok.hd hc) pl.isList hi hz fun h' tk S kp => ?_
  have hD : H s.heap.objs.size = none := I.hok.fresh (Nat.le_refl _)
  have nd : (ns.foldl ins []).Nodup := by obtain ⟨_, _, _, _, P⟩ := S; exact P.nd
  refine ⟨.ref s.heap.objs.size, _, I.laid (t' := tk) (o := .ext (SetI X.prog X.w s.heap.objs.size (ns.foldl ins []))) kp (Nat.le_refl _) ?_, rfl, q _ _ hD (fun x => by rw [folds_mem]; simp) nd⟩
  refine ⟨S, ?_, fun h1 h2 a b => a.at' b⟩
  obtain ⟨es, ep, t, ho, _⟩ := S
  exact ⟨_, ho⟩
end
end L2

namespace L2
open PySem PySem.W PyProof.Rows
section
variable {prog : Program} {w : World} {A : Around} {E : Value → Shared → Prop} {s : Shared}
/-- set(a tuple of whole numbers) -/
theorem vals_setT {l : Addr} {items : Array Value} {ns : List Int} {Q : Value → Shared → Prop} (hh : A.handled = none) (hl : IsTup s.heap l items) (hi : IntsAre items.toList ns) (hb : ns.length < scanBound)
    (h : ∀ h' tk, SetI prog w s.heap.objs.size (ns.foldl ins []) h' → (∀ b o, s.heap.get? b = some o → h'.get? b = some o) → Q (.ref s.heap.objs.size) { s with heap := h', toks := tk }) :
    wpAny (model prog w) A (call (.type "set") [.ref l]) Q E s := by
  obtain ⟨c, tl, hmro⟩ := F.called_set.mro
  have m1 := F.called_set.made
  have m2 := F.called_set.sub
  have m3 := F.called_set.notType
  have m4 := F.called_set.canCreate
  have m5 := F.typeCall_set_1 (.ref l)
  refine wpAny_call (codeAny_of_tree ?_)
  show wpAny _ _ (callAny (.type "set") _) _ _ _
  refine wpAny_pure ⟨Code.quiet_builtin _ (by decide +kernel), codeAny_builtin F.entry_type_call ?_⟩
  rw [Around.under_plain (weight_type_call_type "set" [.ref l] []) rfl]
  repeat (any_goals (first | assumption | wp_step))
  refine codeAny_mono (set_new (.ref l) (E := E) (Q₁ := fun v s1 => v = .ref s.heap.objs.size ∧ s1 = { s with heap := s.heap.push (setObj #[] 0 (.fresh 0 0 (leds w))) }) ⟨rfl, rfl⟩) fun r s1 hr => ?_
  rcases r with e | f
  · exact hr
  cases f with
  | ret v =>
    obtain ⟨rfl, rfl⟩ := hr
    have hS : (s.heap.push (setObj #[] 0 (.fresh 0 0 (leds w)))).get? s.heap.objs.size = some (setObj #[] 0 (.fresh 0 0 (leds w))) := Heap.get?_push_size _ rfl
    have hT : Shared.TypeIs { s with heap := s.heap.push (setObj #[] 0 (.fresh 0 0 (leds w))) } (.ref s.heap.objs.size) "set" := ⟨_, hS, rfl⟩
    have i1 := F.called_set.init.lookup
    have i2 := F.called_set.init.bind (.ref s.heap.objs.size)
    repeat (any_goals (first | assumption | wp_step))
    refine codeAny_mono (codeAny_call_builtin (R := wants (fun r s2 => r = .none ∧ ∃ h' tk, s2 = { s with heap := h', toks := tk } ∧ SetI prog w s.heap.objs.size (ns.foldl ins []) h' ∧ ∀ b o, s.heap.get? b = some o → h'.get? b = some o) E) F.called_set.init.plain F.entry_set_init (check_set_init_1 hT ?_)) fun r2 s2 h2 => ?_
    · obtain ⟨ol, e1, e2, k, e3⟩ := hl
      obtain ⟨oc, od, oda, osl⟩ := ol
      simp only at e2 e3
      subst e2; subst e3
      have e1' := Heap.get?_push_of_some (setObj #[] 0 (.fresh 0 0 (leds w))) e1
      have j1 := F.sub_tuple_set
      have j2 := F.sub_tuple_frozenset
      have j3 : (Value.type "tuple" == Value.type "dict") = false := by decide
      have hl1 : IsTup (s.heap.push (setObj #[] 0 (.fresh 0 0 (leds w)))) l items := ⟨_, e1', rfl, k, rfl⟩
      unfold setObj at *
      unfold Builtin.«set.__init__» noKeywords Builtin.Frozenset.updateFrom
      generalize hPI : pyIter = PI
      wp_walk
      subst hPI
      refine wpAny_pyIter_tuple hl1 (wpAny_bind (wpAny_runValue ?_))
      have hlS : l < s.heap.objs.size := Heap.lt_size e1
      have hn : items.size = ns.length := by rw [← IntsAre.length hi, Array.length_toList]
      refine loop_setI (G := _) ((Walks.tuple (by simp [hh]) _ l (by rw [Heap.size_push]; exact Nat.ne_of_lt (Nat.lt_succ_of_lt hlS)) items).toS) s.heap.objs.size (by rw [Heap.size_push]; simp only [List.mem_cons, List.not_mem_nil, or_false, not_or]; exact ⟨Nat.ne_of_lt (Nat.lt_succ_self _), Nat.ne_of_gt hlS⟩) ns 0 [] _ (by rw [hn]; omega) (fun j x hj v hv => ?_) (by simpa using hb) ⟨⟨_, Heap.get?_push_size _ rfl, rfl, rfl⟩, hl1.push _⟩ ⟨#[], 0, _, Heap.get?_push_of_some _ hS, SetP.fresh⟩ fun s' m S' => ?_
      · obtain ⟨t, e⟩ := IntsAre.int_at hi j v (by rw [Array.getElem?_toList]; have := hv; rw [Nat.zero_add] at this; exact this)
        refine ⟨t, ?_⟩
        rw [e, List.getD_eq_getElem?_getD, hj]
        rfl
      · obtain ⟨h', g', d', tk', os'⟩ := s'
        have q1 : g' = s.gens := m.gens
        have q2 : d' = s.drawn := m.drawn
        have q3 : os' = s.os := m.os
        subst q1; subst q2; subst q3
        show wpAny _ _ _ _ _ _
        refine wpAny_pure ?_
        show wpAny _ _ (ret Value.none) _ _ _
        refine wpAny_pure ⟨rfl, h', tk', rfl, S', fun b o e => ?_⟩
        have hb0 := Heap.lt_size e
        refine m.heap b o ?_ (Heap.get?_push_of_some _ (Heap.get?_push_of_some _ e))
        rw [Heap.size_push]
        simp only [List.mem_cons, List.not_mem_nil, or_false, not_or]
        exact ⟨Nat.ne_of_lt hb0, Nat.ne_of_lt (Nat.lt_succ_of_lt hb0)⟩
    · rcases r2 with e | f2
      · exact h2
      cases f2 with
      | ret r =>
        obtain ⟨rfl, h', tk, rfl, S', kp⟩ := h2
        repeat (any_goals (first | assumption | wp_step))
        exact h _ _ S' kp
      | _ => exact h2.elim
  | _ => exact hr.elim
end
section
variable {X : Cx}
/-- set(tuple of ints) -/
theorem call_setT (hc : X.calm = true) : CallR X (.type "set") (fun xs H Q => ∃ (p : Addr) (ns : List Int), xs = [.ref p] ∧ H p = some (.tup (ns.map V.int)) ∧ ns.length < 4096 ∧
    ∀ (D : Addr) (ds : List Int), H D = none → (∀ x, x ∈ ds ↔ x ∈ ns) → ds.Nodup → Q (.ref D) (upd H D (.ext (SetI X.prog X.w D ds)))) := by
  intro pins s σ H xs us Q I r h
  obtain ⟨p, ns, rfl, hp, hz, q⟩ := h
  obtain ⟨u, rfl, ru⟩ := vals1 r
  cases ru
  obtain ⟨its, rv, pl, hl⟩ := I.tuple (SqT.of (K := X.K) hp)
  have hi := intsAre_of rv
  refine vals_setT (I.ok.hd hc) pl hi hz fun h' tk S kp => ?_
  have hD : H s.heap.objs.size = none := I.hok.fresh (Nat.le_refl _)
  have nd : (ns.foldl ins []).Nodup := by obtain ⟨_, _, _, _, P⟩ := S; exact P.nd
  refine ⟨.ref s.heap.objs.size, _, I.laid (t' := tk) (o := .ext (SetI X.prog X.w s.heap.objs.size (ns.foldl ins []))) kp (Nat.le_refl _) ?_, rfl, q _ _ hD (fun x => by rw [folds_mem]; simp) nd⟩
  refine ⟨S, ?_, fun h1 h2 a b => a.at' b⟩
  obtain ⟨es, ep, t, ho, _⟩ := S
  exact ⟨_, ho⟩
end
end L2

namespace L2
open PySem PySem.W PyProof.Rows
section
variable {X : Cx}
/-- sorted(set of few ints) -/
theorem call_sortedSF (hc : X.calm = true) : CallR X (.builtin "sorted") (fun xs H Q => ∃ (p : Addr) (ds : List Int), xs = [.ref p] ∧ H p = some (.ext (SetI X.prog X.w p ds)) ∧ ds.length < 64 ∧
    ∀ (D : Addr) (ms : List Int), H D = none → ms.Perm ds → ms.Pairwise (· < ·) → Q (.ref D) (upd H D (.lst (ms.map V.int)))) := by
  intro pins s σ H xs us Q I r h
  obtain ⟨p, ds, rfl, hp, h64, q⟩ := h
  obtain ⟨u, rfl, ru⟩ := vals1 r
  cases ru
  have S : SetI X.prog X.w p ds s.heap := (I.hok _ _ hp).1
  have hds : ds.Nodup := by
    obtain ⟨es, _, _, _, P⟩ := S
    exact P.nd
  refine Calls.call_function_entry kind_sorted plain_sorted entry_sorted (args_sorted1 _) ?_
  unfold Builtin.«sorted»
  refine wpAny_bind (m := checkCount "sorted" 1 1 _) (wpAny_pure (wpAny_bind (collect_set S (I.ok.hd hc) fun h1 tk dr vs ns kp hge hi hpm => ?_)))
  have hl := hi.length
  have hn : vs.length < 64 := by rw [hl, hpm.length_eq]; exact h64
  refine wpAny_bind (wpAny_newList ?_ (by rw [sizeLine_eq]; omega))
  have hoL : (h1.push (seqObj "list" vs.toArray 0)).get? h1.objs.size = some (seqObj "list" vs.toArray 0) := Heap.get?_push_size _ rfl
  have keep : ∀ b o, s.heap.get? b = some o → (h1.push (seqObj "list" vs.toArray 0)).get? b = some o := fun b o q => Heap.get?_push_of_some _ (kp b o q)
  have ne : ∀ b o, s.heap.get? b = some o → b ≠ h1.objs.size := fun b o q => Nat.ne_of_lt (Heap.lt_size (kp b o q))
  show wpAny _ _ _ _ _ { s with heap := h1.push (seqObj "list" vs.toArray 0), toks := tk, drawn := dr }
  refine wpAny_bind (wpAny_holding (wpAny_call_entry slot_list_sort ⟨_, hoL, rfl⟩ entry_list_sort (list_sort_tree hoL hi (by omega) fun out ms a1 a2 a3 => ⟨_, rfl, wpAny_pure ⟨_, rfl, ?_⟩⟩) (args_list_sort _)))
  obtain ⟨e, he⟩ := sortedHeap_at (out := out) hoL
  have j3 := a2.trans hpm
  refine ⟨.ref h1.objs.size, _, (I.drew dr).laid (t' := tk) (o := .lst (ms.map V.int)) (fun b o q => by rw [sortedHeap_old (ne b o q) (Heap.lt_size (keep b o q))]; exact keep b o q) hge ?_, rfl, q _ _ (I.hok.fresh hge) j3 ?_⟩
  · exact ⟨by rw [List.length_map, j3.length_eq, sizeLine_eq]; omega, out.toList, e, vals_ints a1, by rw [Array.toArray_toList]; exact he⟩
  · exact (a3.and (j3.nodup_iff.mpr hds)).imp fun {a b} h => by have := h.1; have := h.2; omega
end
end L2

namespace L2
open PySem PySem.W PyProof.Rows
section
variable {X : Cx}
end
theorem ex1 {us : List Value} (h : us.length = 1) : ∃ a, us = [a] := by
  match us, h with
  | [a], _ => exact ⟨a, rfl⟩
theorem ex2 {us : List Value} (h : us.length = 2) : ∃ a b, us = [a, b] := by
  match us, h with
  | [a, b], _ => exact ⟨a, b, rfl⟩
theorem ex3 {us : List Value} (h : us.length = 3) : ∃ a b c, us = [a, b, c] := by
  match us, h with
  | [a, b, c], _ => exact ⟨a, b, c, rfl⟩
theorem ex4 {us : List Value} (h : us.length = 4) : ∃ a b c d, us = [a, b, c, d] := by
  match us, h with
  | [a, b, c, d], _ => exact ⟨a, b, c, d, rfl⟩
theorem ex5 {us : List Value} (h : us.length = 5) : ∃ a b c d e, us = [a, b, c, d, e] := by
  match us, h with
  | [a, b, c, d, e], _ => exact ⟨a, b, c, d, e, rfl⟩
end L2

namespace L2
open PySem PySem.Spec PyProof.Rows PySem.SeqAt
/-! lists of rows -/
abbrev LA := Addr × List RA
def arefs (ls : List LA) : List V := ls.map fun x => V.ref x.1
def RowsOk (H : Hp) (ls : List LA) : Prop := ∀ x ∈ ls, RowAt H x.1 x.2
def RowsAt (H : Hp) (l : Addr) (ls : List LA) : Prop := H l = some (.lst (arefs ls)) ∧ RowsOk H ls
theorem RowsOk.up {H H' : Hp} {ls : List LA} (h : RowsOk H ls) (s : Same H H') : RowsOk H' ls := fun x hx => (h x hx).up s
theorem RowsAt.up {H H' : Hp} {l : Addr} {ls : List LA} (h : RowsAt H l ls) (s : Same H H') : RowsAt H' l ls := ⟨s _ _ h.1, h.2.up s⟩
theorem arefs_len (ls : List LA) : (arefs ls).length = ls.length := List.length_map ..
theorem arefs_at {ls : List LA} {i : Nat} {y : LA} (h : ls[i]? = some y) : (arefs ls)[i]? = some (.ref y.1) := by unfold arefs; rw [List.getElem?_map, h]; rfl
section
variable {X : Cx}
end
end L2

namespace L2
open PySem PySem.Spec PyProof.Rows PySem.SeqAt
/-! lists of triples of ints -/
abbrev RT := Addr × (Int × Int × Int)
def trefs (rs : List RT) : List V := rs.map fun x => V.ref x.1
def triV (t : Int × Int × Int) : List V := [.int t.1, .int t.2.1, .int t.2.2]
def TriOk (H : Hp) (rs : List RT) : Prop := ∀ x ∈ rs, H x.1 = some (.tup (triV x.2))
def TriAt (H : Hp) (l : Addr) (rs : List RT) : Prop := H l = some (.lst (trefs rs)) ∧ TriOk H rs
theorem TriOk.up {H H' : Hp} {rs : List RT} (h : TriOk H rs) (s : Same H H') : TriOk H' rs := fun x hx => s _ _ (h x hx)
theorem TriAt.up {H H' : Hp} {l : Addr} {rs : List RT} (h : TriAt H l rs) (s : Same H H') : TriAt H' l rs := ⟨s _ _ h.1, h.2.up s⟩
theorem trefs_app (rs : List RT) (a : Addr) (t : Int × Int × Int) : trefs rs ++ [.ref a] = trefs (rs ++ [(a, t)]) := by unfold trefs; rw [List.map_append]; rfl
theorem TriAt.put {H : Hp} {F t : Addr} {fs : List RT} {x y n : Int} (h : TriAt H F fs) (ht : H t = none) : TriAt (upd (upd H t (.tup [.int x, .int y, .int n])) F (.lst (trefs fs ++ [.ref t]))) F (fs ++ [(t, x, y, n)]) := by
  have htF : t ≠ F := fun z => by rw [z, h.1] at ht; cases ht
  refine ⟨by rw [upd_same, trefs_app _ _ (x, y, n)], fun q hq => ?_⟩
  rcases List.mem_append.mp hq with hq | hq
  · have e := h.2 q hq
    rw [upd_ne (fun z => by rw [z, h.1] at e; cases e), upd_ne (ne_of_none e ht)]
    exact e
  · rw [List.mem_singleton] at hq
    subst hq
    rw [upd_ne htF]
    exact upd_same
theorem TriAt.at2 {H : Hp} {F t : Addr} {fs : List RT} {o : HO} (h : TriAt H F fs) (ht : H t = none) : upd H t o F = some (.lst (trefs fs)) := by
  rw [upd_ne (fun z => by rw [← z, h.1] at ht; cases ht)]
  exact h.1
theorem TriAt.upX {F l : Addr} {H H' : Hp} {rs : List RT} {xs : List V} (h : TriAt H l rs) (hl : l ≠ F) (hF : H F = some (.lst xs)) (x : SameX F H H') : TriAt H' l rs :=
  ⟨x _ _ hl h.1, fun y hy => x _ _ (fun e => by have := h.2 y hy; rw [e, hF] at this; cases this) (h.2 y hy)⟩
section
variable {X : Cx}
end
end L2

namespace L2
open PySem PySem.Spec PyProof.Rows PySem.SeqAt
/-! a def that answers in two ways: with and without an exception -/
section
variable {cm : Bool} {P : Program} {w : World} {K : PySem.W.Frag} {mg : Str → Option Value} {base : Heap} {CX : CXT} {k : Nat} {f : Addr} {fd : FuncData} {ps : List Str} {sp sp' : Sp}
theorem FnOk.or (F : FnOk P w K mg base CX cm k f fd ps sp) (G : FnOk P w K mg base CX cm k f fd ps sp') : FnOk P w K mg base CX cm k f fd ps (fun vs H Q E => sp vs H Q E ∨ sp' vs H Q E) :=
  ⟨fun vs H Q E h => h.elim (F.len vs H Q E) (G.len vs H Q E), fun A outer s H args us vs Q E hr he hb hv hs => hs.elim (F.run A outer s H args us vs Q E hr he hb hv) (G.run A outer s H args us vs Q E hr he hb hv)⟩
end
section
variable {X : Cx}
end
section
variable {X : Cx} {K : PySem.W.Frag}
end
end L2

namespace L2
open PySem PySem.Spec PyProof.Rows
/-! isinstance(o, C), o a record of our own -/
structure IsO (K : PySem.W.Frag) (C : Addr) : Prop where
  ha : PySem.W.findIn K (.ref C) "__class__" = some (some (.builtin "object.__class__"))
  hn : PySem.W.specialIn K (.builtin "object.__class__") "__get__" = some (some (.builtin "getset_descriptor.__get__"))
  htk : PySem.W.takesIn K (.builtin "object.__class__") = some true
  hm : PySem.W.mroIn K C (.type "object") = some true
theorem call_isiOK {X : Cx} {K : PySem.W.Frag} (hK : X.K = K) : CallR X (.builtin "isinstance") (fun xs H Q => ∃ (e C D dx : Addr) (fs : List (Str × V)) (b : Bool), xs = [.ref e, .ref D] ∧ H e = some (.ins C dx fs) ∧ Cls K C ∧ IsO K C ∧ PySem.W.kitOne K (.ref C) (.ref D) = some b ∧ Q (.bl b) H) := by
  subst hK
  intro pins s σ H xs us Q I r h
  obtain ⟨e, C, D, dx, fs, b, rfl, he, cl, io, k, q⟩ := h
  obtain ⟨u, v, rfl, ru, rv⟩ := r.two
  cases rv
  exact isinst_ok I ru (TyOf.ins he cl io.ha io.hn io.htk io.hm) k fun tk => ⟨.bl b, H, I.tok tk, rfl, q⟩
end L2

namespace L2
open PySem PySem.Spec PySem.Calls PyProof.Rows
section
variable {X : Cx} {m : Str} {apos pos : Pos} {o : Expr} {ta : TE}
/-- o.m(), the class known by what stands there -/
def tMeth0 (m : Str) (D : Addr → (V → List V → Hp → VK → Prop) → Prop) (ta : TE) : TE := fun σ H Q => ta σ H fun x H1 => ∃ a C dx fs R, x = .ref a ∧ H1 a = some (.ins C dx fs) ∧ fs.lookup m = none ∧ D C R ∧ R x [] H1 Q
theorem pe_methV0 {pl : Sem Bool} {D : Addr → (V → List V → Hp → VK → Prop) → Prop} (he : PE X o ta) (hD : ∀ C R, D C R → Ans X m 0 C R)
    (ht : eval (.Call (.Attribute o m apos) [] [] pos) X.env = (do
      let ov ← eval o X.env
      standAt apos.atName
      let (f, first) ← holding [ov] (getMethod ov m pl)
      callWith pos f first (backTo pos (starEach [] X.env)) (backToKw pos (keywordEach [] X.env))) := by rfl) :
    PE X (.Call (.Attribute o m apos) [] [] pos) (tMeth0 m D ta) := by
  intro pins s σ H Q I h
  refine PySem.W.methodCall_KW (pl := pl) (thn (he pins s σ H _ I h) fun u s1 ⟨x, H1, I1, rx, a, C, dx, fs, R, ex, ea, l, d, q⟩ => ?_) ht
  subst ex
  obtain rfl : u = Value.ref a := rx
  obtain ⟨c, f, fd, ps, ds, dvs, CX, cm, k, sp, E, hm, F, hr, hb, hd, hx, hR⟩ := hD C R d
  refine getmeth_ok I1 ea c hm l ?_
  refine PySem.W.callWith_K0 (first := [.ref a]) (Inv.kIn (I1.tok _)) hm.kp ?_
  exact run_fn (us := [.ref a]) (vs := [.ref a]) F hr hb hd hx (I1.tok _) (.cons rfl .nil) (hR _ _ _ _ rfl q)
end
end L2

namespace L2
open PySem PySem.Spec PyProof.Rows PySem.Calls PySem.SeqAt
section
variable {X : Cx}
end
end L2

/-! days and months: plain mathematics -/
namespace DM
def leap (y : Int) : Bool := decide (y % 400 = 0) || (decide (y % 4 = 0) && !decide (y % 100 = 0))
def year (y : Int) : Int := (y - 2000) * 365 + (y - 2000 + 3) / 4 - (y - 2000 + 99) / 100 + (y - 2000 + 399) / 400
def len (y m : Int) : Int := if m = 2 then (if leap y then 29 else 28) else if m = 1 ∨ m = 3 ∨ m = 5 ∨ m = 7 ∨ m = 8 ∨ m = 10 ∨ m = 12 then 31 else 30
def ahead (m : Int) : Int := if m ≤ 1 then 0 else if m = 2 then 31 else if m = 3 then 59 else if m = 4 then 90 else if m = 5 then 120 else if m = 6 then 151 else if m = 7 then 181 else if m = 8 then 212 else if m = 9 then 243 else if m = 10 then 273 else if m = 11 then 304 else 334
/-- the first day of the month of a number -/
def mb (n : Int) : Int := year (2000 + n / 12) + ahead (n % 12 + 1) + (if n % 12 + 1 > 2 ∧ leap (2000 + n / 12) = true then 1 else 0)

theorem leap_iff (y : Int) : leap y = true ↔ (y % 400 = 0 ∨ (y % 4 = 0 ∧ ¬ y % 100 = 0)) := by
  simp [leap]
theorem len_pos (y m : Int) : 28 ≤ len y m ∧ len y m ≤ 31 := by
  unfold len
  split
  · split <;> omega
  · split <;> omega
/-- the number of a day's month -/
def mo (d : Int) : Int := if mb (d * 4800 / 146097) > d then d * 4800 / 146097 - 1 else if mb (d * 4800 / 146097 + 1) ≤ d then d * 4800 / 146097 + 1 else d * 4800 / 146097
end DM

/-! which numbers make a rule -/
namespace DG
def dy (d : Int) : Bool := decide (0 ≤ d ∧ d < 146097)
def btw (a n b : Int) : Bool := decide (a ≤ n ∧ n ≤ b)
def ab (n : Int) : Int := if n < 0 then -n else n
def fe (f e : Int) : Bool := dy f && btw 1 e 1000
def okW : Int → List Int → Bool
  | 0, [st, fi] => btw 1 st 146096 && dy fi
  | 1, [mk, fi, e] => btw 1 mk 127 && fe fi e
  | 2, [dt, fi, e] => btw 1 (ab dt) 31 && fe fi e
  | 3, [w, wd, fi, e] => btw 1 (ab w) 5 && (btw 0 wd 6 && fe fi e)
  | 4, [mn, dt, fi, e] => btw 1 mn 12 && (btw 1 dt (DM.len 2000 mn) && fe fi e)
  | 5, [a, b] => dy a && dy b
  | 6, [m] => btw (-1000) m 1000
  | 7, [d] => dy d
  | 8, [a, b] => dy a && dy b
  | _, _ => false
def TB : List (List (Int × Int)) := [[(1, 146096), (0, 146096)], [(1, 127), (0, 146096), (1, 1000)], [(1, 31), (0, 146096), (1, 1000)], [(1, 5), (0, 6), (0, 146096), (1, 1000)], [(1, 12), (1, 31), (0, 146096), (1, 1000)], [(0, 146096), (0, 146096)], [(-1000, 1000)], [(0, 146096)], [(0, 146096), (0, 146096)]]
def TEn : List (List (Int × Int)) := [[(1, 146096), (0, 146096)], [(1, 127), (0, 146096), (1, 1000)], [(-31, 31), (0, 146096), (1, 1000)], [(-5, 5), (0, 6), (0, 146096), (1, 1000)], [(1, 12), (1, 31), (0, 146096), (1, 1000)], [(0, 146096), (0, 146096)], [(-1000, 1000)], [(0, 146096)], [(0, 146096), (0, 146096)]]
/-- so many numbers as the way asks for -/
def Sh (w : Int) (ns : List Int) : Prop := 0 ≤ w ∧ w < 9 ∧ ns.length = (TB.getD w.toNat []).length
def firsts (r : List (Int × Int)) : List Int := r.map (·.1)
theorem dy_b (d : Int) : dy d = btw 0 d 146096 := by
  unfold dy btw
  exact decide_eq_decide.mpr (by omega)
theorem f0 : dy 0 = true := by decide
theorem fe01 : fe 0 1 = true := by decide
theorem fe_f (f : Int) : fe f 1 = dy f := by unfold fe; rw [show btw 1 1 1000 = true by decide, Bool.and_true]
theorem fe_e (e : Int) : fe 0 e = btw 1 e 1000 := by unfold fe; rw [f0, Bool.true_and]
/-- one number drawn, the others as they are -/
theorem ok_spot {w s : Nat} (hw : w < 9) (hs : s < (TB.getD w []).length) (v : Int) (h2 : ¬ ((w = 2 ∨ w = 3) ∧ s = 0)) : okW w ((firsts (TB.getD w [])).set s v) = btw ((TB.getD w []).getD s (0, 0)).1 v ((TB.getD w []).getD s (0, 0)).2 := by
  have c : w = 0 ∨ w = 1 ∨ w = 2 ∨ w = 3 ∨ w = 4 ∨ w = 5 ∨ w = 6 ∨ w = 7 ∨ w = 8 := by omega
  have t1 : btw 1 1 146096 = true := by decide
  have t2 : btw 1 1 127 = true := by decide
  have t3 : btw 1 (ab 1) 31 = true := by decide
  have t4 : btw 1 (ab 1) 5 = true := by decide
  have t5 : btw 0 0 6 = true := by decide
  have t6 : btw 1 1 12 = true := by decide
  have t7 : btw 1 1 (DM.len 2000 1) = true := by decide
  have t8 : DM.len 2000 1 = 31 := by decide
  have t9 : ∀ v, (btw 1 v 12 && btw 1 1 (DM.len 2000 v)) = btw 1 v 12 := fun v => by
    cases e : btw 1 v 12 with
    | false => rfl
    | true =>
      have := DM.len_pos 2000 v
      rw [Bool.true_and]
      exact decide_eq_true (by omega)
  rcases c with rfl | rfl | rfl | rfl | rfl | rfl | rfl | rfl | rfl
  · have : s = 0 ∨ s = 1 := by simp [TB] at hs; omega
    rcases this with rfl | rfl
    · show (btw 1 v 146096 && dy 0) = _; rw [f0, Bool.and_true]; rfl
    · show (btw 1 1 146096 && dy v) = _; rw [t1, Bool.true_and, dy_b]; rfl
  · have : s = 0 ∨ s = 1 ∨ s = 2 := by simp [TB] at hs; omega
    rcases this with rfl | rfl | rfl
    · show (btw 1 v 127 && fe 0 1) = _; rw [fe01, Bool.and_true]; rfl
    · show (btw 1 1 127 && fe v 1) = _; rw [t2, Bool.true_and, fe_f, dy_b]; rfl
    · show (btw 1 1 127 && fe 0 v) = _; rw [t2, Bool.true_and, fe_e]; rfl
  · have : s = 1 ∨ s = 2 := by simp [TB] at hs; omega
    rcases this with rfl | rfl
    · show (btw 1 (ab 1) 31 && fe v 1) = _; rw [t3, Bool.true_and, fe_f, dy_b]; rfl
    · show (btw 1 (ab 1) 31 && fe 0 v) = _; rw [t3, Bool.true_and, fe_e]; rfl
  · have : s = 1 ∨ s = 2 ∨ s = 3 := by simp [TB] at hs; omega
    rcases this with rfl | rfl | rfl
    · show (btw 1 (ab 1) 5 && (btw 0 v 6 && fe 0 1)) = _; rw [t4, Bool.true_and, fe01, Bool.and_true]; rfl
    · show (btw 1 (ab 1) 5 && (btw 0 0 6 && fe v 1)) = _; rw [t4, Bool.true_and, t5, Bool.true_and, fe_f, dy_b]; rfl
    · show (btw 1 (ab 1) 5 && (btw 0 0 6 && fe 0 v)) = _; rw [t4, Bool.true_and, t5, Bool.true_and, fe_e]; rfl
  · have : s = 0 ∨ s = 1 ∨ s = 2 ∨ s = 3 := by simp [TB] at hs; omega
    rcases this with rfl | rfl | rfl | rfl
    · show (btw 1 v 12 && (btw 1 1 (DM.len 2000 v) && fe 0 1)) = _; rw [fe01, Bool.and_true, t9]; rfl
    · show (btw 1 1 12 && (btw 1 v (DM.len 2000 1) && fe 0 1)) = _; rw [t6, Bool.true_and, fe01, Bool.and_true, t8]; rfl
    · show (btw 1 1 12 && (btw 1 1 (DM.len 2000 1) && fe v 1)) = _; rw [t6, Bool.true_and, t7, Bool.true_and, fe_f, dy_b]; rfl
    · show (btw 1 1 12 && (btw 1 1 (DM.len 2000 1) && fe 0 v)) = _; rw [t6, Bool.true_and, t7, Bool.true_and, fe_e]; rfl
  · have : s = 0 ∨ s = 1 := by simp [TB] at hs; omega
    rcases this with rfl | rfl
    · show (dy v && dy 0) = _; rw [f0, Bool.and_true, dy_b]; rfl
    · show (dy 0 && dy v) = _; rw [f0, Bool.true_and, dy_b]; rfl
  · have : s = 0 := by simp [TB] at hs; omega
    subst this
    rfl
  · have : s = 0 := by simp [TB] at hs; omega
    subst this
    show dy v = _
    rw [dy_b]; rfl
  · have : s = 0 ∨ s = 1 := by simp [TB] at hs; omega
    rcases this with rfl | rfl
    · show (dy v && dy 0) = _; rw [f0, Bool.and_true, dy_b]; rfl
    · show (dy 0 && dy v) = _; rw [f0, Bool.true_and, dy_b]; rfl
theorem ok_2 (x : Int) : okW 2 [x, 0, 1] = btw 1 (ab x) 31 := by show (btw 1 (ab x) 31 && fe 0 1) = _; rw [fe01, Bool.and_true]
theorem ok_3 (x : Int) : okW 3 [x, 0, 0, 1] = btw 1 (ab x) 5 := by show (btw 1 (ab x) 5 && (btw 0 0 6 && fe 0 1)) = _; rw [fe01, Bool.and_true, show btw 0 0 6 = true by decide, Bool.and_true]
theorem ok_4 {m t : Int} (h1 : 1 ≤ m) (h2 : m ≤ 12) (h3 : 0 ≤ t) : okW 4 [m, DM.len 2000 m + t, 0, 1] = decide (DM.len 2000 m + t ≤ DM.len 2000 m) := by
  have := DM.len_pos 2000 m
  show (btw 1 m 12 && (btw 1 (DM.len 2000 m + t) (DM.len 2000 m) && fe 0 1)) = _
  rw [fe01, Bool.and_true, show btw 1 m 12 = true from decide_eq_true ⟨h1, h2⟩, Bool.true_and]
  exact decide_eq_decide.mpr (by omega)
def endB (p : Int × Int) (t : Nat) : Int := (if t % 2 = 0 then p.1 else p.2) + (if t = 2 then -1 else if t = 3 then 1 else 0)
def endsOk : Bool := (List.range 4).all fun t => (List.range 9).all fun w => (List.range (TEn.getD w []).length).all fun s => okW w ((firsts (TEn.getD w [])).set s (endB ((TEn.getD w []).getD s (0, 0)) t)) == decide (t < 2)
theorem ends_ok : endsOk = true := by decide +kernel
theorem ends_at {t w s : Nat} (ht : t < 4) (hw : w < 9) (hs : s < (TEn.getD w []).length) : okW w ((firsts (TEn.getD w [])).set s (endB ((TEn.getD w []).getD s (0, 0)) t)) = decide (t < 2) := by
  have a := List.all_eq_true.mp ends_ok t (List.mem_range.mpr ht)
  have b := List.all_eq_true.mp a w (List.mem_range.mpr hw)
  have c := List.all_eq_true.mp b s (List.mem_range.mpr hs)
  exact beq_iff_eq.mp c
end DG

set_option smartUnfolding false
namespace K13
open PySem L2
def top (i : Nat) : Stmt := PySem.Challenge.pw_hourhouse_k13_rules_refused.main.body.getD i (.Pass ⟨0, 0, 0, 0⟩)
abbrev s_is_day : Stmt := top 23
abbrev s_is_leap : Stmt := top 24
abbrev s_year_begin : Stmt := top 26
abbrev s_check_bounds : Stmt := top 34
abbrev s_ByMonth___init : Stmt := inClass (top 45) 0
abbrev s_Changed_days_lost : Stmt := inClass (top 56) 2
abbrev s_law_cell_at : Stmt := top 58
abbrev s_law_next : Stmt := top 59
abbrev s_law_leap : Stmt := top 60
abbrev s_law_alone : Stmt := top 66
abbrev s_law_number : Stmt := top 67
abbrev s_month_days : Stmt := top 25
abbrev s_month_begin : Stmt := top 27
abbrev s_check_day : Stmt := top 35
abbrev s_Every_falls_on : Stmt := inClass (top 43) 1
abbrev s_Shifted___init : Stmt := inClass (top 55) 0
abbrev s_law_length : Stmt := top 61
abbrev s_month_of : Stmt := top 28
abbrev s_check_every : Stmt := top 36
abbrev s_Every___init : Stmt := inClass (top 43) 0
abbrev s_Days___init : Stmt := inClass (top 49) 0
abbrev s_Changed_days_gained : Stmt := inClass (top 56) 1
abbrev s_law_numbers : Stmt := top 68
abbrev s_date_of : Stmt := top 29
abbrev s_Weekly___init : Stmt := inClass (top 44) 0
abbrev s_Monthly___init : Stmt := inClass (top 46) 0
abbrev s_Nth___init : Stmt := inClass (top 47) 0
abbrev s_Changed___init : Stmt := inClass (top 56) 0
abbrev s_Yearly___init : Stmt := inClass (top 48) 0
abbrev s_law_make : Stmt := top 69
abbrev s_law_told : Stmt := top 70
abbrev s_law_all_ends : Stmt := top 71
abbrev s_law : Stmt := top 72
set_option genInjectivity false
set_option genSizeOf false
structure Adr where
  f_is_day : Addr
  d_is_day : FuncData
  f_is_leap : Addr
  d_is_leap : FuncData
  f_year_begin : Addr
  d_year_begin : FuncData
  f_check_bounds : Addr
  d_check_bounds : FuncData
  f_ByMonth___init : Addr
  d_ByMonth___init : FuncData
  f_Changed_days_lost : Addr
  d_Changed_days_lost : FuncData
  f_law_cell_at : Addr
  d_law_cell_at : FuncData
  f_law_next : Addr
  d_law_next : FuncData
  f_law_leap : Addr
  d_law_leap : FuncData
  f_law_alone : Addr
  d_law_alone : FuncData
  f_law_number : Addr
  d_law_number : FuncData
  f_month_days : Addr
  d_month_days : FuncData
  f_month_begin : Addr
  d_month_begin : FuncData
  f_check_day : Addr
  d_check_day : FuncData
  f_Every_falls_on : Addr
  d_Every_falls_on : FuncData
  f_Shifted___init : Addr
  d_Shifted___init : FuncData
  f_law_length : Addr
  d_law_length : FuncData
  f_month_of : Addr
  d_month_of : FuncData
  f_check_every : Addr
  d_check_every : FuncData
  f_Every___init : Addr
  d_Every___init : FuncData
  f_Days___init : Addr
  d_Days___init : FuncData
  f_Changed_days_gained : Addr
  d_Changed_days_gained : FuncData
  f_law_numbers : Addr
  d_law_numbers : FuncData
  f_date_of : Addr
  d_date_of : FuncData
  f_Weekly___init : Addr
  d_Weekly___init : FuncData
  f_Monthly___init : Addr
  d_Monthly___init : FuncData
  f_Nth___init : Addr
  d_Nth___init : FuncData
  f_Changed___init : Addr
  d_Changed___init : FuncData
  f_Yearly___init : Addr
  d_Yearly___init : FuncData
  f_law_make : Addr
  d_law_make : FuncData
  f_law_told : Addr
  d_law_told : FuncData
  f_law_all_ends : Addr
  d_law_all_ends : FuncData
  f_law : Addr
  d_law : FuncData
  c_DAYS_AHEAD : Addr
  c_MONTH_LENGTHS : Addr
  x_Busy : Addr
  x_Closed : Addr
  x_Full : Addr
  x_HouseError : Addr
  x_Known : Addr
  x_NoDay : Addr
  x_NoHand : Addr
  x_NoLetter : Addr
  x_NoMeeting : Addr
  x_NoPlace : Addr
  x_NoRule : Addr
  x_NoSpan : Addr
  x_NoText : Addr
  x_NoThing : Addr
  x_NoWord : Addr
  x_ByMonth : Addr
  x_Changed : Addr
  x_Days : Addr
  x_Every : Addr
  x_Monthly : Addr
  x_Nth : Addr
  x_Rule : Addr
  x_Shifted : Addr
  x_Weekly : Addr
  x_Yearly : Addr
structure Txt (K : PySem.W.Frag) (mg : Str → Option Value) (a : Adr) : Prop where
  F_is_day : Fun K "is_day" "is_day" s_is_day a.f_is_day a.d_is_day
  m_is_day : mg "is_day" = some (.ref a.f_is_day)
  b_is_day : Binds K a.d_is_day ["number"] []
  F_is_leap : Fun K "is_leap" "is_leap" s_is_leap a.f_is_leap a.d_is_leap
  m_is_leap : mg "is_leap" = some (.ref a.f_is_leap)
  b_is_leap : Binds K a.d_is_leap ["year"] []
  F_year_begin : Fun K "year_begin" "year_begin" s_year_begin a.f_year_begin a.d_year_begin
  m_year_begin : mg "year_begin" = some (.ref a.f_year_begin)
  b_year_begin : Binds K a.d_year_begin ["year"] []
  F_check_bounds : Fun K "check_bounds" "check_bounds" s_check_bounds a.f_check_bounds a.d_check_bounds
  m_check_bounds : mg "check_bounds" = some (.ref a.f_check_bounds)
  b_check_bounds : Binds K a.d_check_bounds ["number", "least", "most"] []
  F_ByMonth___init : Fun K "__init__" "ByMonth.__init__" s_ByMonth___init a.f_ByMonth___init a.d_ByMonth___init
  b_ByMonth___init : Binds K a.d_ByMonth___init ["self", "origin", "stride", "first"] []
  F_Changed_days_lost : Fun K "days_lost" "Changed.days_lost" s_Changed_days_lost a.f_Changed_days_lost a.d_Changed_days_lost
  b_Changed_days_lost : Binds K a.d_Changed_days_lost ["self"] []
  F_law_cell_at : Fun K "_law_cell_at" "_law_cell_at" s_law_cell_at a.f_law_cell_at a.d_law_cell_at
  m_law_cell_at : mg "_law_cell_at" = some (.ref a.f_law_cell_at)
  b_law_cell_at : Binds K a.d_law_cell_at ["_law_script", "_law_k"] []
  F_law_next : Fun K "_law_next" "_law_next" s_law_next a.f_law_next a.d_law_next
  m_law_next : mg "_law_next" = some (.ref a.f_law_next)
  b_law_next : Binds K a.d_law_next ["_law_pick"] []
  F_law_leap : Fun K "_law_leap" "_law_leap" s_law_leap a.f_law_leap a.d_law_leap
  m_law_leap : mg "_law_leap" = some (.ref a.f_law_leap)
  b_law_leap : Binds K a.d_law_leap ["_law_year_here"] []
  F_law_alone : Fun K "_law_alone" "_law_alone" s_law_alone a.f_law_alone a.d_law_alone
  m_law_alone : mg "_law_alone" = some (.ref a.f_law_alone)
  b_law_alone : Binds K a.d_law_alone ["_law_e"] []
  F_law_number : Fun K "_law_number" "_law_number" s_law_number a.f_law_number a.d_law_number
  m_law_number : mg "_law_number" = some (.ref a.f_law_number)
  b_law_number : Binds K a.d_law_number ["_law_cell", "_law_low", "_law_high"] []
  F_month_days : Fun K "month_days" "month_days" s_month_days a.f_month_days a.d_month_days
  m_month_days : mg "month_days" = some (.ref a.f_month_days)
  b_month_days : Binds K a.d_month_days ["year", "month"] []
  F_month_begin : Fun K "month_begin" "month_begin" s_month_begin a.f_month_begin a.d_month_begin
  m_month_begin : mg "month_begin" = some (.ref a.f_month_begin)
  b_month_begin : Binds K a.d_month_begin ["number"] []
  F_check_day : Fun K "check_day" "check_day" s_check_day a.f_check_day a.d_check_day
  m_check_day : mg "check_day" = some (.ref a.f_check_day)
  b_check_day : Binds K a.d_check_day ["number"] []
  F_Every_falls_on : Fun K "falls_on" "Every.falls_on" s_Every_falls_on a.f_Every_falls_on a.d_Every_falls_on
  b_Every_falls_on : Binds K a.d_Every_falls_on ["self", "day"] []
  F_Shifted___init : Fun K "__init__" "Shifted.__init__" s_Shifted___init a.f_Shifted___init a.d_Shifted___init
  b_Shifted___init : Binds K a.d_Shifted___init ["self", "rule", "many"] []
  F_law_length : Fun K "_law_length" "_law_length" s_law_length a.f_law_length a.d_law_length
  m_law_length : mg "_law_length" = some (.ref a.f_law_length)
  b_law_length : Binds K a.d_law_length ["_law_year_here", "_law_month"] []
  F_month_of : Fun K "month_of" "month_of" s_month_of a.f_month_of a.d_month_of
  m_month_of : mg "month_of" = some (.ref a.f_month_of)
  b_month_of : Binds K a.d_month_of ["day"] []
  F_check_every : Fun K "check_every" "check_every" s_check_every a.f_check_every a.d_check_every
  m_check_every : mg "check_every" = some (.ref a.f_check_every)
  b_check_every : Binds K a.d_check_every ["first", "every"] []
  F_Every___init : FunD K "__init__" "Every.__init__" s_Every___init a.f_Every___init a.d_Every___init
  b_Every___init : Binds K a.d_Every___init ["self", "step", "first"] []
  b_Every___init_1 : ∃ ds, Binds K a.d_Every___init ["self", "step", "first"] ds ∧ Vals [.int 0] ds
  F_Days___init : Fun K "__init__" "Days.__init__" s_Days___init a.f_Days___init a.d_Days___init
  b_Days___init : Binds K a.d_Days___init ["self", "days"] []
  F_Changed_days_gained : Fun K "days_gained" "Changed.days_gained" s_Changed_days_gained a.f_Changed_days_gained a.d_Changed_days_gained
  b_Changed_days_gained : Binds K a.d_Changed_days_gained ["self"] []
  F_law_numbers : Fun K "_law_numbers" "_law_numbers" s_law_numbers a.f_law_numbers a.d_law_numbers
  m_law_numbers : mg "_law_numbers" = some (.ref a.f_law_numbers)
  b_law_numbers : Binds K a.d_law_numbers ["_law_cell"] []
  F_date_of : Fun K "date_of" "date_of" s_date_of a.f_date_of a.d_date_of
  m_date_of : mg "date_of" = some (.ref a.f_date_of)
  b_date_of : Binds K a.d_date_of ["day"] []
  F_Weekly___init : FunD K "__init__" "Weekly.__init__" s_Weekly___init a.f_Weekly___init a.d_Weekly___init
  b_Weekly___init : Binds K a.d_Weekly___init ["self", "mask", "first", "every"] []
  F_Monthly___init : FunD K "__init__" "Monthly.__init__" s_Monthly___init a.f_Monthly___init a.d_Monthly___init
  b_Monthly___init : Binds K a.d_Monthly___init ["self", "date", "first", "every"] []
  F_Nth___init : FunD K "__init__" "Nth.__init__" s_Nth___init a.f_Nth___init a.d_Nth___init
  b_Nth___init : Binds K a.d_Nth___init ["self", "which", "weekday_of", "first", "every"] []
  F_Changed___init : FunD K "__init__" "Changed.__init__" s_Changed___init a.f_Changed___init a.d_Changed___init
  b_Changed___init : Binds K a.d_Changed___init ["self", "rule", "left", "more", "moved"] []
  b_Changed___init_1 : ∃ ds, Binds K a.d_Changed___init ["self", "rule", "left", "more", "moved"] ds ∧ Vals [.non] ds
  F_Yearly___init : FunD K "__init__" "Yearly.__init__" s_Yearly___init a.f_Yearly___init a.d_Yearly___init
  b_Yearly___init : Binds K a.d_Yearly___init ["self", "month", "date", "first", "every"] []
  F_law_make : Fun K "_law_make" "_law_make" s_law_make a.f_law_make a.d_law_make
  m_law_make : mg "_law_make" = some (.ref a.f_law_make)
  b_law_make : Binds K a.d_law_make ["_law_way", "_law_some"] []
  F_law_told : Fun K "_law_told" "_law_told" s_law_told a.f_law_told a.d_law_told
  m_law_told : mg "_law_told" = some (.ref a.f_law_told)
  b_law_told : Binds K a.d_law_told ["_law_way", "_law_some"] []
  F_law_all_ends : Fun K "_law_all_ends" "_law_all_ends" s_law_all_ends a.f_law_all_ends a.d_law_all_ends
  m_law_all_ends : mg "_law_all_ends" = some (.ref a.f_law_all_ends)
  b_law_all_ends : Binds K a.d_law_all_ends ["_law_turn"] []
  F_law : Fun K "law" "law" s_law a.f_law a.d_law
  m_law : mg "law" = some (.ref a.f_law)
  b_law : Binds K a.d_law ["_law_script"] []
  g_DAYS : ∃ t, mg "DAYS" = some (.int 146097 t)
  g_DAYS_AHEAD : mg "DAYS_AHEAD" = some (.ref a.c_DAYS_AHEAD)
  s_DAYS_AHEAD : ∀ H : Hp, SqT K H a.c_DAYS_AHEAD [.int 0, .int 31, .int 59, .int 90, .int 120, .int 151, .int 181, .int 212, .int 243, .int 273, .int 304, .int 334]
  g_FIRST_YEAR : ∃ t, mg "FIRST_YEAR" = some (.int 2000 t)
  g_LONG_YEAR : ∃ t, mg "LONG_YEAR" = some (.int 2000 t)
  g_MONTHS : ∃ t, mg "MONTHS" = some (.int 4800 t)
  g_MONTH_LENGTHS : mg "MONTH_LENGTHS" = some (.ref a.c_MONTH_LENGTHS)
  s_MONTH_LENGTHS : ∀ H : Hp, SqT K H a.c_MONTH_LENGTHS [.int 31, .int 28, .int 31, .int 30, .int 31, .int 30, .int 31, .int 31, .int 30, .int 31, .int 30, .int 31]
  g_MOST_EVERY : ∃ t, mg "MOST_EVERY" = some (.int 1000 t)
  g_MOST_MANY : ∃ t, mg "MOST_MANY" = some (.int 1000 t)
  m_Busy : mg "Busy" = some (.ref a.x_Busy)
  m_Closed : mg "Closed" = some (.ref a.x_Closed)
  m_Full : mg "Full" = some (.ref a.x_Full)
  m_HouseError : mg "HouseError" = some (.ref a.x_HouseError)
  c_HouseError : Catch K a.x_HouseError
  m_Known : mg "Known" = some (.ref a.x_Known)
  m_NoDay : mg "NoDay" = some (.ref a.x_NoDay)
  m_NoHand : mg "NoHand" = some (.ref a.x_NoHand)
  m_NoLetter : mg "NoLetter" = some (.ref a.x_NoLetter)
  m_NoMeeting : mg "NoMeeting" = some (.ref a.x_NoMeeting)
  m_NoPlace : mg "NoPlace" = some (.ref a.x_NoPlace)
  m_NoRule : mg "NoRule" = some (.ref a.x_NoRule)
  x_NoRule : PySem.W.excIn K a.x_NoRule vE "ValueError.__new__" = true
  m_NoSpan : mg "NoSpan" = some (.ref a.x_NoSpan)
  m_NoText : mg "NoText" = some (.ref a.x_NoText)
  m_NoThing : mg "NoThing" = some (.ref a.x_NoThing)
  m_NoWord : mg "NoWord" = some (.ref a.x_NoWord)
  s_NoRule_HouseError : PySem.W.mroIn K a.x_NoRule (.ref a.x_HouseError) = some true
  e_NoRule : ExC K a.x_NoRule
  k_NoRule_NoDay : PySem.W.kitOne K (.ref a.x_NoRule) (.ref a.x_NoDay) = some false
  k_NoRule_NoText : PySem.W.kitOne K (.ref a.x_NoRule) (.ref a.x_NoText) = some false
  k_NoRule_NoRule : PySem.W.kitOne K (.ref a.x_NoRule) (.ref a.x_NoRule) = some true
  k_NoRule_NoPlace : PySem.W.kitOne K (.ref a.x_NoRule) (.ref a.x_NoPlace) = some false
  k_NoRule_NoSpan : PySem.W.kitOne K (.ref a.x_NoRule) (.ref a.x_NoSpan) = some false
  k_NoRule_NoThing : PySem.W.kitOne K (.ref a.x_NoRule) (.ref a.x_NoThing) = some false
  k_NoRule_Known : PySem.W.kitOne K (.ref a.x_NoRule) (.ref a.x_Known) = some false
  k_NoRule_Full : PySem.W.kitOne K (.ref a.x_NoRule) (.ref a.x_Full) = some false
  k_NoRule_NoLetter : PySem.W.kitOne K (.ref a.x_NoRule) (.ref a.x_NoLetter) = some false
  k_NoRule_NoHand : PySem.W.kitOne K (.ref a.x_NoRule) (.ref a.x_NoHand) = some false
  k_NoRule_NoWord : PySem.W.kitOne K (.ref a.x_NoRule) (.ref a.x_NoWord) = some false
  k_NoRule_NoMeeting : PySem.W.kitOne K (.ref a.x_NoRule) (.ref a.x_NoMeeting) = some false
  k_NoRule_Closed : PySem.W.kitOne K (.ref a.x_NoRule) (.ref a.x_Closed) = some false
  k_NoRule_Busy : PySem.W.kitOne K (.ref a.x_NoRule) (.ref a.x_Busy) = some false
  k_NoRule_ValueError : PySem.W.kitOne K (.ref a.x_NoRule) (.type "ValueError") = some true
  cf_ByMonth___init : ClsFn K a.x_ByMonth "__init__" a.f_ByMonth___init
  io_Changed : IsO K a.x_Changed
  io_Days : IsO K a.x_Days
  io_Every : IsO K a.x_Every
  io_Monthly : IsO K a.x_Monthly
  io_Nth : IsO K a.x_Nth
  io_Shifted : IsO K a.x_Shifted
  io_Weekly : IsO K a.x_Weekly
  io_Yearly : IsO K a.x_Yearly
  ki_Every_Rule : PySem.W.kitOne K (.ref a.x_Every) (.ref a.x_Rule) = some true
  ki_Weekly_Rule : PySem.W.kitOne K (.ref a.x_Weekly) (.ref a.x_Rule) = some true
  ki_Monthly_Rule : PySem.W.kitOne K (.ref a.x_Monthly) (.ref a.x_Rule) = some true
  ki_Nth_Rule : PySem.W.kitOne K (.ref a.x_Nth) (.ref a.x_Rule) = some true
  ki_Yearly_Rule : PySem.W.kitOne K (.ref a.x_Yearly) (.ref a.x_Rule) = some true
  ki_Days_Rule : PySem.W.kitOne K (.ref a.x_Days) (.ref a.x_Rule) = some true
  ki_Shifted_Rule : PySem.W.kitOne K (.ref a.x_Shifted) (.ref a.x_Rule) = some true
  ki_Changed_Rule : PySem.W.kitOne K (.ref a.x_Changed) (.ref a.x_Rule) = some true
  m_ByMonth : mg "ByMonth" = some (.ref a.x_ByMonth)
  cl_ByMonth : Cls K a.x_ByMonth
  mk_ByMonth : Mk K a.x_ByMonth a.f_ByMonth___init
  n_ByMonth_origin : NoAttr K a.x_ByMonth "origin"
  n_ByMonth_stride : NoAttr K a.x_ByMonth "stride"
  n_ByMonth_first : NoAttr K a.x_ByMonth "first"
  m_Changed : mg "Changed" = some (.ref a.x_Changed)
  cl_Changed : Cls K a.x_Changed
  mk_Changed : Mk K a.x_Changed a.f_Changed___init
  n_Changed_rule : NoAttr K a.x_Changed "rule"
  n_Changed_left : NoAttr K a.x_Changed "left"
  n_Changed_more : NoAttr K a.x_Changed "more"
  n_Changed_moved : NoAttr K a.x_Changed "moved"
  n_Changed_gained : NoAttr K a.x_Changed "gained"
  n_Changed_lost : NoAttr K a.x_Changed "lost"
  me_Changed_days_gained : Meth K a.x_Changed "days_gained" a.f_Changed_days_gained
  me_Changed_days_lost : Meth K a.x_Changed "days_lost" a.f_Changed_days_lost
  m_Days : mg "Days" = some (.ref a.x_Days)
  cl_Days : Cls K a.x_Days
  mk_Days : Mk K a.x_Days a.f_Days___init
  n_Days_days : NoAttr K a.x_Days "days"
  m_Every : mg "Every" = some (.ref a.x_Every)
  cl_Every : Cls K a.x_Every
  mk_Every : Mk K a.x_Every a.f_Every___init
  n_Every_step : NoAttr K a.x_Every "step"
  n_Every_first : NoAttr K a.x_Every "first"
  me_Every_falls_on : Meth K a.x_Every "falls_on" a.f_Every_falls_on
  m_Monthly : mg "Monthly" = some (.ref a.x_Monthly)
  cl_Monthly : Cls K a.x_Monthly
  mk_Monthly : Mk K a.x_Monthly a.f_Monthly___init
  n_Monthly_date : NoAttr K a.x_Monthly "date"
  n_Monthly_every : NoAttr K a.x_Monthly "every"
  n_Monthly_origin : NoAttr K a.x_Monthly "origin"
  n_Monthly_stride : NoAttr K a.x_Monthly "stride"
  n_Monthly_first : NoAttr K a.x_Monthly "first"
  m_Nth : mg "Nth" = some (.ref a.x_Nth)
  cl_Nth : Cls K a.x_Nth
  mk_Nth : Mk K a.x_Nth a.f_Nth___init
  n_Nth_which : NoAttr K a.x_Nth "which"
  n_Nth_weekday_of : NoAttr K a.x_Nth "weekday_of"
  n_Nth_every : NoAttr K a.x_Nth "every"
  n_Nth_origin : NoAttr K a.x_Nth "origin"
  n_Nth_stride : NoAttr K a.x_Nth "stride"
  n_Nth_first : NoAttr K a.x_Nth "first"
  m_Rule : mg "Rule" = some (.ref a.x_Rule)
  cl_Rule : Cls K a.x_Rule
  m_Shifted : mg "Shifted" = some (.ref a.x_Shifted)
  cl_Shifted : Cls K a.x_Shifted
  mk_Shifted : Mk K a.x_Shifted a.f_Shifted___init
  n_Shifted_rule : NoAttr K a.x_Shifted "rule"
  n_Shifted_many : NoAttr K a.x_Shifted "many"
  m_Weekly : mg "Weekly" = some (.ref a.x_Weekly)
  cl_Weekly : Cls K a.x_Weekly
  mk_Weekly : Mk K a.x_Weekly a.f_Weekly___init
  n_Weekly_mask : NoAttr K a.x_Weekly "mask"
  n_Weekly_first : NoAttr K a.x_Weekly "first"
  n_Weekly_every : NoAttr K a.x_Weekly "every"
  m_Yearly : mg "Yearly" = some (.ref a.x_Yearly)
  cl_Yearly : Cls K a.x_Yearly
  mk_Yearly : Mk K a.x_Yearly a.f_Yearly___init
  n_Yearly_month : NoAttr K a.x_Yearly "month"
  n_Yearly_date : NoAttr K a.x_Yearly "date"
  n_Yearly_every : NoAttr K a.x_Yearly "every"
  n_Yearly_origin : NoAttr K a.x_Yearly "origin"
  n_Yearly_stride : NoAttr K a.x_Yearly "stride"
  n_Yearly_first : NoAttr K a.x_Yearly "first"
  n_ValueError : mg "ValueError" = none
  n_abs : mg "abs" = none
  n_int : mg "int" = none
  n_isinstance : mg "isinstance" = none
  n_len : mg "len" = none
  n_list : mg "list" = none
  n_range : mg "range" = none
  n_set : mg "set" = none
  n_sorted : mg "sorted" = none
  n_tuple : mg "tuple" = none

/-- the promises -/
def sp_is_leap : Sp := fun vs H Q _ => ∃ y : Int, vs = [.int y] ∧ Q (.bl (DM.leap y)) H
def sp_month_days : Sp := fun vs H Q _ => ∃ y m : Int, vs = [.int y, .int m] ∧ 1 ≤ m ∧ m ≤ 12 ∧ Q (.int (DM.len y m)) H
def sp_year_begin : Sp := fun vs H Q _ => ∃ y : Int, vs = [.int y] ∧ Q (.int (DM.year y)) H
def sp_month_begin : Sp := fun vs H Q _ => ∃ n : Int, vs = [.int n] ∧ Q (.int (DM.mb n)) H
def sp_month_of : Sp := fun vs H Q _ => ∃ d : Int, vs = [.int d] ∧ Q (.int (DM.mo d)) H
def sp_law_cell_at (K : PySem.W.Frag) : Sp := fun vs H Q _ => ∃ (p : Addr) (ns : List Int) (k : Int), vs = [.ref p, .int k] ∧ SqL K H p (ns.map V.int) ∧ 0 ≤ k ∧ ∀ v : Int, Q (.int v) H
def sp_law_next : Sp := fun vs H Q _ => ∃ p : Int, vs = [.int p] ∧ ∀ n : Int, 0 ≤ n → Q (.int n) H
def sp_law_length : Sp := fun vs H Q _ => ∃ y m : Int, vs = [.int y, .int m] ∧ ∀ H', Same H H' → Q (.int (DM.len y m)) H'
theorem ml_at {y m : Int} (h1 : 1 ≤ m) (h2 : m ≤ 12) (h : ¬ (m = 2 ∧ DM.leap y = true)) : atI [V.int 31, .int 28, .int 31, .int 30, .int 31, .int 30, .int 31, .int 31, .int 30, .int 31, .int 30, .int 31] (m - 1) = some (.int (DM.len y m)) := by
  have hm : m = 1 ∨ m = 2 ∨ m = 3 ∨ m = 4 ∨ m = 5 ∨ m = 6 ∨ m = 7 ∨ m = 8 ∨ m = 9 ∨ m = 10 ∨ m = 11 ∨ m = 12 := by omega
  rcases hm with e | e | e | e | e | e | e | e | e | e | e | e <;> subst e
  case inr.inl =>
    have e : DM.leap y = false := by simpa using h
    simp only [DM.len, e]
    rfl
  all_goals rfl
theorem da_at (n : Int) : atI [V.int 0, .int 31, .int 59, .int 90, .int 120, .int 151, .int 181, .int 212, .int 243, .int 273, .int 304, .int 334] (n % 12 + 1 - 1) = some (.int (DM.ahead (n % 12 + 1))) := by
  have hr : n % 12 = 0 ∨ n % 12 = 1 ∨ n % 12 = 2 ∨ n % 12 = 3 ∨ n % 12 = 4 ∨ n % 12 = 5 ∨ n % 12 = 6 ∨ n % 12 = 7 ∨ n % 12 = 8 ∨ n % 12 = 9 ∨ n % 12 = 10 ∨ n % 12 = 11 := by omega
  rcases hr with e | e | e | e | e | e | e | e | e | e | e | e <;> rw [e] <;> rfl
theorem vint {i j : Int} : decide (V.int i = V.int j) = decide (i = j) := decide_eq_decide.mpr (by rw [V.int.injEq])
theorem look_ne {a b : Str} {v : V} {r : List (Str × V)} (h : (a == b) = false) : List.lookup a ((b, v) :: r) = List.lookup a r := by
  show (match a == b with | true => some v | false => List.lookup a r) = _
  rw [h]
theorem look_eq {a : Str} {v : V} {r : List (Str × V)} (h : (a == a) = true) : List.lookup a ((a, v) :: r) = some v := by
  show (match a == a with | true => some v | false => List.lookup a r) = _
  rw [h]

open DG (okW dy btw fe ab TB TEn Sh firsts)
theorem pf_Every_step (a : V) : putF ("step" : Str) a ([] : List (Str × V)) = ([("step", a)] : List (Str × V)) := by rfl
theorem pf_Every_first (a b : V) : putF ("first" : Str) b ([("step", a)] : List (Str × V)) = ([("step", a), ("first", b)] : List (Str × V)) := by unfold putF; rw [if_neg (by decide)]; rfl
theorem pf_Weekly_mask (a : V) : putF ("mask" : Str) a ([] : List (Str × V)) = ([("mask", a)] : List (Str × V)) := by rfl
theorem pf_Weekly_first (a b : V) : putF ("first" : Str) b ([("mask", a)] : List (Str × V)) = ([("mask", a), ("first", b)] : List (Str × V)) := by unfold putF; rw [if_neg (by decide)]; rfl
theorem pf_Weekly_every (a b c : V) : putF ("every" : Str) c ([("mask", a), ("first", b)] : List (Str × V)) = ([("mask", a), ("first", b), ("every", c)] : List (Str × V)) := by unfold putF; rw [if_neg (by decide)]; unfold putF; rw [if_neg (by decide)]; rfl
theorem pf_Monthly_origin (a : V) : putF ("origin" : Str) a ([] : List (Str × V)) = ([("origin", a)] : List (Str × V)) := by rfl
theorem pf_Monthly_stride (a b : V) : putF ("stride" : Str) b ([("origin", a)] : List (Str × V)) = ([("origin", a), ("stride", b)] : List (Str × V)) := by unfold putF; rw [if_neg (by decide)]; rfl
theorem pf_Monthly_first (a b c : V) : putF ("first" : Str) c ([("origin", a), ("stride", b)] : List (Str × V)) = ([("origin", a), ("stride", b), ("first", c)] : List (Str × V)) := by unfold putF; rw [if_neg (by decide)]; unfold putF; rw [if_neg (by decide)]; rfl
theorem pf_Monthly_date (a b c d : V) : putF ("date" : Str) d ([("origin", a), ("stride", b), ("first", c)] : List (Str × V)) = ([("origin", a), ("stride", b), ("first", c), ("date", d)] : List (Str × V)) := by unfold putF; rw [if_neg (by decide)]; unfold putF; rw [if_neg (by decide)]; unfold putF; rw [if_neg (by decide)]; rfl
theorem pf_Monthly_every (a b c d e : V) : putF ("every" : Str) e ([("origin", a), ("stride", b), ("first", c), ("date", d)] : List (Str × V)) = ([("origin", a), ("stride", b), ("first", c), ("date", d), ("every", e)] : List (Str × V)) := by unfold putF; rw [if_neg (by decide)]; unfold putF; rw [if_neg (by decide)]; unfold putF; rw [if_neg (by decide)]; unfold putF; rw [if_neg (by decide)]; rfl
theorem pf_Nth_which (a b c d : V) : putF ("which" : Str) d ([("origin", a), ("stride", b), ("first", c)] : List (Str × V)) = ([("origin", a), ("stride", b), ("first", c), ("which", d)] : List (Str × V)) := by unfold putF; rw [if_neg (by decide)]; unfold putF; rw [if_neg (by decide)]; unfold putF; rw [if_neg (by decide)]; rfl
theorem pf_Nth_weekday_of (a b c d e : V) : putF ("weekday_of" : Str) e ([("origin", a), ("stride", b), ("first", c), ("which", d)] : List (Str × V)) = ([("origin", a), ("stride", b), ("first", c), ("which", d), ("weekday_of", e)] : List (Str × V)) := by unfold putF; rw [if_neg (by decide)]; unfold putF; rw [if_neg (by decide)]; unfold putF; rw [if_neg (by decide)]; unfold putF; rw [if_neg (by decide)]; rfl
theorem pf_Nth_every (a b c d e f : V) : putF ("every" : Str) f ([("origin", a), ("stride", b), ("first", c), ("which", d), ("weekday_of", e)] : List (Str × V)) = ([("origin", a), ("stride", b), ("first", c), ("which", d), ("weekday_of", e), ("every", f)] : List (Str × V)) := by unfold putF; rw [if_neg (by decide)]; unfold putF; rw [if_neg (by decide)]; unfold putF; rw [if_neg (by decide)]; unfold putF; rw [if_neg (by decide)]; unfold putF; rw [if_neg (by decide)]; rfl
theorem pf_Yearly_month (a b c d : V) : putF ("month" : Str) d ([("origin", a), ("stride", b), ("first", c)] : List (Str × V)) = ([("origin", a), ("stride", b), ("first", c), ("month", d)] : List (Str × V)) := by unfold putF; rw [if_neg (by decide)]; unfold putF; rw [if_neg (by decide)]; unfold putF; rw [if_neg (by decide)]; rfl
theorem pf_Yearly_date (a b c d e : V) : putF ("date" : Str) e ([("origin", a), ("stride", b), ("first", c), ("month", d)] : List (Str × V)) = ([("origin", a), ("stride", b), ("first", c), ("month", d), ("date", e)] : List (Str × V)) := by unfold putF; rw [if_neg (by decide)]; unfold putF; rw [if_neg (by decide)]; unfold putF; rw [if_neg (by decide)]; unfold putF; rw [if_neg (by decide)]; rfl
theorem pf_Yearly_every (a b c d e f : V) : putF ("every" : Str) f ([("origin", a), ("stride", b), ("first", c), ("month", d), ("date", e)] : List (Str × V)) = ([("origin", a), ("stride", b), ("first", c), ("month", d), ("date", e), ("every", f)] : List (Str × V)) := by unfold putF; rw [if_neg (by decide)]; unfold putF; rw [if_neg (by decide)]; unfold putF; rw [if_neg (by decide)]; unfold putF; rw [if_neg (by decide)]; unfold putF; rw [if_neg (by decide)]; rfl
theorem pf_Days_days (a : V) : putF ("days" : Str) a ([] : List (Str × V)) = ([("days", a)] : List (Str × V)) := by rfl
theorem pf_Shifted_rule (a : V) : putF ("rule" : Str) a ([] : List (Str × V)) = ([("rule", a)] : List (Str × V)) := by rfl
theorem pf_Shifted_many (a b : V) : putF ("many" : Str) b ([("rule", a)] : List (Str × V)) = ([("rule", a), ("many", b)] : List (Str × V)) := by unfold putF; rw [if_neg (by decide)]; rfl
theorem pf_Changed_rule (a : V) : putF ("rule" : Str) a ([] : List (Str × V)) = ([("rule", a)] : List (Str × V)) := by rfl
theorem pf_Changed_left (a b : V) : putF ("left" : Str) b ([("rule", a)] : List (Str × V)) = ([("rule", a), ("left", b)] : List (Str × V)) := by unfold putF; rw [if_neg (by decide)]; rfl
theorem pf_Changed_more (a b c : V) : putF ("more" : Str) c ([("rule", a), ("left", b)] : List (Str × V)) = ([("rule", a), ("left", b), ("more", c)] : List (Str × V)) := by unfold putF; rw [if_neg (by decide)]; unfold putF; rw [if_neg (by decide)]; rfl
theorem pf_Changed_moved (a b c d : V) : putF ("moved" : Str) d ([("rule", a), ("left", b), ("more", c)] : List (Str × V)) = ([("rule", a), ("left", b), ("more", c), ("moved", d)] : List (Str × V)) := by unfold putF; rw [if_neg (by decide)]; unfold putF; rw [if_neg (by decide)]; unfold putF; rw [if_neg (by decide)]; rfl
theorem pf_Changed_gained (a b c d e : V) : putF ("gained" : Str) e ([("rule", a), ("left", b), ("more", c), ("moved", d)] : List (Str × V)) = ([("rule", a), ("left", b), ("more", c), ("moved", d), ("gained", e)] : List (Str × V)) := by unfold putF; rw [if_neg (by decide)]; unfold putF; rw [if_neg (by decide)]; unfold putF; rw [if_neg (by decide)]; unfold putF; rw [if_neg (by decide)]; rfl
theorem fl_Every_step (a b : V) : List.lookup ("step" : Str) ([("step", a), ("first", b)] : List (Str × V)) = some a := by exact look_eq (by decide +kernel)
theorem fl_Every_first (a b : V) : List.lookup ("first" : Str) ([("step", a), ("first", b)] : List (Str × V)) = some b := by rw [look_ne (by decide +kernel)]; exact look_eq (by decide +kernel)
theorem fl4_rule (a b c d : V) : List.lookup ("rule" : Str) ([("rule", a), ("left", b), ("more", c), ("moved", d)] : List (Str × V)) = some a := by exact look_eq (by decide +kernel)
theorem fl4_left (a b c d : V) : List.lookup ("left" : Str) ([("rule", a), ("left", b), ("more", c), ("moved", d)] : List (Str × V)) = some b := by rw [look_ne (by decide +kernel)]; exact look_eq (by decide +kernel)
theorem fl4_more (a b c d : V) : List.lookup ("more" : Str) ([("rule", a), ("left", b), ("more", c), ("moved", d)] : List (Str × V)) = some c := by rw [look_ne (by decide +kernel)]; rw [look_ne (by decide +kernel)]; exact look_eq (by decide +kernel)
theorem fl4_moved (a b c d : V) : List.lookup ("moved" : Str) ([("rule", a), ("left", b), ("more", c), ("moved", d)] : List (Str × V)) = some d := by rw [look_ne (by decide +kernel)]; rw [look_ne (by decide +kernel)]; rw [look_ne (by decide +kernel)]; exact look_eq (by decide +kernel)
theorem fl5_left (a b c d e : V) : List.lookup ("left" : Str) ([("rule", a), ("left", b), ("more", c), ("moved", d), ("gained", e)] : List (Str × V)) = some b := by rw [look_ne (by decide +kernel)]; exact look_eq (by decide +kernel)
theorem fl5_moved (a b c d e : V) : List.lookup ("moved" : Str) ([("rule", a), ("left", b), ("more", c), ("moved", d), ("gained", e)] : List (Str × V)) = some d := by rw [look_ne (by decide +kernel)]; rw [look_ne (by decide +kernel)]; rw [look_ne (by decide +kernel)]; exact look_eq (by decide +kernel)
theorem no_falls (a b : V) : List.lookup ("falls_on" : Str) ([("step", a), ("first", b)] : List (Str × V)) = none := by rw [look_ne (by decide +kernel)]; rw [look_ne (by decide +kernel)]; rfl
theorem no_gained (a b c d : V) : List.lookup ("days_gained" : Str) ([("rule", a), ("left", b), ("more", c), ("moved", d)] : List (Str × V)) = none := by rw [look_ne (by decide +kernel)]; rw [look_ne (by decide +kernel)]; rw [look_ne (by decide +kernel)]; rw [look_ne (by decide +kernel)]; rfl
theorem no_lost (a b c d e : V) : List.lookup ("days_lost" : Str) ([("rule", a), ("left", b), ("more", c), ("moved", d), ("gained", e)] : List (Str × V)) = none := by rw [look_ne (by decide +kernel)]; rw [look_ne (by decide +kernel)]; rw [look_ne (by decide +kernel)]; rw [look_ne (by decide +kernel)]; rw [look_ne (by decide +kernel)]; rfl

abbrev EvF (st fi : Int) : List (Str × V) := [("step", .int st), ("first", .int fi)]
def sp_is_day : Sp := fun vs H Q _ => ∃ d : Int, vs = [.int d] ∧ Q (.bl (dy d)) H
def sp_date_of : Sp := fun vs H Q _ => ∃ d : Int, vs = [.int d] ∧ 0 ≤ d ∧ d < 146097 ∧ ∀ p H', Same H H' → H p = none → H' p = some (.tup [.int (2000 + DM.mo d / 12), .int (DM.mo d % 12 + 1), .int (d - DM.mb (DM.mo d) + 1)]) → Q (.ref p) H'
def sp_check_bounds (X : Addr) : Sp := fun vs H Q E => ∃ n l m : Int, vs = [.int n, .int l, .int m] ∧ (btw l n m = true → Q .non H) ∧ (btw l n m = false → E (.ref X) none H)
def sp_check_day (X : Addr) : Sp := fun vs H Q E => ∃ n : Int, vs = [.int n] ∧ (dy n = true → Q .non H) ∧ (dy n = false → E (.ref X) none H)
def sp_check_every (X : Addr) : Sp := fun vs H Q E => ∃ f e : Int, vs = [.int f, .int e] ∧ (fe f e = true → Q .non H) ∧ (fe f e = false → E (.ref X) none H)
def sp_Every_init (C X : Addr) : Sp := fun vs H Q E => ∃ (x dx : Addr) (st fi : Int), vs = [.ref x, .int st, .int fi] ∧ H x = some (.ins C dx []) ∧ (okW 0 [st, fi] = true → ∀ H', SameX x H H' → H' x = some (.ins C dx (EvF st fi)) → Q .non H') ∧ (okW 0 [st, fi] = false → E (.ref X) none H)
def IniW (C X : Addr) (w : Int) (n : Nat) : Sp := fun vs H Q E => ∃ (x dx : Addr) (ns : List Int), vs = .ref x :: ns.map V.int ∧ ns.length = n ∧ H x = some (.ins C dx []) ∧ (okW w ns = true → ∀ H' fs, SameX x H H' → H' x = some (.ins C dx fs) → Q .non H') ∧ (okW w ns = false → E (.ref X) none H)
def sp_ByMonth_init (K : PySem.W.Frag) : Sp := fun vs H Q _ => ∃ (x c dx : Addr) (o s f : Int), vs = [.ref x, .int o, .int s, .int f] ∧ (Cls K c ∧ NoAttr K c "origin" ∧ NoAttr K c "stride" ∧ NoAttr K c "first") ∧ H x = some (.ins c dx []) ∧ ∀ H', SameX x H H' → H' x = some (.ins c dx [("origin", .int o), ("stride", .int s), ("first", .int f)]) → Q .non H'
def sp_Days_init (C X : Addr) : Sp := fun vs H Q E => ∃ (x dx p : Addr) (ds : List Int), vs = [.ref x, .ref p] ∧ H x = some (.ins C dx []) ∧ H p = some (.tup (ds.map V.int)) ∧ ds.length ≤ 50 ∧ (ds.all dy = true → ∀ H' fs, SameX x H H' → H' x = some (.ins C dx fs) → Q .non H') ∧ (ds.all dy = false → E (.ref X) none H)
def sp_Shifted_init (C X : Addr) : Sp := fun vs H Q E => ∃ (x dx : Addr) (r : V) (m : Int), vs = [.ref x, r, .int m] ∧ H x = some (.ins C dx []) ∧ (btw (-1000) m 1000 = true → ∀ H' fs, SameX x H H' → H' x = some (.ins C dx fs) → Q .non H') ∧ (btw (-1000) m 1000 = false → E (.ref X) none H)
def sp_Every_falls_on (C : Addr) : Sp := fun vs H Q _ => ∃ (x dx : Addr) (d st fi : Int), vs = [.ref x, .int d] ∧ H x = some (.ins C dx (EvF st fi)) ∧ 1 ≤ st ∧ Q (.bl (dy d && (decide (fi ≤ d) && decide ((d - fi) % st = 0)))) H
theorem nd_len : ∀ {ms ds : List Int}, ms.Nodup → (∀ k ∈ ms, k ∈ ds) → ms.length ≤ ds.length
  | [], _, _, _ => Nat.zero_le _
  | x :: ms, ds, h, hs => by
    obtain ⟨h1, h2⟩ := List.nodup_cons.mp h
    have hx := hs x (List.mem_cons_self ..)
    have ih := nd_len (ds := ds.erase x) h2 fun k hk => (List.mem_erase_of_ne (fun e => h1 (by rw [← e]; exact hk))).mpr (hs k (List.mem_cons_of_mem _ hk))
    rw [List.length_erase_of_mem hx] at ih
    have : 0 < ds.length := List.length_pos_of_mem hx
    show ms.length + 1 ≤ ds.length
    omega
theorem take_snoc {α : Type} {l : List α} {i : Nat} {y : α} (h : l[i]? = some y) : l.take (i + 1) = l.take i ++ [y] := by rw [List.take_add_one, h]; rfl
theorem all_no {ds : List Int} {d : Int} (h : d ∈ ds) (hd : dy d = false) : ds.all dy = false := Bool.eq_false_iff.mpr fun w => by rw [List.all_eq_true.mp w d h] at hd; cases hd
theorem dy_iff {d : Int} : dy d = true ↔ 0 ≤ d ∧ d < 146097 := decide_eq_true_iff
theorem ints_3 {ns : List Int} (h : ns.length = 3) : ∃ a b c, ns = [a, b, c] := by
  match ns, h with
  | [a, b, c], _ => exact ⟨a, b, c, rfl⟩
theorem ints_4 {ns : List Int} (h : ns.length = 4) : ∃ a b c d, ns = [a, b, c, d] := by
  match ns, h with
  | [a, b, c, d], _ => exact ⟨a, b, c, d, rfl⟩

def ChAt (CE : Addr) (H : Hp) (r p q o : Addr) (ls ms : List Int) (rs : List RA) (st fi : Int) : Prop := (∃ dr, H r = some (.ins CE dr (EvF st fi))) ∧ 1 ≤ st ∧ H p = some (.tup (ls.map V.int)) ∧ H q = some (.tup (ms.map V.int)) ∧ H o = some (.tup (refs rs)) ∧ RowOk H rs ∧ ls.length ≤ 5 ∧ ms.length ≤ 5 ∧ rs.length ≤ 5
theorem ChAt.up {CE : Addr} {H H' : Hp} {r p q o : Addr} {ls ms : List Int} {rs : List RA} {st fi : Int} (h : ChAt CE H r p q o ls ms rs st fi) (s : Same H H') : ChAt CE H' r p q o ls ms rs st fi := by
  obtain ⟨⟨dr, a⟩, b, c, d, e, f, g⟩ := h
  exact ⟨⟨dr, s _ _ a⟩, b, s _ _ c, s _ _ d, s _ _ e, f.up s, g⟩
theorem ChAt.upX {CE : Addr} {H H' : Hp} {x r p q o C dx : Addr} {fs : List (Str × V)} {ls ms : List Int} {rs : List RA} {st fi : Int} (h : ChAt CE H r p q o ls ms rs st fi) (hx : H x = some (.ins C dx fs)) (hr : r ≠ x) (s : SameX x H H') : ChAt CE H' r p q o ls ms rs st fi := by
  obtain ⟨⟨dr, a⟩, b, c, d, e, f, g⟩ := h
  have t : ∀ {c : Addr} {us : List V}, H c = some (.tup us) → H' c = some (.tup us) := fun z => s _ _ (fun w => by rw [w, hx] at z; cases z) z
  exact ⟨⟨dr, s _ _ hr a⟩, b, t c, t d, t e, fun y hy => t (f y hy), g⟩
abbrev F4 (r p q o : Addr) : List (Str × V) := [("rule", .ref r), ("left", .ref p), ("more", .ref q), ("moved", .ref o)]
def sp_Changed_days_gained (C CE : Addr) : Sp := fun vs H Q _ => ∃ (x dx r p q o : Addr) (ls ms : List Int) (rs : List RA) (st fi : Int), vs = [.ref x] ∧ H x = some (.ins C dx (F4 r p q o)) ∧ ChAt CE H r p q o ls ms rs st fi ∧ ∀ (z : Addr) H', Same H H' → Q (.ref z) H'
def sp_Changed_days_lost (C CE : Addr) : Sp := fun vs H Q _ => ∃ (x dx r p q o gn : Addr) (ls ms : List Int) (rs : List RA) (st fi : Int), vs = [.ref x] ∧ H x = some (.ins C dx [("rule", .ref r), ("left", .ref p), ("more", .ref q), ("moved", .ref o), ("gained", .ref gn)]) ∧ ChAt CE H r p q o ls ms rs st fi ∧ ∀ (z : Addr) H', Same H H' → Q (.ref z) H'
def chOk (ls ms : List Int) (rs : List RA) : Bool := (ls ++ ms).all dy && (sps rs).all fun y => dy y.1 && dy y.2
def sp_Changed_init (C CE X : Addr) : Sp := fun vs H Q E => ∃ (x dx r dr p q : Addr) (mv : V) (ls ms : List Int) (rs : List RA) (st fi : Int), vs = [.ref x, .ref r, .ref p, .ref q, mv] ∧ H x = some (.ins C dx []) ∧ (H r = some (.ins CE dr (EvF st fi)) ∧ 1 ≤ st ∧ H p = some (.tup (ls.map V.int)) ∧ H q = some (.tup (ms.map V.int)) ∧ r ≠ x ∧ ls.length ≤ 5 ∧ ms.length ≤ 5 ∧ rs.length ≤ 5) ∧
  ((mv = .non ∧ rs = []) ∨ ∃ o, mv = .ref o ∧ H o = some (.tup (refs rs)) ∧ RowOk H rs) ∧
  (chOk ls ms rs = true → ∀ H' fs, SameX x H H' → H' x = some (.ins C dx fs) → Q .non H') ∧ (chOk ls ms rs = false → ∀ H', SameX x H H' → E (.ref X) none H')
theorem flatI (ls : List Int) : (ls.map V.int).all flatV = true := by rw [List.all_map]; exact List.all_eq_true.mpr fun _ _ => rfl

theorem chOk_l {ls ms : List Int} {rs : List RA} {d : Int} (h : d ∈ ls ++ ms) (hd : dy d = false) : chOk ls ms rs = false := by
  unfold chOk
  rw [all_no h hd, Bool.false_and]
theorem chOk_r {ls ms : List Int} {rs : List RA} {y : RA} (h : y ∈ rs) (hd : (dy y.2.1 && dy y.2.2) = false) : chOk ls ms rs = false := by
  unfold chOk
  have : ((sps rs).all fun y => dy y.1 && dy y.2) = false := Bool.eq_false_iff.mpr fun w => by
    have := List.all_eq_true.mp w y.2 (List.mem_map_of_mem h)
    rw [hd] at this
    cases this
  rw [this, Bool.and_false]
theorem chOk_t {ls ms : List Int} {rs : List RA} (h1 : (ls ++ ms).all dy = true) (h2 : ((sps rs).all fun y => dy y.1 && dy y.2) = true) : chOk ls ms rs = true := by
  unfold chOk
  rw [h1, h2]
  rfl

def sp_law_alone (x : Addr) : Sp := fun vs H Q _ => ∃ (e : Addr), vs = [.ref e] ∧ H e = some (exo e x) ∧ ∀ H', Same H H' → Q (.bl true) H'
def sp_law_number : Sp := fun vs H Q _ => ∃ c l m : Int, vs = [.int c, .int l, .int m] ∧ ∀ (v : Int) H', Same H H' → Q (.int v) H'
def sp_law_make (K : PySem.W.Frag) (R X : Addr) : Sp := fun vs H Q E => ∃ (w : Int) (L : Addr) (ns : List Int), vs = [.int w, .ref L] ∧ H L = some (.lst (ns.map V.int)) ∧ Sh w ns ∧
  (okW w ns = true → ∀ (x C dx : Addr) (fs : List (Str × V)) H', Same H H' → H' x = some (.ins C dx fs) → Cls K C → IsO K C → PySem.W.kitOne K (.ref C) (.ref R) = some true → Q (.ref x) H') ∧ (okW w ns = false → ∀ H', Same H H' → E (.ref X) none H')
def told (b : Bool) : Str := if b = true then "made" else "refused"
def sp_law_told : Sp := fun vs H Q _ => ∃ (w : Int) (L : Addr) (ns : List Int), vs = [.int w, .ref L] ∧ H L = some (.lst (ns.map V.int)) ∧ Sh w ns ∧ ∀ H', Same H H' → Q (.str (told (okW w ns))) H'
theorem mk_up {H H1 H3 : Hp} {x dx C : Addr} (nx : H1 x = none) (ndx : H1 dx = none) (S : Same H H1) (sx : SameX x (upd (upd H1 dx (.own x)) x (.ins C dx [])) H3) : Same H H3 := fun q u eq => by
  have e1 := S _ _ eq
  exact sx _ _ (ne_of_none e1 nx) (by rw [upd_ne (ne_of_none e1 nx), upd_ne (ne_of_none e1 ndx)]; exact e1)
theorem mk_new {H H1 : Hp} {x dx C : Addr} (nx : H1 x = none) (ndx : H1 dx = none) (S : Same H H1) : Same H (upd (upd H1 dx (.own x)) x (.ins C dx [])) := mk_up nx ndx S (SameX.refl _ _)
theorem sh_cases {w : Int} {ns : List Int} (h : Sh w ns) : (w = 0 ∧ ∃ a b, ns = [a, b]) ∨ (w = 1 ∧ ∃ a b c, ns = [a, b, c]) ∨ (w = 2 ∧ ∃ a b c, ns = [a, b, c]) ∨ (w = 3 ∧ ∃ a b c d, ns = [a, b, c, d]) ∨ (w = 4 ∧ ∃ a b c d, ns = [a, b, c, d]) ∨ (w = 5 ∧ ∃ a b, ns = [a, b]) ∨ (w = 6 ∧ ∃ a, ns = [a]) ∨ (w = 7 ∧ ∃ a, ns = [a]) ∨ (w = 8 ∧ ∃ a b, ns = [a, b]) := by
  obtain ⟨h0, h1, h2⟩ := h
  have two : ∀ {l : List Int}, l.length = 2 → ∃ a b, l = [a, b] := fun {l} h => by match l, h with | [a, b], _ => exact ⟨a, b, rfl⟩
  have one : ∀ {l : List Int}, l.length = 1 → ∃ a, l = [a] := fun {l} h => by match l, h with | [a], _ => exact ⟨a, rfl⟩
  have c : w = 0 ∨ w = 1 ∨ w = 2 ∨ w = 3 ∨ w = 4 ∨ w = 5 ∨ w = 6 ∨ w = 7 ∨ w = 8 := by omega
  rcases c with rfl | rfl | rfl | rfl | rfl | rfl | rfl | rfl | rfl
  · exact .inl ⟨rfl, two h2⟩
  · exact .inr (.inl ⟨rfl, ints_3 h2⟩)
  · exact .inr (.inr (.inl ⟨rfl, ints_3 h2⟩))
  · exact .inr (.inr (.inr (.inl ⟨rfl, ints_4 h2⟩)))
  · exact .inr (.inr (.inr (.inr (.inl ⟨rfl, ints_4 h2⟩))))
  · exact .inr (.inr (.inr (.inr (.inr (.inl ⟨rfl, two h2⟩)))))
  · exact .inr (.inr (.inr (.inr (.inr (.inr (.inl ⟨rfl, one h2⟩))))))
  · exact .inr (.inr (.inr (.inr (.inr (.inr (.inr (.inl ⟨rfl, one h2⟩)))))))
  · exact .inr (.inr (.inr (.inr (.inr (.inr (.inr (.inr ⟨rfl, two h2⟩)))))))
theorem all_7 (a b : Int) : ([7, a, b] : List Int).all dy = okW 5 [a, b] := by show (dy 7 && (dy a && (dy b && true))) = (dy a && dy b); rw [show dy 7 = true by decide, Bool.true_and, Bool.and_true]
theorem ch_7 (d : Int) : chOk [3, d] [5] [] = okW 7 [d] := by show ((dy 3 && (dy d && (dy 5 && true))) && true) = dy d; rw [show dy 3 = true by decide, show dy 5 = true by decide, Bool.true_and, Bool.and_true, Bool.and_true, Bool.and_true]
theorem ch_8 (t u : Addr) (a b : Int) : chOk [] [9] [(t, 4, 6), (u, a, b)] = okW 8 [a, b] := by show ((dy 9 && true) && ((dy 4 && dy 6) && ((dy a && dy b) && true))) = (dy a && dy b); rw [show dy 9 = true by decide, show dy 4 = true by decide, show dy 6 = true by decide]; cases dy a <;> cases dy b <;> rfl

theorem rows_app {H : Hp} {ls : List LA} {l : Addr} {rs : List RA} (h : RowsOk H ls) (r : RowAt H l rs) : RowsOk H (ls ++ [(l, rs)]) := fun x hx => by
  rcases List.mem_append.mp hx with hx | hx
  · exact h x hx
  · rw [List.mem_singleton] at hx
    subst hx
    exact r
theorem rows_nil {H : Hp} : RowsOk H [] := fun _ h => nomatch h
def tbl (ls : List LA) : List (List (Int × Int)) := ls.map fun l => sps l.2
theorem arefs_two (xs ys : List LA) : arefs xs ++ arefs ys = arefs (xs ++ ys) := (List.map_append ..).symm
theorem rows_two {H : Hp} {xs ys : List LA} (h1 : RowsOk H xs) (h2 : RowsOk H ys) : RowsOk H (xs ++ ys) := fun x hx => (List.mem_append.mp hx).elim (h1 x) (h2 x)
theorem tbl_get {ls : List LA} {n : Nat} {t : List (List (Int × Int))} (h : tbl ls = t) (hn : n < t.length) : ∃ l, ls[n]? = some l ∧ sps l.2 = t.getD n [] := by
  subst h
  unfold tbl at *
  rw [List.length_map] at hn
  exact ⟨ls[n], by simp [hn], by simp [hn]⟩
theorem row_get {rs : List RA} {n : Nat} (hn : n < (sps rs).length) : ∃ y, rs[n]? = some y ∧ y ∈ rs ∧ y.2 = (sps rs).getD n (0, 0) := by
  rw [sps_len] at hn
  refine ⟨rs[n], by simp [hn], List.getElem_mem hn, ?_⟩
  unfold sps
  simp [hn]
theorem atI_of {α : Type} {xs : List α} {i : Int} {x : α} (h0 : 0 ≤ i) (h : xs[i.toNat]? = some x) : atI xs i = some x := by
  have := atI_nat h
  rwa [Int.toNat_of_nonneg h0] at this
theorem ixN_of {n : Nat} {i : Int} (h0 : 0 ≤ i) (h1 : i < n) : ixN n i = some i.toNat := by
  unfold ixN
  rw [if_pos h0, if_pos h1]
def sp_law_numbers : Sp := fun vs H Q _ => ∃ c : Int, vs = [.int c] ∧ ∀ (p L : Addr) (w : Int) (ns : List Int) H', Same H H' → H' p = some (.tup [.int w, .ref L, .bl (okW w ns)]) → H' L = some (.lst (ns.map V.int)) → Sh w ns → Q (.ref p) H'
theorem set_map (ns : List Int) (s : Nat) (v : Int) : (ns.map V.int).set s (.int v) = (ns.set s v).map V.int := List.map_set.symm
theorem sh_set {w : Int} {s : Nat} {v : Int} (h0 : 0 ≤ w) (h1 : w < 9) : Sh w ((firsts (TB.getD w.toNat [])).set s v) := by
  refine ⟨h0, h1, ?_⟩
  unfold firsts
  rw [List.length_set, List.length_map]
theorem tb_pos {w : Nat} (h : w < 9) : 0 < (TB.getD w []).length ∧ (TB.getD w []).length ≤ 4 := by
  have : ∀ k : Fin 9, 0 < (TB.getD k.val []).length ∧ (TB.getD k.val []).length ≤ 4 := by decide
  exact this ⟨w, h⟩
theorem set_at {ns : List Int} {s : Nat} {v : Int} (h : s < ns.length) : ((ns.set s v).map V.int)[s]? = some (.int v) := by
  rw [List.getElem?_map, List.getElem?_set_self h]
  rfl

abbrev EL := Addr × Int × Addr × List RA
def erefs (es : List EL) : List V := es.map fun e => V.ref e.1
def ElOk (H : Hp) (es : List EL) : Prop := ∀ e ∈ es, H e.1 = some (.tup [.int e.2.1, .ref e.2.2.1]) ∧ RowAt H e.2.2.1 e.2.2.2
def etbl (es : List EL) : List (Int × List (Int × Int)) := es.map fun e => (e.2.1, sps e.2.2.2)
def TEW : List (Int × List (Int × Int)) := (List.range 9).map fun (i : Nat) => ((i : Int), TEn.getD i [])
theorem ElOk.up {H H' : Hp} {es : List EL} (h : ElOk H es) (s : Same H H') : ElOk H' es := fun e he => ⟨s _ _ (h e he).1, (h e he).2.up s⟩
theorem el_nil {H : Hp} : ElOk H [] := fun _ h => nomatch h
theorem el_app {H : Hp} {es : List EL} {t l : Addr} {w : Int} {rs : List RA} (h : ElOk H es) (ht : H t = some (.tup [.int w, .ref l])) (r : RowAt H l rs) : ElOk H (es ++ [(t, w, l, rs)]) := fun x hx => by
  rcases List.mem_append.mp hx with hx | hx
  · exact h x hx
  · rw [List.mem_singleton] at hx
    subst hx
    exact ⟨ht, r⟩
theorem el_two {H : Hp} {xs ys : List EL} (h1 : ElOk H xs) (h2 : ElOk H ys) : ElOk H (xs ++ ys) := fun x hx => (List.mem_append.mp hx).elim (h1 x) (h2 x)
theorem erefs_two (xs ys : List EL) : erefs xs ++ erefs ys = erefs (xs ++ ys) := (List.map_append ..).symm
theorem el_get {es : List EL} {i : Nat} {v : V} (hT : etbl es = TEW) (h : (erefs es)[i]? = some v) : ∃ e, e ∈ es ∧ v = .ref e.1 ∧ i < 9 ∧ e.2.1 = (i : Int) ∧ sps e.2.2.2 = TEn.getD i [] := by
  unfold erefs at h
  rw [List.getElem?_map] at h
  obtain ⟨e, he, rfl⟩ := Option.map_eq_some_iff.mp h
  have h1 : (etbl es)[i]? = some (e.2.1, sps e.2.2.2) := by unfold etbl; rw [List.getElem?_map, he]; rfl
  rw [hT] at h1
  unfold TEW at h1
  rw [List.getElem?_map] at h1
  obtain ⟨j, hj, e2⟩ := Option.map_eq_some_iff.mp h1
  have hi : i < 9 := by
    have := (List.getElem?_eq_some_iff.mp hj).1
    rwa [List.length_range] at this
  rw [List.getElem?_range hi] at hj
  cases hj
  exact ⟨e, List.mem_of_getElem? he, rfl, hi, (congrArg Prod.fst e2).symm, (congrArg Prod.snd e2).symm⟩
def sp_law_all_ends : Sp := fun vs H Q _ => ∃ t : Int, vs = [.int t] ∧ 0 ≤ t ∧ t < 4 ∧ ∀ H', Same H H' → Q (.bl true) H'
def sp_law (K : PySem.W.Frag) : Sp := fun vs H Q _ => ∃ (a : Addr) (ns : List Int), vs = [.ref a] ∧ SqL K H a (ns.map V.int) ∧ ns.length ≤ 63 ∧ ∀ H', Q (.bl true) H'
theorem turn_at {t : Int} (h0 : 0 ≤ t) (h1 : t < 4) (a b : Int) : atI [V.int a, .int b] (t % 2) = some (.int (if t.toNat % 2 = 0 then a else b)) ∧ atI [V.int 0, .int 0, .int (-1), .int 1] t = some (.int (if t.toNat = 2 then -1 else if t.toNat = 3 then 1 else 0)) ∧ atI [V.str "made", .str "refused"] (t / 2) = some (.str (told (decide (t.toNat < 2)))) := by
  have c : t = 0 ∨ t = 1 ∨ t = 2 ∨ t = 3 := by omega
  rcases c with rfl | rfl | rfl | rfl
  · exact ⟨rfl, rfl, rfl⟩
  · exact ⟨rfl, rfl, rfl⟩
  · exact ⟨rfl, rfl, rfl⟩
  · exact ⟨rfl, rfl, rfl⟩
theorem sh_firsts {i : Nat} {s : Nat} {v : Int} (h : i < 9) : Sh (i : Int) ((firsts (TEn.getD i [])).set s v) := by
  refine ⟨by omega, by omega, ?_⟩
  unfold firsts
  rw [List.length_set, List.length_map, Int.toNat_natCast]
  have : ∀ k : Fin 9, (TEn.getD k.val []).length = (TB.getD k.val []).length := by decide
  exact this ⟨i, h⟩
theorem te_pos {w : Nat} (h : w < 9) : (TEn.getD w []).length ≤ 4 := by
  have : ∀ k : Fin 9, (TEn.getD k.val []).length ≤ 4 := by decide
  exact this ⟨w, h⟩
theorem pick2 {u v : V} {c : Bool} : atI [u, v] (if c = true then 1 else 0) = some (if c = true then v else u) := by cases c <;> rfl
theorem told_if (c : Bool) : (if c = true then V.str "made" else .str "refused") = .str (told c) := by cases c <;> rfl
theorem ok_4m {m : Int} (h1 : 1 ≤ m) (h2 : m ≤ 12) : told (okW 4 [m, DM.len 2000 m, 0, 1]) = "made" := by
  have := DG.ok_4 (t := 0) h1 h2 (Int.le_refl _)
  rw [Int.add_zero] at this
  rw [this, decide_eq_true (Int.le_refl _)]
  rfl
theorem ok_4n {m : Int} (h1 : 1 ≤ m) (h2 : m ≤ 12) : told (okW 4 [m, DM.len 2000 m + 1, 0, 1]) = "refused" := by
  rw [DG.ok_4 h1 h2 (by decide), decide_eq_false (by omega)]
  rfl

end K13

namespace K13
open PySem L2
open DG (okW dy btw fe ab TB TEn Sh firsts)
section
variable {P : Program} {w : World} {K : PySem.W.Frag} {mg : Str → Option Value} {base : Heap} {a : Adr}
theorem sc_is_day : FnScope ["number"] ["number"] (defScope s_is_day) := ⟨rfl, rfl, rfl, by decide +kernel, rfl, by decide +kernel, by decide +kernel⟩

theorem ok_is_day (T : Txt K mg a) : FnOk P w K mg base CX0 true 1 a.f_is_day a.d_is_day ["number"] (sp_is_day) := by
  refine T.F_is_day.ok sc_is_day (fun vs H Q E h => ?_) (fun cdv A outer s H vs Q E hr h => ?_)
  · obtain ⟨d, rfl, _⟩ := h; rfl
  · obtain ⟨d, rfl, k⟩ := h
    refine ⟨_, (pss_one (ps_ret (pe_chain op_le op_lt pe_int (pv 0) (pe_globI rfl T.g_DAYS)))), ?_⟩
    replace k : Q (.bl (decide (0 ≤ d ∧ d < 146097))) H := k
    refine ⟨_, rfl, _, _, rfl, rfl, _, rfl, ?_⟩
    refine ite2 (fun e => ?_) (fun e => ?_)
    · have e' : 0 ≤ d := of_decide_eq_true e
      rw [show decide (0 ≤ d ∧ d < 146097) = decide (d < 146097) from decide_eq_decide.mpr ⟨fun z => z.2, fun z => ⟨e', z⟩⟩] at k
      exact ⟨_, _, rfl, rfl, k⟩
    · rw [decide_eq_false (fun z => e (decide_eq_true z.1))] at k
      exact k
end
end K13

namespace K13
open PySem L2
open DG (okW dy btw fe ab TB TEn Sh firsts)
section
variable {P : Program} {w : World} {K : PySem.W.Frag} {mg : Str → Option Value} {base : Heap} {a : Adr}
theorem sc_is_leap : FnScope ["year"] ["year"] (defScope s_is_leap) := ⟨rfl, rfl, rfl, by decide +kernel, rfl, by decide +kernel, by decide +kernel⟩

theorem ok_is_leap (T : Txt K mg a) : FnOk P w K mg base CX0 true 1 a.f_is_leap a.d_is_leap ["year"] (sp_is_leap) := by
  refine T.F_is_leap.ok sc_is_leap (fun vs H Q E h => ?_) (fun cdv A outer s H vs Q E hr h => ?_)
  · obtain ⟨y, rfl, _⟩ := h; rfl
  · obtain ⟨y, rfl, k⟩ := h
    refine ⟨_, (pss_one (ps_ret (pe_or (pe_cmpR op_eq (pe_op op_mod (pv 0) pe_int) pe_int (nomark _)) (pe_one (pe_and (pe_cmpR op_eq (pe_op op_mod (pv 0) pe_int) pe_int (nomark _)) (pe_one (pe_cmpR op_ne (pe_op op_mod (pv 0) pe_int) pe_int (nomark _)))))))), ?_⟩
    refine ⟨_, rfl, _, _, rfl, rfl, (by show (0 : Int) < 400; decide), rfl, _, rfl, ?_⟩
    refine ite2 (fun h1 => ?_) (fun h1 => ?_)
    · rw [vint] at h1
      have e : DM.leap y = true := by rw [DM.leap_iff]; exact .inl (of_decide_eq_true h1)
      rw [e] at k
      exact k
    · rw [vint] at h1
      refine ⟨_, rfl, _, _, rfl, rfl, (by show (0 : Int) < 4; decide), rfl, _, rfl, ?_⟩
      refine ite2 (fun h2 => ?_) (fun h2 => ?_)
      · rw [vint] at h2
        refine ⟨_, rfl, _, _, rfl, rfl, (by show (0 : Int) < 100; decide), rfl, ?_⟩
        have e : DM.leap y = !decide (V.int (y % 100) = V.int 0) := by
          unfold DM.leap
          rw [vint, h2]
          simp at h1
          simp [h1]
        rw [e] at k
        exact k
      · rw [vint] at h2
        have e : DM.leap y = false := by
          unfold DM.leap
          simp at h1 h2
          simp [h1, h2]
        rw [e] at k
        exact k
end
end K13

namespace K13
open PySem L2
open DG (okW dy btw fe ab TB TEn Sh firsts)
section
variable {P : Program} {w : World} {K : PySem.W.Frag} {mg : Str → Option Value} {base : Heap} {a : Adr}
theorem sc_year_begin : FnScope ["year", "past", "leaps"] ["year"] (defScope s_year_begin) := ⟨rfl, rfl, rfl, by decide +kernel, rfl, by decide +kernel, by decide +kernel⟩

theorem ok_year_begin (T : Txt K mg a) : FnOk P w K mg base CX0 true 1 a.f_year_begin a.d_year_begin ["year"] (sp_year_begin) := by
  refine T.F_year_begin.ok sc_year_begin (fun vs H Q E h => ?_) (fun cdv A outer s H vs Q E hr h => ?_)
  · obtain ⟨y, rfl, _⟩ := h; rfl
  · obtain ⟨y, rfl, k⟩ := h
    refine ⟨_, (pss_cons (ps_set (i := 1) sc_year_begin.nd rfl (Or.inl rfl) (pe_op op_sub (pv 0) (pe_globI rfl T.g_FIRST_YEAR)))
      (pss_cons (ps_set (i := 2) sc_year_begin.nd rfl (Or.inl rfl) (pe_op op_add (pe_op op_sub (pe_op op_fdiv (pe_op op_add (pv 1) pe_int) pe_int) (pe_op op_fdiv (pe_op op_add (pv 1) pe_int) pe_int)) (pe_op op_fdiv (pe_op op_add (pv 1) pe_int) pe_int)))
      (pss_one (ps_ret (pe_op op_add (pe_op op_mul (pv 1) pe_int) (pv 2)))))), ?_⟩
    refine ⟨_, rfl, _, _, rfl, rfl, ?_⟩
    refine ⟨_, rfl, _, _, rfl, rfl, _, _, rfl, rfl, ⟨by decide, by decide⟩, _, rfl, _, _, rfl, rfl, _, _, rfl, rfl, ⟨by decide, by decide⟩, _, _, rfl, rfl, _, rfl, _, _, rfl, rfl, _, _, rfl, rfl, ⟨by decide, by decide⟩, _, _, rfl, rfl, ?_⟩
    refine ⟨_, rfl, _, _, rfl, rfl, .inr ⟨by decide, by decide⟩, _, rfl, _, _, rfl, rfl, ?_⟩
    have e : DM.year y = (y - 2000) * 365 + ((y - 2000 + 3) / 4 - (y - 2000 + 99) / 100 + (y - 2000 + 399) / 400) := by unfold DM.year; omega
    rw [e] at k
    exact k
end
end K13

namespace K13
open PySem L2
open DG (okW dy btw fe ab TB TEn Sh firsts)
section
variable {P : Program} {w : World} {K : PySem.W.Frag} {mg : Str → Option Value} {base : Heap} {a : Adr}
theorem sc_check_bounds : FnScope ["number", "least", "most"] ["number", "least", "most"] (defScope s_check_bounds) := ⟨rfl, rfl, rfl, by decide +kernel, rfl, by decide +kernel, by decide +kernel⟩

theorem ok_check_bounds (T : Txt K mg a) : FnOk P w K mg base (CXe P w) true 1 a.f_check_bounds a.d_check_bounds ["number", "least", "most"] (sp_check_bounds a.x_NoRule) := by
  refine T.F_check_bounds.okE sc_check_bounds (fun vs H Q E h => ?_) (fun cdv A outer s H vs Q E hr h => ?_)
  · obtain ⟨n, l, m, rfl, _⟩ := h; rfl
  · obtain ⟨n, l, m, rfl, k1, k2⟩ := h
    refine ⟨_, (pss_one (ps_if (PW.pt (pw_or (pt_cmpR op_lt (pv 0) (pv 1) (nomark _)) (pw_or1 (pt_cmpR op_gt (pv 0) (pv 2) (nomark _))))) (pss_one (ps_raise raises_def rfl rfl T.m_NoRule T.x_NoRule (pa_cons pe_str pa_nil))) pss_nil)), ?_⟩
    refine ⟨_, rfl, _, rfl, _, _, rfl, rfl, _, rfl, ite2 (fun z => iteT ?_) (fun z => ?_)⟩
    · have z' : n < l := of_decide_eq_true z
      exact ⟨(by show 1 ≤ sizeLine; decide), k2 (decide_eq_false (by omega))⟩
    have z' : ¬ n < l := fun w => z (decide_eq_true w)
    refine ⟨_, rfl, _, rfl, _, _, rfl, rfl, _, rfl, ite2 (fun y => ?_) (fun y => ?_)⟩
    · have y' : m < n := of_decide_eq_true y
      exact ⟨(by show 1 ≤ sizeLine; decide), k2 (decide_eq_false (by omega))⟩
    · have y' : ¬ m < n := fun w => y (decide_eq_true w)
      exact k1 (decide_eq_true (by omega))
end
end K13

namespace K13
open PySem L2
open DG (okW dy btw fe ab TB TEn Sh firsts)
section
variable {P : Program} {w : World} {K : PySem.W.Frag} {mg : Str → Option Value} {base : Heap} {a : Adr}
theorem sc_ByMonth___init : FnScope ["self", "origin", "stride", "first"] ["self", "origin", "stride", "first"] (defScope s_ByMonth___init) := ⟨rfl, rfl, rfl, by decide +kernel, rfl, by decide +kernel, by decide +kernel⟩

theorem ok_ByMonth___init (T : Txt K mg a) : FnOk P w K mg base CX0 true 1 a.f_ByMonth___init a.d_ByMonth___init ["self", "origin", "stride", "first"] (sp_ByMonth_init K) := by
  refine T.F_ByMonth___init.ok sc_ByMonth___init (fun vs H Q E h => ?_) (fun cdv A outer s H vs Q E hr h => ?_)
  · obtain ⟨x, c, dx, o, s, f, rfl, _⟩ := h; rfl
  · obtain ⟨x, c, dx, o, st, f, rfl, ⟨c1, c2, c3, c4⟩, hx, k⟩ := h
    refine ⟨_, (pss_cons (ps_fldK (K := K) rfl (pv 0) (pv 1))
      (pss_cons (ps_fldK (K := K) rfl (pv 0) (pv 2))
      (pss_one (ps_fldK (K := K) rfl (pv 0) (pv 3))))), ?_⟩
    refine ⟨_, rfl, _, rfl, x, _, dx, _, rfl, hx, c1, c2, (by show 0 < 1000; decide), ?_⟩
    rw [pf_Monthly_origin]
    refine ⟨_, rfl, _, rfl, x, _, dx, _, rfl, upd_same, c1, c3, (by show 1 < 1000; decide), ?_⟩
    rw [pf_Monthly_stride]
    refine ⟨_, rfl, _, rfl, x, _, dx, _, rfl, upd_same, c1, c4, (by show 2 < 1000; decide), ?_⟩
    rw [pf_Monthly_first]
    exact k _ (fun c u hc e => by rw [upd_ne hc, upd_ne hc, upd_ne hc]; exact e) upd_same
end
end K13

namespace K13
open PySem L2
open DG (okW dy btw fe ab TB TEn Sh firsts)
section
variable {P : Program} {w : World} {K : PySem.W.Frag} {mg : Str → Option Value} {base : Heap} {a : Adr}
theorem sc_Changed_days_lost : FnScope ["self", "lost", "day", "pair"] ["self"] (defScope s_Changed_days_lost) := ⟨rfl, rfl, rfl, by decide +kernel, rfl, by decide +kernel, by decide +kernel⟩

theorem ok_Changed_days_lost (T : Txt K mg a) : FnOk P w K mg base CX0 true 1 a.f_Changed_days_lost a.d_Changed_days_lost ["self"] (sp_Changed_days_lost a.x_Changed a.x_Every) := by
  refine T.F_Changed_days_lost.ok sc_Changed_days_lost (fun vs H Q E h => ?_) (fun cdv A outer s H vs Q E hr h => ?_)
  · obtain ⟨x, dx, r, p, q, o, gn, ls, ms, rs, st, fi, rfl, _⟩ := h; rfl
  · obtain ⟨x, dx, r, p, q, o, gn, ls, ms, rs, st, fi, rfl, hx, hc, k⟩ := h
    refine ⟨_, (pss_cons (ps_set (i := 1) sc_Changed_days_lost.nd rfl (Or.inl rfl) pe_dnewK)
      (pss_cons (ps_for PassesOwn.never rfl (pi_tupK (K := K) rfl (pe_fldK (K := K) rfl (pv 0))) (pg_name (i := 2) sc_Changed_days_lost.nd rfl (Or.inl rfl)) (pss_one (ps_dput (hu_of hr) (pv 1) (pv 2) pe_bl rfl)))
      (pss_cons (ps_for PassesOwn.never rfl (pi_tupK (K := K) rfl (pe_fldK (K := K) rfl (pv 0))) (pg_name (i := 3) sc_Changed_days_lost.nd rfl (Or.inl rfl)) (pss_one (ps_dput (hu_of hr) (pv 1) (pe_ix (ix_tupK (K := K) rfl) (pv 3) pe_int (fun _ _ => rfl)) pe_bl rfl)))
      (pss_one (ps_ret (pv 1)))))), ?_⟩
    obtain ⟨⟨dr, hr0⟩, s1, hp, hq, ho, hok, l1, l2, l3⟩ := hc
    refine fun d hd0 => ?_
    have s0 := same_upd (o := .dK []) hd0
    refine ⟨_, rfl, x, _, dx, _, _, rfl, s0 _ _ hx, T.cl_Changed, T.n_Changed_left, fl5_left _ _ _ _ _, p, rfl, ⟨_, SqT.of (s0 _ _ hp)⟩, ?_⟩
    refine for_seq (H0 := H) (seq_tup (SqT.of hp)) (fun i σ H' => Same H H' ∧ ∃ kvs y z, H' d = some (.dK kvs) ∧ kvs.length ≤ i ∧ σ = [some (.ref x), some (.ref d), y, z]) ⟨s0, [], _, _, upd_same, Nat.le_refl _, rfl⟩ (fun _ _ _ _ h => h.1) ?_ ?_
    · rintro i v σ H1 hv ⟨sm, kvs, y, z, hd, hl, rfl⟩
      have hi : i < (ls.map V.int).length := (List.getElem?_eq_some_iff.mp hv).1
      rw [List.length_map] at hi
      obtain ⟨n, hn, rfl⟩ := List.mem_map.mp (List.mem_of_getElem? hv)
      refine ⟨_, rfl, _, rfl, d, _, rfl, DPut.k (k := Sum.inl n) hd (Nat.lt_of_le_of_lt (by omega : kvs.length ≤ 100) (by decide)), ?_⟩
      refine ⟨fun c u e => by rw [upd_ne (ne_of_none e hd0)]; exact sm _ _ e, _, _, _, upd_same, Nat.le_trans (length_putK _ _ _) (Nat.succ_le_succ hl), rfl⟩
    rintro σ H1 ⟨sm, kvs, y, z, hd, hl, rfl⟩
    rw [List.length_map] at hl
    refine ⟨_, rfl, x, _, dx, _, _, rfl, sm _ _ hx, T.cl_Changed, T.n_Changed_moved, fl5_moved _ _ _ _ _, o, rfl, ⟨_, SqT.of (sm _ _ ho)⟩, ?_⟩
    refine for_seq (H0 := H) (seq_tup (SqT.of ho)) (fun i σ H' => Same H H' ∧ ∃ kvs y z, H' d = some (.dK kvs) ∧ kvs.length ≤ 5 + i ∧ σ = [some (.ref x), some (.ref d), y, z]) ⟨sm, kvs, _, _, hd, by omega, rfl⟩ (fun _ _ _ _ h => h.1) ?_ ?_
    · rintro i v σ H2 hv ⟨sm2, kvs2, y2, z2, hd2, hl2, rfl⟩
      have hi : i < (refs rs).length := (List.getElem?_eq_some_iff.mp hv).1
      rw [refs_len] at hi
      obtain ⟨y, hy, hym, rfl⟩ := refs_get hv
      have hy1 := sm2 _ _ (hok y hym)
      refine ⟨_, rfl, _, rfl, y.1, _, _, _, rfl, rfl, SqT.of hy1, rfl, d, _, rfl, DPut.k (k := Sum.inl y.2.1) hd2 (Nat.lt_of_le_of_lt (by omega : kvs2.length ≤ 100) (by decide)), ?_⟩
      refine ⟨fun c u e => by rw [upd_ne (ne_of_none e hd0)]; exact sm2 _ _ e, _, _, _, upd_same, Nat.le_trans (length_putK _ _ _) (by omega), rfl⟩
    rintro σ H2 ⟨sm2, kvs2, y2, z2, hd2, hl2, rfl⟩
    exact ⟨_, rfl, k d H2 sm2⟩
end
end K13

namespace K13
open PySem L2
open DG (okW dy btw fe ab TB TEn Sh firsts)
section
variable {P : Program} {w : World} {K : PySem.W.Frag} {mg : Str → Option Value} {base : Heap} {a : Adr}
theorem sc_law_cell_at : FnScope ["_law_script", "_law_k"] ["_law_script", "_law_k"] (defScope s_law_cell_at) := ⟨rfl, rfl, rfl, by decide +kernel, rfl, by decide +kernel, by decide +kernel⟩

theorem ok_law_cell_at (T : Txt K mg a) : FnOk P w K mg base CX0 true 1 a.f_law_cell_at a.d_law_cell_at ["_law_script", "_law_k"] (sp_law_cell_at K) := by
  refine T.F_law_cell_at.ok sc_law_cell_at (fun vs H Q E h => ?_) (fun cdv A outer s H vs Q E hr h => ?_)
  · obtain ⟨p, ns, i, rfl, _⟩ := h; rfl
  · obtain ⟨p, ns, i, rfl, hS, h0, k⟩ := h
    refine ⟨_, (pss_cons (ps_if (pt_cmpR op_lt (pv 1) (pe_callB (call_len_seqK (K := K) rfl) rfl T.n_len (by decide +kernel) (pa_cons (pv 0) pa_nil)) (nomark _)) (pss_one (ps_ret (pe_ix (ix_listK (K := K) rfl) (pv 0) (pv 1) (fun _ _ => rfl)))) pss_nil)
      (pss_one (ps_ret pe_int))), ?_⟩
    refine ⟨_, rfl, _, rfl, p, _, rfl, .inl hS, _, _, rfl, rfl, _, rfl, ?_⟩
    refine ite2 (fun e1 => ?_) (fun e1 => k 0)
    have e1' := of_decide_eq_true e1
    rw [List.length_map] at e1'
    obtain ⟨t, _, et⟩ := atI_ints h0 e1'
    exact ⟨_, rfl, _, rfl, p, _, _, _, rfl, rfl, hS, et, k t⟩
end
end K13

namespace K13
open PySem L2
open DG (okW dy btw fe ab TB TEn Sh firsts)
section
variable {P : Program} {w : World} {K : PySem.W.Frag} {mg : Str → Option Value} {base : Heap} {a : Adr}
theorem sc_law_next : FnScope ["_law_pick", "_law_more"] ["_law_pick"] (defScope s_law_next) := ⟨rfl, rfl, rfl, by decide +kernel, rfl, by decide +kernel, by decide +kernel⟩

theorem ok_law_next (T : Txt K mg a) : FnOk P w K mg base CX0 true 1 a.f_law_next a.d_law_next ["_law_pick"] (sp_law_next) := by
  refine T.F_law_next.ok sc_law_next (fun vs H Q E h => ?_) (fun cdv A outer s H vs Q E hr h => ?_)
  · obtain ⟨p, rfl, _⟩ := h; rfl
  · obtain ⟨p, rfl, k⟩ := h
    refine ⟨_, (pss_cons (ps_set (i := 1) sc_law_next.nd rfl (Or.inl rfl) (pe_op op_mod (pe_op op_add (pe_op op_mul (pv 0) pe_int) pe_int) pe_int))
      (pss_one (ps_ret (pe_op op_mod (pe_op op_mul (pv 1) (pv 1)) pe_int)))), ?_⟩
    refine ⟨_, rfl, _, _, rfl, rfl, .inr ⟨by decide, by decide⟩, _, _, rfl, rfl, _, _, rfl, rfl, (by show (0 : Int) < 2147483647; decide), ?_⟩
    have b0 : 0 ≤ (p * 48271 + 11) % 2147483647 := Int.emod_nonneg _ (by decide)
    have b1 : (p * 48271 + 11) % 2147483647 < 2147483647 := Int.emod_lt_of_pos _ (by decide)
    refine ⟨_, rfl, _, rfl, _, _, rfl, rfl, .inl ⟨by omega, by omega⟩, _, _, rfl, rfl, (by show (0 : Int) < 2147483629; decide), ?_⟩
    exact k _ (Int.emod_nonneg _ (by decide))
end
end K13

namespace K13
open PySem L2
open DG (okW dy btw fe ab TB TEn Sh firsts)
section
variable {P : Program} {w : World} {K : PySem.W.Frag} {mg : Str → Option Value} {base : Heap} {a : Adr}
theorem sc_law_leap : FnScope ["_law_year_here"] ["_law_year_here"] (defScope s_law_leap) := ⟨rfl, rfl, rfl, by decide +kernel, rfl, by decide +kernel, by decide +kernel⟩

theorem ok_law_leap (T : Txt K mg a) : FnOk P w K mg base CX0 true 1 a.f_law_leap a.d_law_leap ["_law_year_here"] (sp_is_leap) := by
  refine T.F_law_leap.ok sc_law_leap (fun vs H Q E h => ?_) (fun cdv A outer s H vs Q E hr h => ?_)
  · obtain ⟨y, rfl, _⟩ := h; rfl
  · obtain ⟨y, rfl, k⟩ := h
    refine ⟨_, (pss_one (ps_ret (pe_or (pe_cmpR op_eq (pe_op op_mod (pv 0) pe_int) pe_int (nomark _)) (pe_one (pe_and (pe_cmpR op_eq (pe_op op_mod (pv 0) pe_int) pe_int (nomark _)) (pe_one (pe_cmpR op_ne (pe_op op_mod (pv 0) pe_int) pe_int (nomark _)))))))), ?_⟩
    refine ⟨_, rfl, _, _, rfl, rfl, (by show (0 : Int) < 400; decide), rfl, _, rfl, ?_⟩
    refine ite2 (fun h1 => ?_) (fun h1 => ?_)
    · rw [vint] at h1
      have e : DM.leap y = true := by rw [DM.leap_iff]; exact .inl (of_decide_eq_true h1)
      rw [e] at k
      exact k
    · rw [vint] at h1
      refine ⟨_, rfl, _, _, rfl, rfl, (by show (0 : Int) < 4; decide), rfl, _, rfl, ?_⟩
      refine ite2 (fun h2 => ?_) (fun h2 => ?_)
      · rw [vint] at h2
        refine ⟨_, rfl, _, _, rfl, rfl, (by show (0 : Int) < 100; decide), rfl, ?_⟩
        have e : DM.leap y = !decide (V.int (y % 100) = V.int 0) := by
          unfold DM.leap
          rw [vint, h2]
          simp at h1
          simp [h1]
        rw [e] at k
        exact k
      · rw [vint] at h2
        have e : DM.leap y = false := by
          unfold DM.leap
          simp at h1 h2
          simp [h1, h2]
        rw [e] at k
        exact k
end
end K13

namespace K13
open PySem L2
open DG (okW dy btw fe ab TB TEn Sh firsts)
section
variable {P : Program} {w : World} {K : PySem.W.Frag} {mg : Str → Option Value} {base : Heap} {a : Adr}
theorem sc_law_alone : FnScope ["_law_e", "_law_told_here"] ["_law_e"] (defScope s_law_alone) := ⟨rfl, rfl, rfl, by decide +kernel, rfl, by decide +kernel, by decide +kernel⟩

theorem ok_law_alone (T : Txt K mg a) : FnOk P w K mg base CX0 false 1 a.f_law_alone a.d_law_alone ["_law_e"] (sp_law_alone a.x_NoRule) := by
  refine T.F_law_alone.ok sc_law_alone (fun vs H Q E h => ?_) (fun cdv A outer s H vs Q E hr h => ?_)
  · obtain ⟨e, rfl, _⟩ := h; rfl
  · obtain ⟨e, rfl, he, k⟩ := h
    refine ⟨_, (pss_cons (ps_set (i := 1) sc_law_alone.nd rfl (Or.inl rfl) (pe_lst (pa_cons (pe_callB (call_isiEK (K := K) rfl) rfl T.n_isinstance (by decide +kernel) (pa_cons (pv 0) (pa_cons (pe_globR rfl T.m_NoDay) pa_nil))) (pa_cons (pe_callB (call_isiEK (K := K) rfl) rfl T.n_isinstance (by decide +kernel) (pa_cons (pv 0) (pa_cons (pe_globR rfl T.m_NoText) pa_nil))) (pa_cons (pe_callB (call_isiEK (K := K) rfl) rfl T.n_isinstance (by decide +kernel) (pa_cons (pv 0) (pa_cons (pe_globR rfl T.m_NoRule) pa_nil))) (pa_cons (pe_callB (call_isiEK (K := K) rfl) rfl T.n_isinstance (by decide +kernel) (pa_cons (pv 0) (pa_cons (pe_globR rfl T.m_NoPlace) pa_nil))) pa_nil))))))
      (pss_cons (ps_set (i := 1) sc_law_alone.nd rfl (Or.inl rfl) (pe_op op_cat (pv 1) (pe_lst (pa_cons (pe_callB (call_isiEK (K := K) rfl) rfl T.n_isinstance (by decide +kernel) (pa_cons (pv 0) (pa_cons (pe_globR rfl T.m_NoSpan) pa_nil))) (pa_cons (pe_callB (call_isiEK (K := K) rfl) rfl T.n_isinstance (by decide +kernel) (pa_cons (pv 0) (pa_cons (pe_globR rfl T.m_NoThing) pa_nil))) (pa_cons (pe_callB (call_isiEK (K := K) rfl) rfl T.n_isinstance (by decide +kernel) (pa_cons (pv 0) (pa_cons (pe_globR rfl T.m_Known) pa_nil))) (pa_cons (pe_callB (call_isiEK (K := K) rfl) rfl T.n_isinstance (by decide +kernel) (pa_cons (pv 0) (pa_cons (pe_globR rfl T.m_Full) pa_nil))) pa_nil)))))))
      (pss_cons (ps_set (i := 1) sc_law_alone.nd rfl (Or.inl rfl) (pe_op op_cat (pv 1) (pe_lst (pa_cons (pe_callB (call_isiEK (K := K) rfl) rfl T.n_isinstance (by decide +kernel) (pa_cons (pv 0) (pa_cons (pe_globR rfl T.m_NoLetter) pa_nil))) (pa_cons (pe_callB (call_isiEK (K := K) rfl) rfl T.n_isinstance (by decide +kernel) (pa_cons (pv 0) (pa_cons (pe_globR rfl T.m_NoHand) pa_nil))) (pa_cons (pe_callB (call_isiEK (K := K) rfl) rfl T.n_isinstance (by decide +kernel) (pa_cons (pv 0) (pa_cons (pe_globR rfl T.m_NoWord) pa_nil))) (pa_cons (pe_callB (call_isiEK (K := K) rfl) rfl T.n_isinstance (by decide +kernel) (pa_cons (pv 0) (pa_cons (pe_globR rfl T.m_NoMeeting) pa_nil))) pa_nil)))))))
      (pss_cons (ps_set (i := 1) sc_law_alone.nd rfl (Or.inl rfl) (pe_op op_cat (pv 1) (pe_lst (pa_cons (pe_callB (call_isiEK (K := K) rfl) rfl T.n_isinstance (by decide +kernel) (pa_cons (pv 0) (pa_cons (pe_globR rfl T.m_Closed) pa_nil))) (pa_cons (pe_callB (call_isiEK (K := K) rfl) rfl T.n_isinstance (by decide +kernel) (pa_cons (pv 0) (pa_cons (pe_globR rfl T.m_Busy) pa_nil))) pa_nil)))))
      (pss_one (ps_ret (pe_and (pe_callB (call_isiEK (K := K) rfl) rfl T.n_isinstance (by decide +kernel) (pa_cons (pv 0) (pa_cons (pe_bltn (v := .ty "ValueError") rfl T.n_ValueError (by decide +kernel) rfl) pa_nil))) (pe_one (pe_cmpR op_eq (pe_bm PySem.F.plainAttrs_list PySem.F.slot_list_count PySem.F.type_list_count (mt_countBK (K := K) rfl) (pv 1) (pa_cons pe_bl pa_nil)) pe_int (nomark _)))))))))), ?_⟩
    refine ⟨_, rfl, e, _, _, _, _, rfl, he, T.e_NoRule, .inl ⟨_, rfl, rfl⟩, T.k_NoRule_NoDay, _, rfl, e, _, _, _, _, rfl, he, T.e_NoRule, .inl ⟨_, rfl, rfl⟩, T.k_NoRule_NoText, _, rfl, e, _, _, _, _, rfl, he, T.e_NoRule, .inl ⟨_, rfl, rfl⟩, T.k_NoRule_NoRule, _, rfl, e, _, _, _, _, rfl, he, T.e_NoRule, .inl ⟨_, rfl, rfl⟩, T.k_NoRule_NoPlace, (by show 4 ≤ sizeLine; decide), fun l0 hl0 => ?_⟩
    have he0 := same_upd (o := .lst [.bl false, .bl false, .bl true, .bl false]) hl0 _ _ he
    refine ⟨_, rfl, _, rfl, e, _, _, _, _, rfl, he0, T.e_NoRule, .inl ⟨_, rfl, rfl⟩, T.k_NoRule_NoSpan, _, rfl, e, _, _, _, _, rfl, he0, T.e_NoRule, .inl ⟨_, rfl, rfl⟩, T.k_NoRule_NoThing, _, rfl, e, _, _, _, _, rfl, he0, T.e_NoRule, .inl ⟨_, rfl, rfl⟩, T.k_NoRule_Known, _, rfl, e, _, _, _, _, rfl, he0, T.e_NoRule, .inl ⟨_, rfl, rfl⟩, T.k_NoRule_Full, (by show 4 ≤ sizeLine; decide), fun m1 hm1 => ?_⟩
    refine ⟨l0, m1, _, _, rfl, rfl, same_upd hm1 _ _ upd_same, upd_same, (by show 4 + 4 ≤ sizeLine; decide), fun l1 hl1 => ?_⟩
    have he1 := same_upd (o := .lst ([.bl false, .bl false, .bl true, .bl false] ++ [.bl false, .bl false, .bl false, .bl false])) hl1 _ _ (same_upd (o := .lst [.bl false, .bl false, .bl false, .bl false]) hm1 _ _ he0)
    refine ⟨_, rfl, _, rfl, e, _, _, _, _, rfl, he1, T.e_NoRule, .inl ⟨_, rfl, rfl⟩, T.k_NoRule_NoLetter, _, rfl, e, _, _, _, _, rfl, he1, T.e_NoRule, .inl ⟨_, rfl, rfl⟩, T.k_NoRule_NoHand, _, rfl, e, _, _, _, _, rfl, he1, T.e_NoRule, .inl ⟨_, rfl, rfl⟩, T.k_NoRule_NoWord, _, rfl, e, _, _, _, _, rfl, he1, T.e_NoRule, .inl ⟨_, rfl, rfl⟩, T.k_NoRule_NoMeeting, (by show 4 ≤ sizeLine; decide), fun m2 hm2 => ?_⟩
    refine ⟨l1, m2, _, _, rfl, rfl, same_upd hm2 _ _ upd_same, upd_same, (by show 8 + 4 ≤ sizeLine; decide), fun l2 hl2 => ?_⟩
    have he2 := same_upd (o := .lst ([.bl false, .bl false, .bl true, .bl false, .bl false, .bl false, .bl false, .bl false] ++ [.bl false, .bl false, .bl false, .bl false])) hl2 _ _ (same_upd (o := .lst [.bl false, .bl false, .bl false, .bl false]) hm2 _ _ he1)
    refine ⟨_, rfl, _, rfl, e, _, _, _, _, rfl, he2, T.e_NoRule, .inl ⟨_, rfl, rfl⟩, T.k_NoRule_Closed, _, rfl, e, _, _, _, _, rfl, he2, T.e_NoRule, .inl ⟨_, rfl, rfl⟩, T.k_NoRule_Busy, (by show 2 ≤ sizeLine; decide), fun m3 hm3 => ?_⟩
    refine ⟨l2, m3, _, _, rfl, rfl, same_upd hm3 _ _ upd_same, upd_same, (by show 12 + 2 ≤ sizeLine; decide), fun l3 hl3 => ?_⟩
    have he3 := same_upd (o := .lst ([.bl false, .bl false, .bl true, .bl false, .bl false, .bl false, .bl false, .bl false, .bl false, .bl false, .bl false, .bl false] ++ [.bl false, .bl false])) hl3 _ _ (same_upd (o := .lst [.bl false, .bl false]) hm3 _ _ he2)
    refine ⟨_, rfl, e, _, _, _, _, rfl, he3, T.e_NoRule, .inr ⟨_, rfl, rfl⟩, T.k_NoRule_ValueError, _, rfl, iteT ?_⟩
    exact ⟨_, rfl, .inl ⟨rfl, _, SqL.of upd_same⟩, l3, [false, false, true, false, false, false, false, false, false, false, false, false, false, false], true, rfl, rfl, SqL.of upd_same, rfl, k _ (((((((same_upd hl0).trans (same_upd hm1)).trans (same_upd hl1)).trans (same_upd hm2)).trans (same_upd hl2)).trans (same_upd hm3)).trans (same_upd hl3))⟩
end
end K13

namespace K13
open PySem L2
open DG (okW dy btw fe ab TB TEn Sh firsts)
section
variable {P : Program} {w : World} {K : PySem.W.Frag} {mg : Str → Option Value} {base : Heap} {a : Adr}
theorem sc_law_number : FnScope ["_law_cell", "_law_low", "_law_high", "_law_some"] ["_law_cell", "_law_low", "_law_high"] (defScope s_law_number) := ⟨rfl, rfl, rfl, by decide +kernel, rfl, by decide +kernel, by decide +kernel⟩

theorem ok_law_number (T : Txt K mg a) : FnOk P w K mg base CX0 true 1 a.f_law_number a.d_law_number ["_law_cell", "_law_low", "_law_high"] (sp_law_number) := by
  refine T.F_law_number.ok sc_law_number (fun vs H Q E h => ?_) (fun cdv A outer s H vs Q E hr h => ?_)
  · obtain ⟨c, l, m, rfl, _⟩ := h; rfl
  · obtain ⟨c, l, m, rfl, k⟩ := h
    refine ⟨_, (pss_cons (ps_set (i := 3) sc_law_number.nd rfl (Or.inl rfl) (pe_lst (pa_cons (pv 1) (pa_cons (pv 2) (pa_cons (pe_op op_sub (pv 1) pe_int) (pa_cons (pe_op op_add (pv 2) pe_int) (pa_cons (pe_un un_neg (pe_op op_pow pe_int pe_int)) (pa_cons (pe_op op_pow pe_int pe_int) (pa_cons (pv 1) (pa_cons (pv 2) (pa_cons (pe_op op_add (pv 1) pe_int) pa_nil)))))))))))
      (pss_one (ps_ret (pe_ix (ix_listK (K := K) rfl) (pv 3) (pe_op op_mod (pv 0) pe_int) (fun _ _ => rfl))))), ?_⟩
    refine ⟨_, rfl, _, rfl, _, rfl, _, _, rfl, rfl, _, rfl, _, _, rfl, rfl, _, _, rfl, rfl, ⟨by decide, by decide, by decide⟩, _, rfl, _, _, rfl, rfl, ⟨by decide, by decide, by decide⟩, _, rfl, _, rfl, _, rfl, _, _, rfl, rfl, (by show 9 ≤ sizeLine; decide), fun L hL => ?_⟩
    obtain ⟨t, _, ht⟩ := atI_ints (ts := [l, m, l - 1, m + 1, -(10 ^ (9 : Int).toNat), 10 ^ (9 : Int).toNat, l, m, l + 1]) (i := c % 9) (Int.emod_nonneg _ (by decide)) (Int.emod_lt_of_pos _ (by decide))
    exact ⟨_, rfl, _, rfl, _, _, rfl, rfl, (by show (0 : Int) < 9; decide), L, _, _, _, rfl, rfl, SqL.of upd_same, ht, k t _ (same_upd hL)⟩
end
end K13

namespace K13
open PySem L2
open DG (okW dy btw fe ab TB TEn Sh firsts)
section
variable {P : Program} {w : World} {K : PySem.W.Frag} {mg : Str → Option Value} {base : Heap} {a : Adr}
theorem sc_month_days : FnScope ["year", "month"] ["year", "month"] (defScope s_month_days) := ⟨rfl, rfl, rfl, by decide +kernel, rfl, by decide +kernel, by decide +kernel⟩

theorem ok_month_days (T : Txt K mg a) : FnOk P w K mg base CX0 true 2 a.f_month_days a.d_month_days ["year", "month"] (sp_month_days) := by
  refine T.F_month_days.ok sc_month_days (fun vs H Q E h => ?_) (fun cdv A outer s H vs Q E hr h => ?_)
  · obtain ⟨y, m, rfl, _⟩ := h; rfl
  · obtain ⟨y, m, rfl, h1, h2, k⟩ := h
    refine ⟨_, (pss_cons (ps_if (PW.pt (pw_and (pt_cmpR op_eq (pv 1) pe_int (nomark _)) (pw_and1 (pt_val (pe_call ((ok_is_leap T).mono (by decide)) hr rfl T.m_is_leap T.F_is_leap.kp T.b_is_leap .nil pass0 (pa_cons (pv 0) pa_nil)))))) (pss_one (ps_ret pe_int)) pss_nil)
      (pss_one (ps_ret (pe_ix (ix_tupK (K := K) rfl) (pe_globR rfl T.g_MONTH_LENGTHS) (pe_op op_sub (pv 1) pe_int) (fun _ _ => rfl))))), ?_⟩
    refine ⟨_, rfl, rfl, _, rfl, ?_⟩
    refine ite2 (fun e1 => ?_) (fun e1 => ?_)
    · rw [vint] at e1
      have e1' : m = 2 := of_decide_eq_true e1
      refine ⟨_, rfl, y, rfl, _, rfl, ?_⟩
      refine ite2 (fun e2 => ?_) (fun e2 => ?_)
      · have e : DM.len y m = 29 := by unfold DM.len; rw [if_pos e1', if_pos e2]
        rw [e] at k
        exact k
      · exact ⟨_, rfl, _, _, rfl, rfl, _, _, _, _, rfl, rfl, T.s_MONTH_LENGTHS _, ml_at h1 h2 (fun z => e2 z.2), k⟩
    · rw [vint] at e1
      refine iteF ?_
      exact ⟨_, rfl, _, _, rfl, rfl, _, _, _, _, rfl, rfl, T.s_MONTH_LENGTHS _, ml_at h1 h2 (fun z => e1 (decide_eq_true z.1)), k⟩
end
end K13

namespace K13
open PySem L2
open DG (okW dy btw fe ab TB TEn Sh firsts)
section
variable {P : Program} {w : World} {K : PySem.W.Frag} {mg : Str → Option Value} {base : Heap} {a : Adr}
theorem sc_month_begin : FnScope ["number", "year", "month", "begin"] ["number"] (defScope s_month_begin) := ⟨rfl, rfl, rfl, by decide +kernel, rfl, by decide +kernel, by decide +kernel⟩

theorem ok_month_begin (T : Txt K mg a) : FnOk P w K mg base CX0 true 2 a.f_month_begin a.d_month_begin ["number"] (sp_month_begin) := by
  refine T.F_month_begin.ok sc_month_begin (fun vs H Q E h => ?_) (fun cdv A outer s H vs Q E hr h => ?_)
  · obtain ⟨n, rfl, _⟩ := h; rfl
  · obtain ⟨n, rfl, k⟩ := h
    refine ⟨_, (pss_cons (ps_set (i := 1) sc_month_begin.nd rfl (Or.inl rfl) (pe_op op_add (pe_globI rfl T.g_FIRST_YEAR) (pe_op op_fdiv (pv 0) pe_int)))
      (pss_cons (ps_set (i := 2) sc_month_begin.nd rfl (Or.inl rfl) (pe_op op_add (pe_op op_mod (pv 0) pe_int) pe_int))
      (pss_cons (ps_set (i := 3) sc_month_begin.nd rfl (Or.inl rfl) (pe_op op_add (pe_call ((ok_year_begin T).mono (by decide)) hr rfl T.m_year_begin T.F_year_begin.kp T.b_year_begin .nil pass0 (pa_cons (pv 1) pa_nil)) (pe_ix (ix_tupK (K := K) rfl) (pe_globR rfl T.g_DAYS_AHEAD) (pe_op op_sub (pv 2) pe_int) (fun _ _ => rfl))))
      (pss_cons (ps_if (PW.pt (pw_and (pt_cmpR op_gt (pv 2) pe_int (nomark _)) (pw_and1 (pt_val (pe_call ((ok_is_leap T).mono (by decide)) hr rfl T.m_is_leap T.F_is_leap.kp T.b_is_leap .nil pass0 (pa_cons (pv 1) pa_nil)))))) (pss_one (ps_ret (pe_op op_add (pv 3) pe_int))) pss_nil)
      (pss_one (ps_ret (pv 3))))))), ?_⟩
    refine ⟨_, rfl, _, _, rfl, rfl, ⟨by decide, by decide⟩, _, _, rfl, rfl, ?_⟩
    refine ⟨_, rfl, _, _, rfl, rfl, (by show (0 : Int) < 12; decide), _, _, rfl, rfl, ?_⟩
    refine ⟨_, rfl, _, rfl, _, rfl, _, _, rfl, rfl, _, _, _, _, rfl, rfl, T.s_DAYS_AHEAD _, da_at n, _, _, rfl, rfl, ?_⟩
    refine ⟨_, rfl, _, _, rfl, rfl, _, rfl, ?_⟩
    refine ite2 (fun e1 => ?_) (fun e1 => ?_)
    · have e1' := of_decide_eq_true e1
      refine ⟨_, rfl, _, rfl, _, rfl, ?_⟩
      refine ite2 (fun e2 => ?_) (fun e2 => ?_)
      · have e : DM.mb n = DM.year (2000 + n / 12) + DM.ahead (n % 12 + 1) + 1 := by unfold DM.mb; rw [if_pos ⟨e1', e2⟩]
        rw [e] at k
        exact ⟨_, rfl, _, _, rfl, rfl, k⟩
      · have e : DM.mb n = DM.year (2000 + n / 12) + DM.ahead (n % 12 + 1) := by unfold DM.mb; rw [if_neg (fun z => e2 z.2), Int.add_zero]
        rw [e] at k
        exact ⟨_, rfl, k⟩
    · have e : DM.mb n = DM.year (2000 + n / 12) + DM.ahead (n % 12 + 1) := by unfold DM.mb; rw [if_neg (fun z => e1 (decide_eq_true z.1)), Int.add_zero]
      rw [e] at k
      refine iteF ?_
      exact ⟨_, rfl, k⟩
end
end K13

namespace K13
open PySem L2
open DG (okW dy btw fe ab TB TEn Sh firsts)
section
variable {P : Program} {w : World} {K : PySem.W.Frag} {mg : Str → Option Value} {base : Heap} {a : Adr}
theorem sc_check_day : FnScope ["number"] ["number"] (defScope s_check_day) := ⟨rfl, rfl, rfl, by decide +kernel, rfl, by decide +kernel, by decide +kernel⟩

theorem ok_check_day (T : Txt K mg a) : FnOk P w K mg base (CXe P w) true 2 a.f_check_day a.d_check_day ["number"] (sp_check_day a.x_NoRule) := by
  refine T.F_check_day.okE sc_check_day (fun vs H Q E h => ?_) (fun cdv A outer s H vs Q E hr h => ?_)
  · obtain ⟨n, rfl, _⟩ := h; rfl
  · obtain ⟨n, rfl, k1, k2⟩ := h
    refine ⟨_, (pss_one (ps_if (pt_not (pt_val (pe_call ((ok_is_day T).mono (by decide)) hr rfl T.m_is_day T.F_is_day.kp T.b_is_day .nil pass0 (pa_cons (pv 0) pa_nil)))) (pss_one (ps_raise raises_def rfl rfl T.m_NoRule T.x_NoRule (pa_cons pe_str pa_nil))) pss_nil)), ?_⟩
    refine ⟨_, rfl, n, rfl, _, rfl, ?_⟩
    cases e : dy n with
    | true => exact iteF (k1 e)
    | false => exact ite2 (fun _ => ⟨(by show 1 ≤ sizeLine; decide), k2 e⟩) (fun z => absurd rfl z)
end
end K13

namespace K13
open PySem L2
open DG (okW dy btw fe ab TB TEn Sh firsts)
section
variable {P : Program} {w : World} {K : PySem.W.Frag} {mg : Str → Option Value} {base : Heap} {a : Adr}
theorem sc_Every_falls_on : FnScope ["self", "day"] ["self", "day"] (defScope s_Every_falls_on) := ⟨rfl, rfl, rfl, by decide +kernel, rfl, by decide +kernel, by decide +kernel⟩

theorem ok_Every_falls_on (T : Txt K mg a) : FnOk P w K mg base CX0 true 2 a.f_Every_falls_on a.d_Every_falls_on ["self", "day"] (sp_Every_falls_on a.x_Every) := by
  refine T.F_Every_falls_on.ok sc_Every_falls_on (fun vs H Q E h => ?_) (fun cdv A outer s H vs Q E hr h => ?_)
  · obtain ⟨x, dx, d, st, fi, rfl, _⟩ := h; rfl
  · obtain ⟨x, dx, d, st, fi, rfl, hx, s1, k2⟩ := h
    refine ⟨_, (pss_one (ps_ret (pe_and (pe_call ((ok_is_day T).mono (by decide)) hr rfl T.m_is_day T.F_is_day.kp T.b_is_day .nil pass0 (pa_cons (pv 1) pa_nil)) (pe_and (pe_cmpR op_ge (pv 1) (pe_fldK (K := K) rfl (pv 0)) (nomark _)) (pe_one (pe_cmpR op_eq (pe_op op_mod (pe_op op_sub (pv 1) (pe_fldK (K := K) rfl (pv 0))) (pe_fldK (K := K) rfl (pv 0))) pe_int (nomark _))))))), ?_⟩
    refine ⟨_, rfl, d, rfl, _, rfl, ?_⟩
    cases e1 : dy d with
    | false => rw [e1] at k2; exact iteF k2
    | true =>
    rw [e1, Bool.true_and] at k2
    refine iteT ⟨_, rfl, _, rfl, x, _, dx, _, _, rfl, hx, T.cl_Every, T.n_Every_first, fl_Every_first _ _, _, _, rfl, rfl, _, rfl, ?_⟩
    cases e2 : decide (fi ≤ d) with
    | false => rw [e2] at k2; exact iteF k2
    | true =>
    rw [e2, Bool.true_and] at k2
    refine iteT ⟨_, rfl, _, rfl, x, _, dx, _, _, rfl, hx, T.cl_Every, T.n_Every_first, fl_Every_first _ _, _, _, rfl, rfl, _, rfl, x, _, dx, _, _, rfl, hx, T.cl_Every, T.n_Every_step, fl_Every_step _ _, _, _, rfl, rfl, (by show (0 : Int) < st; omega), rfl, ?_⟩
    rw [vint]
    exact k2
end
end K13

namespace K13
open PySem L2
open DG (okW dy btw fe ab TB TEn Sh firsts)
section
variable {P : Program} {w : World} {K : PySem.W.Frag} {mg : Str → Option Value} {base : Heap} {a : Adr}
theorem sc_Shifted___init : FnScope ["self", "rule", "many"] ["self", "rule", "many"] (defScope s_Shifted___init) := ⟨rfl, rfl, rfl, by decide +kernel, rfl, by decide +kernel, by decide +kernel⟩

theorem ok_Shifted___init (T : Txt K mg a) : FnOk P w K mg base (CXe P w) true 2 a.f_Shifted___init a.d_Shifted___init ["self", "rule", "many"] (sp_Shifted_init a.x_Shifted a.x_NoRule) := by
  refine T.F_Shifted___init.okE sc_Shifted___init (fun vs H Q E h => ?_) (fun cdv A outer s H vs Q E hr h => ?_)
  · obtain ⟨x, dx, r, m, rfl, _⟩ := h; rfl
  · obtain ⟨x, dx, r, m, rfl, hx, k1, k2⟩ := h
    refine ⟨_, (pss_cons (ps_expr (pe_call ((ok_check_bounds T).mono (by decide)) hr rfl T.m_check_bounds T.F_check_bounds.kp T.b_check_bounds .nil passes_def (pa_cons (pv 2) (pa_cons (pe_un un_neg (pe_globI rfl T.g_MOST_MANY)) (pa_cons (pe_globI rfl T.g_MOST_MANY) pa_nil)))))
      (pss_cons (ps_fldK (K := K) rfl (pv 0) (pv 1))
      (pss_one (ps_fldK (K := K) rfl (pv 0) (pv 2))))), ?_⟩
    refine ⟨_, rfl, _, rfl, m, -1000, 1000, rfl, fun g1 => ?_, k2⟩
    refine ⟨_, rfl, _, rfl, x, _, dx, _, rfl, hx, T.cl_Shifted, T.n_Shifted_rule, (by show 0 < 1000; decide), ?_⟩
    rw [pf_Shifted_rule]
    refine ⟨_, rfl, _, rfl, x, _, dx, _, rfl, upd_same, T.cl_Shifted, T.n_Shifted_many, (by show 1 < 1000; decide), ?_⟩
    rw [pf_Shifted_many]
    exact k1 g1 _ _ (fun c u hc e => by rw [upd_ne hc, upd_ne hc]; exact e) upd_same
end
end K13

namespace K13
open PySem L2
open DG (okW dy btw fe ab TB TEn Sh firsts)
section
variable {P : Program} {w : World} {K : PySem.W.Frag} {mg : Str → Option Value} {base : Heap} {a : Adr}
theorem sc_law_length : FnScope ["_law_year_here", "_law_month"] ["_law_year_here", "_law_month"] (defScope s_law_length) := ⟨rfl, rfl, rfl, by decide +kernel, rfl, by decide +kernel, by decide +kernel⟩

theorem ok_law_length (T : Txt K mg a) : FnOk P w K mg base CX0 true 2 a.f_law_length a.d_law_length ["_law_year_here", "_law_month"] (sp_law_length) := by
  refine T.F_law_length.ok sc_law_length (fun vs H Q E h => ?_) (fun cdv A outer s H vs Q E hr h => ?_)
  · obtain ⟨y, m, rfl, _⟩ := h; rfl
  · obtain ⟨y, m, rfl, k⟩ := h
    refine ⟨_, (pss_cons (ps_if (pt_cmpR op_eq (pv 1) pe_int (nomark _)) (pss_one (ps_ret (pe_op op_add pe_int (pe_callTy call_int1 rfl T.n_int (by decide +kernel) (pa_cons (pe_call ((ok_law_leap T).mono (by decide)) hr rfl T.m_law_leap T.F_law_leap.kp T.b_law_leap .nil pass0 (pa_cons (pv 0) pa_nil)) pa_nil))))) pss_nil)
      (pss_one (ps_ret (pe_op op_add pe_int (pe_callTy call_int1 rfl T.n_int (by decide +kernel) (pa_cons (pe_cmpR (op_in_seqK (K := K) rfl) (pv 1) (pe_tup (pa_lits [.int 1, .int 3, .int 5, .int 7, .int 8, .int 10, .int 12] (by decide +kernel))) (by with_unfolding_all rfl)) pa_nil)))))), ?_⟩
    refine ⟨_, rfl, rfl, _, rfl, ?_⟩
    refine ite2 (fun e1 => ?_) (fun e1 => ?_)
    · rw [vint] at e1
      have e1' : m = 2 := of_decide_eq_true e1
      refine ⟨_, rfl, y, rfl, .inr ⟨_, rfl, _, _, rfl, rfl, ?_⟩⟩
      have q := k H (Same.refl _)
      have e : DM.len y m = 28 + (if DM.leap y = true then 1 else 0) := by
        unfold DM.len
        rw [if_pos e1']
        cases DM.leap y <;> rfl
      rw [e] at q
      exact q
    · rw [vint] at e1
      have e1' : ¬ m = 2 := fun z => e1 (decide_eq_true z)
      refine ⟨_, rfl, by decide, fun p hp => ⟨p, _, rfl, .inr (SqT.of upd_same), rfl, rfl, .inr ⟨_, rfl, _, _, rfl, rfl, ?_⟩⟩⟩
      have e : DM.len y m = 30 + (if (if false = true then !inV (.int m) [.int 1, .int 3, .int 5, .int 7, .int 8, .int 10, .int 12] else inV (.int m) [.int 1, .int 3, .int 5, .int 7, .int 8, .int 10, .int 12]) = true then 1 else 0) := by
        unfold DM.len
        rw [if_neg e1', if_neg Bool.false_ne_true]
        have : inV (.int m) [.int 1, .int 3, .int 5, .int 7, .int 8, .int 10, .int 12] = decide (m = 1 ∨ m = 3 ∨ m = 5 ∨ m = 7 ∨ m = 8 ∨ m = 10 ∨ m = 12) := by
          refine Eq.trans (inV_ints m [1, 3, 5, 7, 8, 10, 12]) (decide_eq_decide.mpr ?_)
          simp only [List.mem_cons, List.not_mem_nil, or_false]
        rw [this]
        by_cases z : m = 1 ∨ m = 3 ∨ m = 5 ∨ m = 7 ∨ m = 8 ∨ m = 10 ∨ m = 12
        · rw [if_pos z, decide_eq_true z]; rfl
        · rw [if_neg z, decide_eq_false z]; rfl
      rw [e] at k
      exact k _ (same_upd hp)
end
end K13

namespace K13
open PySem L2
open DG (okW dy btw fe ab TB TEn Sh firsts)
section
variable {P : Program} {w : World} {K : PySem.W.Frag} {mg : Str → Option Value} {base : Heap} {a : Adr}
theorem sc_month_of : FnScope ["day", "guess"] ["day"] (defScope s_month_of) := ⟨rfl, rfl, rfl, by decide +kernel, rfl, by decide +kernel, by decide +kernel⟩

theorem ok_month_of (T : Txt K mg a) : FnOk P w K mg base CX0 true 3 a.f_month_of a.d_month_of ["day"] (sp_month_of) := by
  refine T.F_month_of.ok sc_month_of (fun vs H Q E h => ?_) (fun cdv A outer s H vs Q E hr h => ?_)
  · obtain ⟨d, rfl, _⟩ := h; rfl
  · obtain ⟨d, rfl, k⟩ := h
    refine ⟨_, (pss_cons (ps_set (i := 1) sc_month_of.nd rfl (Or.inl rfl) (pe_op op_fdiv (pe_op op_mul (pv 0) (pe_globI rfl T.g_MONTHS)) (pe_globI rfl T.g_DAYS)))
      (pss_cons (ps_if (pt_cmpR op_gt (pe_call ((ok_month_begin T).mono (by decide)) hr rfl T.m_month_begin T.F_month_begin.kp T.b_month_begin .nil pass0 (pa_cons (pv 1) pa_nil)) (pv 0) (nomark _)) (pss_one (ps_ret (pe_op op_sub (pv 1) pe_int))) pss_nil)
      (pss_cons (ps_if (pt_cmpR op_le (pe_call ((ok_month_begin T).mono (by decide)) hr rfl T.m_month_begin T.F_month_begin.kp T.b_month_begin .nil pass0 (pa_cons (pe_op op_add (pv 1) pe_int) pa_nil)) (pv 0) (nomark _)) (pss_one (ps_ret (pe_op op_add (pv 1) pe_int))) pss_nil)
      (pss_one (ps_ret (pv 1)))))), ?_⟩
    refine ⟨_, rfl, _, _, rfl, rfl, .inr ⟨by decide, by decide⟩, _, _, rfl, rfl, ⟨by decide, by decide⟩, ?_⟩
    refine ⟨_, rfl, _, rfl, _, rfl, _, _, rfl, rfl, _, rfl, ?_⟩
    refine ite2 (fun e1 => ?_) (fun e1 => ?_)
    · have e : DM.mo d = d * 4800 / 146097 - 1 := by unfold DM.mo; rw [if_pos (of_decide_eq_true e1)]
      rw [e] at k
      exact ⟨_, rfl, _, _, rfl, rfl, k⟩
    · refine ⟨_, rfl, _, _, rfl, rfl, _, rfl, _, rfl, _, _, rfl, rfl, _, rfl, ?_⟩
      refine ite2 (fun e2 => ?_) (fun e2 => ?_)
      · have e : DM.mo d = d * 4800 / 146097 + 1 := by unfold DM.mo; rw [if_neg (fun z => e1 (decide_eq_true z)), if_pos (of_decide_eq_true e2)]
        rw [e] at k
        exact ⟨_, rfl, _, _, rfl, rfl, k⟩
      · have e : DM.mo d = d * 4800 / 146097 := by unfold DM.mo; rw [if_neg (fun z => e1 (decide_eq_true z)), if_neg (fun z => e2 (decide_eq_true z))]
        rw [e] at k
        exact ⟨_, rfl, k⟩
end
end K13

namespace K13
open PySem L2
open DG (okW dy btw fe ab TB TEn Sh firsts)
section
variable {P : Program} {w : World} {K : PySem.W.Frag} {mg : Str → Option Value} {base : Heap} {a : Adr}
theorem sc_check_every : FnScope ["first", "every"] ["first", "every"] (defScope s_check_every) := ⟨rfl, rfl, rfl, by decide +kernel, rfl, by decide +kernel, by decide +kernel⟩

theorem ok_check_every (T : Txt K mg a) : FnOk P w K mg base (CXe P w) true 3 a.f_check_every a.d_check_every ["first", "every"] (sp_check_every a.x_NoRule) := by
  refine T.F_check_every.okE sc_check_every (fun vs H Q E h => ?_) (fun cdv A outer s H vs Q E hr h => ?_)
  · obtain ⟨f, e, rfl, _⟩ := h; rfl
  · obtain ⟨f, e, rfl, k1, k2⟩ := h
    refine ⟨_, (pss_cons (ps_expr (pe_call ((ok_check_day T).mono (by decide)) hr rfl T.m_check_day T.F_check_day.kp T.b_check_day .nil passes_def (pa_cons (pv 0) pa_nil)))
      (pss_one (ps_expr (pe_call ((ok_check_bounds T).mono (by decide)) hr rfl T.m_check_bounds T.F_check_bounds.kp T.b_check_bounds .nil passes_def (pa_cons (pv 1) (pa_cons pe_int (pa_cons (pe_globI rfl T.g_MOST_EVERY) pa_nil))))))), ?_⟩
    refine ⟨_, rfl, f, rfl, fun g1 => ⟨_, rfl, e, 1, 1000, rfl, fun g2 => k1 ?_, fun b2 => k2 ?_⟩, fun b1 => k2 ?_⟩
    · show (dy f && btw 1 e 1000) = true; rw [g1, g2]; rfl
    · show (dy f && btw 1 e 1000) = false; rw [b2, Bool.and_false]
    · show (dy f && btw 1 e 1000) = false; rw [b1, Bool.false_and]
end
end K13

namespace K13
open PySem L2
open DG (okW dy btw fe ab TB TEn Sh firsts)
section
variable {P : Program} {w : World} {K : PySem.W.Frag} {mg : Str → Option Value} {base : Heap} {a : Adr}
theorem sc_Every___init : FnScope ["self", "step", "first"] ["self", "step", "first"] (defScope s_Every___init) := ⟨rfl, rfl, rfl, by decide +kernel, rfl, by decide +kernel, by decide +kernel⟩

theorem ok_Every___init (T : Txt K mg a) : FnOk P w K mg base (CXe P w) true 3 a.f_Every___init a.d_Every___init ["self", "step", "first"] (sp_Every_init a.x_Every a.x_NoRule) := by
  refine T.F_Every___init.okE sc_Every___init (fun vs H Q E h => ?_) (fun cdv A outer s H vs Q E hr h => ?_)
  · obtain ⟨x, dx, st, fi, rfl, _⟩ := h; rfl
  · obtain ⟨x, dx, st, fi, rfl, hx, k1, k2⟩ := h
    refine ⟨_, (pss_cons (ps_expr (pe_call ((ok_check_bounds T).mono (by decide)) hr rfl T.m_check_bounds T.F_check_bounds.kp T.b_check_bounds .nil passes_def (pa_cons (pv 1) (pa_cons pe_int (pa_cons (pe_op op_sub (pe_globI rfl T.g_DAYS) pe_int) pa_nil)))))
      (pss_cons (ps_expr (pe_call ((ok_check_day T).mono (by decide)) hr rfl T.m_check_day T.F_check_day.kp T.b_check_day .nil passes_def (pa_cons (pv 2) pa_nil)))
      (pss_cons (ps_fldK (K := K) rfl (pv 0) (pv 1))
      (pss_one (ps_fldK (K := K) rfl (pv 0) (pv 2)))))), ?_⟩
    refine ⟨_, rfl, _, _, rfl, rfl, st, 1, 146096, rfl, fun g1 => ?_, fun b1 => k2 (show (btw 1 st 146096 && dy fi) = false by rw [b1]; rfl)⟩
    refine ⟨_, rfl, fi, rfl, fun g2 => ?_, fun b2 => k2 (show (btw 1 st 146096 && dy fi) = false by rw [b2, Bool.and_false])⟩
    refine ⟨_, rfl, _, rfl, x, _, dx, _, rfl, hx, T.cl_Every, T.n_Every_step, (by show 0 < 1000; decide), ?_⟩
    rw [pf_Every_step]
    refine ⟨_, rfl, _, rfl, x, _, dx, _, rfl, upd_same, T.cl_Every, T.n_Every_first, (by show 1 < 1000; decide), ?_⟩
    rw [pf_Every_first]
    exact k1 (show (btw 1 st 146096 && dy fi) = true by rw [g1, g2]; rfl) _ (fun c u hc e => by rw [upd_ne hc, upd_ne hc]; exact e) upd_same
end
end K13

namespace K13
open PySem L2
open DG (okW dy btw fe ab TB TEn Sh firsts)
section
variable {P : Program} {w : World} {K : PySem.W.Frag} {mg : Str → Option Value} {base : Heap} {a : Adr}
theorem sc_Days___init : FnScope ["self", "days", "day"] ["self", "days"] (defScope s_Days___init) := ⟨rfl, rfl, rfl, by decide +kernel, rfl, by decide +kernel, by decide +kernel⟩

theorem ok_Days___init (T : Txt K mg a) : FnOk P w K mg base (CXe P w) true 3 a.f_Days___init a.d_Days___init ["self", "days"] (sp_Days_init a.x_Days a.x_NoRule) := by
  refine T.F_Days___init.okE sc_Days___init (fun vs H Q E h => ?_) (fun cdv A outer s H vs Q E hr h => ?_)
  · obtain ⟨x, dx, p, ds, rfl, _⟩ := h; rfl
  · obtain ⟨x, dx, p, ds, rfl, hx, hp, hl0, k1, k2⟩ := h
    refine ⟨_, (pss_cons (ps_for PassesOwn.leaving rfl (pi_tupK (K := K) rfl (pv 1)) (pg_name (i := 2) sc_Days___init.nd rfl (Or.inl rfl)) (pss_one (ps_expr (pe_call ((ok_check_day T).mono (by decide)) hr rfl T.m_check_day T.F_check_day.kp T.b_check_day .nil passes_def (pa_cons (pv 2) pa_nil)))))
      (pss_one (ps_fldK (K := K) rfl (pv 0) (pe_callTy (call_tuple_ofK (K := K) rfl) rfl T.n_tuple (by decide +kernel) (pa_cons (pe_callB (call_sortedSF rfl) rfl T.n_sorted (by decide +kernel) (pa_cons (pe_callTy (call_setT rfl) rfl T.n_set (by decide +kernel) (pa_cons (pv 1) pa_nil)) pa_nil)) pa_nil))))), ?_⟩
    refine ⟨_, rfl, p, rfl, ⟨_, SqT.of hp⟩, ?_⟩
    refine for_seq (seq_tup (SqT.of hp)) (fun i σ H' => H' = H ∧ (ds.take i).all dy = true ∧ ∃ y, σ = [some (.ref x), some (.ref p), y]) ⟨rfl, rfl, _, rfl⟩ (fun _ _ _ _ h => h.1 ▸ Same.refl _) ?_ ?_
    · rintro i v σ H1 hv ⟨rfl, hall, y, rfl⟩
      rw [List.getElem?_map] at hv
      obtain ⟨b, hb, rfl⟩ := Option.map_eq_some_iff.mp hv
      refine ⟨_, rfl, b, rfl, fun g => ⟨rfl, ?_, _, rfl⟩, fun bd => k2 (all_no (List.mem_of_getElem? hb) bd)⟩
      rw [take_snoc hb, List.all_append, hall, List.all_cons, g]
      rfl
    rintro σ H1 ⟨rfl, hall, y, rfl⟩
    rw [List.length_map, List.take_length] at hall
    refine ⟨_, rfl, p, ds, rfl, hp, (by omega), fun D qs hD hmem hnd => ?_⟩
    have u1 := same_upd (o := .ext (SetI P w D qs)) hD
    have hq := nd_len hnd fun z hz => (hmem z).mp hz
    refine ⟨D, qs, rfl, upd_same, by omega, fun D2 ms hD2 hpm hlt => ?_⟩
    have u2 := same_upd (o := .lst (ms.map V.int)) hD2
    refine ⟨D2, _, rfl, .inl ⟨SqL.of upd_same, fun d hd => ?_⟩⟩
    have u3 := same_upd (o := .tup (ms.map V.int)) hd
    have U := (u1.trans u2).trans u3
    refine ⟨_, rfl, x, _, dx, _, rfl, U _ _ hx, T.cl_Days, T.n_Days_days, (by show 0 < 1000; decide), ?_⟩
    rw [pf_Days_days]
    exact k1 hall _ _ (fun c u hc e => by rw [upd_ne hc]; exact U _ _ e) upd_same
end
end K13

namespace K13
open PySem L2
open DG (okW dy btw fe ab TB TEn Sh firsts)
section
variable {P : Program} {w : World} {K : PySem.W.Frag} {mg : Str → Option Value} {base : Heap} {a : Adr}
theorem sc_Changed_days_gained : FnScope ["self", "goals"] ["self"] (defScope s_Changed_days_gained) := ⟨rfl, rfl, rfl, by decide +kernel, rfl, by decide +kernel, by decide +kernel⟩

theorem ok_Changed_days_gained (T : Txt K mg a) : FnOk P w K mg base CX0 true 3 a.f_Changed_days_gained a.d_Changed_days_gained ["self"] (sp_Changed_days_gained a.x_Changed a.x_Every) := by
  refine T.F_Changed_days_gained.ok sc_Changed_days_gained (fun vs H Q E h => ?_) (fun cdv A outer s H vs Q E hr h => ?_)
  · obtain ⟨x, dx, r, p, q, o, ls, ms, rs, st, fi, rfl, _⟩ := h; rfl
  · obtain ⟨x, dx, r, p, q, o, ls, ms, rs, st, fi, rfl, hx, hc, k⟩ := h
    refine ⟨_, (pss_cons (ps_setComp (i0 := 1) sc_Changed_days_gained.nd rfl rfl (N := ["day", "goal", "self"]) (cap := [none, none, some 0]) (by show CompScope (defScope s_Changed_days_gained) _ ["self", "goals"] _ _; exact ⟨rfl, by decide +kernel, by decide +kernel, by decide +kernel, by decide +kernel, rfl, by decide +kernel⟩) rfl (pi_tupK (K := K) rfl (pe_fldK (K := K) rfl (pv 0))) (fun C s H fp => ⟨(pg_tupK (K := K) (n := 2) rfl rfl (pgs_cons (pg_name (i := 0) (by show (["day", "goal", "self"] : List Str).Nodup; decide +kernel) rfl (Or.inl rfl) (.inr rfl)) (pgs_cons (pg_name (i := 1) (by show (["day", "goal", "self"] : List Str).Nodup; decide +kernel) rfl (Or.inl rfl) (.inr rfl)) pgs_nil))), (pf_one (PW.pt (pw_and (pt_cmpR (op_notIn_seqK (K := K) rfl) (pv 0) (pe_fldK (K := K) rfl (pv 2)) (by with_unfolding_all rfl)) (pw_and1 (pt_val (pe_methV (n := 1) (D := fun C R => (C = a.x_Every ∧ R = fun x vs H Q => (sp_Every_falls_on a.x_Every) (x :: (vs ++ ([] : List V))) H Q E0)) (pe_fldK (K := K) rfl (pv 2)) (by rintro C R ⟨rfl, rfl⟩ <;> first | exact ⟨T.cl_Every, _, _, _, _, _, _, _, _, _, _, T.me_Every_falls_on, (ok_Every_falls_on T).mono (by decide), hr, T.b_Every_falls_on, .nil, pass0, fun _ _ _ _ _ h => h⟩) (pa_cons (pv 0) pa_nil))))))), (pv 1)⟩))
      (pss_one (ps_ret (pe_callTy (call_tuple_ofK (K := K) rfl) rfl T.n_tuple (by decide +kernel) (pa_cons (pe_callB (call_sortedSF rfl) rfl T.n_sorted (by decide +kernel) (pa_cons (pe_callTy (call_setL rfl) rfl T.n_set (by decide +kernel) (pa_cons (pe_op op_cat (pe_callTy (call_list_ofK (K := K) rfl) rfl T.n_list (by decide +kernel) (pa_cons (pe_fldK (K := K) rfl (pv 0)) pa_nil)) (pv 1)) pa_nil)) pa_nil)) pa_nil))))), ?_⟩
    obtain ⟨⟨dr, hr0⟩, s1, hp, hq, ho, hok, l1, l2, l3⟩ := hc
    refine ⟨_, rfl, x, _, dx, _, _, rfl, hx, T.cl_Changed, T.n_Changed_moved, fl4_moved _ _ _ _, o, rfl, ⟨_, SqT.of ho⟩, ?_⟩
    refine comp_pair (K := K) (seq_tup (SqT.of ho)) hok (fun y => !decide (y.1 ∈ ls) && (dy y.1 && (decide (fi ≤ y.1) && decide ((y.1 - fi) % st = 0)))) (fun y => .int y.2) (by omega) ?_ (fun y hy _ H' _ R hR => ⟨_, rfl, hR H' (Same.refl _)⟩) (fun D H1 u1 hD0 hD => ?_)
    · intro y hy H' sm R hR
      have z := hR H' (Same.refl _)
      refine ⟨_, rfl, _, rfl, x, _, dx, _, _, rfl, sm _ _ hx, T.cl_Changed, T.n_Changed_left, fl4_left _ _ _ _, p, _, rfl, .inr (SqT.of (sm _ _ hp)), rfl, flatI ls, _, rfl, ?_⟩
      show (if (!inV (.int y.2.1) (ls.map V.int)) = true then _ else _)
      rw [inV_ints]
      cases e : decide (y.2.1 ∈ ls) with
      | true => rw [e] at z; exact iteF z
      | false =>
        rw [e] at z
        exact iteT ⟨_, rfl, x, _, dx, _, _, rfl, sm _ _ hx, T.cl_Changed, T.n_Changed_rule, fl4_rule _ _ _ _, r, _, dr, _, _, rfl, sm _ _ hr0, no_falls _ _, ⟨rfl, rfl⟩, _, rfl, rfl, r, dr, _, st, fi, rfl, sm _ _ hr0, s1, _, rfl, z⟩
    generalize hgs : ((sps rs).filter fun y => !decide (y.1 ∈ ls) && (dy y.1 && (decide (fi ≤ y.1) && decide ((y.1 - fi) % st = 0)))) = gs at hD
    have hgl : gs.length ≤ 5 := by
      rw [← hgs]
      refine Nat.le_trans (List.length_filter_le _ _) ?_
      rw [sps_len]
      exact l3
    refine ⟨_, rfl, x, _, dx, _, _, rfl, u1 _ _ hx, T.cl_Changed, T.n_Changed_more, fl4_more _ _ _ _, q, _, rfl, .inr (SqT.of (u1 _ _ hq)), fun l hl => ?_⟩
    have u2 := same_upd (o := .lst (ms.map V.int)) hl
    have hD2 := u2 _ _ hD
    refine ⟨_, rfl, l, D, _, _, rfl, rfl, upd_same, hD2, ?_, fun m hm => ?_⟩
    · rw [List.length_map, List.length_map]
      exact Nat.le_trans (by omega : _ ≤ 10) (by decide)
    have u3 := same_upd (o := .lst (ms.map V.int ++ gs.map fun y => .int y.2)) hm
    have hm3 : (upd (upd H1 l (.lst (ms.map V.int))) m (.lst (ms.map V.int ++ gs.map fun y => .int y.2))) m = some (.lst ((ms ++ gs.map (·.2)).map V.int)) := by
      rw [upd_same, List.map_append, List.map_map]
      rfl
    have hnl : (ms ++ gs.map (·.2)).length ≤ 10 := by rw [List.length_append, List.length_map]; omega
    refine ⟨m, _, rfl, hm3, by omega, fun S qs hS hmem hnd => ?_⟩
    have u4 := same_upd (o := .ext (SetI P w S qs)) hS
    have hql := nd_len hnd fun z hz => (hmem z).mp hz
    refine ⟨S, qs, rfl, upd_same, by omega, fun D2 ns hD20 hpm hlt => ?_⟩
    have u5 := same_upd (o := .lst (ns.map V.int)) hD20
    refine ⟨D2, _, rfl, .inl ⟨SqL.of upd_same, fun d hd => ?_⟩⟩
    exact k d _ (((((u1.trans u2).trans u3).trans u4).trans u5).trans (same_upd hd))
end
end K13

namespace K13
open PySem L2
open DG (okW dy btw fe ab TB TEn Sh firsts)
section
variable {P : Program} {w : World} {K : PySem.W.Frag} {mg : Str → Option Value} {base : Heap} {a : Adr}
theorem sc_law_numbers : FnScope ["_law_cell", "_law_way", "_law_bounds", "_law_found", "_law_spot", "_law_good"] ["_law_cell"] (defScope s_law_numbers) := ⟨rfl, rfl, rfl, by decide +kernel, rfl, by decide +kernel, by decide +kernel⟩

theorem ok_law_numbers (T : Txt K mg a) : FnOk P w K mg base CX0 true 3 a.f_law_numbers a.d_law_numbers ["_law_cell"] (sp_law_numbers) := by
  refine T.F_law_numbers.ok sc_law_numbers (fun vs H Q E h => ?_) (fun cdv A outer s H vs Q E hr h => ?_)
  · obtain ⟨c, rfl, _⟩ := h; rfl
  · obtain ⟨c, rfl, k⟩ := h
    refine ⟨_, (pss_cons (ps_set (i := 1) sc_law_numbers.nd rfl (Or.inl rfl) (pe_op op_mod (pv 0) pe_int))
      (pss_cut (ps_set (i := 2) sc_law_numbers.nd rfl (Or.inl rfl) (pe_lst (pa_cons (pe_lst (pa_cons (pe_tup (pa_lits [.int 1, .int 146096] (by decide +kernel))) (pa_cons (pe_tup (pa_lits [.int 0, .int 146096] (by decide +kernel))) pa_nil))) (pa_cons (pe_lst (pa_cons (pe_tup (pa_lits [.int 1, .int 127] (by decide +kernel))) (pa_cons (pe_tup (pa_lits [.int 0, .int 146096] (by decide +kernel))) (pa_cons (pe_tup (pa_lits [.int 1, .int 1000] (by decide +kernel))) pa_nil)))) (pa_cons (pe_lst (pa_cons (pe_tup (pa_lits [.int 1, .int 31] (by decide +kernel))) (pa_cons (pe_tup (pa_lits [.int 0, .int 146096] (by decide +kernel))) (pa_cons (pe_tup (pa_lits [.int 1, .int 1000] (by decide +kernel))) pa_nil)))) pa_nil)))))
      (pss_cut (ps_set (i := 2) sc_law_numbers.nd rfl (Or.inl rfl) (pe_op op_cat (pv 2) (pe_lst (pa_cons (pe_lst (pa_cons (pe_tup (pa_lits [.int 1, .int 5] (by decide +kernel))) (pa_cons (pe_tup (pa_lits [.int 0, .int 6] (by decide +kernel))) (pa_cons (pe_tup (pa_lits [.int 0, .int 146096] (by decide +kernel))) (pa_cons (pe_tup (pa_lits [.int 1, .int 1000] (by decide +kernel))) pa_nil))))) (pa_cons (pe_lst (pa_cons (pe_tup (pa_lits [.int 1, .int 12] (by decide +kernel))) (pa_cons (pe_tup (pa_lits [.int 1, .int 31] (by decide +kernel))) (pa_cons (pe_tup (pa_lits [.int 0, .int 146096] (by decide +kernel))) (pa_cons (pe_tup (pa_lits [.int 1, .int 1000] (by decide +kernel))) pa_nil))))) pa_nil)))))
      (pss_cut (ps_set (i := 2) sc_law_numbers.nd rfl (Or.inl rfl) (pe_op op_cat (pv 2) (pe_lst (pa_cons (pe_lst (pa_cons (pe_tup (pa_lits [.int 0, .int 146096] (by decide +kernel))) (pa_cons (pe_tup (pa_lits [.int 0, .int 146096] (by decide +kernel))) pa_nil))) (pa_cons (pe_lst (pa_cons (pe_tup (pa_lits [.int (-1000), .int 1000] (by decide +kernel))) pa_nil)) (pa_cons (pe_lst (pa_cons (pe_tup (pa_lits [.int 0, .int 146096] (by decide +kernel))) pa_nil)) (pa_cons (pe_lst (pa_cons (pe_tup (pa_lits [.int 0, .int 146096] (by decide +kernel))) (pa_cons (pe_tup (pa_lits [.int 0, .int 146096] (by decide +kernel))) pa_nil))) pa_nil)))))))
      (pss_cons (ps_setComp (i0 := 3) sc_law_numbers.nd rfl rfl (N := ["_law_pair"]) (cap := [none]) (by show CompScope (defScope s_law_numbers) _ ["_law_cell", "_law_way", "_law_bounds", "_law_found", "_law_spot", "_law_good"] _ _; exact ⟨rfl, by decide +kernel, by decide +kernel, by decide +kernel, by decide +kernel, rfl, by decide +kernel⟩) rfl (pi_listK (K := K) rfl (pe_ix (ix_listK (K := K) rfl) (pv 2) (pv 1) (fun _ _ => rfl))) (fun C s H fp => ⟨(pg_name (i := 0) (by show (["_law_pair"] : List Str).Nodup; decide +kernel) rfl (Or.inl rfl) (.inr rfl)), pf_none, (pe_ix (ix_tupK (K := K) rfl) (pv 0) pe_int (fun _ _ => rfl))⟩))
      (pss_cut (ps_set (i := 4) sc_law_numbers.nd rfl (Or.inl rfl) (pe_op op_mod (pe_op op_fdiv (pv 0) pe_int) (pe_callB (call_len_seqK (K := K) rfl) rfl T.n_len (by decide +kernel) (pa_cons (pv 3) pa_nil))))
      (pss_cons (ps_asg (pe_call ((ok_law_number T).mono (by decide)) hr rfl T.m_law_number T.F_law_number.kp T.b_law_number .nil pass0 (pa_cons (pe_op op_fdiv (pv 0) pe_int) (pa_cons (pe_ix (ix_tupK (K := K) rfl) (pe_ix (ix_listK (K := K) rfl) (pe_ix (ix_listK (K := K) rfl) (pv 2) (pv 1) (fun _ _ => rfl)) (pv 4) (fun _ _ => rfl)) pe_int (fun _ _ => rfl)) (pa_cons (pe_ix (ix_tupK (K := K) rfl) (pe_ix (ix_listK (K := K) rfl) (pe_ix (ix_listK (K := K) rfl) (pv 2) (pv 1) (fun _ _ => rfl)) (pv 4) (fun _ _ => rfl)) pe_int (fun _ _ => rfl)) pa_nil)))) (pg_sub (pv 3) (pv 4) set_list))
      (pss_cut (ps_set (i := 5) sc_law_numbers.nd rfl (Or.inl rfl) (pe_chain op_le op_le (pe_ix (ix_tupK (K := K) rfl) (pe_ix (ix_listK (K := K) rfl) (pe_ix (ix_listK (K := K) rfl) (pv 2) (pv 1) (fun _ _ => rfl)) (pv 4) (fun _ _ => rfl)) pe_int (fun _ _ => rfl)) (pe_ix (ix_listK (K := K) rfl) (pv 3) (pv 4) (fun _ _ => rfl)) (pe_ix (ix_tupK (K := K) rfl) (pe_ix (ix_listK (K := K) rfl) (pe_ix (ix_listK (K := K) rfl) (pv 2) (pv 1) (fun _ _ => rfl)) (pv 4) (fun _ _ => rfl)) pe_int (fun _ _ => rfl))))
      (pss_cut (ps_if (PW.pt (pw_or (PW.pt (pw_and (pt_cmpR op_eq (pv 1) pe_int (nomark _)) (pw_and1 (pt_cmpR op_eq (pv 4) pe_int (nomark _))))) (pw_or1 (PW.pt (pw_and (pt_cmpR op_eq (pv 1) pe_int (nomark _)) (pw_and1 (pt_cmpR op_eq (pv 4) pe_int (nomark _)))))))) (pss_cut (ps_if (pt_cmpR op_eq (pe_op op_mod (pe_op op_fdiv (pv 0) pe_int) pe_int) pe_int (nomark _)) (pss_one (ps_asg (pe_op op_sub pe_int (pe_ix (ix_listK (K := K) rfl) (pv 3) pe_int (fun _ _ => rfl))) (pg_sub (pv 3) pe_int set_list))) pss_nil)
      (pss_one (ps_set (i := 5) sc_law_numbers.nd rfl (Or.inl rfl) (pe_chain op_le op_le pe_int (pe_callB call_abs rfl T.n_abs (by decide +kernel) (pa_cons (pe_ix (ix_listK (K := K) rfl) (pv 3) pe_int (fun _ _ => rfl)) pa_nil)) (pe_ix (ix_listK (K := K) rfl) (pe_lst (pa_lits [.int 0, .int 0, .int 31, .int 5] (by decide +kernel))) (pv 1) (fun _ _ => rfl)))))) pss_nil)
      (pss_cut (ps_if (PW.pt (pw_and (pt_cmpR op_eq (pv 1) pe_int (nomark _)) (pw_and (pt_cmpR op_eq (pv 4) pe_int (nomark _)) (pw_and (pt_val (pv 5)) (pw_and1 (pt_cmpR op_eq (pe_op op_mod (pe_op op_fdiv (pv 0) pe_int) pe_int) pe_int (nomark _))))))) (pss_cut (ps_asg (pe_op op_add pe_int (pe_op op_mod (pe_op op_fdiv (pv 0) pe_int) pe_int)) (pg_sub (pv 3) pe_int set_list))
      (pss_cut (ps_asg (pe_op op_add (pe_call ((ok_law_length T).mono (by decide)) hr rfl T.m_law_length T.F_law_length.kp T.b_law_length .nil pass0 (pa_cons pe_int (pa_cons (pe_ix (ix_listK (K := K) rfl) (pv 3) pe_int (fun _ _ => rfl)) pa_nil))) (pe_op op_mod (pe_op op_fdiv (pv 0) pe_int) pe_int)) (pg_sub (pv 3) pe_int set_list))
      (pss_one (ps_set (i := 5) sc_law_numbers.nd rfl (Or.inl rfl) (pe_cmpR op_le (pe_ix (ix_listK (K := K) rfl) (pv 3) pe_int (fun _ _ => rfl)) (pe_call ((ok_law_length T).mono (by decide)) hr rfl T.m_law_length T.F_law_length.kp T.b_law_length .nil pass0 (pa_cons pe_int (pa_cons (pe_ix (ix_listK (K := K) rfl) (pv 3) pe_int (fun _ _ => rfl)) pa_nil))) (nomark _)))))) pss_nil)
      (pss_one (ps_ret (pe_tup (pa_cons (pv 1) (pa_cons (pv 3) (pa_cons (pv 5) pa_nil)))))))))))))))), ?_⟩
    have w0 : 0 ≤ c % 9 := Int.emod_nonneg _ (by decide)
    have w1 : c % 9 < 9 := Int.emod_lt_of_pos _ (by decide)
    refine ⟨_, rfl, _, _, rfl, rfl, (by show (0 : Int) < 9; decide), ?_⟩
    refine ⟨fun σ' H' => ∃ B ls, Same H H' ∧ RowsAt H' B ls ∧ tbl ls = TB.take 3 ∧ σ' = [some (.int c), some (.int (c % 9)), some (.ref B), none, none, none], ?_, ?_⟩
    · skip
      refine ⟨(by show 2 ≤ sizeLine; decide), fun tA00 htA00 => ?_⟩
      have u1 := same_upd (o := .tup [.int 1, .int 146096]) htA00
      have ftA00 : (upd H tA00 (.tup [.int 1, .int 146096])) tA00 = some (.tup [.int 1, .int 146096]) := upd_same
      generalize upd H tA00 (.tup [.int 1, .int 146096]) = H1 at *
      refine ⟨(by show 2 ≤ sizeLine; decide), fun tA01 htA01 => ?_⟩
      have u2 := same_upd (o := .tup [.int 0, .int 146096]) htA01
      have ftA01 : (upd H1 tA01 (.tup [.int 0, .int 146096])) tA01 = some (.tup [.int 0, .int 146096]) := upd_same
      generalize upd H1 tA01 (.tup [.int 0, .int 146096]) = H2 at *
      refine ⟨(by show 2 ≤ sizeLine; decide), fun lA0 hlA0 => ?_⟩
      have u3 := same_upd (o := .lst [.ref tA00, .ref tA01]) hlA0
      have flA0 : (upd H2 lA0 (.lst [.ref tA00, .ref tA01])) lA0 = some (.lst [.ref tA00, .ref tA01]) := upd_same
      generalize upd H2 lA0 (.lst [.ref tA00, .ref tA01]) = H3 at *
      refine ⟨(by show 2 ≤ sizeLine; decide), fun tA10 htA10 => ?_⟩
      have u4 := same_upd (o := .tup [.int 1, .int 127]) htA10
      have ftA10 : (upd H3 tA10 (.tup [.int 1, .int 127])) tA10 = some (.tup [.int 1, .int 127]) := upd_same
      generalize upd H3 tA10 (.tup [.int 1, .int 127]) = H4 at *
      refine ⟨(by show 2 ≤ sizeLine; decide), fun tA11 htA11 => ?_⟩
      have u5 := same_upd (o := .tup [.int 0, .int 146096]) htA11
      have ftA11 : (upd H4 tA11 (.tup [.int 0, .int 146096])) tA11 = some (.tup [.int 0, .int 146096]) := upd_same
      generalize upd H4 tA11 (.tup [.int 0, .int 146096]) = H5 at *
      refine ⟨(by show 2 ≤ sizeLine; decide), fun tA12 htA12 => ?_⟩
      have u6 := same_upd (o := .tup [.int 1, .int 1000]) htA12
      have ftA12 : (upd H5 tA12 (.tup [.int 1, .int 1000])) tA12 = some (.tup [.int 1, .int 1000]) := upd_same
      generalize upd H5 tA12 (.tup [.int 1, .int 1000]) = H6 at *
      refine ⟨(by show 3 ≤ sizeLine; decide), fun lA1 hlA1 => ?_⟩
      have u7 := same_upd (o := .lst [.ref tA10, .ref tA11, .ref tA12]) hlA1
      have flA1 : (upd H6 lA1 (.lst [.ref tA10, .ref tA11, .ref tA12])) lA1 = some (.lst [.ref tA10, .ref tA11, .ref tA12]) := upd_same
      generalize upd H6 lA1 (.lst [.ref tA10, .ref tA11, .ref tA12]) = H7 at *
      refine ⟨(by show 2 ≤ sizeLine; decide), fun tA20 htA20 => ?_⟩
      have u8 := same_upd (o := .tup [.int 1, .int 31]) htA20
      have ftA20 : (upd H7 tA20 (.tup [.int 1, .int 31])) tA20 = some (.tup [.int 1, .int 31]) := upd_same
      generalize upd H7 tA20 (.tup [.int 1, .int 31]) = H8 at *
      refine ⟨(by show 2 ≤ sizeLine; decide), fun tA21 htA21 => ?_⟩
      have u9 := same_upd (o := .tup [.int 0, .int 146096]) htA21
      have ftA21 : (upd H8 tA21 (.tup [.int 0, .int 146096])) tA21 = some (.tup [.int 0, .int 146096]) := upd_same
      generalize upd H8 tA21 (.tup [.int 0, .int 146096]) = H9 at *
      refine ⟨(by show 2 ≤ sizeLine; decide), fun tA22 htA22 => ?_⟩
      have u10 := same_upd (o := .tup [.int 1, .int 1000]) htA22
      have ftA22 : (upd H9 tA22 (.tup [.int 1, .int 1000])) tA22 = some (.tup [.int 1, .int 1000]) := upd_same
      generalize upd H9 tA22 (.tup [.int 1, .int 1000]) = H10 at *
      refine ⟨(by show 3 ≤ sizeLine; decide), fun lA2 hlA2 => ?_⟩
      have u11 := same_upd (o := .lst [.ref tA20, .ref tA21, .ref tA22]) hlA2
      have flA2 : (upd H10 lA2 (.lst [.ref tA20, .ref tA21, .ref tA22])) lA2 = some (.lst [.ref tA20, .ref tA21, .ref tA22]) := upd_same
      generalize upd H10 lA2 (.lst [.ref tA20, .ref tA21, .ref tA22]) = H11 at *
      refine ⟨(by show 3 ≤ sizeLine; decide), fun oA hoA => ?_⟩
      have u12 := same_upd (o := .lst [.ref lA0, .ref lA1, .ref lA2]) hoA
      have foA : (upd H11 oA (.lst [.ref lA0, .ref lA1, .ref lA2])) oA = some (.lst [.ref lA0, .ref lA1, .ref lA2]) := upd_same
      generalize upd H11 oA (.lst [.ref lA0, .ref lA1, .ref lA2]) = H12 at *
      have v12 := Same.refl H12
      have v11 := u12.trans v12
      have v10 := u11.trans v11
      have v9 := u10.trans v10
      have v8 := u9.trans v9
      have v7 := u8.trans v8
      have v6 := u7.trans v7
      have v5 := u6.trans v6
      have v4 := u5.trans v5
      have v3 := u4.trans v4
      have v2 := u3.trans v3
      have v1 := u2.trans v2
      have rlA0 : RowAt H12 lA0 [(tA00, 1, 146096), (tA01, 0, 146096)] := ⟨v3 _ _ flA0, ((RowOk.nil.app (v1 _ _ ftA00)).app (v2 _ _ ftA01))⟩
      have rlA1 : RowAt H12 lA1 [(tA10, 1, 127), (tA11, 0, 146096), (tA12, 1, 1000)] := ⟨v7 _ _ flA1, (((RowOk.nil.app (v4 _ _ ftA10)).app (v5 _ _ ftA11)).app (v6 _ _ ftA12))⟩
      have rlA2 : RowAt H12 lA2 [(tA20, 1, 31), (tA21, 0, 146096), (tA22, 1, 1000)] := ⟨v11 _ _ flA2, (((RowOk.nil.app (v8 _ _ ftA20)).app (v9 _ _ ftA21)).app (v10 _ _ ftA22))⟩
      have rowsA : RowsAt H12 oA [(lA0, [(tA00, 1, 146096), (tA01, 0, 146096)]), (lA1, [(tA10, 1, 127), (tA11, 0, 146096), (tA12, 1, 1000)]), (lA2, [(tA20, 1, 31), (tA21, 0, 146096), (tA22, 1, 1000)])] := ⟨foA, (rows_app (rows_app (rows_app rows_nil rlA0) rlA1) rlA2)⟩
      have SA : Same H H12 := u1.trans v1
      clear v1 v2 v3 v4 v5 v6 v7 v8 v9 v10 v11 v12
      exact ⟨oA, _, SA, rowsA, rfl, rfl⟩
    rintro σ H1 ⟨B, ls, s1, hB, hT, rfl⟩
    refine ⟨fun σ' H' => ∃ B ls, Same H H' ∧ RowsAt H' B ls ∧ tbl ls = TB.take 5 ∧ σ' = [some (.int c), some (.int (c % 9)), some (.ref B), none, none, none], ?_, ?_⟩
    · refine ⟨_, rfl, ?_⟩
      refine ⟨(by show 2 ≤ sizeLine; decide), fun tB00 htB00 => ?_⟩
      have u2 := same_upd (o := .tup [.int 1, .int 5]) htB00
      have ftB00 : (upd H1 tB00 (.tup [.int 1, .int 5])) tB00 = some (.tup [.int 1, .int 5]) := upd_same
      generalize upd H1 tB00 (.tup [.int 1, .int 5]) = H2 at *
      refine ⟨(by show 2 ≤ sizeLine; decide), fun tB01 htB01 => ?_⟩
      have u3 := same_upd (o := .tup [.int 0, .int 6]) htB01
      have ftB01 : (upd H2 tB01 (.tup [.int 0, .int 6])) tB01 = some (.tup [.int 0, .int 6]) := upd_same
      generalize upd H2 tB01 (.tup [.int 0, .int 6]) = H3 at *
      refine ⟨(by show 2 ≤ sizeLine; decide), fun tB02 htB02 => ?_⟩
      have u4 := same_upd (o := .tup [.int 0, .int 146096]) htB02
      have ftB02 : (upd H3 tB02 (.tup [.int 0, .int 146096])) tB02 = some (.tup [.int 0, .int 146096]) := upd_same
      generalize upd H3 tB02 (.tup [.int 0, .int 146096]) = H4 at *
      refine ⟨(by show 2 ≤ sizeLine; decide), fun tB03 htB03 => ?_⟩
      have u5 := same_upd (o := .tup [.int 1, .int 1000]) htB03
      have ftB03 : (upd H4 tB03 (.tup [.int 1, .int 1000])) tB03 = some (.tup [.int 1, .int 1000]) := upd_same
      generalize upd H4 tB03 (.tup [.int 1, .int 1000]) = H5 at *
      refine ⟨(by show 4 ≤ sizeLine; decide), fun lB0 hlB0 => ?_⟩
      have u6 := same_upd (o := .lst [.ref tB00, .ref tB01, .ref tB02, .ref tB03]) hlB0
      have flB0 : (upd H5 lB0 (.lst [.ref tB00, .ref tB01, .ref tB02, .ref tB03])) lB0 = some (.lst [.ref tB00, .ref tB01, .ref tB02, .ref tB03]) := upd_same
      generalize upd H5 lB0 (.lst [.ref tB00, .ref tB01, .ref tB02, .ref tB03]) = H6 at *
      refine ⟨(by show 2 ≤ sizeLine; decide), fun tB10 htB10 => ?_⟩
      have u7 := same_upd (o := .tup [.int 1, .int 12]) htB10
      have ftB10 : (upd H6 tB10 (.tup [.int 1, .int 12])) tB10 = some (.tup [.int 1, .int 12]) := upd_same
      generalize upd H6 tB10 (.tup [.int 1, .int 12]) = H7 at *
      refine ⟨(by show 2 ≤ sizeLine; decide), fun tB11 htB11 => ?_⟩
      have u8 := same_upd (o := .tup [.int 1, .int 31]) htB11
      have ftB11 : (upd H7 tB11 (.tup [.int 1, .int 31])) tB11 = some (.tup [.int 1, .int 31]) := upd_same
      generalize upd H7 tB11 (.tup [.int 1, .int 31]) = H8 at *
      refine ⟨(by show 2 ≤ sizeLine; decide), fun tB12 htB12 => ?_⟩
      have u9 := same_upd (o := .tup [.int 0, .int 146096]) htB12
      have ftB12 : (upd H8 tB12 (.tup [.int 0, .int 146096])) tB12 = some (.tup [.int 0, .int 146096]) := upd_same
      generalize upd H8 tB12 (.tup [.int 0, .int 146096]) = H9 at *
      refine ⟨(by show 2 ≤ sizeLine; decide), fun tB13 htB13 => ?_⟩
      have u10 := same_upd (o := .tup [.int 1, .int 1000]) htB13
      have ftB13 : (upd H9 tB13 (.tup [.int 1, .int 1000])) tB13 = some (.tup [.int 1, .int 1000]) := upd_same
      generalize upd H9 tB13 (.tup [.int 1, .int 1000]) = H10 at *
      refine ⟨(by show 4 ≤ sizeLine; decide), fun lB1 hlB1 => ?_⟩
      have u11 := same_upd (o := .lst [.ref tB10, .ref tB11, .ref tB12, .ref tB13]) hlB1
      have flB1 : (upd H10 lB1 (.lst [.ref tB10, .ref tB11, .ref tB12, .ref tB13])) lB1 = some (.lst [.ref tB10, .ref tB11, .ref tB12, .ref tB13]) := upd_same
      generalize upd H10 lB1 (.lst [.ref tB10, .ref tB11, .ref tB12, .ref tB13]) = H11 at *
      refine ⟨(by show 2 ≤ sizeLine; decide), fun oB hoB => ?_⟩
      have u12 := same_upd (o := .lst [.ref lB0, .ref lB1]) hoB
      have foB : (upd H11 oB (.lst [.ref lB0, .ref lB1])) oB = some (.lst [.ref lB0, .ref lB1]) := upd_same
      generalize upd H11 oB (.lst [.ref lB0, .ref lB1]) = H12 at *
      have v12 := Same.refl H12
      have v11 := u12.trans v12
      have v10 := u11.trans v11
      have v9 := u10.trans v10
      have v8 := u9.trans v9
      have v7 := u8.trans v8
      have v6 := u7.trans v7
      have v5 := u6.trans v6
      have v4 := u5.trans v5
      have v3 := u4.trans v4
      have v2 := u3.trans v3
      have rlB0 : RowAt H12 lB0 [(tB00, 1, 5), (tB01, 0, 6), (tB02, 0, 146096), (tB03, 1, 1000)] := ⟨v6 _ _ flB0, ((((RowOk.nil.app (v2 _ _ ftB00)).app (v3 _ _ ftB01)).app (v4 _ _ ftB02)).app (v5 _ _ ftB03))⟩
      have rlB1 : RowAt H12 lB1 [(tB10, 1, 12), (tB11, 1, 31), (tB12, 0, 146096), (tB13, 1, 1000)] := ⟨v11 _ _ flB1, ((((RowOk.nil.app (v7 _ _ ftB10)).app (v8 _ _ ftB11)).app (v9 _ _ ftB12)).app (v10 _ _ ftB13))⟩
      have rowsB : RowsAt H12 oB [(lB0, [(tB00, 1, 5), (tB01, 0, 6), (tB02, 0, 146096), (tB03, 1, 1000)]), (lB1, [(tB10, 1, 12), (tB11, 1, 31), (tB12, 0, 146096), (tB13, 1, 1000)])] := ⟨foB, (rows_app (rows_app rows_nil rlB0) rlB1)⟩
      have SB : Same H1 H12 := u2.trans v2
      clear v2 v3 v4 v5 v6 v7 v8 v9 v10 v11 v12
      have hB2 := hB.up SB
      refine ⟨B, oB, _, _, rfl, rfl, hB2.1, rowsB.1, ?_, fun N hN => ?_⟩
      · have := congrArg List.length hT
        unfold tbl at this
        rw [List.length_map] at this
        rw [arefs_len, this]
        show 3 + 2 ≤ sizeLine
        decide
      have uN := same_upd (o := .lst (arefs ls ++ [.ref lB0, .ref lB1])) hN
      exact ⟨N, _, (s1.trans SB).trans uN, ⟨upd_same.trans (congrArg (fun z => some (HO.lst z)) (arefs_two ls _)), (rows_two hB2.2 rowsB.2).up uN⟩, by unfold tbl at hT ⊢; rw [List.map_append, hT]; rfl, rfl⟩
    rintro σ H1 ⟨B, ls, s1, hB, hT, rfl⟩
    refine ⟨fun σ' H' => ∃ B ls, Same H H' ∧ RowsAt H' B ls ∧ tbl ls = TB.take 9 ∧ σ' = [some (.int c), some (.int (c % 9)), some (.ref B), none, none, none], ?_, ?_⟩
    · refine ⟨_, rfl, ?_⟩
      refine ⟨(by show 2 ≤ sizeLine; decide), fun tC00 htC00 => ?_⟩
      have u2 := same_upd (o := .tup [.int 0, .int 146096]) htC00
      have ftC00 : (upd H1 tC00 (.tup [.int 0, .int 146096])) tC00 = some (.tup [.int 0, .int 146096]) := upd_same
      generalize upd H1 tC00 (.tup [.int 0, .int 146096]) = H2 at *
      refine ⟨(by show 2 ≤ sizeLine; decide), fun tC01 htC01 => ?_⟩
      have u3 := same_upd (o := .tup [.int 0, .int 146096]) htC01
      have ftC01 : (upd H2 tC01 (.tup [.int 0, .int 146096])) tC01 = some (.tup [.int 0, .int 146096]) := upd_same
      generalize upd H2 tC01 (.tup [.int 0, .int 146096]) = H3 at *
      refine ⟨(by show 2 ≤ sizeLine; decide), fun lC0 hlC0 => ?_⟩
      have u4 := same_upd (o := .lst [.ref tC00, .ref tC01]) hlC0
      have flC0 : (upd H3 lC0 (.lst [.ref tC00, .ref tC01])) lC0 = some (.lst [.ref tC00, .ref tC01]) := upd_same
      generalize upd H3 lC0 (.lst [.ref tC00, .ref tC01]) = H4 at *
      refine ⟨(by show 2 ≤ sizeLine; decide), fun tC10 htC10 => ?_⟩
      have u5 := same_upd (o := .tup [.int (-1000), .int 1000]) htC10
      have ftC10 : (upd H4 tC10 (.tup [.int (-1000), .int 1000])) tC10 = some (.tup [.int (-1000), .int 1000]) := upd_same
      generalize upd H4 tC10 (.tup [.int (-1000), .int 1000]) = H5 at *
      refine ⟨(by show 1 ≤ sizeLine; decide), fun lC1 hlC1 => ?_⟩
      have u6 := same_upd (o := .lst [.ref tC10]) hlC1
      have flC1 : (upd H5 lC1 (.lst [.ref tC10])) lC1 = some (.lst [.ref tC10]) := upd_same
      generalize upd H5 lC1 (.lst [.ref tC10]) = H6 at *
      refine ⟨(by show 2 ≤ sizeLine; decide), fun tC20 htC20 => ?_⟩
      have u7 := same_upd (o := .tup [.int 0, .int 146096]) htC20
      have ftC20 : (upd H6 tC20 (.tup [.int 0, .int 146096])) tC20 = some (.tup [.int 0, .int 146096]) := upd_same
      generalize upd H6 tC20 (.tup [.int 0, .int 146096]) = H7 at *
      refine ⟨(by show 1 ≤ sizeLine; decide), fun lC2 hlC2 => ?_⟩
      have u8 := same_upd (o := .lst [.ref tC20]) hlC2
      have flC2 : (upd H7 lC2 (.lst [.ref tC20])) lC2 = some (.lst [.ref tC20]) := upd_same
      generalize upd H7 lC2 (.lst [.ref tC20]) = H8 at *
      refine ⟨(by show 2 ≤ sizeLine; decide), fun tC30 htC30 => ?_⟩
      have u9 := same_upd (o := .tup [.int 0, .int 146096]) htC30
      have ftC30 : (upd H8 tC30 (.tup [.int 0, .int 146096])) tC30 = some (.tup [.int 0, .int 146096]) := upd_same
      generalize upd H8 tC30 (.tup [.int 0, .int 146096]) = H9 at *
      refine ⟨(by show 2 ≤ sizeLine; decide), fun tC31 htC31 => ?_⟩
      have u10 := same_upd (o := .tup [.int 0, .int 146096]) htC31
      have ftC31 : (upd H9 tC31 (.tup [.int 0, .int 146096])) tC31 = some (.tup [.int 0, .int 146096]) := upd_same
      generalize upd H9 tC31 (.tup [.int 0, .int 146096]) = H10 at *
      refine ⟨(by show 2 ≤ sizeLine; decide), fun lC3 hlC3 => ?_⟩
      have u11 := same_upd (o := .lst [.ref tC30, .ref tC31]) hlC3
      have flC3 : (upd H10 lC3 (.lst [.ref tC30, .ref tC31])) lC3 = some (.lst [.ref tC30, .ref tC31]) := upd_same
      generalize upd H10 lC3 (.lst [.ref tC30, .ref tC31]) = H11 at *
      refine ⟨(by show 4 ≤ sizeLine; decide), fun oC hoC => ?_⟩
      have u12 := same_upd (o := .lst [.ref lC0, .ref lC1, .ref lC2, .ref lC3]) hoC
      have foC : (upd H11 oC (.lst [.ref lC0, .ref lC1, .ref lC2, .ref lC3])) oC = some (.lst [.ref lC0, .ref lC1, .ref lC2, .ref lC3]) := upd_same
      generalize upd H11 oC (.lst [.ref lC0, .ref lC1, .ref lC2, .ref lC3]) = H12 at *
      have v12 := Same.refl H12
      have v11 := u12.trans v12
      have v10 := u11.trans v11
      have v9 := u10.trans v10
      have v8 := u9.trans v9
      have v7 := u8.trans v8
      have v6 := u7.trans v7
      have v5 := u6.trans v6
      have v4 := u5.trans v5
      have v3 := u4.trans v4
      have v2 := u3.trans v3
      have rlC0 : RowAt H12 lC0 [(tC00, 0, 146096), (tC01, 0, 146096)] := ⟨v4 _ _ flC0, ((RowOk.nil.app (v2 _ _ ftC00)).app (v3 _ _ ftC01))⟩
      have rlC1 : RowAt H12 lC1 [(tC10, (-1000), 1000)] := ⟨v6 _ _ flC1, (RowOk.nil.app (v5 _ _ ftC10))⟩
      have rlC2 : RowAt H12 lC2 [(tC20, 0, 146096)] := ⟨v8 _ _ flC2, (RowOk.nil.app (v7 _ _ ftC20))⟩
      have rlC3 : RowAt H12 lC3 [(tC30, 0, 146096), (tC31, 0, 146096)] := ⟨v11 _ _ flC3, ((RowOk.nil.app (v9 _ _ ftC30)).app (v10 _ _ ftC31))⟩
      have rowsC : RowsAt H12 oC [(lC0, [(tC00, 0, 146096), (tC01, 0, 146096)]), (lC1, [(tC10, (-1000), 1000)]), (lC2, [(tC20, 0, 146096)]), (lC3, [(tC30, 0, 146096), (tC31, 0, 146096)])] := ⟨foC, (rows_app (rows_app (rows_app (rows_app rows_nil rlC0) rlC1) rlC2) rlC3)⟩
      have SC : Same H1 H12 := u2.trans v2
      clear v2 v3 v4 v5 v6 v7 v8 v9 v10 v11 v12
      have hB2 := hB.up SC
      refine ⟨B, oC, _, _, rfl, rfl, hB2.1, rowsC.1, ?_, fun N hN => ?_⟩
      · have := congrArg List.length hT
        unfold tbl at this
        rw [List.length_map] at this
        rw [arefs_len, this]
        show 5 + 4 ≤ sizeLine
        decide
      have uN := same_upd (o := .lst (arefs ls ++ [.ref lC0, .ref lC1, .ref lC2, .ref lC3])) hN
      exact ⟨N, _, (s1.trans SC).trans uN, ⟨upd_same.trans (congrArg (fun z => some (HO.lst z)) (arefs_two ls _)), (rows_two hB2.2 rowsC.2).up uN⟩, by unfold tbl at hT ⊢; rw [List.map_append, hT]; rfl, rfl⟩
    rintro σ H1 ⟨B, ls, s1, hB, hT, rfl⟩
    obtain ⟨la, hla, hrow⟩ := tbl_get (n := (c % 9).toNat) hT (by show _ < 9; omega)
    have hrow2 : sps la.2 = TB.getD (c % 9).toNat [] := hrow
    have hlr : RowAt H1 la.1 la.2 := hB.2 la (List.mem_of_getElem? hla)
    have hA : atI (arefs ls) (c % 9) = some (.ref la.1) := atI_of w0 (arefs_at hla)
    have hw9 : (c % 9).toNat < 9 := by omega
    have wN : (((c % 9).toNat : Nat) : Int) = c % 9 := Int.toNat_of_nonneg w0
    obtain ⟨tp, tq⟩ := tb_pos hw9
    have hll : la.2.length = (TB.getD (c % 9).toNat []).length := by rw [← hrow2, sps_len]
    have fin : ∀ s v, s < (TB.getD (c % 9).toNat []).length → ¬ (((c % 9).toNat = 2 ∨ (c % 9).toNat = 3) ∧ s = 0) → okW (c % 9) ((firsts (TB.getD (c % 9).toNat [])).set s v) = btw ((TB.getD (c % 9).toNat []).getD s (0, 0)).1 v ((TB.getD (c % 9).toNat []).getD s (0, 0)).2 := fun s v hs h2 => by
      have := DG.ok_spot hw9 hs v h2
      rwa [wN] at this
    refine ⟨_, rfl, _, rfl, B, _, _, _, rfl, rfl, SqL.of (hB.1), hA, la.1, rfl, ⟨_, SqL.of hlr.1⟩, ?_⟩
    refine comp_row (seq_list (K := K) (SqL.of hlr.1)) hlr.2 (fun _ => true) (fun y => .int y.1) (by omega) (fun y _ H' _ R hR => hR H' (Same.refl _)) (fun y hy _ H' sm R hR => ⟨_, rfl, y.1, _, _, _, rfl, rfl, SqT.of (sm _ _ (hlr.2 y hy)), rfl, hR H' (Same.refl _)⟩) (fun D H2 s2 hD0 hD => ?_)
    have hD2 : H2 D = some (.lst ((firsts (TB.getD (c % 9).toNat [])).map V.int)) := by
      rw [hD, List.filter_eq_self.mpr (fun _ _ => rfl), hrow2]
      unfold firsts
      rw [List.map_map]
      rfl
    have fl0 : (firsts (TB.getD (c % 9).toNat [])).length = (TB.getD (c % 9).toNat []).length := by unfold firsts; rw [List.length_map]
    have hlen : ((((firsts (TB.getD (c % 9).toNat [])).map V.int).length : Nat) : Int) = (la.2.length : Int) := by rw [List.length_map, fl0, hll]
    clear hD
    refine ⟨fun σ' H' => H2 = H' ∧ ∃ sp : Int, 0 ≤ sp ∧ sp < la.2.length ∧ σ' = [some (.int c), some (.int (c % 9)), some (.ref B), some (.ref D), some (.int sp), none], ?_, ?_⟩
    · refine ⟨_, rfl, _, _, rfl, rfl, ⟨by decide, by decide⟩, _, rfl, D, _, rfl, .inl (SqL.of hD2), _, _, rfl, rfl, ?_, ?_⟩
      · show (0 : Int) < _
        rw [hlen]
        omega
      rw [hlen]
      exact ⟨rfl, _, Int.emod_nonneg _ (by omega), Int.emod_lt_of_pos _ (by omega), rfl⟩
    rintro σ _ ⟨rfl, sp, p0, p1, rfl⟩
    have hsN : sp.toNat < la.2.length := by omega
    obtain ⟨y, hy, hym, hyv⟩ := row_get (rs := la.2) (n := sp.toNat) (by rw [sps_len]; exact hsN)
    rw [hrow2] at hyv
    have hY : atI (refs la.2) sp = some (.ref y.1) := atI_of p0 (by unfold refs; rw [List.getElem?_map, hy]; rfl)
    have hB2 := hB.up s2
    have hl2 := hlr.up s2
    have hy2 := hl2.2 y hym
    have nD : ∀ {b : Addr} {o : HO}, H1 b = some o → b ≠ D := fun e => ne_of_none e hD0
    refine ⟨_, rfl, _, _, rfl, rfl, ⟨by decide, by decide⟩, _, rfl, _, rfl, B, _, _, _, rfl, rfl, SqL.of (hB2.1), hA, _, rfl, la.1, _, _, _, rfl, rfl, SqL.of (hl2.1), hY, y.1, _, _, _, rfl, rfl, SqT.of (hy2), rfl, _, rfl, _, rfl, B, _, _, _, rfl, rfl, SqL.of (hB2.1), hA, _, rfl, la.1, _, _, _, rfl, rfl, SqL.of (hl2.1), hY, y.1, _, _, _, rfl, rfl, SqT.of (hy2), rfl, _, _, _, rfl, fun v H3 s3 => ?_⟩
    have hix : ixN ((firsts (TB.getD (c % 9).toNat [])).map V.int).length sp = some sp.toNat := ixN_of p0 (by rw [hlen]; exact p1)
    refine ⟨_, rfl, _, rfl, D, _, _, sp.toNat, rfl, rfl, s3 _ _ hD2, hix, ?_⟩
    rw [set_map]
    have S4 : Same H1 (upd H3 D (.lst (((firsts (TB.getD (c % 9).toNat [])).set sp.toNat v).map V.int))) := fun b o e => by rw [upd_ne (nD e)]; exact s3 _ _ (s2 _ _ e)
    have hD4 : (upd H3 D (.lst (((firsts (TB.getD (c % 9).toNat [])).set sp.toNat v).map V.int))) D = some (.lst (((firsts (TB.getD (c % 9).toNat [])).set sp.toNat v).map V.int)) := upd_same
    generalize upd H3 D (.lst (((firsts (TB.getD (c % 9).toNat [])).set sp.toNat v).map V.int)) = H4 at *
    have hB4 := hB.up S4
    have hl4 := hlr.up S4
    have hy4 := hl4.2 y hym
    have hV : atI (((firsts (TB.getD (c % 9).toNat [])).set sp.toNat v).map V.int) sp = some (.int v) := atI_of p0 (set_at (by rw [fl0, ← hll]; exact hsN))
    refine ⟨fun σ' H' => H4 = H' ∧ σ' = [some (.int c), some (.int (c % 9)), some (.ref B), some (.ref D), some (.int sp), some (.bl (btw y.2.1 v y.2.2))], ?_, ?_⟩
    · refine ⟨_, rfl, _, rfl, B, _, _, _, rfl, rfl, SqL.of (hB4.1), hA, _, rfl, la.1, _, _, _, rfl, rfl, SqL.of (hl4.1), hY, y.1, _, _, _, rfl, rfl, SqT.of (hy4), rfl, _, rfl, _, rfl, D, _, _, _, rfl, rfl, SqL.of hD4, hV, _, _, rfl, rfl, _, rfl, ite2 (fun z => ?_) (fun z => ?_)⟩
      · have z' : y.2.1 ≤ v := of_decide_eq_true z
        refine ⟨_, rfl, _, rfl, B, _, _, _, rfl, rfl, SqL.of (hB4.1), hA, _, rfl, la.1, _, _, _, rfl, rfl, SqL.of (hl4.1), hY, y.1, _, _, _, rfl, rfl, SqT.of (hy4), rfl, _, _, rfl, rfl, rfl, ?_⟩
        rw [show btw y.2.1 v y.2.2 = decide (v ≤ y.2.2) from decide_eq_decide.mpr ⟨fun q => q.2, fun q => ⟨z', q⟩⟩]
        rfl
      · rw [show btw y.2.1 v y.2.2 = false from decide_eq_false fun q => z (decide_eq_true q.1)]
        exact ⟨rfl, rfl⟩
    rintro σ _ ⟨rfl, rfl⟩
    have fsp := fin sp.toNat v (by rw [← hll]; exact hsN)
    rw [← hyv] at fsp
    generalize hns : (firsts (TB.getD (c % 9).toNat [])).set sp.toNat v = ns at *
    have sh0 : Sh (c % 9) ns := by rw [← hns]; exact sh_set w0 w1
    clear fin hV hY hA
    refine ⟨fun σ' H' => ∃ ns2 : List Int, Same H1 H' ∧ H' D = some (.lst (ns2.map V.int)) ∧ Sh (c % 9) ns2 ∧ (c % 9 = 4 → sp = 1 → ns2 = [1, v, 0, 1]) ∧ σ' = [some (.int c), some (.int (c % 9)), some (.ref B), some (.ref D), some (.int sp), some (.bl (okW (c % 9) ns2))], ?_, ?_⟩
    · have skip : ¬ ((c % 9 = 2 ∨ c % 9 = 3) ∧ sp = 0) → ∃ ns2 : List Int, Same H1 H4 ∧ H4 D = some (.lst (ns2.map V.int)) ∧ Sh (c % 9) ns2 ∧ (c % 9 = 4 → sp = 1 → ns2 = [1, v, 0, 1]) ∧ [some (V.int c), some (.int (c % 9)), some (.ref B), some (.ref D), some (.int sp), some (.bl (btw y.2.1 v y.2.2))] = [some (.int c), some (.int (c % 9)), some (.ref B), some (.ref D), some (.int sp), some (.bl (okW (c % 9) ns2))] := fun h => by
        refine ⟨ns, S4, hD4, sh0, fun e4 e1 => ?_, ?_⟩
        · rw [← hns, e1, show (c % 9).toNat = 4 by omega]
          rfl
        · rw [fsp (fun w => h (by omega))]
      by_cases e2 : c % 9 = 2
      · refine ⟨_, rfl, rfl, _, rfl, ite2 (fun _ => ?_) (fun z => absurd (decide_eq_true (by rw [e2])) z)⟩
        by_cases e0 : sp = 0
        · refine ⟨_, rfl, rfl, _, rfl, ite2 (fun _ => iteT ?_) (fun z => absurd (decide_eq_true (by rw [e0])) z)⟩
          have ens : ns = [v, 0, 1] := by rw [← hns, e0, show (c % 9).toNat = 2 by omega]; rfl
          subst ens
          refine ⟨fun σ' H' => ∃ x : Int, Same H1 H' ∧ H' D = some (.lst (([x, 0, 1] : List Int).map V.int)) ∧ ∃ g, σ' = [some (.int c), some (.int (c % 9)), some (.ref B), some (.ref D), some (.int sp), some (.bl g)], ?_, ?_⟩
          · refine ⟨_, rfl, _, _, rfl, rfl, ⟨by decide, by decide⟩, _, _, rfl, rfl, (by show (0 : Int) < 2; decide), rfl, _, rfl, ite2 (fun _ => ?_) (fun _ => ⟨v, S4, hD4, _, rfl⟩)⟩
            exact ⟨_, rfl, D, _, _, _, rfl, rfl, SqL.of hD4, rfl, _, _, rfl, rfl, _, rfl, D, _, _, 0, rfl, rfl, hD4, rfl, 0 - v, (fun b o e => by rw [upd_ne (nD e)]; exact S4 _ _ e), upd_same, _, rfl⟩
          rintro σ H5 ⟨x, S5, hD5, g, rfl⟩
          refine ⟨_, rfl, D, _, _, _, rfl, rfl, SqL.of hD5, rfl, _, rfl, _, _, rfl, rfl, _, rfl, ite2 (fun z => ?_) (fun z => ?_)⟩
          · have z' : 1 ≤ ab x := of_decide_eq_true z
            refine ⟨(by show 4 ≤ sizeLine; decide), fun Lm hLm => ?_⟩
            have uL := same_upd (o := .lst [.int 0, .int 0, .int 31, .int 5]) hLm
            refine ⟨_, rfl, Lm, _, _, .int 31, rfl, rfl, SqL.of upd_same, (by rw [e2]; rfl), _, _, rfl, rfl, [x, 0, 1], S5.trans uL, uL _ _ hD5, ⟨w0, w1, by rw [e2]; rfl⟩, (fun q => by omega), ?_⟩
            rw [e2, DG.ok_2, show btw 1 (ab x) 31 = decide (ab x ≤ 31) from decide_eq_decide.mpr ⟨fun q => q.2, fun q => ⟨z', q⟩⟩]
            rfl
          · refine ⟨[x, 0, 1], S5, hD5, ⟨w0, w1, by rw [e2]; rfl⟩, (fun q => by omega), ?_⟩
            rw [e2, DG.ok_2, show btw 1 (ab x) 31 = false from decide_eq_false fun q => z (decide_eq_true q.1)]
            rfl
        · refine ⟨_, rfl, rfl, _, rfl, ite2 (fun z => absurd (V.int.inj (of_decide_eq_true z)) e0) (fun _ => ?_)⟩
          refine ⟨_, rfl, rfl, _, rfl, ite2 (fun z => absurd (V.int.inj (of_decide_eq_true z)) (by omega)) (fun _ => iteF ?_)⟩
          exact skip fun w => e0 w.2
      · refine ⟨_, rfl, rfl, _, rfl, ite2 (fun z => absurd (V.int.inj (of_decide_eq_true z)) e2) (fun _ => iteF ?_)⟩
        by_cases e3 : c % 9 = 3
        · refine ⟨_, rfl, rfl, _, rfl, ite2 (fun _ => ?_) (fun z => absurd (decide_eq_true (by rw [e3])) z)⟩
          by_cases e0 : sp = 0
          · refine ⟨_, rfl, rfl, _, rfl, ite2 (fun _ => ?_) (fun z => absurd (decide_eq_true (by rw [e0])) z)⟩
            have ens : ns = [v, 0, 0, 1] := by rw [← hns, e0, show (c % 9).toNat = 3 by omega]; rfl
            subst ens
            refine ⟨fun σ' H' => ∃ x : Int, Same H1 H' ∧ H' D = some (.lst (([x, 0, 0, 1] : List Int).map V.int)) ∧ ∃ g, σ' = [some (.int c), some (.int (c % 9)), some (.ref B), some (.ref D), some (.int sp), some (.bl g)], ?_, ?_⟩
            · refine ⟨_, rfl, _, _, rfl, rfl, ⟨by decide, by decide⟩, _, _, rfl, rfl, (by show (0 : Int) < 2; decide), rfl, _, rfl, ite2 (fun _ => ?_) (fun _ => ⟨v, S4, hD4, _, rfl⟩)⟩
              exact ⟨_, rfl, D, _, _, _, rfl, rfl, SqL.of hD4, rfl, _, _, rfl, rfl, _, rfl, D, _, _, 0, rfl, rfl, hD4, rfl, 0 - v, (fun b o e => by rw [upd_ne (nD e)]; exact S4 _ _ e), upd_same, _, rfl⟩
            rintro σ H5 ⟨x, S5, hD5, g, rfl⟩
            refine ⟨_, rfl, D, _, _, _, rfl, rfl, SqL.of hD5, rfl, _, rfl, _, _, rfl, rfl, _, rfl, ite2 (fun z => ?_) (fun z => ?_)⟩
            · have z' : 1 ≤ ab x := of_decide_eq_true z
              refine ⟨(by show 4 ≤ sizeLine; decide), fun Lm hLm => ?_⟩
              have uL := same_upd (o := .lst [.int 0, .int 0, .int 31, .int 5]) hLm
              refine ⟨_, rfl, Lm, _, _, .int 5, rfl, rfl, SqL.of upd_same, (by rw [e3]; rfl), _, _, rfl, rfl, [x, 0, 0, 1], S5.trans uL, uL _ _ hD5, ⟨w0, w1, by rw [e3]; rfl⟩, (fun q => by omega), ?_⟩
              rw [e3, DG.ok_3, show btw 1 (ab x) 5 = decide (ab x ≤ 5) from decide_eq_decide.mpr ⟨fun q => q.2, fun q => ⟨z', q⟩⟩]
              rfl
            · refine ⟨[x, 0, 0, 1], S5, hD5, ⟨w0, w1, by rw [e3]; rfl⟩, (fun q => by omega), ?_⟩
              rw [e3, DG.ok_3, show btw 1 (ab x) 5 = false from decide_eq_false fun q => z (decide_eq_true q.1)]
              rfl
          · refine ⟨_, rfl, rfl, _, rfl, ite2 (fun z => absurd (V.int.inj (of_decide_eq_true z)) e0) (fun _ => ?_)⟩
            exact skip fun w => e0 w.2
        · refine ⟨_, rfl, rfl, _, rfl, ite2 (fun z => absurd (V.int.inj (of_decide_eq_true z)) e3) (fun _ => iteF ?_)⟩
          exact skip fun w => w.1.elim e2 e3
    rintro σ H5 ⟨ns2, S5, hD5, sh5, h41, rfl⟩
    refine ⟨fun σ' H' => ∃ ns3 : List Int, Same H1 H' ∧ H' D = some (.lst (ns3.map V.int)) ∧ Sh (c % 9) ns3 ∧ σ' = [some (.int c), some (.int (c % 9)), some (.ref B), some (.ref D), some (.int sp), some (.bl (okW (c % 9) ns3))], ?_, ?_⟩
    · refine ⟨_, rfl, rfl, _, rfl, ite2 (fun z => ?_) (fun _ => iteF ⟨ns2, S5, hD5, sh5, rfl⟩)⟩
      have z4 : c % 9 = 4 := V.int.inj (of_decide_eq_true z)
      refine ⟨_, rfl, rfl, _, rfl, ite2 (fun z => ?_) (fun _ => iteF ⟨ns2, S5, hD5, sh5, rfl⟩)⟩
      have z1 : sp = 1 := V.int.inj (of_decide_eq_true z)
      obtain rfl := h41 z4 z1
      refine ⟨_, rfl, _, rfl, ite2 (fun _ => ?_) (fun _ => iteF ⟨_, S5, hD5, sh5, rfl⟩)⟩
      refine ⟨_, rfl, _, _, rfl, rfl, ⟨by decide, by decide⟩, _, _, rfl, rfl, (by show (0 : Int) < 2; decide), rfl, _, rfl, ite2 (fun _ => ?_) (fun _ => ⟨_, S5, hD5, sh5, rfl⟩)⟩
      have m0 : 0 ≤ c / 810 % 12 := Int.emod_nonneg _ (by decide)
      have m1 : c / 810 % 12 < 12 := Int.emod_lt_of_pos _ (by decide)
      have t0 : 0 ≤ c / 9720 % 2 := Int.emod_nonneg _ (by decide)
      refine ⟨fun σ' H' => ∃ m : Int, 1 ≤ m ∧ m ≤ 12 ∧ Same H1 H' ∧ H' D = some (.lst (([m, v, 0, 1] : List Int).map V.int)) ∧ σ' = [some (.int c), some (.int (c % 9)), some (.ref B), some (.ref D), some (.int sp), some (.bl (okW (c % 9) [1, v, 0, 1]))], ?_, ?_⟩
      · exact ⟨_, rfl, _, _, rfl, rfl, ⟨by decide, by decide⟩, _, _, rfl, rfl, (by show (0 : Int) < 12; decide), _, _, rfl, rfl, _, rfl, D, _, _, 0, rfl, rfl, hD5, rfl, 1 + c / 810 % 12, by omega, by omega, (fun b o e => by rw [upd_ne (nD e)]; exact S5 _ _ e), upd_same, rfl⟩
      rintro σ H6 ⟨m, mm0, mm1, S6, hD6, rfl⟩
      refine ⟨fun σ' H' => ∃ t : Int, 0 ≤ t ∧ Same H1 H' ∧ H' D = some (.lst (([m, DM.len 2000 m + t, 0, 1] : List Int).map V.int)) ∧ σ' = [some (.int c), some (.int (c % 9)), some (.ref B), some (.ref D), some (.int sp), some (.bl (okW (c % 9) [1, v, 0, 1]))], ?_, ?_⟩
      · refine ⟨_, rfl, D, _, _, _, rfl, rfl, SqL.of hD6, rfl, 2000, m, rfl, fun H7 s7 => ?_⟩
        exact ⟨_, rfl, _, _, rfl, rfl, ⟨by decide, by decide⟩, _, _, rfl, rfl, (by show (0 : Int) < 2; decide), _, _, rfl, rfl, _, rfl, D, _, _, 1, rfl, rfl, s7 _ _ hD6, rfl, c / 9720 % 2, t0, (fun b o e => by rw [upd_ne (nD e)]; exact s7 _ _ (S6 _ _ e)), upd_same, rfl⟩
      rintro σ H7 ⟨t, tt0, S7, hD7, rfl⟩
      refine ⟨_, rfl, D, _, _, _, rfl, rfl, SqL.of hD7, rfl, _, rfl, D, _, _, _, rfl, rfl, SqL.of hD7, rfl, 2000, m, rfl, fun H9 s9 => ?_⟩
      refine ⟨_, _, rfl, rfl, [m, DM.len 2000 m + t, 0, 1], S7.trans s9, s9 _ _ hD7, ⟨w0, w1, by rw [z4]; rfl⟩, ?_⟩
      rw [z4, DG.ok_4 mm0 mm1 tt0]
      rfl
    rintro σ H6 ⟨ns3, S6, hD6, sh6, rfl⟩
    refine ⟨_, rfl, _, rfl, _, rfl, (by show 3 ≤ sizeLine; decide), fun p hp => ?_⟩
    exact k p D _ ns3 _ ((s1.trans S6).trans (same_upd hp)) upd_same (same_upd hp _ _ hD6) sh6
end
end K13

namespace K13
open PySem L2
open DG (okW dy btw fe ab TB TEn Sh firsts)
section
variable {P : Program} {w : World} {K : PySem.W.Frag} {mg : Str → Option Value} {base : Heap} {a : Adr}
theorem sc_date_of : FnScope ["day", "number"] ["day"] (defScope s_date_of) := ⟨rfl, rfl, rfl, by decide +kernel, rfl, by decide +kernel, by decide +kernel⟩

theorem ok_date_of (T : Txt K mg a) : FnOk P w K mg base CX0 true 4 a.f_date_of a.d_date_of ["day"] (sp_date_of) := by
  refine T.F_date_of.ok sc_date_of (fun vs H Q E h => ?_) (fun cdv A outer s H vs Q E hr h => ?_)
  · obtain ⟨d, rfl, _⟩ := h; rfl
  · obtain ⟨d, rfl, h0, h1, k⟩ := h
    refine ⟨_, (pss_cons (ps_if (pt_not (pt_val (pe_call ((ok_is_day T).mono (by decide)) hr rfl T.m_is_day T.F_is_day.kp T.b_is_day .nil pass0 (pa_cons (pv 0) pa_nil)))) (pss_one ps_never) pss_nil)
      (pss_cons (ps_set (i := 1) sc_date_of.nd rfl (Or.inl rfl) (pe_call ((ok_month_of T).mono (by decide)) hr rfl T.m_month_of T.F_month_of.kp T.b_month_of .nil pass0 (pa_cons (pv 0) pa_nil)))
      (pss_one (ps_ret (pe_tup (pa_cons (pe_op op_add (pe_globI rfl T.g_FIRST_YEAR) (pe_op op_fdiv (pv 1) pe_int)) (pa_cons (pe_op op_add (pe_op op_mod (pv 1) pe_int) pe_int) (pa_cons (pe_op op_add (pe_op op_sub (pv 0) (pe_call ((ok_month_begin T).mono (by decide)) hr rfl T.m_month_begin T.F_month_begin.kp T.b_month_begin .nil pass0 (pa_cons (pv 1) pa_nil))) pe_int) pa_nil)))))))), ?_⟩
    refine ⟨_, rfl, d, rfl, _, rfl, ?_⟩
    refine iteNS ⟨h0, h1⟩ ?_
    refine ⟨_, rfl, _, rfl, ?_⟩
    exact ⟨_, rfl, _, _, rfl, rfl, ⟨by decide, by decide⟩, _, _, rfl, rfl, _, rfl, _, _, rfl, rfl, (by show (0 : Int) < 12; decide), _, _, rfl, rfl, _, rfl, _, rfl, _, rfl, _, _, rfl, rfl, _, _, rfl, rfl, (by show 3 ≤ sizeLine; decide), fun p hp => k p _ (same_upd hp) hp upd_same⟩
end
end K13

namespace K13
open PySem L2
open DG (okW dy btw fe ab TB TEn Sh firsts)
section
variable {P : Program} {w : World} {K : PySem.W.Frag} {mg : Str → Option Value} {base : Heap} {a : Adr}
theorem sc_Weekly___init : FnScope ["self", "mask", "first", "every"] ["self", "mask", "first", "every"] (defScope s_Weekly___init) := ⟨rfl, rfl, rfl, by decide +kernel, rfl, by decide +kernel, by decide +kernel⟩

theorem ok_Weekly___init (T : Txt K mg a) : FnOk P w K mg base (CXe P w) true 4 a.f_Weekly___init a.d_Weekly___init ["self", "mask", "first", "every"] (IniW a.x_Weekly a.x_NoRule 1 3) := by
  refine T.F_Weekly___init.okE sc_Weekly___init (fun vs H Q E h => ?_) (fun cdv A outer s H vs Q E hr h => ?_)
  · obtain ⟨x, dx, ns, rfl, hn, _⟩ := h; show (ns.map V.int).length + 1 = _; rw [List.length_map, hn]; rfl
  · obtain ⟨x, dx, ns, rfl, hn, hx, k1, k2⟩ := h
    obtain ⟨mk, fi, e, rfl⟩ := ints_3 hn
    refine ⟨_, (pss_cons (ps_expr (pe_call ((ok_check_bounds T).mono (by decide)) hr rfl T.m_check_bounds T.F_check_bounds.kp T.b_check_bounds .nil passes_def (pa_cons (pv 1) (pa_cons pe_int (pa_cons pe_int pa_nil)))))
      (pss_cons (ps_expr (pe_call ((ok_check_every T).mono (by decide)) hr rfl T.m_check_every T.F_check_every.kp T.b_check_every .nil passes_def (pa_cons (pv 2) (pa_cons (pv 3) pa_nil))))
      (pss_cons (ps_fldK (K := K) rfl (pv 0) (pv 1))
      (pss_cons (ps_fldK (K := K) rfl (pv 0) (pv 2))
      (pss_one (ps_fldK (K := K) rfl (pv 0) (pv 3))))))), ?_⟩
    refine ⟨_, rfl, mk, 1, 127, rfl, fun g1 => ?_, fun b1 => k2 (show (btw 1 mk 127 && fe fi e) = false by rw [b1]; rfl)⟩
    refine ⟨_, rfl, _, rfl, fi, e, rfl, fun g2 => ?_, fun b2 => k2 (show (btw 1 mk 127 && fe fi e) = false by rw [b2, Bool.and_false])⟩
    refine ⟨_, rfl, _, rfl, x, _, dx, _, rfl, hx, T.cl_Weekly, T.n_Weekly_mask, (by show 0 < 1000; decide), ?_⟩
    rw [pf_Weekly_mask]
    refine ⟨_, rfl, _, rfl, x, _, dx, _, rfl, upd_same, T.cl_Weekly, T.n_Weekly_first, (by show 1 < 1000; decide), ?_⟩
    rw [pf_Weekly_first]
    refine ⟨_, rfl, _, rfl, x, _, dx, _, rfl, upd_same, T.cl_Weekly, T.n_Weekly_every, (by show 2 < 1000; decide), ?_⟩
    rw [pf_Weekly_every]
    exact k1 (show (btw 1 mk 127 && fe fi e) = true by rw [g1, g2]; rfl) _ _ (fun c u hc e => by rw [upd_ne hc, upd_ne hc, upd_ne hc]; exact e) upd_same
end
end K13

namespace K13
open PySem L2
open DG (okW dy btw fe ab TB TEn Sh firsts)
section
variable {P : Program} {w : World} {K : PySem.W.Frag} {mg : Str → Option Value} {base : Heap} {a : Adr}
theorem sc_Monthly___init : FnScope ["self", "date", "first", "every"] ["self", "date", "first", "every"] (defScope s_Monthly___init) := ⟨rfl, rfl, rfl, by decide +kernel, rfl, by decide +kernel, by decide +kernel⟩

theorem ok_Monthly___init (T : Txt K mg a) : FnOk P w K mg base (CXe P w) true 4 a.f_Monthly___init a.d_Monthly___init ["self", "date", "first", "every"] (IniW a.x_Monthly a.x_NoRule 2 3) := by
  refine T.F_Monthly___init.okE sc_Monthly___init (fun vs H Q E h => ?_) (fun cdv A outer s H vs Q E hr h => ?_)
  · obtain ⟨x, dx, ns, rfl, hn, _⟩ := h; show (ns.map V.int).length + 1 = _; rw [List.length_map, hn]; rfl
  · obtain ⟨x, dx, ns, rfl, hn, hx, k1, k2⟩ := h
    obtain ⟨dt, fi, e, rfl⟩ := ints_3 hn
    refine ⟨_, (pss_cons (ps_expr (pe_call ((ok_check_bounds T).mono (by decide)) hr rfl T.m_check_bounds T.F_check_bounds.kp T.b_check_bounds .nil passes_def (pa_cons (pe_callB call_abs rfl T.n_abs (by decide +kernel) (pa_cons (pv 1) pa_nil)) (pa_cons pe_int (pa_cons pe_int pa_nil)))))
      (pss_cons (ps_expr (pe_call ((ok_check_every T).mono (by decide)) hr rfl T.m_check_every T.F_check_every.kp T.b_check_every .nil passes_def (pa_cons (pv 2) (pa_cons (pv 3) pa_nil))))
      (pss_cons (ps_expr (pe_clsfn T.cf_ByMonth___init ((ok_ByMonth___init T).mono (by decide)) hr rfl T.m_ByMonth T.b_ByMonth___init .nil pass0 (pa_cons (pv 0) (pa_cons (pe_call ((ok_month_of T).mono (by decide)) hr rfl T.m_month_of T.F_month_of.kp T.b_month_of .nil pass0 (pa_cons (pv 2) pa_nil)) (pa_cons (pv 3) (pa_cons (pv 2) pa_nil))))))
      (pss_cons (ps_fldK (K := K) rfl (pv 0) (pv 1))
      (pss_one (ps_fldK (K := K) rfl (pv 0) (pv 3))))))), ?_⟩
    refine ⟨_, rfl, dt, rfl, ab dt, 1, 31, rfl, fun g1 => ?_, fun b1 => k2 (show (btw 1 (ab dt) 31 && fe fi e) = false by rw [b1]; rfl)⟩
    refine ⟨_, rfl, _, rfl, fi, e, rfl, fun g2 => ?_, fun b2 => k2 (show (btw 1 (ab dt) 31 && fe fi e) = false by rw [b2, Bool.and_false])⟩
    refine ⟨_, rfl, _, rfl, fi, rfl, _, rfl, _, rfl, x, _, dx, _, _, fi, rfl, ⟨T.cl_Monthly, T.n_Monthly_origin, T.n_Monthly_stride, T.n_Monthly_first⟩, hx, fun H1 s1 hx1 => ?_⟩
    refine ⟨_, rfl, _, rfl, x, _, dx, _, rfl, hx1, T.cl_Monthly, T.n_Monthly_date, (by show 3 < 1000; decide), ?_⟩
    rw [pf_Monthly_date]
    refine ⟨_, rfl, _, rfl, x, _, dx, _, rfl, upd_same, T.cl_Monthly, T.n_Monthly_every, (by show 4 < 1000; decide), ?_⟩
    rw [pf_Monthly_every]
    exact k1 (show (btw 1 (ab dt) 31 && fe fi e) = true by rw [g1, g2]; rfl) _ _ (fun c u hc e => by rw [upd_ne hc, upd_ne hc]; exact s1 _ _ hc e) upd_same
end
end K13

namespace K13
open PySem L2
open DG (okW dy btw fe ab TB TEn Sh firsts)
section
variable {P : Program} {w : World} {K : PySem.W.Frag} {mg : Str → Option Value} {base : Heap} {a : Adr}
theorem sc_Nth___init : FnScope ["self", "which", "weekday_of", "first", "every"] ["self", "which", "weekday_of", "first", "every"] (defScope s_Nth___init) := ⟨rfl, rfl, rfl, by decide +kernel, rfl, by decide +kernel, by decide +kernel⟩

theorem ok_Nth___init (T : Txt K mg a) : FnOk P w K mg base (CXe P w) true 4 a.f_Nth___init a.d_Nth___init ["self", "which", "weekday_of", "first", "every"] (IniW a.x_Nth a.x_NoRule 3 4) := by
  refine T.F_Nth___init.okE sc_Nth___init (fun vs H Q E h => ?_) (fun cdv A outer s H vs Q E hr h => ?_)
  · obtain ⟨x, dx, ns, rfl, hn, _⟩ := h; show (ns.map V.int).length + 1 = _; rw [List.length_map, hn]; rfl
  · obtain ⟨x, dx, ns, rfl, hn, hx, k1, k2⟩ := h
    obtain ⟨w, wd, fi, e, rfl⟩ := ints_4 hn
    refine ⟨_, (pss_cons (ps_expr (pe_call ((ok_check_bounds T).mono (by decide)) hr rfl T.m_check_bounds T.F_check_bounds.kp T.b_check_bounds .nil passes_def (pa_cons (pe_callB call_abs rfl T.n_abs (by decide +kernel) (pa_cons (pv 1) pa_nil)) (pa_cons pe_int (pa_cons pe_int pa_nil)))))
      (pss_cons (ps_expr (pe_call ((ok_check_bounds T).mono (by decide)) hr rfl T.m_check_bounds T.F_check_bounds.kp T.b_check_bounds .nil passes_def (pa_cons (pv 2) (pa_cons pe_int (pa_cons pe_int pa_nil)))))
      (pss_cons (ps_expr (pe_call ((ok_check_every T).mono (by decide)) hr rfl T.m_check_every T.F_check_every.kp T.b_check_every .nil passes_def (pa_cons (pv 3) (pa_cons (pv 4) pa_nil))))
      (pss_cons (ps_expr (pe_clsfn T.cf_ByMonth___init ((ok_ByMonth___init T).mono (by decide)) hr rfl T.m_ByMonth T.b_ByMonth___init .nil pass0 (pa_cons (pv 0) (pa_cons (pe_call ((ok_month_of T).mono (by decide)) hr rfl T.m_month_of T.F_month_of.kp T.b_month_of .nil pass0 (pa_cons (pv 3) pa_nil)) (pa_cons (pv 4) (pa_cons (pv 3) pa_nil))))))
      (pss_cons (ps_fldK (K := K) rfl (pv 0) (pv 1))
      (pss_cons (ps_fldK (K := K) rfl (pv 0) (pv 2))
      (pss_one (ps_fldK (K := K) rfl (pv 0) (pv 4))))))))), ?_⟩
    refine ⟨_, rfl, w, rfl, ab w, 1, 5, rfl, fun g1 => ?_, fun b1 => k2 (show (btw 1 (ab w) 5 && (btw 0 wd 6 && fe fi e)) = false by rw [b1]; rfl)⟩
    refine ⟨_, rfl, wd, 0, 6, rfl, fun g2 => ?_, fun b2 => k2 (show (btw 1 (ab w) 5 && (btw 0 wd 6 && fe fi e)) = false by rw [b2, Bool.false_and, Bool.and_false])⟩
    refine ⟨_, rfl, _, rfl, fi, e, rfl, fun g3 => ?_, fun b3 => k2 (show (btw 1 (ab w) 5 && (btw 0 wd 6 && fe fi e)) = false by rw [b3, Bool.and_false, Bool.and_false])⟩
    refine ⟨_, rfl, _, rfl, fi, rfl, _, rfl, _, rfl, x, _, dx, _, _, fi, rfl, ⟨T.cl_Nth, T.n_Nth_origin, T.n_Nth_stride, T.n_Nth_first⟩, hx, fun H1 s1 hx1 => ?_⟩
    refine ⟨_, rfl, _, rfl, x, _, dx, _, rfl, hx1, T.cl_Nth, T.n_Nth_which, (by show 3 < 1000; decide), ?_⟩
    rw [pf_Nth_which]
    refine ⟨_, rfl, _, rfl, x, _, dx, _, rfl, upd_same, T.cl_Nth, T.n_Nth_weekday_of, (by show 4 < 1000; decide), ?_⟩
    rw [pf_Nth_weekday_of]
    refine ⟨_, rfl, _, rfl, x, _, dx, _, rfl, upd_same, T.cl_Nth, T.n_Nth_every, (by show 5 < 1000; decide), ?_⟩
    rw [pf_Nth_every]
    exact k1 (show (btw 1 (ab w) 5 && (btw 0 wd 6 && fe fi e)) = true by rw [g1, g2, g3]; rfl) _ _ (fun c u hc e => by rw [upd_ne hc, upd_ne hc, upd_ne hc]; exact s1 _ _ hc e) upd_same
end
end K13

namespace K13
open PySem L2
open DG (okW dy btw fe ab TB TEn Sh firsts)
section
variable {P : Program} {w : World} {K : PySem.W.Frag} {mg : Str → Option Value} {base : Heap} {a : Adr}
theorem sc_Changed___init : FnScope ["self", "rule", "left", "more", "moved", "day", "pair"] ["self", "rule", "left", "more", "moved"] (defScope s_Changed___init) := ⟨rfl, rfl, rfl, by decide +kernel, rfl, by decide +kernel, by decide +kernel⟩

theorem ok_Changed___init (T : Txt K mg a) : FnOk P w K mg base (CXe P w) true 4 a.f_Changed___init a.d_Changed___init ["self", "rule", "left", "more", "moved"] (sp_Changed_init a.x_Changed a.x_Every a.x_NoRule) := by
  refine T.F_Changed___init.okE sc_Changed___init (fun vs H Q E h => ?_) (fun cdv A outer s H vs Q E hr h => ?_)
  · obtain ⟨x, dx, r, dr, p, q, mv, ls, ms, rs, st, fi, rfl, _⟩ := h; rfl
  · obtain ⟨x, dx, r, dr, p, q, mv, ls, ms, rs, st, fi, rfl, hx, ⟨hr0, st1, hp, hq, hrx, l1, l2, l3⟩, hmv, k1, k2⟩ := h
    refine ⟨_, (pss_cons (ps_fldK (K := K) rfl (pv 0) (pv 1))
      (pss_cons (ps_fldK (K := K) rfl (pv 0) (pe_ifExp (pt_cmpR op_isN (pv 2) pe_non (nomark _)) (pe_tup pa_nil) (pe_callTy (call_tuple_ofK (K := K) rfl) rfl T.n_tuple (by decide +kernel) (pa_cons (pv 2) pa_nil))))
      (pss_cons (ps_fldK (K := K) rfl (pv 0) (pe_ifExp (pt_cmpR op_isN (pv 3) pe_non (nomark _)) (pe_tup pa_nil) (pe_callTy (call_tuple_ofK (K := K) rfl) rfl T.n_tuple (by decide +kernel) (pa_cons (pv 3) pa_nil))))
      (pss_cut (ps_fldK (K := K) rfl (pv 0) (pe_ifExp (pt_cmpR op_isN (pv 4) pe_non (nomark _)) (pe_tup pa_nil) (pe_callTy (call_tuple_ofK (K := K) rfl) rfl T.n_tuple (by decide +kernel) (pa_cons (pv 4) pa_nil))))
      (pss_cons (ps_for PassesOwn.leaving rfl (pi_tupK (K := K) rfl (pe_op op_catA (pe_fldK (K := K) rfl (pv 0)) (pe_fldK (K := K) rfl (pv 0)))) (pg_name (i := 5) sc_Changed___init.nd rfl (Or.inl rfl)) (pss_one (ps_expr (pe_call ((ok_check_day T).mono (by decide)) hr rfl T.m_check_day T.F_check_day.kp T.b_check_day .nil passes_def (pa_cons (pv 5) pa_nil)))))
      (pss_cons (ps_for PassesOwn.leaving rfl (pi_tupK (K := K) rfl (pe_fldK (K := K) rfl (pv 0))) (pg_name (i := 6) sc_Changed___init.nd rfl (Or.inl rfl)) (pss_cons (ps_expr (pe_call ((ok_check_day T).mono (by decide)) hr rfl T.m_check_day T.F_check_day.kp T.b_check_day .nil passes_def (pa_cons (pe_ix (ix_tupK (K := K) rfl) (pv 6) pe_int (fun _ _ => rfl)) pa_nil)))
      (pss_one (ps_expr (pe_call ((ok_check_day T).mono (by decide)) hr rfl T.m_check_day T.F_check_day.kp T.b_check_day .nil passes_def (pa_cons (pe_ix (ix_tupK (K := K) rfl) (pv 6) pe_int (fun _ _ => rfl)) pa_nil))))))
      (pss_cons (ps_fldK (K := K) rfl (pv 0) (pe_methV0 (D := fun C R => (C = a.x_Changed ∧ R = fun x vs H Q => (sp_Changed_days_gained a.x_Changed a.x_Every) (x :: (vs ++ ([] : List V))) H Q E0)) (pv 0) (by rintro C R ⟨rfl, rfl⟩ <;> first | exact ⟨T.cl_Changed, _, _, _, _, _, _, _, _, _, _, T.me_Changed_days_gained, (ok_Changed_days_gained T).mono (by decide), hr, T.b_Changed_days_gained, .nil, pass0, fun _ _ _ _ _ h => h⟩)))
      (pss_one (ps_fldK (K := K) rfl (pv 0) (pe_methV0 (D := fun C R => (C = a.x_Changed ∧ R = fun x vs H Q => (sp_Changed_days_lost a.x_Changed a.x_Every) (x :: (vs ++ ([] : List V))) H Q E0)) (pv 0) (by rintro C R ⟨rfl, rfl⟩ <;> first | exact ⟨T.cl_Changed, _, _, _, _, _, _, _, _, _, _, T.me_Changed_days_lost, (ok_Changed_days_lost T).mono (by decide), hr, T.b_Changed_days_lost, .nil, pass0, fun _ _ _ _ _ h => h⟩))))))))))), ?_⟩
    have np : p ≠ x := fun z => by rw [z, hx] at hp; cases hp
    have nq : q ≠ x := fun z => by rw [z, hx] at hq; cases hq
    refine ⟨_, rfl, ?_⟩
    refine ⟨_, rfl, x, _, dx, _, rfl, hx, T.cl_Changed, T.n_Changed_rule, (by show 0 < 1000; decide), ?_⟩
    rw [pf_Changed_rule]
    have sX1 : SameX x H (upd H x (.ins a.x_Changed dx [("rule", .ref r)])) := fun c u hc e => by rw [upd_ne hc]; exact e
    have hx1 : (upd H x (.ins a.x_Changed dx [("rule", .ref r)])) x = some (.ins a.x_Changed dx [("rule", .ref r)]) := upd_same
    generalize upd H x (.ins a.x_Changed dx [("rule", .ref r)]) = H1 at *
    refine ⟨_, rfl, rfl, _, rfl, ite2 (fun z => absurd (of_decide_eq_true z) (fun e => nomatch e)) (fun _ => ?_)⟩
    refine ⟨_, rfl, p, _, rfl, .inr ⟨SqT.of (sX1 _ _ np hp), ?_⟩⟩
    refine ⟨_, rfl, x, _, dx, _, rfl, hx1, T.cl_Changed, T.n_Changed_left, (by show 1 < 1000; decide), ?_⟩
    rw [pf_Changed_left]
    have sX2 : SameX x H (upd H1 x (.ins a.x_Changed dx [("rule", .ref r), ("left", .ref p)])) := fun c u hc e => by rw [upd_ne hc]; exact sX1 _ _ hc e
    have hx2 : (upd H1 x (.ins a.x_Changed dx [("rule", .ref r), ("left", .ref p)])) x = some (.ins a.x_Changed dx [("rule", .ref r), ("left", .ref p)]) := upd_same
    generalize upd H1 x (.ins a.x_Changed dx [("rule", .ref r), ("left", .ref p)]) = H2 at *
    refine ⟨_, rfl, rfl, _, rfl, ite2 (fun z => absurd (of_decide_eq_true z) (fun e => nomatch e)) (fun _ => ?_)⟩
    refine ⟨_, rfl, q, _, rfl, .inr ⟨SqT.of (sX2 _ _ nq hq), ?_⟩⟩
    refine ⟨_, rfl, x, _, dx, _, rfl, hx2, T.cl_Changed, T.n_Changed_more, (by show 2 < 1000; decide), ?_⟩
    rw [pf_Changed_more]
    have sX3 : SameX x H (upd H2 x (.ins a.x_Changed dx [("rule", .ref r), ("left", .ref p), ("more", .ref q)])) := fun c u hc e => by rw [upd_ne hc]; exact sX2 _ _ hc e
    have hx3 : (upd H2 x (.ins a.x_Changed dx [("rule", .ref r), ("left", .ref p), ("more", .ref q)])) x = some (.ins a.x_Changed dx [("rule", .ref r), ("left", .ref p), ("more", .ref q)]) := upd_same
    generalize upd H2 x (.ins a.x_Changed dx [("rule", .ref r), ("left", .ref p), ("more", .ref q)]) = H3 at *
    refine ⟨fun σ' H' => ∃ o, SameX x H H' ∧ H' x = some (.ins a.x_Changed dx (F4 r p q o)) ∧ ChAt a.x_Every H' r p q o ls ms rs st fi ∧ σ' = [some (.ref x), some (.ref r), some (.ref p), some (.ref q), some mv, none, none], ?_, ?_⟩
    · rcases hmv with ⟨rfl, rfl⟩ | ⟨o, rfl, ho, hok⟩
      · refine ⟨_, rfl, rfl, _, rfl, ite2 (fun _ => ?_) (fun z => absurd (decide_eq_true rfl) z)⟩
        refine ⟨by decide, fun o ho => ?_⟩
        have u4 := same_upd (o := .tup []) ho
        have nox : o ≠ x := fun z => by rw [z, hx3] at ho; cases ho
        have hoo : (upd H3 o (.tup [])) o = some (.tup []) := upd_same
        have hx4 := u4 _ _ hx3
        have sX4 : SameX x H (upd H3 o (.tup [])) := fun c u hc e => u4 _ _ (sX3 _ _ hc e)
        generalize upd H3 o (.tup []) = H4 at *
        refine ⟨_, rfl, x, _, dx, _, rfl, hx4, T.cl_Changed, T.n_Changed_moved, (by show 3 < 1000; decide), ?_⟩
        rw [pf_Changed_moved]
        have sX5 : SameX x H (upd H4 x (.ins a.x_Changed dx [("rule", .ref r), ("left", .ref p), ("more", .ref q), ("moved", .ref o)])) := fun c u hc e => by rw [upd_ne hc]; exact sX4 _ _ hc e
        have hx5 : (upd H4 x (.ins a.x_Changed dx [("rule", .ref r), ("left", .ref p), ("more", .ref q), ("moved", .ref o)])) x = some (.ins a.x_Changed dx [("rule", .ref r), ("left", .ref p), ("more", .ref q), ("moved", .ref o)]) := upd_same
        have hoo5 : (upd H4 x (.ins a.x_Changed dx [("rule", .ref r), ("left", .ref p), ("more", .ref q), ("moved", .ref o)])) o = some (.tup []) := by rw [upd_ne nox]; exact hoo
        generalize upd H4 x (.ins a.x_Changed dx [("rule", .ref r), ("left", .ref p), ("more", .ref q), ("moved", .ref o)]) = H5 at *
        exact ⟨o, sX5, hx5, ⟨⟨dr, sX5 _ _ hrx hr0⟩, st1, sX5 _ _ np hp, sX5 _ _ nq hq, hoo5, RowOk.nil, l1, l2, l3⟩, rfl⟩
      · have nox : o ≠ x := fun z => by rw [z, hx] at ho; cases ho
        refine ⟨_, rfl, rfl, _, rfl, ite2 (fun z => absurd (of_decide_eq_true z) (fun e => nomatch e)) (fun _ => ?_)⟩
        refine ⟨_, rfl, o, _, rfl, .inr ⟨SqT.of (sX3 _ _ nox ho), ?_⟩⟩
        refine ⟨_, rfl, x, _, dx, _, rfl, hx3, T.cl_Changed, T.n_Changed_moved, (by show 3 < 1000; decide), ?_⟩
        rw [pf_Changed_moved]
        have sX4 : SameX x H (upd H3 x (.ins a.x_Changed dx [("rule", .ref r), ("left", .ref p), ("more", .ref q), ("moved", .ref o)])) := fun c u hc e => by rw [upd_ne hc]; exact sX3 _ _ hc e
        have hx4 : (upd H3 x (.ins a.x_Changed dx [("rule", .ref r), ("left", .ref p), ("more", .ref q), ("moved", .ref o)])) x = some (.ins a.x_Changed dx [("rule", .ref r), ("left", .ref p), ("more", .ref q), ("moved", .ref o)]) := upd_same
        generalize upd H3 x (.ins a.x_Changed dx [("rule", .ref r), ("left", .ref p), ("more", .ref q), ("moved", .ref o)]) = H4 at *
        exact ⟨o, sX4, hx4, ⟨⟨dr, sX4 _ _ hrx hr0⟩, st1, sX4 _ _ np hp, sX4 _ _ nq hq, sX4 _ _ nox ho, fun y hy => sX4 _ _ (fun z => by have := hok y hy; rw [z, hx] at this; cases this) (hok y hy), l1, l2, l3⟩, rfl⟩
    rintro σ H4 ⟨o, sX4, hx4, hc, rfl⟩
    obtain ⟨_, _, hp4, hq4, _⟩ := id hc
    refine ⟨_, rfl, x, _, dx, _, _, rfl, hx4, T.cl_Changed, T.n_Changed_left, fl4_left _ _ _ _, _, rfl, x, _, dx, _, _, rfl, hx4, T.cl_Changed, T.n_Changed_more, fl4_more _ _ _ _, p, q, _, _, rfl, rfl, hp4, hq4, ?_, fun c H5 s5 hcc => ⟨c, rfl, ⟨_, SqT.of hcc⟩, ?_⟩⟩
    · rw [List.length_map, List.length_map]
      exact Nat.le_trans (by omega : _ ≤ 10) (by decide)
    rw [← List.map_append] at hcc
    have sX5 : SameX x H H5 := fun c u hc e => s5 _ _ (sX4 _ _ hc e)
    refine for_seq (H0 := H5) (seq_tup (SqT.of hcc)) (fun i σ H' => H5 = H' ∧ ((ls ++ ms).take i).all dy = true ∧ ∃ y, σ = [some (.ref x), some (.ref r), some (.ref p), some (.ref q), some mv, y, none]) ⟨rfl, rfl, _, rfl⟩ (fun _ _ _ _ h => h.1 ▸ Same.refl _) ?_ ?_
    · rintro i v σ _ hv ⟨rfl, hall, y, rfl⟩
      rw [List.getElem?_map] at hv
      obtain ⟨b, hb, rfl⟩ := Option.map_eq_some_iff.mp hv
      refine ⟨_, rfl, b, rfl, fun g => ⟨rfl, ?_, _, rfl⟩, fun bd => k2 (chOk_l (List.mem_of_getElem? hb) bd) H5 sX5⟩
      rw [take_snoc hb, List.all_append, hall, List.all_cons, g]
      rfl
    rintro σ _ ⟨rfl, hall, y, rfl⟩
    rw [List.length_map, List.take_length] at hall
    have hx5 := s5 _ _ hx4
    have hc5 := hc.up s5
    obtain ⟨_, _, _, _, ho5, hok5, _⟩ := id hc5
    refine ⟨_, rfl, x, _, dx, _, _, rfl, hx5, T.cl_Changed, T.n_Changed_moved, fl4_moved _ _ _ _, o, rfl, ⟨_, SqT.of ho5⟩, ?_⟩
    refine for_seq (H0 := H5) (seq_tup (SqT.of ho5)) (fun i σ H' => H5 = H' ∧ (((sps rs).take i).all fun y => dy y.1 && dy y.2) = true ∧ ∃ z, σ = [some (.ref x), some (.ref r), some (.ref p), some (.ref q), some mv, y, z]) ⟨rfl, rfl, _, rfl⟩ (fun _ _ _ _ h => h.1 ▸ Same.refl _) ?_ ?_
    · rintro i v σ _ hv ⟨rfl, hal2, z, rfl⟩
      obtain ⟨w, hw, hwm, rfl⟩ := refs_get hv
      have hw1 := hok5 w hwm
      refine ⟨_, rfl, w.1, _, _, _, rfl, rfl, SqT.of hw1, rfl, w.2.1, rfl, fun g1 => ⟨_, rfl, w.1, _, _, _, rfl, rfl, SqT.of hw1, rfl, w.2.2, rfl, fun g2 => ⟨rfl, ?_, _, rfl⟩, fun b2 => k2 (chOk_r hwm (by rw [b2, Bool.and_false])) H5 sX5⟩, fun b1 => k2 (chOk_r hwm (by rw [b1]; rfl)) H5 sX5⟩
      have hs : (sps rs)[i]? = some w.2 := by unfold sps; rw [List.getElem?_map, hw]; rfl
      rw [take_snoc hs, List.all_append, hal2, List.all_cons, g1, g2]
      rfl
    rintro σ _ ⟨rfl, hal2, z, rfl⟩
    rw [refs_len, ← sps_len, List.take_length] at hal2
    refine ⟨_, rfl, x, _, dx, _, _, rfl, hx5, no_gained _ _ _ _, ⟨rfl, rfl⟩, x, dx, r, p, q, o, ls, ms, rs, st, fi, rfl, hx5, hc5, fun gn H6 s6 => ?_⟩
    have hx6 := s6 _ _ hx5
    refine ⟨_, rfl, x, _, dx, _, rfl, hx6, T.cl_Changed, T.n_Changed_gained, (by show 4 < 1000; decide), ?_⟩
    rw [pf_Changed_gained]
    have sx7 : SameX x H6 (upd H6 x (.ins a.x_Changed dx [("rule", .ref r), ("left", .ref p), ("more", .ref q), ("moved", .ref o), ("gained", .ref gn)])) := fun c u hc e => by rw [upd_ne hc]; exact e
    have hx7 : (upd H6 x (.ins a.x_Changed dx [("rule", .ref r), ("left", .ref p), ("more", .ref q), ("moved", .ref o), ("gained", .ref gn)])) x = some (.ins a.x_Changed dx [("rule", .ref r), ("left", .ref p), ("more", .ref q), ("moved", .ref o), ("gained", .ref gn)]) := upd_same
    have hc7 := (hc5.up s6).upX hx6 hrx sx7
    generalize upd H6 x (.ins a.x_Changed dx [("rule", .ref r), ("left", .ref p), ("more", .ref q), ("moved", .ref o), ("gained", .ref gn)]) = H7 at *
    refine ⟨_, rfl, x, _, dx, _, _, rfl, hx7, no_lost _ _ _ _ _, ⟨rfl, rfl⟩, x, dx, r, p, q, o, gn, ls, ms, rs, st, fi, rfl, hx7, hc7, fun lo H8 s8 => ?_⟩
    refine ⟨_, rfl, x, _, dx, _, rfl, s8 _ _ hx7, T.cl_Changed, T.n_Changed_lost, (by show 5 < 1000; decide), ?_⟩
    exact k1 (chOk_t hall hal2) _ _ (fun c u hc e => by rw [upd_ne hc]; exact s8 _ _ (sx7 _ _ hc (s6 _ _ (sX5 _ _ hc e)))) upd_same
end
end K13

namespace K13
open PySem L2
open DG (okW dy btw fe ab TB TEn Sh firsts)
section
variable {P : Program} {w : World} {K : PySem.W.Frag} {mg : Str → Option Value} {base : Heap} {a : Adr}
theorem sc_Yearly___init : FnScope ["self", "month", "date", "first", "every", "year"] ["self", "month", "date", "first", "every"] (defScope s_Yearly___init) := ⟨rfl, rfl, rfl, by decide +kernel, rfl, by decide +kernel, by decide +kernel⟩

theorem ok_Yearly___init (T : Txt K mg a) : FnOk P w K mg base (CXe P w) true 5 a.f_Yearly___init a.d_Yearly___init ["self", "month", "date", "first", "every"] (IniW a.x_Yearly a.x_NoRule 4 4) := by
  refine T.F_Yearly___init.okE sc_Yearly___init (fun vs H Q E h => ?_) (fun cdv A outer s H vs Q E hr h => ?_)
  · obtain ⟨x, dx, ns, rfl, hn, _⟩ := h; show (ns.map V.int).length + 1 = _; rw [List.length_map, hn]; rfl
  · obtain ⟨x, dx, ns, rfl, hn, hx, k1, k2⟩ := h
    obtain ⟨mn, dt, fi, e, rfl⟩ := ints_4 hn
    refine ⟨_, (pss_cons (ps_expr (pe_call ((ok_check_bounds T).mono (by decide)) hr rfl T.m_check_bounds T.F_check_bounds.kp T.b_check_bounds .nil passes_def (pa_cons (pv 1) (pa_cons pe_int (pa_cons pe_int pa_nil)))))
      (pss_cons (ps_expr (pe_call ((ok_check_bounds T).mono (by decide)) hr rfl T.m_check_bounds T.F_check_bounds.kp T.b_check_bounds .nil passes_def (pa_cons (pv 2) (pa_cons pe_int (pa_cons (pe_call ((ok_month_days T).mono (by decide)) hr rfl T.m_month_days T.F_month_days.kp T.b_month_days .nil pass0 (pa_cons (pe_globI rfl T.g_LONG_YEAR) (pa_cons (pv 1) pa_nil))) pa_nil)))))
      (pss_cons (ps_expr (pe_call ((ok_check_every T).mono (by decide)) hr rfl T.m_check_every T.F_check_every.kp T.b_check_every .nil passes_def (pa_cons (pv 3) (pa_cons (pv 4) pa_nil))))
      (pss_cons (ps_set (i := 5) sc_Yearly___init.nd rfl (Or.inl rfl) (pe_ix (ix_tupK (K := K) rfl) (pe_call ((ok_date_of T).mono (by decide)) hr rfl T.m_date_of T.F_date_of.kp T.b_date_of .nil pass0 (pa_cons (pv 3) pa_nil)) pe_int (fun _ _ => rfl)))
      (pss_cons (ps_expr (pe_clsfn T.cf_ByMonth___init ((ok_ByMonth___init T).mono (by decide)) hr rfl T.m_ByMonth T.b_ByMonth___init .nil pass0 (pa_cons (pv 0) (pa_cons (pe_op op_sub (pe_op op_add (pe_op op_mul (pe_op op_sub (pv 5) (pe_globI rfl T.g_FIRST_YEAR)) pe_int) (pv 1)) pe_int) (pa_cons (pe_op op_mul (pv 4) pe_int) (pa_cons (pv 3) pa_nil))))))
      (pss_cons (ps_fldK (K := K) rfl (pv 0) (pv 1))
      (pss_cons (ps_fldK (K := K) rfl (pv 0) (pv 2))
      (pss_one (ps_fldK (K := K) rfl (pv 0) (pv 4)))))))))), ?_⟩
    refine ⟨_, rfl, mn, 1, 12, rfl, fun g1 => ?_, fun b1 => k2 (show (btw 1 mn 12 && (btw 1 dt (DM.len 2000 mn) && fe fi e)) = false by rw [b1]; rfl)⟩
    obtain ⟨m0, m1⟩ := of_decide_eq_true g1
    refine ⟨_, rfl, _, rfl, 2000, mn, rfl, m0, m1, dt, 1, DM.len 2000 mn, rfl, fun g2 => ?_, fun b2 => k2 (show (btw 1 mn 12 && (btw 1 dt (DM.len 2000 mn) && fe fi e)) = false by rw [b2, Bool.false_and, Bool.and_false])⟩
    refine ⟨_, rfl, _, rfl, fi, e, rfl, fun g3 => ?_, fun b3 => k2 (show (btw 1 mn 12 && (btw 1 dt (DM.len 2000 mn) && fe fi e)) = false by rw [b3, Bool.and_false, Bool.and_false])⟩
    have hfi : 0 ≤ fi ∧ fi < 146097 := dy_iff.mp (Bool.and_eq_true_iff.mp (show (dy fi && btw 1 e 1000) = true from g3)).1
    refine ⟨_, rfl, fi, rfl, hfi.1, hfi.2, fun p H0 s0 hp0 hp => ?_⟩
    refine ⟨p, _, _, _, rfl, rfl, SqT.of hp, rfl, ?_⟩
    have hx0 := s0 _ _ hx
    refine ⟨_, rfl, _, rfl, _, _, rfl, rfl, _, _, rfl, rfl, .inr ⟨by decide, by decide⟩, _, rfl, _, _, rfl, rfl, _, _, rfl, rfl, _, rfl, _, _, rfl, rfl, .inr ⟨by decide, by decide⟩, _, rfl, x, _, dx, _, _, fi, rfl, ⟨T.cl_Yearly, T.n_Yearly_origin, T.n_Yearly_stride, T.n_Yearly_first⟩, hx0, fun H1 s1 hx1 => ?_⟩
    refine ⟨_, rfl, _, rfl, x, _, dx, _, rfl, hx1, T.cl_Yearly, T.n_Yearly_month, (by show 3 < 1000; decide), ?_⟩
    rw [pf_Yearly_month]
    refine ⟨_, rfl, _, rfl, x, _, dx, _, rfl, upd_same, T.cl_Yearly, T.n_Yearly_date, (by show 4 < 1000; decide), ?_⟩
    rw [pf_Yearly_date]
    refine ⟨_, rfl, _, rfl, x, _, dx, _, rfl, upd_same, T.cl_Yearly, T.n_Yearly_every, (by show 5 < 1000; decide), ?_⟩
    rw [pf_Yearly_every]
    exact k1 (show (btw 1 mn 12 && (btw 1 dt (DM.len 2000 mn) && fe fi e)) = true by rw [g1, g2, g3]; rfl) _ _ (fun c u hc e => by rw [upd_ne hc, upd_ne hc, upd_ne hc]; exact s1 _ _ hc (s0 _ _ e)) upd_same
end
end K13

namespace K13
open PySem L2
open DG (okW dy btw fe ab TB TEn Sh firsts)
section
variable {P : Program} {w : World} {K : PySem.W.Frag} {mg : Str → Option Value} {base : Heap} {a : Adr}
theorem sc_law_make : FnScope ["_law_way", "_law_some"] ["_law_way", "_law_some"] (defScope s_law_make) := ⟨rfl, rfl, rfl, by decide +kernel, rfl, by decide +kernel, by decide +kernel⟩

theorem ok_law_make (T : Txt K mg a) : FnOk P w K mg base (CXe P w) true 7 a.f_law_make a.d_law_make ["_law_way", "_law_some"] (sp_law_make K a.x_Rule a.x_NoRule) := by
  refine T.F_law_make.okE sc_law_make (fun vs H Q E h => ?_) (fun cdv A outer s H vs Q E hr h => ?_)
  · obtain ⟨w, L, ns, rfl, _⟩ := h; rfl
  · obtain ⟨w, L, ns, rfl, hL, hsh, k1, k2⟩ := h
    refine ⟨_, (pss_cons (ps_if (pt_cmpR op_eq (pv 0) pe_int (nomark _)) (pss_one (ps_ret (pe_make T.mk_Every ((ok_Every___init T).mono (by decide)) hr rfl T.m_Every T.b_Every___init .nil passes_def (pa_cons (pe_ix (ix_listK (K := K) rfl) (pv 1) pe_int (fun _ _ => rfl)) (pa_cons (pe_ix (ix_listK (K := K) rfl) (pv 1) pe_int (fun _ _ => rfl)) pa_nil))))) pss_nil)
      (pss_cons (ps_if (pt_cmpR op_eq (pv 0) pe_int (nomark _)) (pss_one (ps_ret (pe_make T.mk_Weekly ((ok_Weekly___init T).mono (by decide)) hr rfl T.m_Weekly T.b_Weekly___init .nil passes_def (pa_cons (pe_ix (ix_listK (K := K) rfl) (pv 1) pe_int (fun _ _ => rfl)) (pa_cons (pe_ix (ix_listK (K := K) rfl) (pv 1) pe_int (fun _ _ => rfl)) (pa_cons (pe_ix (ix_listK (K := K) rfl) (pv 1) pe_int (fun _ _ => rfl)) pa_nil)))))) pss_nil)
      (pss_cons (ps_if (pt_cmpR op_eq (pv 0) pe_int (nomark _)) (pss_one (ps_ret (pe_make T.mk_Monthly ((ok_Monthly___init T).mono (by decide)) hr rfl T.m_Monthly T.b_Monthly___init .nil passes_def (pa_cons (pe_ix (ix_listK (K := K) rfl) (pv 1) pe_int (fun _ _ => rfl)) (pa_cons (pe_ix (ix_listK (K := K) rfl) (pv 1) pe_int (fun _ _ => rfl)) (pa_cons (pe_ix (ix_listK (K := K) rfl) (pv 1) pe_int (fun _ _ => rfl)) pa_nil)))))) pss_nil)
      (pss_cons (ps_if (pt_cmpR op_eq (pv 0) pe_int (nomark _)) (pss_one (ps_ret (pe_make T.mk_Nth ((ok_Nth___init T).mono (by decide)) hr rfl T.m_Nth T.b_Nth___init .nil passes_def (pa_cons (pe_ix (ix_listK (K := K) rfl) (pv 1) pe_int (fun _ _ => rfl)) (pa_cons (pe_ix (ix_listK (K := K) rfl) (pv 1) pe_int (fun _ _ => rfl)) (pa_cons (pe_ix (ix_listK (K := K) rfl) (pv 1) pe_int (fun _ _ => rfl)) (pa_cons (pe_ix (ix_listK (K := K) rfl) (pv 1) pe_int (fun _ _ => rfl)) pa_nil))))))) pss_nil)
      (pss_cons (ps_if (pt_cmpR op_eq (pv 0) pe_int (nomark _)) (pss_one (ps_ret (pe_make T.mk_Yearly ((ok_Yearly___init T).mono (by decide)) hr rfl T.m_Yearly T.b_Yearly___init .nil passes_def (pa_cons (pe_ix (ix_listK (K := K) rfl) (pv 1) pe_int (fun _ _ => rfl)) (pa_cons (pe_ix (ix_listK (K := K) rfl) (pv 1) pe_int (fun _ _ => rfl)) (pa_cons (pe_ix (ix_listK (K := K) rfl) (pv 1) pe_int (fun _ _ => rfl)) (pa_cons (pe_ix (ix_listK (K := K) rfl) (pv 1) pe_int (fun _ _ => rfl)) pa_nil))))))) pss_nil)
      (pss_cons (ps_if (pt_cmpR op_eq (pv 0) pe_int (nomark _)) (pss_one (ps_ret (pe_make T.mk_Days ((ok_Days___init T).mono (by decide)) hr rfl T.m_Days T.b_Days___init .nil passes_def (pa_cons (pe_tup (pa_cons pe_int (pa_cons (pe_ix (ix_listK (K := K) rfl) (pv 1) pe_int (fun _ _ => rfl)) (pa_cons (pe_ix (ix_listK (K := K) rfl) (pv 1) pe_int (fun _ _ => rfl)) pa_nil)))) pa_nil)))) pss_nil)
      (pss_cons (ps_if (pt_cmpR op_eq (pv 0) pe_int (nomark _)) (pss_one (ps_ret (pe_make T.mk_Shifted ((ok_Shifted___init T).mono (by decide)) hr rfl T.m_Shifted T.b_Shifted___init .nil passes_def (pa_cons (pe_make T.mk_Every ((ok_Every___init T).mono (by decide)) hr rfl T.m_Every T.b_Every___init_1.choose_spec.1 T.b_Every___init_1.choose_spec.2 passes_def (pa_cons pe_int pa_nil)) (pa_cons (pe_ix (ix_listK (K := K) rfl) (pv 1) pe_int (fun _ _ => rfl)) pa_nil))))) pss_nil)
      (pss_cons (ps_if (pt_cmpR op_eq (pv 0) pe_int (nomark _)) (pss_one (ps_ret (pe_make T.mk_Changed ((ok_Changed___init T).mono (by decide)) hr rfl T.m_Changed T.b_Changed___init_1.choose_spec.1 T.b_Changed___init_1.choose_spec.2 passes_def (pa_cons (pe_make T.mk_Every ((ok_Every___init T).mono (by decide)) hr rfl T.m_Every T.b_Every___init_1.choose_spec.1 T.b_Every___init_1.choose_spec.2 passes_def (pa_cons pe_int pa_nil)) (pa_cons (pe_tup (pa_cons pe_int (pa_cons (pe_ix (ix_listK (K := K) rfl) (pv 1) pe_int (fun _ _ => rfl)) pa_nil))) (pa_cons (pe_tup (pa_cons pe_int pa_nil)) pa_nil)))))) pss_nil)
      (pss_one (ps_ret (pe_make T.mk_Changed ((ok_Changed___init T).mono (by decide)) hr rfl T.m_Changed T.b_Changed___init .nil passes_def (pa_cons (pe_make T.mk_Every ((ok_Every___init T).mono (by decide)) hr rfl T.m_Every T.b_Every___init_1.choose_spec.1 T.b_Every___init_1.choose_spec.2 passes_def (pa_cons pe_int pa_nil)) (pa_cons (pe_tup pa_nil) (pa_cons (pe_tup (pa_cons pe_int pa_nil)) (pa_cons (pe_tup (pa_cons (pe_tup (pa_lits [.int 4, .int 6] (by decide +kernel))) (pa_cons (pe_tup (pa_cons (pe_ix (ix_listK (K := K) rfl) (pv 1) pe_int (fun _ _ => rfl)) (pa_cons (pe_ix (ix_listK (K := K) rfl) (pv 1) pe_int (fun _ _ => rfl)) pa_nil))) pa_nil))) pa_nil))))))))))))))), ?_⟩
    rcases sh_cases hsh with ⟨rfl, a1, a2, rfl⟩ | ⟨rfl, a1, a2, a3, rfl⟩ | ⟨rfl, a1, a2, a3, rfl⟩ | ⟨rfl, a1, a2, a3, a4, rfl⟩ | ⟨rfl, a1, a2, a3, a4, rfl⟩ | ⟨rfl, a1, a2, rfl⟩ | ⟨rfl, a1, rfl⟩ | ⟨rfl, a1, rfl⟩ | ⟨rfl, a1, a2, rfl⟩
    · skip
      refine ⟨_, rfl, rfl, _, rfl, ite2 (fun _ => ?_) (fun z => absurd (by decide +kernel) z)⟩
      refine ⟨_, rfl, L, _, _, _, rfl, rfl, SqL.of (hL), rfl, _, rfl, L, _, _, _, rfl, rfl, SqL.of (hL), rfl, fun x dx nx ndx nex => ⟨x, dx, a1, a2, rfl, upd_same, fun g H3 sx hx3 => ⟨rfl, k1 g x _ dx _ H3 (mk_up nx ndx (Same.refl _) sx) hx3 T.cl_Every T.io_Every T.ki_Every_Rule⟩, fun b => k2 b _ (mk_new nx ndx (Same.refl _))⟩⟩
    · skip
      refine ⟨_, rfl, rfl, _, rfl, ite2 (fun z => absurd z (by decide +kernel)) (fun _ => ?_)⟩
      refine ⟨_, rfl, rfl, _, rfl, ite2 (fun _ => ?_) (fun z => absurd (by decide +kernel) z)⟩
      refine ⟨_, rfl, L, _, _, _, rfl, rfl, SqL.of (hL), rfl, _, rfl, L, _, _, _, rfl, rfl, SqL.of (hL), rfl, _, rfl, L, _, _, _, rfl, rfl, SqL.of (hL), rfl, fun x dx nx ndx nex => ⟨x, dx, [a1, a2, a3], rfl, rfl, upd_same, fun g H3 fs sx hx3 => ⟨rfl, k1 g x _ dx fs H3 (mk_up nx ndx (Same.refl _) sx) hx3 T.cl_Weekly T.io_Weekly T.ki_Weekly_Rule⟩, fun b => k2 b _ (mk_new nx ndx (Same.refl _))⟩⟩
    · skip
      refine ⟨_, rfl, rfl, _, rfl, ite2 (fun z => absurd z (by decide +kernel)) (fun _ => ?_)⟩
      refine ⟨_, rfl, rfl, _, rfl, ite2 (fun z => absurd z (by decide +kernel)) (fun _ => ?_)⟩
      refine ⟨_, rfl, rfl, _, rfl, ite2 (fun _ => ?_) (fun z => absurd (by decide +kernel) z)⟩
      refine ⟨_, rfl, L, _, _, _, rfl, rfl, SqL.of (hL), rfl, _, rfl, L, _, _, _, rfl, rfl, SqL.of (hL), rfl, _, rfl, L, _, _, _, rfl, rfl, SqL.of (hL), rfl, fun x dx nx ndx nex => ⟨x, dx, [a1, a2, a3], rfl, rfl, upd_same, fun g H3 fs sx hx3 => ⟨rfl, k1 g x _ dx fs H3 (mk_up nx ndx (Same.refl _) sx) hx3 T.cl_Monthly T.io_Monthly T.ki_Monthly_Rule⟩, fun b => k2 b _ (mk_new nx ndx (Same.refl _))⟩⟩
    · skip
      refine ⟨_, rfl, rfl, _, rfl, ite2 (fun z => absurd z (by decide +kernel)) (fun _ => ?_)⟩
      refine ⟨_, rfl, rfl, _, rfl, ite2 (fun z => absurd z (by decide +kernel)) (fun _ => ?_)⟩
      refine ⟨_, rfl, rfl, _, rfl, ite2 (fun z => absurd z (by decide +kernel)) (fun _ => ?_)⟩
      refine ⟨_, rfl, rfl, _, rfl, ite2 (fun _ => ?_) (fun z => absurd (by decide +kernel) z)⟩
      refine ⟨_, rfl, L, _, _, _, rfl, rfl, SqL.of (hL), rfl, _, rfl, L, _, _, _, rfl, rfl, SqL.of (hL), rfl, _, rfl, L, _, _, _, rfl, rfl, SqL.of (hL), rfl, _, rfl, L, _, _, _, rfl, rfl, SqL.of (hL), rfl, fun x dx nx ndx nex => ⟨x, dx, [a1, a2, a3, a4], rfl, rfl, upd_same, fun g H3 fs sx hx3 => ⟨rfl, k1 g x _ dx fs H3 (mk_up nx ndx (Same.refl _) sx) hx3 T.cl_Nth T.io_Nth T.ki_Nth_Rule⟩, fun b => k2 b _ (mk_new nx ndx (Same.refl _))⟩⟩
    · skip
      refine ⟨_, rfl, rfl, _, rfl, ite2 (fun z => absurd z (by decide +kernel)) (fun _ => ?_)⟩
      refine ⟨_, rfl, rfl, _, rfl, ite2 (fun z => absurd z (by decide +kernel)) (fun _ => ?_)⟩
      refine ⟨_, rfl, rfl, _, rfl, ite2 (fun z => absurd z (by decide +kernel)) (fun _ => ?_)⟩
      refine ⟨_, rfl, rfl, _, rfl, ite2 (fun z => absurd z (by decide +kernel)) (fun _ => ?_)⟩
      refine ⟨_, rfl, rfl, _, rfl, ite2 (fun _ => ?_) (fun z => absurd (by decide +kernel) z)⟩
      refine ⟨_, rfl, L, _, _, _, rfl, rfl, SqL.of (hL), rfl, _, rfl, L, _, _, _, rfl, rfl, SqL.of (hL), rfl, _, rfl, L, _, _, _, rfl, rfl, SqL.of (hL), rfl, _, rfl, L, _, _, _, rfl, rfl, SqL.of (hL), rfl, fun x dx nx ndx nex => ⟨x, dx, [a1, a2, a3, a4], rfl, rfl, upd_same, fun g H3 fs sx hx3 => ⟨rfl, k1 g x _ dx fs H3 (mk_up nx ndx (Same.refl _) sx) hx3 T.cl_Yearly T.io_Yearly T.ki_Yearly_Rule⟩, fun b => k2 b _ (mk_new nx ndx (Same.refl _))⟩⟩
    · skip
      refine ⟨_, rfl, rfl, _, rfl, ite2 (fun z => absurd z (by decide +kernel)) (fun _ => ?_)⟩
      refine ⟨_, rfl, rfl, _, rfl, ite2 (fun z => absurd z (by decide +kernel)) (fun _ => ?_)⟩
      refine ⟨_, rfl, rfl, _, rfl, ite2 (fun z => absurd z (by decide +kernel)) (fun _ => ?_)⟩
      refine ⟨_, rfl, rfl, _, rfl, ite2 (fun z => absurd z (by decide +kernel)) (fun _ => ?_)⟩
      refine ⟨_, rfl, rfl, _, rfl, ite2 (fun z => absurd z (by decide +kernel)) (fun _ => ?_)⟩
      refine ⟨_, rfl, rfl, _, rfl, ite2 (fun _ => ?_) (fun z => absurd (by decide +kernel) z)⟩
      refine ⟨_, rfl, L, _, _, _, rfl, rfl, SqL.of (hL), rfl, _, rfl, L, _, _, _, rfl, rfl, SqL.of (hL), rfl, (by show 3 ≤ sizeLine; decide), fun t ht => ?_⟩
      have u1 := same_upd (o := .tup [.int 7, .int a1, .int a2]) ht
      have htt : (upd H t (.tup [.int 7, .int a1, .int a2])) t = some (.tup (([7, a1, a2] : List Int).map V.int)) := upd_same
      generalize upd H t (.tup [.int 7, .int a1, .int a2]) = H1 at *
      refine fun x dx nx ndx nex => ⟨x, dx, t, [7, a1, a2], rfl, upd_same, mk_new nx ndx (Same.refl _) _ _ htt, (by show 3 ≤ 50; decide), fun g H3 fs sx hx3 => ⟨rfl, k1 (by rw [← all_7]; exact g) x _ dx fs H3 (mk_up nx ndx u1 sx) hx3 T.cl_Days T.io_Days T.ki_Days_Rule⟩, fun b => k2 (by rw [← all_7]; exact b) _ (mk_new nx ndx u1)⟩
    · skip
      refine ⟨_, rfl, rfl, _, rfl, ite2 (fun z => absurd z (by decide +kernel)) (fun _ => ?_)⟩
      refine ⟨_, rfl, rfl, _, rfl, ite2 (fun z => absurd z (by decide +kernel)) (fun _ => ?_)⟩
      refine ⟨_, rfl, rfl, _, rfl, ite2 (fun z => absurd z (by decide +kernel)) (fun _ => ?_)⟩
      refine ⟨_, rfl, rfl, _, rfl, ite2 (fun z => absurd z (by decide +kernel)) (fun _ => ?_)⟩
      refine ⟨_, rfl, rfl, _, rfl, ite2 (fun z => absurd z (by decide +kernel)) (fun _ => ?_)⟩
      refine ⟨_, rfl, rfl, _, rfl, ite2 (fun z => absurd z (by decide +kernel)) (fun _ => ?_)⟩
      refine ⟨_, rfl, rfl, _, rfl, ite2 (fun _ => ?_) (fun z => absurd (by decide +kernel) z)⟩
      refine fun y dy1 ny ndy ney => ⟨y, dy1, 1, 0, rfl, upd_same, fun _ H1 sx1 hy1 => ⟨rfl, ?_⟩, fun b => absurd b (by decide)⟩
      have S1 := mk_up ny ndy (Same.refl _) sx1
      refine ⟨_, rfl, L, _, _, _, rfl, rfl, SqL.of (S1 _ _ hL), rfl, fun x dx nx ndx nex => ⟨x, dx, .ref y, a1, rfl, upd_same, fun g H3 fs sx hx3 => ⟨rfl, k1 g x _ dx fs H3 (mk_up nx ndx S1 sx) hx3 T.cl_Shifted T.io_Shifted T.ki_Shifted_Rule⟩, fun b => k2 b _ (mk_new nx ndx S1)⟩⟩
    · skip
      refine ⟨_, rfl, rfl, _, rfl, ite2 (fun z => absurd z (by decide +kernel)) (fun _ => ?_)⟩
      refine ⟨_, rfl, rfl, _, rfl, ite2 (fun z => absurd z (by decide +kernel)) (fun _ => ?_)⟩
      refine ⟨_, rfl, rfl, _, rfl, ite2 (fun z => absurd z (by decide +kernel)) (fun _ => ?_)⟩
      refine ⟨_, rfl, rfl, _, rfl, ite2 (fun z => absurd z (by decide +kernel)) (fun _ => ?_)⟩
      refine ⟨_, rfl, rfl, _, rfl, ite2 (fun z => absurd z (by decide +kernel)) (fun _ => ?_)⟩
      refine ⟨_, rfl, rfl, _, rfl, ite2 (fun z => absurd z (by decide +kernel)) (fun _ => ?_)⟩
      refine ⟨_, rfl, rfl, _, rfl, ite2 (fun z => absurd z (by decide +kernel)) (fun _ => ?_)⟩
      refine ⟨_, rfl, rfl, _, rfl, ite2 (fun _ => ?_) (fun z => absurd (by decide +kernel) z)⟩
      refine fun y dy1 ny ndy ney => ⟨y, dy1, 2, 0, rfl, upd_same, fun _ H1 sx1 hy1 => ⟨rfl, ?_⟩, fun b => absurd b (by decide)⟩
      have S1 := mk_up ny ndy (Same.refl _) sx1
      refine ⟨_, rfl, L, _, _, _, rfl, rfl, SqL.of (S1 _ _ hL), rfl, (by show 2 ≤ sizeLine; decide), fun p hp => ?_⟩
      have u2 := same_upd (o := .tup [.int 3, .int a1]) hp
      have hpp : (upd H1 p (.tup [.int 3, .int a1])) p = some (.tup (([3, a1] : List Int).map V.int)) := upd_same
      generalize upd H1 p (.tup [.int 3, .int a1]) = H2 at *
      refine ⟨(by show 1 ≤ sizeLine; decide), fun q hq => ?_⟩
      have u3 := same_upd (o := .tup [.int 5]) hq
      have hqq : (upd H2 q (.tup [.int 5])) q = some (.tup (([5] : List Int).map V.int)) := upd_same
      generalize upd H2 q (.tup [.int 5]) = H3 at *
      have S3 := (S1.trans u2).trans u3
      have hy3 := u3 _ _ (u2 _ _ hy1)
      refine fun x dx nx ndx nex => ⟨x, dx, y, dy1, p, q, .non, [3, a1], [5], [], 2, 0, rfl, upd_same, ⟨mk_new nx ndx (Same.refl _) _ _ hy3, by decide, mk_new nx ndx (Same.refl _) _ _ (u3 _ _ hpp), mk_new nx ndx (Same.refl _) _ _ hqq, ne_of_none hy3 nx, (by show 2 ≤ 5; decide), (by show 1 ≤ 5; decide), (by show 0 ≤ 5; decide)⟩, .inl ⟨rfl, rfl⟩, fun g H4 fs sx hx3 => ⟨rfl, k1 (by rw [← ch_7]; exact g) x _ dx fs H4 (mk_up nx ndx S3 sx) hx3 T.cl_Changed T.io_Changed T.ki_Changed_Rule⟩, fun b H4 sx => k2 (by rw [← ch_7]; exact b) H4 (mk_up nx ndx S3 sx)⟩
    · skip
      refine ⟨_, rfl, rfl, _, rfl, ite2 (fun z => absurd z (by decide +kernel)) (fun _ => ?_)⟩
      refine ⟨_, rfl, rfl, _, rfl, ite2 (fun z => absurd z (by decide +kernel)) (fun _ => ?_)⟩
      refine ⟨_, rfl, rfl, _, rfl, ite2 (fun z => absurd z (by decide +kernel)) (fun _ => ?_)⟩
      refine ⟨_, rfl, rfl, _, rfl, ite2 (fun z => absurd z (by decide +kernel)) (fun _ => ?_)⟩
      refine ⟨_, rfl, rfl, _, rfl, ite2 (fun z => absurd z (by decide +kernel)) (fun _ => ?_)⟩
      refine ⟨_, rfl, rfl, _, rfl, ite2 (fun z => absurd z (by decide +kernel)) (fun _ => ?_)⟩
      refine ⟨_, rfl, rfl, _, rfl, ite2 (fun z => absurd z (by decide +kernel)) (fun _ => ?_)⟩
      refine ⟨_, rfl, rfl, _, rfl, ite2 (fun z => absurd z (by decide +kernel)) (fun _ => ?_)⟩
      refine fun y dy1 ny ndy ney => ⟨y, dy1, 2, 0, rfl, upd_same, fun _ H1 sx1 hy1 => ⟨rfl, ?_⟩, fun b => absurd b (by decide)⟩
      have S1 := mk_up ny ndy (Same.refl _) sx1
      refine ⟨(by show 0 ≤ sizeLine; decide), fun p hp => ?_⟩
      have u2 := same_upd (o := .tup []) hp
      have hpp : (upd H1 p (.tup [])) p = some (.tup (([] : List Int).map V.int)) := upd_same
      generalize upd H1 p (.tup []) = H2 at *
      refine ⟨(by show 1 ≤ sizeLine; decide), fun q hq => ?_⟩
      have u3 := same_upd (o := .tup [.int 9]) hq
      have hqq : (upd H2 q (.tup [.int 9])) q = some (.tup (([9] : List Int).map V.int)) := upd_same
      generalize upd H2 q (.tup [.int 9]) = H3 at *
      refine ⟨(by show 2 ≤ sizeLine; decide), fun t ht => ?_⟩
      have u4 := same_upd (o := .tup [.int 4, .int 6]) ht
      have htt : (upd H3 t (.tup [.int 4, .int 6])) t = some (.tup [.int 4, .int 6]) := upd_same
      generalize upd H3 t (.tup [.int 4, .int 6]) = H4 at *
      have S4 := ((S1.trans u2).trans u3).trans u4
      refine ⟨_, rfl, L, _, _, _, rfl, rfl, SqL.of (S4 _ _ hL), rfl, _, rfl, L, _, _, _, rfl, rfl, SqL.of (S4 _ _ hL), rfl, (by show 2 ≤ sizeLine; decide), fun v hv => ?_⟩
      have u5 := same_upd (o := .tup [.int a1, .int a2]) hv
      have hvv : (upd H4 v (.tup [.int a1, .int a2])) v = some (.tup [.int a1, .int a2]) := upd_same
      generalize upd H4 v (.tup [.int a1, .int a2]) = H5 at *
      refine ⟨(by show 2 ≤ sizeLine; decide), fun o ho => ?_⟩
      have u6 := same_upd (o := .tup [.ref t, .ref v]) ho
      have hoo : (upd H5 o (.tup [.ref t, .ref v])) o = some (.tup (refs [(t, 4, 6), (v, a1, a2)])) := upd_same
      generalize upd H5 o (.tup [.ref t, .ref v]) = H6 at *
      have S6 := (S4.trans u5).trans u6
      have w3 := (u4.trans u5).trans u6
      have hy6 := w3 _ _ (u3 _ _ (u2 _ _ hy1))
      refine fun x dx nx ndx nex => ⟨x, dx, y, dy1, p, q, .ref o, [], [9], [(t, 4, 6), (v, a1, a2)], 2, 0, rfl, upd_same, ⟨mk_new nx ndx (Same.refl _) _ _ hy6, by decide, mk_new nx ndx (Same.refl _) _ _ (w3 _ _ (u3 _ _ hpp)), mk_new nx ndx (Same.refl _) _ _ (w3 _ _ hqq), ne_of_none hy6 nx, (by show 0 ≤ 5; decide), (by show 1 ≤ 5; decide), (by show 2 ≤ 5; decide)⟩, .inr ⟨o, rfl, mk_new nx ndx (Same.refl _) _ _ hoo, ((RowOk.nil.app (u6 _ _ (u5 _ _ htt))).app (u6 _ _ hvv) : RowOk H6 [(t, 4, 6), (v, a1, a2)]).up (mk_new nx ndx (Same.refl _))⟩, fun g H7 fs sx hx3 => ⟨rfl, k1 (by rw [← ch_8 t v]; exact g) x _ dx fs H7 (mk_up nx ndx S6 sx) hx3 T.cl_Changed T.io_Changed T.ki_Changed_Rule⟩, fun b H7 sx => k2 (by rw [← ch_8 t v]; exact b) H7 (mk_up nx ndx S6 sx)⟩
end
end K13

namespace K13
open PySem L2
open DG (okW dy btw fe ab TB TEn Sh firsts)
section
variable {P : Program} {w : World} {K : PySem.W.Frag} {mg : Str → Option Value} {base : Heap} {a : Adr}
theorem sc_law_told : FnScope ["_law_way", "_law_some", "_law_made", "_law_e"] ["_law_way", "_law_some"] (defScope s_law_told) := ⟨rfl, rfl, rfl, by decide +kernel, rfl, by decide +kernel, by decide +kernel⟩

theorem ok_law_told (T : Txt K mg a) : FnOk P w K mg base CX0 true 8 a.f_law_told a.d_law_told ["_law_way", "_law_some"] (sp_law_told) := by
  refine T.F_law_told.ok sc_law_told (fun vs H Q E h => ?_) (fun cdv A outer s H vs Q E hr h => ?_)
  · obtain ⟨w, L, ns, rfl, _⟩ := h; rfl
  · obtain ⟨w, L, ns, rfl, hL, hsh, k⟩ := h
    refine ⟨_, (pss_cons (ps_tryAs (i := 3) rfl T.m_HouseError T.c_HouseError sc_law_told.nd rfl rfl rfl (fun pins Eb E hx => (pss_one (ps_set (i := 2) sc_law_told.nd rfl (Or.inl rfl) (pe_callT ((ok_law_make T).mono (by decide)) hr rfl T.m_law_make T.F_law_make.kp T.b_law_make .nil hx (pa_cons (pv 0) (pa_cons (pv 1) pa_nil)))))) (fun e => (pss_one (ps_ret (pe_ix (ix_listK (K := K) rfl) (pe_lst (pa_lits [.str "other", .str "refused"] (by decide +kernel))) (pe_callTy call_int1 rfl T.n_int (by decide +kernel) (pa_cons (pe_and (pe_callB (call_isiEK (K := K) rfl) rfl T.n_isinstance (by decide +kernel) (pa_cons (pv 3) (pa_cons (pe_globR rfl T.m_NoRule) pa_nil))) (pe_one (pe_call ((ok_law_alone T).mono (by decide)) (hr.mark _) rfl T.m_law_alone T.F_law_alone.kp T.b_law_alone .nil pass0 (pa_cons (pv 3) pa_nil)))) pa_nil)) (fun _ _ => rfl))))))
      (pss_one (ps_ret (pe_ix (ix_listK (K := K) rfl) (pe_lst (pa_lits [.str "other", .str "made"] (by decide +kernel))) (pe_callTy call_int1 rfl T.n_int (by decide +kernel) (pa_cons (pe_callB (call_isiOK (K := K) rfl) rfl T.n_isinstance (by decide +kernel) (pa_cons (pv 2) (pa_cons (pe_globR rfl T.m_Rule) pa_nil))) pa_nil)) (fun _ _ => rfl))))), ?_⟩
    refine ⟨_, rfl, _, rfl, w, L, ns, rfl, hL, hsh, fun good x C dx fs H1 s1 hx c1 c2 c3 => ?_, fun bad H1 s1 => ⟨a.x_NoRule, rfl, T.s_NoRule_HouseError, fun ev hev => ?_⟩⟩
    · refine ⟨(by show 2 ≤ sizeLine; decide), fun l hl => ?_⟩
      have u1 := same_upd (o := .lst [.str "other", .str "made"]) hl
      have k0 := k _ (s1.trans u1)
      rw [good] at k0
      exact ⟨_, rfl, x, C, _, dx, fs, _, rfl, u1 _ _ hx, c1, c2, c3, .inr ⟨_, rfl, l, _, _, _, rfl, rfl, SqL.of upd_same, rfl, k0⟩⟩
    · have u1 := same_upd (o := exo ev a.x_NoRule) hev
      refine ⟨(by show 2 ≤ sizeLine; decide), fun l2 hl2 => ?_⟩
      have u2 := same_upd (o := .lst [.str "other", .str "refused"]) hl2
      have he2 := u2 _ _ (upd_same (a := ev) (o := exo ev a.x_NoRule))
      refine ⟨_, rfl, ev, _, _, _, _, rfl, he2, T.e_NoRule, .inl ⟨_, rfl, rfl⟩, T.k_NoRule_NoRule, _, rfl, iteT ?_⟩
      refine ⟨_, rfl, ev, rfl, he2, fun H3 s3 => .inr ⟨_, rfl, l2, _, _, _, rfl, rfl, SqL.of (s3 _ _ upd_same), rfl, ?_⟩⟩
      have k0 := k _ (((s1.trans u1).trans u2).trans s3)
      rw [bad] at k0
      exact k0
end
end K13

namespace K13
open PySem L2
open DG (okW dy btw fe ab TB TEn Sh firsts)
section
variable {P : Program} {w : World} {K : PySem.W.Frag} {mg : Str → Option Value} {base : Heap} {a : Adr}
theorem sc_law_all_ends : FnScope ["_law_turn", "_law_bounds", "_law_way", "_law_pairs", "_law_spot", "_law_some"] ["_law_turn"] (defScope s_law_all_ends) := ⟨rfl, rfl, rfl, by decide +kernel, rfl, by decide +kernel, by decide +kernel⟩

theorem ok_law_all_ends (T : Txt K mg a) : FnOk P w K mg base CX0 true 9 a.f_law_all_ends a.d_law_all_ends ["_law_turn"] (sp_law_all_ends) := by
  refine T.F_law_all_ends.ok sc_law_all_ends (fun vs H Q E h => ?_) (fun cdv A outer s H vs Q E hr h => ?_)
  · obtain ⟨t, rfl, _⟩ := h; rfl
  · obtain ⟨t, rfl, t0, t1, k⟩ := h
    refine ⟨_, (pss_cut (ps_set (i := 1) sc_law_all_ends.nd rfl (Or.inl rfl) (pe_lst (pa_cons (pe_tup (pa_cons pe_int (pa_cons (pe_lst (pa_cons (pe_tup (pa_lits [.int 1, .int 146096] (by decide +kernel))) (pa_cons (pe_tup (pa_lits [.int 0, .int 146096] (by decide +kernel))) pa_nil))) pa_nil))) (pa_cons (pe_tup (pa_cons pe_int (pa_cons (pe_lst (pa_cons (pe_tup (pa_lits [.int 1, .int 127] (by decide +kernel))) (pa_cons (pe_tup (pa_lits [.int 0, .int 146096] (by decide +kernel))) (pa_cons (pe_tup (pa_lits [.int 1, .int 1000] (by decide +kernel))) pa_nil)))) pa_nil))) pa_nil))))
      (pss_cut (ps_set (i := 1) sc_law_all_ends.nd rfl (Or.inl rfl) (pe_op op_cat (pv 1) (pe_lst (pa_cons (pe_tup (pa_cons pe_int (pa_cons (pe_lst (pa_cons (pe_tup (pa_lits [.int (-31), .int 31] (by decide +kernel))) (pa_cons (pe_tup (pa_lits [.int 0, .int 146096] (by decide +kernel))) (pa_cons (pe_tup (pa_lits [.int 1, .int 1000] (by decide +kernel))) pa_nil)))) pa_nil))) (pa_cons (pe_tup (pa_cons pe_int (pa_cons (pe_lst (pa_cons (pe_tup (pa_lits [.int (-5), .int 5] (by decide +kernel))) (pa_cons (pe_tup (pa_lits [.int 0, .int 6] (by decide +kernel))) (pa_cons (pe_tup (pa_lits [.int 0, .int 146096] (by decide +kernel))) (pa_cons (pe_tup (pa_lits [.int 1, .int 1000] (by decide +kernel))) pa_nil))))) pa_nil))) pa_nil)))))
      (pss_cut (ps_set (i := 1) sc_law_all_ends.nd rfl (Or.inl rfl) (pe_op op_cat (pv 1) (pe_lst (pa_cons (pe_tup (pa_cons pe_int (pa_cons (pe_lst (pa_cons (pe_tup (pa_lits [.int 1, .int 12] (by decide +kernel))) (pa_cons (pe_tup (pa_lits [.int 1, .int 31] (by decide +kernel))) (pa_cons (pe_tup (pa_lits [.int 0, .int 146096] (by decide +kernel))) (pa_cons (pe_tup (pa_lits [.int 1, .int 1000] (by decide +kernel))) pa_nil))))) pa_nil))) (pa_cons (pe_tup (pa_cons pe_int (pa_cons (pe_lst (pa_cons (pe_tup (pa_lits [.int 0, .int 146096] (by decide +kernel))) (pa_cons (pe_tup (pa_lits [.int 0, .int 146096] (by decide +kernel))) pa_nil))) pa_nil))) pa_nil)))))
      (pss_cut (ps_set (i := 1) sc_law_all_ends.nd rfl (Or.inl rfl) (pe_op op_cat (pv 1) (pe_lst (pa_cons (pe_tup (pa_cons pe_int (pa_cons (pe_lst (pa_cons (pe_tup (pa_lits [.int (-1000), .int 1000] (by decide +kernel))) pa_nil)) pa_nil))) (pa_cons (pe_tup (pa_cons pe_int (pa_cons (pe_lst (pa_cons (pe_tup (pa_lits [.int 0, .int 146096] (by decide +kernel))) pa_nil)) pa_nil))) (pa_cons (pe_tup (pa_cons pe_int (pa_cons (pe_lst (pa_cons (pe_tup (pa_lits [.int 0, .int 146096] (by decide +kernel))) (pa_cons (pe_tup (pa_lits [.int 0, .int 146096] (by decide +kernel))) pa_nil))) pa_nil))) pa_nil))))))
      (pss_cons (ps_for PassesOwn.never rfl (pi_listK (K := K) rfl (pv 1)) (pg_tup rfl (pgs_cons (pg_name (i := 2) sc_law_all_ends.nd rfl (Or.inl rfl)) (pgs_cons (pg_name (i := 3) sc_law_all_ends.nd rfl (Or.inl rfl)) pgs_nil))) (pss_one (ps_for PassesOwn.never rfl (pi_range1 rfl T.n_range (pa_cons (pe_callB (call_len_seqK (K := K) rfl) rfl T.n_len (by decide +kernel) (pa_cons (pv 3) pa_nil)) pa_nil)) (pg_name (i := 4) sc_law_all_ends.nd rfl (Or.inl rfl)) (pss_cons (ps_setComp (i0 := 5) sc_law_all_ends.nd rfl rfl (N := ["_law_pair"]) (cap := [none]) (by show CompScope (defScope s_law_all_ends) _ ["_law_turn", "_law_bounds", "_law_way", "_law_pairs", "_law_spot", "_law_some"] _ _; exact ⟨rfl, by decide +kernel, by decide +kernel, by decide +kernel, by decide +kernel, rfl, by decide +kernel⟩) rfl (pi_listK (K := K) rfl (pv 3)) (fun C s H fp => ⟨(pg_name (i := 0) (by show (["_law_pair"] : List Str).Nodup; decide +kernel) rfl (Or.inl rfl) (.inr rfl)), pf_none, (pe_ix (ix_tupK (K := K) rfl) (pv 0) pe_int (fun _ _ => rfl))⟩))
      (pss_cons (ps_asg (pe_op op_add (pe_ix (ix_tupK (K := K) rfl) (pe_ix (ix_listK (K := K) rfl) (pv 3) (pv 4) (fun _ _ => rfl)) (pe_op op_mod (pv 0) pe_int) (fun _ _ => rfl)) (pe_ix (ix_listK (K := K) rfl) (pe_lst (pa_lits [.int 0, .int 0, .int (-1), .int 1] (by decide +kernel))) (pv 0) (fun _ _ => rfl))) (pg_sub (pv 5) (pv 4) set_list))
      (pss_one (ps_if (pt_cmpR op_ne (pe_call ((ok_law_told T).mono (by decide)) hr rfl T.m_law_told T.F_law_told.kp T.b_law_told .nil pass0 (pa_cons (pv 2) (pa_cons (pv 5) pa_nil))) (pe_ix (ix_listK (K := K) rfl) (pe_lst (pa_lits [.str "made", .str "refused"] (by decide +kernel))) (pe_op op_fdiv (pv 0) pe_int) (fun _ _ => rfl)) (nomark _)) (pss_one ps_never) pss_nil)))))))
      (pss_one (ps_ret (pe_and (pe_cmpR op_eq (pe_call ((ok_law_told T).mono (by decide)) hr rfl T.m_law_told T.F_law_told.kp T.b_law_told .nil pass0 (pa_cons pe_int (pa_cons (pe_lst (pa_lits [.int 0, .int 0, .int 1] (by decide +kernel))) pa_nil))) pe_str (nomark _)) (pe_one (pe_cmpR op_eq (pe_call ((ok_law_told T).mono (by decide)) hr rfl T.m_law_told T.F_law_told.kp T.b_law_told .nil pass0 (pa_cons pe_int (pa_cons (pe_lst (pa_lits [.int 0, .int 0, .int 0, .int 1] (by decide +kernel))) pa_nil))) pe_str (nomark _))))))))))), ?_⟩
    refine ⟨fun σ' H' => ∃ B es, Same H H' ∧ H' B = some (.lst (erefs es)) ∧ ElOk H' es ∧ etbl es = TEW.take 2 ∧ σ' = [some (.int t), some (.ref B), none, none, none, none], ?_, ?_⟩
    · skip
      refine ⟨(by show 2 ≤ sizeLine; decide), fun tA00 htA00 => ?_⟩
      have u1 := same_upd (o := .tup [.int 1, .int 146096]) htA00
      have ftA00 : (upd H tA00 (.tup [.int 1, .int 146096])) tA00 = some (.tup [.int 1, .int 146096]) := upd_same
      generalize upd H tA00 (.tup [.int 1, .int 146096]) = H1 at *
      refine ⟨(by show 2 ≤ sizeLine; decide), fun tA01 htA01 => ?_⟩
      have u2 := same_upd (o := .tup [.int 0, .int 146096]) htA01
      have ftA01 : (upd H1 tA01 (.tup [.int 0, .int 146096])) tA01 = some (.tup [.int 0, .int 146096]) := upd_same
      generalize upd H1 tA01 (.tup [.int 0, .int 146096]) = H2 at *
      refine ⟨(by show 2 ≤ sizeLine; decide), fun lA0 hlA0 => ?_⟩
      have u3 := same_upd (o := .lst [.ref tA00, .ref tA01]) hlA0
      have flA0 : (upd H2 lA0 (.lst [.ref tA00, .ref tA01])) lA0 = some (.lst [.ref tA00, .ref tA01]) := upd_same
      generalize upd H2 lA0 (.lst [.ref tA00, .ref tA01]) = H3 at *
      refine ⟨(by show 2 ≤ sizeLine; decide), fun eA0 heA0 => ?_⟩
      have u4 := same_upd (o := .tup [.int 0, .ref lA0]) heA0
      have feA0 : (upd H3 eA0 (.tup [.int 0, .ref lA0])) eA0 = some (.tup [.int 0, .ref lA0]) := upd_same
      generalize upd H3 eA0 (.tup [.int 0, .ref lA0]) = H4 at *
      refine ⟨(by show 2 ≤ sizeLine; decide), fun tA10 htA10 => ?_⟩
      have u5 := same_upd (o := .tup [.int 1, .int 127]) htA10
      have ftA10 : (upd H4 tA10 (.tup [.int 1, .int 127])) tA10 = some (.tup [.int 1, .int 127]) := upd_same
      generalize upd H4 tA10 (.tup [.int 1, .int 127]) = H5 at *
      refine ⟨(by show 2 ≤ sizeLine; decide), fun tA11 htA11 => ?_⟩
      have u6 := same_upd (o := .tup [.int 0, .int 146096]) htA11
      have ftA11 : (upd H5 tA11 (.tup [.int 0, .int 146096])) tA11 = some (.tup [.int 0, .int 146096]) := upd_same
      generalize upd H5 tA11 (.tup [.int 0, .int 146096]) = H6 at *
      refine ⟨(by show 2 ≤ sizeLine; decide), fun tA12 htA12 => ?_⟩
      have u7 := same_upd (o := .tup [.int 1, .int 1000]) htA12
      have ftA12 : (upd H6 tA12 (.tup [.int 1, .int 1000])) tA12 = some (.tup [.int 1, .int 1000]) := upd_same
      generalize upd H6 tA12 (.tup [.int 1, .int 1000]) = H7 at *
      refine ⟨(by show 3 ≤ sizeLine; decide), fun lA1 hlA1 => ?_⟩
      have u8 := same_upd (o := .lst [.ref tA10, .ref tA11, .ref tA12]) hlA1
      have flA1 : (upd H7 lA1 (.lst [.ref tA10, .ref tA11, .ref tA12])) lA1 = some (.lst [.ref tA10, .ref tA11, .ref tA12]) := upd_same
      generalize upd H7 lA1 (.lst [.ref tA10, .ref tA11, .ref tA12]) = H8 at *
      refine ⟨(by show 2 ≤ sizeLine; decide), fun eA1 heA1 => ?_⟩
      have u9 := same_upd (o := .tup [.int 1, .ref lA1]) heA1
      have feA1 : (upd H8 eA1 (.tup [.int 1, .ref lA1])) eA1 = some (.tup [.int 1, .ref lA1]) := upd_same
      generalize upd H8 eA1 (.tup [.int 1, .ref lA1]) = H9 at *
      refine ⟨(by show 2 ≤ sizeLine; decide), fun oA hoA => ?_⟩
      have u10 := same_upd (o := .lst [.ref eA0, .ref eA1]) hoA
      have foA : (upd H9 oA (.lst [.ref eA0, .ref eA1])) oA = some (.lst [.ref eA0, .ref eA1]) := upd_same
      generalize upd H9 oA (.lst [.ref eA0, .ref eA1]) = H10 at *
      have v10 := Same.refl H10
      have v9 := u10.trans v10
      have v8 := u9.trans v9
      have v7 := u8.trans v8
      have v6 := u7.trans v7
      have v5 := u6.trans v6
      have v4 := u5.trans v5
      have v3 := u4.trans v4
      have v2 := u3.trans v3
      have v1 := u2.trans v2
      have rlA0 : RowAt H10 lA0 [(tA00, 1, 146096), (tA01, 0, 146096)] := ⟨v3 _ _ flA0, ((RowOk.nil.app (v1 _ _ ftA00)).app (v2 _ _ ftA01))⟩
      have rlA1 : RowAt H10 lA1 [(tA10, 1, 127), (tA11, 0, 146096), (tA12, 1, 1000)] := ⟨v8 _ _ flA1, (((RowOk.nil.app (v5 _ _ ftA10)).app (v6 _ _ ftA11)).app (v7 _ _ ftA12))⟩
      have elA : ElOk H10 [(eA0, 0, lA0, [(tA00, 1, 146096), (tA01, 0, 146096)]), (eA1, 1, lA1, [(tA10, 1, 127), (tA11, 0, 146096), (tA12, 1, 1000)])] := (el_app (el_app el_nil (v4 _ _ feA0) rlA0) (v9 _ _ feA1) rlA1)
      have SA : Same H H10 := u1.trans v1
      clear v1 v2 v3 v4 v5 v6 v7 v8 v9 v10
      exact ⟨oA, [(eA0, 0, lA0, [(tA00, 1, 146096), (tA01, 0, 146096)]), (eA1, 1, lA1, [(tA10, 1, 127), (tA11, 0, 146096), (tA12, 1, 1000)])], SA, foA, elA, rfl, rfl⟩
    rintro σ H1 ⟨B, es, s1, hB, hE, hT, rfl⟩
    refine ⟨fun σ' H' => ∃ B es, Same H H' ∧ H' B = some (.lst (erefs es)) ∧ ElOk H' es ∧ etbl es = TEW.take 4 ∧ σ' = [some (.int t), some (.ref B), none, none, none, none], ?_, ?_⟩
    · refine ⟨_, rfl, ?_⟩
      refine ⟨(by show 2 ≤ sizeLine; decide), fun tB00 htB00 => ?_⟩
      have u2 := same_upd (o := .tup [.int (-31), .int 31]) htB00
      have ftB00 : (upd H1 tB00 (.tup [.int (-31), .int 31])) tB00 = some (.tup [.int (-31), .int 31]) := upd_same
      generalize upd H1 tB00 (.tup [.int (-31), .int 31]) = H2 at *
      refine ⟨(by show 2 ≤ sizeLine; decide), fun tB01 htB01 => ?_⟩
      have u3 := same_upd (o := .tup [.int 0, .int 146096]) htB01
      have ftB01 : (upd H2 tB01 (.tup [.int 0, .int 146096])) tB01 = some (.tup [.int 0, .int 146096]) := upd_same
      generalize upd H2 tB01 (.tup [.int 0, .int 146096]) = H3 at *
      refine ⟨(by show 2 ≤ sizeLine; decide), fun tB02 htB02 => ?_⟩
      have u4 := same_upd (o := .tup [.int 1, .int 1000]) htB02
      have ftB02 : (upd H3 tB02 (.tup [.int 1, .int 1000])) tB02 = some (.tup [.int 1, .int 1000]) := upd_same
      generalize upd H3 tB02 (.tup [.int 1, .int 1000]) = H4 at *
      refine ⟨(by show 3 ≤ sizeLine; decide), fun lB0 hlB0 => ?_⟩
      have u5 := same_upd (o := .lst [.ref tB00, .ref tB01, .ref tB02]) hlB0
      have flB0 : (upd H4 lB0 (.lst [.ref tB00, .ref tB01, .ref tB02])) lB0 = some (.lst [.ref tB00, .ref tB01, .ref tB02]) := upd_same
      generalize upd H4 lB0 (.lst [.ref tB00, .ref tB01, .ref tB02]) = H5 at *
      refine ⟨(by show 2 ≤ sizeLine; decide), fun eB0 heB0 => ?_⟩
      have u6 := same_upd (o := .tup [.int 2, .ref lB0]) heB0
      have feB0 : (upd H5 eB0 (.tup [.int 2, .ref lB0])) eB0 = some (.tup [.int 2, .ref lB0]) := upd_same
      generalize upd H5 eB0 (.tup [.int 2, .ref lB0]) = H6 at *
      refine ⟨(by show 2 ≤ sizeLine; decide), fun tB10 htB10 => ?_⟩
      have u7 := same_upd (o := .tup [.int (-5), .int 5]) htB10
      have ftB10 : (upd H6 tB10 (.tup [.int (-5), .int 5])) tB10 = some (.tup [.int (-5), .int 5]) := upd_same
      generalize upd H6 tB10 (.tup [.int (-5), .int 5]) = H7 at *
      refine ⟨(by show 2 ≤ sizeLine; decide), fun tB11 htB11 => ?_⟩
      have u8 := same_upd (o := .tup [.int 0, .int 6]) htB11
      have ftB11 : (upd H7 tB11 (.tup [.int 0, .int 6])) tB11 = some (.tup [.int 0, .int 6]) := upd_same
      generalize upd H7 tB11 (.tup [.int 0, .int 6]) = H8 at *
      refine ⟨(by show 2 ≤ sizeLine; decide), fun tB12 htB12 => ?_⟩
      have u9 := same_upd (o := .tup [.int 0, .int 146096]) htB12
      have ftB12 : (upd H8 tB12 (.tup [.int 0, .int 146096])) tB12 = some (.tup [.int 0, .int 146096]) := upd_same
      generalize upd H8 tB12 (.tup [.int 0, .int 146096]) = H9 at *
      refine ⟨(by show 2 ≤ sizeLine; decide), fun tB13 htB13 => ?_⟩
      have u10 := same_upd (o := .tup [.int 1, .int 1000]) htB13
      have ftB13 : (upd H9 tB13 (.tup [.int 1, .int 1000])) tB13 = some (.tup [.int 1, .int 1000]) := upd_same
      generalize upd H9 tB13 (.tup [.int 1, .int 1000]) = H10 at *
      refine ⟨(by show 4 ≤ sizeLine; decide), fun lB1 hlB1 => ?_⟩
      have u11 := same_upd (o := .lst [.ref tB10, .ref tB11, .ref tB12, .ref tB13]) hlB1
      have flB1 : (upd H10 lB1 (.lst [.ref tB10, .ref tB11, .ref tB12, .ref tB13])) lB1 = some (.lst [.ref tB10, .ref tB11, .ref tB12, .ref tB13]) := upd_same
      generalize upd H10 lB1 (.lst [.ref tB10, .ref tB11, .ref tB12, .ref tB13]) = H11 at *
      refine ⟨(by show 2 ≤ sizeLine; decide), fun eB1 heB1 => ?_⟩
      have u12 := same_upd (o := .tup [.int 3, .ref lB1]) heB1
      have feB1 : (upd H11 eB1 (.tup [.int 3, .ref lB1])) eB1 = some (.tup [.int 3, .ref lB1]) := upd_same
      generalize upd H11 eB1 (.tup [.int 3, .ref lB1]) = H12 at *
      refine ⟨(by show 2 ≤ sizeLine; decide), fun oB hoB => ?_⟩
      have u13 := same_upd (o := .lst [.ref eB0, .ref eB1]) hoB
      have foB : (upd H12 oB (.lst [.ref eB0, .ref eB1])) oB = some (.lst [.ref eB0, .ref eB1]) := upd_same
      generalize upd H12 oB (.lst [.ref eB0, .ref eB1]) = H13 at *
      have v13 := Same.refl H13
      have v12 := u13.trans v13
      have v11 := u12.trans v12
      have v10 := u11.trans v11
      have v9 := u10.trans v10
      have v8 := u9.trans v9
      have v7 := u8.trans v8
      have v6 := u7.trans v7
      have v5 := u6.trans v6
      have v4 := u5.trans v5
      have v3 := u4.trans v4
      have v2 := u3.trans v3
      have rlB0 : RowAt H13 lB0 [(tB00, (-31), 31), (tB01, 0, 146096), (tB02, 1, 1000)] := ⟨v5 _ _ flB0, (((RowOk.nil.app (v2 _ _ ftB00)).app (v3 _ _ ftB01)).app (v4 _ _ ftB02))⟩
      have rlB1 : RowAt H13 lB1 [(tB10, (-5), 5), (tB11, 0, 6), (tB12, 0, 146096), (tB13, 1, 1000)] := ⟨v11 _ _ flB1, ((((RowOk.nil.app (v7 _ _ ftB10)).app (v8 _ _ ftB11)).app (v9 _ _ ftB12)).app (v10 _ _ ftB13))⟩
      have elB : ElOk H13 [(eB0, 2, lB0, [(tB00, (-31), 31), (tB01, 0, 146096), (tB02, 1, 1000)]), (eB1, 3, lB1, [(tB10, (-5), 5), (tB11, 0, 6), (tB12, 0, 146096), (tB13, 1, 1000)])] := (el_app (el_app el_nil (v6 _ _ feB0) rlB0) (v12 _ _ feB1) rlB1)
      have SB : Same H1 H13 := u2.trans v2
      clear v2 v3 v4 v5 v6 v7 v8 v9 v10 v11 v12 v13
      refine ⟨B, oB, _, _, rfl, rfl, SB _ _ hB, foB, ?_, fun N hN => ?_⟩
      · have := congrArg List.length hT
        unfold etbl at this
        rw [List.length_map] at this
        unfold erefs
        rw [List.length_map, this]
        show 2 + 2 ≤ sizeLine
        decide
      have uN := same_upd (o := .lst (erefs es ++ [.ref eB0, .ref eB1])) hN
      exact ⟨N, es ++ [(eB0, 2, lB0, [(tB00, (-31), 31), (tB01, 0, 146096), (tB02, 1, 1000)]), (eB1, 3, lB1, [(tB10, (-5), 5), (tB11, 0, 6), (tB12, 0, 146096), (tB13, 1, 1000)])], (s1.trans SB).trans uN, upd_same.trans (congrArg (fun z => some (HO.lst z)) (erefs_two es [(eB0, 2, lB0, [(tB00, (-31), 31), (tB01, 0, 146096), (tB02, 1, 1000)]), (eB1, 3, lB1, [(tB10, (-5), 5), (tB11, 0, 6), (tB12, 0, 146096), (tB13, 1, 1000)])])), (el_two (hE.up SB) elB).up uN, by unfold etbl at hT ⊢; rw [List.map_append, hT]; rfl, rfl⟩
    rintro σ H1 ⟨B, es, s1, hB, hE, hT, rfl⟩
    refine ⟨fun σ' H' => ∃ B es, Same H H' ∧ H' B = some (.lst (erefs es)) ∧ ElOk H' es ∧ etbl es = TEW.take 6 ∧ σ' = [some (.int t), some (.ref B), none, none, none, none], ?_, ?_⟩
    · refine ⟨_, rfl, ?_⟩
      refine ⟨(by show 2 ≤ sizeLine; decide), fun tC00 htC00 => ?_⟩
      have u2 := same_upd (o := .tup [.int 1, .int 12]) htC00
      have ftC00 : (upd H1 tC00 (.tup [.int 1, .int 12])) tC00 = some (.tup [.int 1, .int 12]) := upd_same
      generalize upd H1 tC00 (.tup [.int 1, .int 12]) = H2 at *
      refine ⟨(by show 2 ≤ sizeLine; decide), fun tC01 htC01 => ?_⟩
      have u3 := same_upd (o := .tup [.int 1, .int 31]) htC01
      have ftC01 : (upd H2 tC01 (.tup [.int 1, .int 31])) tC01 = some (.tup [.int 1, .int 31]) := upd_same
      generalize upd H2 tC01 (.tup [.int 1, .int 31]) = H3 at *
      refine ⟨(by show 2 ≤ sizeLine; decide), fun tC02 htC02 => ?_⟩
      have u4 := same_upd (o := .tup [.int 0, .int 146096]) htC02
      have ftC02 : (upd H3 tC02 (.tup [.int 0, .int 146096])) tC02 = some (.tup [.int 0, .int 146096]) := upd_same
      generalize upd H3 tC02 (.tup [.int 0, .int 146096]) = H4 at *
      refine ⟨(by show 2 ≤ sizeLine; decide), fun tC03 htC03 => ?_⟩
      have u5 := same_upd (o := .tup [.int 1, .int 1000]) htC03
      have ftC03 : (upd H4 tC03 (.tup [.int 1, .int 1000])) tC03 = some (.tup [.int 1, .int 1000]) := upd_same
      generalize upd H4 tC03 (.tup [.int 1, .int 1000]) = H5 at *
      refine ⟨(by show 4 ≤ sizeLine; decide), fun lC0 hlC0 => ?_⟩
      have u6 := same_upd (o := .lst [.ref tC00, .ref tC01, .ref tC02, .ref tC03]) hlC0
      have flC0 : (upd H5 lC0 (.lst [.ref tC00, .ref tC01, .ref tC02, .ref tC03])) lC0 = some (.lst [.ref tC00, .ref tC01, .ref tC02, .ref tC03]) := upd_same
      generalize upd H5 lC0 (.lst [.ref tC00, .ref tC01, .ref tC02, .ref tC03]) = H6 at *
      refine ⟨(by show 2 ≤ sizeLine; decide), fun eC0 heC0 => ?_⟩
      have u7 := same_upd (o := .tup [.int 4, .ref lC0]) heC0
      have feC0 : (upd H6 eC0 (.tup [.int 4, .ref lC0])) eC0 = some (.tup [.int 4, .ref lC0]) := upd_same
      generalize upd H6 eC0 (.tup [.int 4, .ref lC0]) = H7 at *
      refine ⟨(by show 2 ≤ sizeLine; decide), fun tC10 htC10 => ?_⟩
      have u8 := same_upd (o := .tup [.int 0, .int 146096]) htC10
      have ftC10 : (upd H7 tC10 (.tup [.int 0, .int 146096])) tC10 = some (.tup [.int 0, .int 146096]) := upd_same
      generalize upd H7 tC10 (.tup [.int 0, .int 146096]) = H8 at *
      refine ⟨(by show 2 ≤ sizeLine; decide), fun tC11 htC11 => ?_⟩
      have u9 := same_upd (o := .tup [.int 0, .int 146096]) htC11
      have ftC11 : (upd H8 tC11 (.tup [.int 0, .int 146096])) tC11 = some (.tup [.int 0, .int 146096]) := upd_same
      generalize upd H8 tC11 (.tup [.int 0, .int 146096]) = H9 at *
      refine ⟨(by show 2 ≤ sizeLine; decide), fun lC1 hlC1 => ?_⟩
      have u10 := same_upd (o := .lst [.ref tC10, .ref tC11]) hlC1
      have flC1 : (upd H9 lC1 (.lst [.ref tC10, .ref tC11])) lC1 = some (.lst [.ref tC10, .ref tC11]) := upd_same
      generalize upd H9 lC1 (.lst [.ref tC10, .ref tC11]) = H10 at *
      refine ⟨(by show 2 ≤ sizeLine; decide), fun eC1 heC1 => ?_⟩
      have u11 := same_upd (o := .tup [.int 5, .ref lC1]) heC1
      have feC1 : (upd H10 eC1 (.tup [.int 5, .ref lC1])) eC1 = some (.tup [.int 5, .ref lC1]) := upd_same
      generalize upd H10 eC1 (.tup [.int 5, .ref lC1]) = H11 at *
      refine ⟨(by show 2 ≤ sizeLine; decide), fun oC hoC => ?_⟩
      have u12 := same_upd (o := .lst [.ref eC0, .ref eC1]) hoC
      have foC : (upd H11 oC (.lst [.ref eC0, .ref eC1])) oC = some (.lst [.ref eC0, .ref eC1]) := upd_same
      generalize upd H11 oC (.lst [.ref eC0, .ref eC1]) = H12 at *
      have v12 := Same.refl H12
      have v11 := u12.trans v12
      have v10 := u11.trans v11
      have v9 := u10.trans v10
      have v8 := u9.trans v9
      have v7 := u8.trans v8
      have v6 := u7.trans v7
      have v5 := u6.trans v6
      have v4 := u5.trans v5
      have v3 := u4.trans v4
      have v2 := u3.trans v3
      have rlC0 : RowAt H12 lC0 [(tC00, 1, 12), (tC01, 1, 31), (tC02, 0, 146096), (tC03, 1, 1000)] := ⟨v6 _ _ flC0, ((((RowOk.nil.app (v2 _ _ ftC00)).app (v3 _ _ ftC01)).app (v4 _ _ ftC02)).app (v5 _ _ ftC03))⟩
      have rlC1 : RowAt H12 lC1 [(tC10, 0, 146096), (tC11, 0, 146096)] := ⟨v10 _ _ flC1, ((RowOk.nil.app (v8 _ _ ftC10)).app (v9 _ _ ftC11))⟩
      have elC : ElOk H12 [(eC0, 4, lC0, [(tC00, 1, 12), (tC01, 1, 31), (tC02, 0, 146096), (tC03, 1, 1000)]), (eC1, 5, lC1, [(tC10, 0, 146096), (tC11, 0, 146096)])] := (el_app (el_app el_nil (v7 _ _ feC0) rlC0) (v11 _ _ feC1) rlC1)
      have SC : Same H1 H12 := u2.trans v2
      clear v2 v3 v4 v5 v6 v7 v8 v9 v10 v11 v12
      refine ⟨B, oC, _, _, rfl, rfl, SC _ _ hB, foC, ?_, fun N hN => ?_⟩
      · have := congrArg List.length hT
        unfold etbl at this
        rw [List.length_map] at this
        unfold erefs
        rw [List.length_map, this]
        show 4 + 2 ≤ sizeLine
        decide
      have uN := same_upd (o := .lst (erefs es ++ [.ref eC0, .ref eC1])) hN
      exact ⟨N, es ++ [(eC0, 4, lC0, [(tC00, 1, 12), (tC01, 1, 31), (tC02, 0, 146096), (tC03, 1, 1000)]), (eC1, 5, lC1, [(tC10, 0, 146096), (tC11, 0, 146096)])], (s1.trans SC).trans uN, upd_same.trans (congrArg (fun z => some (HO.lst z)) (erefs_two es [(eC0, 4, lC0, [(tC00, 1, 12), (tC01, 1, 31), (tC02, 0, 146096), (tC03, 1, 1000)]), (eC1, 5, lC1, [(tC10, 0, 146096), (tC11, 0, 146096)])])), (el_two (hE.up SC) elC).up uN, by unfold etbl at hT ⊢; rw [List.map_append, hT]; rfl, rfl⟩
    rintro σ H1 ⟨B, es, s1, hB, hE, hT, rfl⟩
    refine ⟨fun σ' H' => ∃ B es, Same H H' ∧ H' B = some (.lst (erefs es)) ∧ ElOk H' es ∧ etbl es = TEW.take 9 ∧ σ' = [some (.int t), some (.ref B), none, none, none, none], ?_, ?_⟩
    · refine ⟨_, rfl, ?_⟩
      refine ⟨(by show 2 ≤ sizeLine; decide), fun tD00 htD00 => ?_⟩
      have u2 := same_upd (o := .tup [.int (-1000), .int 1000]) htD00
      have ftD00 : (upd H1 tD00 (.tup [.int (-1000), .int 1000])) tD00 = some (.tup [.int (-1000), .int 1000]) := upd_same
      generalize upd H1 tD00 (.tup [.int (-1000), .int 1000]) = H2 at *
      refine ⟨(by show 1 ≤ sizeLine; decide), fun lD0 hlD0 => ?_⟩
      have u3 := same_upd (o := .lst [.ref tD00]) hlD0
      have flD0 : (upd H2 lD0 (.lst [.ref tD00])) lD0 = some (.lst [.ref tD00]) := upd_same
      generalize upd H2 lD0 (.lst [.ref tD00]) = H3 at *
      refine ⟨(by show 2 ≤ sizeLine; decide), fun eD0 heD0 => ?_⟩
      have u4 := same_upd (o := .tup [.int 6, .ref lD0]) heD0
      have feD0 : (upd H3 eD0 (.tup [.int 6, .ref lD0])) eD0 = some (.tup [.int 6, .ref lD0]) := upd_same
      generalize upd H3 eD0 (.tup [.int 6, .ref lD0]) = H4 at *
      refine ⟨(by show 2 ≤ sizeLine; decide), fun tD10 htD10 => ?_⟩
      have u5 := same_upd (o := .tup [.int 0, .int 146096]) htD10
      have ftD10 : (upd H4 tD10 (.tup [.int 0, .int 146096])) tD10 = some (.tup [.int 0, .int 146096]) := upd_same
      generalize upd H4 tD10 (.tup [.int 0, .int 146096]) = H5 at *
      refine ⟨(by show 1 ≤ sizeLine; decide), fun lD1 hlD1 => ?_⟩
      have u6 := same_upd (o := .lst [.ref tD10]) hlD1
      have flD1 : (upd H5 lD1 (.lst [.ref tD10])) lD1 = some (.lst [.ref tD10]) := upd_same
      generalize upd H5 lD1 (.lst [.ref tD10]) = H6 at *
      refine ⟨(by show 2 ≤ sizeLine; decide), fun eD1 heD1 => ?_⟩
      have u7 := same_upd (o := .tup [.int 7, .ref lD1]) heD1
      have feD1 : (upd H6 eD1 (.tup [.int 7, .ref lD1])) eD1 = some (.tup [.int 7, .ref lD1]) := upd_same
      generalize upd H6 eD1 (.tup [.int 7, .ref lD1]) = H7 at *
      refine ⟨(by show 2 ≤ sizeLine; decide), fun tD20 htD20 => ?_⟩
      have u8 := same_upd (o := .tup [.int 0, .int 146096]) htD20
      have ftD20 : (upd H7 tD20 (.tup [.int 0, .int 146096])) tD20 = some (.tup [.int 0, .int 146096]) := upd_same
      generalize upd H7 tD20 (.tup [.int 0, .int 146096]) = H8 at *
      refine ⟨(by show 2 ≤ sizeLine; decide), fun tD21 htD21 => ?_⟩
      have u9 := same_upd (o := .tup [.int 0, .int 146096]) htD21
      have ftD21 : (upd H8 tD21 (.tup [.int 0, .int 146096])) tD21 = some (.tup [.int 0, .int 146096]) := upd_same
      generalize upd H8 tD21 (.tup [.int 0, .int 146096]) = H9 at *
      refine ⟨(by show 2 ≤ sizeLine; decide), fun lD2 hlD2 => ?_⟩
      have u10 := same_upd (o := .lst [.ref tD20, .ref tD21]) hlD2
      have flD2 : (upd H9 lD2 (.lst [.ref tD20, .ref tD21])) lD2 = some (.lst [.ref tD20, .ref tD21]) := upd_same
      generalize upd H9 lD2 (.lst [.ref tD20, .ref tD21]) = H10 at *
      refine ⟨(by show 2 ≤ sizeLine; decide), fun eD2 heD2 => ?_⟩
      have u11 := same_upd (o := .tup [.int 8, .ref lD2]) heD2
      have feD2 : (upd H10 eD2 (.tup [.int 8, .ref lD2])) eD2 = some (.tup [.int 8, .ref lD2]) := upd_same
      generalize upd H10 eD2 (.tup [.int 8, .ref lD2]) = H11 at *
      refine ⟨(by show 3 ≤ sizeLine; decide), fun oD hoD => ?_⟩
      have u12 := same_upd (o := .lst [.ref eD0, .ref eD1, .ref eD2]) hoD
      have foD : (upd H11 oD (.lst [.ref eD0, .ref eD1, .ref eD2])) oD = some (.lst [.ref eD0, .ref eD1, .ref eD2]) := upd_same
      generalize upd H11 oD (.lst [.ref eD0, .ref eD1, .ref eD2]) = H12 at *
      have v12 := Same.refl H12
      have v11 := u12.trans v12
      have v10 := u11.trans v11
      have v9 := u10.trans v10
      have v8 := u9.trans v9
      have v7 := u8.trans v8
      have v6 := u7.trans v7
      have v5 := u6.trans v6
      have v4 := u5.trans v5
      have v3 := u4.trans v4
      have v2 := u3.trans v3
      have rlD0 : RowAt H12 lD0 [(tD00, (-1000), 1000)] := ⟨v3 _ _ flD0, (RowOk.nil.app (v2 _ _ ftD00))⟩
      have rlD1 : RowAt H12 lD1 [(tD10, 0, 146096)] := ⟨v6 _ _ flD1, (RowOk.nil.app (v5 _ _ ftD10))⟩
      have rlD2 : RowAt H12 lD2 [(tD20, 0, 146096), (tD21, 0, 146096)] := ⟨v10 _ _ flD2, ((RowOk.nil.app (v8 _ _ ftD20)).app (v9 _ _ ftD21))⟩
      have elD : ElOk H12 [(eD0, 6, lD0, [(tD00, (-1000), 1000)]), (eD1, 7, lD1, [(tD10, 0, 146096)]), (eD2, 8, lD2, [(tD20, 0, 146096), (tD21, 0, 146096)])] := (el_app (el_app (el_app el_nil (v4 _ _ feD0) rlD0) (v7 _ _ feD1) rlD1) (v11 _ _ feD2) rlD2)
      have SD : Same H1 H12 := u2.trans v2
      clear v2 v3 v4 v5 v6 v7 v8 v9 v10 v11 v12
      refine ⟨B, oD, _, _, rfl, rfl, SD _ _ hB, foD, ?_, fun N hN => ?_⟩
      · have := congrArg List.length hT
        unfold etbl at this
        rw [List.length_map] at this
        unfold erefs
        rw [List.length_map, this]
        show 6 + 3 ≤ sizeLine
        decide
      have uN := same_upd (o := .lst (erefs es ++ [.ref eD0, .ref eD1, .ref eD2])) hN
      exact ⟨N, es ++ [(eD0, 6, lD0, [(tD00, (-1000), 1000)]), (eD1, 7, lD1, [(tD10, 0, 146096)]), (eD2, 8, lD2, [(tD20, 0, 146096), (tD21, 0, 146096)])], (s1.trans SD).trans uN, upd_same.trans (congrArg (fun z => some (HO.lst z)) (erefs_two es [(eD0, 6, lD0, [(tD00, (-1000), 1000)]), (eD1, 7, lD1, [(tD10, 0, 146096)]), (eD2, 8, lD2, [(tD20, 0, 146096), (tD21, 0, 146096)])])), (el_two (hE.up SD) elD).up uN, by unfold etbl at hT ⊢; rw [List.map_append, hT]; rfl, rfl⟩
    rintro σ H1 ⟨B, es, s1, hB, hE, hT, rfl⟩
    have hT9 : etbl es = TEW := hT
    refine ⟨_, rfl, B, rfl, ⟨_, SqL.of hB⟩, ?_⟩
    refine for_seq (H0 := H1) (seq_list (SqL.of hB)) (fun i σ H' => Same H1 H' ∧ ∃ x y z u, σ = [some (.int t), some (.ref B), x, y, z, u]) ⟨Same.refl _, _, _, _, _, rfl⟩ (fun _ _ _ _ h => h.1) ?_ ?_
    · rintro i v σ H2 hv ⟨s2, x, y, z, u, rfl⟩
      obtain ⟨e, hem, rfl, hi, hw, hrow⟩ := el_get hT9 hv
      obtain ⟨he1, hl1⟩ := hE e hem
      rw [hw] at he1
      have hll : e.2.2.2.length = (TEn.getD i []).length := by rw [← hrow, sps_len]
      have h4 := te_pos hi
      refine ⟨e.1, _, rfl, SqT.of (s2 _ _ he1), rfl, _, _, rfl, _, _, rfl, rfl, ?_⟩
      have hl2 := hl1.up s2
      refine ⟨_, rfl, e.2.2.1, _, rfl, .inl (SqL.of hl2.1), _, rfl, (by rw [refs_len]; omega), (by rw [refs_len]; omega), ?_⟩
      rw [refs_len]
      refine for_range (fun j σ H' => Same H1 H' ∧ ∃ z u, σ = [some (.int t), some (.ref B), some (.int (i : Int)), some (.ref e.2.2.1), z, u]) ⟨s2, _, _, rfl⟩ ?_ ?_
      · rintro j σ H3 hj ⟨s3, z, u, rfl⟩
        have hj2 : j < e.2.2.2.length := by rw [Int.toNat_natCast] at hj; exact hj
        rw [Int.zero_add]
        have hl3 := hl1.up s3
        refine ⟨_, rfl, e.2.2.1, rfl, ⟨_, SqL.of hl3.1⟩, ?_⟩
        refine comp_row (seq_list (K := K) (SqL.of hl3.1)) hl3.2 (fun _ => true) (fun y => .int y.1) (by omega) (fun y _ H' _ R hR => hR H' (Same.refl _)) (fun y hy _ H' sm R hR => ⟨_, rfl, y.1, _, _, _, rfl, rfl, SqT.of (sm _ _ (hl3.2 y hy)), rfl, hR H' (Same.refl _)⟩) (fun D H4 s4 hD0 hD => ?_)
        have hD4 : H4 D = some (.lst ((firsts (TEn.getD i [])).map V.int)) := by
          rw [hD, List.filter_eq_self.mpr (fun _ _ => rfl), hrow]
          unfold firsts
          rw [List.map_map]
          rfl
        have fl0 : (firsts (TEn.getD i [])).length = (TEn.getD i []).length := by unfold firsts; rw [List.length_map]
        clear hD
        obtain ⟨y, hy, hym, hyv⟩ := row_get (rs := e.2.2.2) (n := j) (by rw [sps_len]; exact hj2)
        rw [hrow] at hyv
        have hY : atI (refs e.2.2.2) (j : Int) = some (.ref y.1) := atI_nat (by unfold refs; rw [List.getElem?_map, hy]; rfl)
        have hl4 := hl3.up s4
        have hy4 := hl4.2 y hym
        obtain ⟨q1, q2, q3⟩ := turn_at t0 t1 y.2.1 y.2.2
        refine ⟨_, rfl, _, rfl, e.2.2.1, _, _, _, rfl, rfl, SqL.of hl4.1, hY, _, rfl, _, _, rfl, rfl, (by show (0 : Int) < 2; decide), y.1, _, _, _, rfl, rfl, SqT.of hy4, q1, (by show 4 ≤ sizeLine; decide), fun Lm hLm => ?_⟩
        have uL := same_upd (o := .lst [.int 0, .int 0, .int (-1), .int 1]) hLm
        refine ⟨_, rfl, Lm, _, _, _, rfl, rfl, SqL.of upd_same, q2, _, _, rfl, rfl, ?_⟩
        have hix : ixN ((firsts (TEn.getD i [])).map V.int).length (j : Int) = some j := by
          rw [ixN_of (by omega) (by rw [List.length_map, fl0, ← hll]; omega), Int.toNat_natCast]
        refine ⟨_, rfl, _, rfl, D, _, _, j, rfl, rfl, uL _ _ hD4, hix, ?_⟩
        have ev : (V.int ((if t.toNat % 2 = 0 then y.2.1 else y.2.2) + (if t.toNat = 2 then -1 else if t.toNat = 3 then 1 else 0))) = .int (DG.endB ((TEn.getD i []).getD j (0, 0)) t.toNat) := by rw [← hyv]; rfl
        have S5 : Same H1 (upd (upd H4 Lm (.lst [.int 0, .int 0, .int (-1), .int 1])) D (.lst (((firsts (TEn.getD i [])).map V.int).set j (.int (DG.endB ((TEn.getD i []).getD j (0, 0)) t.toNat))))) := fun b o eb => by
          rw [upd_ne (ne_of_none (s3 _ _ eb) hD0)]
          exact uL _ _ (s4 _ _ (s3 _ _ eb))
        have hD5 : (upd (upd H4 Lm (.lst [.int 0, .int 0, .int (-1), .int 1])) D (.lst (((firsts (TEn.getD i [])).map V.int).set j (.int (DG.endB ((TEn.getD i []).getD j (0, 0)) t.toNat))))) D = some (.lst (((firsts (TEn.getD i [])).set j (DG.endB ((TEn.getD i []).getD j (0, 0)) t.toNat)).map V.int)) := by rw [upd_same, set_map]
        have ok := DG.ends_at (t := t.toNat) (w := i) (s := j) (by omega) hi (by rw [← hll]; exact hj2)
        generalize hN : (firsts (TEn.getD i [])).set j (DG.endB ((TEn.getD i []).getD j (0, 0)) t.toNat) = ms at *
        have hsh : Sh (i : Int) ms := by rw [← hN]; exact sh_firsts hi
        rw [← hyv] at S5 hD5
        refine ⟨_, rfl, _, rfl, (i : Int), D, ms, rfl, hD5, hsh, fun H6 s6 => ⟨(by show 2 ≤ sizeLine; decide), fun Lq hLq => ?_⟩⟩
        refine ⟨_, rfl, _, _, rfl, rfl, ⟨by decide, by decide⟩, Lq, _, _, _, rfl, rfl, SqL.of upd_same, q3, rfl, _, rfl, ?_⟩
        rw [ok, decide_eq_true rfl]
        exact iteF ⟨(S5.trans s6).trans (same_upd hLq), _, _, rfl⟩
      · rintro σ H3 ⟨s3, z, u, rfl⟩
        exact ⟨s3, _, _, _, _, rfl⟩
    rintro σ H2 ⟨s2, x, y, z, u, rfl⟩
    have n1 : told (okW 2 [0, 0, 1]) = "refused" := by decide +kernel
    have n2 : told (okW 3 [0, 0, 0, 1]) = "refused" := by decide +kernel
    refine ⟨(by show 3 ≤ sizeLine; decide), fun L hL => ⟨2, L, [0, 0, 1], rfl, upd_same, ⟨by decide, by decide, rfl⟩, fun H3 s3 => ⟨rfl, _, rfl, ?_⟩⟩⟩
    rw [n1, decide_eq_true rfl]
    refine iteT ⟨(by show 4 ≤ sizeLine; decide), fun L2 hL2 => ⟨3, L2, [0, 0, 0, 1], rfl, upd_same, ⟨by decide, by decide, rfl⟩, fun H4 s4 => ⟨rfl, ?_⟩⟩⟩
    rw [n2, decide_eq_true rfl]
    exact k _ ((((s1.trans s2).trans (same_upd hL)).trans s3).trans ((same_upd hL2).trans s4))
end
end K13

namespace K13
open PySem L2
open DG (okW dy btw fe ab TB TEn Sh firsts)
section
variable {P : Program} {w : World} {K : PySem.W.Frag} {mg : Str → Option Value} {base : Heap} {a : Adr}
theorem sc_law : FnScope ["_law_script", "_law_k", "_law_way", "_law_some", "_law_good", "_law_month", "_law_last"] ["_law_script"] (defScope s_law) := ⟨rfl, rfl, rfl, by decide +kernel, rfl, by decide +kernel, by decide +kernel⟩

theorem ok_law (T : Txt K mg a) : FnOk P w K mg base CX0 true 11 a.f_law a.d_law ["_law_script"] (sp_law K) := by
  refine T.F_law.ok sc_law (fun vs H Q E h => ?_) (fun cdv A outer s H vs Q E hr h => ?_)
  · obtain ⟨sa, ns, rfl, _⟩ := h; rfl
  · obtain ⟨sa, ns, rfl, hS, hlen, k⟩ := h
    refine ⟨_, (pss_cons (ps_for PassesOwn.never rfl (pi_range1 rfl T.n_range (pa_cons pe_int pa_nil)) (pg_name (i := 1) sc_law.nd rfl (Or.inl rfl)) (pss_cons (ps_asg (pe_call ((ok_law_numbers T).mono (by decide)) hr rfl T.m_law_numbers T.F_law_numbers.kp T.b_law_numbers .nil pass0 (pa_cons (pe_call ((ok_law_next T).mono (by decide)) hr rfl T.m_law_next T.F_law_next.kp T.b_law_next .nil pass0 (pa_cons (pe_op op_add (pe_call ((ok_law_cell_at T).mono (by decide)) hr rfl T.m_law_cell_at T.F_law_cell_at.kp T.b_law_cell_at .nil pass0 (pa_cons (pv 0) (pa_cons (pv 1) pa_nil))) (pv 1)) pa_nil)) pa_nil)) (pg_tup rfl (pgs_cons (pg_name (i := 2) sc_law.nd rfl (Or.inl rfl)) (pgs_cons (pg_name (i := 3) sc_law.nd rfl (Or.inl rfl)) (pgs_cons (pg_name (i := 4) sc_law.nd rfl (Or.inl rfl)) pgs_nil)))))
      (pss_one (ps_if (pt_cmpR op_ne (pe_call ((ok_law_told T).mono (by decide)) hr rfl T.m_law_told T.F_law_told.kp T.b_law_told .nil pass0 (pa_cons (pv 2) (pa_cons (pv 3) pa_nil))) (pe_ix (ix_listK (K := K) rfl) (pe_lst (pa_lits [.str "refused", .str "made"] (by decide +kernel))) (pe_callTy call_int1 rfl T.n_int (by decide +kernel) (pa_cons (pv 4) pa_nil)) (fun _ _ => rfl)) (nomark _)) (pss_one ps_never) pss_nil))))
      (pss_cons (ps_for PassesOwn.never rfl (pi_range2 rfl T.n_range (pa_lits [.int 1, .int 13] (by decide +kernel))) (pg_name (i := 5) sc_law.nd rfl (Or.inl rfl)) (pss_cons (ps_set (i := 6) sc_law.nd rfl (Or.inl rfl) (pe_call ((ok_law_length T).mono (by decide)) hr rfl T.m_law_length T.F_law_length.kp T.b_law_length .nil pass0 (pa_cons pe_int (pa_cons (pv 5) pa_nil))))
      (pss_one (ps_if (PW.pt (pw_or (pt_cmpR op_ne (pe_call ((ok_law_told T).mono (by decide)) hr rfl T.m_law_told T.F_law_told.kp T.b_law_told .nil pass0 (pa_cons pe_int (pa_cons (pe_lst (pa_cons (pv 5) (pa_cons (pv 6) (pa_cons pe_int (pa_cons pe_int pa_nil))))) pa_nil))) pe_str (nomark _)) (pw_or1 (pt_cmpR op_ne (pe_call ((ok_law_told T).mono (by decide)) hr rfl T.m_law_told T.F_law_told.kp T.b_law_told .nil pass0 (pa_cons pe_int (pa_cons (pe_lst (pa_cons (pv 5) (pa_cons (pe_op op_add (pv 6) pe_int) (pa_cons pe_int (pa_cons pe_int pa_nil))))) pa_nil))) pe_str (nomark _))))) (pss_one ps_never) pss_nil))))
      (pss_one (ps_ret (pe_and (pe_call ((ok_law_all_ends T).mono (by decide)) hr rfl T.m_law_all_ends T.F_law_all_ends.kp T.b_law_all_ends .nil pass0 (pa_cons (pe_op op_mod (pe_call ((ok_law_cell_at T).mono (by decide)) hr rfl T.m_law_cell_at T.F_law_cell_at.kp T.b_law_cell_at .nil pass0 (pa_cons (pv 0) (pa_cons pe_int pa_nil))) pe_int) pa_nil)) (pe_one (pe_cmpR op_isB (pe_methV (n := 1) (D := fun C R => (C = a.x_Every ∧ R = fun x vs H Q => (sp_Every_falls_on a.x_Every) (x :: (vs ++ ([] : List V))) H Q E0)) (pe_make T.mk_Every ((ok_Every___init T).mono (by decide)) hr rfl T.m_Every T.b_Every___init .nil passF (pa_lits [.int 3, .int 4] (by decide +kernel))) (by rintro C R ⟨rfl, rfl⟩ <;> first | exact ⟨T.cl_Every, _, _, _, _, _, _, _, _, _, _, T.me_Every_falls_on, (ok_Every_falls_on T).mono (by decide), hr, T.b_Every_falls_on, .nil, pass0, fun _ _ _ _ _ h => h⟩) (pa_cons pe_int pa_nil)) pe_bl (nomark _)))))))), ?_⟩
    refine ⟨12, rfl, by decide, by decide, ?_⟩
    refine for_range (fun i σ H' => Same H H' ∧ ∃ a1 a2 a3 a4, σ = [some (.ref sa), a1, a2, a3, a4, none, none]) ⟨Same.refl _, _, _, _, _, rfl⟩ ?_ ?_
    · rintro i σ H1 hi ⟨s1, a1, a2, a3, a4, rfl⟩
      refine ⟨_, rfl, _, rfl, sa, ns, _, rfl, s1.seq hS, (by omega), fun v => ⟨_, rfl, _, _, rfl, rfl, _, rfl, fun n _ => ⟨n, rfl, fun p L w ms H2 s2 hp hL sh => ⟨p, _, rfl, SqT.of hp, rfl, _, _, rfl, _, _, rfl, _, _, rfl, rfl, ?_⟩⟩⟩⟩
      refine ⟨_, rfl, _, rfl, w, L, ms, rfl, hL, sh, fun H3 s3 => ⟨(by show 2 ≤ sizeLine; decide), fun Lq hLq => ⟨_, rfl, .inr ⟨_, rfl, Lq, _, _, _, rfl, rfl, SqL.of upd_same, pick2, ?_⟩⟩⟩⟩
      rw [told_if]
      refine ⟨rfl, _, rfl, ?_⟩
      rw [decide_eq_true rfl]
      exact iteF ⟨((s1.trans s2).trans s3).trans (same_upd hLq), _, _, _, _, rfl⟩
    rintro σ H1 ⟨s1, a1, a2, a3, a4, rfl⟩
    refine ⟨_, _, rfl, ⟨by decide, by decide, by decide, by decide⟩, ?_⟩
    refine for_range (fun i σ H' => Same H H' ∧ ∃ a5 a6, σ = [some (.ref sa), a1, a2, a3, a4, a5, a6]) ⟨s1, _, _, rfl⟩ ?_ ?_
    · rintro i σ H2 hi ⟨s2, a5, a6, rfl⟩
      have hi2 : i < 12 := hi
      generalize hm : (1 : Int) + (i : Int) = m
      have m1 : 1 ≤ m := by omega
      have m2 : m ≤ 12 := by omega
      refine ⟨_, rfl, 2000, m, rfl, fun H3 s3 => ?_⟩
      refine ⟨_, rfl, _, rfl, (by show 4 ≤ sizeLine; decide), fun L hL => ⟨4, L, [m, DM.len 2000 m, 0, 1], rfl, upd_same, ⟨by decide, by decide, rfl⟩, fun H4 s4 => ⟨rfl, _, rfl, ?_⟩⟩⟩
      rw [ok_4m m1 m2, decide_eq_true rfl]
      refine iteF ⟨_, rfl, _, rfl, _, _, rfl, rfl, (by show 4 ≤ sizeLine; decide), fun L2 hL2 => ⟨4, L2, [m, DM.len 2000 m + 1, 0, 1], rfl, upd_same, ⟨by decide, by decide, rfl⟩, fun H5 s5 => ⟨rfl, _, rfl, ?_⟩⟩⟩
      rw [ok_4n m1 m2, decide_eq_true rfl]
      exact iteF ⟨((s2.trans s3).trans ((same_upd hL).trans s4)).trans ((same_upd hL2).trans s5), _, _, rfl⟩
    rintro σ H2 ⟨s2, a5, a6, rfl⟩
    refine ⟨_, rfl, sa, ns, _, rfl, s2.seq hS, by decide, fun c => ⟨_, _, rfl, rfl, (by show (0 : Int) < 4; decide), _, rfl, Int.emod_nonneg _ (by decide), Int.emod_lt_of_pos _ (by decide), fun H3 s3 => ⟨_, rfl, iteT ?_⟩⟩⟩
    refine fun x dx nx ndx nex => ⟨x, dx, 3, 4, rfl, upd_same, fun g H4 sx hx4 => ⟨rfl, x, _, dx, _, _, rfl, hx4, no_falls _ _, ⟨rfl, rfl⟩, rfl, x, dx, 7, 3, 4, rfl, hx4, by decide, _, _, rfl, rfl, ?_⟩, fun b => absurd b (by decide)⟩
    rw [show (dy 7 && (decide ((4 : Int) ≤ 7) && decide (((7 : Int) - 4) % 3 = 0))) = true by decide +kernel]
    exact k _
end
end K13

namespace K13
open PySem L2
open DG (okW dy btw fe ab TB TEn Sh firsts)
theorem txt_mk {K : PySem.W.Frag} {h : Heap} {mg : Str → Option Value} (X : K.In h) (G : h.Ns mainGlobals mg)
    {x_ByMonth : Addr}
    {x_Changed : Addr}
    {x_Days : Addr}
    {x_Every : Addr}
    {x_Monthly : Addr}
    {x_Nth : Addr}
    {x_Rule : Addr}
    {x_Shifted : Addr}
    {x_Weekly : Addr}
    {x_Yearly : Addr}
    {f_is_day : Addr} {oc_is_day kV_is_day dc_is_day pm_is_day cd_is_day ct_is_day : Value} {od_is_day an_is_day : Option Addr} {sl_is_day : Array (Option Value)}
    {f_is_leap : Addr} {oc_is_leap kV_is_leap dc_is_leap pm_is_leap cd_is_leap ct_is_leap : Value} {od_is_leap an_is_leap : Option Addr} {sl_is_leap : Array (Option Value)}
    {f_year_begin : Addr} {oc_year_begin kV_year_begin dc_year_begin pm_year_begin cd_year_begin ct_year_begin : Value} {od_year_begin an_year_begin : Option Addr} {sl_year_begin : Array (Option Value)}
    {f_check_bounds : Addr} {oc_check_bounds kV_check_bounds dc_check_bounds pm_check_bounds cd_check_bounds ct_check_bounds : Value} {od_check_bounds an_check_bounds : Option Addr} {sl_check_bounds : Array (Option Value)}
    {f_ByMonth___init : Addr} {oc_ByMonth___init kV_ByMonth___init dc_ByMonth___init pm_ByMonth___init cd_ByMonth___init ct_ByMonth___init : Value} {od_ByMonth___init an_ByMonth___init : Option Addr} {sl_ByMonth___init : Array (Option Value)}
    {f_Changed_days_lost : Addr} {oc_Changed_days_lost kV_Changed_days_lost dc_Changed_days_lost pm_Changed_days_lost cd_Changed_days_lost ct_Changed_days_lost : Value} {od_Changed_days_lost an_Changed_days_lost : Option Addr} {sl_Changed_days_lost : Array (Option Value)}
    {f_law_cell_at : Addr} {oc_law_cell_at kV_law_cell_at dc_law_cell_at pm_law_cell_at cd_law_cell_at ct_law_cell_at : Value} {od_law_cell_at an_law_cell_at : Option Addr} {sl_law_cell_at : Array (Option Value)}
    {f_law_next : Addr} {oc_law_next kV_law_next dc_law_next pm_law_next cd_law_next ct_law_next : Value} {od_law_next an_law_next : Option Addr} {sl_law_next : Array (Option Value)}
    {f_law_leap : Addr} {oc_law_leap kV_law_leap dc_law_leap pm_law_leap cd_law_leap ct_law_leap : Value} {od_law_leap an_law_leap : Option Addr} {sl_law_leap : Array (Option Value)}
    {f_law_alone : Addr} {oc_law_alone kV_law_alone dc_law_alone pm_law_alone cd_law_alone ct_law_alone : Value} {od_law_alone an_law_alone : Option Addr} {sl_law_alone : Array (Option Value)}
    {f_law_number : Addr} {oc_law_number kV_law_number dc_law_number pm_law_number cd_law_number ct_law_number : Value} {od_law_number an_law_number : Option Addr} {sl_law_number : Array (Option Value)}
    {f_month_days : Addr} {oc_month_days kV_month_days dc_month_days pm_month_days cd_month_days ct_month_days : Value} {od_month_days an_month_days : Option Addr} {sl_month_days : Array (Option Value)}
    {f_month_begin : Addr} {oc_month_begin kV_month_begin dc_month_begin pm_month_begin cd_month_begin ct_month_begin : Value} {od_month_begin an_month_begin : Option Addr} {sl_month_begin : Array (Option Value)}
    {f_check_day : Addr} {oc_check_day kV_check_day dc_check_day pm_check_day cd_check_day ct_check_day : Value} {od_check_day an_check_day : Option Addr} {sl_check_day : Array (Option Value)}
    {f_Every_falls_on : Addr} {oc_Every_falls_on kV_Every_falls_on dc_Every_falls_on pm_Every_falls_on cd_Every_falls_on ct_Every_falls_on : Value} {od_Every_falls_on an_Every_falls_on : Option Addr} {sl_Every_falls_on : Array (Option Value)}
    {f_Shifted___init : Addr} {oc_Shifted___init kV_Shifted___init dc_Shifted___init pm_Shifted___init cd_Shifted___init ct_Shifted___init : Value} {od_Shifted___init an_Shifted___init : Option Addr} {sl_Shifted___init : Array (Option Value)}
    {f_law_length : Addr} {oc_law_length kV_law_length dc_law_length pm_law_length cd_law_length ct_law_length : Value} {od_law_length an_law_length : Option Addr} {sl_law_length : Array (Option Value)}
    {f_month_of : Addr} {oc_month_of kV_month_of dc_month_of pm_month_of cd_month_of ct_month_of : Value} {od_month_of an_month_of : Option Addr} {sl_month_of : Array (Option Value)}
    {f_check_every : Addr} {oc_check_every kV_check_every dc_check_every pm_check_every cd_check_every ct_check_every : Value} {od_check_every an_check_every : Option Addr} {sl_check_every : Array (Option Value)}
    {f_Every___init : Addr} {oc_Every___init dV_Every___init kV_Every___init dc_Every___init pm_Every___init cd_Every___init ct_Every___init : Value} {od_Every___init an_Every___init : Option Addr} {sl_Every___init : Array (Option Value)}
    {t_Every___init : Addr} {ot_Every___init : Obj} {u_Every___init_0 : Tok} {nt_Every___init : Nat}
    {f_Days___init : Addr} {oc_Days___init kV_Days___init dc_Days___init pm_Days___init cd_Days___init ct_Days___init : Value} {od_Days___init an_Days___init : Option Addr} {sl_Days___init : Array (Option Value)}
    {f_Changed_days_gained : Addr} {oc_Changed_days_gained kV_Changed_days_gained dc_Changed_days_gained pm_Changed_days_gained cd_Changed_days_gained ct_Changed_days_gained : Value} {od_Changed_days_gained an_Changed_days_gained : Option Addr} {sl_Changed_days_gained : Array (Option Value)}
    {f_law_numbers : Addr} {oc_law_numbers kV_law_numbers dc_law_numbers pm_law_numbers cd_law_numbers ct_law_numbers : Value} {od_law_numbers an_law_numbers : Option Addr} {sl_law_numbers : Array (Option Value)}
    {f_date_of : Addr} {oc_date_of kV_date_of dc_date_of pm_date_of cd_date_of ct_date_of : Value} {od_date_of an_date_of : Option Addr} {sl_date_of : Array (Option Value)}
    {f_Weekly___init : Addr} {oc_Weekly___init dV_Weekly___init kV_Weekly___init dc_Weekly___init pm_Weekly___init cd_Weekly___init ct_Weekly___init : Value} {od_Weekly___init an_Weekly___init : Option Addr} {sl_Weekly___init : Array (Option Value)}
    {t_Weekly___init : Addr} {ot_Weekly___init : Obj} {u_Weekly___init_0 u_Weekly___init_1 : Tok} {nt_Weekly___init : Nat}
    {f_Monthly___init : Addr} {oc_Monthly___init dV_Monthly___init kV_Monthly___init dc_Monthly___init pm_Monthly___init cd_Monthly___init ct_Monthly___init : Value} {od_Monthly___init an_Monthly___init : Option Addr} {sl_Monthly___init : Array (Option Value)}
    {t_Monthly___init : Addr} {ot_Monthly___init : Obj} {u_Monthly___init_0 u_Monthly___init_1 : Tok} {nt_Monthly___init : Nat}
    {f_Nth___init : Addr} {oc_Nth___init dV_Nth___init kV_Nth___init dc_Nth___init pm_Nth___init cd_Nth___init ct_Nth___init : Value} {od_Nth___init an_Nth___init : Option Addr} {sl_Nth___init : Array (Option Value)}
    {t_Nth___init : Addr} {ot_Nth___init : Obj} {u_Nth___init_0 u_Nth___init_1 : Tok} {nt_Nth___init : Nat}
    {f_Changed___init : Addr} {oc_Changed___init dV_Changed___init kV_Changed___init dc_Changed___init pm_Changed___init cd_Changed___init ct_Changed___init : Value} {od_Changed___init an_Changed___init : Option Addr} {sl_Changed___init : Array (Option Value)}
    {t_Changed___init : Addr} {ot_Changed___init : Obj}  {nt_Changed___init : Nat}
    {f_Yearly___init : Addr} {oc_Yearly___init dV_Yearly___init kV_Yearly___init dc_Yearly___init pm_Yearly___init cd_Yearly___init ct_Yearly___init : Value} {od_Yearly___init an_Yearly___init : Option Addr} {sl_Yearly___init : Array (Option Value)}
    {t_Yearly___init : Addr} {ot_Yearly___init : Obj} {u_Yearly___init_0 u_Yearly___init_1 : Tok} {nt_Yearly___init : Nat}
    {f_law_make : Addr} {oc_law_make kV_law_make dc_law_make pm_law_make cd_law_make ct_law_make : Value} {od_law_make an_law_make : Option Addr} {sl_law_make : Array (Option Value)}
    {f_law_told : Addr} {oc_law_told kV_law_told dc_law_told pm_law_told cd_law_told ct_law_told : Value} {od_law_told an_law_told : Option Addr} {sl_law_told : Array (Option Value)}
    {f_law_all_ends : Addr} {oc_law_all_ends kV_law_all_ends dc_law_all_ends pm_law_all_ends cd_law_all_ends ct_law_all_ends : Value} {od_law_all_ends an_law_all_ends : Option Addr} {sl_law_all_ends : Array (Option Value)}
    {f_law : Addr} {oc_law kV_law dc_law pm_law cd_law ct_law : Value} {od_law an_law : Option Addr} {sl_law : Array (Option Value)}
    {t_DAYS : Tok}
    {c_DAYS_AHEAD : Addr} {o_DAYS_AHEAD : Obj} {n_DAYS_AHEAD : Nat} {t_DAYS_AHEAD_0 t_DAYS_AHEAD_1 t_DAYS_AHEAD_2 t_DAYS_AHEAD_3 t_DAYS_AHEAD_4 t_DAYS_AHEAD_5 t_DAYS_AHEAD_6 t_DAYS_AHEAD_7 t_DAYS_AHEAD_8 t_DAYS_AHEAD_9 t_DAYS_AHEAD_10 t_DAYS_AHEAD_11 : Tok}
    {t_FIRST_YEAR : Tok}
    {t_LONG_YEAR : Tok}
    {t_MONTHS : Tok}
    {c_MONTH_LENGTHS : Addr} {o_MONTH_LENGTHS : Obj} {n_MONTH_LENGTHS : Nat} {t_MONTH_LENGTHS_0 t_MONTH_LENGTHS_1 t_MONTH_LENGTHS_2 t_MONTH_LENGTHS_3 t_MONTH_LENGTHS_4 t_MONTH_LENGTHS_5 t_MONTH_LENGTHS_6 t_MONTH_LENGTHS_7 t_MONTH_LENGTHS_8 t_MONTH_LENGTHS_9 t_MONTH_LENGTHS_10 t_MONTH_LENGTHS_11 : Tok}
    {t_MOST_EVERY : Tok}
    {t_MOST_MANY : Tok}
    {x_Busy : Addr}
    {x_Closed : Addr}
    {x_Full : Addr}
    {x_HouseError : Addr}
    {x_Known : Addr}
    {x_NoDay : Addr}
    {x_NoHand : Addr}
    {x_NoLetter : Addr}
    {x_NoMeeting : Addr}
    {x_NoPlace : Addr}
    {x_NoRule : Addr}
    {x_NoSpan : Addr}
    {x_NoText : Addr}
    {x_NoThing : Addr}
    {x_NoWord : Addr}
    (aC_ByMonth : PySem.W.nsIn K mainGlobals "ByMonth" = some (some (.ref x_ByMonth)))
    (pg_ByMonth : PySem.W.plainGet K x_ByMonth Str.empty = true)
    (hd_ByMonth : PySem.W.hasDictIn K x_ByMonth = true)
    (po_ByMonth : PySem.W.plainOver K x_ByMonth = true)
    (sa_ByMonth : PySem.W.findIn K (.ref x_ByMonth) "__setattr__" = some (some (.builtin "object.__setattr__")))
    (mk_ByMonth : PySem.W.makesIn K x_ByMonth = true)
    (kc_ByMonth : PySem.W.keepIn K (.ref x_ByMonth) = true)
    (nf_origin_ByMonth : PySem.W.findIn K (.ref x_ByMonth) "origin" = some none)
    (nf_stride_ByMonth : PySem.W.findIn K (.ref x_ByMonth) "stride" = some none)
    (nf_first_ByMonth : PySem.W.findIn K (.ref x_ByMonth) "first" = some none)
    (aC_Changed : PySem.W.nsIn K mainGlobals "Changed" = some (some (.ref x_Changed)))
    (pg_Changed : PySem.W.plainGet K x_Changed Str.empty = true)
    (hd_Changed : PySem.W.hasDictIn K x_Changed = true)
    (po_Changed : PySem.W.plainOver K x_Changed = true)
    (sa_Changed : PySem.W.findIn K (.ref x_Changed) "__setattr__" = some (some (.builtin "object.__setattr__")))
    (mk_Changed : PySem.W.makesIn K x_Changed = true)
    (kc_Changed : PySem.W.keepIn K (.ref x_Changed) = true)
    (nf_rule_Changed : PySem.W.findIn K (.ref x_Changed) "rule" = some none)
    (nf_left_Changed : PySem.W.findIn K (.ref x_Changed) "left" = some none)
    (nf_more_Changed : PySem.W.findIn K (.ref x_Changed) "more" = some none)
    (nf_moved_Changed : PySem.W.findIn K (.ref x_Changed) "moved" = some none)
    (nf_gained_Changed : PySem.W.findIn K (.ref x_Changed) "gained" = some none)
    (nf_lost_Changed : PySem.W.findIn K (.ref x_Changed) "lost" = some none)
    (aC_Days : PySem.W.nsIn K mainGlobals "Days" = some (some (.ref x_Days)))
    (pg_Days : PySem.W.plainGet K x_Days Str.empty = true)
    (hd_Days : PySem.W.hasDictIn K x_Days = true)
    (po_Days : PySem.W.plainOver K x_Days = true)
    (sa_Days : PySem.W.findIn K (.ref x_Days) "__setattr__" = some (some (.builtin "object.__setattr__")))
    (mk_Days : PySem.W.makesIn K x_Days = true)
    (kc_Days : PySem.W.keepIn K (.ref x_Days) = true)
    (nf_days_Days : PySem.W.findIn K (.ref x_Days) "days" = some none)
    (aC_Every : PySem.W.nsIn K mainGlobals "Every" = some (some (.ref x_Every)))
    (pg_Every : PySem.W.plainGet K x_Every Str.empty = true)
    (hd_Every : PySem.W.hasDictIn K x_Every = true)
    (po_Every : PySem.W.plainOver K x_Every = true)
    (sa_Every : PySem.W.findIn K (.ref x_Every) "__setattr__" = some (some (.builtin "object.__setattr__")))
    (mk_Every : PySem.W.makesIn K x_Every = true)
    (kc_Every : PySem.W.keepIn K (.ref x_Every) = true)
    (nf_step_Every : PySem.W.findIn K (.ref x_Every) "step" = some none)
    (nf_first_Every : PySem.W.findIn K (.ref x_Every) "first" = some none)
    (aC_Monthly : PySem.W.nsIn K mainGlobals "Monthly" = some (some (.ref x_Monthly)))
    (pg_Monthly : PySem.W.plainGet K x_Monthly Str.empty = true)
    (hd_Monthly : PySem.W.hasDictIn K x_Monthly = true)
    (po_Monthly : PySem.W.plainOver K x_Monthly = true)
    (sa_Monthly : PySem.W.findIn K (.ref x_Monthly) "__setattr__" = some (some (.builtin "object.__setattr__")))
    (mk_Monthly : PySem.W.makesIn K x_Monthly = true)
    (kc_Monthly : PySem.W.keepIn K (.ref x_Monthly) = true)
    (nf_date_Monthly : PySem.W.findIn K (.ref x_Monthly) "date" = some none)
    (nf_every_Monthly : PySem.W.findIn K (.ref x_Monthly) "every" = some none)
    (nf_origin_Monthly : PySem.W.findIn K (.ref x_Monthly) "origin" = some none)
    (nf_stride_Monthly : PySem.W.findIn K (.ref x_Monthly) "stride" = some none)
    (nf_first_Monthly : PySem.W.findIn K (.ref x_Monthly) "first" = some none)
    (aC_Nth : PySem.W.nsIn K mainGlobals "Nth" = some (some (.ref x_Nth)))
    (pg_Nth : PySem.W.plainGet K x_Nth Str.empty = true)
    (hd_Nth : PySem.W.hasDictIn K x_Nth = true)
    (po_Nth : PySem.W.plainOver K x_Nth = true)
    (sa_Nth : PySem.W.findIn K (.ref x_Nth) "__setattr__" = some (some (.builtin "object.__setattr__")))
    (mk_Nth : PySem.W.makesIn K x_Nth = true)
    (kc_Nth : PySem.W.keepIn K (.ref x_Nth) = true)
    (nf_which_Nth : PySem.W.findIn K (.ref x_Nth) "which" = some none)
    (nf_weekday_of_Nth : PySem.W.findIn K (.ref x_Nth) "weekday_of" = some none)
    (nf_every_Nth : PySem.W.findIn K (.ref x_Nth) "every" = some none)
    (nf_origin_Nth : PySem.W.findIn K (.ref x_Nth) "origin" = some none)
    (nf_stride_Nth : PySem.W.findIn K (.ref x_Nth) "stride" = some none)
    (nf_first_Nth : PySem.W.findIn K (.ref x_Nth) "first" = some none)
    (aC_Rule : PySem.W.nsIn K mainGlobals "Rule" = some (some (.ref x_Rule)))
    (pg_Rule : PySem.W.plainGet K x_Rule Str.empty = true)
    (hd_Rule : PySem.W.hasDictIn K x_Rule = true)
    (po_Rule : PySem.W.plainOver K x_Rule = true)
    (sa_Rule : PySem.W.findIn K (.ref x_Rule) "__setattr__" = some (some (.builtin "object.__setattr__")))
    (aC_Shifted : PySem.W.nsIn K mainGlobals "Shifted" = some (some (.ref x_Shifted)))
    (pg_Shifted : PySem.W.plainGet K x_Shifted Str.empty = true)
    (hd_Shifted : PySem.W.hasDictIn K x_Shifted = true)
    (po_Shifted : PySem.W.plainOver K x_Shifted = true)
    (sa_Shifted : PySem.W.findIn K (.ref x_Shifted) "__setattr__" = some (some (.builtin "object.__setattr__")))
    (mk_Shifted : PySem.W.makesIn K x_Shifted = true)
    (kc_Shifted : PySem.W.keepIn K (.ref x_Shifted) = true)
    (nf_rule_Shifted : PySem.W.findIn K (.ref x_Shifted) "rule" = some none)
    (nf_many_Shifted : PySem.W.findIn K (.ref x_Shifted) "many" = some none)
    (aC_Weekly : PySem.W.nsIn K mainGlobals "Weekly" = some (some (.ref x_Weekly)))
    (pg_Weekly : PySem.W.plainGet K x_Weekly Str.empty = true)
    (hd_Weekly : PySem.W.hasDictIn K x_Weekly = true)
    (po_Weekly : PySem.W.plainOver K x_Weekly = true)
    (sa_Weekly : PySem.W.findIn K (.ref x_Weekly) "__setattr__" = some (some (.builtin "object.__setattr__")))
    (mk_Weekly : PySem.W.makesIn K x_Weekly = true)
    (kc_Weekly : PySem.W.keepIn K (.ref x_Weekly) = true)
    (nf_mask_Weekly : PySem.W.findIn K (.ref x_Weekly) "mask" = some none)
    (nf_first_Weekly : PySem.W.findIn K (.ref x_Weekly) "first" = some none)
    (nf_every_Weekly : PySem.W.findIn K (.ref x_Weekly) "every" = some none)
    (aC_Yearly : PySem.W.nsIn K mainGlobals "Yearly" = some (some (.ref x_Yearly)))
    (pg_Yearly : PySem.W.plainGet K x_Yearly Str.empty = true)
    (hd_Yearly : PySem.W.hasDictIn K x_Yearly = true)
    (po_Yearly : PySem.W.plainOver K x_Yearly = true)
    (sa_Yearly : PySem.W.findIn K (.ref x_Yearly) "__setattr__" = some (some (.builtin "object.__setattr__")))
    (mk_Yearly : PySem.W.makesIn K x_Yearly = true)
    (kc_Yearly : PySem.W.keepIn K (.ref x_Yearly) = true)
    (nf_month_Yearly : PySem.W.findIn K (.ref x_Yearly) "month" = some none)
    (nf_date_Yearly : PySem.W.findIn K (.ref x_Yearly) "date" = some none)
    (nf_every_Yearly : PySem.W.findIn K (.ref x_Yearly) "every" = some none)
    (nf_origin_Yearly : PySem.W.findIn K (.ref x_Yearly) "origin" = some none)
    (nf_stride_Yearly : PySem.W.findIn K (.ref x_Yearly) "stride" = some none)
    (nf_first_Yearly : PySem.W.findIn K (.ref x_Yearly) "first" = some none)
    (a_is_day : PySem.W.nsIn K mainGlobals "is_day" = some (some (.ref f_is_day))) (l_is_day : K.lookup f_is_day = some ⟨oc_is_day, od_is_day, .func (PySem.W.fnOf "is_day" "is_day" (defArgs s_is_day) (defBody s_is_day) (defScope s_is_day) .none kV_is_day dc_is_day pm_is_day an_is_day cd_is_day ct_is_day), sl_is_day⟩) (e_is_day : PySem.W.codeIn K cd_is_day "is_day" = true) (k_is_day : PySem.W.keepIn K (.ref f_is_day) = true)
    (a_is_leap : PySem.W.nsIn K mainGlobals "is_leap" = some (some (.ref f_is_leap))) (l_is_leap : K.lookup f_is_leap = some ⟨oc_is_leap, od_is_leap, .func (PySem.W.fnOf "is_leap" "is_leap" (defArgs s_is_leap) (defBody s_is_leap) (defScope s_is_leap) .none kV_is_leap dc_is_leap pm_is_leap an_is_leap cd_is_leap ct_is_leap), sl_is_leap⟩) (e_is_leap : PySem.W.codeIn K cd_is_leap "is_leap" = true) (k_is_leap : PySem.W.keepIn K (.ref f_is_leap) = true)
    (a_year_begin : PySem.W.nsIn K mainGlobals "year_begin" = some (some (.ref f_year_begin))) (l_year_begin : K.lookup f_year_begin = some ⟨oc_year_begin, od_year_begin, .func (PySem.W.fnOf "year_begin" "year_begin" (defArgs s_year_begin) (defBody s_year_begin) (defScope s_year_begin) .none kV_year_begin dc_year_begin pm_year_begin an_year_begin cd_year_begin ct_year_begin), sl_year_begin⟩) (e_year_begin : PySem.W.codeIn K cd_year_begin "year_begin" = true) (k_year_begin : PySem.W.keepIn K (.ref f_year_begin) = true)
    (a_check_bounds : PySem.W.nsIn K mainGlobals "check_bounds" = some (some (.ref f_check_bounds))) (l_check_bounds : K.lookup f_check_bounds = some ⟨oc_check_bounds, od_check_bounds, .func (PySem.W.fnOf "check_bounds" "check_bounds" (defArgs s_check_bounds) (defBody s_check_bounds) (defScope s_check_bounds) .none kV_check_bounds dc_check_bounds pm_check_bounds an_check_bounds cd_check_bounds ct_check_bounds), sl_check_bounds⟩) (e_check_bounds : PySem.W.codeIn K cd_check_bounds "check_bounds" = true) (k_check_bounds : PySem.W.keepIn K (.ref f_check_bounds) = true)
    (a_ByMonth___init : PySem.W.findIn K (.ref x_ByMonth) "__init__" = some (some (.ref f_ByMonth___init))) (l_ByMonth___init : K.lookup f_ByMonth___init = some ⟨oc_ByMonth___init, od_ByMonth___init, .func (PySem.W.fnOf "__init__" "ByMonth.__init__" (defArgs s_ByMonth___init) (defBody s_ByMonth___init) (defScope s_ByMonth___init) .none kV_ByMonth___init dc_ByMonth___init pm_ByMonth___init an_ByMonth___init cd_ByMonth___init ct_ByMonth___init), sl_ByMonth___init⟩) (e_ByMonth___init : PySem.W.codeIn K cd_ByMonth___init "ByMonth.__init__" = true) (k_ByMonth___init : PySem.W.keepIn K (.ref f_ByMonth___init) = true)
    (i_ByMonth___init : PySem.W.isFn K (.ref f_ByMonth___init) = true)
    (a_Changed_days_lost : PySem.W.findIn K (.ref x_Changed) "days_lost" = some (some (.ref f_Changed_days_lost))) (l_Changed_days_lost : K.lookup f_Changed_days_lost = some ⟨oc_Changed_days_lost, od_Changed_days_lost, .func (PySem.W.fnOf "days_lost" "Changed.days_lost" (defArgs s_Changed_days_lost) (defBody s_Changed_days_lost) (defScope s_Changed_days_lost) .none kV_Changed_days_lost dc_Changed_days_lost pm_Changed_days_lost an_Changed_days_lost cd_Changed_days_lost ct_Changed_days_lost), sl_Changed_days_lost⟩) (e_Changed_days_lost : PySem.W.codeIn K cd_Changed_days_lost "Changed.days_lost" = true) (k_Changed_days_lost : PySem.W.keepIn K (.ref f_Changed_days_lost) = true)
    (i_Changed_days_lost : PySem.W.isFn K (.ref f_Changed_days_lost) = true)
    (a_law_cell_at : PySem.W.nsIn K mainGlobals "_law_cell_at" = some (some (.ref f_law_cell_at))) (l_law_cell_at : K.lookup f_law_cell_at = some ⟨oc_law_cell_at, od_law_cell_at, .func (PySem.W.fnOf "_law_cell_at" "_law_cell_at" (defArgs s_law_cell_at) (defBody s_law_cell_at) (defScope s_law_cell_at) .none kV_law_cell_at dc_law_cell_at pm_law_cell_at an_law_cell_at cd_law_cell_at ct_law_cell_at), sl_law_cell_at⟩) (e_law_cell_at : PySem.W.codeIn K cd_law_cell_at "_law_cell_at" = true) (k_law_cell_at : PySem.W.keepIn K (.ref f_law_cell_at) = true)
    (a_law_next : PySem.W.nsIn K mainGlobals "_law_next" = some (some (.ref f_law_next))) (l_law_next : K.lookup f_law_next = some ⟨oc_law_next, od_law_next, .func (PySem.W.fnOf "_law_next" "_law_next" (defArgs s_law_next) (defBody s_law_next) (defScope s_law_next) .none kV_law_next dc_law_next pm_law_next an_law_next cd_law_next ct_law_next), sl_law_next⟩) (e_law_next : PySem.W.codeIn K cd_law_next "_law_next" = true) (k_law_next : PySem.W.keepIn K (.ref f_law_next) = true)
    (a_law_leap : PySem.W.nsIn K mainGlobals "_law_leap" = some (some (.ref f_law_leap))) (l_law_leap : K.lookup f_law_leap = some ⟨oc_law_leap, od_law_leap, .func (PySem.W.fnOf "_law_leap" "_law_leap" (defArgs s_law_leap) (defBody s_law_leap) (defScope s_law_leap) .none kV_law_leap dc_law_leap pm_law_leap an_law_leap cd_law_leap ct_law_leap), sl_law_leap⟩) (e_law_leap : PySem.W.codeIn K cd_law_leap "_law_leap" = true) (k_law_leap : PySem.W.keepIn K (.ref f_law_leap) = true)
    (a_law_alone : PySem.W.nsIn K mainGlobals "_law_alone" = some (some (.ref f_law_alone))) (l_law_alone : K.lookup f_law_alone = some ⟨oc_law_alone, od_law_alone, .func (PySem.W.fnOf "_law_alone" "_law_alone" (defArgs s_law_alone) (defBody s_law_alone) (defScope s_law_alone) .none kV_law_alone dc_law_alone pm_law_alone an_law_alone cd_law_alone ct_law_alone), sl_law_alone⟩) (e_law_alone : PySem.W.codeIn K cd_law_alone "_law_alone" = true) (k_law_alone : PySem.W.keepIn K (.ref f_law_alone) = true)
    (a_law_number : PySem.W.nsIn K mainGlobals "_law_number" = some (some (.ref f_law_number))) (l_law_number : K.lookup f_law_number = some ⟨oc_law_number, od_law_number, .func (PySem.W.fnOf "_law_number" "_law_number" (defArgs s_law_number) (defBody s_law_number) (defScope s_law_number) .none kV_law_number dc_law_number pm_law_number an_law_number cd_law_number ct_law_number), sl_law_number⟩) (e_law_number : PySem.W.codeIn K cd_law_number "_law_number" = true) (k_law_number : PySem.W.keepIn K (.ref f_law_number) = true)
    (a_month_days : PySem.W.nsIn K mainGlobals "month_days" = some (some (.ref f_month_days))) (l_month_days : K.lookup f_month_days = some ⟨oc_month_days, od_month_days, .func (PySem.W.fnOf "month_days" "month_days" (defArgs s_month_days) (defBody s_month_days) (defScope s_month_days) .none kV_month_days dc_month_days pm_month_days an_month_days cd_month_days ct_month_days), sl_month_days⟩) (e_month_days : PySem.W.codeIn K cd_month_days "month_days" = true) (k_month_days : PySem.W.keepIn K (.ref f_month_days) = true)
    (a_month_begin : PySem.W.nsIn K mainGlobals "month_begin" = some (some (.ref f_month_begin))) (l_month_begin : K.lookup f_month_begin = some ⟨oc_month_begin, od_month_begin, .func (PySem.W.fnOf "month_begin" "month_begin" (defArgs s_month_begin) (defBody s_month_begin) (defScope s_month_begin) .none kV_month_begin dc_month_begin pm_month_begin an_month_begin cd_month_begin ct_month_begin), sl_month_begin⟩) (e_month_begin : PySem.W.codeIn K cd_month_begin "month_begin" = true) (k_month_begin : PySem.W.keepIn K (.ref f_month_begin) = true)
    (a_check_day : PySem.W.nsIn K mainGlobals "check_day" = some (some (.ref f_check_day))) (l_check_day : K.lookup f_check_day = some ⟨oc_check_day, od_check_day, .func (PySem.W.fnOf "check_day" "check_day" (defArgs s_check_day) (defBody s_check_day) (defScope s_check_day) .none kV_check_day dc_check_day pm_check_day an_check_day cd_check_day ct_check_day), sl_check_day⟩) (e_check_day : PySem.W.codeIn K cd_check_day "check_day" = true) (k_check_day : PySem.W.keepIn K (.ref f_check_day) = true)
    (a_Every_falls_on : PySem.W.findIn K (.ref x_Every) "falls_on" = some (some (.ref f_Every_falls_on))) (l_Every_falls_on : K.lookup f_Every_falls_on = some ⟨oc_Every_falls_on, od_Every_falls_on, .func (PySem.W.fnOf "falls_on" "Every.falls_on" (defArgs s_Every_falls_on) (defBody s_Every_falls_on) (defScope s_Every_falls_on) .none kV_Every_falls_on dc_Every_falls_on pm_Every_falls_on an_Every_falls_on cd_Every_falls_on ct_Every_falls_on), sl_Every_falls_on⟩) (e_Every_falls_on : PySem.W.codeIn K cd_Every_falls_on "Every.falls_on" = true) (k_Every_falls_on : PySem.W.keepIn K (.ref f_Every_falls_on) = true)
    (i_Every_falls_on : PySem.W.isFn K (.ref f_Every_falls_on) = true)
    (a_Shifted___init : PySem.W.findIn K (.ref x_Shifted) "__init__" = some (some (.ref f_Shifted___init))) (l_Shifted___init : K.lookup f_Shifted___init = some ⟨oc_Shifted___init, od_Shifted___init, .func (PySem.W.fnOf "__init__" "Shifted.__init__" (defArgs s_Shifted___init) (defBody s_Shifted___init) (defScope s_Shifted___init) .none kV_Shifted___init dc_Shifted___init pm_Shifted___init an_Shifted___init cd_Shifted___init ct_Shifted___init), sl_Shifted___init⟩) (e_Shifted___init : PySem.W.codeIn K cd_Shifted___init "Shifted.__init__" = true) (k_Shifted___init : PySem.W.keepIn K (.ref f_Shifted___init) = true)
    (i_Shifted___init : PySem.W.isFn K (.ref f_Shifted___init) = true)
    (a_law_length : PySem.W.nsIn K mainGlobals "_law_length" = some (some (.ref f_law_length))) (l_law_length : K.lookup f_law_length = some ⟨oc_law_length, od_law_length, .func (PySem.W.fnOf "_law_length" "_law_length" (defArgs s_law_length) (defBody s_law_length) (defScope s_law_length) .none kV_law_length dc_law_length pm_law_length an_law_length cd_law_length ct_law_length), sl_law_length⟩) (e_law_length : PySem.W.codeIn K cd_law_length "_law_length" = true) (k_law_length : PySem.W.keepIn K (.ref f_law_length) = true)
    (a_month_of : PySem.W.nsIn K mainGlobals "month_of" = some (some (.ref f_month_of))) (l_month_of : K.lookup f_month_of = some ⟨oc_month_of, od_month_of, .func (PySem.W.fnOf "month_of" "month_of" (defArgs s_month_of) (defBody s_month_of) (defScope s_month_of) .none kV_month_of dc_month_of pm_month_of an_month_of cd_month_of ct_month_of), sl_month_of⟩) (e_month_of : PySem.W.codeIn K cd_month_of "month_of" = true) (k_month_of : PySem.W.keepIn K (.ref f_month_of) = true)
    (a_check_every : PySem.W.nsIn K mainGlobals "check_every" = some (some (.ref f_check_every))) (l_check_every : K.lookup f_check_every = some ⟨oc_check_every, od_check_every, .func (PySem.W.fnOf "check_every" "check_every" (defArgs s_check_every) (defBody s_check_every) (defScope s_check_every) .none kV_check_every dc_check_every pm_check_every an_check_every cd_check_every ct_check_every), sl_check_every⟩) (e_check_every : PySem.W.codeIn K cd_check_every "check_every" = true) (k_check_every : PySem.W.keepIn K (.ref f_check_every) = true)
    (a_Every___init : PySem.W.findIn K (.ref x_Every) "__init__" = some (some (.ref f_Every___init))) (l_Every___init : K.lookup f_Every___init = some ⟨oc_Every___init, od_Every___init, .func (PySem.W.fnOf "__init__" "Every.__init__" (defArgs s_Every___init) (defBody s_Every___init) (defScope s_Every___init) dV_Every___init kV_Every___init dc_Every___init pm_Every___init an_Every___init cd_Every___init ct_Every___init), sl_Every___init⟩) (e_Every___init : PySem.W.codeIn K cd_Every___init "Every.__init__" = true) (k_Every___init : PySem.W.keepIn K (.ref f_Every___init) = true)
    (i_Every___init : PySem.W.isFn K (.ref f_Every___init) = true)
    (v_Every___init : dV_Every___init = .ref t_Every___init) (w_Every___init : K.lookup t_Every___init = some ot_Every___init) (x_Every___init : ot_Every___init.data = .seq #[.int 0 u_Every___init_0] nt_Every___init)
    (a_Days___init : PySem.W.findIn K (.ref x_Days) "__init__" = some (some (.ref f_Days___init))) (l_Days___init : K.lookup f_Days___init = some ⟨oc_Days___init, od_Days___init, .func (PySem.W.fnOf "__init__" "Days.__init__" (defArgs s_Days___init) (defBody s_Days___init) (defScope s_Days___init) .none kV_Days___init dc_Days___init pm_Days___init an_Days___init cd_Days___init ct_Days___init), sl_Days___init⟩) (e_Days___init : PySem.W.codeIn K cd_Days___init "Days.__init__" = true) (k_Days___init : PySem.W.keepIn K (.ref f_Days___init) = true)
    (i_Days___init : PySem.W.isFn K (.ref f_Days___init) = true)
    (a_Changed_days_gained : PySem.W.findIn K (.ref x_Changed) "days_gained" = some (some (.ref f_Changed_days_gained))) (l_Changed_days_gained : K.lookup f_Changed_days_gained = some ⟨oc_Changed_days_gained, od_Changed_days_gained, .func (PySem.W.fnOf "days_gained" "Changed.days_gained" (defArgs s_Changed_days_gained) (defBody s_Changed_days_gained) (defScope s_Changed_days_gained) .none kV_Changed_days_gained dc_Changed_days_gained pm_Changed_days_gained an_Changed_days_gained cd_Changed_days_gained ct_Changed_days_gained), sl_Changed_days_gained⟩) (e_Changed_days_gained : PySem.W.codeIn K cd_Changed_days_gained "Changed.days_gained" = true) (k_Changed_days_gained : PySem.W.keepIn K (.ref f_Changed_days_gained) = true)
    (i_Changed_days_gained : PySem.W.isFn K (.ref f_Changed_days_gained) = true)
    (a_law_numbers : PySem.W.nsIn K mainGlobals "_law_numbers" = some (some (.ref f_law_numbers))) (l_law_numbers : K.lookup f_law_numbers = some ⟨oc_law_numbers, od_law_numbers, .func (PySem.W.fnOf "_law_numbers" "_law_numbers" (defArgs s_law_numbers) (defBody s_law_numbers) (defScope s_law_numbers) .none kV_law_numbers dc_law_numbers pm_law_numbers an_law_numbers cd_law_numbers ct_law_numbers), sl_law_numbers⟩) (e_law_numbers : PySem.W.codeIn K cd_law_numbers "_law_numbers" = true) (k_law_numbers : PySem.W.keepIn K (.ref f_law_numbers) = true)
    (a_date_of : PySem.W.nsIn K mainGlobals "date_of" = some (some (.ref f_date_of))) (l_date_of : K.lookup f_date_of = some ⟨oc_date_of, od_date_of, .func (PySem.W.fnOf "date_of" "date_of" (defArgs s_date_of) (defBody s_date_of) (defScope s_date_of) .none kV_date_of dc_date_of pm_date_of an_date_of cd_date_of ct_date_of), sl_date_of⟩) (e_date_of : PySem.W.codeIn K cd_date_of "date_of" = true) (k_date_of : PySem.W.keepIn K (.ref f_date_of) = true)
    (a_Weekly___init : PySem.W.findIn K (.ref x_Weekly) "__init__" = some (some (.ref f_Weekly___init))) (l_Weekly___init : K.lookup f_Weekly___init = some ⟨oc_Weekly___init, od_Weekly___init, .func (PySem.W.fnOf "__init__" "Weekly.__init__" (defArgs s_Weekly___init) (defBody s_Weekly___init) (defScope s_Weekly___init) dV_Weekly___init kV_Weekly___init dc_Weekly___init pm_Weekly___init an_Weekly___init cd_Weekly___init ct_Weekly___init), sl_Weekly___init⟩) (e_Weekly___init : PySem.W.codeIn K cd_Weekly___init "Weekly.__init__" = true) (k_Weekly___init : PySem.W.keepIn K (.ref f_Weekly___init) = true)
    (i_Weekly___init : PySem.W.isFn K (.ref f_Weekly___init) = true)
    (v_Weekly___init : dV_Weekly___init = .ref t_Weekly___init) (w_Weekly___init : K.lookup t_Weekly___init = some ot_Weekly___init) (x_Weekly___init : ot_Weekly___init.data = .seq #[.int 0 u_Weekly___init_0, .int 1 u_Weekly___init_1] nt_Weekly___init)
    (a_Monthly___init : PySem.W.findIn K (.ref x_Monthly) "__init__" = some (some (.ref f_Monthly___init))) (l_Monthly___init : K.lookup f_Monthly___init = some ⟨oc_Monthly___init, od_Monthly___init, .func (PySem.W.fnOf "__init__" "Monthly.__init__" (defArgs s_Monthly___init) (defBody s_Monthly___init) (defScope s_Monthly___init) dV_Monthly___init kV_Monthly___init dc_Monthly___init pm_Monthly___init an_Monthly___init cd_Monthly___init ct_Monthly___init), sl_Monthly___init⟩) (e_Monthly___init : PySem.W.codeIn K cd_Monthly___init "Monthly.__init__" = true) (k_Monthly___init : PySem.W.keepIn K (.ref f_Monthly___init) = true)
    (i_Monthly___init : PySem.W.isFn K (.ref f_Monthly___init) = true)
    (v_Monthly___init : dV_Monthly___init = .ref t_Monthly___init) (w_Monthly___init : K.lookup t_Monthly___init = some ot_Monthly___init) (x_Monthly___init : ot_Monthly___init.data = .seq #[.int 0 u_Monthly___init_0, .int 1 u_Monthly___init_1] nt_Monthly___init)
    (a_Nth___init : PySem.W.findIn K (.ref x_Nth) "__init__" = some (some (.ref f_Nth___init))) (l_Nth___init : K.lookup f_Nth___init = some ⟨oc_Nth___init, od_Nth___init, .func (PySem.W.fnOf "__init__" "Nth.__init__" (defArgs s_Nth___init) (defBody s_Nth___init) (defScope s_Nth___init) dV_Nth___init kV_Nth___init dc_Nth___init pm_Nth___init an_Nth___init cd_Nth___init ct_Nth___init), sl_Nth___init⟩) (e_Nth___init : PySem.W.codeIn K cd_Nth___init "Nth.__init__" = true) (k_Nth___init : PySem.W.keepIn K (.ref f_Nth___init) = true)
    (i_Nth___init : PySem.W.isFn K (.ref f_Nth___init) = true)
    (v_Nth___init : dV_Nth___init = .ref t_Nth___init) (w_Nth___init : K.lookup t_Nth___init = some ot_Nth___init) (x_Nth___init : ot_Nth___init.data = .seq #[.int 0 u_Nth___init_0, .int 1 u_Nth___init_1] nt_Nth___init)
    (a_Changed___init : PySem.W.findIn K (.ref x_Changed) "__init__" = some (some (.ref f_Changed___init))) (l_Changed___init : K.lookup f_Changed___init = some ⟨oc_Changed___init, od_Changed___init, .func (PySem.W.fnOf "__init__" "Changed.__init__" (defArgs s_Changed___init) (defBody s_Changed___init) (defScope s_Changed___init) dV_Changed___init kV_Changed___init dc_Changed___init pm_Changed___init an_Changed___init cd_Changed___init ct_Changed___init), sl_Changed___init⟩) (e_Changed___init : PySem.W.codeIn K cd_Changed___init "Changed.__init__" = true) (k_Changed___init : PySem.W.keepIn K (.ref f_Changed___init) = true)
    (i_Changed___init : PySem.W.isFn K (.ref f_Changed___init) = true)
    (v_Changed___init : dV_Changed___init = .ref t_Changed___init) (w_Changed___init : K.lookup t_Changed___init = some ot_Changed___init) (x_Changed___init : ot_Changed___init.data = .seq #[.none, .none, .none] nt_Changed___init)
    (a_Yearly___init : PySem.W.findIn K (.ref x_Yearly) "__init__" = some (some (.ref f_Yearly___init))) (l_Yearly___init : K.lookup f_Yearly___init = some ⟨oc_Yearly___init, od_Yearly___init, .func (PySem.W.fnOf "__init__" "Yearly.__init__" (defArgs s_Yearly___init) (defBody s_Yearly___init) (defScope s_Yearly___init) dV_Yearly___init kV_Yearly___init dc_Yearly___init pm_Yearly___init an_Yearly___init cd_Yearly___init ct_Yearly___init), sl_Yearly___init⟩) (e_Yearly___init : PySem.W.codeIn K cd_Yearly___init "Yearly.__init__" = true) (k_Yearly___init : PySem.W.keepIn K (.ref f_Yearly___init) = true)
    (i_Yearly___init : PySem.W.isFn K (.ref f_Yearly___init) = true)
    (v_Yearly___init : dV_Yearly___init = .ref t_Yearly___init) (w_Yearly___init : K.lookup t_Yearly___init = some ot_Yearly___init) (x_Yearly___init : ot_Yearly___init.data = .seq #[.int 0 u_Yearly___init_0, .int 1 u_Yearly___init_1] nt_Yearly___init)
    (a_law_make : PySem.W.nsIn K mainGlobals "_law_make" = some (some (.ref f_law_make))) (l_law_make : K.lookup f_law_make = some ⟨oc_law_make, od_law_make, .func (PySem.W.fnOf "_law_make" "_law_make" (defArgs s_law_make) (defBody s_law_make) (defScope s_law_make) .none kV_law_make dc_law_make pm_law_make an_law_make cd_law_make ct_law_make), sl_law_make⟩) (e_law_make : PySem.W.codeIn K cd_law_make "_law_make" = true) (k_law_make : PySem.W.keepIn K (.ref f_law_make) = true)
    (a_law_told : PySem.W.nsIn K mainGlobals "_law_told" = some (some (.ref f_law_told))) (l_law_told : K.lookup f_law_told = some ⟨oc_law_told, od_law_told, .func (PySem.W.fnOf "_law_told" "_law_told" (defArgs s_law_told) (defBody s_law_told) (defScope s_law_told) .none kV_law_told dc_law_told pm_law_told an_law_told cd_law_told ct_law_told), sl_law_told⟩) (e_law_told : PySem.W.codeIn K cd_law_told "_law_told" = true) (k_law_told : PySem.W.keepIn K (.ref f_law_told) = true)
    (a_law_all_ends : PySem.W.nsIn K mainGlobals "_law_all_ends" = some (some (.ref f_law_all_ends))) (l_law_all_ends : K.lookup f_law_all_ends = some ⟨oc_law_all_ends, od_law_all_ends, .func (PySem.W.fnOf "_law_all_ends" "_law_all_ends" (defArgs s_law_all_ends) (defBody s_law_all_ends) (defScope s_law_all_ends) .none kV_law_all_ends dc_law_all_ends pm_law_all_ends an_law_all_ends cd_law_all_ends ct_law_all_ends), sl_law_all_ends⟩) (e_law_all_ends : PySem.W.codeIn K cd_law_all_ends "_law_all_ends" = true) (k_law_all_ends : PySem.W.keepIn K (.ref f_law_all_ends) = true)
    (a_law : PySem.W.nsIn K mainGlobals "law" = some (some (.ref f_law))) (l_law : K.lookup f_law = some ⟨oc_law, od_law, .func (PySem.W.fnOf "law" "law" (defArgs s_law) (defBody s_law) (defScope s_law) .none kV_law dc_law pm_law an_law cd_law ct_law), sl_law⟩) (e_law : PySem.W.codeIn K cd_law "law" = true) (k_law : PySem.W.keepIn K (.ref f_law) = true)
    (g_DAYS : PySem.W.nsIn K mainGlobals "DAYS" = some (some (.int 146097 t_DAYS)))
    (g_DAYS_AHEAD : PySem.W.nsIn K mainGlobals "DAYS_AHEAD" = some (some (.ref c_DAYS_AHEAD))) (o_DAYS_AHEAD' : K.lookup c_DAYS_AHEAD = some o_DAYS_AHEAD) (p_DAYS_AHEAD : o_DAYS_AHEAD.cls = .type "tuple") (q_DAYS_AHEAD : o_DAYS_AHEAD.data = .seq #[.int 0 t_DAYS_AHEAD_0, .int 31 t_DAYS_AHEAD_1, .int 59 t_DAYS_AHEAD_2, .int 90 t_DAYS_AHEAD_3, .int 120 t_DAYS_AHEAD_4, .int 151 t_DAYS_AHEAD_5, .int 181 t_DAYS_AHEAD_6, .int 212 t_DAYS_AHEAD_7, .int 243 t_DAYS_AHEAD_8, .int 273 t_DAYS_AHEAD_9, .int 304 t_DAYS_AHEAD_10, .int 334 t_DAYS_AHEAD_11] n_DAYS_AHEAD)
    (g_FIRST_YEAR : PySem.W.nsIn K mainGlobals "FIRST_YEAR" = some (some (.int 2000 t_FIRST_YEAR)))
    (g_LONG_YEAR : PySem.W.nsIn K mainGlobals "LONG_YEAR" = some (some (.int 2000 t_LONG_YEAR)))
    (g_MONTHS : PySem.W.nsIn K mainGlobals "MONTHS" = some (some (.int 4800 t_MONTHS)))
    (g_MONTH_LENGTHS : PySem.W.nsIn K mainGlobals "MONTH_LENGTHS" = some (some (.ref c_MONTH_LENGTHS))) (o_MONTH_LENGTHS' : K.lookup c_MONTH_LENGTHS = some o_MONTH_LENGTHS) (p_MONTH_LENGTHS : o_MONTH_LENGTHS.cls = .type "tuple") (q_MONTH_LENGTHS : o_MONTH_LENGTHS.data = .seq #[.int 31 t_MONTH_LENGTHS_0, .int 28 t_MONTH_LENGTHS_1, .int 31 t_MONTH_LENGTHS_2, .int 30 t_MONTH_LENGTHS_3, .int 31 t_MONTH_LENGTHS_4, .int 30 t_MONTH_LENGTHS_5, .int 31 t_MONTH_LENGTHS_6, .int 31 t_MONTH_LENGTHS_7, .int 30 t_MONTH_LENGTHS_8, .int 31 t_MONTH_LENGTHS_9, .int 30 t_MONTH_LENGTHS_10, .int 31 t_MONTH_LENGTHS_11] n_MONTH_LENGTHS)
    (g_MOST_EVERY : PySem.W.nsIn K mainGlobals "MOST_EVERY" = some (some (.int 1000 t_MOST_EVERY)))
    (g_MOST_MANY : PySem.W.nsIn K mainGlobals "MOST_MANY" = some (some (.int 1000 t_MOST_MANY)))
    (m_Busy : PySem.W.nsIn K mainGlobals "Busy" = some (some (.ref x_Busy)))
    (m_Closed : PySem.W.nsIn K mainGlobals "Closed" = some (some (.ref x_Closed)))
    (m_Full : PySem.W.nsIn K mainGlobals "Full" = some (some (.ref x_Full)))
    (m_HouseError : PySem.W.nsIn K mainGlobals "HouseError" = some (some (.ref x_HouseError)))
    (ct_HouseError : PySem.W.typeIn K (.ref x_HouseError) = some (.type "type")) (cb_HouseError : PySem.W.mroIn K x_HouseError (.type "BaseException") = some true)
    (m_Known : PySem.W.nsIn K mainGlobals "Known" = some (some (.ref x_Known)))
    (m_NoDay : PySem.W.nsIn K mainGlobals "NoDay" = some (some (.ref x_NoDay)))
    (m_NoHand : PySem.W.nsIn K mainGlobals "NoHand" = some (some (.ref x_NoHand)))
    (m_NoLetter : PySem.W.nsIn K mainGlobals "NoLetter" = some (some (.ref x_NoLetter)))
    (m_NoMeeting : PySem.W.nsIn K mainGlobals "NoMeeting" = some (some (.ref x_NoMeeting)))
    (m_NoPlace : PySem.W.nsIn K mainGlobals "NoPlace" = some (some (.ref x_NoPlace)))
    (m_NoRule : PySem.W.nsIn K mainGlobals "NoRule" = some (some (.ref x_NoRule)))
    (x_NoRule' : PySem.W.excIn K x_NoRule [.type "ValueError", .type "Exception", .type "BaseException", .type "object"] "ValueError.__new__" = true)
    (m_NoSpan : PySem.W.nsIn K mainGlobals "NoSpan" = some (some (.ref x_NoSpan)))
    (m_NoText : PySem.W.nsIn K mainGlobals "NoText" = some (some (.ref x_NoText)))
    (m_NoThing : PySem.W.nsIn K mainGlobals "NoThing" = some (some (.ref x_NoThing)))
    (m_NoWord : PySem.W.nsIn K mainGlobals "NoWord" = some (some (.ref x_NoWord)))
    (s_NoRule_HouseError : PySem.W.mroIn K x_NoRule (.ref x_HouseError) = some true)
    (e0_NoRule : PySem.W.findIn K (.ref x_NoRule) "__getattribute__" = some (some (.builtin "BaseException.__getattribute__")))
    (e1_NoRule : PySem.W.findIn K (.ref x_NoRule) "__getattr__" = some none)
    (e2_NoRule : PySem.W.findIn K (.ref x_NoRule) "__class__" = some (some (.builtin "object.__class__")))
    (e3_NoRule : PySem.W.specialIn K (.builtin "object.__class__") "__get__" = some (some (.builtin "getset_descriptor.__get__")))
    (e4_NoRule : PySem.W.takesIn K (.builtin "object.__class__") = some true)
    (e5_NoRule : PySem.W.mroIn K x_NoRule (.type "object") = some true)
    (e6_NoRule : PySem.W.mroIn K x_NoRule (.type "BaseException") = some true)
    (k_NoRule_NoDay : PySem.W.kitOne K (.ref x_NoRule) (.ref x_NoDay) = some false)
    (k_NoRule_NoText : PySem.W.kitOne K (.ref x_NoRule) (.ref x_NoText) = some false)
    (k_NoRule_NoRule : PySem.W.kitOne K (.ref x_NoRule) (.ref x_NoRule) = some true)
    (k_NoRule_NoPlace : PySem.W.kitOne K (.ref x_NoRule) (.ref x_NoPlace) = some false)
    (k_NoRule_NoSpan : PySem.W.kitOne K (.ref x_NoRule) (.ref x_NoSpan) = some false)
    (k_NoRule_NoThing : PySem.W.kitOne K (.ref x_NoRule) (.ref x_NoThing) = some false)
    (k_NoRule_Known : PySem.W.kitOne K (.ref x_NoRule) (.ref x_Known) = some false)
    (k_NoRule_Full : PySem.W.kitOne K (.ref x_NoRule) (.ref x_Full) = some false)
    (k_NoRule_NoLetter : PySem.W.kitOne K (.ref x_NoRule) (.ref x_NoLetter) = some false)
    (k_NoRule_NoHand : PySem.W.kitOne K (.ref x_NoRule) (.ref x_NoHand) = some false)
    (k_NoRule_NoWord : PySem.W.kitOne K (.ref x_NoRule) (.ref x_NoWord) = some false)
    (k_NoRule_NoMeeting : PySem.W.kitOne K (.ref x_NoRule) (.ref x_NoMeeting) = some false)
    (k_NoRule_Closed : PySem.W.kitOne K (.ref x_NoRule) (.ref x_Closed) = some false)
    (k_NoRule_Busy : PySem.W.kitOne K (.ref x_NoRule) (.ref x_Busy) = some false)
    (k_NoRule_ValueError : PySem.W.kitOne K (.ref x_NoRule) (.type "ValueError") = some true)
    (io0_Changed : PySem.W.findIn K (.ref x_Changed) "__class__" = some (some (.builtin "object.__class__")))
    (io1_Changed : PySem.W.specialIn K (.builtin "object.__class__") "__get__" = some (some (.builtin "getset_descriptor.__get__")))
    (io2_Changed : PySem.W.takesIn K (.builtin "object.__class__") = some true)
    (io3_Changed : PySem.W.mroIn K x_Changed (.type "object") = some true)
    (io0_Days : PySem.W.findIn K (.ref x_Days) "__class__" = some (some (.builtin "object.__class__")))
    (io1_Days : PySem.W.specialIn K (.builtin "object.__class__") "__get__" = some (some (.builtin "getset_descriptor.__get__")))
    (io2_Days : PySem.W.takesIn K (.builtin "object.__class__") = some true)
    (io3_Days : PySem.W.mroIn K x_Days (.type "object") = some true)
    (io0_Every : PySem.W.findIn K (.ref x_Every) "__class__" = some (some (.builtin "object.__class__")))
    (io1_Every : PySem.W.specialIn K (.builtin "object.__class__") "__get__" = some (some (.builtin "getset_descriptor.__get__")))
    (io2_Every : PySem.W.takesIn K (.builtin "object.__class__") = some true)
    (io3_Every : PySem.W.mroIn K x_Every (.type "object") = some true)
    (io0_Monthly : PySem.W.findIn K (.ref x_Monthly) "__class__" = some (some (.builtin "object.__class__")))
    (io1_Monthly : PySem.W.specialIn K (.builtin "object.__class__") "__get__" = some (some (.builtin "getset_descriptor.__get__")))
    (io2_Monthly : PySem.W.takesIn K (.builtin "object.__class__") = some true)
    (io3_Monthly : PySem.W.mroIn K x_Monthly (.type "object") = some true)
    (io0_Nth : PySem.W.findIn K (.ref x_Nth) "__class__" = some (some (.builtin "object.__class__")))
    (io1_Nth : PySem.W.specialIn K (.builtin "object.__class__") "__get__" = some (some (.builtin "getset_descriptor.__get__")))
    (io2_Nth : PySem.W.takesIn K (.builtin "object.__class__") = some true)
    (io3_Nth : PySem.W.mroIn K x_Nth (.type "object") = some true)
    (io0_Shifted : PySem.W.findIn K (.ref x_Shifted) "__class__" = some (some (.builtin "object.__class__")))
    (io1_Shifted : PySem.W.specialIn K (.builtin "object.__class__") "__get__" = some (some (.builtin "getset_descriptor.__get__")))
    (io2_Shifted : PySem.W.takesIn K (.builtin "object.__class__") = some true)
    (io3_Shifted : PySem.W.mroIn K x_Shifted (.type "object") = some true)
    (io0_Weekly : PySem.W.findIn K (.ref x_Weekly) "__class__" = some (some (.builtin "object.__class__")))
    (io1_Weekly : PySem.W.specialIn K (.builtin "object.__class__") "__get__" = some (some (.builtin "getset_descriptor.__get__")))
    (io2_Weekly : PySem.W.takesIn K (.builtin "object.__class__") = some true)
    (io3_Weekly : PySem.W.mroIn K x_Weekly (.type "object") = some true)
    (io0_Yearly : PySem.W.findIn K (.ref x_Yearly) "__class__" = some (some (.builtin "object.__class__")))
    (io1_Yearly : PySem.W.specialIn K (.builtin "object.__class__") "__get__" = some (some (.builtin "getset_descriptor.__get__")))
    (io2_Yearly : PySem.W.takesIn K (.builtin "object.__class__") = some true)
    (io3_Yearly : PySem.W.mroIn K x_Yearly (.type "object") = some true)
    (cg_ByMonth : PySem.W.specialIn K (.ref x_ByMonth) "__getattribute__" = some (some (.builtin "type.__getattribute__"))) (cr_ByMonth : PySem.W.readsIn K x_ByMonth (.type "type") = true) (ca_ByMonth___init : PySem.W.findCls K (.ref x_ByMonth) (.type "type") "__init__" = some (.val (.ref f_ByMonth___init))) (ch_ByMonth___init : PySem.W.handedIn (.ref f_ByMonth___init) = true)
    (ki_Every_Rule : PySem.W.kitOne K (.ref x_Every) (.ref x_Rule) = some true)
    (ki_Weekly_Rule : PySem.W.kitOne K (.ref x_Weekly) (.ref x_Rule) = some true)
    (ki_Monthly_Rule : PySem.W.kitOne K (.ref x_Monthly) (.ref x_Rule) = some true)
    (ki_Nth_Rule : PySem.W.kitOne K (.ref x_Nth) (.ref x_Rule) = some true)
    (ki_Yearly_Rule : PySem.W.kitOne K (.ref x_Yearly) (.ref x_Rule) = some true)
    (ki_Days_Rule : PySem.W.kitOne K (.ref x_Days) (.ref x_Rule) = some true)
    (ki_Shifted_Rule : PySem.W.kitOne K (.ref x_Shifted) (.ref x_Rule) = some true)
    (ki_Changed_Rule : PySem.W.kitOne K (.ref x_Changed) (.ref x_Rule) = some true)
    (n_ValueError : PySem.W.nsIn K mainGlobals "ValueError" = some none)
    (n_abs : PySem.W.nsIn K mainGlobals "abs" = some none)
    (n_int : PySem.W.nsIn K mainGlobals "int" = some none)
    (n_isinstance : PySem.W.nsIn K mainGlobals "isinstance" = some none)
    (n_len : PySem.W.nsIn K mainGlobals "len" = some none)
    (n_list : PySem.W.nsIn K mainGlobals "list" = some none)
    (n_range : PySem.W.nsIn K mainGlobals "range" = some none)
    (n_set : PySem.W.nsIn K mainGlobals "set" = some none)
    (n_sorted : PySem.W.nsIn K mainGlobals "sorted" = some none)
    (n_tuple : PySem.W.nsIn K mainGlobals "tuple" = some none) :
    ∃ a : Adr, Txt K mg a ∧ a.f_law = f_law ∧ ∀ (s : Shared) (v : Value), BindsTo s a.d_law ⟨[v], []⟩ [("_law_script", v)] := by
  have F_is_day := fun_mk (st := s_is_day) l_is_day e_is_day k_is_day
  have b_is_day := F_is_day.binds (ps := ["number"]) fun _ _ _ _ _ _ us hl => by obtain ⟨_, rfl⟩ := L2.ex1 hl; exact rfl
  have F_is_leap := fun_mk (st := s_is_leap) l_is_leap e_is_leap k_is_leap
  have b_is_leap := F_is_leap.binds (ps := ["year"]) fun _ _ _ _ _ _ us hl => by obtain ⟨_, rfl⟩ := L2.ex1 hl; exact rfl
  have F_year_begin := fun_mk (st := s_year_begin) l_year_begin e_year_begin k_year_begin
  have b_year_begin := F_year_begin.binds (ps := ["year"]) fun _ _ _ _ _ _ us hl => by obtain ⟨_, rfl⟩ := L2.ex1 hl; exact rfl
  have F_check_bounds := fun_mk (st := s_check_bounds) l_check_bounds e_check_bounds k_check_bounds
  have b_check_bounds := F_check_bounds.binds (ps := ["number", "least", "most"]) fun _ _ _ _ _ _ us hl => by obtain ⟨_, _, _, rfl⟩ := L2.ex3 hl; exact rfl
  have F_ByMonth___init := fun_mk (st := s_ByMonth___init) l_ByMonth___init e_ByMonth___init k_ByMonth___init
  have b_ByMonth___init := F_ByMonth___init.binds (ps := ["self", "origin", "stride", "first"]) fun _ _ _ _ _ _ us hl => by obtain ⟨_, _, _, _, rfl⟩ := L2.ex4 hl; exact rfl
  have F_Changed_days_lost := fun_mk (st := s_Changed_days_lost) l_Changed_days_lost e_Changed_days_lost k_Changed_days_lost
  have b_Changed_days_lost := F_Changed_days_lost.binds (ps := ["self"]) fun _ _ _ _ _ _ us hl => by obtain ⟨_, rfl⟩ := L2.ex1 hl; exact rfl
  have F_law_cell_at := fun_mk (st := s_law_cell_at) l_law_cell_at e_law_cell_at k_law_cell_at
  have b_law_cell_at := F_law_cell_at.binds (ps := ["_law_script", "_law_k"]) fun _ _ _ _ _ _ us hl => by obtain ⟨_, _, rfl⟩ := L2.ex2 hl; exact rfl
  have F_law_next := fun_mk (st := s_law_next) l_law_next e_law_next k_law_next
  have b_law_next := F_law_next.binds (ps := ["_law_pick"]) fun _ _ _ _ _ _ us hl => by obtain ⟨_, rfl⟩ := L2.ex1 hl; exact rfl
  have F_law_leap := fun_mk (st := s_law_leap) l_law_leap e_law_leap k_law_leap
  have b_law_leap := F_law_leap.binds (ps := ["_law_year_here"]) fun _ _ _ _ _ _ us hl => by obtain ⟨_, rfl⟩ := L2.ex1 hl; exact rfl
  have F_law_alone := fun_mk (st := s_law_alone) l_law_alone e_law_alone k_law_alone
  have b_law_alone := F_law_alone.binds (ps := ["_law_e"]) fun _ _ _ _ _ _ us hl => by obtain ⟨_, rfl⟩ := L2.ex1 hl; exact rfl
  have F_law_number := fun_mk (st := s_law_number) l_law_number e_law_number k_law_number
  have b_law_number := F_law_number.binds (ps := ["_law_cell", "_law_low", "_law_high"]) fun _ _ _ _ _ _ us hl => by obtain ⟨_, _, _, rfl⟩ := L2.ex3 hl; exact rfl
  have F_month_days := fun_mk (st := s_month_days) l_month_days e_month_days k_month_days
  have b_month_days := F_month_days.binds (ps := ["year", "month"]) fun _ _ _ _ _ _ us hl => by obtain ⟨_, _, rfl⟩ := L2.ex2 hl; exact rfl
  have F_month_begin := fun_mk (st := s_month_begin) l_month_begin e_month_begin k_month_begin
  have b_month_begin := F_month_begin.binds (ps := ["number"]) fun _ _ _ _ _ _ us hl => by obtain ⟨_, rfl⟩ := L2.ex1 hl; exact rfl
  have F_check_day := fun_mk (st := s_check_day) l_check_day e_check_day k_check_day
  have b_check_day := F_check_day.binds (ps := ["number"]) fun _ _ _ _ _ _ us hl => by obtain ⟨_, rfl⟩ := L2.ex1 hl; exact rfl
  have F_Every_falls_on := fun_mk (st := s_Every_falls_on) l_Every_falls_on e_Every_falls_on k_Every_falls_on
  have b_Every_falls_on := F_Every_falls_on.binds (ps := ["self", "day"]) fun _ _ _ _ _ _ us hl => by obtain ⟨_, _, rfl⟩ := L2.ex2 hl; exact rfl
  have F_Shifted___init := fun_mk (st := s_Shifted___init) l_Shifted___init e_Shifted___init k_Shifted___init
  have b_Shifted___init := F_Shifted___init.binds (ps := ["self", "rule", "many"]) fun _ _ _ _ _ _ us hl => by obtain ⟨_, _, _, rfl⟩ := L2.ex3 hl; exact rfl
  have F_law_length := fun_mk (st := s_law_length) l_law_length e_law_length k_law_length
  have b_law_length := F_law_length.binds (ps := ["_law_year_here", "_law_month"]) fun _ _ _ _ _ _ us hl => by obtain ⟨_, _, rfl⟩ := L2.ex2 hl; exact rfl
  have F_month_of := fun_mk (st := s_month_of) l_month_of e_month_of k_month_of
  have b_month_of := F_month_of.binds (ps := ["day"]) fun _ _ _ _ _ _ us hl => by obtain ⟨_, rfl⟩ := L2.ex1 hl; exact rfl
  have F_check_every := fun_mk (st := s_check_every) l_check_every e_check_every k_check_every
  have b_check_every := F_check_every.binds (ps := ["first", "every"]) fun _ _ _ _ _ _ us hl => by obtain ⟨_, _, rfl⟩ := L2.ex2 hl; exact rfl
  subst v_Every___init
  have F_Every___init := funD_mk (st := s_Every___init) l_Every___init e_Every___init k_Every___init
  have b_Every___init : Binds K (PySem.W.fnOf "__init__" "Every.__init__" (defArgs s_Every___init) (defBody s_Every___init) (defScope s_Every___init) (.ref t_Every___init) kV_Every___init dc_Every___init pm_Every___init an_Every___init cd_Every___init ct_Every___init) ["self", "step", "first"] [] := fun s us KX hl => by obtain ⟨_, _, _, rfl⟩ := L2.ex3 (us := us) (by rw [List.append_nil] at hl; exact hl); exact BindsTo.of_defaults rfl (KX _ _ w_Every___init) x_Every___init rfl rfl
  have F_Days___init := fun_mk (st := s_Days___init) l_Days___init e_Days___init k_Days___init
  have b_Days___init := F_Days___init.binds (ps := ["self", "days"]) fun _ _ _ _ _ _ us hl => by obtain ⟨_, _, rfl⟩ := L2.ex2 hl; exact rfl
  have F_Changed_days_gained := fun_mk (st := s_Changed_days_gained) l_Changed_days_gained e_Changed_days_gained k_Changed_days_gained
  have b_Changed_days_gained := F_Changed_days_gained.binds (ps := ["self"]) fun _ _ _ _ _ _ us hl => by obtain ⟨_, rfl⟩ := L2.ex1 hl; exact rfl
  have F_law_numbers := fun_mk (st := s_law_numbers) l_law_numbers e_law_numbers k_law_numbers
  have b_law_numbers := F_law_numbers.binds (ps := ["_law_cell"]) fun _ _ _ _ _ _ us hl => by obtain ⟨_, rfl⟩ := L2.ex1 hl; exact rfl
  have F_date_of := fun_mk (st := s_date_of) l_date_of e_date_of k_date_of
  have b_date_of := F_date_of.binds (ps := ["day"]) fun _ _ _ _ _ _ us hl => by obtain ⟨_, rfl⟩ := L2.ex1 hl; exact rfl
  subst v_Weekly___init
  have F_Weekly___init := funD_mk (st := s_Weekly___init) l_Weekly___init e_Weekly___init k_Weekly___init
  have b_Weekly___init : Binds K (PySem.W.fnOf "__init__" "Weekly.__init__" (defArgs s_Weekly___init) (defBody s_Weekly___init) (defScope s_Weekly___init) (.ref t_Weekly___init) kV_Weekly___init dc_Weekly___init pm_Weekly___init an_Weekly___init cd_Weekly___init ct_Weekly___init) ["self", "mask", "first", "every"] [] := fun s us KX hl => by obtain ⟨_, _, _, _, rfl⟩ := L2.ex4 (us := us) (by rw [List.append_nil] at hl; exact hl); exact BindsTo.of_defaults rfl (KX _ _ w_Weekly___init) x_Weekly___init rfl rfl
  subst v_Monthly___init
  have F_Monthly___init := funD_mk (st := s_Monthly___init) l_Monthly___init e_Monthly___init k_Monthly___init
  have b_Monthly___init : Binds K (PySem.W.fnOf "__init__" "Monthly.__init__" (defArgs s_Monthly___init) (defBody s_Monthly___init) (defScope s_Monthly___init) (.ref t_Monthly___init) kV_Monthly___init dc_Monthly___init pm_Monthly___init an_Monthly___init cd_Monthly___init ct_Monthly___init) ["self", "date", "first", "every"] [] := fun s us KX hl => by obtain ⟨_, _, _, _, rfl⟩ := L2.ex4 (us := us) (by rw [List.append_nil] at hl; exact hl); exact BindsTo.of_defaults rfl (KX _ _ w_Monthly___init) x_Monthly___init rfl rfl
  subst v_Nth___init
  have F_Nth___init := funD_mk (st := s_Nth___init) l_Nth___init e_Nth___init k_Nth___init
  have b_Nth___init : Binds K (PySem.W.fnOf "__init__" "Nth.__init__" (defArgs s_Nth___init) (defBody s_Nth___init) (defScope s_Nth___init) (.ref t_Nth___init) kV_Nth___init dc_Nth___init pm_Nth___init an_Nth___init cd_Nth___init ct_Nth___init) ["self", "which", "weekday_of", "first", "every"] [] := fun s us KX hl => by obtain ⟨_, _, _, _, _, rfl⟩ := L2.ex5 (us := us) (by rw [List.append_nil] at hl; exact hl); exact BindsTo.of_defaults rfl (KX _ _ w_Nth___init) x_Nth___init rfl rfl
  subst v_Changed___init
  have F_Changed___init := funD_mk (st := s_Changed___init) l_Changed___init e_Changed___init k_Changed___init
  have b_Changed___init : Binds K (PySem.W.fnOf "__init__" "Changed.__init__" (defArgs s_Changed___init) (defBody s_Changed___init) (defScope s_Changed___init) (.ref t_Changed___init) kV_Changed___init dc_Changed___init pm_Changed___init an_Changed___init cd_Changed___init ct_Changed___init) ["self", "rule", "left", "more", "moved"] [] := fun s us KX hl => by obtain ⟨_, _, _, _, _, rfl⟩ := L2.ex5 (us := us) (by rw [List.append_nil] at hl; exact hl); exact BindsTo.of_defaults rfl (KX _ _ w_Changed___init) x_Changed___init rfl rfl
  subst v_Yearly___init
  have F_Yearly___init := funD_mk (st := s_Yearly___init) l_Yearly___init e_Yearly___init k_Yearly___init
  have b_Yearly___init : Binds K (PySem.W.fnOf "__init__" "Yearly.__init__" (defArgs s_Yearly___init) (defBody s_Yearly___init) (defScope s_Yearly___init) (.ref t_Yearly___init) kV_Yearly___init dc_Yearly___init pm_Yearly___init an_Yearly___init cd_Yearly___init ct_Yearly___init) ["self", "month", "date", "first", "every"] [] := fun s us KX hl => by obtain ⟨_, _, _, _, _, rfl⟩ := L2.ex5 (us := us) (by rw [List.append_nil] at hl; exact hl); exact BindsTo.of_defaults rfl (KX _ _ w_Yearly___init) x_Yearly___init rfl rfl
  have F_law_make := fun_mk (st := s_law_make) l_law_make e_law_make k_law_make
  have b_law_make := F_law_make.binds (ps := ["_law_way", "_law_some"]) fun _ _ _ _ _ _ us hl => by obtain ⟨_, _, rfl⟩ := L2.ex2 hl; exact rfl
  have F_law_told := fun_mk (st := s_law_told) l_law_told e_law_told k_law_told
  have b_law_told := F_law_told.binds (ps := ["_law_way", "_law_some"]) fun _ _ _ _ _ _ us hl => by obtain ⟨_, _, rfl⟩ := L2.ex2 hl; exact rfl
  have F_law_all_ends := fun_mk (st := s_law_all_ends) l_law_all_ends e_law_all_ends k_law_all_ends
  have b_law_all_ends := F_law_all_ends.binds (ps := ["_law_turn"]) fun _ _ _ _ _ _ us hl => by obtain ⟨_, rfl⟩ := L2.ex1 hl; exact rfl
  have F_law := fun_mk (st := s_law) l_law e_law k_law
  have b_law := F_law.binds (ps := ["_law_script"]) fun _ _ _ _ _ _ us hl => by obtain ⟨_, rfl⟩ := L2.ex1 hl; exact rfl
  exact ⟨{ f_is_day := f_is_day, d_is_day := _, f_is_leap := f_is_leap, d_is_leap := _, f_year_begin := f_year_begin, d_year_begin := _, f_check_bounds := f_check_bounds, d_check_bounds := _, f_ByMonth___init := f_ByMonth___init, d_ByMonth___init := _, f_Changed_days_lost := f_Changed_days_lost, d_Changed_days_lost := _, f_law_cell_at := f_law_cell_at, d_law_cell_at := _, f_law_next := f_law_next, d_law_next := _, f_law_leap := f_law_leap, d_law_leap := _, f_law_alone := f_law_alone, d_law_alone := _, f_law_number := f_law_number, d_law_number := _, f_month_days := f_month_days, d_month_days := _, f_month_begin := f_month_begin, d_month_begin := _, f_check_day := f_check_day, d_check_day := _, f_Every_falls_on := f_Every_falls_on, d_Every_falls_on := _, f_Shifted___init := f_Shifted___init, d_Shifted___init := _, f_law_length := f_law_length, d_law_length := _, f_month_of := f_month_of, d_month_of := _, f_check_every := f_check_every, d_check_every := _, f_Every___init := f_Every___init, d_Every___init := _, f_Days___init := f_Days___init, d_Days___init := _, f_Changed_days_gained := f_Changed_days_gained, d_Changed_days_gained := _, f_law_numbers := f_law_numbers, d_law_numbers := _, f_date_of := f_date_of, d_date_of := _, f_Weekly___init := f_Weekly___init, d_Weekly___init := _, f_Monthly___init := f_Monthly___init, d_Monthly___init := _, f_Nth___init := f_Nth___init, d_Nth___init := _, f_Changed___init := f_Changed___init, d_Changed___init := _, f_Yearly___init := f_Yearly___init, d_Yearly___init := _, f_law_make := f_law_make, d_law_make := _, f_law_told := f_law_told, d_law_told := _, f_law_all_ends := f_law_all_ends, d_law_all_ends := _, f_law := f_law, d_law := _, c_DAYS_AHEAD := c_DAYS_AHEAD, c_MONTH_LENGTHS := c_MONTH_LENGTHS, x_Busy := x_Busy, x_Closed := x_Closed, x_Full := x_Full, x_HouseError := x_HouseError, x_Known := x_Known, x_NoDay := x_NoDay, x_NoHand := x_NoHand, x_NoLetter := x_NoLetter, x_NoMeeting := x_NoMeeting, x_NoPlace := x_NoPlace, x_NoRule := x_NoRule, x_NoSpan := x_NoSpan, x_NoText := x_NoText, x_NoThing := x_NoThing, x_NoWord := x_NoWord, x_ByMonth := x_ByMonth, x_Changed := x_Changed, x_Days := x_Days, x_Every := x_Every, x_Monthly := x_Monthly, x_Nth := x_Nth, x_Rule := x_Rule, x_Shifted := x_Shifted, x_Weekly := x_Weekly, x_Yearly := x_Yearly }, ⟨F_is_day, PySem.W.mg_of X G a_is_day, b_is_day, F_is_leap, PySem.W.mg_of X G a_is_leap, b_is_leap, F_year_begin, PySem.W.mg_of X G a_year_begin, b_year_begin, F_check_bounds, PySem.W.mg_of X G a_check_bounds, b_check_bounds, F_ByMonth___init, b_ByMonth___init, F_Changed_days_lost, b_Changed_days_lost, F_law_cell_at, PySem.W.mg_of X G a_law_cell_at, b_law_cell_at, F_law_next, PySem.W.mg_of X G a_law_next, b_law_next, F_law_leap, PySem.W.mg_of X G a_law_leap, b_law_leap, F_law_alone, PySem.W.mg_of X G a_law_alone, b_law_alone, F_law_number, PySem.W.mg_of X G a_law_number, b_law_number, F_month_days, PySem.W.mg_of X G a_month_days, b_month_days, F_month_begin, PySem.W.mg_of X G a_month_begin, b_month_begin, F_check_day, PySem.W.mg_of X G a_check_day, b_check_day, F_Every_falls_on, b_Every_falls_on, F_Shifted___init, b_Shifted___init, F_law_length, PySem.W.mg_of X G a_law_length, b_law_length, F_month_of, PySem.W.mg_of X G a_month_of, b_month_of, F_check_every, PySem.W.mg_of X G a_check_every, b_check_every, F_Every___init, b_Every___init, ⟨[.int 0 u_Every___init_0], (fun s us KX hl => match us, (show us.length = 2 by rw [List.length_append] at hl; simpa using hl) with | [_, _], _ => BindsTo.of_defaults rfl (KX _ _ w_Every___init) x_Every___init rfl rfl), (.cons (⟨_, rfl⟩) .nil)⟩, F_Days___init, b_Days___init, F_Changed_days_gained, b_Changed_days_gained, F_law_numbers, PySem.W.mg_of X G a_law_numbers, b_law_numbers, F_date_of, PySem.W.mg_of X G a_date_of, b_date_of, F_Weekly___init, b_Weekly___init, F_Monthly___init, b_Monthly___init, F_Nth___init, b_Nth___init, F_Changed___init, b_Changed___init, ⟨[.none], (fun s us KX hl => match us, (show us.length = 4 by rw [List.length_append] at hl; simpa using hl) with | [_, _, _, _], _ => BindsTo.of_defaults rfl (KX _ _ w_Changed___init) x_Changed___init rfl rfl), (.cons (rfl) .nil)⟩, F_Yearly___init, b_Yearly___init, F_law_make, PySem.W.mg_of X G a_law_make, b_law_make, F_law_told, PySem.W.mg_of X G a_law_told, b_law_told, F_law_all_ends, PySem.W.mg_of X G a_law_all_ends, b_law_all_ends, F_law, PySem.W.mg_of X G a_law, b_law, ⟨_, PySem.W.mg_of X G g_DAYS⟩, PySem.W.mg_of X G g_DAYS_AHEAD, fun H => .inr ⟨_, _, _, o_DAYS_AHEAD', p_DAYS_AHEAD, q_DAYS_AHEAD, (by show 12 ≤ sizeLine; decide), (.cons ⟨_, rfl⟩ (.cons ⟨_, rfl⟩ (.cons ⟨_, rfl⟩ (.cons ⟨_, rfl⟩ (.cons ⟨_, rfl⟩ (.cons ⟨_, rfl⟩ (.cons ⟨_, rfl⟩ (.cons ⟨_, rfl⟩ (.cons ⟨_, rfl⟩ (.cons ⟨_, rfl⟩ (.cons ⟨_, rfl⟩ (.cons ⟨_, rfl⟩ .nil))))))))))))⟩, ⟨_, PySem.W.mg_of X G g_FIRST_YEAR⟩, ⟨_, PySem.W.mg_of X G g_LONG_YEAR⟩, ⟨_, PySem.W.mg_of X G g_MONTHS⟩, PySem.W.mg_of X G g_MONTH_LENGTHS, fun H => .inr ⟨_, _, _, o_MONTH_LENGTHS', p_MONTH_LENGTHS, q_MONTH_LENGTHS, (by show 12 ≤ sizeLine; decide), (.cons ⟨_, rfl⟩ (.cons ⟨_, rfl⟩ (.cons ⟨_, rfl⟩ (.cons ⟨_, rfl⟩ (.cons ⟨_, rfl⟩ (.cons ⟨_, rfl⟩ (.cons ⟨_, rfl⟩ (.cons ⟨_, rfl⟩ (.cons ⟨_, rfl⟩ (.cons ⟨_, rfl⟩ (.cons ⟨_, rfl⟩ (.cons ⟨_, rfl⟩ .nil))))))))))))⟩, ⟨_, PySem.W.mg_of X G g_MOST_EVERY⟩, ⟨_, PySem.W.mg_of X G g_MOST_MANY⟩, PySem.W.mg_of X G m_Busy, PySem.W.mg_of X G m_Closed, PySem.W.mg_of X G m_Full, PySem.W.mg_of X G m_HouseError, ⟨ct_HouseError, cb_HouseError⟩, PySem.W.mg_of X G m_Known, PySem.W.mg_of X G m_NoDay, PySem.W.mg_of X G m_NoHand, PySem.W.mg_of X G m_NoLetter, PySem.W.mg_of X G m_NoMeeting, PySem.W.mg_of X G m_NoPlace, PySem.W.mg_of X G m_NoRule, x_NoRule', PySem.W.mg_of X G m_NoSpan, PySem.W.mg_of X G m_NoText, PySem.W.mg_of X G m_NoThing, PySem.W.mg_of X G m_NoWord, s_NoRule_HouseError, ⟨exc_cs e5_NoRule, e0_NoRule, e1_NoRule, e2_NoRule, e3_NoRule, e4_NoRule, e5_NoRule, e6_NoRule⟩, k_NoRule_NoDay, k_NoRule_NoText, k_NoRule_NoRule, k_NoRule_NoPlace, k_NoRule_NoSpan, k_NoRule_NoThing, k_NoRule_Known, k_NoRule_Full, k_NoRule_NoLetter, k_NoRule_NoHand, k_NoRule_NoWord, k_NoRule_NoMeeting, k_NoRule_Closed, k_NoRule_Busy, k_NoRule_ValueError, ⟨cg_ByMonth, cr_ByMonth, ca_ByMonth___init, ch_ByMonth___init, k_ByMonth___init⟩, ⟨io0_Changed, io1_Changed, io2_Changed, io3_Changed⟩, ⟨io0_Days, io1_Days, io2_Days, io3_Days⟩, ⟨io0_Every, io1_Every, io2_Every, io3_Every⟩, ⟨io0_Monthly, io1_Monthly, io2_Monthly, io3_Monthly⟩, ⟨io0_Nth, io1_Nth, io2_Nth, io3_Nth⟩, ⟨io0_Shifted, io1_Shifted, io2_Shifted, io3_Shifted⟩, ⟨io0_Weekly, io1_Weekly, io2_Weekly, io3_Weekly⟩, ⟨io0_Yearly, io1_Yearly, io2_Yearly, io3_Yearly⟩, ki_Every_Rule, ki_Weekly_Rule, ki_Monthly_Rule, ki_Nth_Rule, ki_Yearly_Rule, ki_Days_Rule, ki_Shifted_Rule, ki_Changed_Rule, PySem.W.mg_of X G aC_ByMonth, ⟨pg_ByMonth, hd_ByMonth, po_ByMonth, sa_ByMonth⟩, ⟨mk_ByMonth, a_ByMonth___init, i_ByMonth___init, kc_ByMonth⟩, nf_origin_ByMonth, nf_stride_ByMonth, nf_first_ByMonth, PySem.W.mg_of X G aC_Changed, ⟨pg_Changed, hd_Changed, po_Changed, sa_Changed⟩, ⟨mk_Changed, a_Changed___init, i_Changed___init, kc_Changed⟩, nf_rule_Changed, nf_left_Changed, nf_more_Changed, nf_moved_Changed, nf_gained_Changed, nf_lost_Changed, ⟨a_Changed_days_gained, i_Changed_days_gained, k_Changed_days_gained⟩, ⟨a_Changed_days_lost, i_Changed_days_lost, k_Changed_days_lost⟩, PySem.W.mg_of X G aC_Days, ⟨pg_Days, hd_Days, po_Days, sa_Days⟩, ⟨mk_Days, a_Days___init, i_Days___init, kc_Days⟩, nf_days_Days, PySem.W.mg_of X G aC_Every, ⟨pg_Every, hd_Every, po_Every, sa_Every⟩, ⟨mk_Every, a_Every___init, i_Every___init, kc_Every⟩, nf_step_Every, nf_first_Every, ⟨a_Every_falls_on, i_Every_falls_on, k_Every_falls_on⟩, PySem.W.mg_of X G aC_Monthly, ⟨pg_Monthly, hd_Monthly, po_Monthly, sa_Monthly⟩, ⟨mk_Monthly, a_Monthly___init, i_Monthly___init, kc_Monthly⟩, nf_date_Monthly, nf_every_Monthly, nf_origin_Monthly, nf_stride_Monthly, nf_first_Monthly, PySem.W.mg_of X G aC_Nth, ⟨pg_Nth, hd_Nth, po_Nth, sa_Nth⟩, ⟨mk_Nth, a_Nth___init, i_Nth___init, kc_Nth⟩, nf_which_Nth, nf_weekday_of_Nth, nf_every_Nth, nf_origin_Nth, nf_stride_Nth, nf_first_Nth, PySem.W.mg_of X G aC_Rule, ⟨pg_Rule, hd_Rule, po_Rule, sa_Rule⟩, PySem.W.mg_of X G aC_Shifted, ⟨pg_Shifted, hd_Shifted, po_Shifted, sa_Shifted⟩, ⟨mk_Shifted, a_Shifted___init, i_Shifted___init, kc_Shifted⟩, nf_rule_Shifted, nf_many_Shifted, PySem.W.mg_of X G aC_Weekly, ⟨pg_Weekly, hd_Weekly, po_Weekly, sa_Weekly⟩, ⟨mk_Weekly, a_Weekly___init, i_Weekly___init, kc_Weekly⟩, nf_mask_Weekly, nf_first_Weekly, nf_every_Weekly, PySem.W.mg_of X G aC_Yearly, ⟨pg_Yearly, hd_Yearly, po_Yearly, sa_Yearly⟩, ⟨mk_Yearly, a_Yearly___init, i_Yearly___init, kc_Yearly⟩, nf_month_Yearly, nf_date_Yearly, nf_every_Yearly, nf_origin_Yearly, nf_stride_Yearly, nf_first_Yearly, PySem.W.mg_none_of X G n_ValueError, PySem.W.mg_none_of X G n_abs, PySem.W.mg_none_of X G n_int, PySem.W.mg_none_of X G n_isinstance, PySem.W.mg_none_of X G n_len, PySem.W.mg_none_of X G n_list, PySem.W.mg_none_of X G n_range, PySem.W.mg_none_of X G n_set, PySem.W.mg_none_of X G n_sorted, PySem.W.mg_none_of X G n_tuple⟩, rfl, fun s v => .of_eq rfl⟩
end K13
namespace K13
open PySem L2
theorem walk {l : PySem.W.OpenLaw} {q : Program} {loose : List Str} {XP : (Str → Option Value) → Heap → Prop} {YP : World → Heap → Prop} {d : DefRec} {K : Params → PySem.W.Frag} (hn : l.most = some 63) (hdf : d.params.defaults = [])
    (hY : ∀ (w : World) (h : Heap), YP w h → (K w.params).In h)
    (F : ∀ (w : World) (mg : Str → Option Value) (fa : Addr) (h : Heap), (K w.params).In h → h.Ns mainGlobals mg → mg d.name = some (.ref fa) →
      ∃ fd : FuncData, (∀ (s : Shared) (u : Value), BindsTo s fd ⟨[u], []⟩ [("_law_script", u)]) ∧ ∀ base : Heap, (K w.params).In base → base.Ns mainGlobals mg → FnOk l.prog w (K w.params) mg base CX0 true 11 fa fd ["_law_script"] (sp_law (K w.params))) :
    PySem.W.WalkO q loose XP YP l.row.toRowW d [] (fun f vs => PySem.call f vs) :=
  L2.walk_of (cm := true) (n := 63) (k := 11) (x := "_law_script") (CX := fun _ => CX0) (sp := fun w => sp_law (K w.params)) hn (by decide) hdf ⟨fun _ => rfl, by decide, by decide⟩ hY F (fun _ _ a ns hl _ hS => ⟨a, ns, rfl, hS, hl, fun _ => rfl⟩) fun _ _ _ _ _ z => z
theorem all_ok {l : PySem.W.OpenLaw} {w : World} {K : PySem.W.Frag} {mg : Str → Option Value} {fa f : Addr} (hfa : mg "law" = some (.ref fa))
    (h : ∃ a : Adr, Txt K mg a ∧ a.f_law = f ∧ ∀ (s : Shared) (v : Value), BindsTo s a.d_law ⟨[v], []⟩ [("_law_script", v)]) :
    ∃ fd : FuncData, (∀ (s : Shared) (u : Value), BindsTo s fd ⟨[u], []⟩ [("_law_script", u)]) ∧ ∀ base : Heap, K.In base → base.Ns mainGlobals mg → FnOk l.prog w K mg base CX0 true 11 fa fd ["_law_script"] (sp_law K) := by
  obtain ⟨a, T, _, hb⟩ := h
  have e := T.m_law
  rw [hfa] at e
  cases e
  exact ⟨a.d_law, hb, fun base _ _ => ok_law T⟩
end K13
open PySem PySem.W PyProof.Rows
set_option maxRecDepth 100000 in
set_option maxHeartbeats 0 in
theorem PySem.Challenge.cw_hourhouse_k13_rules_refused_holds : PySem.Challenge.rw_hourhouse_k13_rules_refused.Holds := by
  w_on; o_law; k_head; (case hw => w_witness2)
  k_fill
  refine K13.walk (l := PySem.Challenge.rw_hourhouse_k13_rules_refused) rfl rfl (fun w h Y => PySem.W.kIn_of Y) ?F
  case F =>
    intro w mg fa h KX G hmg
    refine' K13.all_ok hmg (K13.txt_mk KX G ?aC_ByMonth ?pg_ByMonth ?hd_ByMonth ?po_ByMonth ?sa_ByMonth ?mk_ByMonth ?kc_ByMonth ?nf_origin_ByMonth ?nf_stride_ByMonth ?nf_first_ByMonth ?aC_Changed ?pg_Changed ?hd_Changed ?po_Changed ?sa_Changed ?mk_Changed ?kc_Changed ?nf_rule_Changed ?nf_left_Changed ?nf_more_Changed ?nf_moved_Changed ?nf_gained_Changed ?nf_lost_Changed ?aC_Days ?pg_Days ?hd_Days ?po_Days ?sa_Days ?mk_Days ?kc_Days ?nf_days_Days ?aC_Every ?pg_Every ?hd_Every ?po_Every ?sa_Every ?mk_Every ?kc_Every ?nf_step_Every ?nf_first_Every ?aC_Monthly ?pg_Monthly ?hd_Monthly ?po_Monthly ?sa_Monthly ?mk_Monthly ?kc_Monthly ?nf_date_Monthly ?nf_every_Monthly ?nf_origin_Monthly ?nf_stride_Monthly ?nf_first_Monthly ?aC_Nth ?pg_Nth ?hd_Nth ?po_Nth ?sa_Nth ?mk_Nth ?kc_Nth ?nf_which_Nth ?nf_weekday_of_Nth ?nf_every_Nth ?nf_origin_Nth ?nf_stride_Nth ?nf_first_Nth ?aC_Rule ?pg_Rule ?hd_Rule ?po_Rule ?sa_Rule ?aC_Shifted ?pg_Shifted ?hd_Shifted ?po_Shifted ?sa_Shifted ?mk_Shifted ?kc_Shifted ?nf_rule_Shifted ?nf_many_Shifted ?aC_Weekly ?pg_Weekly ?hd_Weekly ?po_Weekly ?sa_Weekly ?mk_Weekly ?kc_Weekly ?nf_mask_Weekly ?nf_first_Weekly ?nf_every_Weekly ?aC_Yearly ?pg_Yearly ?hd_Yearly ?po_Yearly ?sa_Yearly ?mk_Yearly ?kc_Yearly ?nf_month_Yearly ?nf_date_Yearly ?nf_every_Yearly ?nf_origin_Yearly ?nf_stride_Yearly ?nf_first_Yearly ?a_is_day ?l_is_day ?e_is_day ?k_is_day ?a_is_leap ?l_is_leap ?e_is_leap ?k_is_leap ?a_year_begin ?l_year_begin ?e_year_begin ?k_year_begin ?a_check_bounds ?l_check_bounds ?e_check_bounds ?k_check_bounds ?a_ByMonth___init ?l_ByMonth___init ?e_ByMonth___init ?k_ByMonth___init ?i_ByMonth___init ?a_Changed_days_lost ?l_Changed_days_lost ?e_Changed_days_lost ?k_Changed_days_lost ?i_Changed_days_lost ?a_law_cell_at ?l_law_cell_at ?e_law_cell_at ?k_law_cell_at ?a_law_next ?l_law_next ?e_law_next ?k_law_next ?a_law_leap ?l_law_leap ?e_law_leap ?k_law_leap ?a_law_alone ?l_law_alone ?e_law_alone ?k_law_alone ?a_law_number ?l_law_number ?e_law_number ?k_law_number ?a_month_days ?l_month_days ?e_month_days ?k_month_days ?a_month_begin ?l_month_begin ?e_month_begin ?k_month_begin ?a_check_day ?l_check_day ?e_check_day ?k_check_day ?a_Every_falls_on ?l_Every_falls_on ?e_Every_falls_on ?k_Every_falls_on ?i_Every_falls_on ?a_Shifted___init ?l_Shifted___init ?e_Shifted___init ?k_Shifted___init ?i_Shifted___init ?a_law_length ?l_law_length ?e_law_length ?k_law_length ?a_month_of ?l_month_of ?e_month_of ?k_month_of ?a_check_every ?l_check_every ?e_check_every ?k_check_every ?a_Every___init ?l_Every___init ?e_Every___init ?k_Every___init ?i_Every___init ?v_Every___init ?w_Every___init ?x_Every___init ?a_Days___init ?l_Days___init ?e_Days___init ?k_Days___init ?i_Days___init ?a_Changed_days_gained ?l_Changed_days_gained ?e_Changed_days_gained ?k_Changed_days_gained ?i_Changed_days_gained ?a_law_numbers ?l_law_numbers ?e_law_numbers ?k_law_numbers ?a_date_of ?l_date_of ?e_date_of ?k_date_of ?a_Weekly___init ?l_Weekly___init ?e_Weekly___init ?k_Weekly___init ?i_Weekly___init ?v_Weekly___init ?w_Weekly___init ?x_Weekly___init ?a_Monthly___init ?l_Monthly___init ?e_Monthly___init ?k_Monthly___init ?i_Monthly___init ?v_Monthly___init ?w_Monthly___init ?x_Monthly___init ?a_Nth___init ?l_Nth___init ?e_Nth___init ?k_Nth___init ?i_Nth___init ?v_Nth___init ?w_Nth___init ?x_Nth___init ?a_Changed___init ?l_Changed___init ?e_Changed___init ?k_Changed___init ?i_Changed___init ?v_Changed___init ?w_Changed___init ?x_Changed___init ?a_Yearly___init ?l_Yearly___init ?e_Yearly___init ?k_Yearly___init ?i_Yearly___init ?v_Yearly___init ?w_Yearly___init ?x_Yearly___init ?a_law_make ?l_law_make ?e_law_make ?k_law_make ?a_law_told ?l_law_told ?e_law_told ?k_law_told ?a_law_all_ends ?l_law_all_ends ?e_law_all_ends ?k_law_all_ends ?a_law ?l_law ?e_law ?k_law ?g_DAYS ?g_DAYS_AHEAD ?o_DAYS_AHEAD' ?p_DAYS_AHEAD ?q_DAYS_AHEAD ?g_FIRST_YEAR ?g_LONG_YEAR ?g_MONTHS ?g_MONTH_LENGTHS ?o_MONTH_LENGTHS' ?p_MONTH_LENGTHS ?q_MONTH_LENGTHS ?g_MOST_EVERY ?g_MOST_MANY ?m_Busy ?m_Closed ?m_Full ?m_HouseError ?ct_HouseError ?cb_HouseError ?m_Known ?m_NoDay ?m_NoHand ?m_NoLetter ?m_NoMeeting ?m_NoPlace ?m_NoRule ?x_NoRule' ?m_NoSpan ?m_NoText ?m_NoThing ?m_NoWord ?s_NoRule_HouseError ?e0_NoRule ?e1_NoRule ?e2_NoRule ?e3_NoRule ?e4_NoRule ?e5_NoRule ?e6_NoRule ?k_NoRule_NoDay ?k_NoRule_NoText ?k_NoRule_NoRule ?k_NoRule_NoPlace ?k_NoRule_NoSpan ?k_NoRule_NoThing ?k_NoRule_Known ?k_NoRule_Full ?k_NoRule_NoLetter ?k_NoRule_NoHand ?k_NoRule_NoWord ?k_NoRule_NoMeeting ?k_NoRule_Closed ?k_NoRule_Busy ?k_NoRule_ValueError ?io0_Changed ?io1_Changed ?io2_Changed ?io3_Changed ?io0_Days ?io1_Days ?io2_Days ?io3_Days ?io0_Every ?io1_Every ?io2_Every ?io3_Every ?io0_Monthly ?io1_Monthly ?io2_Monthly ?io3_Monthly ?io0_Nth ?io1_Nth ?io2_Nth ?io3_Nth ?io0_Shifted ?io1_Shifted ?io2_Shifted ?io3_Shifted ?io0_Weekly ?io1_Weekly ?io2_Weekly ?io3_Weekly ?io0_Yearly ?io1_Yearly ?io2_Yearly ?io3_Yearly ?cg_ByMonth ?cr_ByMonth ?ca_ByMonth___init ?ch_ByMonth___init ?ki_Every_Rule ?ki_Weekly_Rule ?ki_Monthly_Rule ?ki_Nth_Rule ?ki_Yearly_Rule ?ki_Days_Rule ?ki_Shifted_Rule ?ki_Changed_Rule ?n_ValueError ?n_abs ?n_int ?n_isinstance ?n_len ?n_list ?n_range ?n_set ?n_sorted ?n_tuple)
    (case aC_ByMonth => k_is)
    (case pg_ByMonth => k_is)
    (case hd_ByMonth => k_is)
    (case po_ByMonth => k_is)
    (case sa_ByMonth => k_is)
    (case mk_ByMonth => k_is)
    (case kc_ByMonth => k_is)
    (case nf_origin_ByMonth => k_is)
    (case nf_stride_ByMonth => k_is)
    (case nf_first_ByMonth => k_is)
    (case aC_Changed => k_is)
    (case pg_Changed => k_is)
    (case hd_Changed => k_is)
    (case po_Changed => k_is)
    (case sa_Changed => k_is)
    (case mk_Changed => k_is)
    (case kc_Changed => k_is)
    (case nf_rule_Changed => k_is)
    (case nf_left_Changed => k_is)
    (case nf_more_Changed => k_is)
    (case nf_moved_Changed => k_is)
    (case nf_gained_Changed => k_is)
    (case nf_lost_Changed => k_is)
    (case aC_Days => k_is)
    (case pg_Days => k_is)
    (case hd_Days => k_is)
    (case po_Days => k_is)
    (case sa_Days => k_is)
    (case mk_Days => k_is)
    (case kc_Days => k_is)
    (case nf_days_Days => k_is)
    (case aC_Every => k_is)
    (case pg_Every => k_is)
    (case hd_Every => k_is)
    (case po_Every => k_is)
    (case sa_Every => k_is)
    (case mk_Every => k_is)
    (case kc_Every => k_is)
    (case nf_step_Every => k_is)
    (case nf_first_Every => k_is)
    (case aC_Monthly => k_is)
    (case pg_Monthly => k_is)
    (case hd_Monthly => k_is)
    (case po_Monthly => k_is)
    (case sa_Monthly => k_is)
    (case mk_Monthly => k_is)
    (case kc_Monthly => k_is)
    (case nf_date_Monthly => k_is)
    (case nf_every_Monthly => k_is)
    (case nf_origin_Monthly => k_is)
    (case nf_stride_Monthly => k_is)
    (case nf_first_Monthly => k_is)
    (case aC_Nth => k_is)
    (case pg_Nth => k_is)
    (case hd_Nth => k_is)
    (case po_Nth => k_is)
    (case sa_Nth => k_is)
    (case mk_Nth => k_is)
    (case kc_Nth => k_is)
    (case nf_which_Nth => k_is)
    (case nf_weekday_of_Nth => k_is)
    (case nf_every_Nth => k_is)
    (case nf_origin_Nth => k_is)
    (case nf_stride_Nth => k_is)
    (case nf_first_Nth => k_is)
    (case aC_Rule => k_is)
    (case pg_Rule => k_is)
    (case hd_Rule => k_is)
    (case po_Rule => k_is)
    (case sa_Rule => k_is)
    (case aC_Shifted => k_is)
    (case pg_Shifted => k_is)
    (case hd_Shifted => k_is)
    (case po_Shifted => k_is)
    (case sa_Shifted => k_is)
    (case mk_Shifted => k_is)
    (case kc_Shifted => k_is)
    (case nf_rule_Shifted => k_is)
    (case nf_many_Shifted => k_is)
    (case aC_Weekly => k_is)
    (case pg_Weekly => k_is)
    (case hd_Weekly => k_is)
    (case po_Weekly => k_is)
    (case sa_Weekly => k_is)
    (case mk_Weekly => k_is)
    (case kc_Weekly => k_is)
    (case nf_mask_Weekly => k_is)
    (case nf_first_Weekly => k_is)
    (case nf_every_Weekly => k_is)
    (case aC_Yearly => k_is)
    (case pg_Yearly => k_is)
    (case hd_Yearly => k_is)
    (case po_Yearly => k_is)
    (case sa_Yearly => k_is)
    (case mk_Yearly => k_is)
    (case kc_Yearly => k_is)
    (case nf_month_Yearly => k_is)
    (case nf_date_Yearly => k_is)
    (case nf_every_Yearly => k_is)
    (case nf_origin_Yearly => k_is)
    (case nf_stride_Yearly => k_is)
    (case nf_first_Yearly => k_is)
    (case a_is_day => k_is)
    (case l_is_day => k_is)
    (case e_is_day => k_is)
    (case k_is_day => k_is)
    (case a_is_leap => k_is)
    (case l_is_leap => k_is)
    (case e_is_leap => k_is)
    (case k_is_leap => k_is)
    (case a_year_begin => k_is)
    (case l_year_begin => k_is)
    (case e_year_begin => k_is)
    (case k_year_begin => k_is)
    (case a_check_bounds => k_is)
    (case l_check_bounds => k_is)
    (case e_check_bounds => k_is)
    (case k_check_bounds => k_is)
    (case a_ByMonth___init => k_is)
    (case l_ByMonth___init => k_is)
    (case e_ByMonth___init => k_is)
    (case k_ByMonth___init => k_is)
    (case i_ByMonth___init => k_is)
    (case a_Changed_days_lost => k_is)
    (case l_Changed_days_lost => k_is)
    (case e_Changed_days_lost => k_is)
    (case k_Changed_days_lost => k_is)
    (case i_Changed_days_lost => k_is)
    (case a_law_cell_at => k_is)
    (case l_law_cell_at => k_is)
    (case e_law_cell_at => k_is)
    (case k_law_cell_at => k_is)
    (case a_law_next => k_is)
    (case l_law_next => k_is)
    (case e_law_next => k_is)
    (case k_law_next => k_is)
    (case a_law_leap => k_is)
    (case l_law_leap => k_is)
    (case e_law_leap => k_is)
    (case k_law_leap => k_is)
    (case a_law_alone => k_is)
    (case l_law_alone => k_is)
    (case e_law_alone => k_is)
    (case k_law_alone => k_is)
    (case a_law_number => k_is)
    (case l_law_number => k_is)
    (case e_law_number => k_is)
    (case k_law_number => k_is)
    (case a_month_days => k_is)
    (case l_month_days => k_is)
    (case e_month_days => k_is)
    (case k_month_days => k_is)
    (case a_month_begin => k_is)
    (case l_month_begin => k_is)
    (case e_month_begin => k_is)
    (case k_month_begin => k_is)
    (case a_check_day => k_is)
    (case l_check_day => k_is)
    (case e_check_day => k_is)
    (case k_check_day => k_is)
    (case a_Every_falls_on => k_is)
    (case l_Every_falls_on => k_is)
    (case e_Every_falls_on => k_is)
    (case k_Every_falls_on => k_is)
    (case i_Every_falls_on => k_is)
    (case a_Shifted___init => k_is)
    (case l_Shifted___init => k_is)
    (case e_Shifted___init => k_is)
    (case k_Shifted___init => k_is)
    (case i_Shifted___init => k_is)
    (case a_law_length => k_is)
    (case l_law_length => k_is)
    (case e_law_length => k_is)
    (case k_law_length => k_is)
    (case a_month_of => k_is)
    (case l_month_of => k_is)
    (case e_month_of => k_is)
    (case k_month_of => k_is)
    (case a_check_every => k_is)
    (case l_check_every => k_is)
    (case e_check_every => k_is)
    (case k_check_every => k_is)
    (case a_Every___init => k_is)
    (case l_Every___init => k_is)
    (case e_Every___init => k_is)
    (case k_Every___init => k_is)
    (case i_Every___init => k_is)
    (case v_Every___init => rfl)
    (case w_Every___init => k_is)
    (case x_Every___init => rfl)
    (case a_Days___init => k_is)
    (case l_Days___init => k_is)
    (case e_Days___init => k_is)
    (case k_Days___init => k_is)
    (case i_Days___init => k_is)
    (case a_Changed_days_gained => k_is)
    (case l_Changed_days_gained => k_is)
    (case e_Changed_days_gained => k_is)
    (case k_Changed_days_gained => k_is)
    (case i_Changed_days_gained => k_is)
    (case a_law_numbers => k_is)
    (case l_law_numbers => k_is)
    (case e_law_numbers => k_is)
    (case k_law_numbers => k_is)
    (case a_date_of => k_is)
    (case l_date_of => k_is)
    (case e_date_of => k_is)
    (case k_date_of => k_is)
    (case a_Weekly___init => k_is)
    (case l_Weekly___init => k_is)
    (case e_Weekly___init => k_is)
    (case k_Weekly___init => k_is)
    (case i_Weekly___init => k_is)
    (case v_Weekly___init => rfl)
    (case w_Weekly___init => k_is)
    (case x_Weekly___init => rfl)
    (case a_Monthly___init => k_is)
    (case l_Monthly___init => k_is)
    (case e_Monthly___init => k_is)
    (case k_Monthly___init => k_is)
    (case i_Monthly___init => k_is)
    (case v_Monthly___init => rfl)
    (case w_Monthly___init => k_is)
    (case x_Monthly___init => rfl)
    (case a_Nth___init => k_is)
    (case l_Nth___init => k_is)
    (case e_Nth___init => k_is)
    (case k_Nth___init => k_is)
    (case i_Nth___init => k_is)
    (case v_Nth___init => rfl)
    (case w_Nth___init => k_is)
    (case x_Nth___init => rfl)
    (case a_Changed___init => k_is)
    (case l_Changed___init => k_is)
    (case e_Changed___init => k_is)
    (case k_Changed___init => k_is)
    (case i_Changed___init => k_is)
    (case v_Changed___init => rfl)
    (case w_Changed___init => k_is)
    (case x_Changed___init => rfl)
    (case a_Yearly___init => k_is)
    (case l_Yearly___init => k_is)
    (case e_Yearly___init => k_is)
    (case k_Yearly___init => k_is)
    (case i_Yearly___init => k_is)
    (case v_Yearly___init => rfl)
    (case w_Yearly___init => k_is)
    (case x_Yearly___init => rfl)
    (case a_law_make => k_is)
    (case l_law_make => k_is)
    (case e_law_make => k_is)
    (case k_law_make => k_is)
    (case a_law_told => k_is)
    (case l_law_told => k_is)
    (case e_law_told => k_is)
    (case k_law_told => k_is)
    (case a_law_all_ends => k_is)
    (case l_law_all_ends => k_is)
    (case e_law_all_ends => k_is)
    (case k_law_all_ends => k_is)
    (case a_law => k_is)
    (case l_law => k_is)
    (case e_law => k_is)
    (case k_law => k_is)
    (case g_DAYS => k_is)
    (case g_DAYS_AHEAD => k_is)
    (case o_DAYS_AHEAD' => k_is)
    (case p_DAYS_AHEAD => rfl)
    (case q_DAYS_AHEAD => rfl)
    (case g_FIRST_YEAR => k_is)
    (case g_LONG_YEAR => k_is)
    (case g_MONTHS => k_is)
    (case g_MONTH_LENGTHS => k_is)
    (case o_MONTH_LENGTHS' => k_is)
    (case p_MONTH_LENGTHS => rfl)
    (case q_MONTH_LENGTHS => rfl)
    (case g_MOST_EVERY => k_is)
    (case g_MOST_MANY => k_is)
    (case m_Busy => k_is)
    (case m_Closed => k_is)
    (case m_Full => k_is)
    (case m_HouseError => k_is)
    (case ct_HouseError => k_is)
    (case cb_HouseError => k_is)
    (case m_Known => k_is)
    (case m_NoDay => k_is)
    (case m_NoHand => k_is)
    (case m_NoLetter => k_is)
    (case m_NoMeeting => k_is)
    (case m_NoPlace => k_is)
    (case m_NoRule => k_is)
    (case x_NoRule' => k_exc)
    (case m_NoSpan => k_is)
    (case m_NoText => k_is)
    (case m_NoThing => k_is)
    (case m_NoWord => k_is)
    (case s_NoRule_HouseError => k_is)
    (case e0_NoRule => k_is)
    (case e1_NoRule => k_is)
    (case e2_NoRule => k_is)
    (case e3_NoRule => k_is)
    (case e4_NoRule => k_is)
    (case e5_NoRule => k_is)
    (case e6_NoRule => k_is)
    (case k_NoRule_NoDay => kit_is)
    (case k_NoRule_NoText => kit_is)
    (case k_NoRule_NoRule => kit_is)
    (case k_NoRule_NoPlace => kit_is)
    (case k_NoRule_NoSpan => kit_is)
    (case k_NoRule_NoThing => kit_is)
    (case k_NoRule_Known => kit_is)
    (case k_NoRule_Full => kit_is)
    (case k_NoRule_NoLetter => kit_is)
    (case k_NoRule_NoHand => kit_is)
    (case k_NoRule_NoWord => kit_is)
    (case k_NoRule_NoMeeting => kit_is)
    (case k_NoRule_Closed => kit_is)
    (case k_NoRule_Busy => kit_is)
    (case k_NoRule_ValueError => kit_is)
    (case io0_Changed => k_is)
    (case io1_Changed => k_is)
    (case io2_Changed => k_is)
    (case io3_Changed => k_is)
    (case io0_Days => k_is)
    (case io1_Days => k_is)
    (case io2_Days => k_is)
    (case io3_Days => k_is)
    (case io0_Every => k_is)
    (case io1_Every => k_is)
    (case io2_Every => k_is)
    (case io3_Every => k_is)
    (case io0_Monthly => k_is)
    (case io1_Monthly => k_is)
    (case io2_Monthly => k_is)
    (case io3_Monthly => k_is)
    (case io0_Nth => k_is)
    (case io1_Nth => k_is)
    (case io2_Nth => k_is)
    (case io3_Nth => k_is)
    (case io0_Shifted => k_is)
    (case io1_Shifted => k_is)
    (case io2_Shifted => k_is)
    (case io3_Shifted => k_is)
    (case io0_Weekly => k_is)
    (case io1_Weekly => k_is)
    (case io2_Weekly => k_is)
    (case io3_Weekly => k_is)
    (case io0_Yearly => k_is)
    (case io1_Yearly => k_is)
    (case io2_Yearly => k_is)
    (case io3_Yearly => k_is)
    (case cg_ByMonth => k_is)
    (case cr_ByMonth => k_is)
    (case ca_ByMonth___init => k_is)
    (case ch_ByMonth___init => rfl)
    (case ki_Every_Rule => kit_is)
    (case ki_Weekly_Rule => kit_is)
    (case ki_Monthly_Rule => kit_is)
    (case ki_Nth_Rule => kit_is)
    (case ki_Yearly_Rule => kit_is)
    (case ki_Days_Rule => kit_is)
    (case ki_Shifted_Rule => kit_is)
    (case ki_Changed_Rule => kit_is)
    (case n_ValueError => k_is)
    (case n_abs => k_is)
    (case n_int => k_is)
    (case n_isinstance => k_is)
    (case n_len => k_is)
    (case n_list => k_is)
    (case n_range => k_is)
    (case n_set => k_is)
    (case n_sorted => k_is)
    (case n_tuple => k_is)


