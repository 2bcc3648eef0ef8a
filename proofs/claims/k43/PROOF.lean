import PyProof.Rows.All
import Wide.FinOn
import OpenK.KLine
import OpenK.KWalk
import KE.KRevSl
import KE.KItem
import KE.KFromBytes
import KE.KDictList
import KE.KIsAll
import KE.KRevIter
import KE.KDictOf
import KE.KxBytes
import KE.KSortTup
import KE.KSortAsk
import Lean
import PyProof.EqAt
import PyProof.EqKinds
import PyProof.TupleCall
import PyProof.NeKinds
import PySem.Challenge.RW_ballastbook_k43_balloons_launched
set_option Elab.async false
structure PySem.W.Fast:Prop where(tw17370146603492056318 tw861502493610598483 tw8757255369765604158 tw15806707075529380192 tw7998583776865276027 tw12064304430848566033 tw5483103596317574428 tw15792790952358468732 tw6657536258744368796 tw13769103115541136327 tw8915285831880473931 tw424408320835691240 tw10479991185640055810 tw14811890972901180937 tw17713387462200973399 tw8834805137890396735 tw14294133066467233204 tw640624198105042115 tw6172094611929405055 tw11107512795663914464 tw11153126096140912846 tw15036080040530398195 tw14934011241717051027 tw11911167908941700269 tw13885670934486923800 tw7828442866392281868 tw9959121941294770655 tw16151628708876355199 tw5263133172445716209 tw16583815154217966991 tw7557421358154311045 tw14260533273033392520 tw5711038861398032994 tw6597789921013551971 tw5086489192560080304 tw11120740854625124088 tw2333531293284704758 tw15932183184989994656 tw11215392098479208961 tw10395332584310045583 tw2781441929908095834 tw9461912720999461741 tw10859743581388371069 tw9316815775250114193 tw1663524305781585820 tw13127508451798649013 tw15627779663793561183 tw9977182230042388008 tw1941844328875101383 tw10085292869130188298 tw4944497897694004105 tw11401859456886640639 tw1804834754348979943 tw9496581404884138560 tw11707130962622978684 tw6973427100653255629 tw8191318114535113306 tw3277229846650655979 tw6356304189028158447 tw14904287247971174143 tw9931937742245647033 tw3846801734645722302 tw2641800013201688601 tw4600438763894957952 tw4333590680753393835 tw13937768818610491111 tw16998588944726240723 tw8297923619242306668 tw8151759404152838978 tw10956520680868813917 tw17871049288011112270 tw3971525946579005399 tw2546767868308347339 tw17614877247268290040 tw5816495043963226922 tw4773484457636388862 tw5845002605336314091 tw17558320327384617127 tw11512705759438076691 tw6733606326906232124 tw14710976976299594304 tw6191700953566675008 tw3603697650439363286 tw13164499291161521807 tw17261404542052806724 tw16691165463884887630 tw9869809959619462935 tw8916268530333523031 tw17184031218471190783 tw12441744018607269044 tw12076989928817844590 tw12382822922155266910 tw2167315655227761912 tw10799429511968010386 tw431221854992830470 tw15060872555676474952 tw11757307120078846540 tw4693966885379303072 tw8210202977690762169 tw17694573340227235524 tw885948055608056263 tw1484650774730072618 tw11859619671507778021 tw9676783613728631035 tw16116027297012810434 tw8622715204490130888 tw9818998656811842119 tw5812350808301622050 tw9162645422354645296 tw5322009542560784348 tw1045582712504079209 tw18127189064453720709 tw5101696844757716304 tw13205091638197436094 tw12041797014711123256 tw17216001249096748393 tw7484994123860896570 tw7353485770183898095 tw7926090574327391632 tw5338801713223979382 tw13257414776242894994 tw2528511596961503537 tw1149798457248472902 tw3208522521903949160 tw14556482736207283325 tw14321067358777074657 tw261171577418715137 tw12528221419883600679 tw15138174406397646402 tw5055593616971399804 tw8840235324560252208 tw12858089460409395330 tw5226586810942512283 tw8546256303203405941 tw785946285636773999 tw8293125293789966914 tw2238811745713579835 tw4514232752302053791 tw3538781236444307513 tw937210970483165301 tw13508144021097492314 tw11220919329744738794 tw7397212543588705075 tw16453263628727151865 tw11793702604926673555 tw375148617187948888 tw1303901927050219478 tw5240077947681225987 tw2638924239945547994 tw511232430288663203 tw10094733558918713432 tw180266875558373844 tw14935467056822913822 tw17160835175205238506 tw5019544711922104826 tw15415318616479256277 tw17632668173026273278 tw17431205604353252913 tw16955839230299176341 tw11526606772788702011 tw9186807149237001177 tw14144024108822670751 tw8949853181751564097 tw12053924596057091436 tw4327107012436481372 tw7631320640757110747 tw5128061309963564778 tw10206286209542907786 tw13255938527306859382 tw17525541185626968058 tw6864887910540207759 tw4039707410889071942 tw8746904540745865596 tw13333588703604149420 tw134869140600922118 tw8285600894249078527 tw17721149768220346479 tw13716781843517864737 tw2285686636504529566 tw1329382545583022102 tw14143020097148135716 tw14869962595670455896 tw8414355815457870901 tw5672623616920478581 tw17049750858520166293 tw9006961074152924250 tw12307553483252862823 tw446995266069924076 tw16489938334050473467 tw12236101354414956334 tw10192404496044350798 tw13629772047308552242 tw8179860101808600119 tw3418139289079602111 tw16457251377207888201 tw9644411389650309789 tw2777980699273126189 tw4212528035423903283 tw12648489641264462891 tw7039168609848515032 tw12001842808677522706 tw6141218239328293737 tw1177135801721737414 tw18026862514907990334 tw14169059305514679687 tw15042883488752021643 tw12284071716729939190 tw13299628023176669074 tw11499599281419925204 tw4724775325020269224 tw14550724455855054577 tw15117199230931547845 tw1813447740672882537 tw17709682647362318638 tw6856243202995728640 tw9767487789085045792 tw17278973380088787663 tw12048842499501423295 tw11555995132304969306 tw7631737481131229992 tw13114495589485449940 tw6602950584830755452 tw5809018184121017179 tw6044310133024360374 tw7307589515853891572 tw2134106378703910346 tw13995065583995915716 tw16376237812277222054 tw15090471055790725799 tw1534296983418709675 tw446110843843071267 tw16167708318613246984 tw7414940336731374808 tw8984893954669693527 tw16923636969032661973 tw2765187732825374138 tw9103314591280073668 tw5341865396476803018 tw724461010609807574 tw7348359970506387005 tw1860734739432930892 tw5489724910278218894 tw10510056951384868246 tw1495895850433845275 tw7164969610272591079 tw13757698761724263525 tw2187251505897268136 tw11429584451438056573 tw2144661209622563809 tw4562827626845409882 tw14172470266813156586 tw4547051000311932777 tw5994696166404524948 tw12903330217458380548 tw447263597446747957 tw15401437161963490237 tw4849480874435393781 tw4906484309439969231 tw16919654943277366748 tw14689541978594310382 tw4804111812005502284 tw15925456577456769635 tw15173544498738437827 tw1000662321505670351 tw15227483606004533461 tw3308634892276815127 tw15685335758407661847 tw14564479935002850509 tw9972681490609642005 tw1950803216711332702 tw866717566613908145 tw1825952489489211193 tw2314633323536394700 tw8080008513338510535 tw13055953723892786844 tw17318462890700432884 tw4480162626587320490 tw13034982811429478159 tw17435391645217708394 tw4699756791338806529 tw15254633091992210921 tw18146532975450069615 tw13462424878891718212 tw10910644110388302437 tw13855379610559885079 tw16615150188913437886 tw14022695629967993375 tw17817366049700826239 tw1979317910248211280 tw16756451883985382160 tw5890639436620234070 tw12770481643036789091 tw1070438729232803039 tw9402243437249704421 tw384561282630992784 tw3681537716864247207 tw13956191218907399338 tw539538531456391632 tw1864683662541468164 tw4015202173357781934 tw18367749455379333440 tw12099505692703838030 tw11692469974320434101 tw14520296925931582552 tw2931988195819169919 tw14903569129155370506 tw14404928986312190071 tw12147665669636231765 tw10341888390210383824 tw8535803893964050539 tw6162269159774324313 tw1467881925912835984 tw4309217394794523951 tw10842938092177581297 tw2358075552688931204 tw547895379624588593 tw2694234056635809718 tw12408111787983249662 tw1142673529048489019 tw9757595895972200118 tw6557801498797044033 tw15235614512728720 tw14219159868682941630 tw6278996535519779258 tw2466311954974566718 tw11502921971960690029 tw8171798328758944481 tw2741014181512449073 tw14993981098963755598 tw4189273013823423559 tw14746253646979254834 tw1956260828630720203 tw6575520176995025181 tw3303267245142563540 tw11408881796089955267 tw17659185236578331656 tw3099597729799864441 tw8565224436197482051 tw3238445694619138142 tw8865387616306378214 tw10295913840692754127 tw5872530126848033075 tw1922157984580058403 tw5467331546851215429 tw3365755272349913518 tw12138319994727072339 tw13669536469129627823 tw15895094517606616290 tw15214748959534726111 tw6607644564249050058 tw1401067106901849026 tw17691633702590694504 tw8432719020341155521 tw17267597263503486738 tw17260811203177919210 tw6690350156832105676 tw10888863842102328177 tw14577027041581768965 tw16860917588515726111 tw5285915839522022235 tw9197174079833555027 tw4334401890000744311 tw1205604411410820431 tw13831308528885131752 tw542563422162235373 tw12798174099139212305 tw3992765435912101610 tw4903002758410956813 tw13343918040275786880 tw13307065042914920193 tw5274481202262711730 tw15142666989864626641 tw9320515035125037321 tw9304451534382375720 tw8924819469995637033 tw3543459598558145280 tw8115137120850386438 tw12003660372656728261 tw16626521671886133394 tw16378183091871739711 tw15702583709834301711 tw18095796173783872564 tw3075201292733833056 tw11489344026974618541 tw10792498714594961201 tw14647417624928369756 tw14849461344987154502 tw17658959251048325594 tw14061609134260724683 tw5634867526602368427 tw6125853113672642322 tw14454166528178196959 tw463774138113389760 tw9317495090193701157 tw5217270863462422736 tw17410218998227585676 tw12669407529647801677 tw7538781388859322016 tw8919978131948313185 tw17916429707943930468 tw18105302477358141223 tw18310463660012746435 tw17980500129456985241 tw11212356425047092601 tw18094105663378112561 tw16925712312323332580 tw7050804516273991350 tw18101783494082082527 tw9592300441314626372 tw8356303796347215682 tw6631347999910079877 tw13813618637161013713 tw10539347186207431242 tw5037459499596335280 tw10958628066121416707 tw14842496431369740429 tw13557862171009465336 tw172746767574481773 tw9201617497623189827 tw15593559885672580101 tw628631919661052299 tw4884199854448574 tw13348088958985639553 tw11205608169257636508 tw17590876675597686902 tw17986951261819808105 tw6880980288501444468 tw12901003280762261817 tw10470340158578859262 tw18400553757987027518 tw2768188642542392010 tw4026147355466621588 tw6549852094080907030 tw2480015634913765671 tw4860023922305330110 tw8278001386518606062 tw11095110211248682772 tw16086907953836968628 tw506581581156960101 tw16864618592142003386 tw16109456028575089023 tw15771247859494662083 tw12738610918357793766 tw4545961482378311905 tw5920806927976990809 tw4772062507164038959 tw17890440400047909864 tw6194202620331982285 tw9388066449989048879 tw7501186508268903616 tw17163426234232328066 tw14226173905949225808 tw4470585836733325578 tw14202271707224943307 tw17937168697417666835 tw6651725471809605288 tw727553628536289456 tw9530734954097333506 tw14935156969734317764 tw14424681132571578402 tw2424988045566436242 tw14398111036562950334 tw2172276787581067923 tw7151132215420815488 tw12091130801917272685 tw2046362190076281809 tw3641951560692057861 tw2925816871977632210 tw15764947353670896545 tw18361725300881549022 tw15495752065017430504 tw13073492499399858440 tw4051853165826885262 tw15621116118777243554 tw13303234937177203706 tw15870398105094248349 tw4704452742865826424 tw11063759124802658401 tw13705283562680751584 tw17963105932079019327 tw13142635158332540280 tw15763482434359817770 tw1835201335921387983 tw17862349074038704544 tw7053471978191194526 tw8833860146974802555 tw2708214617527550399 tw6508132753307246276 tw15012102849882553082 tw16409965706819354750 tw11434409910335936926 tw14995258362815363992 tw987426779421491659 tw9215358943560890414 tw5662061979359257339 tw4408816720484365081 tw13069393092227542028 tw2789304352393801511 tw1986786360949550309 tw10026605065719503897 tw2997480634906808460 tw14938211915633500526 tw13851971633180934007 tw4267111383703672358 tw13313058339493701161 tw11267315532378154396 tw7249310025045793396 tw11368310244458860372 tw609457278022895560 tw3198059409981156222 tw6188973233030003785 tw12930229547647579594 tw17187875760726034783 tw5665240888008139550 tw5649666937502919571 tw651700358538967526 tw13459084325293418506 tw17510684818845775701 tw13861322856664149509 tw18335596039185421423 tw4413860948169739490 tw8006371003960147343 tw5444512763150141072 tw360634875079729221 tw4938610541543285704 tw5341297951324810720 tw13931877327420345601 tw16035376269474964883 tw11898673842065290130 tw3350206127114907401 tw7764699552788554220 tw5702276774652866934 tw1402340071739887797 tw2597523674469684444 tw17271881437230615512 tw429539710256275620 tw2213964242967304950 tw3042748168174471775 tw11566098044289413073 tw11844019762684407370 tw14671739901194505220 tw10310341975313369176 tw6701911527682315725 tw11717715558655726156 tw5783627655825047438 tw2997492091776894028 tw13141587033338554882 tw287299124023874762 tw15090451632580652192 tw12601900475763903673 tw1151536102710089960 tw5680748514122630102 tw1024830732262756605 tw12438396322939230373 tw16667319390619273182 tw4580019852769339753 tw8715888555302371167 tw16945776922395636228 tw1054878856607437042 tw5127367033827617521 tw10346654375918712037 tw7970753398140278972 tw14024141229114651172 tw17492590578351606391 tw9823988804889866712 tw16087769525723730265 tw10257675875946525651 tw8997383693586321770 tw9189844046219409768 tw10778862844796284456 tw11252166605322202098 tw2197298608192791410 tw6572727418291896362 tw15230161518521224266 tw10292046430873261061 tw5961750674202012425 tw15812031539801963791 tw8485604247826754651 tw3253909111948686682 tw7803841389314116483 tw15062127977220616739 tw9046706918899111342 tw10050442553702394170 tw3481832742750146777 tw112821720426385797 tw3164201000703379505 tw6139449704366744469 tw4298751548922799387 tw2992238238014362344 tw9942562575998753845 tw14565471765716263578 tw13732051381489595846 tw2479909634843643777 tw1116146690788884255 tw5344885176932410299 tw13951883219540855227 tw10223898402276761379 tw8129399028645417746 tw8892601084892991942 tw7865408815302691273 tw3106019142764824439 tw15536608767410316090 tw13705001845696326735 tw16937879542928416138 tw18093534095739291932 tw4885688941381972832 tw3870338753099455017 tw13735283127264966035 tw12664597984708267013 tw6189800397672023544 tw10908583292746523781 tw7029441310896991908 tw7774113678449685934:True)
def PySem.W.Fast.tw1463404709051738294 : PySem.Program := PySem.Challenge.pw_ballastbook_k43_balloons_launched
theorem PySem.W.Fast.te1463404709051738294 : PySem.Challenge.pw_ballastbook_k43_balloons_launched = PySem.W.Fast.tw1463404709051738294 := rfl
set_option maxRecDepth 100000 in
set_option maxHeartbeats 0 in
open PySem PySem.W PyProof.Rows in
open_top hd for PySem.Challenge.rw_ballastbook_k43_balloons_launched
set_option genSizeOf false
set_option genInjectivity false
set_option linter.all false
set_option maxRecDepth 100000
set_option maxHeartbeats 4100000
open PySem renaming Value → Qa, wpAny_bind → Qb, Shared → Qd, wpAny → Qf, starEach → Qg, wpAny_pure → Qh, model → Qj, sizeLine → Qk, Program → Qr, mainGlobals → Qs, World → Qx, Around → QB, compareOp → QF, Spec → QK, backTo → QP, wpAny_holding → QX, FuncData → QY, wpAny_field → Q5, wpAny_truthy_bool → Q8, wpAny_loadPart_at → Q9, intItems → Zd, assignEach → Ze, keywordEach → Zg, binaryOp → Zh, wpAny_mono → Zk, wpAny_newObj_type → Zl, wpAny_seqItems → Zo, wpAny_Call_Name_kw → Zr, mem_of_lookup → Zx, wpAny_isSubtype_exc → Zy, swapsWith → ZD, IsPair → ZE, wpAny_callSpecial?_slot → ZL, foldedSetIterable → ZM, backToKw → ZN, holding → ZO, excClassObj → ZQ, wpAny_execs_cons → ZS, sysModules → ZV, bootBuiltins → ZW, wpAny_loadPart' → Z1, behindInMarks → Z6, wpAny_call → Kk, wpAny_setField_rec → Kr, wpAny_execs_nil → Ks, codeAny → Ku, numAt → Kw, attributeBase → Kx, standAt → KO, boot_len → KP, argBest → KQ, codeAny_mono → KS, wpAny_call_entry → KY, wpAny_standAt → K3, getMethod → K5, Within → Va, wpAny_tryCatch → Vd, codeAny_call_builtin → Vh, plainId_quiet → Vj, wpAny_attempt → Vk, sliceBounds → Vm, wpAny_letGo → Vn, letOwnedTupleGo → Vr, wpAny_passesOwn → Vs, codeAny_builtin → Vt, wpAny_pyIter_tuple → Vu
open PySem.W renaming Frag → Qc, findIn → Qi, nsIn → QE, fnOf → QQ, keepIn → QT, mg_none_of → QZ, mg_of → Zc, notCls → Zp, codeIn → Zt, hasDictIn → Zu, emptyDict → Zv, instObj → Zz, clsIn → ZG, mroIn → ZH, kia_one → Z3, typeIn → Z8, kitOne → Ki, callWith_K → Ko, looks_findIn → KH, plainGet → KR, InstAt → Vb
open PySem.Heap renaming get?_push_of_some → Qe, lt_size → Qo, get?_push_size → Qq, get?_update_other → QG, size_push → Za, get?_update_self → Zm, SameBut → ZP, get?_none_of_le → KG
open List renaming mem_cons → Ql, length_map → Qt, mem_append_right → Qu, mem_cons_of_mem → Qv, not_mem_nil → Qw, size_toArray → Qy, mem_cons_self → QD, getElem?_eq_some_iff → QH, length_append → QI, getElem?_map → QJ, mem_singleton → QL, length_cons → QM, getElem?_set → QN, contains_cons → QS, range → QU, mem_append → Q2, map_cons → Q3, lookup → Q4, append_nil → Q6, length_singleton → Zf, getElem?_append_right → Zj, mem_append_left → Zs, getElem?_append_left → ZA, length_set → ZC, mem_map → ZF, getElem?_replicate → ZK, getD_eq_getElem?_getD → ZR, length_replicate → ZT, mem_of_getElem? → Z0, replicate → Z9, take_of_length_le → Kl, nodup_cons → Kv, ext_getElem? → KD, getElem?_modify → KJ, pairwise_iff_getElem → KN, length_take → KU, find?_cons → K6, map_append → K7, all_eq_true → Vg, all_cons → Vi, map_take → Vl, filterMap_cons → Vo, getElem?_range → Vq
open Nat renaming le_refl → Qm, lt_of_lt_of_le → QA, ne_of_lt → QC, le_trans → QO, zero_le → QV, lt_irrefl → Zb, lt_of_le_of_lt → Kq, lt_trans → K0, add_le_add_left → Vp
open PySem.Value renaming ref → Qn, none → Q0, bool → Ve
open Bool renaming false_ne_true → Qp, and_eq_false_iff → Zq, eq_iff_iff → ZX, not_eq_true' → K9, and_eq_true → Vf
open Or renaming inl → Qz, inr → Zn
open False renaming elim → QR
open PySem.Builtin.SmallTypes renaming nextOf → QW, ownedTupleIsFree → ZI
open PySem.PassesOwn renaming never → Q7
open Sum renaming inr → Zi
open Array renaming length_toList → Zw, getElem?_eq_some_iff → Ky
open PySem.Builtin.Str renaming occurrences → ZJ
open PySem.Obj renaming data_mapFields → ZU, mapFields → K4, isFreed_of_fields → Vc
open True renaming intro → ZY
open PyProof.Rows renaming envOfC → ZZ, callWith_type1 → Km
open PySem.Str renaming ofString → Z2
open PySem.F renaming slot_list_append → Z4, type_list_append → Z5, plainAttrs_list → Z7, plain_max_loop → Kj, slot_tuple_iterator_next → Kz, args_tuple_add_2 → KW, entry_tuple_add → K1, slot_tuple_add → K8
open PySem.W.Looks renaming here → Kn
open Int renaming toNat_natCast → KA, emod_lt_of_pos → Vv
open List.Pairwise renaming nil → KC
open PySem.Builtin.Slice renaming slicePlaces → KI
open PySem.Around renaming under_plainId → KL
open PySem.Builtin.Tuple renaming tupleExact → KZ
open PySem.Builtin.Dict renaming updateFrom → K2
set_option hygiene false
local macro_rules
|`(KB)=>`(DE.db ag)
|`(KE)=>`(by decide)
|`(KF)=>`(Qj X.prog X.w)
|`(KM)=>`(by lia)
|`(Vw)=>`(eC (.int 0))
|`(Vx)=>`(cxC X sc cl (tn++fr) C s₃ H₃ fp pins)
|`(Vy)=>`(eC (.int 1))
|`(Vz)=>`(Addr×Obj)
namespace L2
open PySem PySem.Spec PyProof.Rows
noncomputable abbrev Key:=Sum Int Str
noncomputable def tJ:Key->Qa->Bool
 |.inl k,v=>Value.isInt k v
 |.inr x,v=>Value.isStrOf x v
noncomputable def J0(w:Qx):Key->Int
 |.inl k=>hashInt k
 |.inr x=>hashStr w x
theorem cR:∀{k:Key} {v:Qa},tJ k v=true->(∃i t,k=Sum.inl i/\v=Value.int i t)\/(∃x t,k=Zi x/\v=Value.str x t)
 |.inl i,v,h=>by
  obtain⟨t,e⟩:=Value.isInt_shape (k:=i) (v:=v) h;exact .inl ⟨i,t,rfl,e⟩
 |.inr x,v,h=>by
  obtain⟨t,e⟩:=Value.isStrOf_shape (x:=x) (v:=v) h;exact .inr ⟨x,t,rfl,e⟩
theorem Ay(i:Int)(t:Tok):tJ (.inl i) (.int i t)=true:=by simp[tJ,Value.isInt]
theorem zW(x:Str)(t:Tok):tJ (.inr x) (.str x t)=true:=by simp[tJ,Value.isStrOf]
theorem Hf(a b:Int):decide ((Sum.inl a:Key)=Sum.inl b)=(a==b):=by
 by_cases e:a=b
 ·subst e;simp
 ·have h:¬ (Sum.inl a:Key)=Sum.inl b:=λq=>e (Sum.inl.inj q)
  rw[decide_eq_false h];exact(beq_eq_false_iff_ne.mpr e).symm
theorem Ha(a b:Str):decide ((Zi a:Key)=Zi b)=decide (a=b):=by
 by_cases e:a=b
 ·subst e;simp
 ·have h:¬ (Zi a:Key)=Zi b:=λq=>e (Sum.inr.inj q)
  rw[decide_eq_false h,decide_eq_false e]
theorem Gw(a:Int)(b:Str):decide ((Sum.inl a:Key)=Zi b)=false:=decide_eq_false (λq=>nomatch q)
theorem GK(a:Str)(b:Int):decide ((Zi a:Key)=Sum.inl b)=false:=decide_eq_false (λq=>nomatch q)
noncomputable def cK(prog:Qr)(w:Qx):PySem.KeyKind prog w Key where
 is:=tJ
 hash:=J0 w
 inj:=λv a b ha hb=>by
  rcases cR ha with⟨i,t,rfl,rfl⟩ | ⟨x,t,rfl,rfl⟩
  ·rcases cR hb with⟨j,u,rfl,e⟩ | ⟨y,u,rfl,e⟩
   ·injection e with e1 _;rw[e1]
   ·exact nomatch e
  ·rcases cR hb with⟨j,u,rfl,e⟩ | ⟨y,u,rfl,e⟩
   ·exact nomatch e
   ·injection e with e1 _;rw[e1]
 byValue:=λk v h=>by
  rcases cR h with⟨i,t,rfl,rfl⟩ | ⟨x,t,rfl,rfl⟩<;>rfl
 pyHash:=λhv h=>by
  rcases cR hv with⟨i,t,rfl,rfl⟩ | ⟨x,t,rfl,rfl⟩
  ·exact wpAny_pyHash_int h
  ·exact wpAny_pyHash_str h
 eqBool:=λhu hv h=>by
  rcases cR hu with⟨i,t,rfl,rfl⟩ | ⟨x,t,rfl,rfl⟩
  ·rcases cR hv with⟨j,u,rfl,rfl⟩ | ⟨y,u,rfl,rfl⟩
   ·rw[Hf] at h;exact wpAny_eqBool_int h
   ·rw[Gw] at h;exact SeqAt.EqAt.int_str i t y u _ _ _ _ h
  ·rcases cR hv with⟨j,u,rfl,rfl⟩ | ⟨y,u,rfl,rfl⟩
   ·rw[GK] at h;exact SeqAt.EqAt.str_int x t j u _ _ _ _ h
   ·rw[Ha] at h;exact wpAny_eqBool_str h
 «strs»:=λk x t v h=>by
  rcases cR h with⟨i,u,rfl,e⟩ | ⟨y,u,rfl,e⟩
  ·exact nomatch e
  ·injection e with e1 _
   subst e1;cases v<;>rfl
theorem wA(prog:Qr)(w:Qx)(i:Int)(t:Tok):(cK prog w).is (.inl i) (.int i t)=true:=Ay i t
theorem vQ(prog:Qr)(w:Qx)(x:Str)(t:Tok):(cK prog w).is (.inr x) (.str x t)=true:=zW x t
set_option genInjectivity true in
inductive V where
 |non | bl (b:Bool) | int (i:Int) | str (x:Str) | byt (b:Array UInt8) | flt (b:UInt64) | ref (a:Addr) | ty (n:String)
 deriving DecidableEq
noncomputable def bq:V->Qa->Prop
 |.non,u=>u=Q0
 |.bl b,u=>u=Ve b
 |.int i,u=>∃t,u=Value.int i t
 |.str x,u=>∃t,u=Value.str x t
 |.byt b,u=>∃t,u=Value.bytes b t
 |.flt b,u=>∃t,u=Value.float b t
 |.ref a,u=>u=Qn a
 |.ty n,u=>u=Value.type n
noncomputable abbrev bu:List V->List Qa->Prop:=Paired bq
theorem bu.length{xs:List V}{us:List Qa}(r:bu xs us):xs.length=us.length:=Paired.length r
theorem bu.get:∀{xs:List V} {us:List Qa} {i:Nat} {x:V},bu xs us->xs[i]?=some x->∃u,us[i]?=some u/\bq x u
 |_,_,_,_,.nil,e=>by simp at e
 |_,_,0,_,.cons r _,e=>by simp at e;subst e;exact⟨_,rfl,r⟩
 |_,_,i+1,x,.cons _ t,e=>by
  obtain⟨u,h1,h2⟩:=bu.get (i:=i) (x:=x) t (by simpa using e);exact⟨u,by simpa using h1,h2⟩
theorem bu.set{x:V}{u:Qa}(r:bq x u):∀{xs:List V} {us:List Qa} (i:Nat),bu xs us->bu (xs.set i x) (us.set i u)
 |_,_,_,.nil=>.nil
 |_,_,0,.cons _ t=>.cons r t
 |_,_,i+1,.cons q t=>.cons q (bu.set r i t)
theorem bu.append:∀{xs ys:List V} {us ws:List Qa},bu xs us->bu ys ws->bu (xs++ys) (us++ws)
 |_,_,_,_,.nil,s=>s
 |_,_,_,_,.cons r t,s=>.cons r (bu.append t s)
theorem bu.take:∀{xs:List V} {us:List Qa} (n:Nat),bu xs us->bu (xs.take n) (us.take n)
 |_,_,0,_=>.nil
 |_,_,_+1,.nil=>.nil
 |_,_,n+1,.cons r t=>.cons r (bu.take n t)
theorem bu.drop:∀{xs:List V} {us:List Qa} (n:Nat),bu xs us->bu (xs.drop n) (us.drop n)
 |_,_,0,r=>r
 |_,_,_+1,.nil=>.nil
 |_,_,n+1,.cons _ t=>bu.drop n t
noncomputable def jR:Option V->Option Qa->Prop
 |some v,some u=>bq v u
 |none,none=>True
 |_,_=>False
noncomputable def KV{κ:Type}:List (κ×V)->List (κ×Qa)->Prop:=Paired λ(p:κ×V) (q:κ×Qa)=>p.1=q.1/\bq p.2 q.2
noncomputable def kV:Key->V
 |.inl i=>.int i
 |.inr x=>.str x
set_option genInjectivity true in
inductive HO where
 |lst (xs:List V)
 |tup (xs:List V)
 |dK (kvs:List (Key×V)) | dT (kvs:List (List Key×V))
 |set (S:Int->Bool) (n:Nat)
 |ins (C dx:Addr) (fs:List (Str×V))
 |own (x:Addr)
 |xd (fs:List (Str×V))
 |met (f x:Addr)
 |rng (lo hi:Int)
 |frz (o:Obj) (u:HO)
 |tbl (ps:Array Qa)
 |ext (φ:Heap->Prop)
noncomputable abbrev Hp:=Addr->Option HO
noncomputable def upd(H:Hp)(a:Addr)(o:HO):Hp:=λb=>if b=a then some o else H b
theorem upd_same{H:Hp}{a:Addr}{o:HO}:upd H a o a=some o:=by unfold upd;rw[if_pos rfl]
theorem az{H:Hp}{a b:Addr}{o:HO}(h:b≠a):upd H a o b=H b:=by unfold upd;rw[if_neg h]
theorem ES{H:Hp}{a:Addr}{o u:HO}:upd (upd H a o) a u=upd H a u:=by
 funext b;unfold upd;split<;>rfl
theorem Ic{H:Hp}{a b:Addr}{o u:HO}(h:H a=some o)(h':H b=some u)(d:o≠u):a≠b:=by
 intro e;subst e;rw[h] at h';exact d (Option.some.inj h')
theorem aB{H:Hp}{a b:Addr}{o:HO}(h:H a=some o)(h':H b=none):a≠b:=by
 intro e;subst e;rw[h] at h';cases h'
section
variable(P:Qr)(w:Qx)
noncomputable def cW(H:Hp)(h:Heap)(a:Addr):HO->Prop
 |.lst xs=>xs.length<=Qk/\∃(its:List Qa) (n:Nat),bu xs its/\h.get? a=some { cls:=.type "list",data:=.seq its.toArray n }
 |.tup xs=>xs.length<=Qk/\∃its:List Qa,bu xs its/\IsTup h a its.toArray
 |.dK kvs=>kvs.length<=Qk/\(a==ZV)=false/\∃vs,KV kvs vs/\h.DictOf (cK P w) a vs
 |.dT kvs=>kvs.length<=Qk/\(a==ZV)=false/\∃xs:List (List Key×Addr×Qa),
   Paired (λ(p:List Key×V) (q:List Key×Addr×Qa)=>p.1=q.1/\H q.2.1=some (.tup (p.1.map kV))/\bq p.2 q.2.2) kvs xs/\
   ∃o es ep,h.get? a=some o/\o.ExactDict/\o.data=.dict es ep/\es.toList=xs.map (entryOfKey (tupleKind (cK P w)))/\(xs.map (·.1)).Nodup
 |.set S n=>h.SetOf (intKind P w) a S n
 |.ins C dx fs=>H dx=some (.own a)/\fs.length<=1000/\dx≠a/\h.get? a=some (Zz C dx)/\
   ∃mA,h.Ns1 dx mA/\(∀f,jR (fs.lookup f) (mA f))/\Va mA (fs.map (·.1))
 |.own _=>∃o,h.get? a=some o
 |.xd fs=>∃mA,h.Ns1 a mA/\∀f,jR (fs.lookup f) (mA f)
 |.rng lo hi=>∃t u v,h.get? a=some { cls:=.type "range",data:=.fields #[.int lo t,.int hi u,.int 1 v] }
 |.frz o u=>h.get? a=some o/\cW H h a u
 |.tbl ps=>h.get? a=some { cls:=.none,data:=.fields ps }
 |.met f x=>h.get? a=some (PySem.W.methodObj (.ref f) (.ref x))
 |.ext φ=>φ h/\(∃o,h.get? a=some o)/\∀h1 h2:Heap,φ h1->(∀o,h1.get? a=some o->h2.get? a=some o)->φ h2
noncomputable def HOk(H:Hp)(h:Heap):Prop:=∀a o,H a=some o->cW P w H h a o
end
section
variable{P:Qr}{w:Qx}{H H':Hp}{h h':Heap}{a:Addr}{o:HO}
theorem cW.lt(x:cW P w H h a o):a<h.objs.size:=by
 cases o with
 |lst xs=>obtain⟨_,_,_,_,e⟩:=x;exact Qo e
 |tup xs=>obtain⟨_,_,_,p⟩:=x;exact p.lt
 |dK kvs=>obtain⟨_,_,_,_,o,_,_,e,_⟩:=x;exact Qo e
 |dT kvs=>obtain⟨_,_,_,_,o,_,_,e,_⟩:=x;exact Qo e
 |set S n=>obtain⟨o,_,_,_,e,_⟩:=x;exact Qo e
 |ins C dx fs=>obtain⟨_,_,_,e,_⟩:=x;exact Qo e
 |own y=>obtain⟨_,e⟩:=x;exact Qo e
 |xd fs=>obtain⟨_,⟨_,_,_,e,_⟩,_⟩:=x;exact Qo e
 |rng lo hi=>obtain⟨_,_,_,e⟩:=x;exact Qo e
 |frz ob u=>obtain⟨e,_⟩:=x;exact Qo e
 |tbl ps=>exact Qo (show h.get? a=some _ from x)
 |met f y=>exact Qo (show h.get? a=some _ from x)
 |ext φ=>obtain⟨_,⟨_,e⟩,_⟩:=x;exact Qo e
theorem Paired.mapP{α β:Type}{F G:α->β->Prop}:∀{l₁:List α} {l₂:List β},Paired F l₁ l₂->(∀a b,F a b->G a b)->Paired G l₁ l₂
 |_,_,.nil,_=>.nil
 |_,_,.cons r t,f=>.cons (f _ _ r) (Paired.mapP t f)
theorem cW.stay(x:cW P w H h a o)(k:∀b u,(b=a\/H b=some (.own a))->h.get? b=some u->h'.get? b=some u)
  (ho:∀b,H b=some (.own a)->H' b=some (.own a)) (ht:∀b xs,H b=some (.tup xs)->H' b=some (.tup xs)):cW P w H' h' a o:=by
 induction o with
 |lst xs=>obtain⟨z,its,n,r,e⟩:=x;exact⟨z,its,n,r,k _ _ (.inl rfl) e⟩
 |tup xs=>obtain⟨z,its,r,ob,e,c⟩:=x;exact⟨z,its,r,ob,k _ _ (.inl rfl) e,c⟩
 |dK kvs=>obtain⟨z,y,vs,r,ob,es,ep,e,c⟩:=x;exact⟨z,y,vs,r,ob,es,ep,k _ _ (.inl rfl) e,c⟩
 |dT kvs=>
  obtain⟨z,y,xs,r,ob,es,ep,e,c⟩:=x;exact⟨z,y,xs,Paired.mapP r λp q z=>⟨z.1,ht _ _ z.2.1,z.2.2⟩,ob,es,ep,k _ _ (.inl rfl) e,c⟩
 |set S n=>obtain⟨ob,es,ep,t,e,c⟩:=x;exact⟨ob,es,ep,t,k _ _ (.inl rfl) e,c⟩
 |ins C dx fs=>
  obtain⟨d,z,ne,e,mA,⟨od,es,ep,e2,c⟩,r⟩:=x;exact⟨ho _ d,z,ne,k _ _ (.inl rfl) e,mA,⟨od,es,ep,k _ _ (.inr d) e2,c⟩,r⟩
 |own y=>obtain⟨ob,e⟩:=x;exact⟨ob,k _ _ (.inl rfl) e⟩
 |xd fs=>obtain⟨mA,⟨od,es,ep,e,c⟩,r⟩:=x;exact⟨mA,⟨od,es,ep,k _ _ (.inl rfl) e,c⟩,r⟩
 |rng lo hi=>obtain⟨t,u,v,e⟩:=x;exact⟨t,u,v,k _ _ (.inl rfl) e⟩
 |frz ob u ih=>obtain⟨e,q⟩:=x;exact⟨k _ _ (.inl rfl) e,ih q⟩
 |tbl ps=>
  have e:h.get? a=some { cls:=.none,data:=.fields ps }:=x;show h'.get? a=some { cls:=.none,data:=.fields ps };exact k a _ (.inl rfl) e
 |met f y=>
  have e:h.get? a=some (PySem.W.methodObj (.ref f) (.ref y)):=x;show h'.get? a=some (PySem.W.methodObj (.ref f) (.ref y));exact k a _ (.inl rfl) e
 |ext φ=>obtain⟨p,⟨o,e⟩,st⟩:=x;exact⟨st _ _ p λo q=>k _ _ (.inl rfl) q,⟨o,k _ _ (.inl rfl) e⟩,st⟩
theorem HOk.lt(x:HOk P w H h)(e:H a=some o):a<h.objs.size:=(x a o e).lt
theorem HOk.fresh(x:HOk P w H h)(e:h.objs.size<=a):H a=none:=by
 cases q:H a with
 |none=>rfl
 |some u=>exact absurd (QA (x.lt q) e) (Zb _)
theorem HOk.kept(x:HOk P w H h)(k:∀b u,h.get? b=some u->h'.get? b=some u):HOk P w H h':=λa o e=>
 (x a o e).stay (λb u _ q=>k b u q) (λ_ q=>q) λ_ _ q=>q
theorem HOk.laid(x:HOk P w H h)(k:∀b u,h.get? b=some u->h'.get? b=some u)(hp:h.objs.size<=a)(new:cW P w (upd H a o) h' a o):HOk P w (upd H a o) h':=λb u e=>by
 have hn:=x.fresh hp
 by_cases hb:b=a
 ·subst hb;rw[upd_same] at e;cases e;exact new
 ·rw[az hb] at e
  exact(x b u e).stay (λc v _ q=>k c v q) (λc q=>by rw[az (aB q hn)];exact q) λc xs q=>by rw[az (aB q hn)];exact q
end
noncomputable def Rd(H:Hp)(a:Addr)(u:HO):Prop:=H a=some u\/∃o,H a=some (.frz o u)
theorem Rd.ok{P:Qr}{w:Qx}{H:Hp}{h:Heap}{a:Addr}{u:HO}(r:Rd H a u)(x:HOk P w H h):cW P w H h a u:=by
 rcases r with r | ⟨o,r⟩
 ·exact x a u r
 ·obtain⟨_,q⟩:=x a _ r
  exact q
noncomputable def Mut:Option HO->Prop
 |some (.lst _)=>True
 |some (.dK _)=>True
 |some (.dT _)=>True
 |some (.set _ _)=>True
 |some (.ins _ _ _)=>True
 |some (.ext _)=>True
 |_=>False
section
variable{P:Qr}{w:Qx}{H:Hp}{h h':Heap}{x e:Addr}{o':HO}
theorem HOk.write(ok:HOk P w H h)(mu:Mut (H x))(he:e=x\/H e=some (.own x))(k:∀b u,b≠e->h.get? b=some u->h'.get? b=some u)(heo:∃u,h'.get? e=some u)
  (new:cW P w (upd H x o') h' x o'):HOk P w (upd H x o') h':=λb u q=>by
 have nown:∀c y,H c=some (.own y)->c≠x:=λc y r z=>by subst z;rw[r] at mu;exact mu
 have ntup:∀c xs,H c=some (.tup xs)->c≠x:=λc xs r z=>by subst z;rw[r] at mu;exact mu
 by_cases hb:b=x
 ·subst hb;rw[upd_same] at q;cases q;exact new
 ·rw[az hb] at q
  by_cases hbe:b=e
  ·have q':H b=some (.own x):=by
    rcases he with z | z
    ·exact absurd (hbe.trans z) hb
    ·rw[hbe];exact z
   rw[q] at q';cases q';obtain⟨v,hv⟩:=heo;exact⟨v,by rw[hbe];exact hv⟩
  ·refine(ok b u q).stay (λc v hc r=>k c v ?_ r) (λc r=>by rw[az (nown c b r)];exact r) λc xs r=>by rw[az (ntup c xs r)];exact r
   rcases hc with rfl | hc
   ·exact hbe
   ·rintro rfl
    rcases he with z | z
    ·exact nown c b hc z
    ·rw[hc] at z;cases z;exact hb rfl
end
structure Un(fs ex:List Addr)(H H':Hp)(h h':Heap):Prop where
 keep:∀b o,h.get? b=some o->H b=none->b∉fs->b∉ex->h'.get? b=some o
 slot:∀b o,h.get? b=some o->H b=none->b∈fs->b∉ex->∃sl,h'.get? b=some { o with slots:=sl }
 free:∀b o,h.get? b=some o->H b=none->b∉ex->H' b=none
 there:∀b o,h.get? b=some o->b∉ex->∃o',h'.get? b=some o'
 tups:∀b xs,H b=some (.tup xs)->H' b=some (.tup xs)
 frzs:∀b o u,H b=some (.frz o u)->H' b=some (.frz o u)
 tbls:∀b ps,H b=some (.tbl ps)->∃more,H' b=some (.tbl (ps++more))
section
variable{fs fs' ex ex':List Addr}{H H1 H2:Hp}{h h1 h2 h':Heap}{a x e:Addr}{o:HO}
theorem Un.any(u:Un fs ex H H1 h h1){b:Addr}{ob:Obj}(q:h.get? b=some ob)(n:H b=none)(hx:b∉ex):∃sl,h1.get? b=some { ob with slots:=sl }:=by
 by_cases hb:b∈fs
 ·exact u.slot b ob q n hb hx
 ·exact⟨ob.slots,u.keep b ob q n hb hx⟩
theorem Un.kept(k:∀b u,h.get? b=some u->h'.get? b=some u):Un fs ex H H h h':=
 ⟨λb ob q _ _ _=>k b ob q,λb ob q _ _ _=>⟨ob.slots,k b ob q⟩,λ_ _ _ n _=>n,λb ob q _=>⟨ob,k b ob q⟩,λ_ _ q=>q,λ_ _ _ q=>q,λ_ ps q=>⟨#[],by rw[q];simp⟩⟩
theorem Un.refl:Un fs ex H H h h:=Un.kept λ_ _ q=>q
theorem Un.laid(k:∀b u,h.get? b=some u->h'.get? b=some u)(hp:h.objs.size<=a)(hn:H a=none):Un fs ex H (upd H a o) h h' where
 keep:=λb u q _ _ _=>k b u q
 slot:=λb u q _ _ _=>⟨u.slots,k b u q⟩
 free:=λb u q n _=>by rw[az (QC (QA (Qo q) hp))];exact n
 there:=λb u q _=>⟨u,k b u q⟩
 tups:=λb xs q=>by rw[az (aB q hn)];exact q
 frzs:=λb u xs q=>by rw[az (aB q hn)];exact q
 tbls:=λb ps q=>⟨#[],by rw[az (aB q hn),q];simp⟩
theorem Un.write(mu:Mut (H x))(he:e=x\/H e=some (.own x))(k:∀b u,b≠e->h.get? b=some u->h'.get? b=some u)(heo:∃u,h'.get? e=some u):Un fs ex H (upd H x o) h h':=by
 have hx:∀b,H b=none->b≠x:=λb n z=>by subst z;rw[n] at mu;exact mu
 have hb:∀b,H b=none->b≠e:=λb n z=>by
  subst z;rcases he with r | r
  ·exact hx b n r
  ·rw[n] at r;cases r
 have hm:∀b u,H b=some u->¬ Mut (some u)->b≠x:=λb u q nm z=>by subst z;rw[q] at mu;exact nm mu
 refine⟨λb u q n _ _=>k b u (hb b n) q,λb u q n _ _=>⟨u.slots,k b u (hb b n) q⟩,λb u q n _=>by rw[az (hx b n)];exact n,λb u q _=>?_,
  λb xs q=>by rw[az (hm b _ q λz=>z)];exact q,λb u xs q=>by rw[az (hm b _ q λz=>z)];exact q,λb ps q=>⟨#[],by rw[az (hm b _ q λz=>z),q];simp⟩⟩
 by_cases hbe:b=e
 ·subst hbe;exact heo
 ·exact⟨u,k b u hbe q⟩
end
noncomputable def trk(h:Heap)(H:Hp):List Addr:=(QU h.objs.size).filter λa=>(H a).isSome
noncomputable def uo(h:Heap)(H:Hp):Heap:=PySem.W.hideAll h (trk h H)
theorem A5(h:Heap)(H:Hp):(uo h H).objs.size=h.objs.size:=PySem.W.hideAll_size _ _
theorem Bv{h:Heap}{H:Hp}{b:Addr}{o:Obj}(e:h.get? b=some o)(n:H b=none):(uo h H).get? b=some o:=
 PySem.W.hideAll_get _ e λhm=>by
  have q:(H b).isSome=true:=(List.mem_filter.mp hm).2;rw[n] at q;simp at q
theorem Eg{h:Heap}{H:Hp}{b:Addr}{o:Obj}(e:(uo h H).get? b=some o):h.get? b=some o/\H b=none:=by
 have e':h.get? b=some o:=PySem.W.of_hideAll (trk h H) e;refine⟨e',?_⟩;cases q:H b with
 |none=>rfl
 |some x=>
  have hm:b∈trk h H:=List.mem_filter.mpr ⟨List.mem_range.mpr (Qo e'),by simp[q]⟩;have z:(uo h H).get? b=none:=PySem.W.hideAll_none (trk h H) hm;rw[z] at e;cases e
structure Mod(K:Qc)(mg:Str->Option Qa)(base:Heap):Prop where
 kin:K.In base
 glob:base.Ns Qs mg
 blt:∃mb,base.Ns builtinsNs mb/\∀x:Str,x≠"__name__"->mb x=ZW x
 nolimit:base.NoLimit
structure Cx where
 prog:Qr
 w:Qx
 K:Qc
 mg:Str->Option Qa
 base:Heap
 A:QB
 N:List Str
 s₀:Qd
 H₀:Hp
 env:Env
 outer:List Env
 stack:List Env
 ex:List Addr
 fn:Str->Bool
 calm:Bool
 pn:List Vz
 xe:Qa->Qd->Prop
noncomputable def frs(l:List Env):List Addr:=l.filterMap (·.frame)
noncomputable abbrev Cx.fs(X:Cx):List Addr:=frs X.outer
noncomputable def Vis(sc:Scope)(x:Str):Prop:=sc.names.lookup x=some .local\/sc.names.lookup x=some .cell\/sc.names.lookup x=some .free
noncomputable def Loc(sc:Scope)(x:Str):Prop:=sc.names.lookup x=some .local\/sc.names.lookup x=some .cell
noncomputable def JG(env:Env)(h:Heap)(m:Str->Option Qa)(x:Str)(u:Qa):Prop:=
 (env.kindOf x=some .local/\m x=some u)\/((env.kindOf x=some .cell\/env.kindOf x=some .free)/\∃c,env.cells.lookup x=some c/\h.IsCell c (some u))
structure Cx.Ok(X:Cx):Prop where
 mod:Mod X.K X.mg X.base
 kind:X.env.scope.kind=.function
 glob:X.env.globals=Qs
 blt:X.env.builtins=builtinsNs
 above:X.s₀.heap.objs.size<=X.env.locals
 inj:∀x y c,X.env.cells.lookup x=some c->X.env.cells.lookup y=some c->x=y
 has:∀x,(X.env.kindOf x=some .cell\/X.env.kindOf x=some .free)->∃c,X.env.cells.lookup x=some c
 cab:∀x c,X.fn x=true->X.env.cells.lookup x=some c->X.s₀.heap.objs.size<=c
 hd:X.calm=true->X.A.handled=none
 frames:X.A.frames=some X.stack
 stk:X.stack=X.outer\/(X.stack=X.env::X.outer/\X.env.frame=some X.env.locals)
 exf:∀b∈X.ex,b≠X.env.locals/\∀x c,X.env.cells.lookup x=some c->c≠b
 bs:∀b o,X.base.get? b=some o->X.s₀.heap.get? b=some o/\X.H₀ b=none
 bsz:X.base.objs.size<=X.s₀.heap.objs.size
 noex:∀b o,X.base.get? b=some o->b∉X.ex
 exfs:∀b∈X.ex,b∉X.fs
 funs:X.s₀.heap.FunFrames X.base X.outer
 frf:∀b∈X.fs,X.H₀ b=none
structure Inv(X:Cx)(pins:List Vz)(σ:List (Option V))(H:Hp)(s:Qd):Prop where
 ok:X.Ok
 os:s.os=X.s₀.os
 bare:AllBare s.gens
 base:Un X.fs X.ex X.H₀ H X.s₀.heap s.heap
 loc:∃m,s.heap.Ns X.env.locals m/\∀(i:Nat) (x:Str) (v:V),X.N[i]?=some x->σ[i]?=some (some v)->Vis X.env.scope x->∃u,bq v u/\JG X.env s.heap m x u
 cell:∀x c,X.env.cells.lookup x=some c->∃v,s.heap.IsCell c v
 free:H X.env.locals=none
 freeC:∀x c,X.env.cells.lookup x=some c->H c=none
 pin:∀p∈X.pn++pins,s.heap.get? p.1=some p.2/\H p.1=none/\p.1≠X.env.locals/\p.1∉X.fs/\∀v,p.2.data≠.cell v
 hok:HOk X.prog X.w H s.heap
 len:σ.length=X.N.length
section
variable{X:Cx}{pins:List Vz}{σ:List (Option V)}{H H':Hp}{s:Qd}{h':Heap}
theorem Cx.Ok.nofr(ok:X.Ok){b:Addr}{o:Obj}(e:X.base.get? b=some o):b∉X.fs:=λhb=>by
 have:=(ok.funs.mem hb).1;rw[e] at this;cases this
theorem Inv.bs(I:Inv X pins σ H s):∀b o,X.base.get? b=some o->s.heap.get? b=some o/\H b=none:=λb o e=>
 ⟨I.base.keep b o (I.ok.bs b o e).1 (I.ok.bs b o e).2 (I.ok.nofr e) (I.ok.noex b o e),I.base.free b o (I.ok.bs b o e).1 (I.ok.bs b o e).2 (I.ok.noex b o e)⟩
theorem Inv.bk(I:Inv X pins σ H s):∀b o,X.base.get? b=some o->s.heap.get? b=some o:=λb o e=>(I.bs b o e).1
theorem Inv.mod(I:Inv X pins σ H s):Mod X.K X.mg X.base:=I.ok.mod
theorem Inv.kIn(I:Inv X pins σ H s):X.K.In s.heap:=I.ok.mod.kin.keeps I.bk
theorem Inv.lt(I:Inv X pins σ H s):X.env.locals<s.heap.objs.size:=let⟨_,hn,_⟩:=I.loc;hn.lt
theorem Inv.sz(I:Inv X pins σ H s):X.s₀.heap.objs.size<=s.heap.objs.size:=QO I.ok.above (Nat.le_of_lt I.lt)
theorem Inv.nofs(I:Inv X pins σ H s){a:Addr}(h:s.heap.objs.size<=a):a∉X.fs:=λhb=>by
 obtain⟨_,o,ho,_⟩:=I.ok.funs.mem hb;exact absurd (QA (Qo ho) (QO I.sz h)) (Zb _)
theorem Inv.cne(I:Inv X pins σ H s):∀x c,X.env.cells.lookup x=some c->c≠X.env.locals:=λx c e z=>by
 obtain⟨v,o,ho,hd⟩:=I.cell x c e;obtain⟨m,⟨o',es,ep,ho',hd',_⟩,_⟩:=I.loc;rw[z,ho'] at ho;cases ho;rw[hd'] at hd;cases hd
theorem Inv.funs(I:Inv X pins σ H s):s.heap.FunFrames X.base X.outer:=by
 have all:∀(l:List Env),(∀b∈frs l,b∈X.fs)->X.s₀.heap.FunFrames X.base l->s.heap.FunFrames X.base l:=by
  intro l
  induction l with
  |nil=>intro _ _;trivial
  |cons env r ih=>
   intro hs hl;obtain⟨hk,⟨L,o,hf,hn,ho,hd⟩,hr⟩:=hl;have hL:L∈X.fs:=hs L (by unfold frs;rw[Vo,hf];exact QD);obtain⟨sl,e⟩:=I.base.slot L o ho (I.ok.frf L hL) hL λz=>I.ok.exfs L z hL;exact⟨hk,⟨L,_,hf,hn,e,hd⟩,ih (λb hb=>hs b (by unfold frs;rw[Vo,hf];exact Qv _ hb)) hr⟩
 exact all X.outer (λ_ hb=>hb) I.ok.funs
theorem Inv.stack(I:Inv X pins σ H s):s.heap.FunFrames X.base X.stack:=by
 rcases I.ok.stk with e | ⟨e,hf⟩
 ·rw[e];exact I.funs
 ·rw[e]
  obtain⟨m,hn,_⟩:=I.loc;refine .cons (by rw[I.ok.kind];decide) hf hn ?_ I.funs;exact KG (QO I.ok.bsz I.ok.above)
theorem Inv.stkSub(I:Inv X pins σ H s):∀b∈frs X.stack,b∈X.env.locals::X.fs:=λb hb=>by
 rcases I.ok.stk with e | ⟨e,hf⟩
 ·rw[e] at hb;exact Qv _ hb
 ·rw[e] at hb
  unfold frs at hb;rw[Vo,hf] at hb;exact hb
theorem Inv.stkFree(I:Inv X pins σ H s):∀b∈frs X.stack,H b=none:=λb hb=>by
 rcases Ql.mp (I.stkSub b hb) with e | hb
 ·rw[e];exact I.free
 ·obtain⟨_,o,ho,_⟩:=I.ok.funs.mem hb
  exact I.base.free b o ho (I.ok.frf b hb) λz=>I.ok.exfs b z hb
theorem Inv.step{g':Array GenState}{t':Nat}{d':Drawn}{ch:List Addr}(I:Inv X pins σ H s)
  (hch:∀b∈ch,(b∈X.ex\/X.s₀.heap.objs.size<=b)/\b≠X.env.locals/\(∀x c,X.env.cells.lookup x=some c->c≠b)/\∀p∈X.pn++pins,p.1≠b)
  (keep:∀b o,b≠X.env.locals->b∉X.fs->b∉ch->s.heap.get? b=some o->H b=none->h'.get? b=some o)
  (slot:∀b o,b≠X.env.locals->b∈X.fs->b∉ch->s.heap.get? b=some o->H b=none->∃sl,h'.get? b=some { o with slots:=sl }) (free:∀b o,b∉ch->s.heap.get? b=some o->H b=none->H' b=none)
  (there:∀b o,b∉ch->s.heap.get? b=some o->∃o',h'.get? b=some o')
  (tups:∀b xs,H b=some (.tup xs)->H' b=some (.tup xs)) (frzs:∀b o u,H b=some (.frz o u)->H' b=some (.frz o u)) (tbls:∀b ps,H b=some (.tbl ps)->∃more,H' b=some (.tbl (ps++more)))
  (ns:∀m,s.heap.Ns X.env.locals m->h'.Ns X.env.locals m) (hok:HOk X.prog X.w H' h') (hg:AllBare g') :
  Inv X pins σ H' { s with heap:=h',gens:=g',drawn:=d',toks:=t' }:=by
 have neL:∀b o,X.s₀.heap.get? b=some o->b≠X.env.locals:=λb o e=>QC (QA (Qo e) I.ok.above)
 have neC:∀b o,X.s₀.heap.get? b=some o->b∉X.ex->b∉ch:=λb o e hx hb=>by
  rcases(hch b hb).1 with z | z
  ·exact hx z
  ·exact absurd (QA (Qo e) z) (Zb _)
 have cellK:∀x c,X.env.cells.lookup x=some c->∀v,s.heap.IsCell c v->h'.IsCell c v:=λx c e v ⟨o,ho,hd⟩=>by
  have nch:c∉ch:=λz=>(hch c z).2.2.1 x c e rfl
  by_cases hc:c∈X.fs
  ·obtain⟨sl,q⟩:=slot c o (I.cne x c e) hc nch ho (I.freeC x c e)
   exact⟨_,q,hd⟩
  ·exact⟨o,keep c o (I.cne x c e) hc nch ho (I.freeC x c e),hd⟩
 refine⟨I.ok,I.os,hg,⟨λb o e n hb hx=>?_,λb o e n hb hx=>?_,λb o e n hx=>?_,λb o e hx=>?_,λb xs e=>tups b xs (I.base.tups b xs e),λb o xs e=>frzs b o xs (I.base.frzs b o xs e),λb ps e=>?_⟩,?_,λx c e=>?_,?_,λx c e=>?_,λp hp=>?_,hok,I.len⟩
 ·exact keep b o (neL b o e) hb (neC b o e hx) (I.base.keep b o e n hb hx) (I.base.free b o e n hx)
 ·obtain⟨sl,e1⟩:=I.base.slot b o e n hb hx
  obtain⟨sl',e2⟩:=slot b _ (neL b o e) hb (neC b o e hx) e1 (I.base.free b o e n hx);exact⟨sl',e2⟩
 ·obtain⟨o',e1⟩:=I.base.there b o e hx
  exact free b o' (neC b o e hx) e1 (I.base.free b o e n hx)
 ·obtain⟨o',e1⟩:=I.base.there b o e hx
  exact there b o' (neC b o e hx) e1
 ·obtain⟨m1,e1⟩:=I.base.tbls b ps e
  obtain⟨m2,e2⟩:=tbls b _ e1;exact⟨m1++m2,by rw[e2,Array.append_assoc]⟩
 ·obtain⟨m,hn,hl⟩:=I.loc
  refine⟨m,ns m hn,λi x v e1 e2 e3=>?_⟩;obtain⟨u,r,l⟩:=hl i x v e1 e2 e3;refine⟨u,r,?_⟩;rcases l with l | ⟨k,c,e,z⟩
  ·exact .inl l
  ·exact .inr ⟨k,c,e,cellK x c e _ z⟩
 ·obtain⟨v,z⟩:=I.cell x c e
  exact⟨v,cellK x c e v z⟩
 ·obtain⟨m,⟨o,_,_,ho,_⟩,_⟩:=I.loc
  exact free _ o (λz=>(hch _ z).2.1 rfl) ho I.free
 ·obtain⟨v,o,ho,hd⟩:=I.cell x c e
  exact free c o (λz=>(hch c z).2.2.1 x c e rfl) ho (I.freeC x c e)
 ·obtain⟨e,n,ne,nf,d⟩:=I.pin p hp
  have nch:p.1∉ch:=λz=>(hch p.1 z).2.2.2 p hp rfl;exact⟨keep p.1 p.2 ne nf nch e n,free p.1 p.2 nch e n,ne,nf,d⟩
theorem Inv.un{t':Nat}(I:Inv X pins σ H s)(u:Un X.fs [] H H' s.heap h')(hok:HOk X.prog X.w H' h'):Inv X pins σ H' { s with heap:=h',toks:=t' }:=by
 obtain⟨m,⟨o,es,ep,ho,r⟩,_⟩:=id I.loc;obtain⟨sl,hL⟩:=u.any ho I.free (by simp)
 exact I.step (g':=s.gens) (d':=s.drawn) (ch:=[]) (λ_ z=>nomatch z) (λb o _ hb _ e n=>u.keep b o e n hb (by simp)) (λb o _ hb _ e n=>u.slot b o e n hb (by simp)) (λb o _ e n=>u.free b o e n (by simp)) (λb o _ e=>u.there b o e (by simp)) u.tups u.frzs u.tbls (λm' hm=>by
  obtain⟨o',es',ep',ho',r'⟩:=hm;rw[ho] at ho';cases ho'
  exact⟨_,es',ep',hL,r'⟩) hok I.bare
theorem Inv.call{g':Array GenState}{t':Nat}{d':Drawn}{ch:List Addr}(I:Inv X pins σ H s)(u:Un (frs X.stack) ch H H' s.heap h')(hok:HOk X.prog X.w H' h')(hg:AllBare g')
  (hch:∀b∈ch,(b∈X.ex\/X.s₀.heap.objs.size<=b)/\b≠X.env.locals/\(∀x c,X.env.cells.lookup x=some c->c≠b)/\∀p∈X.pn++pins,p.1≠b) :
  Inv X pins σ H' { s with heap:=h',gens:=g',drawn:=d',toks:=t' }:=by
 obtain⟨m,⟨o,es,ep,ho,r⟩,_⟩:=id I.loc;obtain⟨sl,hL⟩:=u.any ho I.free λz=>(hch _ z).2.1 rfl
 exact I.step (ch:=ch) hch (λb o hL hb hc e n=>u.keep b o e n (λz=>(Ql.mp (I.stkSub b z)).elim hL hb) hc) (λb o _ _ hc e n=>u.any e n hc) (λb o hc e n=>u.free b o e n hc) (λb o hc e=>u.there b o e hc) u.tups u.frzs u.tbls (λm' hm=>by
  obtain⟨o',es',ep',ho',r'⟩:=hm;rw[ho] at ho';cases ho'
  exact⟨_,es',ep',hL,r'⟩) hok hg
theorem Inv.turned{t':Nat}{it:Addr}(I:Inv X pins σ H s)(k:∀b o,b≠it->s.heap.get? b=some o->h'.get? b=some o)(hn:H it=none)(hL:it≠X.env.locals)
  (h1:it∈X.ex\/X.s₀.heap.objs.size<=it) (h2:∀x c,X.env.cells.lookup x=some c->c≠it) (h3:∀p∈X.pn++pins,p.1≠it):Inv X pins σ H { s with heap:=h',toks:=t' }:=by
 have nit:∀b u,H b=some u->b≠it:=λb u e z=>by rw[z,hn] at e;cases e
 refine I.step (g':=s.gens) (d':=s.drawn) (ch:=[it]) (λb hb=>?_) (λb o _ _ hc e _=>k b o (λz=>hc (by simp[z])) e) (λb o _ _ hc e _=>⟨o.slots,k b o (λz=>hc (by simp[z])) e⟩) (λ_ _ _ _ n=>n)
  (λb o hc e=>⟨o,k b o (λz=>hc (by simp[z])) e⟩) (λ_ _ e=>e) (λ_ _ _ e=>e) (λb ps e=>⟨#[],by rw[e];simp⟩) (λm hm=>?_) (λb u e=>?_) I.bare
 ·have e:b=it:=by simpa using hb
  subst e;exact⟨h1,hL,h2,h3⟩
 ·obtain⟨o,es,ep,ho,r⟩:=hm
  exact⟨o,es,ep,k _ o (Ne.symm hL) ho,r⟩
 ·refine(I.hok b u e).stay (λc v hc q=>k c v ?_ q) (λ_ q=>q) λ_ _ q=>q
  rcases hc with z | z
  ·rw[z];exact nit b u e
  ·exact nit c _ z
theorem Inv.tok(I:Inv X pins σ H s)(t:Nat):Inv X pins σ H { s with toks:=t }:=I.un (h':=s.heap) (t':=t) Un.refl I.hok
theorem Inv.kept{t':Nat}(I:Inv X pins σ H s)(k:∀b u,s.heap.get? b=some u->h'.get? b=some u):Inv X pins σ H { s with heap:=h',toks:=t' }:=I.un (Un.kept k) (I.hok.kept k)
theorem Inv.laid{a:Addr}{o:HO}{t':Nat}(I:Inv X pins σ H s)(k:∀b u,s.heap.get? b=some u->h'.get? b=some u)(hp:s.heap.objs.size<=a)(new:cW X.prog X.w (upd H a o) h' a o) :
  Inv X pins σ (upd H a o) { s with heap:=h',toks:=t' }:=I.un (Un.laid k hp (I.hok.fresh hp)) (I.hok.laid k hp new)
theorem Inv.write{x e:Addr}{o:HO}{t':Nat}(I:Inv X pins σ H s)(mu:Mut (H x))(he:e=x\/H e=some (.own x))(k:∀b u,b≠e->s.heap.get? b=some u->h'.get? b=some u)(heo:∃u,h'.get? e=some u)
  (new:cW X.prog X.w (upd H x o) h' x o):Inv X pins σ (upd H x o) { s with heap:=h',toks:=t' }:=I.un (Un.write mu he k heo) (I.hok.write mu he k heo new)
theorem Inv.pins_of{pins':List Vz}(I:Inv X pins σ H s)(h:∀p∈pins',s.heap.get? p.1=some p.2/\H p.1=none/\p.1≠X.env.locals/\p.1∉X.fs/\∀v,p.2.data≠.cell v):Inv X pins' σ H s:=
 ⟨I.ok,I.os,I.bare,I.base,I.loc,I.cell,I.free,I.freeC,λp hp=>(Q2.mp hp).elim (λz=>I.pin p (Zs _ z)) (h p),I.hok,I.len⟩
theorem rB{N:List Str}(hN:N.Nodup){i j:Nat}{x:Str}(a:N[i]?=some x)(b:N[j]?=some x):i=j:=by
 obtain⟨h1,e1⟩:=QH.mp a;obtain⟨h2,e2⟩:=QH.mp b;exact(List.getElem_inj hN).mp (e1.trans e2.symm)
theorem AB{M:Model}{A:QB}{E:Qa->Qd->Prop}{i:Nat}{x:Str}{v:V}{u:Qa}{Q:Unit->Qd->Prop}(I:Inv X pins σ H s)(hN:X.N.Nodup)(hi:X.N[i]?=some x)(hx:Loc X.env.scope x)(r:bq v u)
  (h:∀s',Inv X pins (σ.set i (some v)) H s'->(∃a,ZP a s.heap s'.heap/\(a=X.env.locals\/X.env.cells.lookup x=some a))->Q () s') (hf:X.fn x=true\/X.env.scope.names.lookup x=some .local:=by first | exact .inl rfl | exact .inr rfl | assumption):Qf M A (storeName X.env x u) Q E s:=by
 obtain⟨m,hn,hl⟩:=id I.loc;have hcls:(X.env.scope.kind == .class || (X.env.scope.kind == .module&&X.env.locals != X.env.globals))=false:=by rw[I.ok.kind];rfl
 have hiσ:i<σ.length:=by rw[I.len];exact(QH.mp hi).1
 have cne:=I.cne
 have tracked:∀{a:Addr} {h':Heap},(∃o,s.heap.get? a=some o/\H a=none)->ZP a s.heap h'->HOk X.prog X.w H h':=λ{a h'} ha hs b ob e=>by
  obtain⟨_,_,hfree⟩:=ha;refine(I.hok b ob e).stay (λc w' hc q=>(hs.2 c ?_).trans q) (λ_ q=>q) λ_ _ q=>q;rintro rfl;rcases hc with rfl | hc
  ·rw[hfree] at e;cases e
  ·rw[hfree] at hc;cases hc
 rcases hx with hk | hk
 ·refine wpAny_storeName_local hk hn (λh' hn' hs=>?_) hcls
  obtain⟨oL,_,_,hoL,_⟩:=id hn;refine h _ ⟨I.ok,I.os,I.bare,⟨λb o e n hb hx=>?_,λb o e n hb hx=>?_,I.base.free,λb o e hx=>?_,I.base.tups,I.base.frzs,I.base.tbls⟩,⟨_,hn',λj y v' e1 e2 e3=>?_⟩,λy c e=>?_,I.free,I.freeC,λp hp=>?_,tracked ⟨oL,hoL,I.free⟩ hs,by simpa using I.len⟩ ⟨_,hs,.inl rfl⟩
  ·exact(hs.2 b (QC (QA (Qo e) I.ok.above))).trans (I.base.keep b o e n hb hx)
  ·obtain⟨sl,e1⟩:=I.base.slot b o e n hb hx
   exact⟨sl,(hs.2 b (QC (QA (Qo e) I.ok.above))).trans e1⟩
  ·obtain⟨o',e1⟩:=I.base.there b o e hx
   exact⟨o',(hs.2 b (QC (QA (Qo e) I.ok.above))).trans e1⟩
  ·by_cases hj:j=i
   ·subst hj
    rw[hi] at e1;cases e1;rw[List.getElem?_set_self hiσ] at e2;cases e2;exact⟨u,r,.inl ⟨hk,by simp⟩⟩
   ·rw[List.getElem?_set_ne (Ne.symm hj)] at e2
    obtain⟨u',r',q⟩:=hl j y v' e1 e2 e3;refine⟨u',r',?_⟩;rcases q with⟨k,e⟩ | ⟨k,c,e,z⟩
    ·refine .inl ⟨k,?_⟩
     have:y≠x:=λe=>hj (rB hN e1 (e▸hi));simp[this,e]
    ·exact .inr ⟨k,c,e,z.sameBut hs (cne y c e)⟩
  ·obtain⟨w',z⟩:=I.cell y c e
   exact⟨w',z.sameBut hs (cne y c e)⟩
  ·obtain⟨e,n,ne,nf,d⟩:=I.pin p hp
   exact⟨(hs.2 p.1 ne).trans e,n,ne,nf,d⟩
 ·have hfn:X.fn x=true:=by
   rcases hf with z | z
   ·exact z
   ·rw[z] at hk;cases hk
  obtain⟨c,hc⟩:=I.ok.has x (.inl hk);obtain⟨w',z⟩:=I.cell x c hc;refine wpAny_storeName_cell I.ok.kind hk hc z (λh' hc' hs=>?_);obtain⟨oc,hoc,hocd⟩:=id z;refine h { s with heap:=h' } ⟨I.ok,I.os,I.bare,⟨λb o e n hb hx=>?_,λb o e n hb hx=>?_,I.base.free,λb o e hx=>?_,I.base.tups,I.base.frzs,I.base.tbls⟩,⟨m,hn.sameBut hs (Ne.symm (cne x c hc)),λj y v' e1 e2 e3=>?_⟩,λy c' e=>?_,I.free,I.freeC,λp hp=>?_,tracked ⟨oc,hoc,I.freeC x c hc⟩ hs,by simpa using I.len⟩ ⟨c,hs,.inr hc⟩
  ·exact(hs.2 b (QC (QA (Qo e) (I.ok.cab x c hfn hc)))).trans (I.base.keep b o e n hb hx)
  ·obtain⟨sl,e1⟩:=I.base.slot b o e n hb hx
   exact⟨sl,(hs.2 b (QC (QA (Qo e) (I.ok.cab x c hfn hc)))).trans e1⟩
  ·obtain⟨o',e1⟩:=I.base.there b o e hx
   exact⟨o',(hs.2 b (QC (QA (Qo e) (I.ok.cab x c hfn hc)))).trans e1⟩
  ·by_cases hj:j=i
   ·subst hj
    rw[hi] at e1;cases e1;rw[List.getElem?_set_self hiσ] at e2;cases e2;exact⟨u,r,.inr ⟨.inl hk,c,hc,hc'⟩⟩
   ·rw[List.getElem?_set_ne (Ne.symm hj)] at e2
    obtain⟨u',r',q⟩:=hl j y v' e1 e2 e3;refine⟨u',r',?_⟩;rcases q with q | ⟨k,c',e,z'⟩
    ·exact .inl q
    ·refine .inr ⟨k,c',e,z'.sameBut hs ?_⟩
     rintro rfl;exact hj (rB hN e1 (I.ok.inj _ _ _ e hc▸hi))
  ·by_cases hcc:c'=c
   ·subst hcc;exact⟨_,hc'⟩
   ·obtain⟨w2,z2⟩:=I.cell y c' e
    exact⟨w2,z2.sameBut hs hcc⟩
  ·obtain⟨e,n,ne,nf,d⟩:=I.pin p hp
   refine⟨(hs.2 p.1 ?_).trans e,n,ne,nf,d⟩;intro q;rw[q,hoc] at e;have q':oc=p.2:=Option.some.inj e;exact d w' (by rw[<-q'];exact hocd)
theorem jK{M:Model}{A:QB}{E:Qa->Qd->Prop}{i:Nat}{x:Str}{v:V}{u:Qa}{Q:Unit->Qd->Prop}(I:Inv X pins σ H s)(hN:X.N.Nodup)(hi:X.N[i]?=some x)(hx:Loc X.env.scope x)(r:bq v u)
  (h:∀s',Inv X pins (σ.set i (some v)) H s'->Q () s') (hf:X.fn x=true\/X.env.scope.names.lookup x=some .local:=by first | exact .inl rfl | exact .inr rfl | assumption):Qf M A (storeName X.env x u) Q E s:=
 AB I hN hi hx r (λs' I' _=>h s' I') hf
theorem Inv.call'{s':Qd}{ch:List Addr}(I:Inv X pins σ H s)(ho:s'.os=s.os)(u:Un (frs X.stack) ch H H' s.heap s'.heap)(hok:HOk X.prog X.w H' s'.heap)(hg:AllBare s'.gens)
  (hch:∀b∈ch,(b∈X.ex\/X.s₀.heap.objs.size<=b)/\b≠X.env.locals/\(∀x c,X.env.cells.lookup x=some c->c≠b)/\∀p∈X.pn++pins,p.1≠b):Inv X pins σ H' s':=by
 obtain⟨h',g',d',t',o'⟩:=s';have e:o'=s.os:=ho;subst e;exact I.call (g':=g') (t':=t') (d':=d') u hok hg hch
end
noncomputable abbrev XK:=Qa->Option Addr->Hp->Prop
noncomputable abbrev St:=List (Option V)
noncomputable abbrev VK:=V->Hp->Prop
noncomputable abbrev TE:=St->Hp->VK->Prop
noncomputable abbrev TT:=St->Hp->(Bool->Hp->Prop)->Prop
noncomputable abbrev TA:=St->Hp->(List V->Hp->Prop)->Prop
structure Ends where
 nx:St->Hp->Prop
 rt:VK
 bk:St->Hp->Prop:=λ_ _=>False
 ct:St->Hp->Prop:=λ_ _=>False
noncomputable abbrev TS:=Ends->St->Hp->Prop
noncomputable def EP(X:Cx)(pins:List Vz)(σ:St)(Q:VK)(u:Qa)(s':Qd):Prop:=∃v H',Inv X pins σ H' s'/\bq v u/\Q v H'
noncomputable def TP(X:Cx)(pins:List Vz)(σ:St)(Q:Bool->Hp->Prop)(b:Bool)(s':Qd):Prop:=∃H',Inv X pins σ H' s'/\Q b H'
noncomputable def AP(X:Cx)(pins:List Vz)(σ:St)(Q:List V->Hp->Prop)(us:List Qa)(s':Qd):Prop:=∃vs H',Inv X pins σ H' s'/\bu vs us/\Q vs H'
noncomputable def SP(X:Cx)(pins:List Vz)(D:Ends)(f:Flow)(s':Qd):Prop:=
 match f with
 |.next=>∃σ' H',Inv X pins σ' H' s'/\D.nx σ' H'
 |.brk=>∃σ' H',Inv X pins σ' H' s'/\D.bk σ' H'
 |.cont=>∃σ' H',Inv X pins σ' H' s'/\D.ct σ' H'
 |.ret u=>∃v σ' H',Inv X pins σ' H' s'/\bq v u/\D.rt v H'
noncomputable def PE(X:Cx)(e:Expr)(t:TE):Prop:=
 ∀(pins:List Vz) (s:Qd) (σ:St) (H:Hp) (Q:VK),Inv X pins σ H s->t σ H Q->Qf KF X.A (eval e X.env) (EP X pins σ Q) X.xe s
noncomputable def PT(X:Cx)(e:Expr)(t:TT):Prop:=
 ∀(pins:List Vz) (s:Qd) (σ:St) (H:Hp) (Q:Bool->Hp->Prop),Inv X pins σ H s->t σ H Q->Qf KF X.A (isTrue e X.env (eval e X.env)) (TP X pins σ Q) X.xe s
noncomputable def PW(X:Cx)(e:Expr)(t:TT):Prop:=
 ∀(whole:Sem Qa) (pins:List Vz) (s:Qd) (σ:St) (H:Hp) (Q:Bool->Hp->Prop),Inv X pins σ H s->t σ H Q->Qf KF X.A (isTrue e X.env whole) (TP X pins σ Q) X.xe s
theorem PW.pt{X:Cx}{e:Expr}{t:TT}(h:PW X e t):PT X e t:=h _
noncomputable def PA(X:Cx)(es:List Expr)(t:TA):Prop:=
 ∀(pos:Pos) (pins:List Vz) (s:Qd) (σ:St) (H:Hp) (Q:List V->Hp->Prop),Inv X pins σ H s->t σ H Q->Qf KF X.A (spliced (QP pos (Qg es X.env))) (AP X pins σ Q) X.xe s
noncomputable def PS(X:Cx)(st:Stmt)(t:TS):Prop:=
 ∀(pins:List Vz) (s:Qd) (σ:St) (H:Hp) (D:Ends),Inv X pins σ H s->t D σ H->Qf KF X.A (exec st X.env) (SP X pins D) X.xe s
noncomputable def PSs(X:Cx)(st:List Stmt)(t:TS):Prop:=
 ∀(pins:List Vz) (s:Qd) (σ:St) (H:Hp) (D:Ends),Inv X pins σ H s->t D σ H->Qf KF X.A (execs st X.env) (SP X pins D) X.xe s
theorem thn{α:Type}{t:Sem α}{Q Q':α->Qd->Prop}{M:Model}{A:QB}{E:Qa->Qd->Prop}{s:Qd}(h:Qf M A t Q E s)(hQ:∀a s,Q a s->Q' a s):Qf M A t Q' E s:=Zk h hQ λ_ _ x=>x
section
variable{X:Cx}
theorem bin{a b:Expr}{ta tb:TE}(ha:PE X a ta)(hb:PE X b tb){pins:List Vz}{s:Qd}{σ:St}{H:Hp}{R:V->V->Hp->Prop}(I:Inv X pins σ H s)(h:ta σ H λx H1=>tb σ H1 λy H2=>R x y H2)
  {α:Type} {Q:α->Qd->Prop} {f:Qa->Qa->Sem α}
  (hf:∀v u s2 x y H2,Inv X pins σ H2 s2->bq x v->bq y u->R x y H2->Qf KF X.A (f v u) Q X.xe s2) :
  Qf KF X.A (eval a X.env) (λv s₁=>Qf KF X.A (eval b X.env) (λu s₂=>Qf KF X.A (f v u) Q X.xe s₂) X.xe s₁) X.xe s:=by
 refine thn (ha pins s σ H _ I h) λv s1 ⟨x,H1,I1,r1,q1⟩=>?_;refine thn (hb pins s1 σ H1 _ I1 q1) λu s2 ⟨y,H2,I2,r2,q2⟩=>?_;exact hf v u s2 x y H2 I2 r1 r2 q2
noncomputable def yG(i:Nat):TE:=λσ H Q=>∃v,σ[i]?=some (some v)/\Q v H
noncomputable def tC(v:V):TE:=λ_ H Q=>Q v H
theorem lu{i:Nat}{x:Str}{pos:Pos}(hN:X.N[i]?=some x)(hv:Vis X.env.scope x)(hd:(x==("__debug__" : Str))=false:=by decide)(hcd:(x==("__classdict__" : Str))=false:=by decide):PE X (.Name x pos) (yG i):=by
 intro pins s σ H Q I h;obtain⟨v,e,h⟩:=h;obtain⟨m,hn,hl⟩:=I.loc;obtain⟨u,r,l⟩:=hl i x v hN e hv;have fin:EP X pins σ Q u s:=⟨v,H,I,r,h⟩;rcases l with⟨hk,hm⟩ | ⟨hk,c,hc,hcell⟩
 ·exact wpAny_Name (wpAny_loadName_local I.ok.kind hk hn hm fin) hd
 ·rcases hk with hk | hk
  ·exact wpAny_Name (wpAny_loadName_cell I.ok.kind hk hc hcell fin) hd
  ·exact wpAny_Name (wpAny_loadName_free I.ok.kind hk hc hcell fin hcd) hd
theorem cG{i j pos}:PE X (.Constant (.int i) j pos) (tC (.int i)):=λ_ _ _ H _ I h=>wpAny_Constant_int ⟨.int i,H,I.tok _,⟨_,rfl⟩,h⟩
theorem FN{b j pos}:PE X (.Constant (.bool b) j pos) (tC (.bl b)):=λ_ _ _ H _ I h=>Constant_bool ⟨.bl b,H,I,rfl,h⟩
theorem Bw{j pos}:PE X (.Constant .none j pos) (tC .non):=λ_ _ _ H _ I h=>Constant_none ⟨.non,H,I,rfl,h⟩
theorem bP{x j pos}:PE X (.Constant (.str x) j pos) (tC (.str x)):=λ_ _ _ H _ I h=>Calls.Constant_str ⟨.str x,H,I.tok _,⟨_,rfl⟩,h⟩
noncomputable def Gl(X:Cx)(x:Str):Prop:=X.env.kindOf x=some .globalImplicit
theorem hU{E:Qa->Qd->Prop}{pins:List Vz}{s:Qd}{σ:St}{H:Hp}{x:Str}{u:Qa}{pos:Pos}{Q:Qa->Qd->Prop}(I:Inv X pins σ H s)(hg:Gl X x)(hm:X.mg x=some u)(h:Q u s)
  (hd:(x==("__debug__" : Str))=false:=by decide):Qf KF X.A (eval (.Name x pos) X.env) Q E s:=
 Calls.Name_function_global I.ok.kind hg (Calls.loadGlobal_global (by rw[I.ok.glob];exact I.mod.glob.keeps I.bk) hm h) hd
theorem mX{E:Qa->Qd->Prop}{pins:List Vz}{s:Qd}{σ:St}{H:Hp}{x:Str}{u:Qa}{pos:Pos}{Q:Qa->Qd->Prop}(I:Inv X pins σ H s)(hg:Gl X x)(hm:X.mg x=none)(hv:ZW x=some u)(h:Q u s)
  (hn:x≠"__name__":=by decide) (hd:(x==("__debug__" : Str))=false:=by decide):Qf KF X.A (eval (.Name x pos) X.env) Q E s:=by
 obtain⟨mb,h1,h2⟩:=I.mod.blt;exact Calls.Name_function_global I.ok.kind hg (Calls.loadGlobal_builtin (by rw[I.ok.glob];exact I.mod.glob.keeps I.bk) hm (by rw[I.ok.blt];exact h1.keeps I.bk) ((h2 x hn).trans hv) h) hd
theorem vn{x:Str}{v:V}{u:Qa}{pos:Pos}(hg:Gl X x)(hm:X.mg x=some u)(r:bq v u)(hd:(x==("__debug__" : Str))=false:=by decide):PE X (.Name x pos) (tC v):=
 λ_ _ _ H _ I h=>hU I hg hm ⟨v,H,I,r,h⟩ hd
theorem Dx{x:Str}{v:V}{u:Qa}{pos:Pos}(hg:Gl X x)(hm:X.mg x=none)(hv:ZW x=some u)(r:bq v u)(hn:x≠"__name__":=by decide)(hd:(x==("__debug__" : Str))=false:=by decide):PE X (.Name x pos) (tC v):=
 λ_ _ _ H _ I h=>mX I hg hm hv ⟨v,H,I,r,h⟩ hn hd
variable{a b:Expr}{ta tb:TE}{pos:Pos}
noncomputable def PC(X:Cx)(op:CmpOp)(a b:Expr)(t:TE):Prop:=
 ∀(pins:List Vz) (s:Qd) (σ:St) (H:Hp) (Q:VK),Inv X pins σ H s->t σ H Q->
  Qf KF X.A (eval a X.env) (λv s₁=>Qf KF X.A (eval b X.env) (λu s₂=>Qf KF X.A (QF op v u) (EP X pins σ Q) X.xe s₂) X.xe s₁) X.xe s
theorem CL(b:Expr){op:CmpOp}(h:op≠.In)(h2:op≠.NotIn):Z6 op b=false:=by
 have e1:(op==CmpOp.In)=false:=by cases op<;>first | rfl | exact absurd rfl h
 have e2:(op==CmpOp.NotIn)=false:=by cases op<;>first | rfl | exact absurd rfl h2
 cases b<;>simp[Z6,e1,e2]
noncomputable def Ju(ta:TE):TE:=λσ H Q=>ta σ H λx H1=>Q (.bl (decide (x=.non))) H1
theorem bq.none_iff{x:V}{v:Qa}(r:bq x v):(v==Q0)=decide (x=.non):=by
 cases x with
 |non=>cases r;rfl
 |bl _=>cases r;rfl
 |int _=>obtain⟨t,rfl⟩:=r;rfl
 |str _=>obtain⟨t,rfl⟩:=r;rfl
 |byt _=>obtain⟨t,rfl⟩:=r;rfl
 |flt _=>obtain⟨t,rfl⟩:=r;rfl
 |ref _=>cases r;rfl
 |ty _=>cases r;rfl
theorem Bl{j pos'}(ha:PE X a ta):PC X .Is a (.Constant .none j pos') (Ju ta):=by
 intro pins s σ H Q I h;refine thn (ha pins s σ H _ I h) λv s1 ⟨x,H1,I1,r1,q1⟩=>?_;exact Constant_none (is_none_gen ⟨.bl _,H1,I1,by rw[r1.none_iff];rfl,q1⟩)
noncomputable def tB(t:TE):TT:=λσ H Q=>t σ H λx H1=>∃c,x=.bl c/\Q c H1
theorem B8{op:CmpOp}{t:TE}(h:PC X op a b t)(h1:Z6 op b=false:=by first | exact CL _ (by decide) (by decide) | rfl):PT X (.Compare a [op] [b] pos) (tB t):=by
 intro pins s σ H Q I hw;refine wpAny_isTrue_Compare1 (thn (h pins s σ H _ I hw) λv s1 h1=>thn h1 λu s2 h2=>thn h2 λc s3 ⟨x,H1,I1,r1,q1⟩=>?_) h1;obtain⟨d,rfl,q⟩:=q1;cases r1;exact Q8 ⟨H1,I1,q⟩
theorem GX{e:Expr}{t:TE}(h:PE X e t)(he:∀whole,isTrue e X.env whole=(do let v<-whole;KO e.pos;ZO [v] (truthy v)):=by intro _;rfl):PT X e (tB t):=by
 intro pins s σ H Q I hw;refine isTrue_plain (thn (h pins s σ H _ I hw) λv s1 ⟨x,H1,I1,r1,q1⟩=>?_) (he _);obtain⟨d,rfl,q⟩:=q1;cases r1;exact Q8 ⟨H1,I1,q⟩
variable{tA tB':TT}{rest:List Expr}
noncomputable def JK(t u:TT):TT:=λσ H Q=>t σ H λc H1=>if c=true then u σ H1 Q else Q false H1
noncomputable def tOr(t u:TT):TT:=λσ H Q=>t σ H λc H1=>if c=true then Q true H1 else u σ H1 Q
noncomputable def J9(t:TT):TT:=λσ H Q=>t σ H λc H1=>Q (!c) H1
theorem EZ(ha:PT X a tA):PW X (.BoolOp .And [a] pos) tA:=by
 intro wh pins s σ H Q I h;refine isTrue_and (thn (ha pins s σ H Q I h) λc s1 e=>?_);cases c with
 |true=>exact isTrue_and_nil e
 |false=>exact e
theorem BF(ha:PT X a tA):PW X (.BoolOp .Or [a] pos) tA:=by
 intro wh pins s σ H Q I h;refine isTrue_or (thn (ha pins s σ H Q I h) λc s1 e=>?_);cases c with
 |false=>exact isTrue_or_nil e
 |true=>exact e
theorem HW(ha:PT X a tA)(hb:PW X (.BoolOp .And (b::rest) pos) tB'):PW X (.BoolOp .And (a::b::rest) pos) (JK tA tB'):=by
 intro wh pins s σ H Q I h;refine isTrue_and (thn (ha pins s σ H _ I h) λc s1 ⟨H1,I1,q1⟩=>?_);cases c with
 |true=>exact hb wh pins s1 σ H1 Q I1 q1
 |false=>exact⟨H1,I1,q1⟩
theorem Fz(ha:PT X a tA)(hb:PW X (.BoolOp .Or (b::rest) pos) tB'):PW X (.BoolOp .Or (a::b::rest) pos) (tOr tA tB'):=by
 intro wh pins s σ H Q I h;refine isTrue_or (thn (ha pins s σ H _ I h) λc s1 ⟨H1,I1,q1⟩=>?_);cases c with
 |true=>exact⟨H1,I1,q1⟩
 |false=>exact hb wh pins s1 σ H1 Q I1 q1
theorem yf(ha:PT X a tA):PT X (.UnaryOp .Not a pos) (J9 tA):=by
 intro pins s σ H Q I h;exact isTrue_not (ha pins s σ H (λc H1=>Q (!c) H1) I h)
noncomputable def Ig(ta tb:TE):TE:=λσ H Q=>ta σ H λx H1=>∃c,x=.bl c/\if c=true then tb σ H1 Q else Q (.bl false) H1
noncomputable def J6(ta tb:TE):TE:=λσ H Q=>ta σ H λx H1=>∃c,x=.bl c/\if c=true then Q (.bl true) H1 else tb σ H1 Q
theorem Hb{op}{t:TE}(h:PE X a t):PE X (.BoolOp op [a] pos) t:=λpins s σ H Q I hw=>BoolOp_one (h pins s σ H Q I hw)
theorem GC(ha:PE X a ta)(hb:PE X (.BoolOp .And (b::rest) pos) tb):PE X (.BoolOp .And (a::b::rest) pos) (Ig ta tb):=by
 intro pins s σ H Q I h;refine BoolOp_and (thn (ha pins s σ H _ I h) λv s1 ⟨x,H1,I1,r1,q1⟩=>?_);obtain⟨c,rfl,q1⟩:=q1;cases r1;refine Q8 ?_;cases c with
 |true=>exact hb pins s1 σ H1 Q I1 q1
 |false=>exact⟨.bl false,H1,I1,rfl,q1⟩
theorem Jo(ha:PE X a ta)(hb:PE X (.BoolOp .Or (b::rest) pos) tb):PE X (.BoolOp .Or (a::b::rest) pos) (J6 ta tb):=by
 intro pins s σ H Q I h;refine BoolOp_or (thn (ha pins s σ H _ I h) λv s1 ⟨x,H1,I1,r1,q1⟩=>?_);obtain⟨c,rfl,q1⟩:=q1;cases r1;refine Q8 ?_;cases c with
 |false=>exact hb pins s1 σ H1 Q I1 q1
 |true=>exact⟨.bl true,H1,I1,rfl,q1⟩
end
noncomputable def SqL(K:Qc)(H:Hp)(a:Addr)(xs:List V):Prop:=
 Rd H a (.lst xs)\/
  ∃(o:Obj) (its:Array Qa) (n:Nat),K.lookup a=some o/\o.cls=.type "list"/\o.dict=none/\o.data=.seq its n/\its.size<=Qk/\bu xs its.toList
noncomputable def SqT(K:Qc)(H:Hp)(a:Addr)(xs:List V):Prop:=
 Rd H a (.tup xs)\/
  ∃(o:Obj) (its:Array Qa) (n:Nat),K.lookup a=some o/\o.cls=.type "tuple"/\o.data=.seq its n/\its.size<=Qk/\bu xs its.toList
noncomputable def JM:Qa->Option V
 |.none=>some .non
 |.bool b=>some (.bl b)
 |.int i _=>some (.int i)
 |.str x _=>some (.str x)
 |.bytes b _=>some (.byt b)
 |.float b _=>some (.flt b)
 |.ref a=>some (.ref a)
 |.type n=>some (.ty n)
 |_=>none
theorem bq.abs{x:V}{u:Qa}(r:bq x u):JM u=some x:=by
 cases x with
 |non=>cases r;rfl
 |bl _=>cases r;rfl
 |int _=>obtain⟨t,rfl⟩:=r;rfl
 |str _=>obtain⟨t,rfl⟩:=r;rfl
 |byt _=>obtain⟨t,rfl⟩:=r;rfl
 |flt _=>obtain⟨t,rfl⟩:=r;rfl
 |ref _=>cases r;rfl
 |ty _=>cases r;rfl
theorem bq.inj{x y:V}{u:Qa}(r:bq x u)(q:bq y u):x=y:=Option.some.inj (r.abs.symm.trans q.abs)
theorem bu.inj:∀{xs ys:List V} {us:List Qa},bu xs us->bu ys us->xs=ys:=λ{xs ys us} h=>by
 induction h generalizing ys with
 |nil=>intro g;cases g;rfl
 |cons r t ih=>intro g;cases g with | cons r' t'=>rw[r.inj r',ih t']
section
variable{X:Cx}{pins:List Vz}{σ:St}{H:Hp}{s:Qd}{a:Addr}{xs ys:List V}
theorem SqL.of{K:Qc}(h:H a=some (.lst xs)):SqL K H a xs:=.inl (.inl h)
theorem SqT.of{K:Qc}(h:H a=some (.tup xs)):SqT K H a xs:=.inl (.inl h)
theorem Inv.list(I:Inv X pins σ H s)(h:SqL X.K H a xs):∃its:List Qa,bu xs its/\PlainL s.heap a its.toArray/\xs.length<=Qk:=by
 rcases h with h | ⟨o,its,n,hk,hc,hd,hs,hz,r⟩
 ·obtain⟨z,its,n,r,e⟩:=h.ok I.hok
  exact⟨its,r,⟨_,n,e,rfl,rfl,rfl⟩,z⟩
 ·refine⟨its.toList,r,⟨o,n,I.kIn a o hk,hc,hd,by simpa using hs⟩,?_⟩
  have e:=r.length;simp only[Zw] at e
  lia
theorem Inv.tuple(I:Inv X pins σ H s)(h:SqT X.K H a xs):∃its:List Qa,bu xs its/\IsTup s.heap a its.toArray/\xs.length<=Qk:=by
 rcases h with h | ⟨o,its,n,hk,hc,hs,hz,r⟩
 ·obtain⟨z,its,r,p⟩:=h.ok I.hok
  exact⟨its,r,p,z⟩
 ·refine⟨its.toList,r,⟨o,I.kIn a o hk,hc,n,by simpa using hs⟩,?_⟩
  have e:=r.length;simp only[Zw] at e
  lia
theorem Inv.list_inj(I:Inv X pins σ H s)(h:SqL X.K H a xs)(h':SqL X.K H a ys):xs=ys:=by
 obtain⟨its,r,⟨o,n,e,_,_,d⟩,_⟩:=I.list h;obtain⟨its',r',⟨o',n',e',_,_,d'⟩,_⟩:=I.list h';rw[e] at e';cases e';rw[d] at d';injection d' with d1 _
 have:its=its':=by simpa using congrArg Array.toList d1
 subst this;exact r.inj r'
theorem Inv.tuple_inj(I:Inv X pins σ H s)(h:SqT X.K H a xs)(h':SqT X.K H a ys):xs=ys:=by
 obtain⟨its,r,⟨o,e,_,n,d⟩,_⟩:=I.tuple h;obtain⟨its',r',⟨o',e',_,n',d'⟩,_⟩:=I.tuple h';rw[e] at e';cases e';rw[d] at d';injection d' with d1 _
 have:its=its':=by simpa using congrArg Array.toList d1
 subst this;exact r.inj r'
end
noncomputable abbrev Cx.wish(X:Cx)(E:Qa->Qd->Prop):Cx:={ X with xe:=E }
noncomputable abbrev Cx.nox(X:Cx):Cx:=X.wish λ_ _=>False
theorem Cx.Ok.wish{X:Cx}(ok:X.Ok)(E:Qa->Qd->Prop):(X.wish E).Ok:=
 ⟨ok.mod,ok.kind,ok.glob,ok.blt,ok.above,ok.inj,ok.has,ok.cab,ok.hd,ok.frames,ok.stk,ok.exf,ok.bs,ok.bsz,ok.noex,ok.exfs,ok.funs,ok.frf⟩
theorem Cx.Ok.unwish{X:Cx}{E:Qa->Qd->Prop}(ok:(X.wish E).Ok):X.Ok:=
 ⟨ok.mod,ok.kind,ok.glob,ok.blt,ok.above,ok.inj,ok.has,ok.cab,ok.hd,ok.frames,ok.stk,ok.exf,ok.bs,ok.bsz,ok.noex,ok.exfs,ok.funs,ok.frf⟩
section
variable{X:Cx}{pins:List Vz}{σ:St}{H:Hp}{s:Qd}{E:Qa->Qd->Prop}
theorem Inv.wish(I:Inv X pins σ H s)(E:Qa->Qd->Prop):Inv (X.wish E) pins σ H s:=⟨I.ok.wish E,I.os,I.bare,I.base,I.loc,I.cell,I.free,I.freeC,I.pin,I.hok,I.len⟩
theorem Inv.unwish(I:Inv (X.wish E) pins σ H s):Inv X pins σ H s:=⟨I.ok.unwish,I.os,I.bare,I.base,I.loc,I.cell,I.free,I.freeC,I.pin,I.hok,I.len⟩
theorem SP.unwish{D:Ends}{f:Flow}{s':Qd}(h:SP (X.wish E) pins D f s'):SP X pins D f s':=by
 cases f with
 |next=>obtain⟨σ',H',I,q⟩:=h;exact⟨σ',H',I.unwish,q⟩
 |brk=>obtain⟨σ',H',I,q⟩:=h;exact⟨σ',H',I.unwish,q⟩
 |cont=>obtain⟨σ',H',I,q⟩:=h;exact⟨σ',H',I.unwish,q⟩
 |ret u=>obtain⟨v,σ',H',I,r,q⟩:=h;exact⟨v,σ',H',I.unwish,r,q⟩
theorem PSs.nox{st:List Stmt}{t:TS}(h:PSs X.nox st t):PSs X st t:=λpins s σ H D I hw=>
 Zk (h pins s σ H D (I.wish _) hw) (λ_ _ q=>q.unwish) λ_ _ z=>QR z
end
section
variable{X:Cx}{st:Stmt}{rest:List Stmt}{t u:TS}{e:Expr}{te:TE}{pos:Pos}
noncomputable def Ja:TS:=λD σ H=>D.nx σ H
noncomputable def JY(t u:TS):TS:=λD σ H=>t { D with nx:=u D } σ H
theorem eQ:PSs X [] Ja:=λ_ _ σ H _ I h=>Ks ⟨σ,H,I,h⟩
theorem aH(h1:PS X st t)(h2:PSs X rest u):PSs X (st::rest) (JY t u):=by
 intro pins s σ H D I h;refine ZS (thn (h1 pins s σ H { D with nx:=u D } I h) λf s1 q=>?_);cases f with
 |next=>
  obtain⟨σ',H',I',q⟩:=q;exact h2 pins s1 σ' H' D I' q
 |ret v=>exact q
 |brk=>exact q
 |cont=>exact q
theorem bF(h1:PS X st t):PSs X [st] t:=by
 intro pins s σ H D I h;refine ZS (thn (h1 pins s σ H D I h) λf s1 q=>?_);cases f with
 |next=>exact Ks q
 |ret v=>exact q
 |brk=>exact q
 |cont=>exact q
theorem Inv.quiet{pins:List Vz}{σ:St}{H:Hp}{s:Qd}(I:Inv X pins σ H s):interactive X.env=false:=by simp[interactive,I.ok.kind]
noncomputable def IA(te:TE):TS:=λD σ H=>te σ H λ_ H1=>D.nx σ H1
theorem ko(he:PE X e te)(hs:ZD e none pos.line X.env=pure false:=by rfl):PS X (.Expr e pos) (IA te):=by
 intro pins s σ H D I h;exact wpAny_Expr_any (thn (he pins s σ H _ I h) λv s1 ⟨x,H1,I1,r1,q1⟩=>⟨σ,H1,I1,q1⟩) I.quiet hs
noncomputable def Jy(te:TE):TS:=λD σ H=>te σ H D.rt
theorem d_(he:PE X e te):PS X (.Return (some e) pos) (Jy te):=by
 intro pins s σ H D I h;exact wpAny_Return_some (thn (he pins s σ H _ I h) λv s1 ⟨x,H1,I1,r1,q1⟩=>⟨x,σ,H1,I1,r1,q1⟩)
noncomputable def JI(c:TT)(t u:TS):TS:=λD σ H=>c σ H λb H1=>if b=true then t D σ H1 else u D σ H1
theorem ia{c:Expr}{a b:List Stmt}{tc:TT}(hc:PT X c tc)(ha:PSs X a t)(hb:PSs X b u):PS X (.If c a b pos) (JI tc t u):=by
 intro pins s σ H D I h;refine wpAny_If (thn (hc pins s σ H _ I h) λd s1 ⟨H1,I1,q1⟩=>?_);cases d with
 |true=>exact ha pins s1 σ H1 D I1 q1
 |false=>exact hb pins s1 σ H1 D I1 q1
noncomputable def GD:TS:=λ_ _ _=>False
end
noncomputable abbrev TG:=V->St->Hp->(St->Hp->Prop)->Prop
noncomputable abbrev TGs:=List V->St->Hp->(St->Hp->Prop)->Prop
noncomputable def PG(X:Cx)(target:Expr)(t:TG):Prop:=
 ∀(pins:List Vz) (s:Qd) (σ:St) (H:Hp) (v:V) (u:Qa) (Q:St->Hp->Prop),Inv X pins σ H s->bq v u->t v σ H Q->
  Qf KF X.A (assign target X.env u) (λ_ s'=>∃σ' H',Inv X pins σ' H' s'/\Q σ' H') X.xe s
noncomputable def PGs(X:Cx)(ts:List Expr)(t:TGs):Prop:=
 ∀(pins:List Vz) (s:Qd) (σ:St) (H:Hp) (vs:List V) (us:List Qa) (Q:St->Hp->Prop),Inv X pins σ H s->bu vs us->t vs σ H Q->
  Qf KF X.A (assignInOrder ((Ze ts X.env).map (·.2)) us) (λ_ s'=>∃σ' H',Inv X pins σ' H' s'/\Q σ' H') X.xe s
noncomputable abbrev Gs:=V->V->V->Hp->(Hp->Prop)->Prop
noncomputable def Jg(X:Cx)(t:Gs):Prop:=
 ∀(pins:List Vz) (s:Qd) (σ:St) (H:Hp) (o i v:V) (ov iv u:Qa) (Q:Hp->Prop),Inv X pins σ H s->bq o ov->bq i iv->bq v u->t o i v H Q->
  Qf KF X.A (setItem ov iv u) (λ_ s'=>∃H',Inv X pins σ H' s'/\Q H') X.xe s
section
variable{X:Cx}{pos:Pos}
noncomputable def FM(i:Nat):TG:=λv σ H Q=>Q (σ.set i (some v)) H
theorem uh{i:Nat}{x:Str}(hN:X.N.Nodup)(hi:X.N[i]?=some x)(hx:Loc X.env.scope x)(hf:X.fn x=true\/X.env.scope.names.lookup x=some .local:=by first | exact .inl rfl | exact .inr rfl | assumption):PG X (.Name x pos) (FM i):=by
 intro pins s σ H v u Q I r h;exact wpAny_assign_Name (jK I hN hi hx r (λs' I'=>⟨_,H,I',h⟩) hf)
noncomputable def Jw:TGs:=λvs σ H Q=>vs=[]/\Q σ H
noncomputable def Iu(t:TG)(u:TGs):TGs:=λvs σ H Q=>∃v r,vs=v::r/\t v σ H λσ' H'=>u r σ' H' Q
theorem ER:PGs X [] Jw:=by
 intro pins s σ H vs us Q I r h;obtain⟨e,h⟩:=h;subst e;cases r;exact assignInOrder_nil ⟨σ,H,I,h⟩
theorem Bz{e:Expr}{es:List Expr}{t:TG}{u:TGs}(h1:PG X e t)(h2:PGs X es u)
  (hs:(Ze (e::es) X.env).map (·.2)=assign e X.env::(Ze es X.env).map (·.2):=by rfl):PGs X (e::es) (Iu t u):=by
 intro pins s σ H vs us Q I r h;obtain⟨v,vr,e1,h⟩:=h;subst e1;cases r with
 |cons r rr=>
  rw[hs];refine assignInOrder_cons (thn (h1 pins s σ H _ _ _ I r h) λ_ s1 ⟨σ1,H1,I1,q1⟩=>?_);exact h2 pins s1 σ1 H1 _ _ Q I1 rr q1
noncomputable def JF(K:Qc)(n:Nat)(t:TGs):TG:=λv σ H Q=>∃a xs,v=.ref a/\SqT K H a xs/\xs.length=n/\t xs σ H Q
theorem A7{es:List Expr}{k:Nat}{t:TGs}{n:Nat}(hc:X.calm=true)(h:PGs X es t)
  (hn:(Ze es X.env).length=n:=by rfl) (hst:(Ze es X.env).findIdx? (·.1)=none:=by rfl):PG X (.Tuple es k pos) (JF X.K n t):=by
 intro pins s σ H v u Q I r hw;obtain⟨a,xs,e1,hq,hl,hw⟩:=hw;subst e1;cases r;obtain⟨its,rv,ht,hz⟩:=I.tuple hq;refine assign_Tuple_tuple (I.ok.hd hc) ht (by simp[hn,<-hl,rv.length]) hst λh' hx=>?_;have I1:Inv X pins σ H { s with heap:=h' }:=I.kept (t':=s.toks) λb o e=>hx b o (QC (Qo e)) e;exact h pins _ σ H xs _ Q I1 (by simpa using rv) hw
noncomputable def JV(to ti:TE)(t:Gs):TG:=λv σ H Q=>to σ H λo H1=>ti σ H1 λi H2=>t o i v H2 λH3=>Q σ H3
theorem F5{o i:Expr}{to ti:TE}{t:Gs}(ho:PE X o to)(hi:PE X i ti)(hs:Jg X t)
  (ha:∀v,assign (.Subscript o i pos) X.env v=(do
   let ov<-ZO [v] (eval o X.env);let iv<-ZO [v,ov] (eval i X.env)
   KO pos
   ZO [v,ov,iv] (setItem ov iv v)
   release [v,ov,iv] []):=by intro _;rfl):PG X (.Subscript o i pos) (JV to ti t):=by
 intro pins s σ H v u Q I r h;rw[ha];refine Qb (QX (thn (ho pins s σ H _ I h) λov s1 ⟨x,H1,I1,r1,q1⟩=>?_));refine Qb (QX (thn (hi pins s1 σ H1 _ I1 q1) λiv s2 ⟨y,H2,I2,r2,q2⟩=>?_));refine Qb (K3 (Qb (QX (thn (hs pins s2 σ H2 x y v ov iv u _ I2 r1 r2 r q2) λ_ s3 ⟨H3,I3,q3⟩=>?_))));exact wpAny_release ⟨σ,H3,I3,q3⟩
noncomputable def IH(te:TE)(g:TG):TS:=λD σ H=>te σ H λx H1=>g x σ H1 D.nx
theorem Bm{tg e:Expr}{te:TE}{g:TG}(he:PE X e te)(hg:PG X tg g)(hs:swapsWithSole [tg] e pos.line X.env=pure false:=by rfl)(hw:swappedStores [tg] e X.env=pure none:=by rfl)
  (h1:(Ze [tg] X.env).map (·.2)=[assign tg X.env]:=by rfl):PS X (.Assign [tg] e pos) (IH te g):=by
 intro pins s σ H D I h;refine wpAny_Assign_stores (thn (he pins s σ H _ I h) λv s1 ⟨x,H1,I1,r1,q1⟩=>?_) hs hw;rw[h1];exact thn (hg pins s1 σ H1 x v _ I1 r1 q1) λ_ s2 q=>q
theorem bT{i:Nat}{x:Str}{e:Expr}{te:TE}{pos':Pos}(hN:X.N.Nodup)(hi:X.N[i]?=some x)(hx:Loc X.env.scope x)(he:PE X e te)(hs:ZD e (some (.Name x pos')) pos.line X.env=pure false:=by rfl)(hf:X.fn x=true\/X.env.scope.names.lookup x=some .local:=by first | exact .inl rfl | exact .inr rfl | assumption) :
  PS X (.Assign [.Name x pos'] e pos) (IH te (FM i)):=by
 intro pins s σ H D I h;refine wpAny_Assign_Name (thn (he pins s σ H _ I h) λv s1 ⟨y,H1,I1,r1,q1⟩=>?_) hs;exact jK I1 hN hi hx r1 (λs2 I2=>⟨_,H1,I2,q1⟩) hf
end
structure It where
 go:Nat->Hp->Prop
 yld:Nat->Hp->V->Hp->Prop
 stop:Nat->Hp->Prop
noncomputable def nQ(X:Cx)(pins:List Vz)(H:Hp)(b:Addr):Prop:=
 H b=none/\b≠X.env.locals/\b∉X.fs/\(b∈X.ex\/X.s₀.heap.objs.size<=b)/\(∀x c,X.env.cells.lookup x=some c->c≠b)/\∀p∈X.pn++pins,p.1≠b
theorem Inv.fpOk{X:Cx}{pins:List Vz}{σ:St}{H H':Hp}{s:Qd}{b:Addr}(I:Inv X pins σ H s)(hb:s.heap.objs.size<=b)(hn:H' b=none):nQ X pins H' b:=by
 refine⟨hn,Nat.ne_of_gt (QA I.lt hb),I.nofs hb,.inr (QO I.sz hb),λx c e z=>?_,λp hp z=>?_⟩
 ·obtain⟨v,q⟩:=I.cell x c e
  exact absurd (QA q.lt (by rw[z];exact hb)) (Zb _)
 ·exact absurd (QA (Qo (I.pin p hp).1) (by rw[z];exact hb)) (Zb _)
structure Turn(P:Qr)(w:Qx)(K:Qc)(tg:Expr)(J:It)(fp:List Addr)(it:Addr)(tn:Nat->Heap->Prop):Prop where
 mem:it∈fp
 obj:∀i h,tn i h->∀b∈fp,∃o,h.get? b=some o/\∀v,o.data≠.cell v
 keep:∀i h h',tn i h->(∀b∈fp,∀o,h.get? b=some o->h'.get? b=some o)->tn i h'
 item:∀(X:Cx),X.prog=P->X.w=w->X.K=K->X.calm=true->∀(i:Nat) (pins:List Vz) (s:Qd) (σ:St) (H:Hp) (E:Qa->Qd->Prop),Inv X pins σ H s->(∀b∈fp,nQ X pins H b)->tn i s.heap->J.go i H->
  Qf (Qj P w) X.A (pyNext (.ref it)) (λr s1=>∃u,r=some u/\
   Qf (Qj P w) X.A (Vr tg (.ref it) u) (λ_ s2=>∃x H',Inv X pins σ H' s2/\bq x u/\J.yld i H x H'/\tn (i+1) s2.heap/\∀b∈fp,H' b=none) E s1) E s
 done:∀(X:Cx),X.prog=P->X.w=w->X.K=K->X.calm=true->∀(i:Nat) (pins:List Vz) (s:Qd) (σ:St) (H:Hp) (E:Qa->Qd->Prop),Inv X pins σ H s->(∀b∈fp,nQ X pins H b)->tn i s.heap->J.stop i H->
  Qf (Qj P w) X.A (pyNext (.ref it)) (λr s1=>r=none/\Inv X pins σ H s1) E s
 self:∀(A:QB) (i:Nat) (s:Qd) (Q:Qa->Qd->Prop) (E:Qa->Qd->Prop),tn i s.heap->Q (.ref it) s->Qf (Qj P w) A (pyIter (.ref it)) Q E s
noncomputable abbrev TI:=St->Hp->(It->Hp->Prop)->Prop
noncomputable def PIE(X:Cx)(pins:List Vz)(σ:St)(tg:Expr)(R:It->Hp->Prop)(itv:Qa)(s2:Qd):Prop:=
 ∃(it:Addr) (fp:List Addr) (tn:Nat->Heap->Prop) (J:It) (H':Hp),itv=.ref it/\Inv X pins σ H' s2/\Turn X.prog X.w X.K tg J fp it tn/\tn 0 s2.heap/\(∀b∈fp,nQ X pins H' b)/\R J H'
noncomputable def PI(X:Cx)(tg iter:Expr)(wi:TI):Prop:=
 ∀(pins:List Vz) (s:Qd) (σ:St) (H:Hp) (R:It->Hp->Prop),Inv X pins σ H s->wi σ H R->
  Qf KF X.A (eval iter X.env) (λv s1=>Qf KF X.A (pyIter v) (PIE X pins σ tg R) X.xe s1) X.xe s
theorem zt{M:Model}{A:QB}{E:Qa->Qd->Prop}{s:Qd}{tg:Expr}{it:Addr}{u:Qa}{o:Obj}{n:String}{vs:Array Qa}{Q:Unit->Qd->Prop}(ho:s.heap.get? it=some o)(hc:o.cls=.type n)(hd:o.data=.fields vs)
  (hn:["enumerate","zip","dict_itemiterator","dict_reverseitemiterator","odict_iterator","itertools.zip_longest","itertools.pairwise"].contains n=false) (hQ:Q () s):Qf M A (Vr tg (.ref it) u) Q E s:=by
 unfold Vr
 cases tg<;>first
  |exact Qh hQ
  |(cases u<;>first
    |exact Qh hQ
    |(refine Qb (wpAny_load ho ?_)
      rw[hc,hd];show Qf M A (if(["enumerate","zip","dict_itemiterator","dict_reverseitemiterator","odict_iterator","itertools.zip_longest","itertools.pairwise"].contains n&&vs[0]?==some (rawInt _))=true then _ else _) Q E s;rw[if_neg (by intro h;rw[hn,Bool.false_and] at h;cases h)]
      exact Qh hQ))
noncomputable def Itl(K:Qc)(a:Addr):It:=
 ⟨λi H=>∃xs x,SqL K H a xs/\xs[i]?=some x,λi H x H'=>H'=H/\∀xs,SqL K H a xs->xs[i]?=some x,λi H=>∃xs,SqL K H a xs/\xs.length<=i⟩
noncomputable def Itt(K:Qc)(a:Addr):It:=
 ⟨λi H=>∃xs x,SqT K H a xs/\xs[i]?=some x,λi H x H'=>H'=H/\∀xs,SqT K H a xs->xs[i]?=some x,λi H=>∃xs,SqT K H a xs/\xs.length<=i⟩
noncomputable def Itr(lo:Int)(n:Nat):It:=⟨λi _=>i<n,λi H x H'=>H'=H/\x=.int (lo+i),λi _=>n<=i⟩
theorem AS{P:Qr}{w:Qx}{K:Qc}{tg:Expr}(a it:Addr):Turn P w K tg (Itl K a) [it] it (λi h=>h.IsListIter it a i) where
 mem:=by simp
 obj:=λi h st b hb=>by
  have e:b=it:=by simpa using hb
  subst e;obtain⟨o,e,c,d⟩:=st;exact⟨o,e,λv z=>by rw[d] at z;cases z⟩
 keep:=λi h h' st k=>st.at λo e=>k it (by simp) o e
 item:=by
  intro X hP hw hK hc i pins s σ H E I hf st hg;subst hP hw hK;obtain⟨xs,x,hq,hx⟩:=hg;obtain⟨its,rv,p,hz⟩:=I.list hq;obtain⟨u,hu,ru⟩:=rv.get hx;obtain⟨f0,f1,f2,f3,f4,f5⟩:=hf it (by simp);refine wpAny_pyNext_list_item st p.isList (x:=u) (by simpa using hu) λh' st' sb=>?_;have I1:Inv X pins σ H { s with heap:=h' }:=I.turned (t':=s.toks) (λb o hb e=>(sb.2 b hb).trans e) f0 f1 f3 f4 f5;obtain⟨o,e,c,d⟩:=id st';exact⟨u,rfl,zt (s:={ s with heap:=h' }) e c d KE ⟨x,H,I1,ru,⟨rfl,λys hy=>by rw[I.list_inj hy hq];exact hx⟩,st',λb hb=>(hf b hb).1⟩⟩
 done:=by
  intro X hP hw hK hc i pins s σ H E I hf st hg;subst hP hw hK;obtain⟨xs,hq,hx⟩:=hg;obtain⟨its,rv,p,hz⟩:=I.list hq;obtain⟨f0,f1,f2,f3,f4,f5⟩:=hf it (by simp);have hl:=rv.length;exact wpAny_pyNext_list_end (I.ok.hd hc) st p.isList (by simp;lia) λh' eb=>⟨rfl,I.turned (t':=s.toks) (λb o hb e=>eb b o hb e) f0 f1 f3 f4 f5⟩
 self:=λ_ _ _ _ _ st h=>wpAny_pyIter_listiter st h
theorem yE{P:Qr}{w:Qx}{K:Qc}{tg:Expr}(a it:Addr):Turn P w K tg (Itt K a) [it] it (λi h=>h.IsTupleIter it a i) where
 mem:=by simp
 obj:=λi h st b hb=>by
  have e:b=it:=by simpa using hb
  subst e;obtain⟨o,e,c,d⟩:=st;exact⟨o,e,λv z=>by rw[d] at z;cases z⟩
 keep:=λi h h' st k=>st.at λo e=>k it (by simp) o e
 item:=by
  intro X hP hw hK hc i pins s σ H E I hf st hg;subst hP hw hK;obtain⟨xs,x,hq,hx⟩:=hg;obtain⟨its,rv,p,hz⟩:=I.tuple hq;obtain⟨u,hu,ru⟩:=rv.get hx;obtain⟨f0,f1,f2,f3,f4,f5⟩:=hf it (by simp);refine wpAny_pyNext_tuple_item st (show s.heap.IsTuple a its.toArray from p) (x:=u) (by simpa using hu) λh' st' sb=>?_;have I1:Inv X pins σ H { s with heap:=h' }:=I.turned (t':=s.toks) (λb o hb e=>(sb.2 b hb).trans e) f0 f1 f3 f4 f5;obtain⟨o,e,c,d⟩:=id st';exact⟨u,rfl,zt (s:={ s with heap:=h' }) e c d KE ⟨x,H,I1,ru,⟨rfl,λys hy=>by rw[I.tuple_inj hy hq];exact hx⟩,st',λb hb=>(hf b hb).1⟩⟩
 done:=by
  intro X hP hw hK hc i pins s σ H E I hf st hg;subst hP hw hK;obtain⟨xs,hq,hx⟩:=hg;obtain⟨its,rv,p,hz⟩:=I.tuple hq;obtain⟨f0,f1,f2,f3,f4,f5⟩:=hf it (by simp);have hl:=rv.length;exact wpAny_pyNext_tuple_end (I.ok.hd hc) st (show s.heap.IsTuple a its.toArray from p) (by simp;lia) λh' eb=>⟨rfl,I.turned (t':=s.toks) (λb o hb e=>eb b o hb e) f0 f1 f3 f4 f5⟩
 self:=λ_ _ _ _ _ st h=>wpAny_pyIter_tupleiter st h
theorem yi{P:Qr}{w:Qx}{K:Qc}{tg:Expr}(it:Addr)(lo:Int)(n:Nat):Turn P w K tg (Itr lo n) [it] it (λi h=>IsRangeIter h it (lo+(i:Nat)*1) ((n:Int)-(i:Nat)) 1) where
 mem:=by simp
 obj:=λi h st b hb=>by
  have e:b=it:=by simpa using hb
  subst e
  exact⟨_,st,λv z=>by
   have z':Data.fields _=Data.cell v:=z
   cases z'⟩
 keep:=λi h h' st k=>k it (by simp) _ st
 item:=by
  intro X hP hw hK hc i pins s σ H E I hf st hg;subst hP hw hK;obtain⟨f0,f1,f2,f3,f4,f5⟩:=hf it (by simp);have W:=Walks.range (prog:=X.prog) (w:=X.w) (I.ok.hd hc) it lo 1 n;refine W.item i s _ _ hg st λv h' tk hv st' kk=>?_;obtain⟨t,rfl⟩:=hv;have I1:Inv X pins σ H { s with heap:=h',toks:=tk }:=I.turned (λb o hb e=>kk b o (by simpa using hb) e) f0 f1 f3 f4 f5;refine⟨_,rfl,zt (s:={ s with heap:=h',toks:=tk }) (n:="range_iterator") st' rfl rfl KE ⟨.int (lo+i),H,I1,⟨t,?_⟩,⟨rfl,rfl⟩,st',λb hb=>(hf b hb).1⟩⟩;rw[Int.mul_one]
 done:=by
  intro X hP hw hK hc i pins s σ H E I hf st hg;subst hP hw hK;obtain⟨f0,f1,f2,f3,f4,f5⟩:=hf it (by simp);exact wpAny_pyNext_range_end (I.ok.hd hc) st (by have:n<=i:=hg;lia) λh' eb=>⟨rfl,I.turned (t':=s.toks) (λb o hb e=>eb b o hb e) f0 f1 f3 f4 f5⟩
 self:=λ_ _ _ _ _ st h=>wpAny_pyIter_rangeiter st h
section
variable{X:Cx}{tg:Expr}
noncomputable def Iz(K:Qc)(tl:TE):TI:=λσ H R=>tl σ H λx H1=>∃a,x=.ref a/\(∃xs,SqL K H1 a xs)/\R (Itl K a) H1
noncomputable def Jt(K:Qc)(tl:TE):TI:=λσ H R=>tl σ H λx H1=>∃a,x=.ref a/\(∃xs,SqT K H1 a xs)/\R (Itt K a) H1
theorem oB{l:Expr}{tl:TE}(hl:PE X l tl):PI X tg l (Iz X.K tl):=by
 intro pins s σ H R I h;refine thn (hl pins s σ H _ I h) λv s1 ⟨x,H1,I1,r1,q1⟩=>?_;obtain⟨a,e,⟨xs,hq⟩,q⟩:=q1;subst e;cases r1;obtain⟨its,rv,p,hz⟩:=I1.list hq;refine wpAny_pyIter_list p.isList ?_;refine⟨s1.heap.objs.size,[s1.heap.objs.size],_,_,H1,rfl,I1.kept (t':=s1.toks) λb o e=>Qe _ e,AS a _,⟨_,Qq _ rfl,rfl,rfl⟩,λb hb=>?_,q⟩;have e:b=s1.heap.objs.size:=by simpa using hb
 subst e;exact I1.fpOk (Qm _) (I1.hok.fresh (Qm _))
theorem GG{l:Expr}{tl:TE}(hl:PE X l tl):PI X tg l (Jt X.K tl):=by
 intro pins s σ H R I h;refine thn (hl pins s σ H _ I h) λv s1 ⟨x,H1,I1,r1,q1⟩=>?_;obtain⟨a,e,⟨xs,hq⟩,q⟩:=q1;subst e;cases r1;obtain⟨its,rv,p,hz⟩:=I1.tuple hq;refine Vu (show s1.heap.IsTuple a its.toArray from p) ?_;refine⟨s1.heap.objs.size,[s1.heap.objs.size],_,_,H1,rfl,I1.kept (t':=s1.toks) λb o e=>Qe _ e,yE a _,⟨_,Qq _ rfl,rfl,rfl⟩,λb hb=>?_,q⟩;have e:b=s1.heap.objs.size:=by simpa using hb
 subst e;exact I1.fpOk (Qm _) (I1.hok.fresh (Qm _))
theorem CC{pins:List Vz}{σ:St}{H:Hp}{s:Qd}{R:It->Hp->Prop}{E:Qa->Qd->Prop}{lo hi:Int}{t u v:Tok}{tk:Nat}(I:Inv X pins σ H s)(h1:-(2 ^ 62)<=lo)(h2:lo<2 ^ 62)(h3:-(2 ^ 62)<=hi)(h4:hi<2 ^ 62)
  (q:R (Itr lo (hi-lo).toNat) H):Qf KF X.A (pyIter (.ref s.heap.objs.size)) (PIE X pins σ tg R) E { s with heap:=s.heap.push { cls:=.type "range",data:=.fields #[.int lo t,.int hi u,.int 1 v] },toks:=tk }:=by
 refine wpAny_pyIter_range (IsRange.new ..) (small_one h1 h2 h3 h4) ?_;have I1:Inv X pins σ H { s with heap:=s.heap.push { cls:=.type "range",data:=.fields #[.int lo t,.int hi u,.int 1 v] },toks:=tk }:=I.kept λb o e=>Qe _ e
 refine⟨(s.heap.push { cls:=.type "range",data:=.fields #[.int lo t,.int hi u,.int 1 v] }).objs.size,[(s.heap.push { cls:=.type "range",data:=.fields #[.int lo t,.int hi u,.int 1 v] }).objs.size],_,_,H,rfl,
  I1.kept (t':=tk) λb o e=>Qe _ e,yi _ lo (hi-lo).toNat,?_,λb hb=>?_,q⟩
 ·have e1:lo+((0:Nat):Int)*1=lo:=by simp
  have e2:(((hi-lo).toNat:Nat):Int)-((0:Nat):Int)=Builtin.Range.rangeSize lo hi 1:=by rw[rangeSize_one];split<;>lia
  show IsRangeIter _ _ (lo+((0:Nat):Int)*1) ((((hi-lo).toNat:Nat):Int)-((0:Nat):Int)) 1;rw[e1,e2];exact Qq _ rfl
 ·have e:b=(s.heap.push { cls:=.type "range",data:=.fields #[.int lo t,.int hi u,.int 1 v] }).objs.size:=by simpa using hb
  subst e;exact I1.fpOk (Qm _) (I1.hok.fresh (Qm _))
noncomputable def Iv(ta:TA):TI:=λσ H R=>ta σ H λvs H1=>∃j:Int,vs=[.int j]/\-(2 ^ 62)<=j/\j<2 ^ 62/\R (Itr 0 j.toNat) H1
theorem tK{a:Expr}{ta:TA}{p pos:Pos}(hg:Gl X "range")(hm:X.mg "range" = none)(ha:PA X [a] ta)(hs:Qg [a] X.env=[(false,eval a X.env)]:=by rfl):PI X tg (.Call (.Name "range" p) [a] [] pos) (Iv ta):=by
 intro pins s σ H R I h;refine Call_ (mX I hg hm boot_range (Km (thn (ha pos pins s σ H _ I h) λus s1 ⟨vs,H1,I1,r1,q1⟩=>?_) hs rfl));obtain⟨j,e,q1,q2,q⟩:=q1;subst e;cases r1 with
 |cons r rr=>
  cases rr;obtain⟨t,rfl⟩:=r;exact call_range_1 (CC I1 KM KM q1 q2 (by simpa using q))
noncomputable def J_(wi:TI)(g:TG)(tb:TS):TS:=λD σ H=>wi σ H λJ H1=>∃W:Nat->Nat->St->Hp->Prop,(∃m,W 0 m σ H1)/\∀i m σ H,W i m σ H->
 (J.stop i H/\D.nx σ H)\/(J.go i H/\∃N:St->Hp->Prop,(∀σ' H',N σ' H'->∃m',m'<m/\W (i+1) m' σ' H')/\∀x H',J.yld i H x H'->g x σ H' λσ2 H2=>tb { D with nx:=N,ct:=N,bk:=D.nx } σ2 H2)
noncomputable def rq(fp:List Addr)(h:Heap):List Vz:=fp.filterMap λb=>(h.get? b).map λo=>(b,o)
theorem j_{fp:List Addr}{h:Heap}{b:Addr}{o:Obj}(hb:b∈fp)(e:h.get? b=some o):(b,o)∈rq fp h:=List.mem_filterMap.mpr ⟨b,hb,by rw[e];rfl⟩
theorem AC{fp:List Addr}{h:Heap}{p:Addr×Obj}(hp:p∈rq fp h):p.1∈fp/\h.get? p.1=some p.2:=by
 obtain⟨b,hb,e⟩:=List.mem_filterMap.mp hp;cases q:h.get? b with
 |none=>rw[q] at e;cases e
 |some o=>
  rw[q] at e;have e':(b,o)=p:=Option.some.inj e;subst e';exact⟨hb,q⟩
theorem Inv.pinned{pins:List Vz}{σ:St}{H:Hp}{s:Qd}{fp:List Addr}(I:Inv X pins σ H s)(hf:∀b∈fp,nQ X pins H b)(ho:∀b∈fp,∃o,s.heap.get? b=some o/\∀v,o.data≠.cell v):Inv X (pins++rq fp s.heap) σ H s:=
 I.pins_of λp hp=>(Q2.mp hp).elim (λz=>I.pin p (Qu _ z)) λz=>by
  obtain⟨hb,e⟩:=AC z;obtain⟨f0,f1,f2,_⟩:=hf p.1 hb;obtain⟨o,e',d⟩:=ho p.1 hb;rw[e] at e';cases e';exact⟨e,f0,f1,f2,d⟩
theorem Inv.unpinned{pins pl:List Vz}{σ:St}{H:Hp}{s:Qd}(I:Inv X (pins++pl) σ H s):Inv X pins σ H s:=I.pins_of λp hp=>I.pin p (Qu _ (Zs _ hp))
theorem rQ{iter:Expr}{body:List Stmt}{wi:TI}{g:TG}{tb:TS}{pos:Pos}(hp:PassesOwn KF X.A X.env X.xe)(hc:X.calm=true)(hi:PI X tg iter wi)(hg:PG X tg g)(hb:PSs X body tb)
  (hs:∀x,ZM iter X.env x=pure x:=by intro _;rfl):PS X (.For tg iter body [] pos) (J_ wi g tb):=by
 intro pins s σ H D I h;refine wpAny_For (thn (hi pins s σ H _ I h) λv s1 h1=>thn h1 λitv s2 h2=>?_) hs;obtain⟨it,fp,tn,J,H2,e,I2,T,st2,f2,W,⟨m0,w0⟩,turn⟩:=h2;subst e;have stat:∀{H':Hp},(∀b∈fp,H' b=none)->∀b∈fp,nQ X pins H' b:=λhn b hb=>⟨hn b hb,(f2 b hb).2⟩;refine codeAny_forLoop_any (λn s'=>∃i σ' H',Inv X pins σ' H' s'/\tn i s'.heap/\(∀b∈fp,H' b=none)/\W i n σ' H') ?_ m0 ⟨0,σ,H2,I2,st2,λb hb=>(f2 b hb).1,w0⟩;rintro n s3 ⟨i,σ3,H3,I3,st3,fr3,w3⟩;rcases turn i n σ3 H3 w3 with⟨stop,qn⟩ | ⟨go,N,hN,step⟩
 ·refine Vs hp (thn (T.done X rfl rfl rfl hc i pins s3 σ3 H3 X.xe I3 (stat fr3) st3 stop) λr s4 ⟨hr,I4⟩=>?_)
  subst hr;exact Ks ⟨σ3,H3,I4,qn⟩
 ·refine Vs hp (thn (T.item X rfl rfl rfl hc i pins s3 σ3 H3 X.xe I3 (stat fr3) st3 go) λr s4 ⟨u,hr,h4⟩=>?_)
  subst hr;refine Vs hp (thn h4 λ_ s5 ⟨x,H5,I5,r5,y5,st5,fr5⟩=>?_);have I5':=I5.pinned (stat fr5) (T.obj _ _ st5);refine Vs hp (thn (hg _ s5 σ3 H5 x u _ I5' r5 (step x H5 y5)) λ_ s6 ⟨σ6,H6,I6,q6⟩=>?_);refine Vs hp (thn (hb _ s6 σ6 H6 _ I6 q6) λf s7 q7=>?_)
  have again:∀{σ7:St} {H7:Hp},Inv X (pins++rq fp s5.heap) σ7 H7 s7->N σ7 H7->∃m,m<n/\∃i σ' H',Inv X pins σ' H' s7/\tn i s7.heap/\(∀b∈fp,H' b=none)/\W i m σ' H':=λ{σ7 H7} I7 n7=>by
   obtain⟨m',hm,w7⟩:=hN σ7 H7 n7;refine⟨m',hm,i+1,σ7,H7,I7.unpinned,T.keep _ _ _ st5 λb hb o e=>(I7.pin (b,o) (Qu _ (Qu _ (j_ hb e)))).1,λb hb=>?_,w7⟩;obtain⟨o,e,d⟩:=T.obj _ _ st5 b hb;exact(I7.pin (b,o) (Qu _ (Qu _ (j_ hb e)))).2.1
  cases f with
  |next=>obtain⟨σ7,H7,I7,n7⟩:=q7;exact again I7 n7
  |cont=>obtain⟨σ7,H7,I7,n7⟩:=q7;exact again I7 n7
  |brk=>obtain⟨σ7,H7,I7,q7⟩:=q7;exact⟨σ7,H7,I7.unpinned,q7⟩
  |ret v=>obtain⟨x7,σ7,H7,I7,r7,q7⟩:=q7;exact⟨x7,σ7,H7,I7.unpinned,r7,q7⟩
end
theorem A9{K:Qc}{a:Addr}{xs:List V}{g:TG}{tb:TS}{D:Ends}{σ:St}{H:Hp}(Pv:Nat->St->Hp->Prop)(h0:Pv 0 σ H)(hl:∀i σ H,i<=xs.length->Pv i σ H->SqL K H a xs)
  (hs:∀i x σ H,xs[i]?=some x->Pv i σ H->g x σ H λσ2 H2=>tb { D with nx:=Pv (i+1),ct:=Pv (i+1),bk:=D.nx } σ2 H2) (hd:∀σ H,Pv xs.length σ H->D.nx σ H) :
  ∃W:Nat->Nat->St->Hp->Prop,(∃m,W 0 m σ H)/\∀i m σ H,W i m σ H->
   ((Itl K a).stop i H/\D.nx σ H)\/((Itl K a).go i H/\∃N:St->Hp->Prop,(∀σ' H',N σ' H'->∃m',m'<m/\W (i+1) m' σ' H')/\∀x H',(Itl K a).yld i H x H'->g x σ H' λσ2 H2=>tb { D with nx:=N,ct:=N,bk:=D.nx } σ2 H2):=by
 refine⟨λi m σ H=>m=xs.length-i/\i<=xs.length/\Pv i σ H,⟨xs.length,by simp,QV _,h0⟩,?_⟩;rintro i m σ H ⟨rfl,hi,p⟩;have q:=hl i σ H hi p
 by_cases hlt:i<xs.length
 ·refine .inr ⟨⟨xs,xs[i],q,by simp[hlt]⟩,Pv (i+1),λσ' H' p'=>⟨xs.length-(i+1),by lia,rfl,hlt,p'⟩,λx H' y=>?_⟩
  obtain⟨e,y⟩:=y;subst e;exact hs i x σ _ (y xs q) p
 ·have e:i=xs.length:=by lia
  subst e;exact .inl ⟨⟨xs,q,Qm _⟩,hd σ H p⟩
theorem Aw{lo:Int}{n:Nat}{g:TG}{tb:TS}{D:Ends}{σ:St}{H:Hp}(Pv:Nat->St->Hp->Prop)(h0:Pv 0 σ H)
  (hs:∀i σ H,i<n->Pv i σ H->g (.int (lo+i)) σ H λσ2 H2=>tb { D with nx:=Pv (i+1),ct:=Pv (i+1),bk:=D.nx } σ2 H2) (hd:∀σ H,Pv n σ H->D.nx σ H) :
  ∃W:Nat->Nat->St->Hp->Prop,(∃m,W 0 m σ H)/\∀i m σ H,W i m σ H->
   ((Itr lo n).stop i H/\D.nx σ H)\/((Itr lo n).go i H/\∃N:St->Hp->Prop,(∀σ' H',N σ' H'->∃m',m'<m/\W (i+1) m' σ' H')/\∀x H',(Itr lo n).yld i H x H'->g x σ H' λσ2 H2=>tb { D with nx:=N,ct:=N,bk:=D.nx } σ2 H2):=by
 refine⟨λi m σ H=>m=n-i/\i<=n/\Pv i σ H,⟨n,by simp,QV _,h0⟩,?_⟩;rintro i m σ H ⟨rfl,hi,p⟩
 by_cases hlt:i<n
 ·refine .inr ⟨hlt,Pv (i+1),λσ' H' p'=>⟨n-(i+1),by lia,rfl,hlt,p'⟩,λx H' y=>?_⟩
  obtain⟨e,y⟩:=y;subst e y;exact hs i σ _ hlt p
 ·have e:i=n:=by lia
  subst e;exact .inl ⟨Qm _,hd σ H p⟩
noncomputable abbrev R2:=V->V->Hp->VK->Prop
noncomputable def OpR(X:Cx)(f:Qa->Qa->Sem Qa)(r:R2):Prop:=
 ∀(pins:List Vz) (s:Qd) (σ:St) (H:Hp) (x y:V) (v u:Qa) (Q:VK),Inv X pins σ H s->bq x v->bq y u->r x y H Q->
  Qf KF X.A (f v u) (EP X pins σ Q) X.xe s
noncomputable def UnR(X:Cx)(f:Qa->Sem Qa)(r:V->Hp->VK->Prop):Prop:=
 ∀(pins:List Vz) (s:Qd) (σ:St) (H:Hp) (x:V) (v:Qa) (Q:VK),Inv X pins σ H s->bq x v->r x H Q->
  Qf KF X.A (f v) (EP X pins σ Q) X.xe s
noncomputable def iW(X:Cx)(f:Qa)(r:List V->Hp->VK->Prop):Prop:=
 ∀(pins:List Vz) (s:Qd) (σ:St) (H:Hp) (xs:List V) (us:List Qa) (Q:VK),Inv X pins σ H s->bu xs us->r xs H Q->
  Qf KF X.A (call f us) (EP X pins σ Q) X.xe s
noncomputable def Kc(X:Cx)(r:V->Hp->(Bool->Hp->Prop)->Prop):Prop:=
 ∀(pins:List Vz) (s:Qd) (σ:St) (H:Hp) (x:V) (v:Qa) (Q:Bool->Hp->Prop),Inv X pins σ H s->bq x v->r x H Q->
  Qf KF X.A (truthy v) (TP X pins σ Q) X.xe s
noncomputable def tOp(r:R2)(ta tb:TE):TE:=λσ H Q=>ta σ H λx H1=>tb σ H1 λy H2=>r x y H2 Q
noncomputable def tUn(r:V->Hp->VK->Prop)(ta:TE):TE:=λσ H Q=>ta σ H λx H1=>r x H1 Q
noncomputable def rI(C:Int->Int->Prop)(g:Int->Int->V):R2:=λx y H Q=>∃i j,x=.int i/\y=.int j/\C i j/\Q (g i j) H
noncomputable def rI0(g:Int->Int->V):R2:=λx y H Q=>∃i j,x=.int i/\y=.int j/\Q (g i j) H
noncomputable def rU(g:Int->V):V->Hp->VK->Prop:=λx H Q=>∃i,x=.int i/\Q (g i) H
section
variable{X:Cx}{a b c:Expr}{ta tb tc:TE}{pos:Pos}
theorem F_(ha:PE X a ta)(hb:PE X b tb){pins:List Vz}{s:Qd}{σ:St}{H:Hp}{R:V->V->Hp->Prop}(I:Inv X pins σ H s)
  (h:ta σ H λx H1=>tb σ H1 λy H2=>R x y H2) {Q:Qa->Qd->Prop} {f:Qa->Qa->Sem Qa}
  (hf:∀v u s2 x y H2,Inv X pins σ H2 s2->bq x v->bq y u->R x y H2->Qf KF X.A (f v u) Q X.xe s2) :
  Qf KF X.A (eval a X.env) (λv s₁=>Qf KF X.A (eval b X.env) (λu s₂=>Qf KF X.A (f v u) Q X.xe s₂) X.xe s₁) X.xe s:=by
 refine thn (ha pins s σ H _ I h) λv s1 ⟨x,H1,I1,r1,q1⟩=>?_;refine thn (hb pins s1 σ H1 _ I1 q1) λu s2 ⟨y,H2,I2,r2,q2⟩=>?_;exact hf v u s2 x y H2 I2 r1 r2 q2
theorem js{op:Operator}{r:R2}(ho:OpR X (Zh op) r)(ha:PE X a ta)(hb:PE X b tb):PE X (.BinOp a op b pos) (tOp r ta tb):=by
 intro pins s σ H Q I h;exact wpAny_BinOp (F_ ha hb I h λv u s2 x y H2 I2 rx ry q=>ho pins s2 σ H2 x y v u Q I2 rx ry q)
theorem Jl{op:UnaryOp}{r:V->Hp->VK->Prop}(ho:UnR X (unaryOp op) r)(ha:PE X a ta):PE X (.UnaryOp op a pos) (tUn r ta):=by
 intro pins s σ H Q I h;exact UnaryOp_ (thn (ha pins s σ H _ I h) λv s1 ⟨x,H1,I1,r1,q1⟩=>ho pins s1 σ H1 x v Q I1 r1 q1)
theorem opI{f:Qa->Qa->Sem Qa}{C:Int->Int->Prop}{g:Int->Int->Int}
  (rule:∀(i j:Int) (t u:Tok) (s:Qd) (Q:Qa->Qd->Prop) (E:Qa->Qd->Prop),C i j->Q (.int (g i j) s.toks) { s with toks:=s.toks+1 }->Qf KF X.A (f (.int i t) (.int j u)) Q E s) :
  OpR X f (rI C λi j=>.int (g i j)):=by
 intro pins s σ H x y v u Q I rx ry h;obtain⟨i,j,rfl,rfl,hc,q⟩:=h;obtain⟨t,rfl⟩:=rx;obtain⟨t',rfl⟩:=ry;exact rule i j t t' s _ _ hc ⟨.int (g i j),H,I.tok _,⟨_,rfl⟩,q⟩
theorem ID{f:Qa->Qa->Sem Qa}{g:Int->Int->Int}
  (rule:∀(i j:Int) (t u:Tok) (s:Qd) (Q:Qa->Qd->Prop) (E:Qa->Qd->Prop),Q (.int (g i j) s.toks) { s with toks:=s.toks+1 }->Qf KF X.A (f (.int i t) (.int j u)) Q E s) :
  OpR X f (rI0 λi j=>.int (g i j)):=by
 intro pins s σ H x y v u Q I rx ry h;obtain⟨i,j,rfl,rfl,q⟩:=h;obtain⟨t,rfl⟩:=rx;obtain⟨t',rfl⟩:=ry;exact rule i j t t' s _ _ ⟨.int (g i j),H,I.tok _,⟨_,rfl⟩,q⟩
theorem DC{f:Qa->Qa->Sem Qa}{g:Int->Int->Bool}
  (rule:∀(i j:Int) (t u:Tok) (s:Qd) (Q:Qa->Qd->Prop) (E:Qa->Qd->Prop),Q (.bool (g i j)) s->Qf KF X.A (f (.int i t) (.int j u)) Q E s) :
  OpR X f (rI0 λi j=>.bl (g i j)):=by
 intro pins s σ H x y v u Q I rx ry h;obtain⟨i,j,rfl,rfl,q⟩:=h;obtain⟨t,rfl⟩:=rx;obtain⟨t',rfl⟩:=ry;exact rule i j t t' s _ _ ⟨.bl (g i j),H,I,rfl,q⟩
noncomputable def z_(i j:Int):Prop:=0<j/\j<1073741824
noncomputable def AV(i j:Int):Prop:=0<=j/\j<=1000000/\i.natAbs<2 ^ 64
noncomputable def sv(i j:Int):Prop:=(-(2 ^ 64)<i/\i<2 ^ 64)\/(-(2 ^ 64)<j/\j<2 ^ 64)
theorem sv.ok{i j:Int}(h:sv i j):IntMulOk i j:=by
 rcases h with⟨h1,h2⟩ | ⟨h1,h2⟩
 ·exact .of_left (intBits_le_64 h1 h2)
 ·exact .of_right (intBits_le_64 h1 h2)
theorem A_:OpR X (Zh .Add) (rI0 λi j=>.int (i+j)):=ID λ_ _ _ _ _ _ _ q=>add_int q
theorem F1:OpR X (Zh .Sub) (rI0 λi j=>.int (i-j)):=ID λ_ _ _ _ _ _ _ q=>sub_int q
theorem HU:OpR X (Zh .Mult) (rI sv λi j=>.int (i*j)):=opI λ_ _ _ _ _ _ _ hc q=>mul_int q hc.ok
theorem DJ:OpR X (Zh .FloorDiv) (rI z_ λi j=>.int (i/j)):=opI λi j _ _ _ _ _ hc q=>by
 have h1:(0:Int)<j:=hc.1;have h2:j<1073741824:=hc.2;exact floordiv_int KM (by rw[Int.fdiv_eq_ediv_of_nonneg i KM];exact q) (.inl (PyProof.noPylong_small KM))
theorem GM:OpR X (Zh .Mod) (rI (λ_ j=>0<j) λi j=>.int (i%j)):=opI λi j _ _ _ _ _ hc q=>by
 have h1:(0:Int)<j:=hc;exact mod_int' KM (by rw[Int.fmod_eq_emod_of_nonneg i KM];exact q)
theorem GH:OpR X (Zh .Pow) (rI AV λi j=>.int (i ^ j.toNat)):=opI λ_ _ _ _ _ _ _ hc q=>pow_int_small hc.1 hc.2.1 hc.2.2 q
theorem unI{f:Qa->Sem Qa}{g:Int->Int}
  (rule:∀(i:Int) (t:Tok) (s:Qd) (Q:Qa->Qd->Prop) (E:Qa->Qd->Prop),Q (.int (g i) s.toks) { s with toks:=s.toks+1 }->Qf KF X.A (f (.int i t)) Q E s) :
  UnR X f (rU λi=>.int (g i)):=by
 intro pins s σ H x v Q I rx h;obtain⟨i,rfl,q⟩:=h;obtain⟨t,rfl⟩:=rx;exact rule i t s _ _ ⟨.int (g i),H,I.tok _,⟨_,rfl⟩,q⟩
theorem Ho:UnR X (unaryOp .USub) (rU λi=>.int (-i)):=unI λ_ _ _ _ _ q=>neg_int q
end
noncomputable def Hr:V->V->Bool
 |.non,.non=>true | .non,.int _=>true | .int _,.non=>true | .non,.bl _=>true | .bl _,.non=>true | .non,.str _=>true | .str _,.non=>true
 |.int _,.int _=>true | .bl _,.bl _=>true | .str _,.str _=>true | .byt _,.byt _=>true
 |.int _,.str _=>true | .str _,.int _=>true | .bl _,.str _=>true | .str _,.bl _=>true
 |_,_=>false
noncomputable def rEq:R2:=λx y H Q=>Hr x y=true/\Q (.bl (decide (x=y))) H
noncomputable def rNe:R2:=λx y H Q=>Hr x y=true/\Q (.bl (!decide (x=y))) H
theorem zr{i j:Int}:decide (V.int i=V.int j)=(i==j):=by
 rw[ZX];simp
theorem CI{i j:Bool}:decide (V.bl i=V.bl j)=(i==j):=by
 rw[ZX];simp
theorem zR{i j:Str}:decide (V.str i=V.str j)=(i==j):=by
 rw[ZX];simp
theorem zu{i j:Array UInt8}:decide (V.byt i=V.byt j)=(i.toList==j.toList):=by
 rw[ZX];cases i;cases j;simp
section
variable{X:Cx}{a b c:Expr}{ta tb tc:TE}{pos:Pos}
theorem bQ{pins:List Vz}{σ:St}{H:Hp}{s:Qd}{Q:VK}{k k':Bool}(I:Inv X pins σ H s)(q:Q (.bl k) H)(e:k=k'):EP X pins σ Q (.bool k') s:=by
 subst e;exact⟨.bl k,H,I,rfl,q⟩
theorem mM:OpR X (QF .Eq) rEq:=by
 intro pins s σ H x y v u Q I rx ry h;obtain⟨hs,q⟩:=h;cases x with
 |non=>
  cases rx;cases y with
  |non=>cases ry;exact PySem.EqNone.eq_none_none (bQ I q (by simp))
  |bl j=>cases ry;exact PySem.EqNone.eq_none_bool (bQ I q (by simp))
  |int j=>obtain⟨t',rfl⟩:=ry;exact PySem.EqNone.eq_none_int (bQ I q (by simp))
  |str j=>obtain⟨t',rfl⟩:=ry;exact PySem.EqNone.eq_none_str (bQ I q (by simp))
  |_=>exact absurd (show false=true from hs) Qp
 |bl i=>
  cases rx;cases y with
  |non=>cases ry;exact PySem.EqNone.eq_bool_none (bQ I q (by simp))
  |bl j=>cases ry;exact eq_bool (bQ I q CI)
  |str j=>obtain⟨t',rfl⟩:=ry;exact PySem.EqMixed.eq_bool_str (bQ I q (by simp))
  |_=>exact absurd (show false=true from hs) Qp
 |int i=>
  obtain⟨t,rfl⟩:=rx;cases y with
  |non=>cases ry;exact PySem.EqNone.eq_int_none (bQ I q (by simp))
  |int j=>obtain⟨t',rfl⟩:=ry;exact eq_int (bQ I q zr)
  |str j=>obtain⟨t',rfl⟩:=ry;exact PySem.EqMixed.eq_int_str (bQ I q (by simp))
  |_=>exact absurd (show false=true from hs) Qp
 |str i=>
  obtain⟨t,rfl⟩:=rx;cases y with
  |non=>cases ry;exact PySem.EqNone.eq_str_none (bQ I q (by simp))
  |bl j=>cases ry;exact PySem.EqMixed.eq_str_bool (bQ I q (by simp))
  |int j=>obtain⟨t',rfl⟩:=ry;exact PySem.EqMixed.eq_str_int (bQ I q (by simp))
  |str j=>obtain⟨t',rfl⟩:=ry;exact eq_str (bQ I q zR)
  |_=>exact absurd (show false=true from hs) Qp
 |byt i=>
  obtain⟨t,rfl⟩:=rx;cases y with
  |byt j=>obtain⟨t',rfl⟩:=ry;exact PySem.W.eq_bytes (bQ I q zu)
  |_=>exact absurd (show false=true from hs) Qp
 |_=>cases y<;>exact absurd (show false=true from hs) Qp
theorem IL:OpR X (QF .NotEq) rNe:=by
 intro pins s σ H x y v u Q I rx ry h;obtain⟨hs,q⟩:=h;cases x with
 |non=>
  cases rx;cases y with
  |non=>cases ry;exact PySem.EqNone.ne_none_none (bQ I q (by simp))
  |bl j=>cases ry;exact PySem.EqNone.ne_none_bool (bQ I q (by simp))
  |int j=>obtain⟨t',rfl⟩:=ry;exact PySem.EqNone.ne_none_int (bQ I q (by simp))
  |str j=>obtain⟨t',rfl⟩:=ry;exact PySem.EqNone.ne_none_str (bQ I q (by simp))
  |_=>exact absurd (show false=true from hs) Qp
 |bl i=>
  cases rx;cases y with
  |non=>cases ry;exact PySem.EqNone.ne_bool_none (bQ I q (by simp))
  |bl j=>cases ry;exact ne_bool (bQ I q (congrArg not CI))
  |str j=>obtain⟨t',rfl⟩:=ry;exact PySem.EqMixed.ne_bool_str (bQ I q (by simp))
  |_=>exact absurd (show false=true from hs) Qp
 |int i=>
  obtain⟨t,rfl⟩:=rx;cases y with
  |non=>cases ry;exact PySem.EqNone.ne_int_none (bQ I q (by simp))
  |int j=>obtain⟨t',rfl⟩:=ry;exact ne_int (bQ I q (congrArg not zr))
  |str j=>obtain⟨t',rfl⟩:=ry;exact PySem.EqMixed.ne_int_str (bQ I q (by simp))
  |_=>exact absurd (show false=true from hs) Qp
 |str i=>
  obtain⟨t,rfl⟩:=rx;cases y with
  |non=>cases ry;exact PySem.EqNone.ne_str_none (bQ I q (by simp))
  |bl j=>cases ry;exact PySem.EqMixed.ne_str_bool (bQ I q (by simp))
  |int j=>obtain⟨t',rfl⟩:=ry;exact PySem.EqMixed.ne_str_int (bQ I q (by simp))
  |str j=>obtain⟨t',rfl⟩:=ry;exact ne_str (bQ I q (congrArg not zR))
  |_=>exact absurd (show false=true from hs) Qp
 |byt i=>
  obtain⟨t,rfl⟩:=rx;cases y with
  |byt j=>obtain⟨t',rfl⟩:=ry;exact PySem.W.ne_bytes (bQ I q (congrArg not zu))
  |_=>exact absurd (show false=true from hs) Qp
 |_=>cases y<;>exact absurd (show false=true from hs) Qp
theorem Jc:OpR X (QF .Lt) (rI0 λi j=>.bl (decide (i<j))):=DC λ_ _ _ _ _ _ _ q=>lt_int q
theorem Jm:OpR X (QF .LtE) (rI0 λi j=>.bl (decide (i<=j))):=DC λ_ _ _ _ _ _ _ q=>le_int q
theorem C8:OpR X (QF .Gt) (rI0 λi j=>.bl (decide (j<i))):=DC λ_ _ _ _ _ _ _ q=>gt_int q
theorem Jf:OpR X (QF .GtE) (rI0 λi j=>.bl (decide (j<=i))):=DC λ_ _ _ _ _ _ _ q=>ge_int q
theorem AE:OpR X (QF .In) (λx y H Q=>∃i j,x=.str i/\y=.str j/\Q (.bl (!(ZJ j i 0 j.length 1).isEmpty)) H):=by
 intro pins s σ H x y v u Q I rx ry h;obtain⟨i,j,rfl,rfl,q⟩:=h;obtain⟨t,rfl⟩:=rx;obtain⟨t',rfl⟩:=ry;exact in_str (bQ I q rfl)
theorem GW:OpR X (QF .Is) (λx y H Q=>y=.non/\Q (.bl (decide (x=.non))) H):=by
 intro pins s σ H x y v u Q I rx ry h;obtain⟨rfl,q⟩:=h;cases ry;refine is_none_gen (bQ I q ?_)
 cases x<;>first
  |(cases rx;rfl)
  |(obtain⟨t,rfl⟩:=rx;rfl)
theorem ED:OpR X (QF .IsNot) (λx y H Q=>y=.non/\Q (.bl (!decide (x=.non))) H):=by
 intro pins s σ H x y v u Q I rx ry h;obtain⟨rfl,q⟩:=h;cases ry;refine isnot_none_gen (bQ I q ?_)
 cases x<;>first
  |(cases rx;rfl)
  |(obtain⟨t,rfl⟩:=rx;rfl)
theorem aP(b:Expr){op:CmpOp}(h:op≠.In:=by decide)(h2:op≠.NotIn:=by decide):Z6 op b=false:=by
 have e1:(op==CmpOp.In)=false:=by cases op<;>first | rfl | exact absurd rfl h
 have e2:(op==CmpOp.NotIn)=false:=by cases op<;>first | rfl | exact absurd rfl h2
 cases b<;>simp[Z6,e1,e2]
theorem D5{op:CmpOp}{r:R2}(ho:OpR X (QF op) r)(ha:PE X a ta)(hb:PE X b tb)(hm:Z6 op b=false):PE X (.Compare a [op] [b] pos) (tOp r ta tb):=by
 intro pins s σ H Q I h;exact wpAny_Compare1 (F_ ha hb I h λv u s2 x y H2 I2 rx ry q=>ho pins s2 σ H2 x y v u Q I2 rx ry q) hm
noncomputable def Fg(t:TE):TT:=λσ H Q=>t σ H λx H'=>∃k,x=.bl k/\Q k H'
theorem fG{op:CmpOp}{r:R2}(ho:OpR X (QF op) r)(ha:PE X a ta)(hb:PE X b tb)(hm:Z6 op b=false):PT X (.Compare a [op] [b] pos) (Fg (tOp r ta tb)):=by
 intro pins s σ H Q I h
 refine wpAny_isTrue_Compare1 (thn (ha pins s σ H _ I h) λv s1 ⟨x,H1,I1,r1,q1⟩=>thn (hb pins s1 σ H1 _ I1 q1) λu s2 ⟨y,H2,I2,r2,q2⟩=>
  thn (ho pins s2 σ H2 x y v u _ I2 r1 r2 q2) λc s3 ⟨z,H3,I3,r3,k,e,q3⟩=>?_) hm
 subst e;cases r3;exact Q8 ⟨H3,I3,q3⟩
noncomputable def BR(r r':R2)(ta tb tc:TE):TE:=λσ H Q=>ta σ H λx H1=>tb σ H1 λy H2=>r x y H2 λz H3=>∃k,z=.bl k/\
 (if k=true then tc σ H3 λw' H4=>r' y w' H4 Q else Q (.bl false) H3)
theorem CW{op op':CmpOp}{r r':R2}(ho:OpR X (QF op) r)(ho':OpR X (QF op') r')(ha:PE X a ta)(hb:PE X b tb)(hc:PE X c tc)
  (hm:lastMarks [op,op'] [b,c]=false:=by with_unfolding_all rfl):PE X (.Compare a [op,op'] [b,c] pos) (BR r r' ta tb tc):=by
 intro pins s σ H Q I h
 refine Compare_chain (thn (ha pins s σ H _ I h) λv s1 ⟨x,H1,I1,r1,q1⟩=>chain_link (thn (hb pins s1 σ H1 _ I1 q1) λu s2 ⟨y,H2,I2,r2,q2⟩=>
  thn (ho pins s2 σ H2 x y v u _ I2 r1 r2 q2) λd s3 ⟨z,H3,I3,r3,k,e,q3⟩=>?_)) hm
 subst e;cases r3;refine Q8 ?_;cases k with
 |false=>exact ite_ff ⟨.bl false,H3,I3,rfl,q3⟩
 |true=>exact ite_tt (chain_last (thn (hc pins s3 σ H3 _ I3 q3) λw' s4 ⟨z',H4,I4,r4,q4⟩=>ho' pins s4 σ H4 y z' u w' Q I4 r2 r4 q4))
theorem Cs{op op':CmpOp}{r r':R2}(ho:OpR X (QF op) r)(ho':OpR X (QF op') r')(ha:PE X a ta)(hb:PE X b tb)(hc:PE X c tc)
  (hm:lastMarks [op,op'] [b,c]=false:=by with_unfolding_all rfl):PT X (.Compare a [op,op'] [b,c] pos) (Fg (BR r r' ta tb tc)):=by
 intro pins s σ H Q I h
 refine isTrue_chain (thn (ha pins s σ H _ I h) λv s1 ⟨x,H1,I1,r1,q1⟩=>test_link (thn (hb pins s1 σ H1 _ I1 q1) λu s2 ⟨y,H2,I2,r2,q2⟩=>
  thn (ho pins s2 σ H2 x y v u _ I2 r1 r2 q2) λd s3 ⟨z,H3,I3,r3,k,e,q3⟩=>?_)) hm
 subst e;cases r3;refine Q8 ?_;cases k with
 |false=>
  obtain⟨k',e',q'⟩:=q3;cases e';exact ite_ff ⟨H3,I3,q'⟩
 |true=>
  refine ite_tt (test_last (thn (hc pins s3 σ H3 _ I3 q3) λw' s4 ⟨z',H4,I4,r4,q4⟩=>thn (ho' pins s4 σ H4 y z' u w' _ I4 r2 r4 q4) λd' s5 ⟨z2,H5,I5,r5,k2,e2,q5⟩=>?_));subst e2;cases r5;exact Q8 ⟨H5,I5,q5⟩
noncomputable def IW(K:Qc)(x:V)(H:Hp)(k:Bool):Prop:=
 match x with
 |.non=>k=false
 |.bl b=>k=b
 |.int i=>k=(i != 0)
 |.str y=>y.length<=Qk/\k=((y.length:Int) != 0)
 |.byt y=>y.size<=Qk/\k=((y.size:Int) != 0)
 |.ref p=>(∃xs,SqL K H p xs/\k = !xs.isEmpty)\/(∃xs,SqT K H p xs/\k = !xs.isEmpty)\/∃kvs,H p=some (.dK kvs)/\k = !kvs.isEmpty
 |_=>False
theorem yt{κ:Type}{kvs:List (κ×V)}{vs:List (κ×Qa)}(r:KV kvs vs):(!vs.isEmpty) = !kvs.isEmpty:=by
 cases r<;>rfl
theorem so{xs:List V}{its:List Qa}(r:bu xs its):(!its.toArray.isEmpty) = !xs.isEmpty:=by
 cases r<;>simp
theorem ni:(Qk:Nat)<2 ^ 63:=by rw[sizeLine_eq];decide
theorem Hz:Kc X (λx H Q=>∃k,IW X.K x H k/\Q k H):=by
 intro pins s σ H x v Q I rx h;obtain⟨k,e,q⟩:=h;have hl:=ni;have hs:Qk=16777216:=sizeLine_eq;cases x with
 |non=>
  cases rx;have e':k=false:=e;subst e';exact truthy_none ⟨H,I,q⟩
 |bl b=>
  cases rx;have e':k=b:=e;subst e';exact Q8 ⟨H,I,q⟩
 |int i=>
  obtain⟨t,rfl⟩:=rx;have e':k=(i != 0):=e;subst e';exact PySem.P.truthy_int ⟨H,I,q⟩
 |str y=>
  obtain⟨t,rfl⟩:=rx;obtain⟨hy,e'⟩:y.length<=Qk/\k=((y.length:Int) != 0):=e;subst e';exact PySem.P.truthy_str KM ⟨H,I.tok _,q⟩
 |byt y=>
  obtain⟨t,rfl⟩:=rx;obtain⟨hy,e'⟩:y.size<=Qk/\k=((y.size:Int) != 0):=e;subst e';exact PySem.W.truthy_bytes KM ⟨H,I.tok _,q⟩
 |ref p=>
  cases rx;have e':(∃xs,SqL X.K H p xs/\k = !xs.isEmpty)\/(∃xs,SqT X.K H p xs/\k = !xs.isEmpty)\/∃kvs,H p=some (.dK kvs)/\k = !kvs.isEmpty:=e;rcases e' with⟨xs,hx,e'⟩ | ⟨xs,hx,e'⟩ | ⟨kvs,hx,e'⟩
  ·subst e'
   obtain⟨its,r,pl,hz⟩:=I.list hx;have hlen:=r.length;exact wpAny_truthy_list pl.isList (by simp only[Qy];lia) ⟨H,I.tok _,by rw[so r];exact q⟩
  ·subst e'
   obtain⟨its,r,pl,hz⟩:=I.tuple hx;have hlen:=r.length;exact truthy_tuple pl (by simp only[Qy];lia) ⟨H,I.tok _,by rw[so r];exact q⟩
  ·subst e'
   obtain⟨hz,hS,vs,r,m⟩:kvs.length<=Qk/\(p==ZV)=false/\∃vs,KV kvs vs/\s.heap.DictOf (cK X.prog X.w) p vs:=I.hok p _ hx;have hlen:kvs.length=vs.length:=Paired.length r;exact wpAny_truthy_dict hS m KM ⟨H,I.tok _,by rw[yt r];exact q⟩
 |_=>exact(show False from e).elim
theorem wo(ha:PE X a ta)(he:∀whole,isTrue a X.env whole=(do let v<-whole;KO a.pos;ZO [v] (truthy v))) :
  PT X a (λσ H Q=>ta σ H λx H'=>∃k,IW X.K x H' k/\Q k H'):=by
 intro pins s σ H Q I h;exact isTrue_plain (thn (ha pins s σ H _ I h) λv s1 ⟨x,H1,I1,r1,q1⟩=>Hz pins s1 σ H1 x v Q I1 r1 q1) (he _)
theorem pV{x:V}{us:List Qa}(r:bu [x] us):∃u,us=[u]/\bq x u:=by
 cases r with
 |cons r1 r2=>cases r2;exact⟨_,rfl,r1⟩
theorem Fj{x y:V}{us:List Qa}(r:bu [x,y] us):∃u w',us=[u,w']/\bq x u/\bq y w':=by
 cases r with
 |cons r1 r2=>
  cases r2 with
  |cons r3 r4=>cases r4;exact⟨_,_,rfl,r1,r3⟩
theorem A4(hc:X.calm=true):iW X (.builtin "max") (λxs H Q=>∃i j,xs=[.int i,.int j]/\Q (.int (if j>i then j else i)) H):=by
 intro pins s σ H xs us Q I r h;obtain⟨i,j,rfl,q⟩:=h;obtain⟨u,w',rfl,⟨t,rfl⟩,⟨t',rfl⟩⟩:=Fj r;refine max_two_ints (I.ok.hd hc) λh' tk k=>⟨_,H,I.kept k,?_,q⟩
 by_cases hj:j>i
 ·rw[if_pos hj,if_pos hj];exact⟨_,rfl⟩
 ·rw[if_neg hj,if_neg hj];exact⟨_,rfl⟩
theorem AM(hc:X.calm=true):iW X (.builtin "min") (λxs H Q=>∃i j,xs=[.int i,.int j]/\Q (.int (if j<i then j else i)) H):=by
 intro pins s σ H xs us Q I r h;obtain⟨i,j,rfl,q⟩:=h;obtain⟨u,w',rfl,⟨t,rfl⟩,⟨t',rfl⟩⟩:=Fj r;refine min_two_ints (I.ok.hd hc) λh' tk k=>⟨_,H,I.kept k,?_,q⟩
 by_cases hj:j<i
 ·rw[if_pos hj,if_pos hj];exact⟨_,rfl⟩
 ·rw[if_neg hj,if_neg hj];exact⟨_,rfl⟩
theorem An:iW X (.type "int") (λxs H Q=>(∃i,xs=[.int i]/\Q (.int i) H)\/∃k,xs=[.bl k]/\Q (.int (if k then 1 else 0)) H):=by
 intro pins s σ H xs us Q I r h;rcases h with⟨i,rfl,q⟩ | ⟨k,rfl,q⟩
 ·obtain⟨u,rfl,t,rfl⟩:=pV r
  exact call_int_int ⟨.int i,H,I,⟨_,rfl⟩,q⟩
 ·obtain⟨u,rfl,r1⟩:=pV r
  cases r1;exact call_int_bool ⟨.int (if k then 1 else 0),H,I.tok _,⟨_,rfl⟩,q⟩
end
structure ObjM(h:Heap)(x dx C:Addr)(mA:Str->Option Qa):Prop where
 obj:h.get? x=some (Zz C dx)
 ns:h.Ns1 dx mA
 ne:dx≠x
theorem oU{h:Heap}{dx:Addr}{mA:Str->Option Qa}(n:h.Ns1 dx mA):∃od,h.get? dx=some od/\∀name,PySem.W.lookIn name od=some (mA name):=by
 obtain⟨o,es,ep,ho,hd,hk,_,hm⟩:=n;refine⟨o,ho,λname=>?_⟩;have e:=hm name;unfold nsFind findBy at e;rw[<-Array.find?_toList] at e;unfold PySem.W.lookIn;rw[hd];dsimp only;split
 ·rename_i y q
  rw[q] at e;exact congrArg some e
 ·rename_i q
  rw[q] at e
  have a:es.toList.any (·.refKey)=false:=by
   rw[List.any_eq_false];intro y hy;obtain⟨z,t,hkey⟩:=hk y (Array.mem_toList_iff.mp hy);simp[DictEntry.refKey,hkey]
  have a':¬ es.toList.any (·.refKey)=true:=by rw[a];exact Qp
  rw[if_neg a'];exact congrArg some e
theorem ObjM.look{h:Heap}{x dx C:Addr}{mA:Str->Option Qa}(I:ObjM h x dx C mA):∃od,Vb h x (Zz C dx) C (some od)/\∀name,PySem.W.lookIn name od=some (mA name):=
 let⟨od,ho,hl⟩:=oU I.ns
 ⟨od,⟨I.obj,rfl,rfl,ho⟩,hl⟩
section
variable{prog:Qr}{w:Qx}{A:QB}{E:Qa->Qd->Prop}{s:Qd}{K:Qc}{x dx C f:Addr}{mA:Str->Option Qa}{name:Str}{v:Qa}
theorem EX{expr:Bool}{Q:Qa->Qd->Prop}(X:K.In s.heap)(I:ObjM s.heap x dx C mA)(hg:KR K C name=true)(hh:Zu K C=true)
  (ha:Qi K (.ref C) name=some none) (hv:mA name=some v) (hv':PySem.W.handedIn v=true) (h:Q v { s with toks:=s.toks+1 }) :
  Qf (Qj prog w) A (getAttr (.ref x) name expr) Q E s:=by
 obtain⟨od,J,hl⟩:=I.look;exact PySem.W.get_value X J (PySem.W.plainGet_of hg).1 (PySem.W.findObj_own hh ha rfl (by rw[hl,hv])) hv' h
theorem BM{pl:Sem Bool}{Q:Qa×List Qa->Qd->Prop}(X:K.In s.heap)(I:ObjM s.heap x dx C mA)(hg:KR K C name=true)
  (hf:Qi K (.ref C) name=some (some (.ref f))) (ht:PySem.W.isFn K (.ref f)=true) (hv:mA name=none) (h:Q (.ref f,[.ref x]) s) :
  Qf (Qj prog w) A (K5 (.ref x) name pl) Q E s:=by
 obtain⟨od,J,hl⟩:=I.look;exact PySem.W.method_fn X J (PySem.W.plainGet_of hg).1 (PySem.W.plainGet_of hg).2 hf (beq_iff_eq.mp ht) (by show(PySem.W.lookIn name od).map (·.isSome)=some false;rw[hl,hv];rfl) h
theorem Dv{ns:List Str}{Q:Unit->Qd->Prop}(X:K.In s.heap)(I:ObjM s.heap x dx C mA)
  (hs:Qi K (.ref C) "__setattr__" = some (some (.builtin "object.__setattr__"))) (hp:PySem.W.plainOver K C=true) (ht:PySem.W.takerIn K C name=some none) (hh:Zu K C=true)
  (hw:Va mA ns) (hsz:ns.length<=Qk)
  (h:∀h',ObjM h' x dx C (λy=>if y=name then some v else mA y)->ZP dx s.heap h'->Q () { s with heap:=h',toks:=s.toks+2 }) :
  Qf (Qj prog w) A (setAttr (.ref x) name v) Q E s:=by
 obtain⟨od,J,hl⟩:=I.look;refine PySem.W.set_plain X J hs (PySem.W.osa_open (s:={ s with toks:=s.toks+1 }) (r:=none) X J hp ht λb=>?_);obtain⟨cd,hc,hd'⟩:=PySem.W.any_some hh;have hx:s.heap.get? x=some ⟨.ref C,some dx,.plain,#[]⟩:=I.obj;refine Qb (Qh (Qb (Qb (wpAny_loadPart hx (Qb (Kn (s:={ s with toks:=s.toks+1 }) (PySem.W.looks_clsIn X hc) ?_))))));rw[hd'];refine Qh (a:=some dx) (Qb (Qh (Qb ?_)));refine wpAny_nsSet1 (s:={ s with toks:=s.toks+1 }) I.ns λh' hn2 hs2=>?_;obtain⟨oD,esD,epD,hoD,hdD,hcD⟩:=hn2.count (PySem.Within.cons name v hw);refine Qb (wpAny_lookBehind hoD (by rw[hdD];exact pastItsLine_dict (QO hcD (by rw[QM];lia))) ?_);exact Qh (h _ ⟨(hs2.2 _ (Ne.symm I.ne)).trans I.obj,hn2,I.ne⟩ hs2)
theorem Ci{R:Result->Qd->Prop}{vs:List Qa}{kw:List (Str×Qa)}(X:K.In s.heap)(hm:PySem.W.makesIn K C=true)
  (hi:Qi K (.ref C) "__init__" = some (some (.ref f))) (hf:Z8 K (.ref f)=some (.type "function"))
  (h:Ku (Qj prog w) (A.under (.builtin "type.__call__" ⟨.ref C::vs,kw⟩)) (.call (.ref f) ⟨.ref (s.heap.objs.size+1)::vs,kw⟩) (PySem.W.InitBack (s.heap.objs.size+1) R)
   { s with heap:=(s.heap.push Zv).push (Zz C s.heap.objs.size) }) :
  Ku (Qj prog w) A (.call (.ref C) ⟨vs,kw⟩) R s:=by
 obtain⟨hh,g,d,t,os⟩:=s;exact PySem.W.make_core (PySem.W.makes_of X hm) (KH X hi) (λself=>PySem.W.bind_fn X self hf) (.inl rfl) h
end
noncomputable def dN(f:Str)(v:V):List (Str×V)->List (Str×V)
 |[]=>[(f,v)]
 |(g,x)::r=>if g=f then(g,v)::r else(g,x)::dN f v r
theorem pW(f g:Str)(v:V):∀fs:List (Str×V),(dN f v fs).lookup g=if g=f then some v else fs.lookup g
 |[]=>by
  show Q4 g [(f,v)]=_
  by_cases h:g=f
  ·have hb:(g==f)=true:=beq_iff_eq.mpr h
   simp only[Q4,hb,if_pos h]
  ·have hb:(g==f)=false:=beq_eq_false_iff_ne.mpr h
   simp only[Q4,hb,if_neg h]
 |(k,x)::r=>by
  have ih:=pW f g v r;rw[show dN f v ((k,x)::r)=(if k=f then(k,v)::r else(k,x)::dN f v r) from rfl]
  by_cases hk:k=f
  ·rw[if_pos hk]
   by_cases h:g=k
   ·have hb:(g==k)=true:=beq_iff_eq.mpr h
    simp only[Q4,hb,if_pos (h.trans hk)]
   ·have hb:(g==k)=false:=beq_eq_false_iff_ne.mpr h
    simp only[Q4,hb,if_neg (λe:g=f=>h (e.trans hk.symm))]
  ·rw[if_neg hk]
   by_cases h:g=k
   ·have hb:(g==k)=true:=beq_iff_eq.mpr h
    simp only[Q4,hb,if_neg (λe:g=f=>hk (h.symm.trans e))]
   ·have hb:(g==k)=false:=beq_eq_false_iff_ne.mpr h
    simp only[Q4,hb];exact ih
theorem pI(f:Str)(v:V):∀fs:List (Str×V),f∈(dN f v fs).map (·.1)/\∀g,g∈fs.map (·.1)->g∈(dN f v fs).map (·.1)
 |[]=>⟨by simp[dN],λg h=>by simp at h⟩
 |(k,x)::r=>by
  obtain⟨i1,i2⟩:=pI f v r;rw[show dN f v ((k,x)::r)=(if k=f then(k,v)::r else(k,x)::dN f v r) from rfl]
  by_cases hk:k=f
  ·rw[if_pos hk]
   subst hk;exact⟨by simp,λg h=>by simpa using h⟩
  ·rw[if_neg hk]
   refine⟨?_,λg h=>?_⟩
   ·rw[Q3]
    exact Qv _ i1
   ·rw[Q3] at h ⊢
    rcases Ql.mp h with e | e
    ·exact Ql.mpr (.inl e)
    ·exact Qv _ (i2 g e)
theorem pN(f:Str)(v:V):∀fs:List (Str×V),(dN f v fs).length<=fs.length+1
 |[]=>by simp[dN]
 |(k,x)::r=>by
  have ih:=pN f v r;rw[show dN f v ((k,x)::r)=(if k=f then(k,v)::r else(k,x)::dN f v r) from rfl]
  by_cases hk:k=f
  ·rw[if_pos hk,QM,QM];lia
  ·rw[if_neg hk,QM,QM];lia
theorem jR.some_of{v:V}{o:Option Qa}(r:jR (some v) o):∃u,o=some u/\bq v u:=by
 cases o with
 |none=>exact(show False from r).elim
 |some u=>exact⟨u,rfl,r⟩
theorem jR.none_of{o:Option Qa}(r:jR none o):o=none:=by
 cases o with
 |none=>rfl
 |some u=>exact(show False from r).elim
theorem tN{v:V}{u:Qa}(r:bq v u):PySem.W.handedIn u=true:=by
 cases v with
 |non=>cases(show u=Q0 from r);rfl
 |bl b=>cases(show u=Ve b from r);rfl
 |int i=>obtain⟨t,e⟩:=(show ∃t,u=Value.int i t from r);cases e;rfl
 |str x=>obtain⟨t,e⟩:=(show ∃t,u=Value.str x t from r);cases e;rfl
 |byt b=>obtain⟨t,e⟩:=(show ∃t,u=Value.bytes b t from r);cases e;rfl
 |flt b=>obtain⟨t,e⟩:=(show ∃t,u=Value.float b t from r);cases e;rfl
 |ref a=>cases(show u=Qn a from r);rfl
 |ty n=>cases(show u=Value.type n from r);rfl
section
variable{P:Qr}{w:Qx}{H H':Hp}{h h':Heap}{a C dx:Addr}{fs fs':List (Str×V)}
theorem uZ(hok:HOk P w H h)(e:H a=some (.ins C dx fs)):∃mA,ObjM h a dx C mA/\(∀f,jR (fs.lookup f) (mA f))/\Va mA (fs.map (·.1))/\fs.length<=1000/\H dx=some (.own a):=by
 obtain⟨d,z,ne,ob,mA,n,r,q⟩:=(show cW P w H h a (.ins C dx fs) from hok a _ e);exact⟨mA,⟨ob,n,ne⟩,r,q,z,d⟩
end
structure Cls(K:Qc)(C:Addr):Prop where
 pg:KR K C Str.empty=true
 hd:Zu K C=true
 po:PySem.W.plainOver K C=true
 sa:Qi K (.ref C) "__setattr__" = some (some (.builtin "object.__setattr__"))
theorem Cls.get{K:Qc}{C:Addr}(c:Cls K C)(f:Str):KR K C f=true:=c.pg
noncomputable def i8(K:Qc)(C:Addr)(f:Str):Prop:=Qi K (.ref C) f=some none
theorem i8.taker{K:Qc}{C:Addr}{f:Str}(n:i8 K C f):PySem.W.takerIn K C f=some none:=by
 unfold PySem.W.takerIn;rw[show Qi K (.ref C) f=some none from n];rfl
structure Meth(K:Qc)(C:Addr)(m:Str)(f:Addr):Prop where
 at_:Qi K (.ref C) m=some (some (.ref f))
 fn:PySem.W.isFn K (.ref f)=true
 kp:QT K (.ref f)=true
section
variable{X:Cx}{pins:List Vz}{σ:St}{H:Hp}{s:Qd}{a C dx:Addr}{fs:List (Str×V)}{f:Str}{v:V}{A:QB}{E:Qa->Qd->Prop}
theorem rp{b:Bool}{Q:Qa->Qd->Prop}(I:Inv X pins σ H s)(e:H a=some (.ins C dx fs))(c:Cls X.K C)(n:i8 X.K C f)(l:fs.lookup f=some v)
  (h:∀u s',Inv X pins σ H s'->bq v u->Q u s'):Qf KF A (getAttr (.ref a) f b) Q E s:=by
 obtain⟨mA,O,r,_,_,_⟩:=uZ I.hok e;obtain⟨u,hu,ru⟩:=jR.some_of (v:=v) (o:=mA f) (by rw[<-l];exact r f);exact EX I.kIn O (c.get f) c.hd n hu (tN ru) (h u _ (I.tok _) ru)
theorem nB{m:Str}{g:Addr}{pl:Sem Bool}{Q:Qa×List Qa->Qd->Prop}(I:Inv X pins σ H s)(e:H a=some (.ins C dx fs))(c:Cls X.K C)(k:Meth X.K C m g)(l:fs.lookup m=none)
  (h:Q (.ref g,[.ref a]) s):Qf KF A (K5 (.ref a) m pl) Q E s:=by
 obtain⟨mA,O,r,_,_,_⟩:=uZ I.hok e;have hn:mA m=none:=jR.none_of (by rw[<-l];exact r m);exact BM I.kIn O (c.get m) k.at_ k.fn hn h
theorem qU{y:V}{u:Qa}{Q:Unit->Qd->Prop}(I:Inv X pins σ H s)(e:H a=some (.ins C dx fs))(c:Cls X.K C)(n:i8 X.K C f)(hl:fs.length<1000)(ry:bq y u)
  (h:∀s',Inv X pins σ (upd H a (.ins C dx (dN f y fs))) s'->Q () s'):Qf KF A (setAttr (.ref a) f u) Q E s:=by
 obtain⟨mA,O,r,wi,_,ho⟩:=uZ I.hok e;have hz:(fs.map (·.1)).length<=Qk:=by rw[Qt,sizeLine_eq];lia
 refine Dv I.kIn O c.sa c.po n.taker c.hd wi hz λh' O' sb=>h _ ?_;have hd:∃o,h'.get? dx=some o:=let⟨o,_,_,e',_⟩:=O'.ns;⟨o,e'⟩;refine I.write (x:=a) (e:=dx) (by rw[e];exact ZY) (.inr ho) (λb q hb z=>(sb.2 b hb).trans z) hd ?_;refine⟨by rw[az O.ne];exact ho,?_,O.ne,O'.obj,_,O'.ns,λg=>?_,λg hg=>?_⟩
 ·have:=pN f y fs;lia
 ·show jR ((dN f y fs).lookup g) (if g=f then some u else mA g)
  rw[pW]
  by_cases q:g=f
  ·rw[if_pos q,if_pos q];exact ry
  ·rw[if_neg q,if_neg q];exact r g
 ·by_cases q:g=f
  ·rw[q];exact(pI f y fs).1
  ·refine(pI f y fs).2 g (wi g λz=>hg ?_)
   show(if g=f then some u else mA g)=none;rw[if_neg q];exact z
theorem Inv.made(I:Inv X pins σ H s):Inv X pins σ (upd (upd H s.heap.objs.size (.own (s.heap.objs.size+1))) (s.heap.objs.size+1) (.ins C s.heap.objs.size []))
  { s with heap:=(s.heap.push Zv).push (Zz C s.heap.objs.size) }:=by
 have e1:(s.heap.push Zv).get? s.heap.objs.size=some Zv:=Qq s.heap rfl
 have e2:((s.heap.push Zv).push (Zz C s.heap.objs.size)).get? (s.heap.objs.size+1)=some (Zz C s.heap.objs.size):=by
  have:=Qq (s.heap.push Zv) (o:=Zz C s.heap.objs.size) rfl;rwa [Za] at this
 have e3:(s.heap.push Zv).Ns s.heap.objs.size (λ_=>none):=⟨Zv,#[],_,e1,rfl,(λe he=>absurd he (by simp)),λ_=>rfl⟩;have I1:=I.laid (a:=s.heap.objs.size) (o:=.own (s.heap.objs.size+1)) (h':=s.heap.push Zv) (t':=s.toks) (λb u q=>Qe _ q) (Qm _) ⟨_,e1⟩;refine I1.laid (a:=s.heap.objs.size+1) (o:=.ins C s.heap.objs.size []) (t':=s.toks) (λb u q=>Qe _ q) (Nat.le_of_eq (Za _ _)) ?_;have ne:s.heap.objs.size≠s.heap.objs.size+1:=QC (Nat.lt_succ_self _);refine⟨by rw[az ne,upd_same],QV _,ne,e2,λ_=>none,(Heap.Ns1.of_empty e3).at λo q=>Qe _ q,λ_=>ZY,λy hy=>absurd rfl hy⟩
theorem zI{prog:Qr}{w:Qx}{env:Env}{e:Expr}{f:Str}{pos:Pos}{s:Qd}{Q:Qa->Qd->Prop}(hb:Kx e f env (eval e env)=eval e env)
  (h:Qf (Qj prog w) A (eval e env) (λo s₁=>Qf (Qj prog w) A (getAttr o f true) Q E s₁) E s):Qf (Qj prog w) A (eval (.Attribute e f pos) env) Q E s:=
 Attribute_any_ h (by rw[arm_eval_Attribute,hb])
end
noncomputable def J1(K:Qc)(ta:TE)(f:Str):TE:=λσ H Q=>ta σ H λx H1=>∃a C dx fs v,x=.ref a/\H1 a=some (.ins C dx fs)/\Cls K C/\i8 K C f/\fs.lookup f=some v/\Q v H1
noncomputable def JU(K:Qc)(ta tv:TE)(f:Str):TS:=λD σ H=>tv σ H λy H1=>ta σ H1 λx H2=>∃a C dx fs,x=.ref a/\H2 a=some (.ins C dx fs)/\Cls K C/\i8 K C f/\fs.length<1000/\
 D.nx σ (upd H2 a (.ins C dx (dN f y fs)))
noncomputable def HZ(X:Cx)(op:Operator)(rd:V->V->Hp->VK->Prop):Prop:=
 ∀(pins:List Vz) (s:Qd) (σ:St) (H:Hp) (x y:V) (u v:Qa) (Q:VK),Inv X pins σ H s->bq x u->bq y v->rd x y H Q->Qf KF X.A (inplaceOp op u v) (EP X pins σ Q) X.xe s
noncomputable def D6(K:Qc)(ta tv:TE)(rd:V->V->Hp->VK->Prop)(f:Str):TS:=λD σ H=>ta σ H λx H1=>∃a C dx fs v,x=.ref a/\H1 a=some (.ins C dx fs)/\Cls K C/\i8 K C f/\fs.lookup f=some v/\
 tv σ H1 λy H2=>rd v y H2 λz H3=>∃dx' fs',H3 a=some (.ins C dx' fs')/\fs'.length<1000/\D.nx σ (upd H3 a (.ins C dx' (dN f z fs')))
section
variable{X:Cx}{o e value:Expr}{f:Str}{pos pos' tpos:Pos}{ta tv:TE}
theorem kL(he:PE X e ta)(hb:Kx e f X.env (eval e X.env)=eval e X.env):PE X (.Attribute e f pos) (J1 X.K ta f):=by
 intro pins s σ H Q I h;refine zI hb (thn (he pins s σ H _ I h) λu s1 ⟨x,H1,I1,rx,a,C,dx,fs,v,ex,ea,c,n,l,q⟩=>?_);subst ex;obtain rfl:u=Qn a:=rx;exact rp I1 ea c n l λu' s2 I2 ru=>⟨v,H1,I2,ru,q⟩
theorem fV(ha:PE X o ta)(hv:PE X value tv)(hs:ZD value (some (.Attribute o f pos')) pos.line X.env=pure false):PS X (.Assign [.Attribute o f pos'] value pos) (JU X.K ta tv f):=by
 intro pins s σ H D I h;refine plainObj_wpAny_Assign_Attribute (thn (hv pins s σ H _ I h) λu s1 ⟨y,H1,I1,ry,q⟩=>thn (ha pins s1 σ H1 _ I1 q) λov s2 ⟨x,H2,I2,rx,a,C,dx,fs,ex,ea,c,n,l,q2⟩=>?_) hs;subst ex;obtain rfl:ov=Qn a:=rx;exact qU I2 ea c n l ry λs3 I3=>⟨σ,_,I3,q2⟩
theorem Ab{op:Operator}{rd:V->V->Hp->VK->Prop}(ha:PE X o ta)(hv:PE X value tv)(hop:HZ X op rd):PS X (.AugAssign (.Attribute o f tpos) op value pos) (D6 X.K ta tv rd f):=by
 intro pins s σ H D I h;refine wpAny_AugAssign_AttributeAny (thn (ha pins s σ H _ I h) λov s1 ⟨x,H1,I1,rx,a,C,dx,fs,v,ex,ea,c,n,l,q⟩=>?_);subst ex;obtain rfl:ov=Qn a:=rx;refine rp I1 ea c n l λu s2 I2 ru=>thn (hv pins s2 σ H1 _ I2 q) λw3 s3 ⟨y,H2,I3,ry,q3⟩=>thn (hop pins s3 σ H2 v y u w3 _ I3 ru ry q3) λw4 s4 ⟨z,H3,I4,rz,dx',fs',ea',l',q4⟩=>?_;exact qU I4 ea' c n l' rz λs5 I5=>⟨σ,_,I5,q4⟩
noncomputable def JT:V->V->Hp->VK->Prop:=λx y H Q=>∃i j,x=.int i/\y=.int j/\Q (.int (i+j)) H
theorem GJ:HZ X .Add JT:=by
 rintro pins s σ H x y u v Q I rx ry ⟨i,j,rfl,rfl,q⟩;obtain⟨t,rfl⟩:=(show ∃t,u=Value.int i t from rx);obtain⟨t',rfl⟩:=(show ∃t',v=Value.int j t' from ry);exact PyProof.Rows.iadd_int ⟨.int (i+j),H,I.tok _,⟨_,rfl⟩,q⟩
theorem Ft{pl:Sem Bool}{m:Str}{apos:Pos}{args:List Expr}{pins:List Vz}{s:Qd}{σ:St}{H:Hp}{Q:Qa->Qd->Prop}{te:TE}(he:PE X e te)(I:Inv X pins σ H s)
  (h:te σ H λx H1=>∃a C dx fs g,x=.ref a/\H1 a=some (.ins C dx fs)/\Cls X.K C/\Meth X.K C m g/\fs.lookup m=none/\
   ∀s1,Inv X pins σ H1 s1->Qf KF X.A (callWith pos (.ref g) [.ref a] (QP pos (Qg args X.env)) (ZN pos (Zg [] X.env))) Q X.xe s1)
  (ht:eval (.Call (.Attribute e m apos) args [] pos) X.env=(do
   let ov<-eval e X.env
   KO apos.atName
   let(f,first)<-ZO [ov] (K5 ov m pl)
   callWith pos f first (QP pos (Qg args X.env)) (ZN pos (Zg [] X.env)))) :
  Qf KF X.A (eval (.Call (.Attribute e m apos) args [] pos) X.env) Q X.xe s:=by
 refine PySem.W.methodCall_KW (pl:=pl) (thn (he pins s σ H _ I h) λu s1 ⟨x,H1,I1,rx,a,C,dx,fs,g,ex,ea,c,k,l,q⟩=>?_) ht;subst ex;obtain rfl:u=Qn a:=rx;exact nB I1 ea c k l (q s1 I1)
end
structure Room(k:Nat)(A:QB):Prop where
 hd:A.handled=none
 dp:A.depth+3*k+5<recursionLimit
 un:A.units+16*k+200<cLine
theorem Room.mono{j k:Nat}{A:QB}(r:Room k A)(h:j<=k):Room j A:=⟨r.hd,by have:=r.dp;lia,by have:=r.un;lia⟩
theorem Room.deeper{k:Nat}{A:QB}(r:Room (k+1) A)(env:Env):Room k (A.deeper env):=
 ⟨r.hd,by have:=r.dp;show A.depth+1+3*k+5<_;lia,by have:=r.un;show A.units+3+16*k+200<_;lia⟩
theorem ye{A:QB}{C:Addr}{us:List Qa}{kw:List (Str×Qa)}:(A.under (.builtin "type.__call__" ⟨.ref C::us,kw⟩)).depth=A.depth+1:=by
 first | rfl | simp[Around.under,Code.weight,Code.isCreation,Code.isGuard,Code.isCaller,Code.frames,Code.isFrame,guardIds]
theorem xx{A:QB}{C:Addr}{us:List Qa}{kw:List (Str×Qa)}:(A.under (.builtin "type.__call__" ⟨.ref C::us,kw⟩)).units=A.units+1:=by
 first | rfl | simp[Around.under,Code.cUnits,Code.frames,Code.isFrame]
theorem Room.make{k:Nat}{A:QB}(r:Room (k+1) A)(C:Addr)(us:List Qa)(kw:List (Str×Qa)):Room k (A.under (.builtin "type.__call__" ⟨.ref C::us,kw⟩)):=
 ⟨r.hd,by have:=r.dp;rw[ye];lia,by have:=r.un;rw[xx];lia⟩
theorem Room.depth{k:Nat}{A:QB}(r:Room k A):A.depth<recursionLimit:=by have:=r.dp;lia
theorem Room.units{k:Nat}{A:QB}(r:Room k A):A.units+64<cLine:=by have:=r.un;lia
noncomputable def ya:TA:=λ_ H Q=>Q [] H
noncomputable def pM(ta:TE)(tr:TA):TA:=λσ H Q=>ta σ H λx H1=>tr σ H1 λxs H2=>Q (x::xs) H2
section
variable{X:Cx}{e:Expr}{es:List Expr}{te:TE}{t:TA}{pos:Pos}
theorem aR:PA X [] ya:=λ_ _ _ _ H Q I h=>Calls.spliced_nil ⟨[],H,I,.nil,h⟩
theorem aC(ha:PE X e te)(hr:PA X es t)(hs:Qg (e::es) X.env=(false,eval e X.env)::Qg es X.env:=by rfl):PA X (e::es) (pM te t):=by
 intro pos pins s σ H Q I h;rw[hs];show Qf _ _ (spliced ((false,eval e X.env)::QP pos (Qg es X.env))) _ _ s;refine Calls.spliced_cons (thn (ha pins s σ H _ I h) λu s1 ⟨x,H1,I1,r1,q1⟩=>?_);exact thn (hr pos pins s1 σ H1 _ I1 q1) λus s2 ⟨xs,H2,I2,r2,q2⟩=>⟨x::xs,H2,I2,.cons r1 r2,q2⟩
noncomputable def JD(t:TA):TE:=λσ H Q=>t σ H λxs H1=>xs.length<=Qk/\∀p,H1 p=none->Q (.ref p) (upd H1 p (.tup xs))
noncomputable def JA(t:TA):TE:=λσ H Q=>t σ H λxs H1=>xs.length<=Qk/\∀p,H1 p=none->Q (.ref p) (upd H1 p (.lst xs))
theorem mT{x1}(h:PA X es t):PE X (.Tuple es x1 pos) (JD t):=by
 intro pins s σ H Q I hq;refine wpAny_Tuple_spliced (thn (h pos pins s σ H _ I hq) λus s1 ⟨xs,H1,I1,r,z,q⟩=>⟨by rw[<-r.length];exact z,?_⟩);have hf:H1 s1.heap.objs.size=none:=I1.hok.fresh (Qm _);refine⟨.ref s1.heap.objs.size,upd H1 s1.heap.objs.size (.tup xs),I1.laid (t':=s1.toks) (λb u e=>Qe _ e) (Qm _) ?_,rfl,q _ hf⟩;exact⟨z,us,r,⟨_,Qq _ rfl,rfl,_,rfl⟩⟩
theorem dM(h:PA X es t):PE X (.List es pos) (JA t):=by
 intro pins s σ H Q I hq;refine wpAny_List_spliced (thn (h pos pins s σ H _ I hq) λus s1 ⟨xs,H1,I1,r,z,q⟩=>⟨by rw[<-r.length];exact z,?_⟩);have hf:H1 s1.heap.objs.size=none:=I1.hok.fresh (Qm _);refine⟨.ref s1.heap.objs.size,upd H1 s1.heap.objs.size (.lst xs),I1.laid (t':=s1.toks) (λb u e=>Qe _ e) (Qm _) ?_,rfl,q _ hf⟩;exact⟨z,us,0,r,Qq _ rfl⟩
end
noncomputable abbrev Sp:=List V->Hp->VK->XK->Prop
noncomputable abbrev CXT:=List Env->Hp->Qd->XK->Qa->Qd->Prop
structure Env0(P:Qr)(w:Qx)(K:Qc)(mg:Str->Option Qa)(base:Heap)(A:QB)(outer:List Env)(s:Qd)(H:Hp):Prop where
 frames:A.frames=some outer
 mod:Mod K mg base
 bs:∀b o,base.get? b=some o->s.heap.get? b=some o/\H b=none
 bsz:base.objs.size<=s.heap.objs.size
 funs:s.heap.FunFrames base outer
 frf:∀b∈frs outer,H b=none
 hok:HOk P w H s.heap
 bare:AllBare s.gens
noncomputable def CE(outer:List Env)(P:Qr)(w:Qx)(H:Hp)(s:Qd)(Q:VK)(u:Qa)(s':Qd):Prop:=
 ∃v H',s'.os=s.os/\AllBare s'.gens/\Un (frs outer) [] H H' s.heap s'.heap/\HOk P w H' s'.heap/\bq v u/\Q v H'
noncomputable def CR(CX:CXT)(outer:List Env)(P:Qr)(w:Qx)(H:Hp)(s:Qd)(Q:VK)(E:XK)(r:Result)(s':Qd):Prop:=
 match r with
 |.ok (.ret u)=>CE outer P w H s Q u s'
 |.ok _=>False
 |.error e=>CX outer H s E e s'
structure FnOk(P:Qr)(w:Qx)(K:Qc)(mg:Str->Option Qa)(base:Heap)(CX:CXT)(k:Nat)(f:Addr)(fd:QY)(ps:List Str)(sp:Sp):Prop where
 len:∀vs H Q E,sp vs H Q E->vs.length=ps.length
 run:∀(A:QB) (outer:List Env) (s:Qd) (H:Hp) (args:Args) (us:List Qa) (vs:List V) (Q:VK) (E:XK),Room k A->Env0 P w K mg base A outer s H->BindsTo s fd args (ps.zip us)->bu vs us->sp vs H Q E->
  Ku (Qj P w) A (.call (.ref f) args) (CR CX outer P w H s Q E) s
theorem FnOk.mono{P:Qr}{w:Qx}{K:Qc}{mg:Str->Option Qa}{base:Heap}{CX:CXT}{j k:Nat}{f:Addr}{fd:QY}{ps:List Str}{sp:Sp}(F:FnOk P w K mg base CX j f fd ps sp)(h:j<=k) :
  FnOk P w K mg base CX k f fd ps sp:=⟨F.len,λA outer s H args us vs Q E hr=>F.run A outer s H args us vs Q E (hr.mono h)⟩
theorem Env0.make{P:Qr}{w:Qx}{K:Qc}{mg:Str->Option Qa}{base:Heap}{A:QB}{outer:List Env}{s:Qd}{H:Hp}(e:Env0 P w K mg base A outer s H)(C:Addr)(us:List Qa)(kw:List (Str×Qa)) :
  Env0 P w K mg base (A.under (.builtin "type.__call__" ⟨.ref C::us,kw⟩)) outer s H:=⟨by first | exact e.frames | (simpa[Around.under,Code.envs,Code.isFrame,pushEnvs] using e.frames),e.mod,e.bs,e.bsz,e.funs,e.frf,e.hok,e.bare⟩
section
variable{X:Cx}{pins:List Vz}{σ:St}{H:Hp}{s s':Qd}
theorem Inv.env0(I:Inv X pins σ H s):Env0 X.prog X.w X.K X.mg X.base X.A X.stack s H:=
 ⟨I.ok.frames,I.ok.mod,I.bs,QO I.ok.bsz I.sz,I.stack,I.stkFree,I.hok,I.bare⟩
theorem Inv.after{Q:VK}{u:Qa}(I:Inv X pins σ H s)(h:CE X.stack X.prog X.w H s Q u s'):EP X pins σ Q u s':=by
 obtain⟨v,H',os,bare,un,hok,r,q⟩:=h;obtain⟨hh,g,d,t,os'⟩:=s';obtain rfl:os'=s.os:=os;exact⟨v,H',I.call (h':=hh) (g':=g) (d':=d) (t':=t) (ch:=[]) un hok bare (λb z=>absurd z (by simp)),r,q⟩
end
noncomputable def Fp(sp:Sp)(dvs:List V)(E:XK)(t:TA):TE:=λσ H Q=>t σ H λvs H1=>sp (vs++dvs) H1 Q E
noncomputable def Fb(C:Addr)(m:Str)(sp:Sp)(dvs:List V)(E:XK)(ta:TE)(t:TA):TE:=λσ H Q=>ta σ H λx H1=>∃a dx fs,x=.ref a/\H1 a=some (.ins C dx fs)/\fs.lookup m=none/\
 t σ H1 λvs H2=>sp (x::(vs++dvs)) H2 Q E
noncomputable def IR(C:Addr)(sp:Sp)(dvs:List V)(E:XK)(t:TA):TE:=λσ H Q=>t σ H λvs H1=>∀x dx,H1 x=none->H1 dx=none->dx≠x->
 sp (.ref x::(vs++dvs)) (upd (upd H1 dx (.own x)) x (.ins C dx [])) (λv H2=>v=.non/\Q (.ref x) H2) E
noncomputable def gj(K:Qc)(fd:QY)(ps:List Str)(ds:List Qa):Prop:=
 ∀(s:Qd) (us:List Qa),K.In s.heap->(us++ds).length=ps.length->BindsTo s fd ⟨us,[]⟩ (ps.zip (us++ds))
theorem gj.all{K:Qc}{fd:QY}{ps:List Str}(h:∀us:List Qa,us.length=ps.length->bindArgs fd ⟨us,[]⟩=pure (ps.zip us)):gj K fd ps []:=λs us _ hl=>by
 rw[Q6] at hl ⊢;exact .of_eq (h us hl)
noncomputable def kb(CX:CXT)(X:Cx)(E:XK):Prop:=∀(pins:List Vz) (σ:St) (H:Hp) (s:Qd) (e:Qa) (s':Qd),Inv X pins σ H s->CX X.stack H s E e s'->X.xe e s'
section
variable{X:Cx}{CX:CXT}{k:Nat}{f C:Addr}{fd:QY}{ps:List Str}{sp:Sp}{dvs:List V}{ds:List Qa}{E:XK}{x m:Str}{p pos apos:Pos}{e o:Expr}{es:List Expr}{ta:TE}{t:TA}
theorem yD{pins:List Vz}{σ:St}{H:Hp}{s:Qd}{Q:VK}{us:List Qa}{vs:List V}(F:FnOk X.prog X.w X.K X.mg X.base CX k f fd ps sp)(hr:Room k X.A)(hb:gj X.K fd ps ds)(hd:bu dvs ds)(hx:kb CX X E)
  (I:Inv X pins σ H s) (r:bu vs us) (h:sp (vs++dvs) H Q E):Qf KF X.A (call (.ref f) us) (EP X pins σ Q) X.xe s:=by
 have r2:bu (vs++dvs) (us++ds):=r.append hd;have hl:(us++ds).length=ps.length:=by rw[<-r2.length];exact F.len _ _ _ _ h
 refine Kk (KS (F.run X.A X.stack s H ⟨us,[]⟩ (us++ds) (vs++dvs) Q E hr I.env0 (hb s us I.kIn hl) r2 h) λr s' hq=>?_);cases r with
 |error e=>exact hx pins σ H s e s' I hq
 |ok fl=>
  cases fl with
  |ret u=>exact I.after hq
  |next=>exact QR hq
  |brk=>exact QR hq
  |cont=>exact QR hq
theorem eP(F:FnOk X.prog X.w X.K X.mg X.base CX k f fd ps sp)(hr:Room k X.A)(hg:Gl X x)(hm:X.mg x=some (.ref f))(hk:QT X.K (.ref f)=true)(hb:gj X.K fd ps ds)(hd:bu dvs ds)(hx:kb CX X E)
  (ha:PA X (e::es) t) (hdb:(x==("__debug__" : Str))=false:=by decide) (he:Qg (e::es) X.env=(false,eval e X.env)::Qg es X.env:=by rfl) (hpl:(QP pos (Qg es X.env)).any (·.1)=false:=by rfl) :
  PE X (.Call (.Name x p) (e::es) [] pos) (Fp sp dvs E t):=by
 intro pins s σ H Q I h;refine Zr (hU I hg hm ?_ hdb);refine Ko (h₀:=X.base) I.ok.mod.kin hk (thn (ha pos pins s σ H _ I h) λus s1 ⟨vs,H1,I1,r,q⟩=>⟨I1.kIn,?_⟩) he hpl;exact yD F hr hb hd hx I1 r q
theorem hX{pl:Sem Bool}(he:PE X o ta)(c:Cls X.K C)(hm:Meth X.K C m f)(F:FnOk X.prog X.w X.K X.mg X.base CX k f fd ps sp)(hr:Room k X.A)(hb:gj X.K fd ps ds)(hd:bu dvs ds)(hx:kb CX X E)(ha:PA X (e::es) t)
  (hst:Qg (e::es) X.env=(false,eval e X.env)::Qg es X.env:=by rfl) (hpl:(QP pos (Qg es X.env)).any (·.1)=false:=by rfl)
  (ht:eval (.Call (.Attribute o m apos) (e::es) [] pos) X.env=(do
   let ov<-eval o X.env
   KO apos.atName
   let(f,first)<-ZO [ov] (K5 ov m pl)
   callWith pos f first (QP pos (Qg (e::es) X.env)) (ZN pos (Zg [] X.env))):=by rfl) :
  PE X (.Call (.Attribute o m apos) (e::es) [] pos) (Fb C m sp dvs E ta t):=by
 intro pins s σ H Q I h;refine PySem.W.methodCall_KW (pl:=pl) (thn (he pins s σ H _ I h) λu s1 ⟨x,H1,I1,rx,a,dx,fs,ex,ea,l,q⟩=>?_) ht;subst ex;obtain rfl:u=Qn a:=rx;refine nB I1 ea c hm l ?_;refine Ko (first:=[.ref a]) (h₀:=X.base) I.ok.mod.kin hm.kp (thn (ha pos pins s1 σ H1 _ I1 q) λus s2 ⟨vs,H2,I2,r,q2⟩=>⟨I2.kIn,?_⟩) hst hpl;exact yD (us:=.ref a::us) (vs:=.ref a::vs) F hr hb hd hx I2 (.cons rfl r) q2
theorem qY{pl:Sem Bool}(he:PE X o ta)(c:Cls X.K C)(hm:Meth X.K C m f)(F:FnOk X.prog X.w X.K X.mg X.base CX k f fd ps sp)(hr:Room k X.A)(hb:gj X.K fd ps ds)(hd:bu dvs ds)(hx:kb CX X E)
  (ht:eval (.Call (.Attribute o m apos) [] [] pos) X.env=(do
   let ov<-eval o X.env
   KO apos.atName
   let(f,first)<-ZO [ov] (K5 ov m pl)
   callWith pos f first (QP pos (Qg [] X.env)) (ZN pos (Zg [] X.env))):=by rfl) :
  PE X (.Call (.Attribute o m apos) [] [] pos) (Fb C m sp dvs E ta ya):=by
 intro pins s σ H Q I h;refine PySem.W.methodCall_KW (pl:=pl) (thn (he pins s σ H _ I h) λu s1 ⟨x,H1,I1,rx,a,dx,fs,ex,ea,l,q⟩=>?_) ht;subst ex;obtain rfl:u=Qn a:=rx;refine nB I1 ea c hm l ?_;exact PySem.W.callWith_K0 (first:=[.ref a]) I1.kIn hm.kp (yD (us:=[.ref a]) (vs:=[.ref a]) F hr hb hd hx I1 (.cons rfl .nil) q)
structure Mk(K:Qc)(C f:Addr):Prop where
 makes:PySem.W.makesIn K C=true
 init:Qi K (.ref C) "__init__" = some (some (.ref f))
 fn:PySem.W.isFn K (.ref f)=true
 kp:QT K (.ref C)=true
theorem BK{pins:List Vz}{σ:St}{H:Hp}{s:Qd}{Q:VK}{us:List Qa}{vs:List V}(M:Mk X.K C f)(F:FnOk X.prog X.w X.K X.mg X.base CX k f fd ps sp)(hr:Room (k+1) X.A)(hb:gj X.K fd ps ds)(hd:bu dvs ds)
  (hx:kb CX X E) (I:Inv X pins σ H s) (r:bu vs us)
  (h:∀x dx,H x=none->H dx=none->dx≠x->sp (.ref x::(vs++dvs)) (upd (upd H dx (.own x)) x (.ins C dx [])) (λv H2=>v=.non/\Q (.ref x) H2) E) :
  Qf KF X.A (call (.ref C) us) (EP X pins σ Q) X.xe s:=by
 have hq:=h (s.heap.objs.size+1) s.heap.objs.size (I.hok.fresh (Nat.le_succ _)) (I.hok.fresh (Qm _)) (QC (Nat.lt_succ_self _));have I2:=Inv.made (C:=C) I;have r2:bu (V.ref (s.heap.objs.size+1)::(vs++dvs)) (Qn (s.heap.objs.size+1)::(us++ds)):=.cons rfl (r.append hd)
 have hl:(Qn (s.heap.objs.size+1)::us++ds).length=ps.length:=by
  have e:=r2.length;rw[F.len _ _ _ _ hq] at e;exact e.symm
 refine Kk (Ci (f:=f) I.kIn M.makes M.init (beq_iff_eq.mp M.fn) (KS (F.run _ X.stack _ _ ⟨Qn (s.heap.objs.size+1)::us,[]⟩ (Qn (s.heap.objs.size+1)::(us++ds)) _ _ E (hr.make C us [])
  (I2.env0.make C us []) (hb _ (Qn (s.heap.objs.size+1)::us) I2.kIn hl) r2 hq) λr s' hq'=>?_))
 cases r with
 |error e=>exact hx pins σ _ _ e s' I2 hq'
 |ok fl=>
  cases fl with
  |ret u=>
   obtain⟨v,H',I3,rv,ev,q3⟩:=I2.after hq';subst ev;exact⟨rv,⟨V.ref (s.heap.objs.size+1),H',I3,rfl,q3⟩⟩
  |next=>exact QR hq'
  |brk=>exact QR hq'
  |cont=>exact QR hq'
theorem zp(M:Mk X.K C f)(F:FnOk X.prog X.w X.K X.mg X.base CX k f fd ps sp)(hr:Room (k+1) X.A)(hg:Gl X x)(hm:X.mg x=some (.ref C))(hb:gj X.K fd ps ds)(hd:bu dvs ds)(hx:kb CX X E)
  (ha:PA X (e::es) t) (hdb:(x==("__debug__" : Str))=false:=by decide) (he:Qg (e::es) X.env=(false,eval e X.env)::Qg es X.env:=by rfl) (hpl:(QP pos (Qg es X.env)).any (·.1)=false:=by rfl) :
  PE X (.Call (.Name x p) (e::es) [] pos) (IR C sp dvs E t):=by
 intro pins s σ H Q I h;refine Zr (hU I hg hm ?_ hdb);refine Ko (h₀:=X.base) I.ok.mod.kin M.kp (thn (ha pos pins s σ H _ I h) λus s1 ⟨vs,H1,I1,r,q⟩=>⟨I1.kIn,?_⟩) he hpl;exact BK M F hr hb hd hx I1 r q
end
noncomputable def PK(X:Cx)(kws:List Keyword)(t:TA):Prop:=
 ∀(pos:Pos) (pins:List Vz) (s:Qd) (σ:St) (H:Hp) (Q:List V->Hp->Prop),Inv X pins σ H s->t σ H Q->Qf KF X.A (evalAll ((ZN pos (Zg kws X.env)).map (·.2))) (AP X pins σ Q) X.xe s
section
variable{X:Cx}{CX:CXT}{k:Nat}{f C:Addr}{fd:QY}{ps ks:List Str}{sp:Sp}{E:XK}{x m:Str}{p pos apos kpos:Pos}{e o:Expr}{es:List Expr}{kws:List Keyword}{te ta:TE}{t tk:TA}{nm:Option Str}
theorem Gb:PK X [] ya:=λ_ _ _ _ H Q I h=>wpAny_evalAll_nil ⟨[],H,I,.nil,h⟩
theorem D4(ha:PE X e te)(hr:PK X kws t):PK X (⟨nm,e,kpos⟩::kws) (pM te t):=by
 intro pos pins s σ H Q I h;show Qf _ _ (evalAll ((do let v<-eval e X.env;KO pos;pure v)::(ZN pos (Zg kws X.env)).map (·.2))) _ _ s;refine wpAny_evalAll_cons (Qb (thn (ha pins s σ H _ I h) λu s1 ⟨x,H1,I1,r1,q1⟩=>Qb (K3 (Qh ?_))));exact thn (hr pos pins s1 σ H1 _ I1 q1) λus s2 ⟨xs,H2,I2,r2,q2⟩=>⟨x::xs,H2,I2,.cons r1 r2,q2⟩
variable{g:List Qa->List Qa->List Qa}{gV:List V->List V->List V}
end
structure FnScope(N P:List Str)(sc:Scope):Prop where
 kind:sc.kind=.function
 co:sc.isCoroutine=false
 gen:sc.isGenerator=false
 nd:N.Nodup
 pre:N.take P.length=P
 par:∀x∈P,sc.names.lookup x=some .local\/sc.names.lookup x=some .cell
 nofree:∀y∈sc.names,y.2≠.free
theorem sW{kindOf:Str->Option NameKind}{x:Str}:∀{binds:List (Str×Qa)} {m:Str->Option Qa},(∀v,(x,v)∉binds)->bindL kindOf binds m x=m x
 |[],_,_=>rfl
 |(n,v)::r,m,h=>by
  unfold bindL;rw[sW λw hw=>h w (Qv _ hw)];split
  ·have:x≠n:=by rintro rfl;exact h v QD
   simp[this]
  ·rfl
theorem tI{kindOf:Str->Option NameKind}{x:Str}:∀{binds:List (Str×Qa)} {m:Str->Option Qa},(∀v,(x,v)∉binds)->bindC kindOf binds m x=m x
 |[],_,_=>rfl
 |(n,v)::r,m,h=>by
  unfold bindC;rw[tI λw hw=>h w (Qv _ hw)];split
  ·rfl
  ·have:x≠n:=by rintro rfl;exact h v QD
   simp[this]
theorem tw{kindOf:Str->Option NameKind}{x:Str}{v:Qa}:∀{P:List Str} {vs:List Qa} {i:Nat} {m:Str->Option Qa},P.Nodup->P[i]?=some x->vs[i]?=some v->kindOf x=some .local->
  bindL kindOf (P.zip vs) m x=some v
 |[],_,_,_,_,h,_,_=>by simp at h
 |_::_,[],_,_,_,_,h,_=>by simp at h
 |p::P,w::vs,0,m,nd,h1,h2,hk=>by
  simp at h1 h2;subst h1;subst h2;show bindL kindOf ((p,w)::P.zip vs) m p=_;unfold bindL;rw[sW λv hv=>(Kv.mp nd).1 (List.of_mem_zip hv).1,if_pos hk];simp
 |p::P,w::vs,i+1,m,nd,h1,h2,hk=>by
  show bindL kindOf ((p,w)::P.zip vs) m x=_;unfold bindL;exact tw (i:=i) (Kv.mp nd).2 (by simpa using h1) (by simpa using h2) hk
theorem tD{kindOf:Str->Option NameKind}{x:Str}{v:Qa}:∀{P:List Str} {vs:List Qa} {i:Nat} {m:Str->Option Qa},P.Nodup->P[i]?=some x->vs[i]?=some v->kindOf x≠some .local->
  bindC kindOf (P.zip vs) m x=some v
 |[],_,_,_,_,h,_,_=>by simp at h
 |_::_,[],_,_,_,_,h,_=>by simp at h
 |p::P,w::vs,0,m,nd,h1,h2,hk=>by
  simp at h1 h2;subst h1;subst h2;show bindC kindOf ((p,w)::P.zip vs) m p=_;unfold bindC;rw[tI λv hv=>(Kv.mp nd).1 (List.of_mem_zip hv).1,if_neg hk];simp
 |p::P,w::vs,i+1,m,nd,h1,h2,hk=>by
  show bindC kindOf ((p,w)::P.zip vs) m x=_;unfold bindC;exact tD (i:=i) (Kv.mp nd).2 (by simpa using h1) (by simpa using h2) hk
noncomputable def jn(N:List Str)(vs:List V):St:=vs.map some++Z9 (N.length-vs.length) none
noncomputable def jd(CX:CXT)(P:Qr)(w:Qx)(K:Qc)(mg:Str->Option Qa)(base:Heap)(N:List Str)(qual:Str)(scope:Scope)(f:Addr)(cd:Qa)(A:QB)(outer:List Env)(s:Qd)(H:Hp)(E:XK):Cx where
 prog:=P
 w:=w
 K:=K
 mg:=mg
 base:=base
 A:=A.deeper (ZZ qual scope s.heap.objs.size f cd)
 N:=N
 s₀:=s
 H₀:=H
 env:=ZZ qual scope s.heap.objs.size f cd
 outer:=outer
 stack:=ZZ qual scope s.heap.objs.size f cd::outer
 ex:=[]
 calm:=true
 fn:=λ_=>true
 pn:=[]
 xe:=λe s'=>Qf (Qj P w) (A.deeper (ZZ qual scope s.heap.objs.size f cd)) (leaving (ZZ qual scope s.heap.objs.size f cd) e) (λ_ s''=>CX outer H s E e s'') (λe' s''=>CX outer H s E e' s'') s'
theorem vq{sc:Scope}{n:Nat}{x:Str}(h:sc.names.lookup x=some .cell):∃c,(cellsFrom n sc.names []).lookup x=some c:=by
 have q:=PySem.W.cellsFrom_some sc.names n [] (.inl h);exact Option.isSome_iff_exists.mp q
theorem A3{CX:CXT}{P:Qr}{w:Qx}{K:Qc}{mg:Str->Option Qa}{base:Heap}{N ps:List Str}{qual:Str}{scope:Scope}{f:Addr}{cd:Qa}{A:QB}{outer:List Env}{s s1:Qd}{H:Hp}{E:XK}{us:List Qa}{vs:List V}
  (S:FnScope N ps scope) (hd:A.handled=none) (e0:Env0 P w K mg base A outer s H) (hl:vs.length=ps.length) (r:bu vs us)
  (x:InCallC s s.heap.objs.size (bindL (ZZ qual scope s.heap.objs.size f cd).kindOf (ps.zip us) λ_=>none) (cellsFrom (s.heap.objs.size+1) scope.names []) (bindC (ZZ qual scope s.heap.objs.size f cd).kindOf (ps.zip us) λ_=>none) s1) :
  Inv (jd CX P w K mg base N qual scope f cd A outer s H E) [] (jn N vs) H s1:=by
 have hpl:ps.length<=N.length:=by have:=congrArg List.length S.pre;rw[KU] at this;lia
 obtain⟨h1,tk,rfl,hk⟩:=x.done;have noA:∀b:Addr,b∉(jd CX P w K mg base N qual scope f cd A outer s H E).ex:=λb z=>absurd (show b∈([]:List Addr) from z) (by simp)
 refine⟨⟨e0.mod,S.kind,rfl,rfl,Qm _,λy z c h1 h2=>?_,λy hy=>?_,λy c _ h=>?_,λ_=>hd,Around.frames_deeper e0.frames,.inr ⟨rfl,rfl⟩,λb z=>absurd z (noA b),e0.bs,e0.bsz,λb _ _=>noA b,λb z=>absurd z (noA b),e0.funs,e0.frf⟩,
  rfl,e0.bare,Un.kept hk,⟨_,x.toInCall.ns,λi y v h1 h2 h3=>?_⟩,λy c h=>⟨_,x.cell y c h⟩,e0.hok.fresh (Qm _),λy c h=>?_,λp hp=>absurd (show p∈([]:List Vz) from hp) (by simp),e0.hok.kept hk,?_⟩
 ·exact name_of_addr x.apart (Zx h1) (Zx h2)
 ·have hy:scope.names.lookup y=some .cell\/scope.names.lookup y=some .free:=hy
  rcases hy with hy | hy
  ·exact vq hy
  ·exact absurd rfl (S.nofree _ (Zx hy))
 ·exact Nat.le_of_lt (x.above y c (Zx h))
 ·have hi:i<vs.length:=by
   unfold jn at h2
   by_cases hi:i<vs.length
   ·exact hi
   ·rw[Zj (by simpa using hi)] at h2
    rw[ZK] at h2;split at h2<;>cases h2
  have ha:vs[i]?=some v:=by
   unfold jn at h2;rw[ZA (by simpa using hi),QJ] at h2;cases e:vs[i]? with
   |none=>rw[e] at h2;cases h2
   |some a=>rw[e] at h2;cases h2;rfl
  obtain⟨u,hu,rv⟩:=r.get ha
  have hp:ps[i]?=some y:=by
   rw[<-S.pre,List.getElem?_take_of_lt KM];exact h1
  have ndP:ps.Nodup:=by rw[<-S.pre];exact S.nd.sublist (List.take_sublist _ _)
  refine⟨u,rv,?_⟩;rcases S.par y (Z0 hp) with k | k
  ·exact .inl ⟨k,tw ndP hp hu k⟩
  ·obtain⟨c,e⟩:=vq (n:=s.heap.objs.size+1) k
   refine .inr ⟨.inl k,c,e,?_⟩;have q:=x.cell y c e;rw[tD ndP hp hu (by show scope.names.lookup y≠_;rw[k];decide)] at q;exact q
 ·exact e0.hok.fresh (Nat.le_of_lt (x.above y c (Zx h)))
 ·unfold jn
  show _=N.length;rw[QI,Qt,ZT]
  lia
theorem qk{CX:CXT}{P:Qr}{w:Qx}{K:Qc}{mg:Str->Option Qa}{base:Heap}{k:Nat}{f:Addr}{name qual:Str}{params:Arguments}{body:List Stmt}{scope:Scope}{dV kV doc pm cdv ct oc:Qa}{an od:Option Addr}
  {osl:Array (Option Qa)} {N ps:List Str} {sp:Sp} (lk:K.lookup f=some ⟨oc,od,.func (QQ name qual params body scope dV kV doc pm an cdv ct),osl⟩) (hcd:Zt K cdv qual=true) (S:FnScope N ps scope)
  (len:∀vs H Q E,sp vs H Q E->vs.length=ps.length)
  (hbody:∀(A:QB) (outer:List Env) (s:Qd) (H:Hp) (vs:List V) (Q:VK) (E:XK),Room k (A.deeper (ZZ qual scope s.heap.objs.size f cdv))->sp vs H Q E->
   ∃t,PSs (jd CX P w K mg base N qual scope f cdv A outer s H E) body t/\t { nx:=λ_ H'=>Q .non H',rt:=Q } (jn N vs) H) :
  FnOk P w K mg base CX (k+1) f (QQ name qual params body scope dV kV doc pm an cdv ct) ps sp:=by
 refine⟨len,λA outer s H args us vs Q E hr e0 hb r hsp=>?_⟩;have hl:=len _ _ _ _ hsp;have KX:K.In s.heap:=e0.mod.kin.keeps λb o e=>(e0.bs b o e).1;have lim:s.heap.NoLimit:=e0.mod.nolimit.keeps λb o e=>(e0.bs b o e).1
 have hkind:∀y∈ps.zip us,scope.names.lookup y.1=some .local\/(scope.names.lookup y.1=some .cell/\((cellsFrom (s.heap.objs.size+1) scope.names []).lookup y.1).isSome=true):=λ⟨n,v⟩ hy=>by
  rcases S.par n (List.of_mem_zip hy).1 with q | q
  ·exact .inl q
  ·exact .inr ⟨q,PySem.W.cellsFrom_some _ _ _ (.inl q)⟩
 refine codeAny_call_function hr.depth (KX _ _ lk) rfl S.co S.gen rfl (PySem.W.codeRec_of KX hcd) (hb _ _ _ _ ?_);refine wpAny_newFunctionEnv_cells S.kind hkind λenv he s1 x=>?_;subst he;refine⟨lim.keeps x.toInCall.keep,codeAny_func ?_⟩;obtain⟨t,ht,hq⟩:=hbody A outer s H vs Q E (hr.deeper _) hsp;have I:Inv (jd CX P w K mg base N qual scope f cdv A outer s H E) [] (jn N vs) H s1:=A3 S hr.hd e0 hl r x;refine Zk (ht [] s1 (jn N vs) H _ I hq) (λfl s' hs=>?_) λe s' hs=>hs
 have fin:∀{σ':St} {H':Hp} {v:V} {u:Qa},Inv (jd CX P w K mg base N qual scope f cdv A outer s H E) [] σ' H' s'->bq v u->Q v H'->CE outer P w H s Q u s':=
  λ{σ' H' v u} J rv q=>⟨v,H',J.os,J.bare,J.base,J.hok,rv,q⟩
 cases fl with
 |ret u=>
  obtain⟨v,σ',H',J,rv,q⟩:=hs;exact fin J rv q
 |next=>
  obtain⟨σ',H',J,q⟩:=hs;exact fin (v:=V.non) (u:=Q0) J rfl q
 |brk=>
  obtain⟨_,_,_,q⟩:=hs;exact QR q
 |cont=>
  obtain⟨_,_,_,q⟩:=hs;exact QR q
section
variable{X:Cx}{x:Str}{p pos:Pos}{e:Expr}{es:List Expr}{t:TA}{id T:String}{r:List V->Hp->VK->Prop}
noncomputable def tCB(r:List V->Hp->VK->Prop)(t:TA):TE:=λσ H Q=>t σ H λvs H1=>r vs H1 Q
theorem fm(hc:iW X (.builtin id) r)(hg:Gl X x)(hm:X.mg x=none)(hv:ZW x=some (.builtin id))(ha:PA X (e::es) t)(hn:x≠"__name__":=by decide)(hdb:(x==("__debug__" : Str))=false:=by decide)
  (he:Qg (e::es) X.env=(false,eval e X.env)::Qg es X.env:=by rfl) (hpl:(QP pos (Qg es X.env)).any (·.1)=false:=by rfl):PE X (.Call (.Name x p) (e::es) [] pos) (tCB r t):=by
 intro pins s σ H Q I h;refine Zr (mX I hg hm hv ?_ hn hdb);exact PyProof.Rows.callWith_builtin1 (thn (ha pos pins s σ H _ I h) λus s1 ⟨vs,H1,I1,r1,q1⟩=>hc pins s1 σ H1 vs us Q I1 r1 q1) he hpl
theorem cD(hc:iW X (.type T) r)(hg:Gl X x)(hm:X.mg x=none)(hv:ZW x=some (.type T))(ha:PA X (e::es) t)(hn:x≠"__name__":=by decide)(hdb:(x==("__debug__" : Str))=false:=by decide)
  (he:Qg (e::es) X.env=(false,eval e X.env)::Qg es X.env:=by rfl) (hpl:(QP pos (Qg es X.env)).any (·.1)=false:=by rfl):PE X (.Call (.Name x p) (e::es) [] pos) (tCB r t):=by
 intro pins s σ H Q I h;refine Zr (mX I hg hm hv ?_ hn hdb);exact Km (thn (ha pos pins s σ H _ I h) λus s1 ⟨vs,H1,I1,r1,q1⟩=>hc pins s1 σ H1 vs us Q I1 r1 q1) he hpl
end
end L2
namespace HT
open PySem PyProof.Rows
section
open PySem.SeqAt
open PySem.AutoSeq1 (wpAny_loadPart')
open PySem.MeetsSeq PySem.MeetsSeq2 PySem.MeetsSeq3
end
section
variable{prog:Qr}{w:Qx}{A:QB}{E:Qa->Qd->Prop}{s:Qd}
theorem Ec{t b:Addr}{vs ws:List Qa}{Q:Qa->Qd->Prop}(ht:IsTup s.heap t vs.toArray)(hb:IsTup s.heap b ws.toArray)(hv:vs≠[])
  (h1:ws=[]->Q (.ref t) s) (h2:ws≠[]->Q (.ref s.heap.objs.size) { s with heap:=s.heap.push { cls:=.type "tuple",data:=.seq (vs++ws).toArray } })
  (hsz:vs.length+ws.length<=Qk):Qf (Qj prog w) A (Zh .Add (.ref t) (.ref b)) Q E s:=by
 obtain⟨⟨cls,dd,data,sl⟩,ho,hc,n,hd⟩:=id ht;obtain⟨⟨cls2,dd2,data2,sl2⟩,ho2,hc2,n2,hd2⟩:=id hb;simp only at hc hd hc2 hd2;subst hc hd hc2 hd2;have e:vs.toArray++ws.toArray=(vs++ws).toArray:=by simp
 by_cases hw:ws=[]
 ·exact concat_meets ⟨_,ho,rfl⟩ ⟨_,ho2,rfl⟩ noFill_tuple_add seq_tuple_add K8 K1 (KW _ _)
   (tuple_addW1 t b vs.toArray ws.toArray n n2 dd dd2 sl sl2 (by simpa using hv) (by simp[hw])) ⟨ho,ho2,h1 hw⟩
 ·refine concat_meets ⟨_,ho,rfl⟩ ⟨_,ho2,rfl⟩ noFill_tuple_add seq_tuple_add K8 K1 (KW _ _)
   (tuple_addW2 t b vs.toArray ws.toArray n n2 dd dd2 sl sl2 (by simpa using hv) (by simpa using hw) (by rw[Qy,Qy];exact hsz)) ⟨ho,ho2,?_⟩
  rw[e];exact h2 hw
noncomputable def sIx(n d:Nat):Option Int->Nat
 |none=>d
 |some v=>if v<0 then(v+(n:Int)).toNat else min v.toNat n
theorem CK(n d:Nat):sIx n d none=d:=rfl
theorem tT(n d k:Nat):sIx n d (some (k:Int))=min k n:=by
 show(if(k:Int)<0 then((k:Int)+(n:Int)).toNat else min (k:Int).toNat n)=min k n;rw[if_neg KM,KA]
theorem Hv(n d:Nat)(hd:d<=n)(o:Option Int):sIx n d o<=n:=by
 cases o with
 |none=>exact hd
 |some v=>
  show(if v<0 then(v+(n:Int)).toNat else min v.toNat n)<=n
  by_cases hv:v<0
  ·rw[if_pos hv];lia
  ·rw[if_neg hv];exact Nat.min_le_right _ _
theorem yX(v:Int)(n d:Nat):(if v<0 then max (v+(n:Int)) 0 else min v (n:Int))=((sIx n d (some v):Nat):Int):=by
 show(if v<0 then max (v+(n:Int)) 0 else min v (n:Int))=(((if v<0 then(v+(n:Int)).toNat else min v.toNat n):Nat):Int)
 by_cases hv:v<0
 ·simp only[if_pos hv];lia
 ·simp only[if_neg hv];lia
theorem yx(lo hi:Option Int)(n:Nat):Builtin.Slice.sliceAdjust lo hi 1 (n:Int)=(((sIx n 0 lo:Nat):Int),((sIx n n hi:Nat):Int)):=by
 have h1:¬ ((1:Int)<0):=by lia
 unfold Builtin.Slice.sliceAdjust;simp only[h1,if_false];refine Prod.ext ?_ ?_
 ·cases lo with
  |none=>rfl
  |some v=>exact yX v n 0
 ·cases hi with
  |none=>rfl
  |some v=>exact yX v n n
theorem yz(i j:Nat):KI (i:Int) (j:Int) 1=j-i:=by
 unfold KI;have h1:(1:Int)>0:=by lia
 simp only[h1,if_true,Int.ediv_one];split<;>lia
theorem q8{v:Qa}{o:Option Int}{Q:Option Int->Qd->Prop}(p:IsPart v o)(h:Q o s):Qf (Qj prog w) A (Builtin.Slice.slicePartIndex v) Q E s:=by
 cases p with
 |none=>exact slicePart_none h
 |int i t=>exact slicePart_int h
theorem o_{sl:Addr}{vl vu:Qa}{lo hi:Option Int}{n:Nat}{Q:Int×Int×Nat->Qd->Prop}(hs:s.heap.IsSliceOf sl vl vu .none)(pl:IsPart vl lo)(pu:IsPart vu hi)
  (h:Q (((sIx n 0 lo:Nat):Int),1,sIx n n hi-sIx n 0 lo) s):Qf (Qj prog w) A (Builtin.Slice.sliceApplied (.ref sl) (pure (n:Int))) Q E s:=by
 obtain⟨os,hos,hcs,hds⟩:=id hs;unfold Builtin.Slice.sliceApplied Builtin.Slice.sliceFields;refine Qb (Qb (Q5 hos hds (x:=vl) rfl (Qb (Q5 hos hds (x:=vu) rfl (Qb (Q5 hos hds (x:=.none) rfl (Qh ?_)))))));refine Qb (slicePart_none ?_);show Qf _ _ (if((1:Int)==0)=true then _ else _) _ _ s;rw[if_neg KE];refine Qb (q8 pl (Qb (q8 pu (Qb (Qh ?_)))));show Qf _ _ (match Builtin.Slice.sliceAdjust lo hi 1 (n:Int) with | (lo,hi)=>pure (lo,(1:Int),KI lo hi 1)) _ _ s;rw[yx lo hi n];show Qf _ _ (pure (((sIx n 0 lo:Nat):Int),(1:Int),KI ((sIx n 0 lo:Nat):Int) ((sIx n n hi:Nat):Int) 1)) _ _ s;rw[yz];exact Qh h
theorem Cd(xs:Array Qa)(i k:Nat):((QU k).filterMap λ(m:Nat)=>xs[((i:Int)+(m:Int)*1).toNat]?).toArray=((xs.toList.drop i).take k).toArray:=by
 have e:(λ(m:Nat)=>xs[((i:Int)+(m:Int)*1).toNat]?)=λm=>xs[i+m]?:=by
  funext m
  have:((i:Int)+(m:Int)*1).toNat=i+m:=by lia
  rw[this]
 rw[e];have:=pick_run xs i k;rw[List.filterMap_map] at this;have e2:((λx=>xs[x]?)∘λx=>i+x)=λm=>xs[i+m]?:=rfl;rw[e2] at this;rw[this]
theorem oh{t sl:Addr}{items:Array Qa}{vl vu:Qa}{lo hi:Option Int}{Q:Qa->Qd->Prop}(ht:IsTup s.heap t items)(hs:s.heap.IsSliceOf sl vl vu .none)(pl:IsPart vl lo)(pu:IsPart vu hi)
  (hw:¬ (sIx items.size 0 lo=0/\sIx items.size items.size hi=items.size))
  (h:Q (.ref s.heap.objs.size) { s with heap:=s.heap.push { cls:=.type "tuple",data:=.seq ((items.toList.drop (sIx items.size 0 lo)).take (sIx items.size items.size hi-sIx items.size 0 lo)).toArray } })
  (hsz:items.size<=Qk):Qf (Qj prog w) A (getItem (.ref t) (.ref sl)) Q E s:=by
 have htake:sizeOk (.seq ((items.toList.drop (sIx items.size 0 lo)).take (sIx items.size items.size hi-sIx items.size 0 lo)).toArray):=by
  show((items.toList.drop (sIx items.size 0 lo)).take (sIx items.size items.size hi-sIx items.size 0 lo)).toArray.size<=Qk;rw[Qy,KU,List.length_drop,Zw]
  lia
 have hj:sIx items.size items.size hi<=items.size:=Hv _ _ (Qm _) hi;obtain⟨os,hos,hcs,hds⟩:=id hs;have hTs:s.TypeIs (.ref sl) "slice":=⟨os,hos,hcs⟩;unfold getItem
 try with_reducible refine QX ?_
 first | refine Qb (Qh ?_) | skip
 refine Qb (wpAny_sequenceKey ht.typeIs KE ?_)
 refine Qb (ZL (name:=Z2 "__getitem__") ht.typeIs PyProof.Rows.slot_tuple_getitem
  (KY PyProof.Rows.slot_tuple_getitem ht.typeIs entry_tuple_getitem ?_ (args_tuple_getitem _ _)))
 show Qf _ _ (Builtin.Tuple.tupleItemsOf (.ref t)>>=_) _ _ s;refine Qb (tupleItemsOf_ ht ?_);refine Qb (wpAny_typeOf hTs ?_);rw[if_pos KE];refine Qb (o_ hs pl pu ?_)
 have hno:¬ ((((sIx items.size 0 lo:Nat):Int)==0&&(1:Int)==1&&(sIx items.size items.size hi-sIx items.size 0 lo)==items.size)=true):=by
  intro q;rw[Vf,Vf] at q;have q1:((sIx items.size 0 lo:Nat):Int)=0:=eq_of_beq q.1.1;have q2:sIx items.size items.size hi-sIx items.size 0 lo=items.size:=eq_of_beq q.2;exact hw ⟨by lia,by lia⟩
 show Qf _ _ (if(((sIx items.size 0 lo:Nat):Int)==0&&(1:Int)==1&&(sIx items.size items.size hi-sIx items.size 0 lo)==items.size)=true then _ else _) _ _ s;rw[if_neg hno,Cd]
 first
  |exact Qb (m:=KZ _) (Zl (Qh ⟨_,rfl,Qh h⟩) htake)
  |exact Qb (m:=KZ _) (Zl (Qb (Qh (Qh ⟨_,rfl,Qh h⟩))) htake)
  |exact Qb (Qb (m:=KZ _) (Zl (Qh (Qh ⟨_,rfl,Qh h⟩)) htake))
  |exact Qb (Qb (m:=KZ _) (Zl (Qh ⟨_,rfl,Qh h⟩) htake))
end
end HT
namespace L2
open PySem PySem.Spec PyProof.Rows
noncomputable abbrev TO:=St->Hp->(Option Int->Hp->Prop)->Prop
noncomputable def PO(X:Cx)(e:Option Expr)(t:TO):Prop:=
 ∀(pins:List Vz) (s:Qd) (σ:St) (H:Hp) (Q:Option Int->Hp->Prop),Inv X pins σ H s->t σ H Q->
  Qf KF X.A (evalPart e X.env) (λu s'=>∃o H',Inv X pins σ H' s'/\IsPart u o/\Q o H') X.xe s
noncomputable def EK:TO:=λ_ H Q=>Q none H
noncomputable def Ih(t:TE):TO:=λσ H Q=>t σ H λx H1=>∃i,x=.int i/\Q (some i) H1
theorem mQ{ns:List Int}:∀{us:List Qa},bu (ns.map V.int) us->IntsAre us ns:=by
 induction ns with
 |nil=>intro us r;rw[List.map_nil] at r;cases r;exact .nil
 |cons n ns ih=>
  intro us r;rw[Q3] at r;cases r with
  |cons r1 r2=>
   obtain⟨t,e⟩:=r1;subst e;exact .cons n t (ih r2)
section
variable{X:Cx}{e:Expr}{te:TE}{lo hi:Option Expr}{tl th:TO}{pos p2:Pos}
theorem EY:PO X none EK:=by
 intro pins s σ H Q I h;rw[evalPart_none];exact Qh ⟨none,H,I,.none,h⟩
theorem DQ(h:PE X e te):PO X (some e) (Ih te):=by
 intro pins s σ H Q I hw;rw[evalPart_some];refine thn (h pins s σ H _ I hw) λu s1 ⟨x,H1,I1,r1,q1⟩=>?_;obtain⟨i,rfl,q⟩:=q1;obtain⟨t,rfl⟩:=r1;exact⟨some i,H1,I1,.int i t,q⟩
noncomputable def SlR(X:Cx)(r:V->Option Int->Option Int->Hp->VK->Prop):Prop:=
 ∀(pins:List Vz) (s:Qd) (σ:St) (H:Hp) (x:V) (v vl vu:Qa) (lo hi:Option Int) (sl:Addr) (Q:VK),Inv X pins σ H s->bq x v->s.heap.IsSliceOf sl vl vu .none->IsPart vl lo->IsPart vu hi->r x lo hi H Q->
  ∃T id,typeLookup (.type T) "__getitem__" = pure (some (.builtin id))/\s.TypeIs v T/\Qf KF X.A (getItem v (.ref sl)) (EP X pins σ Q) X.xe s
noncomputable def tSl(r:V->Option Int->Option Int->Hp->VK->Prop)(te:TE)(tl th:TO):TE:=λσ H Q=>te σ H λx H1=>tl σ H1 λl H2=>th σ H2 λu H3=>r x l u H3 Q
theorem vw{r:V->Option Int->Option Int->Hp->VK->Prop}(hr:SlR X r)(he:PE X e te)(hl:PO X lo tl)(hu:PO X hi th):PE X (.Subscript e (.Slice lo hi none p2) pos) (tSl r te tl th):=by
 intro pins s σ H Q I h;refine Subscript_ (thn (he pins s σ H _ I h) λv s1 ⟨x,H1,I1,r1,q1⟩=>?_);refine wpAny_Slice (thn (hl pins s1 σ H1 _ I1 q1) λvl s2 ⟨l,H2,I2,pl,q2⟩=>thn (hu pins s2 σ H2 _ I2 q2) λvu s3 ⟨u,H3,I3,pu,q3⟩=>?_);rw[evalPart_none];refine Qh ?_;have I4:Inv X pins σ H3 { s3 with heap:=s3.heap.push { cls:=.type "slice",data:=.fields #[vl,vu,.none] } }:=I3.kept (t':=s3.toks) λb ob q=>Qe _ q;obtain⟨T,id,hT,ht,hg⟩:=hr pins { s3 with heap:=s3.heap.push { cls:=.type "slice",data:=.fields #[vl,vu,.none] } } σ H3 x v vl vu l u s3.heap.objs.size Q I4 r1 (Heap.IsSliceOf.new ..) pl pu q3;show Qf KF X.A (subscriptTail e (.Slice lo hi none p2) v (.ref s3.heap.objs.size)) (EP X pins σ Q) X.xe { s3 with heap:=s3.heap.push { cls:=.type "slice",data:=.fields #[vl,vu,.none] } };exact tail_any (ops:=[.ref s3.heap.objs.size,v]) ht hT hg (by with_unfolding_all rfl)
noncomputable def uU(xs:List V)(lo hi:Option Int):List V:=(xs.drop (HT.sIx xs.length 0 lo)).take (HT.sIx xs.length xs.length hi-HT.sIx xs.length 0 lo)
theorem qd(xs:List V)(lo hi:Option Int):(uU xs lo hi).length<=xs.length:=by
 unfold uU;rw[KU,List.length_drop]
 lia
noncomputable def JQ(K:Qc):V->Option Int->Option Int->Hp->VK->Prop:=λx lo hi H Q=>∃a xs,x=.ref a/\SqT K H a xs/\
 ¬ (HT.sIx xs.length 0 lo=0/\HT.sIx xs.length xs.length hi=xs.length)/\∀p,H p=none->Q (.ref p) (upd H p (.tup (uU xs lo hi)))
theorem HK:SlR X (JQ X.K):=by
 intro pins s σ H x v vl vu lo hi sl Q I rx hs pl pu h;obtain⟨a,xs,rfl,hx,hw,q⟩:=h;cases rx;obtain⟨its,r,ht,hz⟩:=I.tuple hx;have hlen:its.toArray.size=xs.length:=by rw[Qy];exact r.length.symm
 refine⟨"tuple",_,PyProof.Rows.slot_tuple_getitem.lookup,ht.typeIs,?_⟩;refine HT.oh ht hs pl pu (by rw[hlen];exact hw) ?_ (by rw[hlen];exact hz);rw[hlen];refine⟨.ref s.heap.objs.size,_,I.laid (t':=s.toks) (o:=.tup (uU xs lo hi)) (λb ob q=>Qe _ q) (Qm _) ?_,rfl,q _ (I.hok.fresh (Qm _))⟩;exact⟨QO (qd xs lo hi) hz,_,(r.drop (HT.sIx xs.length 0 lo)).take (HT.sIx xs.length xs.length hi-HT.sIx xs.length 0 lo),IsTup.new _ _⟩
noncomputable def IP(K:Qc):R2:=λx y H Q=>∃a b xs ys,x=.ref a/\y=.ref b/\SqT K H a xs/\SqT K H b ys/\xs≠[]/\xs.length+ys.length<=Qk/\
 (ys=[]->Q (.ref a) H)/\(ys≠[]->∀p,H p=none->Q (.ref p) (upd H p (.tup (xs++ys))))
theorem bu.nil_iff{xs:List V}{us:List Qa}(r:bu xs us):us=[]↔xs=[]:=by
 cases r with
 |nil=>simp
 |cons _ _=>simp
theorem nV:OpR X (Zh .Add) (IP X.K):=by
 intro pins s σ H x y v u Q I rx ry h;obtain⟨a,b,xs,ys,rfl,rfl,ha,hb,hx,hz,q1,q2⟩:=h;cases rx;cases ry;obtain⟨its,r1,p1,_⟩:=I.tuple ha;obtain⟨its2,r2,p2,_⟩:=I.tuple hb;refine HT.Ec p1 p2 (λz=>hx (r1.nil_iff.mp z)) (λz=>⟨.ref a,H,I,rfl,q1 (r2.nil_iff.mp z)⟩) (λz=>?_) (by rw[<-r1.length,<-r2.length];exact hz);refine⟨.ref s.heap.objs.size,_,I.laid (t':=s.toks) (o:=.tup (xs++ys)) (λb ob q=>Qe _ q) (Qm _) ?_,rfl,q2 (λw=>z (r2.nil_iff.mpr w)) _ (I.hok.fresh (Qm _))⟩;exact⟨by rw[QI];exact hz,_,r1.append r2,IsTup.new _ _⟩
end
noncomputable def ixN(n:Nat)(i:Int):Option Nat:=if 0<=i then(if i<n then some i.toNat else none) else if -(n:Int)<=i then some (i+n).toNat else none
noncomputable def atI{α:Type}(xs:List α)(i:Int):Option α:=(ixN xs.length i).bind λj=>xs[j]?
theorem zN{n:Nat}{i:Int}{j:Nat}(h:ixN n i=some j):seqIndex? i n=some j/\j<n/\-(n:Int)<=i/\i<n:=by
 unfold ixN at h
 by_cases h0:0<=i
 ·rw[if_pos h0] at h
  by_cases h1:i<n
  ·rw[if_pos h1] at h
   have e:i.toNat=j:=Option.some.inj h;exact⟨by rw[seqIndex_of h0 h1,e],by lia,by lia,h1⟩
  ·rw[if_neg h1] at h;cases h
 ·rw[if_neg h0] at h
  by_cases h1:-(n:Int)<=i
  ·rw[if_pos h1] at h
   have e:(i+n).toNat=j:=Option.some.inj h;exact⟨by rw[seqIndex_neg KM h1,e],by lia,h1,by lia⟩
  ·rw[if_neg h1] at h;cases h
theorem ve{α:Type}{xs:List α}{i:Int}{v:α}(h:atI xs i=some v):∃j,seqIndex? i xs.length=some j/\xs[j]?=some v/\j<xs.length/\-(xs.length:Int)<=i/\i<xs.length:=by
 unfold atI at h;cases e:ixN xs.length i with
 |none=>rw[e] at h;cases h
 |some j=>
  rw[e] at h;obtain⟨h1,h2,h3,h4⟩:=zN e;exact⟨j,h1,h,h2,h3,h4⟩
theorem ET{α:Type}{xs:List α}{j:Nat}{v:α}(h:xs[j]?=some v):atI xs (j:Int)=some v:=by
 have hj:j<xs.length:=(QH.mp h).1
 have e:ixN xs.length (j:Int)=some j:=by
  unfold ixN;rw[if_pos KM,if_pos KM];simp
 unfold atI;rw[e];exact h
noncomputable def ot(b:Expr):Prop:=∀o i,subscripted b false o i=operate [o,i] (getItem o i)
noncomputable def IxR(X:Cx)(r:R2):Prop:=
 ∀(value slice:Expr) (pins:List Vz) (s:Qd) (σ:St) (H:Hp) (x y:V) (v u:Qa) (Q:VK),Inv X pins σ H s->bq x v->bq y u->r x y H Q->
  subscripted slice false v u=operate [v,u] (getItem v u)->Qf KF X.A (subscriptTail value slice v u) (EP X pins σ Q) X.xe s
noncomputable def MtR(X:Cx)(id:String)(r:V->List V->Hp->VK->Prop):Prop:=
 ∀(pins:List Vz) (s:Qd) (σ:St) (H:Hp) (x:V) (xs:List V) (v:Qa) (us:List Qa) (Q:VK),Inv X pins σ H s->bq x v->bu xs us->r x xs H Q->
  Qf KF X.A (call (.builtin id) (v::us)) (EP X pins σ Q) X.xe s
section
variable{X:Cx}{a b:Expr}{ta tb:TE}{pos:Pos}
theorem IxR.or{r r':R2}(h:IxR X r)(h':IxR X r'):IxR X (λx y H Q=>r x y H Q\/r' x y H Q):=by
 intro value slice pins s σ H x y v u Q I rx ry q hs;rcases q with q | q
 ·exact h value slice pins s σ H x y v u Q I rx ry q hs
 ·exact h' value slice pins s σ H x y v u Q I rx ry q hs
theorem ib{r:R2}(hr:IxR X r)(ha:PE X a ta)(hb:PE X b tb)(hs:ot b):PE X (.Subscript a b pos) (tOp r ta tb):=by
 intro pins s σ H Q I h;exact Subscript_ (F_ ha hb I h λv u s2 x y H2 I2 rx ry q=>hr a b pins s2 σ H2 x y v u Q I2 rx ry q (hs _ _))
noncomputable def JR(K:Qc):R2:=λx y H Q=>∃p xs i v,x=.ref p/\y=.int i/\SqL K H p xs/\atI xs i=some v/\Q v H
noncomputable def Kd(K:Qc):R2:=λx y H Q=>∃p xs i v,x=.ref p/\y=.int i/\SqT K H p xs/\atI xs i=some v/\Q v H
noncomputable def Kb:R2:=λx y H Q=>∃z i c,x=.str z/\y=.int i/\z.length<=Qk/\atI z.cps.toList i=some c/\Q (.str ⟨#[c]⟩) H
theorem zM:IxR X (JR X.K):=by
 intro value slice pins s σ H x y v u Q I rx ry h hs;obtain⟨p,xs,i,z,rfl,rfl,hq,he,q⟩:=h;cases rx;obtain⟨t,rfl⟩:=ry;obtain⟨its,r,pl,hz⟩:=I.list hq;obtain⟨j,h1,h2,h3,h4,h5⟩:=ve he;obtain⟨w,ew,rw'⟩:=r.get h2;have hl:=r.length;have hn:=ni;have fin:EP X pins σ Q w s:=⟨z,H,I,rw',q⟩
 by_cases h0:0<=i
 ·have hj:i.toNat=j:=by
   rw[seqIndex_of h0 h5] at h1;exact Option.some.inj h1
  exact item_listR pl.isList h0 KM (by rw[hj];simpa using ew) fin hs
 ·have hj:(i+(its.toArray.size:Int)).toNat=j:=by
   rw[seqIndex_neg KM h4] at h1;rw[Qy,<-hl];exact Option.some.inj h1
  exact subscriptTail_builtinR (x:=w) pl.isList.typeIs slot_list_getitem.lookup
   (wpAny_getItem_list_neg (Q:=λr s'=>r=w/\EP X pins σ Q r s') pl.isList KM (by rw[Qy]<;>lia) KM (by rw[hj];simpa using ew) ⟨rfl,fin⟩) hs
theorem d9:IxR X (Kd X.K):=by
 intro value slice pins s σ H x y v u Q I rx ry h hs;obtain⟨p,xs,i,z,rfl,rfl,hq,he,q⟩:=h;cases rx;obtain⟨t,rfl⟩:=ry;obtain⟨its,r,pl,hz⟩:=I.tuple hq;obtain⟨j,h1,h2,h3,h4,h5⟩:=ve he;obtain⟨w,ew,rw'⟩:=r.get h2;have hl:=r.length;have hn:=ni;have fin:EP X pins σ Q w s:=⟨z,H,I,rw',q⟩
 exact subscriptTail_builtinR (x:=w) pl.typeIs slot_tuple_getitem.lookup
  (getItem_tuple (j:=j) (Q:=λr s'=>r=w/\EP X pins σ Q r s') pl KM KM (by rw[Qy,<-hl];exact h1) (by simpa using ew) ⟨rfl,fin⟩) hs
theorem Gj:IxR X Kb:=by
 intro value slice pins s σ H x y v u Q I rx ry h hs;obtain⟨z,i,c,rfl,rfl,hz,he,q⟩:=h;obtain⟨t,rfl⟩:=rx;obtain⟨t',rfl⟩:=ry;obtain⟨j,h1,h2,h3,h4,h5⟩:=ve he;have hl:z.cps.toList.length=z.length:=by simp[Str.length]
 rw[hl] at h1 h4 h5;have hn:=ni
 exact tail_any (typeIs_str s z t) slot_str_getitem.lookup (getItem_str (c:=c) (by
  have e1:decide (i < -(2 ^ 63:Int))=false:=decide_eq_false KM;have e2:decide (i>=2 ^ 63)=false:=decide_eq_false KM
  rw[e1,e2,Bool.or_false]) (by rw[h1];simpa using h2) ⟨.str ⟨#[c]⟩,H,I.tok _,⟨_,rfl⟩,q⟩) hs
theorem xW(its:List Qa)(n j:Nat)(u:Qa):Obj.mapSeq (·.setIfInBounds j u) { cls:=.type "list",data:=.seq its.toArray n }={ cls:=.type "list",data:=.seq (its.set j u).toArray n }:=by
 simp[Obj.mapSeq]
theorem Inv.lst{pins:List Vz}{σ:St}{H:Hp}{s:Qd}{p:Addr}{xs:List V}(I:Inv X pins σ H s)(h:H p=some (.lst xs)) :
  ∃(its:List Qa) (n:Nat),bu xs its/\s.heap.get? p=some { cls:=.type "list",data:=.seq its.toArray n }/\xs.length<=Qk:=by
 obtain⟨z,its,n,r,e⟩:=I.hok p _ h;exact⟨its,n,r,e,z⟩
theorem Inv.lstUpd{pins:List Vz}{σ:St}{H:Hp}{s:Qd}{p:Addr}{xs ys:List V}{its its':List Qa}{n n':Nat}{f:Obj->Obj}(I:Inv X pins σ H s)(h:H p=some (.lst xs))
  (ho:s.heap.get? p=some { cls:=.type "list",data:=.seq its.toArray n }) (hf:f { cls:=.type "list",data:=.seq its.toArray n }={ cls:=.type "list",data:=.seq its'.toArray n' }) (r:bu ys its') (hz:ys.length<=Qk) (t:Nat) :
  Inv X pins σ (upd H p (.lst ys)) { s with heap:=s.heap.update p f,toks:=t }:=by
 have e:(s.heap.update p f).get? p=some { cls:=.type "list",data:=.seq its'.toArray n' }:=by
  rw[Zm f ho (by rw[hf]<;>rfl),hf]
 refine I.write (x:=p) (e:=p) (by rw[h];trivial) (.inl rfl) (λb u hb q=>(QG _ _ (Ne.symm hb)).trans q) ⟨_,e⟩ ?_;exact⟨hz,its',n',r,e⟩
noncomputable def Iy:V->V->V->Hp->(Hp->Prop)->Prop:=λo i v H Q=>∃p xs k j,o=.ref p/\i=.int k/\H p=some (.lst xs)/\ixN xs.length k=some j/\Q (upd H p (.lst (xs.set j v)))
theorem B1:Jg X Iy:=by
 intro pins s σ H o i v ov iv u Q I ro ri rv h;obtain⟨p,xs,k,j,rfl,rfl,hp,hj,q⟩:=h;cases ro;obtain⟨t,rfl⟩:=ri;obtain⟨its,n,r,ho,hz⟩:=I.lst hp;obtain⟨h1,h2,h3,h4⟩:=zN hj;have hl:=r.length;have hn:=ni
 have I':Inv X pins σ (upd H p (.lst (xs.set j v))) { s with heap:=s.heap.update p (Obj.mapSeq (·.setIfInBounds j u)) }:=
  I.lstUpd hp ho (xW its n j u) (r.set rv j) (by rw[ZC];exact hz) s.toks
 by_cases h0:0<=k
 ·have hk:k.toNat=j:=by
   rw[seqIndex_of h0 h4] at h1;exact Option.some.inj h1
  exact PySem.W.ki_setAt ho h0 KM (by rw[Qy,<-hl];exact h4) (by rw[hk];exact⟨_,I',q⟩)
 ·have hk:(k+(its.toArray.size:Int)).toNat=j:=by
   rw[seqIndex_neg KM h3] at h1;rw[Qy,<-hl];exact Option.some.inj h1
  exact PySem.W.ki_setBack ho KM (by rw[Qy,<-hl];exact h3) KM (by rw[hk];exact⟨_,I',q⟩)
theorem u9(lo hi:Option Int)(n:Nat):(Vm lo hi none n).1=((HT.sIx n 0 lo:Nat):Int)/\(Vm lo hi none n).2.1=((HT.sIx n n hi:Nat):Int)/\(Vm lo hi none n).2.2=1:=by
 refine⟨?_,?_,rfl⟩
 ·cases lo with
  |none=>simp[Vm,HT.sIx]
  |some i=>
   simp only[Vm,HT.sIx,Option.getD_none,show(1:Int)>0 by decide,if_true]
   by_cases h:i<0
   ·simp only[h,if_true]<;>lia
   ·simp only[h,if_false]<;>lia
 ·cases hi with
  |none=>simp[Vm,HT.sIx]
  |some i=>
   simp only[Vm,HT.sIx,Option.getD_none,show(1:Int)>0 by decide,if_true]
   by_cases h:i<0
   ·simp only[h,if_true]<;>lia
   ·simp only[h,if_false]<;>lia
theorem sH(its:List Qa)(lo hi:Option Int):slicePick its.toArray lo hi none=((its.drop (HT.sIx its.length 0 lo)).take (HT.sIx its.length its.length hi-HT.sIx its.length 0 lo)).toArray:=by
 obtain⟨h1,h2,h3⟩:=u9 lo hi its.toArray.size;unfold slicePick;rw[h1,h2,h3];simp only[sliceRange_one,pick_run,Qy]<;>rfl
noncomputable def J2(K:Qc):V->Option Int->Option Int->Hp->VK->Prop:=λx lo hi H Q=>∃a xs,x=.ref a/\SqL K H a xs/\∀p,H p=none->Q (.ref p) (upd H p (.lst (uU xs lo hi)))
theorem DZ:SlR X (J2 X.K):=by
 intro pins s σ H x v vl vu lo hi sl Q I rx hs pl pu h;obtain⟨a,xs,rfl,hx,q⟩:=h;cases rx;obtain⟨its,r,ht,hz⟩:=I.list hx;have hlen:=r.length;refine⟨"list",_,slot_list_getitem.lookup,ht.isList.typeIs,?_⟩;refine wpAny_getItem_list_slice ht.isList hs pl pu .none (by simp) ?_ (by rw[Qy]<;>lia);rw[sH,<-hlen];refine⟨.ref s.heap.objs.size,_,I.laid (t':=s.toks) (o:=.lst (uU xs lo hi)) (λb ob q=>Qe _ q) (Qm _) ?_,rfl,q _ (I.hok.fresh (Qm _))⟩;exact⟨QO (qd xs lo hi) hz,_,0,(r.drop (HT.sIx xs.length 0 lo)).take (HT.sIx xs.length xs.length hi-HT.sIx xs.length 0 lo),Qq _ rfl⟩
noncomputable def kE:V->Bool
 |.non=>true
 |.bl _=>true
 |.int _=>true
 |.str _=>true
 |_=>false
noncomputable def eqV:V->V->Bool
 |.non,.non=>true
 |.bl a,.bl b=>a==b
 |.bl a,.int b=>(if a then 1 else 0)==b
 |.int a,.bl b=>a==(if b then 1 else 0)
 |.int a,.int b=>a==b
 |.str a,.str b=>a==b
 |_,_=>false
theorem yh{A:QB}{s:Qd}{y x:V}{u v:Qa}(ry:bq y u)(rx:bq x v)(fy:kE y=true)(fx:kE x=true):SeqAt.EqAt A s u v (eqV y x):=by
 cases y with
 |non=>
  cases ry;cases x with
  |non=>cases rx;exact SeqAt.EqAt.same _
  |bl b=>cases rx;exact SeqAt.EqAt.none_bool b
  |int b=>obtain⟨t,rfl⟩:=rx;exact SeqAt.EqAt.none_int b t
  |str b=>obtain⟨t,rfl⟩:=rx;exact SeqAt.EqAt.none_str b t
  |_=>exact absurd (show false=true from fx) Qp
 |bl a=>
  cases ry;cases x with
  |non=>cases rx;exact SeqAt.EqAt.bool_none a
  |bl b=>cases rx;exact SeqAt.EqAt.bool_bool a b
  |int b=>obtain⟨t,rfl⟩:=rx;exact SeqAt.EqAt.bool_int a b t
  |str b=>obtain⟨t,rfl⟩:=rx;exact SeqAt.EqAt.bool_str a b t
  |_=>exact absurd (show false=true from fx) Qp
 |int a=>
  obtain⟨t',rfl⟩:=ry;cases x with
  |non=>cases rx;exact SeqAt.EqAt.int_none a t'
  |bl b=>cases rx;exact SeqAt.EqAt.int_bool a t' b
  |int b=>obtain⟨t,rfl⟩:=rx;exact SeqAt.EqAt.int_int a t' b t
  |str b=>obtain⟨t,rfl⟩:=rx;exact SeqAt.EqAt.int_str a t' b t
  |_=>exact absurd (show false=true from fx) Qp
 |str a=>
  obtain⟨t',rfl⟩:=ry;cases x with
  |non=>cases rx;exact SeqAt.EqAt.str_none a t'
  |bl b=>cases rx;exact SeqAt.EqAt.str_bool a t' b
  |int b=>obtain⟨t,rfl⟩:=rx;exact SeqAt.EqAt.str_int a t' b t
  |str b=>obtain⟨t,rfl⟩:=rx;exact SeqAt.EqAt.str_str a t' b t
  |_=>exact absurd (show false=true from fx) Qp
 |_=>exact absurd (show false=true from fy) Qp
noncomputable def eqU(x:V)(u:Qa):Bool:=match u with
 |.none=>eqV .non x
 |.bool b=>eqV (.bl b) x
 |.int i _=>eqV (.int i) x
 |.str z _=>eqV (.str z) x
 |_=>false
theorem BG{x y:V}{u:Qa}(r:bq y u)(f:kE y=true):eqU x u=eqV y x:=by
 cases y with
 |non=>cases r;rfl
 |bl b=>cases r;rfl
 |int i=>obtain⟨t,rfl⟩:=r;rfl
 |str z=>obtain⟨t,rfl⟩:=r;rfl
 |_=>exact absurd (show false=true from f) Qp
theorem oq{x:V}:∀{xs:List V} {us:List Qa},bu xs us->xs.all kE=true->us.any (eqU x)=xs.any λy=>eqV y x
 |_,_,.nil,_=>rfl
 |y::xs,u::us,.cons r t,f=>by
  rw[Vi,Vf] at f;rw[List.any_cons,List.any_cons,BG r f.1,oq t f.2]
theorem lV{A:QB}{s:Qd}{x:V}{v:Qa}(rx:bq x v)(fx:kE x=true):∀{xs:List V} {us:List Qa},bu xs us->xs.all kE=true->∀u∈us,SeqAt.EqAt A s u v (eqU x u)
 |_,_,.nil,_=>λu hu=>by cases hu
 |y::xs,u::us,.cons r t,f=>λu' hu=>by
  rw[Vi,Vf] at f;rcases Ql.mp hu with rfl | hu
  ·rw[BG r f.1];exact yh r rx f.1 fx
  ·exact lV rx fx t f.2 u' hu
noncomputable def inV(x:V)(xs:List V):Bool:=xs.any λy=>eqV y x
noncomputable def rIn(K:Qc)(neg:Bool):R2:=λx y H Q=>∃p xs,y=.ref p/\(SqL K H p xs\/SqT K H p xs)/\kE x=true/\xs.all kE=true/\Q (.bl (if neg then !inV x xs else inV x xs)) H
theorem zY:OpR X (QF .In) (rIn X.K false):=by
 intro pins s σ H x y v u Q I rx ry h;obtain⟨p,xs,rfl,hq,fx,fs,q⟩:=h;cases ry;rcases hq with hq | hq
 ·obtain⟨its,r,pl,hz⟩:=I.list hq
  refine SeqAt.in_listAt (eqU x) pl.isList (λw hw=>lV rx fx r fs w (by simpa using hw)) ⟨.bl _,H,I,rfl,?_⟩;rw[show its.toArray.any (eqU x)=its.any (eqU x) by simp,oq r fs];exact q
 ·obtain⟨its,r,pl,hz⟩:=I.tuple hq
  refine SeqAt.in_tupleAt (eqU x) pl (λw hw=>lV rx fx r fs w (by simpa using hw)) ⟨.bl _,H,I,rfl,?_⟩;rw[show its.toArray.any (eqU x)=its.any (eqU x) by simp,oq r fs];exact q
theorem uI:OpR X (QF .NotIn) (rIn X.K true):=by
 intro pins s σ H x y v u Q I rx ry h;obtain⟨p,xs,rfl,hq,fx,fs,q⟩:=h;cases ry;rcases hq with hq | hq
 ·obtain⟨its,r,pl,hz⟩:=I.list hq
  refine SeqAt.notIn_listAt (eqU x) pl.isList (λw hw=>lV rx fx r fs w (by simpa using hw)) ⟨.bl _,H,I,rfl,?_⟩;rw[show its.toArray.any (eqU x)=its.any (eqU x) by simp,oq r fs];exact q
 ·obtain⟨its,r,pl,hz⟩:=I.tuple hq
  refine SeqAt.notIn_tupleAt (eqU x) pl (λw hw=>lV rx fx r fs w (by simpa using hw)) ⟨.bl _,H,I,rfl,?_⟩;rw[show its.toArray.any (eqU x)=its.any (eqU x) by simp,oq r fs];exact q
theorem eR:iW X (.builtin "len") (λxs H Q=>∃p ys,xs=[.ref p]/\(SqL X.K H p ys\/SqT X.K H p ys)/\Q (.int ys.length) H):=by
 intro pins s σ H xs us Q I r h;obtain⟨p,ys,rfl,hq,q⟩:=h;obtain⟨u,rfl,rx⟩:=pV r;cases rx;have hn:=ni;rcases hq with hq | hq
 ·obtain⟨its,r',pl,hz⟩:=I.list hq
  have hlen:=r'.length;exact Calls.call_len_list pl.isList (by simp only[Qy]<;>lia) ⟨.int ys.length,H,I.tok _,⟨s.toks+1,by rw[Qy,hlen]⟩,q⟩
 ·obtain⟨its,r',pl,hz⟩:=I.tuple hq
  have hlen:=r'.length;exact len_tuple pl (by simp only[Qy]<;>lia) ⟨.int ys.length,H,I.tok _,⟨s.toks+1,by rw[Qy,hlen]⟩,q⟩
theorem vi:iW X (.builtin "len") (λxs H Q=>∃z,xs=[.str z]/\z.length<=Qk/\Q (.int z.length) H):=by
 intro pins s σ H xs us Q I r h;obtain⟨z,rfl,hz,q⟩:=h;obtain⟨u,rfl,t,rfl⟩:=pV r;have hn:=ni;exact len_str KM ⟨.int z.length,H,I.tok _,⟨_,rfl⟩,q⟩
theorem cN:iW X (.type "list") (λxs H Q=>∃p ys,xs=[.ref p]/\(SqL X.K H p ys\/SqT X.K H p ys)/\∀l,H l=none->Q (.ref l) (upd H l (.lst ys))):=by
 intro pins s σ H xs us Q I r h;obtain⟨p,ys,rfl,hq,q⟩:=h;obtain⟨u,rfl,rx⟩:=pV r;cases rx
 have fin:∀(its:List Qa),bu ys its->ys.length<=Qk->∀(h':Heap) (c':Nat),(∀b o',s.heap.get? b=some o'->h'.get? b=some o')->
   h'.get? s.heap.objs.size=some { cls:=.type "list",dict:=none,data:=.seq its.toArray c',slots:=#[] }->EP X pins σ Q (.ref s.heap.objs.size) { s with heap:=h' }:=λits r' hz h' c' kp e=>
  ⟨.ref s.heap.objs.size,_,I.laid (t':=s.toks) kp (Qm _) (show cW X.prog X.w _ h' _ (.lst ys) from⟨hz,its,c',r',e⟩),rfl,q _ (I.hok.fresh (Qm _))⟩
 rcases hq with hq | hq
 ·obtain⟨its,r',pl,hz⟩:=I.list hq
  have hlen:=r'.length;obtain⟨o,ho,hc,n,hd⟩:=pl.isList;exact call_list_seq p (.inl rfl) ho hc hd (λh' c' kp e=>fin its r' hz h' c' kp e) (by simp only[Qy]<;>lia)
 ·obtain⟨its,r',pl,hz⟩:=I.tuple hq
  have hlen:=r'.length;obtain⟨o,ho,hc,n,hd⟩:=pl;exact call_list_seq p (.inr rfl) ho hc hd (λh' c' kp e=>fin its r' hz h' c' kp e) (by simp only[Qy]<;>lia)
theorem mC:iW X (.type "tuple") (λxs H Q=>∃p ys,xs=[.ref p]/\((SqL X.K H p ys/\∀l,H l=none->Q (.ref l) (upd H l (.tup ys)))\/(SqT X.K H p ys/\Q (.ref p) H))):=by
 intro pins s σ H xs us Q I r h;obtain⟨p,ys,rfl,h⟩:=h;obtain⟨u,rfl,rx⟩:=pV r;cases rx;rcases h with⟨hq,q⟩ | ⟨hq,q⟩
 ·obtain⟨its,r',pl,hz⟩:=I.list hq
  have hlen:=r'.length;refine call_tuple_list pl.isList (λh' kp=>?_) (by simp only[Qy]<;>lia);have I1:Inv X pins σ H { s with heap:=h' }:=I.kept (t':=s.toks) kp
  have I2:Inv X pins σ (upd H h'.objs.size (.tup ys)) { s with heap:=h'.push { cls:=.type "tuple",data:=.seq its.toArray } }:=
   I1.laid (t':=s.toks) (λb o e=>Qe _ e) (Qm _) (show cW X.prog X.w _ _ _ (.tup ys) from⟨hz,its,r',IsTup.new _ _⟩)
  exact⟨.ref h'.objs.size,_,I2,rfl,q _ (I1.hok.fresh (Qm _))⟩
 ·obtain⟨its,r',pl,hz⟩:=I.tuple hq
  exact call_tuple_same pl ⟨.ref p,H,I,rfl,q⟩
noncomputable def tyV(K:Qc)(T:String)(x:V)(H:Hp):Prop:=match x with
 |.str _=>T = "str"
 |.int _=>T = "int"
 |.ref p=>(T = "list"/\∃xs,SqL K H p xs)\/(T = "tuple"/\∃o,K.lookup p=some o/\o.cls=.type "tuple"/\o.dict=none)\/
   (T = "dict"/\((∃kvs,H p=some (.dK kvs))\/∃kvs,H p=some (.dT kvs)))\/(T = "set"/\∃S n,H p=some (.set S n))
 |_=>False
theorem F4{pins:List Vz}{σ:St}{H:Hp}{s:Qd}{T:String}{x:V}{v:Qa}(I:Inv X pins σ H s)(r:bq x v)(ty:tyV X.K T x H) :
  s.TypeIs v T/\∀a,v=.ref a->∃ob,s.heap.get? a=some ob/\ob.dict=none:=by
 cases x with
 |str z=>
  obtain⟨t,rfl⟩:=r;cases(show T = "str" from ty);exact⟨typeIs_str s z t,λ_ e=>nomatch e⟩
 |int i=>
  obtain⟨t,rfl⟩:=r;cases(show T = "int" from ty);exact⟨typeIs_int s i t,λ_ e=>nomatch e⟩
 |ref p=>
  cases r;rcases ty with⟨rfl,xs,hq⟩ | ⟨rfl,o,hk,hc,hd⟩ | ⟨rfl,hk⟩ | ⟨rfl,S,n,hk⟩
  ·obtain⟨its,_,pl,_⟩:=I.list hq
   refine⟨pl.isList.typeIs,λa e=>?_⟩;cases e;obtain⟨o,n,e,c,hd,_⟩:=pl;exact⟨o,e,hd⟩
  ·refine⟨⟨o,I.kIn p o hk,hc⟩,λa e=>?_⟩
   cases e;exact⟨o,I.kIn _ o hk,hd⟩
  ·have z:∃o,s.heap.get? p=some o/\o.ExactDict:=by
    rcases hk with⟨kvs,hk⟩ | ⟨kvs,hk⟩
    ·obtain⟨_,_,_,_,o,_,_,e,ex,_⟩:=I.hok p _ hk
     exact⟨o,e,ex⟩
    ·obtain⟨_,_,_,_,o,_,_,e,ex,_⟩:=I.hok p _ hk
     exact⟨o,e,ex⟩
   obtain⟨o,e,ex⟩:=z;refine⟨⟨o,e,ex.1⟩,λa e2=>?_⟩;cases e2;exact⟨o,e,ex.2.1⟩
  ·obtain⟨o,_,_,_,e,ex,_⟩:=I.hok p _ hk
   refine⟨⟨o,e,ex.1⟩,λa e2=>?_⟩;cases e2;exact⟨o,e,ex.2.1⟩
 |_=>exact QR ty
noncomputable def tBM(K:Qc)(T:String)(r:V->List V->Hp->VK->Prop)(to:TE)(t:TA):TE:=λσ H Q=>to σ H λx H1=>tyV K T x H1/\t σ H1 λxs H2=>r x xs H2 Q
variable{o e:Expr}{es:List Expr}{to:TE}{t:TA}{name:Str}{apos cpos:Pos}{T id:String}{r:V->List V->Hp->VK->Prop}
theorem tf(pa:PlainAttrs T)(slot:Slot T name id)(hty:typeOf (.builtin id)=pure (.type "method_descriptor"))(hm:MtR X id r)(ho:PE X o to)(ha:PA X (e::es) t)
  (hbase:Kx o name X.env (eval o X.env)=eval o X.env:=by rfl)
  (hfew:((QP cpos (Qg (e::es) X.env)).all (λx=>!x.1)&&(ZN cpos (Zg [] X.env)).all (λx=>x.1.isSome)
   && decide ((e::es).length+([]:List Keyword).length+(if([]:List Keyword).isEmpty then 0 else 1)<30))=true:=by rfl)
  (hline:(apos.endLine==cpos.line)=true:=by rfl) (hs:Qg (e::es) X.env=(false,eval e X.env)::Qg es X.env:=by rfl) (hplain:(QP cpos (Qg es X.env)).any (·.1)=false:=by rfl) :
  PE X (.Call (.Attribute o name apos) (e::es) [] cpos) (tBM X.K T r to t):=by
 intro pins s σ H Q I h;refine wpAny_Call_method_late hbase hfew hline rfl (thn (ho pins s σ H _ I h) λv s1 ⟨x,H1,I1,r1,ty,q1⟩=>?_);obtain⟨h1,h2⟩:=F4 I1 r1 ty;refine⟨T,id,pa,slot,hty,h1,h2,?_⟩;have hA:=ha cpos pins s1 σ H1 _ I1 q1;rw[hs] at hA ⊢;refine Calls.callWith_builtin (by show(false || (QP cpos (Qg es X.env)).any (·.1))=false;rw[hplain]<;>rfl) (Calls.evalArgs_plain ?_);exact thn hA λus s2 ⟨vs,H2,I2,r2,q2⟩=>hm pins s2 σ H2 x vs v us Q I2 r1 r2 q2
end
noncomputable def MtM(X:Cx)(id:String)(r:V->List V->Hp->VK->Prop):Prop:=
 ∀(pins:List Vz) (s:Qd) (σ:St) (H:Hp) (x:V) (xs:List V) (v:Qa) (us:List Qa) (Q:VK),Inv X pins σ H s->bq x v->bu xs us->r x xs H Q->
  Qf KF X.A (call (.builtin id) (v::us)) (EP X pins σ Q) X.xe s
theorem bu.one:∀{x:V} {us:List Qa},bu [x] us->∃u,us=[u]/\bq x u:=λh=>by
 cases h with | cons r t=>cases t;exact⟨_,rfl,r⟩
theorem bu.two:∀{x y:V} {us:List Qa},bu [x,y] us->∃u v,us=[u,v]/\bq x u/\bq y v:=λh=>by
 cases h with | cons r t=>cases t with | cons q t=>cases t;exact⟨_,_,rfl,r,q⟩
section
variable{X:Cx}{pins:List Vz}{σ:St}{H:Hp}{s:Qd}{l b:Addr}{xs ys zs:List V}
theorem Inv.lset{its its':List Qa}{n:Nat}{f:Array Qa->Array Qa}{t':Nat}(I:Inv X pins σ H s)(hH:H l=some (.lst xs))
  (e:s.heap.get? l=some { cls:=.type "list",data:=.seq its.toArray n }) (hf:f its.toArray=its'.toArray) (hv:bu ys its') (hz:ys.length<=Qk) :
  Inv X pins σ (upd H l (.lst ys)) { s with heap:=s.heap.update l (Obj.mapSeq f),toks:=t' }:=by
 have q:=PySem.IsL.update e f;rw[hf] at q;refine I.write (x:=l) (e:=l) (by rw[hH];exact trivial) (.inl rfl) (λb' u hb hu=>(QG s.heap (Obj.mapSeq f) (Ne.symm hb)).trans hu) ⟨_,q⟩ ?_;exact⟨hz,its',_,hv,q⟩
theorem Inv.lnew{its:List Qa}{t':Nat}(I:Inv X pins σ H s)(hv:bu ys its)(hz:ys.length<=Qk) :
  Inv X pins σ (upd H s.heap.objs.size (.lst ys)) { s with heap:=s.heap.push { cls:=.type "list",data:=.seq its.toArray },toks:=t' }:=
 I.laid (λ_ _ q=>Qe _ q) (Qm _) ⟨hz,its,0,hv,Qq _ rfl⟩
theorem Inv.fresh(I:Inv X pins σ H s):H s.heap.objs.size=none:=I.hok.fresh (Qm _)
theorem Inv.lstM(I:Inv X pins σ H s)(hH:H l=some (.lst xs)):xs.length<=Qk/\∃(its:List Qa) (n:Nat),bu xs its/\xs.length=its.length/\s.heap.get? l=some { cls:=.type "list",data:=.seq its.toArray n }:=by
 obtain⟨z,its,n,r,e⟩:=I.hok l _ hH;exact⟨z,its,n,r,r.length,e⟩
end
section
variable{X:Cx}
noncomputable def Er:V->List V->Hp->VK->Prop:=λx vs H Q=>∃l xs y,x=.ref l/\vs=[y]/\H l=some (.lst xs)/\xs.length<Qk/\Q .non (upd H l (.lst (xs++[y])))
theorem iJ:MtM X "list.append" Er:=by
 intro pins s σ H x vs v us Q I rx rv h;obtain⟨l,xs,y,rfl,rfl,hH,hz,q⟩:=h;cases rx;obtain⟨u,rfl,ru⟩:=rv.one;obtain⟨z,its,n,r,hl,e⟩:=I.lstM hH;refine call_meets F.slot_list_append ⟨_,e,rfl⟩ F.entry_list_append (F.args_list_append_2 _ _) (PySem.list_append l its.toArray n u (by rw[Qy];lia)) ⟨e,?_⟩;refine⟨.non,_,I.lset (its':=its++[u]) hH e (by simp) (r.append (.cons ru .nil)) ?_,rfl,q⟩;rw[QI,Zf]
 lia
noncomputable def JC:R2:=λx y H Q=>∃l b xs zs,x=.ref l/\y=.ref b/\H l=some (.lst xs)/\H b=some (.lst zs)/\xs.length+zs.length<=Qk/\∀p,H p=none->Q (.ref p) (upd H p (.lst (xs++zs)))
theorem t_:OpR X (Zh .Add) JC:=by
 intro pins s σ H x y v u Q I rx ry h;obtain⟨l,b,xs,zs,rfl,rfl,hH,hB,hz,q⟩:=h;cases rx;cases ry;obtain⟨z,its,n,r,hl,e⟩:=I.lstM hH;obtain⟨z2,its2,n2,r2,hl2,e2⟩:=I.lstM hB;refine PySem.P.add_list e e2 ?_ (by rw[Qy,Qy];lia);have ea:its.toArray++its2.toArray=(its++its2).toArray:=by simp
 rw[ea];exact⟨.ref _,_,I.lnew (t':=s.toks) (r.append r2) (by rw[QI];lia),rfl,q _ I.fresh⟩
end
end L2
namespace Att
open PySem PySem.W PySem.Calls PyProof.Rows
theorem qq{P:Params}{h:Heap}:∀(ns:List Int) (vs:List Qa),WellAll P h vs (ns.map WData.int)->IntsAre vs ns:=by
 intro ns
 induction ns with
 |nil=>
  intro vs w;rw[List.map_nil] at w;cases w;exact .nil
 |cons n ns ih=>
  intro vs w;rw[Q3] at w;cases w with
  |cons a b=>
   cases a;exact .cons _ _ (ih _ b)
theorem AQ{l:OpenLaw}{n:Nat}(hn:l.most=some n){P:Params}{h:Heap}{args:List WData}{vals:List Qa}
  (hpre:l.row.toRowW.claim.pre args=true) (hwl:WellAll P h vals args) :
  ∃a vs ns,vals=[Qn a]/\args=[WData.list (ns.map WData.int)]/\h.get? a=some { cls:=.type "list",data:=.seq vs.toArray }/\IntsAre vs ns/\ns.length<=n:=by
 have hsh:WShape.hasAll [] args [.list .int]=true:=(pre_splitW hpre).1;have hc:l.pre.holds [] { args:=args }=true:=(pre_splitW hpre).2;obtain⟨d,r,rfl,h1,h2⟩:=hasAllW_cons hsh;obtain rfl:=hasAllW_nil h2;obtain⟨xs,rfl,h3⟩:=hasW_list h1;obtain⟨ns,rfl⟩:=items_int h3
 have hlen:ns.length<=n:=by
  unfold OpenLaw.pre at hc
  have h4:(WTm.not (.lt (.lit (.int (n:Int))) (.len (.arg 0)))).holds [] { args:=[.list (ns.map .int)] }=true:=by
   have h4:=(holds_andW hc).1;rw[hn] at h4;exact h4
  have h5:=condW_of h4 (w_not (w_lt w_lit (w_len_list (w_arg rfl))));rw[Qt] at h5;refine Nat.le_of_not_lt λq=>?_;have q':(n:Int)<((ns.length:Nat):Int):=by lia
  first
   |(rw[decide_eq_true q'] at h5;exact absurd h5 (by decide))
   |(simp at h5;lia)
 cases hwl with
 |cons w1 w2=>
  cases w2;cases w1 with
  |list ho hall=>exact⟨_,_,ns,rfl,rfl,ho,qq ns _ hall,hlen⟩
theorem zV(l:OpenLaw)(args:List WData):l.row.toRowW.claim.post args (.bool true) args=true:=
 postW_of (r:=l.row.toRowW) (X:=(true==true))
  (show WShape.has [] (.bool true) .bool=true by first | rfl | decide | simp[WShape.has,WShape.arms,WShape.armsAll])
  (show(WTm.eq .res (.lit (.bool true))).value [] { args:=args,res:=some (.bool true),after:=args }=some (.bool (true==true)) from w_eq_bool (w_res rfl) w_lit) rfl
theorem vT{l:OpenLaw}{n:Nat}{q:Qr}{loose:List Str}{XP:(Str->Option Qa)->Heap->Prop}{YP:Qx->Heap->Prop}{d:DefRec}
  (hn:l.most=some n) (hdf:d.params.defaults=[])
  (call:∀(w:Qx) (s₀ s₁:Qd) (mg mb:Str->Option Qa) (fa:Addr) (o:Obj) (pm cd doc:Qa) (a:Addr) (vs:List Qa) (ns:List Int),
   Ground q loose [] XP w s₀ mg mb s₁.heap->YP w s₁.heap->
   s₁.heap.get? fa=some o->o.data=.func (docDef d.name d.params d.body d.scope pm cd doc)->s₁.heap.CodeRec cd d.name->mg d.name=some (.ref fa)->
   s₁.heap.get? a=some { cls:=.type "list",data:=.seq vs.toArray }->IntsAre vs ns->ns.length<=n->s₁.gens=#[]->
   Ku (Qj l.prog w) callerA (.call (.ref fa) ⟨[.ref a],[]⟩) (λr s'=>r=.ok (.ret (.bool true))/\OldK s₁.heap s'.heap/\s'.os=s₁.os/\AllBare s'.gens) s₁) :
  WalkO q loose XP YP l.row.toRowW d [] (λf vs=>PySem.call f vs):=by
 intro w s₀ s₁ mg mb G Y fa o pm cd doc dV kV ho hd hcd hD hmg hg args vals as hpre hlay hrd hwl hlo;obtain rfl:dV=.none:=Dflts.none hD hdf;obtain rfl:kV=.none:=Dflts.noKw hD;obtain⟨a,vs,ns,rfl,rfl,hobj,hints,hlen⟩:=AQ hn hpre hwl;refine enter_call (KS (call w s₀ s₁ mg mb fa o pm cd doc a vs ns G Y ho (fd_plain hd) hcd hmg hobj hints hlen hg) λr s' hq=>?_);obtain⟨rfl,h2,h3,h4⟩:=hq;exact⟨.inl ⟨.bool true,.bool true,[],rfl,λ_=>rfl,.bool true,zV l _,λ_=>⟨KC,λ_ hm=>(nomatch hm)⟩⟩,h2,h3,h4⟩
end Att
namespace L2
open PySem PySem.Spec PyProof.Rows
theorem sQ:∀{vs:List Qa} {ns:List Int},IntsAre vs ns->bu (ns.map V.int) vs
 |_,_,.nil=>.nil
 |_,_,.cons n t h=>.cons ⟨t,rfl⟩ (sQ h)
noncomputable def Hg(H:Hp):Prop:=∀b,H b=none\/∃o xs,H b=some (.frz o (.lst xs))
theorem Cn{P:Qr}{w:Qx}{K:Qc}{mg mb:Str->Option Qa}{CX:CXT}{k:Nat}{fa a:Addr}{fd:QY}{x:Str}{sp:Sp}{s₁:Qd}{vs:List Qa}{ns:List Int}
  (KX:K.In s₁.heap) (hns:s₁.heap.Ns Qs mg) (hb:s₁.heap.Ns builtinsNs mb) (hbb:∀x:Str,x≠"__name__"->mb x=ZW x) (hlim:s₁.heap.NoLimit) (hg:s₁.gens=#[])
  (ha:s₁.heap.get? a=some { cls:=.type "list",data:=.seq vs.toArray }) (hi:IntsAre vs ns) (hl:ns.length<=Qk) (hr:Room k callerA)
  (F:∀base:Heap,K.In base->base.Ns Qs mg->FnOk P w K mg base CX k fa fd [x] sp) (hbind:∀(s:Qd) (u:Qa),BindsTo s fd ⟨[u],[]⟩ [(x,u)])
  (hsp:∀H:Hp,Hg H->SqL K H a (ns.map V.int)->sp [.ref a] H (λv _=>v=.bl true) λ_ _ _=>False)
  (hCX:∀H e s',CX [] H s₁ (λ_ _ _=>False) e s'->False) :
  Ku (Qj P w) callerA (.call (.ref fa) ⟨[.ref a],[]⟩) (λr s'=>r=.ok (.ret (.bool true))/\OldK s₁.heap s'.heap/\s'.os=s₁.os/\AllBare s'.gens) s₁:=by
 have rv:=sQ hi;have lenV:=hi.length
 have core:∀H:Hp,Hg H->SqL K H a (ns.map V.int)->HOk P w H s₁.heap->(∀b,H b≠none->b=a)->(H a≠none->K.lookup a=none)->
   Ku (Qj P w) callerA (.call (.ref fa) ⟨[.ref a],[]⟩) (λr s'=>r=.ok (.ret (.bool true))/\OldK s₁.heap s'.heap/\s'.os=s₁.os/\AllBare s'.gens) s₁:=by
  intro H hO hS hok hA hK;have base_of:∀{b:Addr} {o:Obj},s₁.heap.get? b=some o->H b=none->(uo s₁.heap H).get? b=some o:=λe n=>Bv e n
  have noA:∀{b:Addr} {o:Obj} {es:Array DictEntry} {ep:Nat},s₁.heap.get? b=some o->o.data=.dict es ep->H b=none:=λ{b o es ep} e d=>by
   cases q:H b with
   |none=>rfl
   |some u=>
    have e':b=a:=hA b (by rw[q];simp);subst e';rw[ha] at e;cases e;have d':Data.seq vs.toArray _=Data.dict es ep:=d;cases d'
  have nsK:∀{b:Addr} {m:Str->Option Qa},s₁.heap.Ns b m->(uo s₁.heap H).Ns b m:=λ{b m} ⟨o,es,ep,e,d,r⟩=>⟨o,es,ep,base_of e (noA e d),d,r⟩
  have hKb:K.In (uo s₁.heap H):=λb o e=>base_of (KX b o e) (by
   cases q:H b with
   |none=>rfl
   |some u=>
    have e':b=a:=hA b (by rw[q];simp);subst e'
    rw[hK (by rw[q];simp)] at e;cases e)
  have hM:Mod K mg (uo s₁.heap H):=⟨hKb,nsK hns,⟨mb,nsK hb,hbb⟩,let⟨mc,h1,h2⟩:=hlim;⟨mc,nsK h1,h2⟩⟩;have e0:Env0 P w K mg (uo s₁.heap H) callerA [] s₁ H:=⟨rfl,hM,λb o e=>Eg e,Nat.le_of_eq (A5 _ _),trivial,λb hb=>absurd (show b∈([]:List Addr) from hb) (by simp),hok,.of_eq hg⟩;refine KS ((F _ hKb (nsK hns)).run callerA [] s₁ H ⟨[.ref a],[]⟩ [.ref a] [.ref a] _ _ hr e0 (hbind s₁ (.ref a)) (.cons rfl .nil) (hsp H hO hS)) λr s' h=>?_;cases r with
  |error e=>exact(hCX H e s' h).elim
  |ok fl=>
   cases fl with
   |next=>exact QR h
   |brk=>exact QR h
   |cont=>exact QR h
   |ret u=>
    obtain⟨v,H',os,bare,un,hok',r',q⟩:=h;have q':v=.bl true:=q;subst q';obtain rfl:u=Ve true:=r';refine⟨rfl,OldK.of_keep λb o e=>?_,os,bare⟩;cases q:H b with
    |none=>exact un.keep b o e q (by intro z;exact absurd (show b∈([]:List Addr) from z) (by simp)) (by simp)
    |some u=>
     rcases hO b with z | ⟨ob,xs,z⟩
     ·rw[q] at z;cases z
     ·have z2:=un.frzs b ob _ z
      obtain⟨e1,_⟩:=hok b _ z;obtain⟨e2,_⟩:=hok' b _ z2;rw[e] at e1;cases e1;exact e2
 cases hk:K.lookup a with
 |some o=>
  have e:=KX a o hk;rw[ha] at e;cases e;refine core (λ_=>none) (λ_=>.inl rfl) (.inr ⟨_,vs.toArray,_,hk,rfl,rfl,rfl,by rw[Qy,lenV];exact hl,by simpa using rv⟩) (λb u z=>by have z':(none:Option HO)=some u:=z;cases z') (λb z=>absurd rfl z) λz=>absurd rfl z
 |none=>
  refine core (λb=>if b=a then some (.frz { cls:=.type "list",data:=.seq vs.toArray } (.lst (ns.map V.int))) else none) (λb=>?_) (.inl (.inr ⟨{ cls:=.type "list",data:=.seq vs.toArray },if_pos rfl⟩)) (λb u z=>?_) (λb z=>?_) λ_=>hk
  ·by_cases hb:b=a
   ·exact .inr ⟨_,_,if_pos hb⟩
   ·exact .inl (if_neg hb)
  ·by_cases hb:b=a
   ·have z':=(if_pos hb).symm.trans z
    cases z';subst hb;exact⟨ha,by rw[Qt];exact hl,vs,_,rv,ha⟩
   ·have z':=(if_neg hb).symm.trans z
    cases z'
  ·by_cases hb:b=a
   ·exact hb
   ·exact absurd (if_neg hb) z
theorem Eo{l:PySem.W.OpenLaw}{n k:Nat}{q:Qr}{loose:List Str}{XP:(Str->Option Qa)->Heap->Prop}{YP:Qx->Heap->Prop}{d:DefRec}{K:Params->Qc}{CX:Qx->CXT}{sp:Qx->Sp}{x:Str}
  (hn:l.most=some n) (hn2:n<=Qk) (hdf:d.params.defaults=[]) (hr:Room k callerA)
  (hY:∀(w:Qx) (h:Heap),YP w h->(K w.params).In h)
  (F:∀(w:Qx) (mg:Str->Option Qa) (fa:Addr) (h:Heap),(K w.params).In h->h.Ns Qs mg->mg d.name=some (.ref fa)->
   ∃fd:QY,(∀(s:Qd) (u:Qa),BindsTo s fd ⟨[u],[]⟩ [(x,u)])/\
    ∀base:Heap,(K w.params).In base->base.Ns Qs mg->FnOk l.prog w (K w.params) mg base (CX w) k fa fd [x] (sp w))
  (hsp:∀(w:Qx) (H:Hp) (a:Addr) (ns:List Int),ns.length<=n->Hg H->SqL (K w.params) H a (ns.map V.int)->sp w [.ref a] H (λv _=>v=.bl true) λ_ _ _=>False)
  (hCX:∀(w:Qx) (H:Hp) (s:Qd) (e:Qa) (s':Qd),CX w [] H s (λ_ _ _=>False) e s'->False) :
  PySem.W.WalkO q loose XP YP l.row.toRowW d [] (λf vs=>PySem.call f vs):=by
 refine Att.vT hn hdf λw s₀ s₁ mg mb fa o pm cd doc a vs ns G Y ho hd hcd hmg hobj hints hlen hg=>?_;have KX:=hY w _ Y;obtain⟨fd,hb,hF⟩:=F w mg fa _ KX G.T.g hmg;exact Cn KX G.T.g G.T.b G.T.builtins G.T.nolimit hg hobj hints (QO hlen hn2) hr hF hb (λH hO hS=>hsp w H a ns hlen hO hS) λH e s'=>hCX w H s₁ e s'
noncomputable def cj(s:Stmt):Arguments:=match s with
 |.FunctionDef _ a _ _ _ _ _ _ _ _=>a
 |_=>{ posonlyargs:=[],args:=[],vararg:=none,kwonlyargs:=[],kw_defaults:=[],kwarg:=none,defaults:=[] }
noncomputable def bc(s:Stmt):List Stmt:=match s with
 |.FunctionDef _ _ b _ _ _ _ _ _ _=>b
 |_=>[]
noncomputable def aA(s:Stmt):Scope:=match s with
 |.FunctionDef _ _ _ _ _ _ sc _ _ _=>sc
 |_=>{ kind:=.function,names:=[],isGenerator:=false,isCoroutine:=false }
noncomputable abbrev CX0:CXT:=λ_ _ _ _ _ _=>False
noncomputable abbrev E0:XK:=λ_ _ _=>False
theorem f7{X:Cx}:kb CX0 X E0:=λ_ _ _ _ _ _ _ h=>h.elim
structure Fun(K:Qc)(x qual:Str)(st:Stmt)(f:Addr)(fd:QY):Prop where
 ex:∃(oc:Qa) (od:Option Addr) (kV doc pm:Qa) (an:Option Addr) (cdv ct:Qa) (osl:Array (Option Qa)),
  fd=QQ x qual (cj st) (bc st) (aA st) .none kV doc pm an cdv ct/\K.lookup f=some ⟨oc,od,.func fd,osl⟩/\Zt K cdv qual=true
 kp:QT K (.ref f)=true
section
variable{P:Qr}{w:Qx}{K:Qc}{mg:Str->Option Qa}{base:Heap}
theorem Fun.ok{x qual:Str}{st:Stmt}{f:Addr}{fd:QY}{N ps:List Str}{k:Nat}{sp:Sp}(F:Fun K x qual st f fd)(S:FnScope N ps (aA st))(len:∀vs H Q E,sp vs H Q E->vs.length=ps.length)
  (hbody:∀(cdv:Qa) (A:QB) (outer:List Env) (s:Qd) (H:Hp) (vs:List V) (Q:VK) (E:XK),Room k (A.deeper (ZZ qual (aA st) s.heap.objs.size f cdv))->sp vs H Q E->
   ∃t,PSs (jd CX0 P w K mg base N qual (aA st) f cdv A outer s H E).nox (bc st) t/\t { nx:=λ_ H'=>Q .non H',rt:=Q } (jn N vs) H):FnOk P w K mg base CX0 (k+1) f fd ps sp:=by
 obtain⟨oc,od,kV,doc,pm,an,cdv,ct,osl,rfl,lk,hcd⟩:=F.ex;refine qk lk hcd S len λA outer s H vs Q E hr hsp=>?_;obtain⟨t,h,q⟩:=hbody cdv A outer s H vs Q E hr hsp;exact⟨t,h.nox,q⟩
theorem Fun.binds{x qual:Str}{st:Stmt}{f:Addr}{fd:QY}{ps:List Str}(F:Fun K x qual st f fd)
  (h:∀(kV doc pm:Qa) (an:Option Addr) (cdv ct:Qa) (us:List Qa),us.length=ps.length->bindArgs (QQ x qual (cj st) (bc st) (aA st) .none kV doc pm an cdv ct) ⟨us,[]⟩=pure (ps.zip us)):gj K fd ps []:=by
 obtain⟨oc,od,kV,doc,pm,an,cdv,ct,osl,rfl,lk,hcd⟩:=F.ex;exact .all (h kV doc pm an cdv ct)
theorem rT{x qual:Str}{st:Stmt}{f:Addr}{oc:Qa}{od an:Option Addr}{osl:Array (Option Qa)}{kV doc pm cdv ct:Qa}(l:K.lookup f=some ⟨oc,od,.func (QQ x qual (cj st) (bc st) (aA st) .none kV doc pm an cdv ct),osl⟩)
  (c:Zt K cdv qual=true) (k:QT K (.ref f)=true):Fun K x qual st f (QQ x qual (cj st) (bc st) (aA st) .none kV doc pm an cdv ct):=⟨⟨oc,od,kV,doc,pm,an,cdv,ct,osl,rfl,l,c⟩,k⟩
end
theorem AU{n:Nat}(h:n<=1000):n<Qk:=Kq h KE
section
variable{X:Cx}
theorem pv(i:Nat){x:Str}{pos:Pos}(hN:X.N[i]?=some x:=by rfl)(hv:Vis X.env.scope x:=by first | exact Qz rfl | exact Zn (Qz rfl) | exact Zn (Zn rfl))(hd:(x==("__debug__" : Str))=false:=by decide)
  (hcd:(x==("__classdict__" : Str))=false:=by decide):PE X (.Name x pos) (yG i):=lu hN hv hd hcd
end
theorem gu{c A B:Prop}[Decidable c](h1:c->A)(h2:¬ c->B):if c then A else B:=by
 by_cases h:c
 ·rw[if_pos h]
  exact h1 h
 ·rw[if_neg h]
  exact h2 h
noncomputable def aT(H H':Hp):Prop:=∀b o,H b=some o->H' b=some o
theorem aT.refl(H:Hp):aT H H:=λ_ _ h=>h
theorem aT.trans{H H1 H2:Hp}(a:aT H H1)(b:aT H1 H2):aT H H2:=λc o h=>b c o (a c o h)
theorem aT.free{H H':Hp}(e:aT H H'){l:Addr}(h:H' l=Option.none):H l=Option.none:=by
 cases q:H l with
 |none=>rfl
 |some o=>
  rw[e l o q] at h;cases h
theorem aT.seq{K:Qc}{H H':Hp}{a:Addr}{xs:List V}(e:aT H H')(h:SqL K H a xs):SqL K H' a xs:=by
 rcases h with(h | ⟨o,h⟩) | h
 ·exact .inl (.inl (e _ _ h))
 ·exact .inl (.inr ⟨o,e _ _ h⟩)
 ·exact .inr h
end L2
namespace Ex
open PySem PySem.Spec PyProof.Rows L2
structure Moves(fs:List Addr)(n:Nat)(H:Hp)(h h':Heap):Prop where
 keep:∀b o,h.get? b=some o->b∉fs->(b<n\/H b≠none)->h'.get? b=some o
 slot:∀b o,h.get? b=some o->b∈fs->∃sl,h'.get? b=some { o with slots:=sl }
 there:∀b o,h.get? b=some o->∃o',h'.get? b=some o'
theorem Moves.trans{fs:List Addr}{n:Nat}{H:Hp}{h1 h2 h3:Heap}(x:Moves fs n H h1 h2)(y:Moves fs n H h2 h3):Moves fs n H h1 h3 where
 keep:=λb o e z q=>y.keep b o (x.keep b o e z q) z q
 slot:=λb o e z=>let⟨_,e1⟩:=x.slot b o e z;let⟨sl,e2⟩:=y.slot b _ e1 z;⟨sl,e2⟩
 there:=λb o e=>let⟨o1,e1⟩:=x.there b o e;y.there b o1 e1
theorem Moves.un{fs:List Addr}{n:Nat}{H H':Hp}{h0 h h':Heap}(u:Un fs [] H H' h0 h)(m:Moves fs n H' h h')(hn:h0.objs.size<=n):Un fs [] H H' h0 h' where
 keep:=λb o e q z y=>m.keep b o (u.keep b o e q z y) z (.inl (QA (Qo e) hn))
 slot:=λb o e q z y=>let⟨_,e1⟩:=u.slot b o e q z y;let⟨sl,e2⟩:=m.slot b _ e1 z;⟨sl,e2⟩
 free:=u.free
 there:=λb o e y=>let⟨o1,e1⟩:=u.there b o e y;m.there b o1 e1
 tups:=u.tups
 frzs:=u.frzs
 tbls:=u.tbls
theorem Moves.hok{P:Qr}{w:Qx}{fs:List Addr}{n:Nat}{H:Hp}{h h':Heap}(m:Moves fs n H h h')(hf:∀b∈fs,H b=none)(k:HOk P w H h):HOk P w H h':=λb o e=>by
 refine(k b o e).stay (λc v hc q=>?_) (λ_ q=>q) λ_ _ q=>q
 have tr:H c≠none:=by
  rcases hc with z | z
  ·rw[z,e];exact λx=>by cases x
  ·rw[z];exact λx=>by cases x
 exact m.keep c v q (λz=>tr (hf c z)) (.inr tr)
structure XT(n:Nat)(H:Hp)(h:Heap)(a:Addr)(cls:Qa)(dx:Addr)(fl:Qa):Prop where
 ge:n<=a
 un:H a=none
 ob:∃oe vs T oT ts,h.get? a=some oe/\oe.cls=cls/\oe.dict=some dx/\oe.data=.fields vs/\vs[1]?=some (.ref T)/\n<=T/\T≠a/\H T=none/\h.get? T=some oT/\oT.data=.fields ts/\ts[3]?=some fl
structure XN(n:Nat)(H:Hp)(h:Heap)(a:Addr)(cls:Qa)(dx:Addr):Prop where
 ge:n<=a
 un:H a=none
 ob:∃oe vs,h.get? a=some oe/\oe.cls=cls/\oe.dict=some dx/\oe.data=.fields vs/\vs[1]?=some .none
noncomputable def XAt(n:Nat)(H:Hp)(h:Heap)(a:Addr)(cls:Qa)(dx:Addr):Prop:=XN n H h a cls dx\/XT n H h a cls dx .none
theorem XT.le{n n':Nat}{H:Hp}{h:Heap}{a dx:Addr}{cls fl:Qa}(x:XT n H h a cls dx fl)(l:n'<=n):XT n' H h a cls dx fl:=by
 obtain⟨g,u,oe,vs,T,oT,ts,e1,e2,e3,e4,e5,e6,e7⟩:=x;exact⟨QO l g,u,oe,vs,T,oT,ts,e1,e2,e3,e4,e5,QO l e6,e7⟩
theorem XAt.le{n n':Nat}{H:Hp}{h:Heap}{a dx:Addr}{cls:Qa}(x:XAt n H h a cls dx)(l:n'<=n):XAt n' H h a cls dx:=
 x.elim (λx=>.inl ⟨QO l x.ge,x.un,x.ob⟩) λx=>.inr (x.le l)
section
variable{M:Model}{A:QB}{E:Qa->Qd->Prop}{s:Qd}{base:Heap}{env:Env}{outer:List Env}{L a dx:Addr}{cls:Qa}{n:Nat}{H:Hp}
theorem vx{fs:List Addr}{h h':Heap}(x:Heap.SlotsOnly fs h h'):Moves fs n H h h':=
 ⟨λb o e z _=>(x.2.1 b z).trans e,λb o e _=>x.2.2 b o e,λb o e=>let⟨_,q⟩:=x.2.2 b o e;⟨_,q⟩⟩
theorem pE{fs:List Addr}{h:Heap}{b:Addr}{f:Obj->Obj}(hb:n<=b)(hu:H b=none)(hfs:b∉fs)(hat:∃o,(h.update b f).get? b=some o):Moves fs n H h (h.update b f) where
 keep:=λc o e _ q=>by
  have ne:b≠c:=λz=>by
   subst z;rcases q with q | q
   ·exact absurd q (Nat.not_lt.mpr hb)
   ·exact q hu
  rw[QG _ _ ne];exact e
 slot:=λc o e z=>⟨o.slots,by rw[QG _ _ (λq:b=c=>hfs (q▸z))];exact e⟩
 there:=λc o e=>by
  by_cases q:b=c
  ·subst q;exact hat
  ·exact⟨o,by rw[QG _ _ q];exact e⟩
theorem xK{fs:List Addr}{h:Heap}(o:Obj):Moves fs n H h (h.push o):=
 ⟨λ_ _ e _ _=>Qe _ e,λb u e _=>⟨u.slots,Qe _ e⟩,λb u e=>⟨u,Qe _ e⟩⟩
theorem rj{l:List Env}(hl:s.heap.FunFrames base l){b:Addr}{o:Obj}{vs:Array Qa}(e:s.heap.get? b=some o)(d:o.data=.fields vs):b∉frs l:=λhm=>by
 obtain⟨_,u,hu,hn⟩:=hl.mem hm;rw[e] at hu;cases hu;exact hn vs d
theorem ou{fs:List Addr}{h h':Heap}(m:Moves fs n H h h'):∀(l:List Env),(∀b∈frs l,b∈fs)->h.FunFrames base l->h'.FunFrames base l:=by
 intro l
 induction l with
 |nil=>exact λ_ _=>trivial
 |cons v r ih=>
  intro hs hl;obtain⟨hk,⟨L,o,hf,hn,ho,hd⟩,hr⟩:=hl
  have sub:∀b,b=L\/b∈frs r->b∈frs (v::r):=λb z=>by
   show b∈List.filterMap _ _;rw[Vo,hf];exact Ql.mpr z
  obtain⟨sl,e⟩:=m.slot L o ho (hs L (sub L (.inl rfl)));exact⟨hk,⟨L,_,hf,hn,e,hd⟩,ih (λb z=>hs b (sub b (.inr z))) hr⟩
theorem vM{o:Obj}{f:Array Qa->Array Qa}:(K4 f o).dict=o.dict:=by
 obtain⟨c,d,dt,sl⟩:=o;cases dt<;>rfl
theorem jN{l:List Env}{fl:Qa}{Q:Unit->Qd->Prop}(hl:s.heap.FunFrames base l)(x:XT n H s.heap a cls dx fl)
  (hq:∀h',Moves (frs l) n H s.heap h'->XT n H h' a cls dx .none->Q () { s with heap:=h' }):Qf M A (setFlight (.ref a) none) Q E s:=by
 obtain⟨g,u,oe,vs,T,oT,ts,ea,ec,ed,edat,e1,gT,ne,uT,eT,edT,e3⟩:=x;have i3:3<ts.size:=(Ky.mp e3).1;unfold setFlight;refine Qb (Q5 ea edat e1 ?_);rw[if_pos (by simp:(Qn T != Q0)=true)];have self:=Zm (K4 (·.setIfInBounds 3 Q0)) eT (Vc (ZU edT _));refine wpAny_setField eT edT i3 (hq _ (pE gT uT (rj hl eT edT) ⟨_,self⟩) ⟨g,u,oe,vs,T,_,_,?_,ec,ed,edat,e1,gT,ne,uT,self,ZU edT _,?_⟩)
 ·rw[QG _ _ ne];exact ea
 ·simp[i3]
theorem xg{head:Qa}{had:Bool}{oe:Obj}{vs:Array Qa}{Q:Unit->Qd->Prop}(hfr:A.frames=some (env::outer))(hl:s.heap.FunFrames base (env::outer))(hf:env.frame=some L)
  (hH:∀b,s.heap.objs.size<=b->H b=none) (g:n<=a) (u:H a=none) (ea:s.heap.get? a=some oe) (edat:oe.data=.fields vs) (i1:1<vs.size)
  (hq:∀h',Moves (frs (env::outer)) n H s.heap h'->XT n H h' a oe.cls (oe.dict.getD 0) (rawInt L)->(∃o,h'.get? a=some o/\o.dict=oe.dict)->Q () { s with heap:=h' }) (hdx:∃d,oe.dict=some d) :
  Qf M A (do let fo<-frameOf env;let pl<-entryPlaceOf L had;let b<-EntryCells.newEntry head fo .none (rawInt L) .none pl;setField (.ref a) 1 b) Q E s:=by
 refine Qb (wpAny_frameOf_fun hfr hl hf λh1 hs=>Qb (wpAny_entryPlaceOf λpl hpl=>?_));unfold EntryCells.newEntry;unfold newFields;refine Qb (Zl (?_) (hpl.sizeOk5 _ _ _ _ _));have naf:a∉frs (env::outer):=rj hl ea edat;have a1:h1.get? a=some oe:=(hs.2.1 a naf).trans ea;generalize hts:([head,Qn L,Q0,rawInt L,Q0]++(if pl.isEmpty then Z9 6 Q0 else pl)).toArray=ts;have t3:ts[3]?=some (rawInt L):=by rw[<-hts];simp
 have a2:(h1.push { cls:=.type "traceback",dict:=none,data:=.fields ts }).get? a=some oe:=Qe _ a1;have neT:a≠h1.objs.size:=QC (Qo a1);have selfA:=Zm (K4 (·.setIfInBounds 1 (Qn h1.objs.size))) a2 (Vc (ZU edat _));have sz:h1.objs.size=s.heap.objs.size:=hs.1;refine wpAny_setField a2 edat i1 (hq _ ((vx hs).trans ((xK _).trans (pE g u naf ⟨_,selfA⟩))) ?_ ⟨_,selfA,?_⟩)
 ·refine⟨g,u,_,_,h1.objs.size,_,ts,selfA,?_,?_,ZU edat _,by simp[i1],?_,Ne.symm neT,hH _ (Nat.le_of_eq sz.symm),(QG _ _ neT).trans (Qq _ rfl),rfl,t3⟩
  ·exact Obj.cls_mapFields _ _
  ·obtain⟨d,hd⟩:=hdx
   rw[vM,hd];rfl
  ·exact QO g (Nat.le_of_lt (Qo a1))
 ·exact vM
theorem uM{Q:Unit->Qd->Prop}(hfr:A.frames=some (env::outer))(hl:s.heap.FunFrames base (env::outer))(hf:env.frame=some L)(hH:∀b,s.heap.objs.size<=b->H b=none)(x:XAt n H s.heap a cls dx)
  (hq:∀h',Moves (frs (env::outer)) n H s.heap h'->XT n H h' a cls dx (rawInt L)->Q () { s with heap:=h' }):Qf M A (noteFrame (.ref a) env) Q E s:=by
 unfold noteFrame;simp only[hf];rcases x with⟨g,u,oe,vs,ea,ec,ed,edat,e1⟩ | ⟨g,u,oe,vs,T,oT,ts,ea,ec,ed,edat,e1,gT,ne,uT,eT,edT,e3⟩
 ·refine Qb (Q5 ea edat e1 ?_)
  rw[if_neg KE];refine xg (n:=n) (H:=H) hfr hl hf hH g u ea edat (Ky.mp e1).1 (λh' m x _=>hq h' m ?_) ⟨_,ed⟩;rw[ec,ed] at x;exact x
 ·have i3:3<ts.size:=(Ky.mp e3).1
  refine Qb (Q5 ea edat e1 ?_);rw[if_pos (by simp:(Qn T != Q0)=true)];refine Qb (Q5 eT edT e3 ?_);rw[if_neg (by simp[rawInt]:¬ (Q0==rawInt L)=true)];have self:=Zm (K4 (·.setIfInBounds 3 Q0)) eT (Vc (ZU edT _));have mv:Moves (frs (env::outer)) n H s.heap (s.heap.update T (K4 (·.setIfInBounds 3 Q0))):=pE gT uT (rj hl eT edT) ⟨_,self⟩;refine Qb (wpAny_setField eT edT i3 ?_);have ea':=(QG s.heap (K4 (·.setIfInBounds 3 Q0)) ne).trans ea;refine xg (n:=n) (H:=H) (base:=base) (s:={ s with heap:=s.heap.update T (K4 (·.setIfInBounds 3 Q0)) }) hfr ?_ hf (λb hb=>hH b ?_) g u ea' edat (Ky.mp e1).1 (λh' m x _=>hq h' (mv.trans m) ?_) ⟨_,ed⟩
  ·refine hl.of_keeps λb o e nf=>⟨o,?_,rfl⟩
   rw[QG _ _ (λz:T=b=>nf ts (by subst z;rw[eT] at e;cases e;exact edT))];exact e
  ·have:=hb
   rw[Heap.size_after_update] at this;exact this
  ·rw[ec,ed] at x
   exact x
theorem Cu{Q:Unit->Qd->Prop}(hfr:A.frames=some (env::outer))(hl:s.heap.FunFrames base (env::outer))(hf:env.frame=some L)(hH:∀b,s.heap.objs.size<=b->H b=none)(x:XAt n H s.heap a cls dx)
  (hq:∀h',Moves (frs (env::outer)) n H s.heap h'->XAt n H h' a cls dx->Q () { s with heap:=h' }):Qf M A (leaving env (.ref a)) Q E s:=by
 unfold leaving;refine Qb (uM hfr hl hf hH x λh' m y=>?_);refine jN (base:=base) (l:=env::outer) ?_ y λh2 m2 y2=>hq h2 (m.trans m2) (.inr y2);exact ou m _ (λ_ z=>z) hl
end
end Ex
namespace Dn
open PySem PySem.Spec PyProof.Rows L2
set_option genInjectivity true in
inductive D where
 |non | bl (b:Bool) | int (i:Int) | str (x:Str) | tup (xs:List D) | lst (xs:List D) | dic (es:List (List Int×D)) | rcd (c:Option Addr) (fs:List (Str×D))
 deriving Inhabited
noncomputable def IK(ns:List Int):Int:=reduceHash (Builtin.Tuple.tupleHashOf (ns.map hashInt))
noncomputable abbrev va:=List (List Int×Addr×V)
structure EntOk(p:List Int×Addr×V)(e:DictEntry):Prop where
 hash:e.hash=IK p.1
 key:e.key=.ref p.2.1
 val:bq p.2.2 e.val
noncomputable def DAt(a:Addr)(us:va)(ep:Nat):Heap->Prop:=λh=>(a==ZV)=false/\us.length<=1000000/\∃o raw,h.get? a=some o/\o.ExactDict/\o.data=.dict raw ep/\Paired EntOk us raw.toList
noncomputable def RdI(K:Qc)(G:Hp)(a:Addr)(xs:List V):Prop:=G a=some (.lst xs)\/∃ns:List Int,xs=ns.map V.int/\SqL K G a xs
theorem RdI.sq{K:Qc}{G:Hp}{a:Addr}{xs:List V}(h:RdI K G a xs):SqL K G a xs:=h.elim (λh=>SqL.of h) λ⟨_,_,h⟩=>h
theorem RdI.mono{K:Qc}{G G':Hp}{a:Addr}{xs:List V}(e:aT G G')(h:RdI K G a xs):RdI K G' a xs:=h.elim (λh=>.inl (e _ _ h)) λ⟨n,z,h⟩=>.inr ⟨n,z,e.seq h⟩
noncomputable def txK(kvs:List (Str×V)):List (Key×V):=kvs.map λp=>(.inr p.1,p.2)
mutual
inductive Den(K:Qc)(G:Hp):V->D->Prop where
 |non:Den K G .non .non
 |bl (b:Bool):Den K G (.bl b) (.bl b)
 |int (i:Int):Den K G (.int i) (.int i)
 |str (x:Str):Den K G (.str x) (.str x)
 |tup {a:Addr} {xs:List V} {ds:List D} (h:SqT K G a xs) (hs:DenL K G xs ds):Den K G (.ref a) (.tup ds)
 |lst {a:Addr} {xs:List V} {ds:List D} (h:RdI K G a xs) (hs:DenL K G xs ds):Den K G (.ref a) (.lst ds)
 |dic {a:Addr} {us:va} {ep:Nat} {es:List (List Int×D)} (h:G a=some (.ext (DAt a us ep))) (nd:(us.map (·.1)).Nodup) (hs:DenM K G us es):Den K G (.ref a) (.dic es)
 |rcd {a:Addr} {kvs:List (Str×V)} {fs:List (Str×D)} (h:G a=some (.dK (txK kvs))) (hs:DenF K G kvs fs):Den K G (.ref a) (.rcd none fs)
 |ins {a C dx:Addr} {kvs:List (Str×V)} {fs:List (Str×D)} (h:G a=some (.ins C dx kvs)) (hs:DenF K G kvs fs):Den K G (.ref a) (.rcd (some C) fs)
inductive DenM(K:Qc)(G:Hp):va->List (List Int×D)->Prop where
 |nil:DenM K G [] []
 |cons {k:List Int} {b:Addr} {v:V} {d:D} {us:va} {es:List (List Int×D)} (hk:SqT K G b (k.map V.int)) (hv:Den K G v d) (hs:DenM K G us es):DenM K G ((k,b,v)::us) ((k,d)::es)
inductive DenL(K:Qc)(G:Hp):List V->List D->Prop where
 |nil:DenL K G [] []
 |cons {x:V} {d:D} {xs:List V} {ds:List D} (h:Den K G x d) (hs:DenL K G xs ds):DenL K G (x::xs) (d::ds)
inductive DenF(K:Qc)(G:Hp):List (Str×V)->List (Str×D)->Prop where
 |nil:DenF K G [] []
 |cons {k:Str} {v:V} {d:D} {vs:List (Str×V)} {fs:List (Str×D)} (h:Den K G v d) (hs:DenF K G vs fs):DenF K G ((k,v)::vs) ((k,d)::fs)
end
theorem aM{K:Qc}{H H':Hp}{a:Addr}{xs:List V}(e:aT H H')(h:SqT K H a xs):SqT K H' a xs:=by
 rcases h with(h | ⟨o,h⟩) | h
 ·exact .inl (.inl (e _ _ h))
 ·exact .inl (.inr ⟨o,e _ _ h⟩)
 ·exact .inr h
theorem Den.mono{K:Qc}{G G':Hp}(e:aT G G'){v:V}{d:D}(h:Den K G v d):Den K G' v d:=
 Den.rec (motive_1:=λv d _=>Den K G' v d) (motive_2:=λu e _=>DenM K G' u e) (motive_3:=λv d _=>DenL K G' v d) (motive_4:=λv d _=>DenF K G' v d) .non .bl .int .str (λh _ y=>.tup (aM e h) y) (λh _ y=>.lst (h.mono e) y) (λh n _ y=>.dic (e _ _ h) n y) (λh _ y=>.rcd (e _ _ h) y) (λh _ y=>.ins (e _ _ h) y) .nil (λk _ _ y z=>.cons (aM e k) y z) .nil (λ_ _ y z=>.cons y z) .nil (λ_ _ y z=>.cons y z) h
theorem DenM.mono{K:Qc}{G G':Hp}(e:aT G G'){us:va}{es:List (List Int×D)}(h:DenM K G us es):DenM K G' us es:=
 DenM.rec (motive_1:=λv d _=>Den K G' v d) (motive_2:=λu e _=>DenM K G' u e) (motive_3:=λv d _=>DenL K G' v d) (motive_4:=λv d _=>DenF K G' v d) .non .bl .int .str (λh _ y=>.tup (aM e h) y) (λh _ y=>.lst (h.mono e) y) (λh n _ y=>.dic (e _ _ h) n y) (λh _ y=>.rcd (e _ _ h) y) (λh _ y=>.ins (e _ _ h) y) .nil (λk _ _ y z=>.cons (aM e k) y z) .nil (λ_ _ y z=>.cons y z) .nil (λ_ _ y z=>.cons y z) h
theorem DenL.mono{K:Qc}{G G':Hp}(e:aT G G'){v:List V}{d:List D}(h:DenL K G v d):DenL K G' v d:=
 DenL.rec (motive_1:=λv d _=>Den K G' v d) (motive_2:=λu e _=>DenM K G' u e) (motive_3:=λv d _=>DenL K G' v d) (motive_4:=λv d _=>DenF K G' v d) .non .bl .int .str (λh _ y=>.tup (aM e h) y) (λh _ y=>.lst (h.mono e) y) (λh n _ y=>.dic (e _ _ h) n y) (λh _ y=>.rcd (e _ _ h) y) (λh _ y=>.ins (e _ _ h) y) .nil (λk _ _ y z=>.cons (aM e k) y z) .nil (λ_ _ y z=>.cons y z) .nil (λ_ _ y z=>.cons y z) h
theorem DenF.mono{K:Qc}{G G':Hp}(e:aT G G'){v:List (Str×V)}{d:List (Str×D)}(h:DenF K G v d):DenF K G' v d:=
 DenF.rec (motive_1:=λv d _=>Den K G' v d) (motive_2:=λu e _=>DenM K G' u e) (motive_3:=λv d _=>DenL K G' v d) (motive_4:=λv d _=>DenF K G' v d) .non .bl .int .str (λh _ y=>.tup (aM e h) y) (λh _ y=>.lst (h.mono e) y) (λh n _ y=>.dic (e _ _ h) n y) (λh _ y=>.rcd (e _ _ h) y) (λh _ y=>.ins (e _ _ h) y) .nil (λk _ _ y z=>.cons (aM e k) y z) .nil (λ_ _ y z=>.cons y z) .nil (λ_ _ y z=>.cons y z) h
section
variable{K:Qc}{G:Hp}
theorem DenL.ind{P:List V->List D->Prop}(n:P [] [])(c:∀{x:V} {d:D} {xs:List V} {ds:List D},Den K G x d->DenL K G xs ds->P xs ds->P (x::xs) (d::ds)){xs:List V}{ds:List D}(h:DenL K G xs ds):P xs ds:=
 DenL.rec (motive_1:=λ_ _ _=>True) (motive_2:=λ_ _ _=>True) (motive_3:=λxs ds _=>P xs ds) (motive_4:=λ_ _ _=>True) trivial (λ_=>trivial) (λ_=>trivial) (λ_=>trivial) (λ_ _ _=>trivial) (λ_ _ _=>trivial) (λ_ _ _ _=>trivial) (λ_ _ _=>trivial) (λ_ _ _=>trivial) trivial (λ_ _ _ _ _=>trivial) n (λh hs _ y=>c h hs y) trivial (λ_ _ _ _=>trivial) h
theorem DenF.ind{P:List (Str×V)->List (Str×D)->Prop}(n:P [] [])(c:∀{k:Str} {v:V} {d:D} {vs:List (Str×V)} {fs:List (Str×D)},Den K G v d->DenF K G vs fs->P vs fs->P ((k,v)::vs) ((k,d)::fs)){vs:List (Str×V)}{fs:List (Str×D)}(h:DenF K G vs fs):P vs fs:=
 DenF.rec (motive_1:=λ_ _ _=>True) (motive_2:=λ_ _ _=>True) (motive_3:=λ_ _ _=>True) (motive_4:=λvs fs _=>P vs fs) trivial (λ_=>trivial) (λ_=>trivial) (λ_=>trivial) (λ_ _ _=>trivial) (λ_ _ _=>trivial) (λ_ _ _ _=>trivial) (λ_ _ _=>trivial) (λ_ _ _=>trivial) trivial (λ_ _ _ _ _=>trivial) trivial (λ_ _ _ _=>trivial) n (λh hs _ y=>c h hs y) h
theorem DenF.get{vs:List (Str×V)}{fs:List (Str×D)}{k:Str}{d:D}(h:DenF K G vs fs):fs.lookup k=some d->∃v,vs.lookup k=some v/\Den K G v d:=
 DenF.ind (P:=λvs fs=>fs.lookup k=some d->∃v,vs.lookup k=some v/\Den K G v d) (λe=>nomatch e) (λ{k' v d' vs fs} h _ y e=>by
  rw[List.lookup_cons] at e ⊢;cases z:k==k' with
  |true=>rw[z] at e;cases e;exact⟨v,rfl,h⟩
  |false=>rw[z] at e;exact y e) h
theorem DenL.length{xs:List V}{ds:List D}(h:DenL K G xs ds):xs.length=ds.length:=
 DenL.ind (P:=λxs ds=>xs.length=ds.length) rfl (λ_ _ y=>congrArg (· + 1) y) h
theorem DenL.get{xs:List V}{ds:List D}{i:Nat}{d:D}(h:DenL K G xs ds):ds[i]?=some d->∃x,xs[i]?=some x/\Den K G x d:=by
 revert i
 refine DenL.ind (P:=λxs ds=>∀{i:Nat},ds[i]?=some d->∃x,xs[i]?=some x/\Den K G x d) (λ{i} e=>nomatch e) (λ{x d' xs ds} h _ y {i} e=>?_) h;cases i with
 |zero=>cases e;exact⟨_,rfl,h⟩
 |succ i=>exact y (i:=i) e
theorem DenL.getV{xs:List V}{ds:List D}{i:Nat}{x:V}(h:DenL K G xs ds):xs[i]?=some x->∃d,ds[i]?=some d/\Den K G x d:=by
 revert i
 refine DenL.ind (P:=λxs ds=>∀{i:Nat},xs[i]?=some x->∃d,ds[i]?=some d/\Den K G x d) (λ{i} e=>nomatch e) (λ{x' d' xs ds} h _ y {i} e=>?_) h;cases i with
 |zero=>cases e;exact⟨_,rfl,h⟩
 |succ i=>exact y (i:=i) e
theorem DenL.append{xs ys:List V}{ds es:List D}(h:DenL K G xs ds)(s:DenL K G ys es):DenL K G (xs++ys) (ds++es):=
 DenL.ind (P:=λxs ds=>DenL K G (xs++ys) (ds++es)) s (λh _ y=>.cons h y) h
theorem DenL.take{xs:List V}{ds:List D}(n:Nat)(h:DenL K G xs ds):DenL K G (xs.take n) (ds.take n):=by
 refine DenL.ind (P:=λxs ds=>∀n,DenL K G (xs.take n) (ds.take n)) (λn=>?_) (λh _ y n=>?_) h n
 ·cases n<;>exact .nil
 ·cases n with
  |zero=>exact .nil
  |succ n=>exact .cons h (y n)
theorem DenL.drop{xs:List V}{ds:List D}(n:Nat)(h:DenL K G xs ds):DenL K G (xs.drop n) (ds.drop n):=by
 refine DenL.ind (P:=λxs ds=>∀n,DenL K G (xs.drop n) (ds.drop n)) (λn=>?_) (λh hs y n=>?_) h n
 ·cases n<;>exact .nil
 ·cases n with
  |zero=>exact .cons h hs
  |succ n=>exact y n
theorem DenL.set{x:V}{d:D}(r:Den K G x d){xs:List V}{ds:List D}(i:Nat)(h:DenL K G xs ds):DenL K G (xs.set i x) (ds.set i d):=by
 refine DenL.ind (P:=λxs ds=>∀i,DenL K G (xs.set i x) (ds.set i d)) (λn=>.nil) (λq t y i=>?_) h i;cases i with
 |zero=>exact .cons r t
 |succ i=>exact .cons q (y i)
theorem DenL.one{x:V}{d:D}(h:Den K G x d):DenL K G [x] [d]:=.cons h .nil
end
structure Grow(G H G' H':Hp):Prop where
 hh:aT H H'
 gg:aT G G'
 gh:aT G' H'
 fo:∀a o,H a=some o->G a=none->G' a=none
theorem Grow.refl{G H:Hp}(h:aT G H):Grow G H G H:=⟨aT.refl _,aT.refl _,h,λ_ _ _ e=>e⟩
theorem Grow.trans{G H G1 H1 G2 H2:Hp}(a:Grow G H G1 H1)(b:Grow G1 H1 G2 H2):Grow G H G2 H2:=
 ⟨a.hh.trans b.hh,a.gg.trans b.gg,b.gh,λc o h e=>b.fo c o (a.hh c o h) (a.fo c o h e)⟩
theorem Grow.new{G H:Hp}{p:Addr}(o:HO)(gh:aT G H)(hn:H p=none):Grow G H (upd G p o) (upd H p o) where
 hh:=λb u e=>by rw[az (aB e hn)];exact e
 gg:=λb u e=>by rw[az (aB (gh b u e) hn)];exact e
 gh:=λb u e=>by
  unfold upd at e ⊢
  by_cases z:b=p
  ·rw[if_pos z] at e ⊢;exact e
  ·rw[if_neg z] at e ⊢;exact gh b u e
 fo:=λa u e g=>by rw[az (aB e hn)];exact g
theorem Grow.lay{G H:Hp}{p:Addr}(o:HO)(gh:aT G H)(hn:H p=none):Grow G H G (upd H p o) where
 hh:=λb u e=>by rw[az (aB e hn)];exact e
 gg:=aT.refl _
 gh:=λb u e=>by rw[az (aB (gh b u e) hn)];exact gh b u e
 fo:=λa u e g=>g
set_option genInjectivity true in
inductive Sl where
 |un | dat (d:D) | own (ds:List D) | odi (es:List (List Int×D))
noncomputable abbrev Ev:=List Sl
structure EnvD(K:Qc)(He G H:Hp)(σ:L2.St)(ε:Ev):Prop where
 len:σ.length=ε.length
 dat:∀{i:Nat} {d:D},ε[i]?=some (.dat d)->∃v,σ[i]?=some (some v)/\Den K G v d
 own:∀{i:Nat} {ds:List D},ε[i]?=some (.own ds)->∃a xs,σ[i]?=some (some (.ref a))/\H a=some (.lst xs)/\G a=none/\He a=none/\DenL K G xs ds
 apart:∀{i j:Nat} {ds es:List D} {a:Addr},ε[i]?=some (.own ds)->ε[j]?=some (.own es)->σ[i]?=some (some (.ref a))->σ[j]?=some (some (.ref a))->i=j
 odi:∀{i:Nat} {es:List (List Int×D)},ε[i]?=some (.odi es)->∃a us ep,σ[i]?=some (some (.ref a))/\H a=some (.ext (DAt a us ep))/\G a=none/\He a=none/\(us.map (·.1)).Nodup/\DenM K G us es
 apartD:∀{i j:Nat} {ds es:List (List Int×D)} {a:Addr},ε[i]?=some (.odi ds)->ε[j]?=some (.odi es)->σ[i]?=some (some (.ref a))->σ[j]?=some (some (.ref a))->i=j
theorem EnvD.grow{K:Qc}{He G H G' H':Hp}{σ:L2.St}{ε:Ev}(E:EnvD K He G H σ ε)(g:Grow G H G' H'):EnvD K He G' H' σ ε where
 len:=E.len
 dat:=λe=>let⟨v,h1,h2⟩:=E.dat e;⟨v,h1,h2.mono g.gg⟩
 own:=λe=>let⟨a,xs,h1,h2,h3,h4,h5⟩:=E.own e;⟨a,xs,h1,g.hh _ _ h2,g.fo _ _ h2 h3,h4,h5.mono g.gg⟩
 apart:=E.apart
 odi:=λe=>let⟨a,us,ep,h1,h2,h3,h4,h5,h6⟩:=E.odi e;⟨a,us,ep,h1,g.hh _ _ h2,g.fo _ _ h2 h3,h4,h5,h6.mono g.gg⟩
 apartD:=E.apartD
structure Sta(K:Qc)(He Ge G H:Hp)(σ:L2.St)(ε:Ev):Prop where
 g:Grow Ge He G H
 e:EnvD K He G H σ ε
theorem Sta.grow{K:Qc}{He Ge G H G' H':Hp}{σ:L2.St}{ε:Ev}(S:Sta K He Ge G H σ ε)(g:Grow G H G' H'):Sta K He Ge G' H' σ ε:=⟨S.g.trans g,S.e.grow g⟩
noncomputable def DE(X:Cx)(e:Expr)(f:Ev->Option D):Prop:=∃t,PE X e t/\∀(He G H:Hp) (σ:L2.St) (ε:Ev) (d:D) (Q:VK),aT G H->EnvD X.K He G H σ ε->f ε=some d->
 (∀v G' H',Grow G H G' H'->Den X.K G' v d->Q v H')->t σ H Q
noncomputable def DF(X:Cx)(e:Expr)(f:Ev->Option (List D)):Prop:=∃t,PE X e t/\∀(He G H:Hp) (σ:L2.St) (ε:Ev) (ds:List D) (Q:VK),aT G H->EnvD X.K He G H σ ε->f ε=some ds->
 (∀a xs G' H',Grow G H G' H'->H a=none->G' a=none->H' a=some (.lst xs)->DenL X.K G' xs ds->Q (.ref a) H')->t σ H Q
noncomputable def DT(X:Cx)(e:Expr)(f:Ev->Option Bool):Prop:=∃t,PT X e t/\∀(He G H:Hp) (σ:L2.St) (ε:Ev) (b:Bool) (Q:Bool->Hp->Prop),aT G H->EnvD X.K He G H σ ε->f ε=some b->
 (∀G' H',Grow G H G' H'->Q b H')->t σ H Q
noncomputable def DW(X:Cx)(e:Expr)(f:Ev->Option Bool):Prop:=∃t,PW X e t/\∀(He G H:Hp) (σ:L2.St) (ε:Ev) (b:Bool) (Q:Bool->Hp->Prop),aT G H->EnvD X.K He G H σ ε->f ε=some b->
 (∀G' H',Grow G H G' H'->Q b H')->t σ H Q
noncomputable def DA(X:Cx)(es:List Expr)(f:Ev->Option (List D)):Prop:=∃t,PA X es t/\∀(He G H:Hp) (σ:L2.St) (ε:Ev) (ds:List D) (Q:List V->Hp->Prop),aT G H->EnvD X.K He G H σ ε->f ε=some ds->
 (∀vs G' H',Grow G H G' H'->DenL X.K G' vs ds->Q vs H')->t σ H Q
theorem DW.dt{X:Cx}{e:Expr}{f:Ev->Option Bool}(h:DW X e f):DT X e f:=let⟨t,h1,h2⟩:=h;⟨t,h1.pt,h2⟩
theorem Grow.seal{G H G' H':Hp}{a:Addr}{xs:List V}(g:Grow G H G' H')(hn:H a=none)(gn:G' a=none)(ha:H' a=some (.lst xs)):Grow G H (upd G' a (.lst xs)) H':=
 ⟨g.hh,λb o e=>by rw[az (aB (g.gg b o e) gn)];exact g.gg b o e,λb o e=>by
   unfold upd at e
   by_cases z:b=a
   ·rw[if_pos z] at e;cases e;rw[z];exact ha
   ·rw[if_neg z] at e;exact g.gh b o e,λb o e z=>by rw[az (aB e hn)];exact g.fo b o e z⟩
theorem yb{K:Qc}{G':Hp}{a:Addr}{xs:List V}{ds:List D}(gn:G' a=none)(hd:DenL K G' xs ds):Den K (upd G' a (.lst xs)) (.ref a) (.lst ds):=
 .lst (.inl upd_same) (hd.mono λb o e=>by rw[az (aB e gn)];exact e)
noncomputable def eF(f:Ev->Option (List D)):Ev->Option D:=λε=>(f ε).map D.lst
theorem DF.de{X:Cx}{e:Expr}{f:Ev->Option (List D)}(h:DF X e f):DE X e (eF f):=by
 obtain⟨t,h1,h2⟩:=h;refine⟨t,h1,λHe G H σ ε d Q gh E ef q=>?_⟩;unfold eF at ef;cases e1:f ε with
 |none=>rw[e1] at ef;cases ef
 |some ds=>
  rw[e1] at ef;cases ef;refine h2 He G H σ ε ds Q gh E e1 λa xs G' H' g hn gn ha hd=>?_;exact q _ _ _ (g.seal hn gn ha) (yb gn hd)
set_option genInjectivity true in
inductive Fl where
 |nx (ε:Ev) | rt (d:D) | bk (ε:Ev) | ct (ε:Ev) | ro (ds:List D) | xc (c:Str) (fs:List (Str×D))
noncomputable def XD(K:Qc)(G:Hp)(dx:Addr)(fs:List (Str×D)):Prop:=∃vs,G dx=some (.xd vs)/\∀n d,(n,d)∈fs->∃v,vs.lookup n=some v/\Den K G v d
noncomputable def xk(X:Cx)(He Ge:Hp)(r:Fl)(W:Ends):Prop:=match r with
 |.nx ε=>∀σ G H,Sta X.K He Ge G H σ ε->W.nx σ H
 |.bk ε=>∀σ G H,Sta X.K He Ge G H σ ε->W.bk σ H
 |.ct ε=>∀σ G H,Sta X.K He Ge G H σ ε->W.ct σ H
 |.rt d=>∀v G H,Grow Ge He G H->Den X.K G v d->W.rt v H
 |.ro ds=>∀a xs G H,Grow Ge He G H->He a=none->G a=none->H a=some (.lst xs)->DenL X.K G xs ds->W.rt (.ref a) H
 |.xc c fs=>∀(pins:List Vz) (σ:L2.St) (G H:Hp) (s:Qd) (a dx:Addr) (cls:Qa),L2.Inv X pins σ H s->Grow Ge He G H->Ex.XAt X.s₀.heap.objs.size H s.heap a cls dx->X.mg c=some cls->XD X.K G dx fs->X.xe (.ref a) s
noncomputable def DS(X:Cx)(st:Stmt)(g:Ev->Option Fl):Prop:=∃t,PS X st t/\∀(He Ge G H:Hp) (σ:L2.St) (ε:Ev) (r:Fl) (W:Ends),Sta X.K He Ge G H σ ε->g ε=some r->xk X He Ge r W->t W σ H
noncomputable def DSs(X:Cx)(st:List Stmt)(g:Ev->Option Fl):Prop:=∃t,PSs X st t/\∀(He Ge G H:Hp) (σ:L2.St) (ε:Ev) (r:Fl) (W:Ends),Sta X.K He Ge G H σ ε->g ε=some r->xk X He Ge r W->t W σ H
noncomputable def eK(K:Qc)(G H:Hp)(v:V)(d:D):Prop:=Den K G v d\/∃a xs ds,v=.ref a/\d=.lst ds/\H a=some (.lst xs)/\DenL K G xs ds
theorem eK.grow{K:Qc}{G H G' H':Hp}{v:V}{d:D}(h:eK K G H v d)(g:Grow G H G' H'):eK K G' H' v d:=by
 rcases h with h | ⟨a,xs,ds,h1,h2,h3,h4⟩
 ·exact .inl (h.mono g.gg)
 ·exact .inr ⟨a,xs,ds,h1,h2,g.hh _ _ h3,h4.mono g.gg⟩
theorem eK.int{K:Qc}{G H:Hp}{v:V}{i:Int}(h:eK K G H v (.int i)):v=.int i:=by
 rcases h with h | ⟨_,_,_,_,h,_⟩
 ·cases h;rfl
 ·cases h
theorem eK.bl{K:Qc}{G H:Hp}{v:V}{i:Bool}(h:eK K G H v (.bl i)):v=.bl i:=by
 rcases h with h | ⟨_,_,_,_,h,_⟩
 ·cases h;rfl
 ·cases h
theorem eK.str{K:Qc}{G H:Hp}{v:V}{i:Str}(h:eK K G H v (.str i)):v=.str i:=by
 rcases h with h | ⟨_,_,_,_,h,_⟩
 ·cases h;rfl
 ·cases h
theorem eK.non{K:Qc}{G H:Hp}{v:V}(h:eK K G H v .non):v=.non:=by
 rcases h with h | ⟨_,_,_,_,h,_⟩
 ·cases h;rfl
 ·cases h
theorem eK.tup{K:Qc}{G H:Hp}{v:V}{ds:List D}(gh:aT G H)(h:eK K G H v (.tup ds)):∃a xs,v=.ref a/\SqT K G a xs/\SqT K H a xs/\DenL K G xs ds:=by
 rcases h with h | ⟨_,_,_,_,h,_⟩
 ·cases h with | tup h hs=>exact⟨_,_,rfl,h,aM gh h,hs⟩
 ·cases h
theorem eK.lst{K:Qc}{G H:Hp}{v:V}{ds:List D}(gh:aT G H)(h:eK K G H v (.lst ds)):∃a xs,v=.ref a/\SqL K H a xs/\DenL K G xs ds:=by
 rcases h with h | ⟨a,xs,ds',h1,h,h3,h4⟩
 ·cases h with | lst h hs=>exact⟨_,_,rfl,gh.seq h.sq,hs⟩
 ·cases h;exact⟨a,xs,h1,.of h3,h4⟩
noncomputable def DB(X:Cx)(e:Expr)(f:Ev->Option D):Prop:=∃t,PE X e t/\∀(He G H:Hp) (σ:L2.St) (ε:Ev) (d:D) (Q:VK),aT G H->EnvD X.K He G H σ ε->f ε=some d->
 (∀v G' H',Grow G H G' H'->eK X.K G' H' v d->Q v H')->t σ H Q
theorem DE.db{X:Cx}{e:Expr}{f:Ev->Option D}(h:DE X e f):DB X e f:=
 let⟨t,h1,h2⟩:=h;⟨t,h1,λHe G H σ ε d Q gh E ef q=>h2 He G H σ ε d Q gh E ef λv G' H' g hd=>q v G' H' g (.inl hd)⟩
section
variable{X:Cx}{a b c:Expr}{fa fb fc:Ev->Option D}{pos:Pos}
noncomputable def aj(i:Nat):Ev->Option D:=λε=>match ε[i]? with | some (.dat d)=>some d | _=>none
noncomputable def ah(i:Nat):Ev->Option D:=λε=>match ε[i]? with | some (.dat d)=>some d | some (.own ds)=>some (.lst ds) | _=>none
noncomputable def eC(d:D):Ev->Option D:=λ_=>some d
theorem ak(i:Nat){x:Str}{pos:Pos}(hN:X.N[i]?=some x:=by rfl)(hv:Vis X.env.scope x:=by first | exact Qz rfl | exact Zn (Qz rfl) | exact Zn (Zn rfl))(hd:(x==("__debug__" : Str))=false:=by decide)
  (hcd:(x==("__classdict__" : Str))=false:=by decide):DE X (.Name x pos) (aj i):=by
 refine⟨_,lu hN hv hd hcd,λHe G H σ ε d Q gh E ef q=>?_⟩;unfold aj at ef;split at ef
 ·rename_i d' e
  cases ef;obtain⟨v,h1,h2⟩:=E.dat e;exact⟨v,h1,q v G H (.refl gh) h2⟩
 ·cases ef
theorem ai(i:Nat){x:Str}{pos:Pos}(hN:X.N[i]?=some x:=by rfl)(hv:Vis X.env.scope x:=by first | exact Qz rfl | exact Zn (Qz rfl) | exact Zn (Zn rfl))(hd:(x==("__debug__" : Str))=false:=by decide)
  (hcd:(x==("__classdict__" : Str))=false:=by decide):DB X (.Name x pos) (ah i):=by
 refine⟨_,lu hN hv hd hcd,λHe G H σ ε d Q gh E ef q=>?_⟩;unfold ah at ef;split at ef
 ·rename_i d' e
  cases ef;obtain⟨v,h1,h2⟩:=E.dat e;exact⟨v,h1,q v G H (.refl gh) (.inl h2)⟩
 ·rename_i ds e
  cases ef;obtain⟨l,xs,h1,h2,h3,h4,h5⟩:=E.own e;exact⟨_,h1,q _ G H (.refl gh) (.inr ⟨l,xs,ds,rfl,rfl,h2,h5⟩)⟩
 ·cases ef
theorem lN{e:Expr}{v:V}{d:D}(h:PE X e (tC v))(hd:∀G,Den X.K G v d):DE X e (eC d):=
 ⟨_,h,λHe G H σ ε d' Q gh E ef q=>by cases ef;exact q v G H (.refl gh) (hd G)⟩
theorem ag{i j pos}:DE X (.Constant (.int i) j pos) (eC (.int i)):=lN cG λ_=>.int i
theorem mJ{i j pos}:DE X (.Constant (.bool i) j pos) (eC (.bl i)):=lN FN λ_=>.bl i
theorem mZ{j pos}:DE X (.Constant .none j pos) (eC .non):=lN Bw λ_=>.non
theorem aW{x j pos}:DE X (.Constant (.str x) j pos) (eC (.str x)):=lN bP λ_=>.str x
theorem cf{x:Str}{i:Int}{t:Tok}{pos:Pos}(hg:Gl X x)(hm:X.mg x=some (.int i t))(hd:(x==("__debug__" : Str))=false:=by decide):DE X (.Name x pos) (eC (.int i)):=
 lN (vn (v:=.int i) hg hm ⟨t,rfl⟩ hd) λ_=>.int i
noncomputable def e2(op:D->D->Option D)(fa fb:Ev->Option D):Ev->Option D:=λε=>(fa ε).bind λx=>(fb ε).bind λy=>op x y
noncomputable def OpD(X:Cx)(f:Qa->Qa->Sem Qa)(op:D->D->Option D):Prop:=∃r,OpR X f r/\∀(G H:Hp) (x y:V) (dx dy d:D) (Q:VK),aT G H->eK X.K G H x dx->eK X.K G H y dy->op dx dy=some d->
 (∀v G' H',Grow G H G' H'->Den X.K G' v d->Q v H')->r x y H Q
theorem aq{α β:Type}{o:Option α}{f:α->Option β}{y:β}(h:o.bind f=some y):∃x,o=some x/\f x=some y:=by
 cases o with
 |none=>cases h
 |some x=>exact⟨x,rfl,h⟩
theorem two{ta tb:TE}{He G H:Hp}{σ:L2.St}{ε:Ev}{op:D->D->Option D}{r:R2}{d:D}{Q:VK}
  (ha:∀(He G H:Hp) (σ:L2.St) (ε:Ev) (d:D) (Q:VK),aT G H->EnvD X.K He G H σ ε->fa ε=some d->(∀v G' H',Grow G H G' H'->eK X.K G' H' v d->Q v H')->ta σ H Q)
  (hb:∀(He G H:Hp) (σ:L2.St) (ε:Ev) (d:D) (Q:VK),aT G H->EnvD X.K He G H σ ε->fb ε=some d->(∀v G' H',Grow G H G' H'->eK X.K G' H' v d->Q v H')->tb σ H Q)
  (ho:∀(G H:Hp) (x y:V) (dx dy d:D) (Q:VK),aT G H->eK X.K G H x dx->eK X.K G H y dy->op dx dy=some d->(∀v G' H',Grow G H G' H'->Den X.K G' v d->Q v H')->r x y H Q)
  (gh:aT G H) (E:EnvD X.K He G H σ ε) (ef:e2 op fa fb ε=some d) (q:∀v G' H',Grow G H G' H'->Den X.K G' v d->Q v H'):tOp r ta tb σ H Q:=by
 obtain⟨x,e1,ef⟩:=aq ef;obtain⟨y,e2,ef⟩:=aq ef;refine ha He G H σ ε x _ gh E e1 λv G1 H1 g1 d1=>?_;refine hb He G1 H1 σ ε y _ g1.gh (E.grow g1) e2 λu G2 H2 g2 d2=>?_;exact ho G2 H2 v u x y d Q g2.gh (d1.grow g2) d2 ef λw G3 H3 g3 d3=>q w G3 H3 (g1.trans (g2.trans g3)) d3
theorem ay{op:Operator}{f:D->D->Option D}(ho:OpD X (Zh op) f)(ha:DB X a fa)(hb:DB X b fb):DE X (.BinOp a op b pos) (e2 f fa fb):=by
 obtain⟨r,h1,h2⟩:=ho;obtain⟨ta,a1,a2⟩:=ha;obtain⟨tb,b1,b2⟩:=hb;exact⟨_,js h1 a1 b1,λHe G H σ ε d Q gh E ef q=>two a2 b2 h2 gh E ef q⟩
theorem fg{op:CmpOp}{f:D->D->Option D}(ho:OpD X (QF op) f)(ha:DB X a fa)(hb:DB X b fb)(hm:Z6 op b=false):DE X (.Compare a [op] [b] pos) (e2 f fa fb):=by
 obtain⟨r,h1,h2⟩:=ho;obtain⟨ta,a1,a2⟩:=ha;obtain⟨tb,b1,b2⟩:=hb;exact⟨_,D5 h1 a1 b1 hm,λHe G H σ ε d Q gh E ef q=>two a2 b2 h2 gh E ef q⟩
noncomputable def asB:Option D->Option Bool
 |some (.bl b)=>some b
 |_=>none
theorem wQ{o:Option D}{b:Bool}(h:asB o=some b):o=some (.bl b):=by
 unfold asB at h;split at h
 ·cases h;rfl
 ·cases h
theorem Den.blV{K:Qc}{G:Hp}{v:V}{b:Bool}(h:Den K G v (.bl b)):v=.bl b:=by cases h;rfl
noncomputable def aG(op:D->D->Option D)(fa fb:Ev->Option D):Ev->Option Bool:=λε=>asB (e2 op fa fb ε)
theorem a8{op:CmpOp}{f:D->D->Option D}(ho:OpD X (QF op) f)(ha:DB X a fa)(hb:DB X b fb)(hm:Z6 op b=false):DT X (.Compare a [op] [b] pos) (aG f fa fb):=by
 obtain⟨r,h1,h2⟩:=ho;obtain⟨ta,a1,a2⟩:=ha;obtain⟨tb,b1,b2⟩:=hb;refine⟨_,fG h1 a1 b1 hm,λHe G H σ ε k Q gh E ef q=>?_⟩;refine two a2 b2 h2 gh E (wQ ef) λv G' H' g hd=>?_;exact⟨k,hd.blV,q G' H' g⟩
theorem BL{r:R2}{f:D->D->Option D}(hr:IxR X r)(ho:∀(G H:Hp) (x y:V) (dx dy d:D) (Q:VK),aT G H->eK X.K G H x dx->eK X.K G H y dy->f dx dy=some d->(∀v G' H',Grow G H G' H'->Den X.K G' v d->Q v H')->r x y H Q)
  (ha:DB X a fa) (hb:DB X b fb) (hs:ot b):DE X (.Subscript a b pos) (e2 f fa fb):=by
 obtain⟨ta,a1,a2⟩:=ha;obtain⟨tb,b1,b2⟩:=hb;exact⟨_,ib hr a1 b1 hs,λHe G H σ ε d Q gh E ef q=>two a2 b2 ho gh E ef q⟩
noncomputable def ip(g:Int->Int->Option D):D->D->Option D:=λx y=>match x,y with | .int i,.int j=>g i j | _,_=>none
theorem sS{g:Int->Int->Option D}{x y d:D}(h:ip g x y=some d):∃i j,x=.int i/\y=.int j/\g i j=some d:=by
 unfold ip at h;split at h
 ·exact⟨_,_,rfl,rfl,h⟩
 ·cases h
theorem zK{f:Qa->Qa->Sem Qa}{C:Int->Int->Prop}{g:Int->Int->V}{k:Int->Int->Option D}(ho:OpR X f (rI C g))(hk:∀i j d,k i j=some d->C i j/\∀G,Den X.K G (g i j) d):OpD X f (ip k):=
 ⟨_,ho,λG H x y dx dy d Q gh hx hy e q=>by
  obtain⟨i,j,rfl,rfl,e⟩:=sS e;obtain⟨c,hd⟩:=hk i j d e
  exact⟨i,j,hx.int,hy.int,c,q _ G H (.refl gh) (hd G)⟩⟩
theorem o8{f:Qa->Qa->Sem Qa}{g:Int->Int->V}{k:Int->Int->Option D}(ho:OpR X f (rI0 g))(hk:∀i j d,k i j=some d->∀G,Den X.K G (g i j) d):OpD X f (ip k):=
 ⟨_,ho,λG H x y dx dy d Q gh hx hy e q=>by
  obtain⟨i,j,rfl,rfl,e⟩:=sS e
  exact⟨i,j,hx.int,hy.int,q _ G H (.refl gh) (hk i j d e G)⟩⟩
noncomputable def bR:D->D->Option D:=ip λi j=>some (.int (i+j))
noncomputable def h9:D->D->Option D:=ip λi j=>some (.int (i-j))
noncomputable instance (i j:Int):Decidable (sv i j):=by unfold sv;infer_instance
noncomputable instance (i j:Int):Decidable (z_ i j):=by unfold z_;infer_instance
noncomputable instance (i j:Int):Decidable (AV i j):=by unfold AV;infer_instance
noncomputable def cV:D->D->Option D:=ip λi j=>if sv i j then some (.int (i*j)) else none
noncomputable def nP:D->D->Option D:=ip λi j=>if z_ i j then some (.int (i/j)) else none
noncomputable def ba:D->D->Option D:=ip λi j=>if 0<j then some (.int (i%j)) else none
noncomputable def w_:D->D->Option D:=ip λi j=>if AV i j then some (.int (i ^ j.toNat)) else none
theorem bB:OpD X (Zh .Add) bR:=o8 A_ λi j d e G=>by cases e;exact .int _
theorem d7:OpD X (Zh .Sub) h9:=o8 F1 λi j d e G=>by cases e;exact .int _
theorem gE:OpD X (Zh .Mult) cV:=zK HU λi j d e=>by
 split at e
 ·rename_i h;cases e;exact⟨h,λG=>.int _⟩
 ·cases e
theorem vg:OpD X (Zh .FloorDiv) nP:=zK DJ λi j d e=>by
 split at e
 ·rename_i h;cases e;exact⟨h,λG=>.int _⟩
 ·cases e
theorem a_:OpD X (Zh .Mod) ba:=zK GM λi j d e=>by
 split at e
 ·rename_i h;cases e;exact⟨h,λG=>.int _⟩
 ·cases e
theorem Ce:OpD X (Zh .Pow) w_:=zK GH λi j d e=>by
 split at e
 ·rename_i h;cases e;exact⟨h,λG=>.int _⟩
 ·cases e
noncomputable def ltI:D->D->Option D:=ip λi j=>some (.bl (decide (i<j)))
noncomputable def leI:D->D->Option D:=ip λi j=>some (.bl (decide (i<=j)))
noncomputable def gtI:D->D->Option D:=ip λi j=>some (.bl (decide (j<i)))
noncomputable def geI:D->D->Option D:=ip λi j=>some (.bl (decide (j<=i)))
theorem oi:OpD X (QF .Lt) ltI:=o8 Jc λi j d e G=>by cases e;exact .bl _
theorem bV:OpD X (QF .LtE) leI:=o8 Jm λi j d e G=>by cases e;exact .bl _
theorem og:OpD X (QF .Gt) gtI:=o8 C8 λi j d e G=>by cases e;exact .bl _
theorem De:OpD X (QF .GtE) geI:=o8 Jf λi j d e G=>by cases e;exact .bl _
noncomputable def eqS:D->D->Option Bool
 |.non,.non=>some true | .non,.int _=>some false | .int _,.non=>some false | .non,.bl _=>some false | .bl _,.non=>some false | .non,.str _=>some false | .str _,.non=>some false
 |.int i,.int j=>some (decide (i=j)) | .bl i,.bl j=>some (decide (i=j)) | .str i,.str j=>some (decide (i=j))
 |.int _,.str _=>some false | .str _,.int _=>some false | .bl _,.str _=>some false | .str _,.bl _=>some false
 |_,_=>none
theorem vJ{K:Qc}{G H:Hp}{x y:V}{dx dy:D}{k:Bool}(hx:eK K G H x dx)(hy:eK K G H y dy)(e:eqS dx dy=some k):Hr x y=true/\decide (x=y)=k:=by
 unfold eqS at e;split at e<;>first | (cases e;done) | skip
 all_goals first
  |(cases hx.non) | (cases hx.int) | (cases hx.bl) | (cases hx.str)
 all_goals first
  |(cases hy.non) | (cases hy.int) | (cases hy.bl) | (cases hy.str)
 all_goals (refine⟨rfl,?_⟩;cases e;simp)
noncomputable def wm:D->Bool
 |.non=>true
 |_=>false
theorem eK.isNon{K:Qc}{G H:Hp}{v:V}{d:D}(h:eK K G H v d):decide (v=.non)=wm d:=by
 rcases h with h | ⟨a,xs,ds,rfl,rfl,_⟩
 ·cases h<;>simp[Dn.wm]
 ·simp[Dn.wm]
noncomputable def isD(neg:Bool):D->D->Option D:=λx y=>match y with | .non=>some (.bl (if neg then !wm x else wm x)) | _=>none
theorem w9:OpD X (QF .Is) (isD false):=⟨_,GW,λG H x y dx dy d Q gh hx hy e q=>by
 unfold isD at e;split at e
 ·cases e;exact⟨hy.non,q _ G H (.refl gh) (by rw[hx.isNon];exact .bl _)⟩
 ·cases e⟩
theorem B7:OpD X (QF .IsNot) (isD true):=⟨_,ED,λG H x y dx dy d Q gh hx hy e q=>by
 unfold isD at e;split at e
 ·cases e;exact⟨hy.non,q _ G H (.refl gh) (by rw[hx.isNon];exact .bl _)⟩
 ·cases e⟩
noncomputable def IF:D->Option D
 |.int i=>some (.int (-i))
 |_=>none
noncomputable def kJ(fa:Ev->Option D):Ev->Option D:=λε=>(fa ε).bind IF
theorem jH(ha:DB X a fa):DE X (.UnaryOp .USub a pos) (kJ fa):=by
 obtain⟨ta,a1,a2⟩:=ha;refine⟨_,Jl Ho a1,λHe G H σ ε d Q gh E ef q=>?_⟩;obtain⟨x,e1,ef⟩:=aq ef;refine a2 He G H σ ε x _ gh E e1 λv G1 H1 g1 d1=>?_;unfold IF at ef;split at ef
 ·cases ef;exact⟨_,d1.int,q _ G1 H1 g1 (.int _)⟩
 ·cases ef
noncomputable def ixD:D->D->Option D:=λx y=>match x,y with | .lst xs,.int i=>atI xs i | .tup xs,.int i=>atI xs i | _,_=>none
theorem qB{K:Qc}{G:Hp}{xs:List V}{ds:List D}{i:Int}{d:D}(h:DenL K G xs ds)(e:atI ds i=some d):∃v,atI xs i=some v/\Den K G v d:=by
 unfold atI at e ⊢;rw[h.length];cases e1:ixN ds.length i with
 |none=>rw[e1] at e;cases e
 |some j=>
  rw[e1] at e;exact h.get e
theorem aO(ha:DB X a fa)(hb:DB X b fb)(hs:ot b:=by intro _ _;rfl):DE X (.Subscript a b pos) (e2 ixD fa fb):=
 BL (zM.or d9) (λG H x y dx dy d Q gh hx hy e q=>by
  unfold ixD at e;split at e
  ·obtain⟨p,xs,rfl,h1,h2⟩:=hx.lst gh
   obtain⟨v,h3,h4⟩:=qB h2 e;exact .inl ⟨p,xs,_,v,rfl,hy.int,h1,h3,q _ G H (.refl gh) h4⟩
  ·obtain⟨p,xs,rfl,h0,h1,h2⟩:=hx.tup gh
   obtain⟨v,h3,h4⟩:=qB h2 e;exact .inr ⟨p,xs,_,v,rfl,hy.int,h1,h3,q _ G H (.refl gh) h4⟩
  ·cases e) ha hb hs
noncomputable def aF:Ev->Option (List D):=λ_=>some []
noncomputable def aa(f:Ev->Option D)(g:Ev->Option (List D)):Ev->Option (List D):=λε=>(f ε).bind λd=>(g ε).bind λds=>some (d::ds)
theorem aE:DA X [] aF:=⟨_,aR,λHe G H σ ε ds Q gh E ef q=>by cases ef;exact q [] G H (.refl gh) .nil⟩
theorem ae{e:Expr}{es:List Expr}{f:Ev->Option D}{g:Ev->Option (List D)}(h:DE X e f)(hs:DA X es g)(hst:Qg (e::es) X.env=(false,eval e X.env)::Qg es X.env:=by rfl):DA X (e::es) (aa f g):=by
 obtain⟨t,a1,a2⟩:=h;obtain⟨u,b1,b2⟩:=hs;refine⟨_,aC a1 b1 hst,λHe G H σ ε ds Q gh E ef q=>?_⟩;obtain⟨x,e1,ef⟩:=aq ef;obtain⟨xs,e2,ef⟩:=aq ef;cases ef;refine a2 He G H σ ε x _ gh E e1 λv G1 H1 g1 d1=>?_;refine b2 He G1 H1 σ ε xs _ g1.gh (E.grow g1) e2 λvs G2 H2 g2 d2=>?_;exact q _ G2 H2 (g1.trans g2) (.cons (d1.mono g2.gg) d2)
noncomputable def cA(g:Ev->Option (List D)):Ev->Option D:=λε=>(g ε).bind λds=>if ds.length<=1000 then some (.tup ds) else none
theorem zz{n:Nat}(h:n<=1000):n<=Qk:=Nat.le_of_lt (AU h)
theorem br{es:List Expr}{g:Ev->Option (List D)}{x1}(h:DA X es g):DE X (.Tuple es x1 pos) (cA g):=by
 obtain⟨t,a1,a2⟩:=h;refine⟨_,mT a1,λHe G H σ ε d Q gh E ef q=>?_⟩;obtain⟨ds,e1,ef⟩:=aq ef;split at ef
 ·rename_i hl
  cases ef;refine a2 He G H σ ε ds _ gh E e1 λvs G1 H1 g1 d1=>⟨by rw[d1.length];exact zz hl,λp hp=>?_⟩;have g2:=Grow.new (.tup vs) g1.gh hp;exact q _ _ _ (g1.trans g2) (.tup (SqT.of upd_same) (d1.mono g2.gg))
 ·cases ef
noncomputable def iI(g:Ev->Option (List D)):Ev->Option (List D):=λε=>(g ε).bind λds=>if ds.length<=1000 then some ds else none
theorem Grow.gnone{G H G' H':Hp}{p:Addr}(g:Grow G H G' H')(h:H' p=none):G' p=none:=g.gh.free h
theorem dI{es:List Expr}{g:Ev->Option (List D)}(h:DA X es g):DF X (.List es pos) (iI g):=by
 obtain⟨t,a1,a2⟩:=h;refine⟨_,dM a1,λHe G H σ ε ds Q gh E ef q=>?_⟩;obtain⟨ds',e1,ef⟩:=aq ef;split at ef
 ·rename_i hl
  cases ef;refine a2 He G H σ ε _ _ gh E e1 λvs G1 H1 g1 d1=>⟨by rw[d1.length];exact zz hl,λp hp=>?_⟩;exact q p vs G1 _ (g1.trans (.lay _ g1.gh hp)) (g1.hh.free hp) (g1.gnone hp) upd_same d1
 ·cases ef
noncomputable def DO(X:Cx)(e:Option Expr)(f:Ev->Option (Option Int)):Prop:=∃t,PO X e t/\∀(He G H:Hp) (σ:L2.St) (ε:Ev) (d:Option Int) (Q:Option Int->Hp->Prop),aT G H->EnvD X.K He G H σ ε->f ε=some d->
 (∀G' H',Grow G H G' H'->Q d H')->t σ H Q
noncomputable def dC:Ev->Option (Option Int):=λ_=>some none
noncomputable def bf(f:Ev->Option D):Ev->Option (Option Int):=λε=>match f ε with | some (.int i)=>some (some i) | _=>none
theorem gN:DO X none dC:=⟨_,EY,λHe G H σ ε d Q gh E ef q=>by cases ef;exact q G H (.refl gh)⟩
theorem bU{e:Expr}{f:Ev->Option D}(h:DB X e f):DO X (some e) (bf f):=by
 obtain⟨t,a1,a2⟩:=h;refine⟨_,DQ a1,λHe G H σ ε d Q gh E ef q=>?_⟩;unfold bf at ef;split at ef
 ·rename_i i e1
  cases ef;exact a2 He G H σ ε _ _ gh E e1 λv G1 H1 g1 d1=>⟨i,d1.int,q G1 H1 g1⟩
 ·cases ef
noncomputable def kI(xs:List D)(lo hi:Option Int):List D:=(xs.drop (HT.sIx xs.length 0 lo)).take (HT.sIx xs.length xs.length hi-HT.sIx xs.length 0 lo)
theorem yN{K:Qc}{G:Hp}{xs:List V}{ds:List D}(lo hi:Option Int)(h:DenL K G xs ds):DenL K G (uU xs lo hi) (kI ds lo hi):=by
 unfold uU kI;rw[h.length];exact(h.drop _).take _
noncomputable def eSl(fa:Ev->Option D)(fl fh:Ev->Option (Option Int)):Ev->Option (List D):=λε=>(fa ε).bind λx=>(fl ε).bind λlo=>(fh ε).bind λhi=>match x with | .lst xs=>some (kI xs lo hi) | _=>none
theorem lP{lo hi:Option Expr}{fl fh:Ev->Option (Option Int)}{p2:Pos}(ha:DB X a fa)(hl:DO X lo fl)(hh:DO X hi fh):DF X (.Subscript a (.Slice lo hi none p2) pos) (eSl fa fl fh):=by
 obtain⟨ta,a1,a2⟩:=ha;obtain⟨tl,b1,b2⟩:=hl;obtain⟨th,c1,c2⟩:=hh;refine⟨_,vw DZ a1 b1 c1,λHe G H σ ε ds Q gh E ef q=>?_⟩;obtain⟨x,e1,ef⟩:=aq ef;obtain⟨l,e2,ef⟩:=aq ef;obtain⟨u,e3,ef⟩:=aq ef;refine a2 He G H σ ε x _ gh E e1 λv G1 H1 g1 d1=>?_;refine b2 He G1 H1 σ ε l _ g1.gh (E.grow g1) e2 λG2 H2 g2=>?_;refine c2 He G2 H2 σ ε u _ g2.gh ((E.grow g1).grow g2) e3 λG3 H3 g3=>?_;split at ef
 ·cases ef
  obtain⟨p,xs,rfl,h1,h2⟩:=((d1.grow g2).grow g3).lst g3.gh;refine⟨p,xs,rfl,h1,λp' hp=>?_⟩;have g:=g1.trans (g2.trans g3);exact q p' _ G3 _ (g.trans (.lay _ g3.gh hp)) (g.hh.free hp) (g3.gnone hp) upd_same (yN l u h2)
 ·cases ef
noncomputable def mY(fa:Ev->Option D)(fl fh:Ev->Option (Option Int)):Ev->Option D:=λε=>(fa ε).bind λx=>(fl ε).bind λlo=>(fh ε).bind λhi=>match x with
 |.tup xs=>if HT.sIx xs.length 0 lo=0/\HT.sIx xs.length xs.length hi=xs.length then none else some (.tup (kI xs lo hi))
 |_=>none
theorem m_{lo hi:Option Expr}{fl fh:Ev->Option (Option Int)}{p2:Pos}(ha:DB X a fa)(hl:DO X lo fl)(hh:DO X hi fh):DE X (.Subscript a (.Slice lo hi none p2) pos) (mY fa fl fh):=by
 obtain⟨ta,a1,a2⟩:=ha;obtain⟨tl,b1,b2⟩:=hl;obtain⟨th,c1,c2⟩:=hh;refine⟨_,vw HK a1 b1 c1,λHe G H σ ε ds Q gh E ef q=>?_⟩;obtain⟨x,e1,ef⟩:=aq ef;obtain⟨l,e2,ef⟩:=aq ef;obtain⟨u,e3,ef⟩:=aq ef;refine a2 He G H σ ε x _ gh E e1 λv G1 H1 g1 d1=>?_;refine b2 He G1 H1 σ ε l _ g1.gh (E.grow g1) e2 λG2 H2 g2=>?_;refine c2 He G2 H2 σ ε u _ g2.gh ((E.grow g1).grow g2) e3 λG3 H3 g3=>?_;split at ef
 ·split at ef
  ·cases ef
  ·rename_i hw
   cases ef;obtain⟨p,xs,rfl,h0,h1,h2⟩:=((d1.grow g2).grow g3).tup g3.gh;refine⟨p,xs,rfl,h1,by rw[h2.length];exact hw,λp' hp=>?_⟩;have g4:=Grow.new (.tup (uU xs l u)) g3.gh hp;exact q _ _ _ ((g1.trans (g2.trans g3)).trans g4) (.tup (SqT.of upd_same) ((yN l u h2).mono g4.gg))
 ·cases ef
noncomputable def cI(f g:Ev->Option Bool):Ev->Option Bool:=λε=>(f ε).bind λk=>if k=true then g ε else some false
noncomputable def iY(f g:Ev->Option Bool):Ev->Option Bool:=λε=>(f ε).bind λk=>if k=true then some true else g ε
noncomputable def b_(f:Ev->Option Bool):Ev->Option Bool:=λε=>(f ε).map λk=>!k
section
variable{f g:Ev->Option Bool}{rest:List Expr}
theorem iz(h:DT X a f):DW X (.BoolOp .And [a] pos) f:=let⟨t,h1,h2⟩:=h;⟨t,EZ h1,h2⟩
theorem jW(h:DT X a f):DW X (.BoolOp .Or [a] pos) f:=let⟨t,h1,h2⟩:=h;⟨t,BF h1,h2⟩
theorem jZ(h:DT X a f)(hr:DW X (.BoolOp .And (b::rest) pos) g):DW X (.BoolOp .And (a::b::rest) pos) (cI f g):=by
 obtain⟨t,a1,a2⟩:=h;obtain⟨u,b1,b2⟩:=hr;refine⟨_,HW a1 b1,λHe G H σ ε k Q gh E ef q=>?_⟩;obtain⟨c,e1,ef⟩:=aq ef;refine a2 He G H σ ε c _ gh E e1 λG1 H1 g1=>?_;cases c with
 |true=>
  rw[if_pos rfl] at ef ⊢;exact b2 He G1 H1 σ ε k _ g1.gh (E.grow g1) ef λG2 H2 g2=>q _ _ (g1.trans g2)
 |false=>
  rw[if_neg Qp] at ef ⊢;cases ef;exact q _ _ g1
theorem mf(h:DT X a f)(hr:DW X (.BoolOp .Or (b::rest) pos) g):DW X (.BoolOp .Or (a::b::rest) pos) (iY f g):=by
 obtain⟨t,a1,a2⟩:=h;obtain⟨u,b1,b2⟩:=hr;refine⟨_,Fz a1 b1,λHe G H σ ε k Q gh E ef q=>?_⟩;obtain⟨c,e1,ef⟩:=aq ef;refine a2 He G H σ ε c _ gh E e1 λG1 H1 g1=>?_;cases c with
 |true=>
  rw[if_pos rfl] at ef ⊢;cases ef;exact q _ _ g1
 |false=>
  rw[if_neg Qp] at ef ⊢;exact b2 He G1 H1 σ ε k _ g1.gh (E.grow g1) ef λG2 H2 g2=>q _ _ (g1.trans g2)
theorem gQ(h:DT X a f):DT X (.UnaryOp .Not a pos) (b_ f):=by
 obtain⟨t,a1,a2⟩:=h;refine⟨_,yf a1,λHe G H σ ε k Q gh E ef q=>?_⟩;unfold b_ at ef;cases e1:f ε with
 |none=>rw[e1] at ef;cases ef
 |some c=>
  rw[e1] at ef;cases ef;exact a2 He G H σ ε c _ gh E e1 q
end
noncomputable def i_(fa fb:Ev->Option D):Ev->Option D:=λε=>(fa ε).bind λx=>match x with | .bl k=>if k=true then fb ε else some (.bl false) | _=>none
noncomputable def eOr(fa fb:Ev->Option D):Ev->Option D:=λε=>(fa ε).bind λx=>match x with | .bl k=>if k=true then some (.bl true) else fb ε | _=>none
theorem pA{op}(h:DE X a fa):DE X (.BoolOp op [a] pos) fa:=let⟨t,h1,h2⟩:=h;⟨t,Hb h1,h2⟩
theorem iV{rest:List Expr}(h:DE X a fa)(hr:DE X (.BoolOp .And (b::rest) pos) fb):DE X (.BoolOp .And (a::b::rest) pos) (i_ fa fb):=by
 obtain⟨t,a1,a2⟩:=h;obtain⟨u,b1,b2⟩:=hr;refine⟨_,GC a1 b1,λHe G H σ ε d Q gh E ef q=>?_⟩;obtain⟨x,e1,ef⟩:=aq ef;refine a2 He G H σ ε x _ gh E e1 λv G1 H1 g1 d1=>?_;split at ef
 ·rename_i k
  refine⟨k,d1.blV,?_⟩;cases k with
  |true=>
   rw[if_pos rfl] at ef ⊢;exact b2 He G1 H1 σ ε d _ g1.gh (E.grow g1) ef λv G2 H2 g2=>q _ _ _ (g1.trans g2)
  |false=>
   rw[if_neg Qp] at ef ⊢;cases ef;exact q _ _ _ g1 (.bl _)
 ·cases ef
theorem Ib{rest:List Expr}(h:DE X a fa)(hr:DE X (.BoolOp .Or (b::rest) pos) fb):DE X (.BoolOp .Or (a::b::rest) pos) (eOr fa fb):=by
 obtain⟨t,a1,a2⟩:=h;obtain⟨u,b1,b2⟩:=hr;refine⟨_,Jo a1 b1,λHe G H σ ε d Q gh E ef q=>?_⟩;obtain⟨x,e1,ef⟩:=aq ef;refine a2 He G H σ ε x _ gh E e1 λv G1 H1 g1 d1=>?_;split at ef
 ·rename_i k
  refine⟨k,d1.blV,?_⟩;cases k with
  |true=>
   rw[if_pos rfl] at ef ⊢;cases ef;exact q _ _ _ g1 (.bl _)
  |false=>
   rw[if_neg Qp] at ef ⊢;exact b2 He G1 H1 σ ε d _ g1.gh (E.grow g1) ef λv G2 H2 g2=>q _ _ _ (g1.trans g2)
 ·cases ef
noncomputable def Ir:D->Option Bool
 |.non=>some false
 |.bl b=>some b
 |.int i=>some (i != 0)
 |.str _=>none
 |.tup xs=>some (!xs.isEmpty)
 |.lst xs=>some (!xs.isEmpty)
 |.dic _=>none
 |.rcd _ _=>none
theorem DenL.emp{K:Qc}{G:Hp}{xs:List V}{ds:List D}(h:DenL K G xs ds):xs.isEmpty=ds.isEmpty:=by cases h<;>rfl
noncomputable def cZ(fa:Ev->Option D):Ev->Option Bool:=λε=>(fa ε).bind Ir
theorem ck(ha:DB X a fa)(he:∀whole,isTrue a X.env whole=(do let v<-whole;KO a.pos;ZO [v] (truthy v)):=by intro _;rfl):DT X a (cZ fa):=by
 obtain⟨ta,a1,a2⟩:=ha;refine⟨_,wo a1 he,λHe G H σ ε k Q gh E ef q=>?_⟩;obtain⟨x,e1,ef⟩:=aq ef;refine a2 He G H σ ε x _ gh E e1 λv G1 H1 g1 d1=>⟨k,?_,q _ _ g1⟩;unfold Ir at ef;split at ef
 ·cases d1.non;cases ef;rfl
 ·cases d1.bl;cases ef;rfl
 ·cases d1.int;cases ef;rfl
 ·cases ef
 ·cases ef
  obtain⟨p,xs,rfl,h0,h1,h2⟩:=d1.tup g1.gh;exact .inr (.inl ⟨xs,h1,by rw[h2.emp]⟩)
 ·cases ef
  obtain⟨p,xs,rfl,h1,h2⟩:=d1.lst g1.gh;exact .inl ⟨xs,h1,by rw[h2.emp]⟩
 ·cases ef
 ·cases ef
end
noncomputable def spF(K:Qc)(F:List D->Option D):Sp:=λvs H Q _=>∃G ds d,aT G H/\DenL K G vs ds/\F ds=some d/\∀v G' H',Grow G H G' H'->Den K G' v d->Q v H'
noncomputable def spO(K:Qc)(F:List D->Option (List D)):Sp:=λvs H Q _=>∃G ds rs,aT G H/\DenL K G vs ds/\F ds=some rs/\∀a xs G' H',Grow G H G' H'->H a=none->G' a=none->H' a=some (.lst xs)->DenL K G' xs rs->Q (.ref a) H'
noncomputable def bG(N:List Str)(ds:List D):Ev:=ds.map Sl.dat++Z9 (N.length-ds.length) Sl.un
section
variable{X:Cx}{a b c:Expr}{fa fb fc:Ev->Option D}{pos:Pos}
noncomputable def aL(F:List D->Option D)(g:Ev->Option (List D)):Ev->Option D:=λε=>(g ε).bind F
noncomputable def aY(op:D->Option D)(fa:Ev->Option D):Ev->Option D:=λε=>(fa ε).bind op
noncomputable def h_(op:D->Option D)(fa:Ev->Option D):Ev->Option D:=λε=>(fa ε).bind op
theorem Dz{k:Nat}{f:Addr}{fd:QY}{ps:List Str}{Fn:List D->Option D}{x:Str}{e:Expr}{es:List Expr}{g:Ev->Option (List D)}{p:Pos}
  (F:FnOk X.prog X.w X.K X.mg X.base CX0 k f fd ps (spF X.K Fn)) (hr:Room k X.A) (hm:X.mg x=some (.ref f)) (hk:QT X.K (.ref f)=true) (hb:gj X.K fd ps [])
  (ha:DA X (e::es) g) (hg:Gl X x:=by rfl) (hdb:(x==("__debug__" : Str))=false:=by decide) (he:Qg (e::es) X.env=(false,eval e X.env)::Qg es X.env:=by rfl) (hpl:(QP pos (Qg es X.env)).any (·.1)=false:=by rfl) :
  DE X (.Call (.Name x p) (e::es) [] pos) (aL Fn g):=by
 obtain⟨t,a1,a2⟩:=ha;refine⟨_,eP (E:=E0) F hr hg hm hk hb .nil f7 a1 hdb he hpl,λHe G H σ ε d Q gh E ef q=>?_⟩;obtain⟨ds,e1,ef⟩:=aq ef;refine a2 He G H σ ε ds _ gh E e1 λvs G1 H1 g1 d1=>?_;show spF X.K Fn (vs++[]) H1 Q E0;rw[Q6];exact⟨G1,ds,d,g1.gh,d1,ef,λv G2 H2 g2 d2=>q v G2 H2 (g1.trans g2) d2⟩
noncomputable def pj(F:List D->Option (List D))(g:Ev->Option (List D)):Ev->Option (List D):=λε=>(g ε).bind F
theorem D7{k:Nat}{f:Addr}{fd:QY}{ps:List Str}{Fn:List D->Option (List D)}{x:Str}{e:Expr}{es:List Expr}{g:Ev->Option (List D)}{p:Pos}
  (F:FnOk X.prog X.w X.K X.mg X.base CX0 k f fd ps (spO X.K Fn)) (hr:Room k X.A) (hm:X.mg x=some (.ref f)) (hk:QT X.K (.ref f)=true) (hb:gj X.K fd ps [])
  (ha:DA X (e::es) g) (hg:Gl X x:=by rfl) (hdb:(x==("__debug__" : Str))=false:=by decide) (he:Qg (e::es) X.env=(false,eval e X.env)::Qg es X.env:=by rfl) (hpl:(QP pos (Qg es X.env)).any (·.1)=false:=by rfl) :
  DF X (.Call (.Name x p) (e::es) [] pos) (pj Fn g):=by
 obtain⟨t,a1,a2⟩:=ha;refine⟨_,eP (E:=E0) F hr hg hm hk hb .nil f7 a1 hdb he hpl,λHe G H σ ε rs Q gh E ef q=>?_⟩;obtain⟨ds,e1,ef⟩:=aq ef;refine a2 He G H σ ε ds _ gh E e1 λvs G1 H1 g1 d1=>?_;show spO X.K Fn (vs++[]) H1 Q E0;rw[Q6];exact⟨G1,ds,rs,g1.gh,d1,ef,λa xs G2 H2 g2 n1 n2 h2 d2=>q a xs G2 H2 (g1.trans g2) (g1.hh.free n1) n2 h2 d2⟩
noncomputable def dJ:D->Option D
 |.lst xs=>some (.int xs.length)
 |.tup xs=>some (.int xs.length)
 |_=>none
theorem fQ{p:Pos}(ha:DB X a fa)(hm:X.mg "len" = none)(hg:Gl X "len":=by rfl)(hst:Qg [a] X.env=(false,eval a X.env)::Qg [] X.env:=by rfl)(hpl:(QP pos (Qg [] X.env)).any (·.1)=false:=by rfl):DE X (.Call (.Name "len" p) [a] [] pos) (aY dJ fa):=by
 obtain⟨ta,a1,a2⟩:=ha;refine⟨_,fm eR hg hm KP (aC a1 aR hst) KE KE hst hpl,λHe G H σ ε d Q gh E ef q=>?_⟩;obtain⟨x,e1,ef⟩:=aq ef;refine a2 He G H σ ε x _ gh E e1 λv G1 H1 g1 d1=>?_;unfold dJ at ef;split at ef
 ·cases ef
  obtain⟨p,xs,rfl,h1,h2⟩:=d1.lst g1.gh;exact⟨p,xs,rfl,.inl h1,q _ _ _ g1 (by rw[h2.length];exact .int _)⟩
 ·cases ef
  obtain⟨p,xs,rfl,h0,h1,h2⟩:=d1.tup g1.gh;exact⟨p,xs,rfl,.inr h1,q _ _ _ g1 (by rw[h2.length];exact .int _)⟩
 ·cases ef
noncomputable def lG(X:Cx)(f:Qa)(op:List D->Option D):Prop:=∃r,iW X f r/\∀(G H:Hp) (vs:List V) (ds:List D) (d:D) (Q:VK),aT G H->DenL X.K G vs ds->op ds=some d->
 (∀v G' H',Grow G H G' H'->Den X.K G' v d->Q v H')->r vs H Q
theorem gM{id:String}{op:List D->Option D}{x:Str}{e:Expr}{es:List Expr}{g:Ev->Option (List D)}{p:Pos}(hc:lG X (.builtin id) op)(hm:X.mg x=none)(hv:ZW x=some (.builtin id))(ha:DA X (e::es) g)(hg:Gl X x:=by rfl)
  (hn:x≠"__name__":=by decide) (hdb:(x==("__debug__" : Str))=false:=by decide) (he:Qg (e::es) X.env=(false,eval e X.env)::Qg es X.env:=by rfl) (hpl:(QP pos (Qg es X.env)).any (·.1)=false:=by rfl) :
  DE X (.Call (.Name x p) (e::es) [] pos) (aL op g):=by
 obtain⟨r,c1,c2⟩:=hc;obtain⟨t,a1,a2⟩:=ha;refine⟨_,fm c1 hg hm hv a1 hn hdb he hpl,λHe G H σ ε d Q gh E ef q=>?_⟩;obtain⟨ds,e1,ef⟩:=aq ef;refine a2 He G H σ ε ds _ gh E e1 λvs G1 H1 g1 d1=>?_;exact c2 G1 H1 vs ds d Q g1.gh d1 ef λv G2 H2 g2 d2=>q v G2 H2 (g1.trans g2) d2
theorem Av{T:String}{op:List D->Option D}{x:Str}{e:Expr}{es:List Expr}{g:Ev->Option (List D)}{p:Pos}(hc:lG X (.type T) op)(hm:X.mg x=none)(hv:ZW x=some (.type T))(ha:DA X (e::es) g)(hg:Gl X x:=by rfl)
  (hn:x≠"__name__":=by decide) (hdb:(x==("__debug__" : Str))=false:=by decide) (he:Qg (e::es) X.env=(false,eval e X.env)::Qg es X.env:=by rfl) (hpl:(QP pos (Qg es X.env)).any (·.1)=false:=by rfl) :
  DE X (.Call (.Name x p) (e::es) [] pos) (aL op g):=by
 obtain⟨r,c1,c2⟩:=hc;obtain⟨t,a1,a2⟩:=ha;refine⟨_,cD c1 hg hm hv a1 hn hdb he hpl,λHe G H σ ε d Q gh E ef q=>?_⟩;obtain⟨ds,e1,ef⟩:=aq ef;refine a2 He G H σ ε ds _ gh E e1 λvs G1 H1 g1 d1=>?_;exact c2 G1 H1 vs ds d Q g1.gh d1 ef λv G2 H2 g2 d2=>q v G2 H2 (g1.trans g2) d2
noncomputable def zq:List D->Option D
 |[.int i,.int j]=>some (.int (if j>i then j else i))
 |_=>none
noncomputable def zO:List D->Option D
 |[.int i,.int j]=>some (.int (if j<i then j else i))
 |_=>none
theorem Den.intV{K:Qc}{G:Hp}{v:V}{i:Int}(h:Den K G v (.int i)):v=.int i:=by cases h;rfl
theorem D0(hc:X.calm=true):lG X (.builtin "max") zq:=⟨_,A4 hc,λG H vs ds d Q gh hd e q=>by
 unfold zq at e;split at e
 ·cases e
  cases hd with | cons h1 h2=>cases h2 with | cons h2 h3=>cases h3;exact⟨_,_,by rw[h1.intV,h2.intV],q _ _ _ (.refl gh) (.int _)⟩
 ·cases e⟩
theorem EB(hc:X.calm=true):lG X (.builtin "min") zO:=⟨_,AM hc,λG H vs ds d Q gh hd e q=>by
 unfold zO at e;split at e
 ·cases e
  cases hd with | cons h1 h2=>cases h2 with | cons h2 h3=>cases h3;exact⟨_,_,by rw[h1.intV,h2.intV],q _ _ _ (.refl gh) (.int _)⟩
 ·cases e⟩
noncomputable def vZ:List D->Option D
 |[.int i]=>some (.int i)
 |[.bl k]=>some (.int (if k then 1 else 0))
 |_=>none
theorem Ht:lG X (.type "int") vZ:=⟨_,An,λG H vs ds d Q gh hd e q=>by
 unfold vZ at e;split at e
 ·cases e
  cases hd with | cons h1 h2=>cases h2;exact .inl ⟨_,by rw[h1.intV],q _ _ _ (.refl gh) (.int _)⟩
 ·cases e
  cases hd with | cons h1 h2=>cases h2;exact .inr ⟨_,by rw[h1.blV],q _ _ _ (.refl gh) (.int _)⟩
 ·cases e⟩
noncomputable def BN:List D->Option D
 |[.lst xs]=>some (.tup xs)
 |[.tup xs]=>some (.tup xs)
 |_=>none
theorem Den.lstV{K:Qc}{G:Hp}{v:V}{ds:List D}(h:Den K G v (.lst ds)):∃a xs,v=.ref a/\SqL K G a xs/\DenL K G xs ds:=by cases h with | lst h hs=>exact⟨_,_,rfl,h.sq,hs⟩
theorem Den.tupV{K:Qc}{G:Hp}{v:V}{ds:List D}(h:Den K G v (.tup ds)):∃a xs,v=.ref a/\SqT K G a xs/\DenL K G xs ds:=by cases h with | tup h hs=>exact⟨_,_,rfl,h,hs⟩
noncomputable def kY(fa:Ev->Option D):Ev->Option (List D):=λε=>match fa ε with | some (.lst xs)=>some xs | some (.tup xs)=>some xs | _=>none
theorem jB{p:Pos}(ha:DB X a fa)(hm:X.mg "list" = none)(hg:Gl X "list":=by rfl)(hst:Qg [a] X.env=(false,eval a X.env)::Qg [] X.env:=by rfl)(hpl:(QP pos (Qg [] X.env)).any (·.1)=false:=by rfl):DF X (.Call (.Name "list" p) [a] [] pos) (kY fa):=by
 obtain⟨ta,a1,a2⟩:=ha;refine⟨_,cD cN hg hm (by rfl) (aC a1 aR hst) KE KE hst hpl,λHe G H σ ε d Q gh E ef q=>?_⟩;unfold kY at ef;split at ef
 ·rename_i e1
  cases ef;refine a2 He G H σ ε _ _ gh E e1 λv G1 H1 g1 d1=>?_;obtain⟨p,xs,rfl,h1,h2⟩:=d1.lst g1.gh;exact⟨p,xs,rfl,.inl h1,λl hl=>q l xs G1 _ (g1.trans (.lay _ g1.gh hl)) (g1.hh.free hl) (g1.gnone hl) upd_same h2⟩
 ·rename_i e1
  cases ef;refine a2 He G H σ ε _ _ gh E e1 λv G1 H1 g1 d1=>?_;obtain⟨p,xs,rfl,h0,h1,h2⟩:=d1.tup g1.gh;exact⟨p,xs,rfl,.inr h1,λl hl=>q l xs G1 _ (g1.trans (.lay _ g1.gh hl)) (g1.hh.free hl) (g1.gnone hl) upd_same h2⟩
 ·cases ef
noncomputable def tyD:D->String
 |.non=>"NoneType" | .bl _=>"bool" | .int _=>"int" | .str _=>"str" | .tup _=>"tuple" | .lst _=>"list" | .dic _=>"dict" | .rcd _ _=>"dict"
noncomputable def isR:D->Bool
 |.rcd _ _=>true
 |_=>false
noncomputable def gq(T:String)(d:D):Option D:=if isR d=true then none else some (.bl (tyD d==T || (tyD d == "bool" && T == "int")))
theorem EN{K:Qc}{t T:String}(hT:T = "list"\/T = "tuple"\/T = "bool"\/T = "int"\/T = "str")(ht:t = "NoneType"\/t = "bool"\/t = "int"\/t = "str"\/t = "tuple"\/t = "list"\/t = "dict") :
  Ki K (.type t) (.type T)=some (t==T || (t == "bool" && T == "int")):=by
 rcases hT with rfl | rfl | rfl | rfl | rfl<;>rcases ht with rfl | rfl | rfl | rfl | rfl | rfl | rfl<;>rfl
theorem Ep(d:D):tyD d = "NoneType"\/tyD d = "bool"\/tyD d = "int"\/tyD d = "str"\/tyD d = "tuple"\/tyD d = "list"\/tyD d = "dict":=by cases d<;>simp[tyD]
theorem Bj{T:String}(hT:T = "list"\/T = "tuple"\/T = "bool"\/T = "int"\/T = "str"):iW X (.builtin "isinstance") (λxs H Q=>∃G v d,xs=[v,.ty T]/\aT G H/\eK X.K G H v d/\∃k,gq T d=some (.bl k)/\Q (.bl k) H):=by
 intro pins s σ H xs us Q I rv h;obtain⟨G,v,d,rfl,gh,hd,k,ek,q⟩:=h;obtain⟨u,u2,rfl,r1,r2⟩:=rv.two;have e2:u2=Value.type T:=r2;subst e2;unfold gq at ek;split at ek
 ·cases ek
 rename_i nR
 have kt:Ki X.K (.type (tyD d)) (.type T)=some k:=by
  rw[EN hT (Ep d)];injection ek with ek
  injection ek with ek
  rw[ek]
 have fin:∀tk,EP X pins σ Q (.bool k) { s with toks:=tk }:=λtk=>⟨.bl k,H,I.tok tk,rfl,q⟩;cases d with
 |non=>cases hd.non;cases(show u=Q0 from r1);exact Z3 PySem.W.kitx_none I.kIn ZY kt (λz=>nomatch z) fin
 |bl y=>cases hd.bl;cases(show u=Ve y from r1);exact Z3 PySem.W.kitx_bool I.kIn ZY kt (λz=>nomatch z) fin
 |int i=>cases hd.int;obtain⟨t,z⟩:=(show ∃t,u=Value.int i t from r1);cases z;exact Z3 PySem.W.kitx_int I.kIn ZY kt (λz=>nomatch z) fin
 |str i=>cases hd.str;obtain⟨t,z⟩:=(show ∃t,u=Value.str i t from r1);cases z;exact Z3 PySem.W.kitx_str I.kIn ZY kt (λz=>nomatch z) fin
 |tup ds=>
  obtain⟨p,ys,rfl,h0,h1,h2⟩:=hd.tup gh;cases(show u=Qn p from r1);obtain⟨its,_,⟨o,h3,h4,_⟩,_⟩:=I.tuple h1;exact Z3 PySem.W.kitx_tuple I.kIn ⟨o,h3,h4⟩ kt (λz=>nomatch z) fin
 |lst ds=>
  obtain⟨p,ys,rfl,h1,h2⟩:=hd.lst gh;cases(show u=Qn p from r1);obtain⟨its,_,⟨o,n,h3,h4,_⟩,_⟩:=I.list h1;exact Z3 PySem.W.kitx_list I.kIn ⟨o,h3,h4⟩ kt (λz=>nomatch z) fin
 |rcd c fs=>exact absurd rfl nR
 |dic es=>
  rcases hd with hd | ⟨_,_,_,_,z,_⟩
  ·cases hd with
   |@dic p us ep _ h nd hs=>
    cases(show u=Qn p from r1);obtain⟨⟨_,_,o,raw,h3,h4,_⟩,_,_⟩:=(show cW X.prog X.w H s.heap p (.ext (DAt p us ep)) from I.hok p _ (gh _ _ h));exact Z3 PySem.W.kitx_dict I.kIn ⟨o,h3,h4.1⟩ kt (λz=>nomatch z) fin
  ·cases z
theorem gI{T:String}{p p2:Pos}{x:Str}(hT:T = "list"\/T = "tuple"\/T = "bool"\/T = "int"\/T = "str")(ha:DB X a fa)(hm:X.mg "isinstance" = none)(hm2:X.mg x=none)(hv:ZW x=some (.type T))(hv0:ZW "isinstance" = some (.builtin "isinstance"):=by rfl)(hg:Gl X "isinstance":=by rfl)(hg2:Gl X x:=by rfl)(hn2:x≠"__name__":=by decide)(hd2:(x==("__debug__" : Str))=false:=by decide)
  (hst:Qg [a,.Name x p2] X.env=(false,eval a X.env)::Qg [.Name x p2] X.env:=by rfl) (hst2:Qg [.Name x p2] X.env=(false,eval (.Name x p2) X.env)::Qg [] X.env:=by rfl) (hpl:(QP pos (Qg [.Name x p2] X.env)).any (·.1)=false:=by rfl) :
  DE X (.Call (.Name "isinstance" p) [a,.Name x p2] [] pos) (h_ (gq T) fa):=by
 obtain⟨ta,a1,a2⟩:=ha;refine⟨_,fm (Bj hT) hg hm hv0 (aC a1 (aC (Dx (v:=.ty T) hg2 hm2 hv rfl hn2 hd2) aR hst2) hst) KE KE hst hpl,λHe G H σ ε d Q gh E ef q=>?_⟩;unfold h_ at ef;cases e1:fa ε with
 |none=>rw[e1] at ef;cases ef
 |some y=>
  rw[e1] at ef
  obtain⟨k,ek,rfl⟩:∃k,gq T y=some (.bl k)/\d=.bl k:=by
   have ef:gq T y=some d:=ef;unfold gq at ef ⊢;split at ef
   ·cases ef
   ·rename_i nR
    cases ef;exact⟨_,if_neg nR,rfl⟩
  refine a2 He G H σ ε y _ gh E e1 λv G1 H1 g1 d1=>?_;exact⟨G1,v,y,rfl,g1.gh,d1,_,ek,q _ _ _ g1 (.bl _)⟩
end
theorem EnvD.put{K:Qc}{He G H:Hp}{σ:L2.St}{ε:Ev}{i:Nat}{v:V}{d:D}(E:EnvD K He G H σ ε)(h:Den K G v d):EnvD K He G H (σ.set i (some v)) (ε.set i (.dat d)) where
 len:=by rw[ZC,ZC];exact E.len
 dat:=λ{j d'} e=>by
  rw[QN] at e ⊢
  by_cases z:i=j
  ·rw[if_pos z] at e ⊢
   subst z;rw[E.len];split at e
   ·rename_i hl;cases e;exact⟨v,by rw[if_pos hl],h⟩
   ·cases e
  ·rw[if_neg z] at e ⊢
   exact E.dat e
 own:=λ{j ds} e=>by
  rw[QN] at e ⊢
  by_cases z:i=j
  ·rw[if_pos z] at e;split at e<;>cases e
  ·rw[if_neg z] at e ⊢
   exact E.own e
 apart:=λ{j k ds es a} e1 e2 h1 h2=>by
  rw[QN] at e1 e2 h1 h2
  by_cases z:i=j
  ·rw[if_pos z] at e1;split at e1<;>cases e1
  ·by_cases z2:i=k
   ·rw[if_pos z2] at e2;split at e2<;>cases e2
   ·rw[if_neg z] at e1 h1
    rw[if_neg z2] at e2 h2;exact E.apart e1 e2 h1 h2
 odi:=λ{j ds} e=>by
  rw[QN] at e ⊢
  by_cases z:i=j
  ·rw[if_pos z] at e;split at e<;>cases e
  ·rw[if_neg z] at e ⊢
   exact E.odi e
 apartD:=λ{j k ds es a} e1 e2 h1 h2=>by
  rw[QN] at e1 e2 h1 h2
  by_cases z:i=j
  ·rw[if_pos z] at e1;split at e1<;>cases e1
  ·by_cases z2:i=k
   ·rw[if_pos z2] at e2;split at e2<;>cases e2
   ·rw[if_neg z] at e1 h1
    rw[if_neg z2] at e2 h2;exact E.apartD e1 e2 h1 h2
theorem EnvD.putO{K:Qc}{He G H G' H':Hp}{σ:L2.St}{ε:Ev}{i:Nat}{a:Addr}{xs:List V}{ds:List D}(E:EnvD K He G H σ ε)(g:Grow G H G' H')(heH:aT He H)(hn:H a=none)(gn:G' a=none)(ha:H' a=some (.lst xs))(hd:DenL K G' xs ds) :
  EnvD K He G' H' (σ.set i (some (.ref a))) (ε.set i (.own ds)) where
 len:=by rw[ZC,ZC];exact E.len
 dat:=λ{j d'} e=>by
  rw[QN] at e ⊢
  by_cases z:i=j
  ·rw[if_pos z] at e;split at e<;>cases e
  ·rw[if_neg z] at e ⊢
   exact(E.grow g).dat e
 own:=λ{j ds'} e=>by
  rw[QN] at e ⊢
  by_cases z:i=j
  ·rw[if_pos z] at e ⊢
   subst z;rw[E.len];split at e
   ·rename_i hl;cases e;exact⟨a,xs,by rw[if_pos hl],ha,gn,heH.free hn,hd⟩
   ·cases e
  ·rw[if_neg z] at e ⊢
   exact(E.grow g).own e
 apart:=λ{j k ds' es b} e1 e2 h1 h2=>by
  rw[QN] at e1 e2 h1 h2
  have key:∀{m:Nat} {es:List D},ε[m]?=some (.own es)->σ[m]?=some (some (.ref a))->False:=λ{m es} q1 q2=>by
   obtain⟨b',ys,w1,w2,_⟩:=E.own q1;rw[q2] at w1;cases w1;rw[hn] at w2;cases w2
  by_cases z:i=j
  ·by_cases z2:i=k
   ·rw[<-z,<-z2]
   ·rw[if_pos z] at h1
    rw[if_neg z2] at e2 h2;split at h1
    ·cases h1;exact(key e2 h2).elim
    ·cases h1
  ·by_cases z2:i=k
   ·rw[if_neg z] at e1 h1
    rw[if_pos z2] at h2;split at h2
    ·cases h2;exact(key e1 h1).elim
    ·cases h2
   ·rw[if_neg z] at e1 h1
    rw[if_neg z2] at e2 h2;exact E.apart e1 e2 h1 h2
 odi:=λ{j ds'} e=>by
  rw[QN] at e ⊢
  by_cases z:i=j
  ·rw[if_pos z] at e;split at e<;>cases e
  ·rw[if_neg z] at e ⊢
   exact(E.grow g).odi e
 apartD:=λ{j k ds es a} e1 e2 h1 h2=>by
  rw[QN] at e1 e2 h1 h2
  by_cases z:i=j
  ·rw[if_pos z] at e1;split at e1<;>cases e1
  ·by_cases z2:i=k
   ·rw[if_pos z2] at e2;split at e2<;>cases e2
   ·rw[if_neg z] at e1 h1
    rw[if_neg z2] at e2 h2;exact E.apartD e1 e2 h1 h2
theorem Sta.write{K:Qc}{He Ge G H:Hp}{σ:L2.St}{ε:Ev}{i:Nat}{a:Addr}{xs ys:List V}{ds es:List D}(S:Sta K He Ge G H σ ε)(ei:ε[i]?=some (.own ds))(hs:σ[i]?=some (some (.ref a)))(ha:H a=some (.lst xs))(hd:DenL K G ys es) :
  Sta K He Ge G (upd H a (.lst ys)) σ (ε.set i (.own es)):=by
 obtain⟨a',xs',h1,h2,h3,h4,h5⟩:=S.e.own ei;rw[hs] at h1;cases h1;have keep:∀{b:Addr} {o:HO},b≠a->H b=some o->upd H a (.lst ys) b=some o:=λ{b o} n e=>by rw[az n];exact e
 refine⟨⟨λb o e=>keep (aB e h4) (S.g.hh b o e),S.g.gg,λb o e=>keep (aB e h3) (S.g.gh b o e),S.g.fo⟩,?_⟩;have hil:i<ε.length:=(QH.mp ei).1;refine⟨by rw[ZC];exact S.e.len,λ{j d} e=>?_,λ{j fs} e=>?_,λ{j k fs gs b} e1 e2 w1 w2=>?_,λ{j fs} e=>?_,λ{j k fs gs b} e1 e2 w1 w2=>?_⟩
 ·rw[QN] at e
  by_cases z:i=j
  ·rw[if_pos z] at e;split at e<;>cases e
  ·rw[if_neg z] at e;exact S.e.dat e
 ·rw[QN] at e
  by_cases z:i=j
  ·rw[if_pos z,if_pos (z▸hil)] at e
   cases e;subst z;exact⟨a,ys,hs,upd_same,h3,h4,hd⟩
  ·rw[if_neg z] at e
   obtain⟨b,zs,w1,w2,w3,w4,w5⟩:=S.e.own e;refine⟨b,zs,w1,keep (λq=>z ?_) w2,w3,w4,w5⟩;subst q;exact S.e.apart ei e hs w1
 ·have own_of:∀{m:Nat} {fs:List D},(ε.set i (.own es))[m]?=some (.own fs)->∃gs,ε[m]?=some (.own gs):=λ{m fs} e=>by
   rw[QN] at e
   by_cases z:i=m
   ·subst z;exact⟨_,ei⟩
   ·rw[if_neg z] at e;exact⟨_,e⟩
  obtain⟨_,q1⟩:=own_of e1;obtain⟨_,q2⟩:=own_of e2;exact S.e.apart q1 q2 w1 w2
 ·rw[QN] at e
  by_cases z:i=j
  ·rw[if_pos z] at e;split at e<;>cases e
  ·rw[if_neg z] at e
   obtain⟨b,us,ep,w1,w2,w3⟩:=S.e.odi e;exact⟨b,us,ep,w1,keep (λq=>by subst q;rw[ha] at w2;cases w2) w2,w3⟩
 ·have odi_of:∀{m:Nat} {fs:List (List Int×D)},(ε.set i (.own es))[m]?=some (.odi fs)->ε[m]?=some (.odi fs):=λ{m fs} e=>by
   rw[QN] at e
   by_cases z:i=m
   ·rw[if_pos z] at e;split at e<;>cases e
   ·rw[if_neg z] at e;exact e
  exact S.e.apartD (odi_of e1) (odi_of e2) w1 w2
noncomputable def fzS:Sl->Sl
 |.own ds=>.dat (.lst ds)
 |.odi es=>.dat (.dic es)
 |x=>x
noncomputable def fz1(i:Nat)(ε:Ev):Ev:=ε.modify i fzS
theorem Sta.freeze{K:Qc}{He Ge G H:Hp}{σ:L2.St}{ε:Ev}(S:Sta K He Ge G H σ ε)(i:Nat):∃G',Sta K He Ge G' H σ (fz1 i ε):=by
 unfold fz1;cases ei:ε[i]? with
 |none=>
  have:ε.modify i fzS=ε:=by
   apply KD;intro j;rw[KJ]
   by_cases z:i=j
   ·subst z;rw[ei];rfl
   ·simp[z]
  rw[this];exact⟨G,S⟩
 |some sl=>
  cases sl with
  |un=>
   have:ε.modify i fzS=ε:=by
    apply KD;intro j;rw[KJ]
    by_cases z:i=j
    ·subst z;rw[ei];simp[fzS]
    ·simp[z]
   rw[this];exact⟨G,S⟩
  |dat d=>
   have:ε.modify i fzS=ε:=by
    apply KD;intro j;rw[KJ]
    by_cases z:i=j
    ·subst z;rw[ei];simp[fzS]
    ·simp[z]
   rw[this];exact⟨G,S⟩
  |own ds=>
   obtain⟨a,xs,h1,h2,h3,h4,h5⟩:=S.e.own ei;have s2:aT G (upd G a (.lst xs)):=λb o e=>by rw[az (aB e h3)];exact e
   have gt:∀j,(ε.modify i fzS)[j]?=if i=j then some (.dat (.lst ds)) else ε[j]?:=λj=>by
    rw[KJ]
    by_cases z:i=j
    ·subst z;rw[ei];simp[fzS]
    ·simp[z]
   refine⟨upd G a (.lst xs),⟨S.g.hh,S.g.gg.trans s2,λb o e=>?_,λb o e z=>?_⟩,⟨by rw[List.length_modify];exact S.e.len,λ{j d} e=>?_,λ{j fs} e=>?_,λ{j k fs gs b} e1 e2 w1 w2=>?_,λ{j fs} e=>?_,λ{j k fs gs b} e1 e2 w1 w2=>?_⟩⟩
   ·unfold upd at e
    by_cases z:b=a
    ·rw[if_pos z] at e;cases e;rw[z];exact h2
    ·rw[if_neg z] at e;exact S.g.gh b o e
   ·rw[az (aB e h4)];exact S.g.fo b o e z
   ·rw[gt] at e
    split at e
    ·rename_i z;subst z;cases e;exact⟨_,h1,.lst (.inl upd_same) (h5.mono s2)⟩
    ·obtain⟨v,w1,w2⟩:=S.e.dat e;exact⟨v,w1,w2.mono s2⟩
   ·rw[gt] at e
    split at e
    ·cases e
    ·rename_i z
     obtain⟨b,zs,w1,w2,w3,w4,w5⟩:=S.e.own e;refine⟨b,zs,w1,w2,?_,w4,w5.mono s2⟩;rw[az (λq=>z (by subst q;exact S.e.apart ei e h1 w1))];exact w3
   ·rw[gt] at e1 e2
    split at e1
    ·cases e1
    ·split at e2
     ·cases e2
     ·exact S.e.apart e1 e2 w1 w2
   ·rw[gt] at e
    split at e
    ·cases e
    ·obtain⟨b,us,ep,w1,w2,w3,w4,w5,w6⟩:=S.e.odi e
     refine⟨b,us,ep,w1,w2,?_,w4,w5,w6.mono s2⟩;rw[az (λq=>by subst q;rw[h2] at w2;cases w2)];exact w3
   ·rw[gt] at e1 e2
    split at e1
    ·cases e1
    ·split at e2
     ·cases e2
     ·exact S.e.apartD e1 e2 w1 w2
  |odi es=>
   obtain⟨a,us,ep,h1,h2,h3,h4,h5,h6⟩:=S.e.odi ei;have s2:aT G (upd G a (.ext (DAt a us ep))):=λb o e=>by rw[az (aB e h3)];exact e
   have gt:∀j,(ε.modify i fzS)[j]?=if i=j then some (.dat (.dic es)) else ε[j]?:=λj=>by
    rw[KJ]
    by_cases z:i=j
    ·subst z;rw[ei];simp[fzS]
    ·simp[z]
   refine⟨upd G a (.ext (DAt a us ep)),⟨S.g.hh,S.g.gg.trans s2,λb o e=>?_,λb o e z=>?_⟩,⟨by rw[List.length_modify];exact S.e.len,λ{j d} e=>?_,λ{j fs} e=>?_,λ{j k fs gs b} e1 e2 w1 w2=>?_,λ{j fs} e=>?_,λ{j k fs gs b} e1 e2 w1 w2=>?_⟩⟩
   ·unfold upd at e
    by_cases z:b=a
    ·rw[if_pos z] at e;cases e;rw[z];exact h2
    ·rw[if_neg z] at e;exact S.g.gh b o e
   ·rw[az (aB e h4)];exact S.g.fo b o e z
   ·rw[gt] at e
    split at e
    ·rename_i z;subst z;cases e;exact⟨_,h1,.dic upd_same h5 (h6.mono s2)⟩
    ·obtain⟨v,w1,w2⟩:=S.e.dat e;exact⟨v,w1,w2.mono s2⟩
   ·rw[gt] at e
    split at e
    ·cases e
    ·obtain⟨b,zs,w1,w2,w3,w4,w5⟩:=S.e.own e
     refine⟨b,zs,w1,w2,?_,w4,w5.mono s2⟩;rw[az (λq=>by subst q;rw[h2] at w2;cases w2)];exact w3
   ·rw[gt] at e1 e2
    split at e1
    ·cases e1
    ·split at e2
     ·cases e2
     ·exact S.e.apart e1 e2 w1 w2
   ·rw[gt] at e
    split at e
    ·cases e
    ·rename_i z
     obtain⟨b,us',ep',w1,w2,w3,w4,w5,w6⟩:=S.e.odi e;refine⟨b,us',ep',w1,w2,?_,w4,w5,w6.mono s2⟩;rw[az (λq=>z (by subst q;exact S.e.apartD ei e h1 w1))];exact w3
   ·rw[gt] at e1 e2
    split at e1
    ·cases e1
    ·split at e2
     ·cases e2
     ·exact S.e.apartD e1 e2 w1 w2
theorem Grow.base{Ge He G1 H1 G H:Hp}(a:Grow Ge He G1 H1)(b:Grow G1 He G H):Grow Ge He G H:=⟨b.hh,a.gg.trans b.gg,b.gh,λc o h e=>b.fo c o h (a.fo c o h e)⟩
theorem Grow.self{Ge He G1 H1:Hp}(a:Grow Ge He G1 H1):Grow G1 He G1 H1:=⟨a.hh,aT.refl _,a.gh,λ_ _ _ e=>e⟩
section
variable{X:Cx}{a b c:Expr}{fa fb fc:Ev->Option D}{pos:Pos}{st:Stmt}{rest:List Stmt}{g g':Ev->Option Fl}
noncomputable def bj:Ev->Option Fl:=λε=>some (.nx ε)
noncomputable def aQ(g g':Ev->Option Fl):Ev->Option Fl:=λε=>(g ε).bind λr=>match r with | .nx ε'=>g' ε' | r=>some r
theorem aU:DSs X [] bj:=⟨_,eQ,λHe Ge G H σ ε r W S e P=>by cases e;exact P σ G H S⟩
theorem au(h:DS X st g):DSs X [st] g:=let⟨t,h1,h2⟩:=h;⟨_,bF h1,h2⟩
theorem aw(h:DS X st g)(hs:DSs X rest g'):DSs X (st::rest) (aQ g g'):=by
 obtain⟨t,a1,a2⟩:=h;obtain⟨u,b1,b2⟩:=hs;refine⟨_,aH a1 b1,λHe Ge G H σ ε r W S e P=>?_⟩;obtain⟨r1,e1,e⟩:=aq e;refine a2 He Ge G H σ ε r1 _ S e1 ?_;cases r1 with
 |nx ε'=>exact λσ' G' H' S'=>b2 He Ge G' H' σ' ε' r W S' e P
 |rt d=>cases e;exact P
 |ro ds=>cases e;exact P
 |xc c fs=>cases e;exact P
 |bk ε'=>cases e;exact P
 |ct ε'=>cases e;exact P
noncomputable def sFz(i:Nat)(g:Ev->Option Fl):Ev->Option Fl:=λε=>g (fz1 i ε)
theorem Fh(i:Nat)(h:DS X st g):DS X st (sFz i g):=let⟨t,h1,h2⟩:=h;⟨t,h1,λHe Ge G H σ ε r W S e P=>let⟨G',S'⟩:=S.freeze i;h2 He Ge G' H σ _ r W S' e P⟩
noncomputable def bo(f:Ev->Option D):Ev->Option Fl:=λε=>(f ε).map Fl.rt
theorem bh{α β:Type}{o:Option α}{f:α->β}{y:β}(h:o.map f=some y):∃x,o=some x/\f x=y:=by
 cases o with
 |none=>cases h
 |some x=>exact⟨x,rfl,Option.some.inj h⟩
theorem aZ(h:DE X a fa):DS X (.Return (some a) pos) (bo fa):=by
 obtain⟨t,a1,a2⟩:=h;refine⟨_,d_ a1,λHe Ge G H σ ε r W S e P=>?_⟩;obtain⟨d,e1,rfl⟩:=bh e;exact a2 He G H σ ε d _ S.g.gh S.e e1 λv G' H' g hd=>P v G' H' (S.g.trans g) hd
noncomputable def zG(f:Ev->Option (List D)):Ev->Option Fl:=λε=>(f ε).map Fl.ro
theorem Eh{f:Ev->Option (List D)}(h:DF X a f):DS X (.Return (some a) pos) (zG f):=by
 obtain⟨t,a1,a2⟩:=h;refine⟨_,d_ a1,λHe Ge G H σ ε r W S e P=>?_⟩;obtain⟨d,e1,rfl⟩:=bh e;exact a2 He G H σ ε d _ S.g.gh S.e e1 λl xs G' H' g n1 n2 h3 hd=>P l xs G' H' (S.g.trans g) (S.g.hh.free n1) n2 h3 hd
noncomputable def Kf(i:Nat):Ev->Option Fl:=λε=>match ε[i]? with | some (.own ds)=>some (.ro ds) | _=>none
noncomputable def sIf(f:Ev->Option Bool)(g g':Ev->Option Fl):Ev->Option Fl:=λε=>(f ε).bind λk=>if k=true then g ε else g' ε
theorem bp{f:Ev->Option Bool}{s1 s2:List Stmt}(hc:DT X c f)(h1:DSs X s1 g)(h2:DSs X s2 g'):DS X (.If c s1 s2 pos) (sIf f g g'):=by
 obtain⟨t,c1,c2⟩:=hc;obtain⟨ta,a1,a2⟩:=h1;obtain⟨tb,b1,b2⟩:=h2;refine⟨_,ia c1 a1 b1,λHe Ge G H σ ε r W S e P=>?_⟩;obtain⟨k,e1,e⟩:=aq e;refine c2 He G H σ ε k _ S.g.gh S.e e1 λG1 H1 g1=>?_;cases k with
 |true=>
  rw[if_pos rfl] at e ⊢;exact a2 He Ge G1 H1 σ ε r W (S.grow g1) e P
 |false=>
  rw[if_neg Qp] at e ⊢;exact b2 He Ge G1 H1 σ ε r W (S.grow g1) e P
noncomputable def bW(i:Nat)(f:Ev->Option D):Ev->Option Fl:=λε=>(f ε).map λd=>Fl.nx (ε.set i (.dat d))
theorem bJ(i:Nat){x:Str}{pos':Pos}(hN:X.N.Nodup)(ha:DE X a fa)(hi:X.N[i]?=some x:=by rfl)(hx:Loc X.env.scope x:=by first | exact Qz rfl | exact Zn rfl)(hs:ZD a (some (.Name x pos')) pos.line X.env=pure false:=by rfl)
  (hf:X.fn x=true\/X.env.scope.names.lookup x=some .local:=by first | exact .inl rfl | exact .inr rfl):DS X (.Assign [.Name x pos'] a pos) (bW i fa):=by
 obtain⟨t,a1,a2⟩:=ha;refine⟨_,bT hN hi hx a1 hs hf,λHe Ge G H σ ε r W S e P=>?_⟩;obtain⟨d,e1,rfl⟩:=bh e;exact a2 He G H σ ε d _ S.g.gh S.e e1 λv G' H' g hd=>P _ G' H' ⟨S.g.trans g,(S.e.grow g).put hd⟩
noncomputable def nF(i:Nat)(f:Ev->Option (List D)):Ev->Option Fl:=λε=>(f ε).map λd=>Fl.nx (ε.set i (.own d))
theorem q9(i:Nat){x:Str}{pos':Pos}{f:Ev->Option (List D)}(hN:X.N.Nodup)(ha:DF X a f)(hi:X.N[i]?=some x:=by rfl)(hx:Loc X.env.scope x:=by first | exact Qz rfl | exact Zn rfl)(hs:ZD a (some (.Name x pos')) pos.line X.env=pure false:=by rfl)
  (hf:X.fn x=true\/X.env.scope.names.lookup x=some .local:=by first | exact .inl rfl | exact .inr rfl):DS X (.Assign [.Name x pos'] a pos) (nF i f):=by
 obtain⟨t,a1,a2⟩:=ha;refine⟨_,bT hN hi hx a1 hs hf,λHe Ge G H σ ε r W S e P=>?_⟩;obtain⟨d,e1,rfl⟩:=bh e;exact a2 He G H σ ε d _ S.g.gh S.e e1 λl xs G' H' g hn gn hl hd=>P _ G' H' ⟨S.g.trans g,S.e.putO g S.g.hh hn gn hl hd⟩
noncomputable def l_(i:Nat)(f:Ev->Option D):Ev->Option Fl:=λε=>(f ε).bind λd=>match ε[i]? with
 |some (.own ds)=>if ds.length<1000000 then some (.nx (ε.set i (.own (ds++[d])))) else none
 |_=>none
theorem oZ(i:Nat){x:Str}{p1 p2:Pos}(ha:DE X a fa)(hN:X.N[i]?=some x:=by rfl)(hv:Vis X.env.scope x:=by first | exact Qz rfl | exact Zn (Qz rfl))(hd:(x==("__debug__" : Str))=false:=by decide)
  (hcd:(x==("__classdict__" : Str))=false:=by decide)
  (hbase:Kx (.Name x p1) "append" X.env (eval (.Name x p1) X.env)=eval (.Name x p1) X.env:=by rfl)
  (hfew:((QP pos (Qg [a] X.env)).all (λx=>!x.1)&&(ZN pos (Zg [] X.env)).all (λx=>x.1.isSome)
   && decide (([a]:List Expr).length+([]:List Keyword).length+(if([]:List Keyword).isEmpty then 0 else 1)<30))=true:=by rfl)
  (hline:(p2.endLine==pos.line)=true:=by rfl) (hs:Qg [a] X.env=(false,eval a X.env)::Qg [] X.env:=by rfl) (hplain:(QP pos (Qg [] X.env)).any (·.1)=false:=by rfl)
  (hsw:ZD (.Call (.Attribute (.Name x p1) "append" p2) [a] [] pos) none pos.line X.env=pure false:=by rfl) :
  DS X (.Expr (.Call (.Attribute (.Name x p1) "append" p2) [a] [] pos) pos) (l_ i fa):=by
 obtain⟨t,a1,a2⟩:=ha;refine⟨_,ko (tf Z7 Z4 Z5 iJ (lu hN hv hd hcd) (aC a1 aR hs) hbase hfew hline hs hplain) hsw,λHe Ge G H σ ε r W S e P=>?_⟩;obtain⟨d,e1,e⟩:=aq e;split at e
 ·rename_i ds ei
  split at e
  ·rename_i hl
   cases e;obtain⟨l,xs,h1,h2,h3,h4,h5⟩:=S.e.own ei;refine⟨_,h1,.inl ⟨rfl,xs,SqL.of h2⟩,?_⟩;refine a2 He G H σ ε d _ S.g.gh S.e e1 λv G' H' g hd=>?_;have S':=S.grow g;obtain⟨l',xs',w1,w2,w3,w4,w5⟩:=S'.e.own ei;rw[h1] at w1;cases w1
   have hz:xs'.length<Qk:=by
    rw[w5.length];exact K0 hl KE
   exact⟨l,xs',v,rfl,rfl,w2,hz,P σ G' _ (S'.write ei h1 w2 (w5.append (.one hd)))⟩
  ·cases e
 ·cases e
noncomputable def kG(i:Nat)(fk f:Ev->Option D):Ev->Option Fl:=λε=>(f ε).bind λd=>(fk ε).bind λk=>match ε[i]?,k with
 |some (.own ds),.int j=>(ixN ds.length j).map λm=>.nx (ε.set i (.own (ds.set m d)))
 |_,_=>none
theorem l9(i:Nat){x:Str}{p1 p2:Pos}{k:Expr}{fk:Ev->Option D}(ha:DE X a fa)(hk:DB X k fk)(hN:X.N[i]?=some x:=by rfl)(hv:Vis X.env.scope x:=by first | exact Qz rfl | exact Zn (Qz rfl))(hd:(x==("__debug__" : Str))=false:=by decide)
  (hcd:(x==("__classdict__" : Str))=false:=by decide)
  (hasg:∀v,assign (.Subscript (.Name x p1) k p2) X.env v=(do
   let ov<-ZO [v] (eval (.Name x p1) X.env);let iv<-ZO [v,ov] (eval k X.env)
   KO p2
   ZO [v,ov,iv] (setItem ov iv v)
   release [v,ov,iv] []):=by intro _;rfl)
  (hs:swapsWithSole [.Subscript (.Name x p1) k p2] a pos.line X.env=pure false:=by rfl) (hw:swappedStores [.Subscript (.Name x p1) k p2] a X.env=pure none:=by rfl)
  (h1:(Ze [.Subscript (.Name x p1) k p2] X.env).map (·.2)=[assign (.Subscript (.Name x p1) k p2) X.env]:=by rfl) :
  DS X (.Assign [.Subscript (.Name x p1) k p2] a pos) (kG i fk fa):=by
 obtain⟨t,a1,a2⟩:=ha;obtain⟨u,b1,b2⟩:=hk;refine⟨_,Bm a1 (F5 (lu hN hv hd hcd) b1 B1 hasg) hs hw h1,λHe Ge G H σ ε r W S e P=>?_⟩;obtain⟨d,e1,e⟩:=aq e;obtain⟨dk,e2,e⟩:=aq e;split at e
 ·rename_i ds j ei
  obtain⟨m,em,rfl⟩:=bh e;refine a2 He G H σ ε d _ S.g.gh S.e e1 λv G1 H1 g1 hd1=>?_;have S1:=S.grow g1;obtain⟨l,xs,w1,w2,w3,w4,w5⟩:=S1.e.own ei;refine⟨_,w1,?_⟩;refine b2 He G1 H1 σ ε _ _ S1.g.gh S1.e e2 λv2 G2 H2 g2 hd2=>?_;have S2:=S1.grow g2;obtain⟨l',xs',z1,z2,z3,z4,z5⟩:=S2.e.own ei;rw[w1] at z1;cases z1;exact⟨l,xs',j,m,rfl,hd2.int,z2,by rw[z5.length];exact em,P σ G2 _ (S2.write ei w1 z2 (.set (hd1.mono g2.gg) m z5))⟩
 ·cases e
noncomputable def DG(X:Cx)(tg:Expr)(g:D->Ev->Option Ev):Prop:=∃t,PG X tg t/\∀(He G H:Hp) (σ:L2.St) (ε ε':Ev) (v:V) (d:D) (Q:L2.St->Hp->Prop),aT G H->EnvD X.K He G H σ ε->Den X.K G v d->g d ε=some ε'->
 (∀σ',EnvD X.K He G H σ' ε'->Q σ' H)->t v σ H Q
noncomputable def DGs(X:Cx)(ts:List Expr)(g:List D->Ev->Option Ev):Prop:=∃t,PGs X ts t/\∀(He G H:Hp) (σ:L2.St) (ε ε':Ev) (vs:List V) (ds:List D) (Q:L2.St->Hp->Prop),aT G H->EnvD X.K He G H σ ε->DenL X.K G vs ds->g ds ε=some ε'->
 (∀σ',EnvD X.K He G H σ' ε'->Q σ' H)->t vs σ H Q
noncomputable def ao(i:Nat):D->Ev->Option Ev:=λd ε=>some (ε.set i (.dat d))
theorem aJ(i:Nat){x:Str}(hN:X.N.Nodup)(hi:X.N[i]?=some x:=by rfl)(hx:Loc X.env.scope x:=by first | exact Qz rfl | exact Zn rfl)(hf:X.fn x=true\/X.env.scope.names.lookup x=some .local:=by first | exact .inl rfl | exact .inr rfl):DG X (.Name x pos) (ao i):=
 ⟨_,uh hN hi hx hf,λHe G H σ ε ε' v d Q gh E hd e q=>by cases e;exact q _ (E.put hd)⟩
noncomputable def bM:List D->Ev->Option Ev:=λds ε=>match ds with | []=>some ε | _=>none
noncomputable def aD(g:D->Ev->Option Ev)(g':List D->Ev->Option Ev):List D->Ev->Option Ev:=λds ε=>match ds with | d::r=>(g d ε).bind (g' r) | []=>none
theorem cX:DGs X [] bM:=⟨_,ER,λHe G H σ ε ε' vs ds Q gh E hd e q=>by
 cases hd with
 |nil=>cases e;exact⟨rfl,q _ E⟩
 |cons _ _=>cases e⟩
theorem aK{e:Expr}{es:List Expr}{g1:D->Ev->Option Ev}{g2:List D->Ev->Option Ev}(h1:DG X e g1)(h2:DGs X es g2)(hs:(Ze (e::es) X.env).map (·.2)=assign e X.env::(Ze es X.env).map (·.2):=by rfl):DGs X (e::es) (aD g1 g2):=by
 obtain⟨t,a1,a2⟩:=h1;obtain⟨u,b1,b2⟩:=h2;refine⟨_,Bz a1 b1 hs,λHe G H σ ε ε' vs ds Q gh E hd e q=>?_⟩;cases hd with
 |nil=>cases e
 |cons h3 h4=>
  obtain⟨ε1,e1,e⟩:=aq e;exact⟨_,_,rfl,a2 He G H σ ε ε1 _ _ _ gh E h3 e1 λσ1 E1=>b2 He G H σ1 ε1 ε' _ _ _ gh E1 h4 e q⟩
noncomputable def eZ(n:Nat)(g:List D->Ev->Option Ev):D->Ev->Option Ev:=λd ε=>match d with | .tup ds=>if ds.length=n then g ds ε else none | _=>none
theorem kX{es:List Expr}{k:Nat}{g:List D->Ev->Option Ev}{n:Nat}(hc:X.calm=true)(h:DGs X es g)(hn:(Ze es X.env).length=n:=by rfl)(hst:(Ze es X.env).findIdx? (·.1)=none:=by rfl):DG X (.Tuple es k pos) (eZ n g):=by
 obtain⟨t,a1,a2⟩:=h;refine⟨_,A7 hc a1 hn hst,λHe G H σ ε ε' v d Q gh E hd e q=>?_⟩;unfold eZ at e;split at e
 ·split at e
  ·rename_i hl
   obtain⟨p,xs,rfl,h1,h2⟩:=hd.tupV;exact⟨p,xs,rfl,aM gh h1,by rw[h2.length];exact hl,a2 He G H σ ε ε' _ _ _ gh E h2 e q⟩
  ·cases e
 ·cases e
noncomputable def mV(f:Ev->Option D)(g:D->Ev->Option Ev):Ev->Option Fl:=λε=>(f ε).bind λd=>(g d ε).map Fl.nx
theorem lE{tg:Expr}{g:D->Ev->Option Ev}(he:DE X a fa)(hg:DG X tg g)(hs:swapsWithSole [tg] a pos.line X.env=pure false:=by rfl)(hw:swappedStores [tg] a X.env=pure none:=by rfl)
  (h1:(Ze [tg] X.env).map (·.2)=[assign tg X.env]:=by rfl):DS X (.Assign [tg] a pos) (mV fa g):=by
 obtain⟨t,a1,a2⟩:=he;obtain⟨u,b1,b2⟩:=hg;refine⟨_,Bm a1 b1 hs hw h1,λHe Ge G H σ ε r W S e P=>?_⟩;obtain⟨d,e1,e⟩:=aq e;obtain⟨ε',e2,rfl⟩:=bh e;exact a2 He G H σ ε d _ S.g.gh S.e e1 λv G' H' g hd=>b2 He G' H' σ ε ε' v d _ g.gh (S.e.grow g) hd e2 λσ' E'=>P σ' G' H' ⟨S.g.trans g,E'⟩
noncomputable def ItD(K:Qc)(J:It)(ds:List D)(G:Hp):Prop:=∀(i:Nat) (H2:Hp),aT G H2->(i<ds.length->J.go i H2)/\(ds.length<=i->J.stop i H2)/\
 ∀x H3,J.yld i H2 x H3->∀d,ds[i]?=some d->∀G2,aT G G2->aT G2 H2->∃G3,Grow G2 H2 G3 H3/\Den K G3 x d
noncomputable def DI(X:Cx)(tg iter:Expr)(f:Ev->Option (List D)):Prop:=∃wi,PI X tg iter wi/\∀(He G H:Hp) (σ:L2.St) (ε:Ev) (ds:List D) (R:It->Hp->Prop),aT G H->EnvD X.K He G H σ ε->f ε=some ds->
 (∀J G' H',Grow G H G' H'->ItD X.K J ds G'->R J H')->wi σ H R
noncomputable def gW(f:Ev->Option D):Ev->Option (List D):=λε=>match f ε with | some (.lst ds)=>some ds | _=>none
theorem iA{tg:Expr}(h:DE X a fa):DI X tg a (gW fa):=by
 obtain⟨t,a1,a2⟩:=h;refine⟨_,oB a1,λHe G H σ ε ds R gh E ef q=>?_⟩;unfold gW at ef;split at ef
 ·rename_i e1
  cases ef;refine a2 He G H σ ε _ _ gh E e1 λv G1 H1 g1 d1=>?_;obtain⟨p,xs,rfl,h1,h2⟩:=d1.lstV;refine⟨p,rfl,⟨xs,g1.gh.seq h1⟩,q _ G1 H1 g1 λi H2 s2=>⟨λhi=>?_,λhi=>⟨xs,s2.seq h1,by rw[h2.length];exact hi⟩,?_⟩⟩
  ·have hi':i<xs.length:=by rw[h2.length];exact hi
   exact⟨xs,xs[i],s2.seq h1,by simp[hi']⟩
  ·rintro x H3 ⟨rfl,y⟩ d ed G2 s3 s4
   obtain⟨x',e3,e4⟩:=h2.get ed;have:=y xs (s2.seq h1);rw[e3] at this;cases this;exact⟨G2,.refl s4,e4.mono s3⟩
 ·cases ef
noncomputable def Cr(f:Ev->Option D):Ev->Option (List D):=λε=>match f ε with | some (.tup ds)=>some ds | _=>none
theorem GY{tg:Expr}(h:DE X a fa):DI X tg a (Cr fa):=by
 obtain⟨t,a1,a2⟩:=h;refine⟨_,GG a1,λHe G H σ ε ds R gh E ef q=>?_⟩;unfold Cr at ef;split at ef
 ·rename_i e1
  cases ef;refine a2 He G H σ ε _ _ gh E e1 λv G1 H1 g1 d1=>?_;obtain⟨p,xs,rfl,h1,h2⟩:=d1.tupV;refine⟨p,rfl,⟨xs,aM g1.gh h1⟩,q _ G1 H1 g1 λi H2 s2=>⟨λhi=>?_,λhi=>⟨xs,aM s2 h1,by rw[h2.length];exact hi⟩,?_⟩⟩
  ·have hi':i<xs.length:=by rw[h2.length];exact hi
   exact⟨xs,xs[i],aM s2 h1,by simp[hi']⟩
  ·rintro x H3 ⟨rfl,y⟩ d ed G2 s3 s4
   obtain⟨x',e3,e4⟩:=h2.get ed;have:=y xs (aM s2 h1);rw[e3] at this;cases this;exact⟨G2,.refl s4,e4.mono s3⟩
 ·cases ef
noncomputable def fX(n:Nat):List D:=(QU n).map λi=>.int (i:Nat)
noncomputable def iG(f:Ev->Option D):Ev->Option (List D):=λε=>match f ε with | some (.int j)=>if j<1000000/\-1000000<j then some (fX j.toNat) else none | _=>none
theorem gB{tg:Expr}{p:Pos}(h:DE X a fa)(hm:X.mg "range" = none)(hg:Gl X "range":=by rfl)(hs:Qg [a] X.env=[(false,eval a X.env)]:=by rfl):DI X tg (.Call (.Name "range" p) [a] [] pos) (iG fa):=by
 obtain⟨t,a1,a2⟩:=h;refine⟨_,tK hg hm (aC a1 aR hs) hs,λHe G H σ ε ds R gh E ef q=>?_⟩;unfold iG at ef;split at ef
 ·rename_i j e1
  split at ef
  ·rename_i hj
   cases ef;refine a2 He G H σ ε _ _ gh E e1 λv G1 H1 g1 d1=>?_;refine⟨j,by rw[d1.intV],by lia,by lia,q _ G1 H1 g1 λi H2 s2=>⟨λhi=>?_,λhi=>?_,?_⟩⟩
   ·show i<j.toNat
    simpa[fX] using hi
   ·show j.toNat<=i
    simpa[fX] using hi
   ·rintro x H3 ⟨rfl,rfl⟩ d ed G2 s3 s4
    refine⟨G2,.refl s4,?_⟩;unfold fX at ed;rw[QJ] at ed;obtain⟨m,em,rfl⟩:=bh ed;obtain⟨hm,em⟩:=QH.mp em;rw[List.getElem_range] at em;subst em;rw[Int.zero_add];exact .int _
  ·cases ef
 ·cases ef
noncomputable def cz(g:D->Ev->Option Ev)(gb:Ev->Option Fl):List D->Ev->Option Fl
 |[],ε=>some (.nx ε)
 |d::ds,ε=>(g d ε).bind λε1=>(gb ε1).bind λr=>match r with
  |.nx ε2=>cz g gb ds ε2
  |.ct ε2=>cz g gb ds ε2
  |.bk ε2=>some (.nx ε2)
  |.rt v=>some (.rt v)
  |.ro v=>some (.ro v)
  |.xc c v=>some (.xc c v)
noncomputable def iX(f:Ev->Option (List D))(g:D->Ev->Option Ev)(gb:Ev->Option Fl):Ev->Option Fl:=λε=>(f ε).bind λds=>cz g gb ds ε
theorem gz{tg iter:Expr}{body:List Stmt}{f:Ev->Option (List D)}{g:D->Ev->Option Ev}{gb:Ev->Option Fl}(hp:PassesOwn KF X.A X.env X.xe)(hc:X.calm=true)(hi:DI X tg iter f)(hg:DG X tg g)(hb:DSs X body gb)
  (hs:∀x,ZM iter X.env x=pure x:=by intro _;rfl):DS X (.For tg iter body [] pos) (iX f g gb):=by
 obtain⟨wi,i1,i2⟩:=hi;obtain⟨tg',g1,g2⟩:=hg;obtain⟨tb,b1,b2⟩:=hb;refine⟨_,rQ hp hc i1 g1 b1 hs,λHe Ge G H σ ε r W S e P=>?_⟩;obtain⟨ds,e1,e⟩:=aq e;refine i2 He G H σ ε ds _ S.g.gh S.e e1 λJ G1 H1 gr it=>?_;have S1:=S.grow gr;refine⟨λi m σ H=>m=ds.length-i/\i<=ds.length/\∃G ε,Sta X.K He G1 G H σ ε/\cz g gb (ds.drop i) ε=some r,⟨ds.length,by simp,QV _,G1,ε,⟨S1.g.self,S1.e⟩,by simpa using e⟩,?_⟩;rintro i m σ2 H2 ⟨rfl,hi,G2,ε2,S2,e2⟩;obtain⟨go,stop,yld⟩:=it i H2 (S2.g.gg.trans S2.g.gh)
 by_cases hlt:i<ds.length
 ·refine .inr ⟨go hlt,λσ' H'=>i+1<=ds.length/\∃G ε,Sta X.K He G1 G H' σ' ε/\cz g gb (ds.drop (i+1)) ε=some r,λσ' H' ⟨q1,q2⟩=>⟨ds.length-(i+1),by lia,rfl,q1,q2⟩,λx H3 y=>?_⟩
  have ed:ds[i]?=some ds[i]:=by simp[hlt]
  obtain⟨G3,gr3,dx⟩:=yld x H3 y _ ed G2 S2.g.gg S2.g.gh;have S3:=S2.grow gr3;rw[List.drop_eq_getElem_cons hlt] at e2;obtain⟨ε3,e3,e2⟩:=aq e2;obtain⟨r4,e4,e2⟩:=aq e2;refine g2 He G3 H3 σ2 ε2 ε3 x ds[i] _ S3.g.gh S3.e dx e3 λσ4 E4=>?_;refine b2 He G1 G3 H3 σ4 ε3 r4 _ ⟨S3.g,E4⟩ e4 ?_;cases r4 with
  |nx ε5=>exact λσ5 G5 H5 S5=>⟨hlt,G5,ε5,S5,e2⟩
  |ct ε5=>exact λσ5 G5 H5 S5=>⟨hlt,G5,ε5,S5,e2⟩
  |bk ε5=>cases e2;exact λσ5 G5 H5 S5=>P σ5 G5 H5 ⟨S1.g.base S5.g,S5.e⟩
  |rt d=>cases e2;exact λv G5 H5 g5 d5=>P v G5 H5 (S1.g.base g5) d5
  |ro ds=>cases e2;exact λa xs G5 H5 g5 n1 n2 h5 d5=>P a xs G5 H5 (S1.g.base g5) n1 n2 h5 d5
  |xc c fs=>cases e2;exact λpins σ5 G5 H5 s5 a dx cls I5 g5 x5 m5 d5=>P pins σ5 G5 H5 s5 a dx cls I5 (S1.g.base g5) x5 m5 d5
 ·have e5:i=ds.length:=by lia
  subst e5;rw[List.drop_length] at e2;cases e2;exact .inl ⟨stop (Qm _),P σ2 G2 H2 ⟨S1.g.base S2.g,S2.e⟩⟩
end
theorem nJ{K:Qc}{H:Hp}{vs:List V}{ds:List D}{N:List Str}{i:Nat}{s:Sl}(e:(bG N ds)[i]?=some s):(∃d,s=.dat d/\ds[i]?=some d)\/s=.un:=by
 unfold bG at e
 by_cases h:i<ds.length
 ·rw[ZA (by simpa using h),QJ] at e
  obtain⟨d,e1,rfl⟩:=bh e;exact .inl ⟨d,rfl,e1⟩
 ·rw[Zj (by simpa using h),ZK] at e
  split at e
  ·cases e;exact .inr rfl
  ·cases e
theorem f9{K:Qc}{G H:Hp}{vs:List V}{ds:List D}{N:List Str}(gh:aT G H)(h:DenL K G vs ds):Sta K H G G H (L2.jn N vs) (bG N ds):=by
 refine⟨.refl gh,?_,λ{i d} e=>?_,λ{i d} e=>?_,λ{i j ds' es a} e _ _ _=>?_,λ{i d} e=>?_,λ{i j ds' es a} e _ _ _=>?_⟩
 ·unfold L2.jn bG
  simp[h.length]
 ·rcases nJ (K:=K) (H:=H) (vs:=vs) e with⟨d',e1,e2⟩ | e1
  ·cases e1
   obtain⟨v,h1,h2⟩:=h.get e2;refine⟨v,?_,h2⟩;unfold L2.jn;have hl:i<vs.length:=(QH.mp h1).1;rw[ZA (by simpa using hl),QJ,h1];rfl
  ·cases e1
 ·rcases nJ (K:=K) (H:=H) (vs:=vs) e with⟨d',e1,e2⟩ | e1<;>cases e1
 ·rcases nJ (K:=K) (H:=H) (vs:=vs) e with⟨d',e1,e2⟩ | e1<;>cases e1
 ·rcases nJ (K:=K) (H:=H) (vs:=vs) e with⟨d',e1,e2⟩ | e1<;>cases e1
 ·rcases nJ (K:=K) (H:=H) (vs:=vs) e with⟨d',e1,e2⟩ | e1<;>cases e1
section
variable{P:Qr}{w:Qx}{K:Qc}{mg:Str->Option Qa}{base:Heap}
theorem Hn{x qual:Str}{st:Stmt}{f:Addr}{fd:QY}{N ps:List Str}{k:Nat}{F:List D->Option D}(g:Ev->Option Fl)(Fu:Fun K x qual st f fd)(S:FnScope N ps (aA st))(hlen:∀ds d,F ds=some d->ds.length=ps.length)
  (hg:∀ds d,F ds=some d->g (bG N ds)=some (.rt d)\/(∃ε,g (bG N ds)=some (.nx ε)/\d=.non)\/∃rs,g (bG N ds)=some (.ro rs)/\d=.lst rs)
  (hb:∀(cdv:Qa) (A:QB) (outer:List Env) (s:Qd) (H:Hp) (E:XK),Room k (A.deeper (ZZ qual (aA st) s.heap.objs.size f cdv))->DSs (jd CX0 P w K mg base N qual (aA st) f cdv A outer s H E).nox (bc st) g):FnOk P w K mg base CX0 (k+1) f fd ps (spF K F):=by
 refine Fu.ok S (λvs H Q E h=>?_) (λcdv A outer s H vs Q E hr h=>?_)
 ·obtain⟨G,ds,d,gh,hd,e,q⟩:=h
  rw[hd.length];exact hlen ds d e
 ·obtain⟨G,ds,d,gh,hd,e,q⟩:=h
  obtain⟨t,h1,h2⟩:=hb cdv A outer s H E hr;refine⟨t,h1,?_⟩;rcases hg ds d e with e1 | ⟨ε,e1,rfl⟩ | ⟨rs,e1,rfl⟩
  ·exact h2 H G G H _ _ _ _ (f9 gh hd) e1 λv G' H' g hd=>q v G' H' g hd
  ·exact h2 H G G H _ _ _ _ (f9 gh hd) e1 λσ G' H' S'=>q _ G' H' S'.g .non
  ·exact h2 H G G H _ _ _ _ (f9 gh hd) e1 λa xs G' H' g n1 n2 h3 d3=>q _ _ H' (g.seal n1 n2 h3) (yb n2 d3)
theorem DR{x qual:Str}{st:Stmt}{f:Addr}{fd:QY}{N ps:List Str}{k:Nat}{F:List D->Option (List D)}(g:Ev->Option Fl)(Fu:Fun K x qual st f fd)(S:FnScope N ps (aA st))(hlen:∀ds d,F ds=some d->ds.length=ps.length)
  (hg:∀ds d,F ds=some d->g (bG N ds)=some (.ro d))
  (hb:∀(cdv:Qa) (A:QB) (outer:List Env) (s:Qd) (H:Hp) (E:XK),Room k (A.deeper (ZZ qual (aA st) s.heap.objs.size f cdv))->DSs (jd CX0 P w K mg base N qual (aA st) f cdv A outer s H E).nox (bc st) g):FnOk P w K mg base CX0 (k+1) f fd ps (spO K F):=by
 refine Fu.ok S (λvs H Q E h=>?_) (λcdv A outer s H vs Q E hr h=>?_)
 ·obtain⟨G,ds,d,gh,hd,e,q⟩:=h
  rw[hd.length];exact hlen ds d e
 ·obtain⟨G,ds,d,gh,hd,e,q⟩:=h
  obtain⟨t,h1,h2⟩:=hb cdv A outer s H E hr;exact⟨t,h1,h2 H G G H _ _ _ _ (f9 gh hd) (hg ds d e) λa xs G' H' g n1 n2 h3 d3=>q a xs G' H' g n1 n2 h3 d3⟩
end
noncomputable def fnD(N ps:List Str)(g:Ev->Option Fl):List D->Option D:=λds=>if ds.length=ps.length then(match g (bG N ds) with | some (.rt d)=>some d | some (.nx _)=>some .non | some (.ro rs)=>some (.lst rs) | _=>none) else none
section
variable{P:Qr}{w:Qx}{K:Qc}{mg:Str->Option Qa}{base:Heap}
theorem qz{x qual:Str}{st:Stmt}{f:Addr}{fd:QY}{N ps:List Str}{k:Nat}{g:Ev->Option Fl}(Fu:Fun K x qual st f fd)(S:FnScope N ps (aA st))
  (hb:∀(cdv:Qa) (A:QB) (outer:List Env) (s:Qd) (H:Hp) (E:XK),Room k (A.deeper (ZZ qual (aA st) s.heap.objs.size f cdv))->DSs (jd CX0 P w K mg base N qual (aA st) f cdv A outer s H E).nox (bc st) g):FnOk P w K mg base CX0 (k+1) f fd ps (spF K (fnD N ps g)):=by
 refine Hn g Fu S (λds d e=>?_) (λds d e=>?_) hb
 ·unfold fnD at e
  split at e
  ·assumption
  ·cases e
 ·unfold fnD at e
  split at e
  ·split at e
   ·rename_i d' e1;cases e;exact .inl e1
   ·rename_i ε e1;cases e;exact .inr (.inl ⟨ε,e1,rfl⟩)
   ·rename_i rs e1;cases e;exact .inr (.inr ⟨rs,e1,rfl⟩)
   ·cases e
  ·cases e
noncomputable def fnO(N ps:List Str)(g:Ev->Option Fl):List D->Option (List D):=λds=>if ds.length=ps.length then(match g (bG N ds) with | some (.ro rs)=>some rs | _=>none) else none
theorem Br{x qual:Str}{st:Stmt}{f:Addr}{fd:QY}{N ps:List Str}{k:Nat}{g:Ev->Option Fl}(Fu:Fun K x qual st f fd)(S:FnScope N ps (aA st))
  (hb:∀(cdv:Qa) (A:QB) (outer:List Env) (s:Qd) (H:Hp) (E:XK),Room k (A.deeper (ZZ qual (aA st) s.heap.objs.size f cdv))->DSs (jd CX0 P w K mg base N qual (aA st) f cdv A outer s H E).nox (bc st) g):FnOk P w K mg base CX0 (k+1) f fd ps (spO K (fnO N ps g)):=by
 refine DR g Fu S (λds d e=>?_) (λds d e=>?_) hb
 ·unfold fnO at e
  split at e
  ·assumption
  ·cases e
 ·unfold fnO at e
  split at e
  ·split at e
   ·rename_i d' e1;cases e;exact e1
   ·cases e
  ·cases e
theorem DD{f:Addr}{fd:QY}{ps:List Str}{k:Nat}:FnOk P w K mg base CX0 k f fd ps (spF K λ_=>none):=
 ⟨λvs H Q E ⟨_,_,_,_,_,e,_⟩=>(by cases e),λA outer s H args us vs Q E _ _ _ _ ⟨_,_,_,_,_,e,_⟩=>(by cases e)⟩
structure FA(K:Qc)(mg:Str->Option Qa)(x:Str)(st:Stmt)(ps:List Str)(f:Addr)(fd:QY):Prop where
 fu:Fun K x x st f fd
 bi:gj K fd ps []
 mgf:mg x=some (.ref f)
theorem IU{h:Heap}{x:Str}{st:Stmt}{ps:List Str}{f:Addr}{oc:Qa}{od an:Option Addr}{osl:Array (Option Qa)}{kV doc pm cdv ct:Qa}(X:K.In h)(G:h.Ns Qs mg)
  (a:QE K Qs x=some (some (.ref f)))
  (l:K.lookup f=some ⟨oc,od,.func (QQ x x (cj st) (bc st) (aA st) .none kV doc pm an cdv ct),osl⟩)
  (c:Zt K cdv x=true) (k:QT K (.ref f)=true)
  (hb:∀(kV doc pm:Qa) (an:Option Addr) (cdv ct:Qa) (us:List Qa),us.length=ps.length->bindArgs (QQ x x (cj st) (bc st) (aA st) .none kV doc pm an cdv ct) ⟨us,[]⟩=pure (ps.zip us)) :
  FA K mg x st ps f (QQ x x (cj st) (bc st) (aA st) .none kV doc pm an cdv ct):=
 ⟨rT l c k,(rT l c k).binds hb,Zc X G a⟩
end
section
variable{X:Cx}{a b c:Expr}{fa fb fc:Ev->Option D}{pos:Pos}
theorem wV{k j:Nat}{f:Addr}{fd:QY}{st:Stmt}{ps:List Str}{Fn:List D->Option D}{x:Str}{e:Expr}{es:List Expr}{g:Ev->Option (List D)}{p:Pos}
  (A:FA X.K X.mg x st ps f fd) (F:FnOk X.prog X.w X.K X.mg X.base CX0 j f fd ps (spF X.K Fn)) (hr:Room k X.A) (hj:j<=k)
  (ha:DA X (e::es) g) (hg:Gl X x:=by rfl) (hdb:(x==("__debug__" : Str))=false:=by decide) (he:Qg (e::es) X.env=(false,eval e X.env)::Qg es X.env:=by rfl) (hpl:(QP pos (Qg es X.env)).any (·.1)=false:=by rfl) :
  DE X (.Call (.Name x p) (e::es) [] pos) (aL Fn g):=Dz F (hr.mono hj) A.mgf A.fu.kp A.bi ha hg hdb he hpl
theorem Cy{k j:Nat}{f:Addr}{fd:QY}{st:Stmt}{ps:List Str}{Fn:List D->Option (List D)}{x:Str}{e:Expr}{es:List Expr}{g:Ev->Option (List D)}{p:Pos}
  (A:FA X.K X.mg x st ps f fd) (F:FnOk X.prog X.w X.K X.mg X.base CX0 j f fd ps (spO X.K Fn)) (hr:Room k X.A) (hj:j<=k)
  (ha:DA X (e::es) g) (hg:Gl X x:=by rfl) (hdb:(x==("__debug__" : Str))=false:=by decide) (he:Qg (e::es) X.env=(false,eval e X.env)::Qg es X.env:=by rfl) (hpl:(QP pos (Qg es X.env)).any (·.1)=false:=by rfl) :
  DF X (.Call (.Name x p) (e::es) [] pos) (pj Fn g):=D7 F (hr.mono hj) A.mgf A.fu.kp A.bi ha hg hdb he hpl
noncomputable def eCh(f f':D->D->Option D)(fa fb fc:Ev->Option D):Ev->Option D:=λε=>(fa ε).bind λx=>(fb ε).bind λy=>(f x y).bind λz=>match z with | .bl k=>if k=true then(fc ε).bind λw=>f' y w else some (.bl false) | _=>none
theorem Bx{op op':CmpOp}{f f':D->D->Option D}(ho:OpD X (QF op) f)(ho':OpD X (QF op') f')(ha:DB X a fa)(hb:DB X b fb)(hc:DB X c fc)(hm:lastMarks [op,op'] [b,c]=false:=by with_unfolding_all rfl) :
  DE X (.Compare a [op,op'] [b,c] pos) (eCh f f' fa fb fc):=by
 obtain⟨r,o1,o2⟩:=ho;obtain⟨r',p1,p2⟩:=ho';obtain⟨ta,a1,a2⟩:=ha;obtain⟨tb,b1,b2⟩:=hb;obtain⟨tc,c1,c2⟩:=hc;refine⟨_,CW o1 p1 a1 b1 c1 hm,λHe G H σ ε d Q gh E ef q=>?_⟩;obtain⟨x,e1,ef⟩:=aq ef;obtain⟨y,e2,ef⟩:=aq ef;obtain⟨z,e3,ef⟩:=aq ef;refine a2 He G H σ ε x _ gh E e1 λv G1 H1 g1 d1=>?_;refine b2 He G1 H1 σ ε y _ g1.gh (E.grow g1) e2 λu G2 H2 g2 d2=>?_;split at ef
 ·rename_i k
  refine o2 G2 H2 v u x y (.bl k) _ g2.gh (d1.grow g2) d2 e3 λw G3 H3 g3 d3=>⟨k,d3.blV,?_⟩;cases k with
  |true=>
   rw[if_pos rfl] at ef ⊢;obtain⟨w',e4,ef⟩:=aq ef;refine c2 He G3 H3 σ ε w' _ g3.gh (((E.grow g1).grow g2).grow g3) e4 λv4 G4 H4 g4 d4=>?_;exact p2 G4 H4 u v4 y w' d Q g4.gh ((d2.grow g3).grow g4) d4 ef λv5 G5 H5 g5 d5=>q v5 G5 H5 (g1.trans (g2.trans (g3.trans (g4.trans g5)))) d5
  |false=>
   rw[if_neg Qp] at ef ⊢;cases ef;exact q _ _ _ (g1.trans (g2.trans g3)) (.bl _)
 ·cases ef
end
theorem zL(K:Qc)(G:Hp):∀ns:List Int,DenL K G (ns.map V.int) (ns.map D.int)
 |[]=>.nil
 |n::r=>.cons (.int n) (zL K G r)
noncomputable def cxC(X:Cx)(sc:Scope)(cl:List (Str×Addr))(N':List Str)(C:Addr)(s₃:Qd)(H₃:Hp)(fp:List Addr)(pins:List Vz):Cx where
 prog:=X.prog
 w:=X.w
 K:=X.K
 mg:=X.mg
 base:=X.base
 A:=X.A
 N:=N'
 s₀:=s₃
 H₀:=H₃
 env:=compEnvC sc cl C X.env
 outer:=X.stack
 stack:=X.stack
 ex:=fp
 fn:=λ_=>false
 calm:=true
 pn:=X.pn++pins
 xe:=λ_ _=>False
structure CompSc(X:Cx)(sc:Scope)(cl:List (Str×Addr))(tn fr:List Str)(ix:List Nat):Prop where
 kind:sc.kind=.function
 nocell:∀y∈sc.names,y.2≠.cell
 names:∀y∈sc.names,y.2=.local->sc.names.lookup y.1=some .local
 clos:closureFor sc X.env=pure cl
 len:ix.length=fr.length
 at_:∀(k:Nat) (x:Str),fr[k]?=some x->∃j,ix[k]?=some j/\X.N[j]?=some x/\X.env.scope.names.lookup x=some .cell
 sub:∀x c,cl.lookup x=some c->X.env.cells.lookup x=some c
 has:∀x,((relabel sc X.env).names.lookup x=some .cell\/(relabel sc X.env).names.lookup x=some .free)->∃c,cl.lookup x=some c
 frc:∀x∈fr,(relabel sc X.env).names.lookup x=some .cell
noncomputable def prS(n:Nat)(ix:List Nat)(σ:L2.St):L2.St:=Z9 n none++ix.map λi=>σ.getD i none
noncomputable def Jz:Sl->Sl
 |.dat d=>.dat d
 |_=>.un
noncomputable def prE(n:Nat)(ix:List Nat)(ε:Ev):Ev:=Z9 n Sl.un++ix.map λi=>Jz (ε.getD i .un)
theorem Ba{X:Cx}{sc:Scope}{cl:List (Str×Addr)}{tn fr:List Str}{ix:List Nat}{pins:List Vz}{σ:L2.St}{H₃:Hp}{s₃:Qd}{fp:List Addr}{h₁:Heap}{tk:Nat}{m:Str->Option Qa}
  (S:CompSc X sc cl tn fr ix) (hc:X.calm=true) (I:Inv X pins σ H₃ s₃) (hf:∀b∈fp,nQ X pins H₃ b) (hlt:∀b∈fp,b<s₃.heap.objs.size) (hn:h₁.Ns s₃.heap.objs.size m) (hk:∀b o,s₃.heap.get? b=some o->h₁.get? b=some o) :
  Inv (cxC X sc cl (tn++fr) s₃.heap.objs.size s₃ H₃ fp pins) [] (prS tn.length ix σ) H₃ { s₃ with heap:=h₁,toks:=tk }:=by
 have ncell:∀{x:Str} {c:Addr},X.env.cells.lookup x=some c->c<s₃.heap.objs.size:=λ{x c} e=>let⟨v,q⟩:=I.cell x c e;q.lt
 have hfs:∀b,b∈frs X.stack->b<s₃.heap.objs.size:=λb hb=>by
  rcases Ql.mp (I.stkSub b hb) with z | z
  ·rw[z];exact I.lt
  ·exact Nat.lt_of_not_le λq=>I.nofs q z
 refine⟨⟨I.ok.mod,?_,I.ok.glob,I.ok.blt,Qm _,?_,?_,?_,?_,I.ok.frames,.inl rfl,?_,?_,?_,?_,?_,?_,?_⟩,rfl,I.bare,Un.kept hk,⟨m,hn,?_⟩,?_,?_,?_,?_,I.hok.kept hk,?_⟩
 ·exact S.kind
 ·intro x y c h1 h2;exact I.ok.inj x y c (S.sub x c h1) (S.sub y c h2)
 ·intro x hx;exact S.has x hx
 ·intro x c h;cases h
 ·intro _;exact I.ok.hd hc
 ·intro b hb
  exact⟨QC (hlt b hb),λx c e=>(hf b hb).2.2.2.2.1 x c (S.sub x c e)⟩
 ·exact I.bs
 ·exact QO I.ok.bsz I.sz
 ·intro b o e hb
  rcases(hf b hb).2.2.2.1 with z | z
  ·exact I.ok.noex b o e z
  ·exact absurd (QA (Qo e) (QO I.ok.bsz z)) (Zb _)
 ·intro b hb z
  rcases Ql.mp (I.stkSub b z) with q | q
  ·exact(hf b hb).2.1 q
  ·exact(hf b hb).2.2.1 q
 ·exact I.stack
 ·exact I.stkFree
 ·intro i x v h1 h2 hv
  have hi:tn.length<=i:=by
   refine Nat.le_of_not_lt λq=>?_;unfold prS at h2;rw[ZA (by simpa using q),ZK] at h2;split at h2<;>cases h2
  have h1':fr[i-tn.length]?=some x:=by
   have:(tn++fr)[i]?=some x:=h1;rwa [Zj hi] at this
  obtain⟨j,e1,e2,e3⟩:=S.at_ _ x h1'
  have h2':σ[j]?=some (some v):=by
   unfold prS at h2;rw[Zj (by simpa using hi),ZT,QJ,e1] at h2;have h3:σ.getD j none=some v:=Option.some.inj h2;rw[ZR] at h3;cases q:σ[j]? with
   |none=>rw[q] at h3;cases h3
   |some o=>rw[q] at h3;exact congrArg some h3
  obtain⟨mm,hm,hl⟩:=I.loc;obtain⟨u,r,l⟩:=hl j x v e2 h2' (.inr (.inl e3));refine⟨u,r,.inr ⟨.inl (S.frc x (Z0 h1')),?_⟩⟩;rcases l with⟨k1,_⟩ | ⟨_,c,k2,k3⟩
  ·have:X.env.kindOf x=some .cell:=e3
   rw[this] at k1;cases k1
  ·obtain⟨c',k4⟩:=S.has x (.inl (S.frc x (Z0 h1')))
   have:=S.sub x c' k4;rw[k2] at this;cases this;exact⟨c,k4,k3.keeps hk⟩
 ·intro x c e
  obtain⟨v,q⟩:=I.cell x c (S.sub x c e);exact⟨v,q.keeps hk⟩
 ·exact I.hok.fresh (Qm _)
 ·intro x c e;exact I.freeC x c (S.sub x c e)
 ·intro p hp
  have hp':p∈X.pn++pins:=(Q2.mp hp).elim (λin1=>in1) λin2=>by cases in2
  obtain⟨q1,q2,q3,q4,q5⟩:=I.pin p hp';refine⟨hk _ _ q1,q2,QC (Qo q1),λz=>?_,q5⟩;rcases Ql.mp (I.stkSub _ z) with w | w
  ·exact q3 w
  ·exact q4 w
 ·unfold prS
  show _=(tn++fr).length;rw[QI,QI,ZT,Qt,S.len]
theorem Co{K:Qc}{He G H:Hp}{σ:L2.St}{ε:Ev}(n:Nat)(ix:List Nat)(E:EnvD K He G H σ ε):EnvD K He G H (prS n ix σ) (prE n ix ε):=by
 have look:∀{i:Nat} {s:Sl},(prE n ix ε)[i]?=some s->s=.un\/∃j d,n<=i/\ix[i-n]?=some j/\ε[j]?=some (.dat d)/\s=.dat d:=λ{i s} e=>by
  unfold prE at e
  by_cases h:i<n
  ·rw[ZA (by simpa using h),ZK,if_pos h] at e
   cases e;exact .inl rfl
  ·rw[Zj (by simpa using h),ZT,QJ] at e
   obtain⟨j,e1,rfl⟩:=bh e;rw[show ε.getD j .un=(ε[j]?).getD .un from ZR];cases q:ε[j]? with
   |none=>exact .inl rfl
   |some sl=>
    cases sl with
    |un=>exact .inl rfl
    |own ds=>exact .inl rfl
    |odi ds=>exact .inl rfl
    |dat d=>exact .inr ⟨j,d,by lia,e1,q,rfl⟩
 refine⟨by simp[prS,prE],λ{i d} e=>?_,λ{i ds} e=>?_,λ{i j ds es a} e _ _ _=>?_,λ{i ds} e=>?_,λ{i j ds es a} e _ _ _=>?_⟩
 ·rcases look e with z | ⟨j,d',h1,h2,h3,h4⟩
  ·cases z
  ·cases h4
   obtain⟨v,w1,w2⟩:=E.dat h3;refine⟨v,?_,w2⟩;unfold prS;rw[Zj (by simpa using h1),ZT,QJ,h2];show some (σ.getD j none)=_;rw[ZR,w1];rfl
 ·rcases look e with z | ⟨j,d',h1,h2,h3,h4⟩
  ·cases z
  ·cases h4
 ·rcases look e with z | ⟨j,d',h1,h2,h3,h4⟩
  ·cases z
  ·cases h4
 ·rcases look e with z | ⟨j,d',h1,h2,h3,h4⟩
  ·cases z
  ·cases h4
 ·rcases look e with z | ⟨j,d',h1,h2,h3,h4⟩
  ·cases z
  ·cases h4
noncomputable def NoO(ε:Ev):Prop:=∀(j:Nat) es,ε[j]?≠some (.own es)
noncomputable def NoG(g:D->Ev->Option Ev):Prop:=∀d ε ε',g d ε=some ε'->NoO ε->NoO ε'
noncomputable def EM(g:List D->Ev->Option Ev):Prop:=∀d ε ε',g d ε=some ε'->NoO ε->NoO ε'
theorem cw(i:Nat):NoG (ao i):=λd ε ε' e h j es q=>by
 cases e;rw[QN] at q;split at q
 ·split at q<;>cases q
 ·exact h j es q
theorem om:EM bM:=λd ε ε' e h=>by
 unfold bM at e;split at e
 ·cases e;exact h
 ·cases e
theorem dD{g1:D->Ev->Option Ev}{g2:List D->Ev->Option Ev}(h1:NoG g1)(h2:EM g2):EM (aD g1 g2):=λd ε ε' e h=>by
 unfold aD at e;split at e
 ·obtain⟨ε1,e1,e⟩:=aq e
  exact h2 _ _ _ e (h1 _ _ _ e1 h)
 ·cases e
theorem rY{n:Nat}{g:List D->Ev->Option Ev}(h:EM g):NoG (eZ n g):=λd ε ε' e hn=>by
 unfold eZ at e;split at e
 ·split at e
  ·exact h _ _ _ e hn
  ·cases e
 ·cases e
theorem Gr(n:Nat)(ix:List Nat)(ε:Ev):NoO (prE n ix ε):=λi es e=>by
 unfold prE at e
 by_cases h:i<n
 ·rw[ZA (by simpa using h),ZK,if_pos h] at e
  cases e
 ·rw[Zj (by simpa using h),ZT,QJ] at e
  obtain⟨j,e1,e2⟩:=bh e
  revert e2
  cases ε.getD j .un<;>intro z<;>cases z
noncomputable def DIf(X:Cx)(ifs:List Expr)(f:Ev->Option Bool):Prop:=∃t:TT,(∀(pins:List Vz) (s:Qd) (σ:L2.St) (H:Hp) (Q:Bool->Hp->Prop),Inv X pins σ H s->t σ H Q->
  Qf KF X.A (forIn ifs true λc r=>if r=true then do let ok<-isTrue c X.env (eval c X.env);pure (ForInStep.yield ok) else pure (ForInStep.yield r)) (TP X pins σ Q) X.xe s)/\
 ∀(He G H:Hp) (σ:L2.St) (ε:Ev) (b:Bool) (Q:Bool->Hp->Prop),aT G H->EnvD X.K He G H σ ε->f ε=some b->(∀G' H',Grow G H G' H'->Q b H')->t σ H Q
noncomputable def ig:Ev->Option Bool:=λ_=>some true
theorem jf{X:Cx}:DIf X [] ig:=⟨λσ H Q=>Q true H,λpins s σ H Q I h=>wpAny_tests_nil ⟨H,I,h⟩,λHe G H σ ε b Q gh E e q=>by cases e;exact q G H (.refl gh)⟩
theorem qK{X:Cx}{c:Expr}{f:Ev->Option Bool}(h:DT X c f):DIf X [c] f:=by
 obtain⟨t,h1,h2⟩:=h;exact⟨t,λpins s σ H Q I hq=>wpAny_tests_one (h1 pins s σ H Q I hq),h2⟩
noncomputable def lcD(g:D->Ev->Option Ev)(ft:Ev->Option Bool)(fe:Ev->Option D):List D->Ev->Option (List D)
 |[],_=>some []
 |d::ds,ε=>(g d ε).bind λε1=>(ft ε1).bind λk=>if k=true then(fe ε1).bind λv=>(lcD g ft fe ds ε1).bind λr=>some (v::r) else lcD g ft fe ds ε1
theorem kT{prog:Qr}{w:Qx}{A:QB}{R:Result->Qd->Prop}{t0:Qd}{elt tg iter:Expr}{ifs:List Expr}{sc:Scope}{pos:Pos}{it acc:Qa}{ce:Env}(J:Nat->Qd->Prop)
  (step:∀k t,J k t->Qf (Qj prog w) A (pyNext it) (λo t1=>match o with | none=>R (.ok .next) t1 | some v=>Qf (Qj prog w) A (Vr tg it v) (λ_ t2=>Qf (Qj prog w) A (assign tg ce v) (λ_ t3=>
   Qf (Qj prog w) A (forIn ifs true λc r=>if r=true then do let ok<-isTrue c ce (eval c ce);pure (ForInStep.yield ok) else pure (ForInStep.yield r)) (λyes t4=>if yes=true then Qf (Qj prog w) A (eval elt ce) (λx t5=>
    Qf (Qj prog w) A (call (.builtin "list.append") [acc,x]) (λ_ t6=>∃j,j<k/\J j t6) (λ_ _=>False) t5) (λ_ _=>False) t4 else ∃j,j<k/\J j t4) (λ_ _=>False) t3) (λ_ _=>False) t2) (λ_ _=>False) t1) (λ_ _=>False) t)
  (k0:Nat) (h0:J k0 t0):Ku (Qj prog w) A (.compLoop (.ListComp elt [⟨tg,iter,ifs,0⟩] sc pos) 0 it acc ce) R t0:=by
 refine codeAny_loop rfl J (λk t hJ=>?_) k0 h0;show Qf _ A ((compTurn (.ListComp elt [⟨tg,iter,ifs,0⟩] sc pos) 0 it acc ce).onRaise (λx=>do noteFrame x ce;theTreesLotGoes x)) _ _ t;refine wpAny_noted ?_;rw[compTurn_list];refine Qb (K3 (Qb (Zk (step k t hJ) (λo t1 q1=>?_) λ_ _ z=>z.elim)));cases o with
 |none=>exact Qh q1
 |some v=>
  refine Qb (Zk q1 (λ_ t2 q2=>Qb (Zk q2 (λ_ t3 q3=>Qb (Zk q3 (λyes t4 q4=>?_) λ_ _ z=>z.elim)) λ_ _ z=>z.elim)) λ_ _ z=>z.elim);cases yes with
  |true=>exact Qb (Qb (Zk q4 (λx t5 q5=>Qb (Zk q5 (λ_ t6 q6=>Qh (Qh ⟨rfl,q6⟩)) λ_ _ z=>z.elim)) λ_ _ z=>z.elim))
  |false=>exact Qh ⟨rfl,q4⟩
section
variable{X:Cx}{elt tg iter:Expr}{ifs:List Expr}{sc:Scope}{cl:List (Str×Addr)}{tn fr:List Str}{ix:List Nat}{pos:Pos}{fi:Ev->Option (List D)}{g:D->Ev->Option Ev}{ft:Ev->Option Bool}{fe:Ev->Option D}
noncomputable def DEp(Nv:Hp->Hp->V->Prop)(X:Cx)(e:Expr)(f:Ev->Option D):Prop:=∃t,PE X e t/\∀(He G H:Hp) (σ:L2.St) (ε:Ev) (d:D) (Q:VK),aT G H->EnvD X.K He G H σ ε->f ε=some d->
 (∀v G' H',Grow G H G' H'->Den X.K G' v d->Nv H G' v->Q v H')->t σ H Q
theorem DE.p{X:Cx}{e:Expr}{f:Ev->Option D}(h:DE X e f):DEp (λ_ _ _=>True) X e f:=
 let⟨t,h1,h2⟩:=h;⟨t,h1,λHe G H σ ε d Q gh E ef q=>h2 He G H σ ε d Q gh E ef λv G' H' g hd=>q v G' H' g hd trivial⟩
noncomputable def C7(Nl:Hp->Hp->List V->Prop)(X:Cx)(pins:List Vz)(σ:L2.St)(G H:Hp)(ds:List D)(RR:Qa->Addr->Result->Qd->Prop):Prop:=
 ∀(a:Addr) (xs:List V) (G' H':Hp) (C:Addr) (oC:Obj) (m:Str->Option Qa) (s':Qd),Inv X (pins++[(C,oC)]) σ H' s'->s'.heap.Ns C m->X.s₀.heap.objs.size<=C->(∀p∈X.pn++pins,p.1≠C)->
  Grow G H G' H'->H a=none->G' a=none->H' a=some (.lst xs)->DenL X.K G' xs ds->Nl H G' xs->RR (.ref a) C (.ok .next) s'
variable{Nv:Hp->Hp->V->Prop}{Nl:Hp->Hp->List V->Prop}(n0:∀H G,Nl H G [])(nm:∀H G G' xs,aT G G'->Nl H G xs->Nl H G' xs)(ns:∀H H1 G G' xs v,aT H H1->aT G H1->aT G G'->Nl H G xs->Nv H1 G' v->Nl H G' (xs++[v]))
include n0 nm ns
theorem wy{pins:List Vz}{σ:L2.St}{H He G G1 H3:Hp}{s3:Qd}{ε:Ev}{ds rs:List D}{RR:Qa->Addr->Result->Qd->Prop}{it Dd:Addr}{fp:List Addr}{tn':Nat->Heap->Prop}{J:It}{h₁:Heap}{m:Str->Option Qa}{tk:Nat}
  (hc:X.calm=true) (S:CompSc X sc cl tn fr ix) (ng:NoG g)
  (hg:∀C s₃ H₃ fp pins,DG Vx tg g) (ht:∀C s₃ H₃ fp pins,DIf Vx ifs ft) (he:∀C s₃ H₃ fp pins,DEp Nv Vx elt fe)
  (I3:Inv X pins σ H3 s3) (E:EnvD X.K He G H σ ε) (hz:ds.length<1000000) (er:lcD g ft fe ds (prE tn.length ix ε)=some rs) (after:C7 Nl X pins σ G H rs RR)
  (T:Turn X.prog X.w X.K tg J fp it tn') (itd:ItD X.K J ds G1) (f3:∀b∈fp,nQ X pins H3 b) (lt3:∀b∈fp,b<s3.heap.objs.size) (st3:tn' 0 s3.heap) (gr3:Grow G H G1 H3)
  (eD:H3 Dd=some (.lst [])) (nD:H Dd=none) (gD:G1 Dd=none) (hn:h₁.Ns s3.heap.objs.size m) (hk:∀b o,s3.heap.get? b=some o->h₁.get? b=some o) :
  Ku KF X.A (.compStart (.ListComp elt [⟨tg,iter,ifs,0⟩] sc pos) 0 (.ref it) (.ref Dd) (compEnvC sc cl s3.heap.objs.size X.env)) (RR (.ref Dd) s3.heap.objs.size) { s3 with heap:=h₁,toks:=tk }:=by
 have I4:=Ba (tk:=tk) S hc I3 f3 lt3 hn hk;have st4:tn' 0 h₁:=T.keep _ _ _ st3 λb hb o e=>hk b o e;obtain⟨tgt,g1,g2⟩:=hg s3.heap.objs.size s3 H3 fp pins;obtain⟨tt,t1,t2⟩:=ht s3.heap.objs.size s3 H3 fp pins;obtain⟨te,e1,e2⟩:=he s3.heap.objs.size s3 H3 fp pins
 have stat:∀{H':Hp},(∀b∈fp,H' b=none)->∀b∈fp,nQ (cxC X sc cl (tn++fr) s3.heap.objs.size s3 H3 fp pins) [] H' b:=λ{H'} hn b hb=>by
  obtain⟨_,q1,q2,q3,q4,q5⟩:=f3 b hb;refine⟨hn b hb,QC (lt3 b hb),λz=>?_,.inl hb,λx c e=>q4 x c (S.sub x c e),λp hp=>q5 p ?_⟩
  ·rcases Ql.mp (I3.stkSub b z) with w | w
   ·exact q1 w
   ·exact q2 w
  ·rcases Q2.mp hp with w | w
   ·exact w
   ·cases w
 have loop:∀s':Qd,s'={ s3 with heap:=h₁,toks:=tk }->Ku KF X.A (.compLoop (.ListComp elt [⟨tg,iter,ifs,0⟩] sc pos) 0 (.ref it) (.ref Dd) (compEnvC sc cl s3.heap.objs.size X.env)) (RR (.ref Dd) s3.heap.objs.size) s':=by
  rintro s' rfl
  refine kT (λn s'=>∃(i:Nat) (σ':L2.St) (G' H':Hp) (ε':Ev) (xs:List V) (dn rest:List D),n=ds.length+1-i/\i<=ds.length/\Inv (cxC X sc cl (tn++fr) s3.heap.objs.size s3 H3 fp pins) [] σ' H' s'/\tn' i s'.heap/\(∀b∈fp,H' b=none)/\
   Grow G H G' H'/\aT G1 G'/\EnvD X.K He G' H' σ' ε'/\NoO ε'/\H' Dd=some (.lst xs)/\G' Dd=none/\DenL X.K G' xs dn/\Nl H G' xs/\xs.length<=i/\lcD g ft fe (ds.drop i) ε'=some rest/\rs=dn++rest) ?_ (ds.length+1)
   ⟨0,_,G1,H3,_,[],[],rs,rfl,QV _,I4,st4,λb hb=>(f3 b hb).1,gr3,aT.refl _,Co tn.length ix (E.grow gr3),Gr _ _ _,eD,gD,.nil,n0 _ _,Qm _,by simpa using er,rfl⟩
  rintro n s5 ⟨i,σ',G',H',ε',xs,dn,rest,rfl,hi,I5,st5,fr5,gr5,sG,E5,no5,hD,hGD,hden,hNv,hxl,el,ers⟩;obtain⟨go,stop,yld⟩:=itd i H' (sG.trans gr5.gh)
  by_cases hlt:i<ds.length
  ·refine thn (T.item (cxC X sc cl (tn++fr) s3.heap.objs.size s3 H3 fp pins) rfl rfl rfl rfl i [] s5 σ' H' (λ_ _=>False) I5 (stat fr5) st5 (go hlt)) λr s6 ⟨u,hr,h6⟩=>?_
   subst hr;refine thn h6 λ_ s7 ⟨x,H7,I7,r7,y7,st7,fr7⟩=>?_;have I7':=I7.pinned (stat fr7) (T.obj _ _ st7);have ed:ds[i]?=some ds[i]:=by simp[hlt]
   obtain⟨G7,gr7,dx⟩:=yld x H7 y7 _ ed G' sG gr5.gh;rw[List.drop_eq_getElem_cons hlt] at el;obtain⟨ε8,e8,el⟩:=aq el;obtain⟨k,e9,el⟩:=aq el;refine thn (g1 _ s7 σ' H7 x u (λσ8 H8=>H8=H7/\EnvD X.K He G7 H7 σ8 ε8) I7' r7 (g2 He G7 H7 σ' ε' ε8 x ds[i] _ gr7.gh (E5.grow gr7) dx e8 λσ8 E8=>⟨rfl,E8⟩)) λ_ s8 ⟨σ8,H8,I8,e10,E8⟩=>?_;subst e10;refine thn (t1 _ s8 σ8 H8 (λb H9=>b=k/\∃G9,Grow G7 H8 G9 H9) I8 (t2 He G7 H8 σ8 ε8 k _ gr7.gh E8 e9 λG9 H9 gr9=>⟨rfl,G9,gr9⟩)) λok s9 ⟨H9,I9,ek,G9,gr9⟩=>?_;subst ek
   have again:∀{s10:Qd} {G10 H10:Hp} {ys:List V} {dn' rest':List D},Inv (cxC X sc cl (tn++fr) s3.heap.objs.size s3 H3 fp pins) ([]++rq fp s7.heap) σ8 H10 s10->Grow G H G10 H10->aT G1 G10->EnvD X.K He G10 H10 σ8 ε8->H10 Dd=some (.lst ys)->G10 Dd=none->DenL X.K G10 ys dn'->Nl H G10 ys->ys.length<=i+1->
     lcD g ft fe (ds.drop (i+1)) ε8=some rest'->rs=dn'++rest'->∃m,m<ds.length+1-i/\∃(i:Nat) (σ':L2.St) (G' H':Hp) (ε':Ev) (xs:List V) (dn rest:List D),m=ds.length+1-i/\i<=ds.length/\Inv (cxC X sc cl (tn++fr) s3.heap.objs.size s3 H3 fp pins) [] σ' H' s10/\tn' i s10.heap/\(∀b∈fp,H' b=none)/\
   Grow G H G' H'/\aT G1 G'/\EnvD X.K He G' H' σ' ε'/\NoO ε'/\H' Dd=some (.lst xs)/\G' Dd=none/\DenL X.K G' xs dn/\Nl H G' xs/\xs.length<=i/\lcD g ft fe (ds.drop i) ε'=some rest/\rs=dn++rest:=λ{s10 G10 H10 ys dn' rest'} I10 gr10 sG10 E10 hD10 hG10 den10 nv10 len10 el10 ers10=>by
    refine⟨ds.length+1-(i+1),by lia,i+1,σ8,G10,H10,ε8,ys,dn',rest',rfl,hlt,I10.unpinned,T.keep _ _ _ st7 λb hb o e=>(I10.pin (b,o) (Qu _ (Qu _ (j_ hb e)))).1,λb hb=>?_,gr10,sG10,E10,ng _ _ _ e8 no5,hD10,hG10,den10,nv10,len10,el10,ers10⟩;obtain⟨o,e,d⟩:=T.obj _ _ st7 b hb;exact(I10.pin (b,o) (Qu _ (Qu _ (j_ hb e)))).2.1
   have gr9':=gr5.trans (gr7.trans gr9);have sG9:aT G1 G9:=sG.trans (gr7.gg.trans gr9.gg);have hD9:H9 Dd=some (.lst xs):=gr9.hh _ _ (gr7.hh _ _ hD);have hG9:G9 Dd=none:=gr9.fo _ _ (gr7.hh _ _ hD) (gr7.fo _ _ hD hGD);cases ok with
   |false=>
    rw[if_neg Qp] at el;rw[if_neg Qp];exact again I9 gr9' sG9 (E8.grow gr9) hD9 hG9 (hden.mono (gr7.gg.trans gr9.gg)) (nm _ _ _ _ (gr7.gg.trans gr9.gg) hNv) KM el ers
   |true=>
    rw[if_pos rfl] at el;rw[if_pos rfl];obtain⟨vd,e11,el⟩:=aq el;obtain⟨rest',e12,el⟩:=aq el;cases el;refine thn (e1 _ s9 σ8 H9 (λy H10=>∃G10,Grow G9 H9 G10 H10/\Den X.K G10 y vd/\Nv H9 G10 y) I9 (e2 He G9 H9 σ8 ε8 vd _ gr9.gh (E8.grow gr9) e11 λy G10 H10 gr10 dy ny=>⟨G10,gr10,dy,ny⟩)) λuv s10 ⟨y,H10,I10,r10,G10,gr10,dy,ny⟩=>?_;have hD10:=gr10.hh _ _ hD9;have hG10:=gr10.fo _ _ hD9 hG9;have hl:xs.length<Qk:=Kq hxl (K0 (K0 hlt hz) KE);refine thn (iJ _ s10 σ8 H10 (.ref Dd) [y] (.ref Dd) [uv] (λ_ H11=>H11=upd H10 Dd (.lst (xs++[y]))) I10 rfl (.cons r10 .nil) ⟨Dd,xs,y,rfl,rfl,hD10,hl,rfl⟩) λ_ s11 ⟨_,H11,I11,_,e13⟩=>?_;subst e13;have gr10':=gr9'.trans gr10;have keep:∀{b:Addr} {o:HO},b≠Dd->H10 b=some o->upd H10 Dd (.lst (xs++[y])) b=some o:=λ{b o} nb e=>by rw[az nb];exact e
    refine again I11 ⟨λb o e=>keep (aB e nD) (gr10'.hh b o e),gr10'.gg,λb o e=>keep (aB e hG10) (gr10'.gh b o e),gr10'.fo⟩ (sG9.trans gr10.gg) ?_ upd_same hG10 (((hden.mono (gr7.gg.trans gr9.gg)).mono gr10.gg).append (.one dy)) (ns _ _ _ _ _ _ gr9'.hh gr9.gh gr10.gg (nm _ _ _ _ (gr7.gg.trans gr9.gg) hNv) ny) (by rw[QI];simp;lia) e12 (by rw[ers];simp);have E10:=(E8.grow gr9).grow gr10
    exact⟨E10.len,E10.dat,λ{j es} e=>by
     obtain⟨b,zs,w1,w2,w3,w4,w5⟩:=E10.own e;exact(ng _ _ _ e8 no5 _ _ e).elim,E10.apart,λ{j es} e=>by
     obtain⟨b,zs,ep,w1,w2,w3,w4,w5,w6⟩:=E10.odi e
     exact⟨b,zs,ep,w1,keep (λq=>by subst q;rw[hD10] at w2;cases w2) w2,w3,w4,w5,w6⟩,E10.apartD⟩
  ·have e5:i=ds.length:=by lia
   subst e5;rw[List.drop_length] at el;cases el;refine thn (T.done (cxC X sc cl (tn++fr) s3.heap.objs.size s3 H3 fp pins) rfl rfl rfl rfl ds.length [] s5 σ' H' (λ_ _=>False) I5 (stat fr5) st5 (stop (Qm _))) λr s6 ⟨hr,I6⟩=>?_;subst hr;obtain⟨m6,⟨oC,es,ep,ho,hdt,hrest⟩,_⟩:=id I6.loc;have IX:Inv X pins σ H' s6:=I3.call' I6.os I6.base I6.hok I6.bare λb hb=>⟨(f3 b hb).2.2.2.1,(f3 b hb).2.1,(f3 b hb).2.2.2.2.1,(f3 b hb).2.2.2.2.2⟩;have pC:∀p∈X.pn++pins,p.1≠s3.heap.objs.size:=λp hp=>QC (Qo (I3.pin p hp).1)
   have IX':Inv X (pins++[(s3.heap.objs.size,oC)]) σ H' s6:=IX.pins_of λp hp=>by
    rcases Q2.mp hp with older | newer
    ·exact IX.pin p (Qu _ older)
    ·rw[QL.mp newer]
     exact⟨ho,I6.free,Ne.symm (QC I3.lt),I3.nofs (Qm _),λv q=>by rw[hdt] at q;cases q⟩
   exact after Dd xs G' H' s3.heap.objs.size oC m6 s6 IX' ⟨oC,es,ep,ho,hdt,hrest⟩ I3.sz pC gr5 nD hGD hD (by rw[ers,Q6];exact hden) hNv
 exact codeAny_compStart_list (loop _ rfl) (T.self X.A 0 _ _ _ st4 (loop _ rfl))
theorem zH{pins:List Vz}{σ:L2.St}{H He G:Hp}{s:Qd}{ε:Ev}{ds rs:List D}{RR:Qa->Addr->Result->Qd->Prop}(hc:X.calm=true)(hi:DI X tg iter fi)(S:CompSc X sc cl tn fr ix)(ng:NoG g)
  (hg:∀C s₃ H₃ fp pins,DG Vx tg g) (ht:∀C s₃ H₃ fp pins,DIf Vx ifs ft) (he:∀C s₃ H₃ fp pins,DEp Nv Vx elt fe)
  (I:Inv X pins σ H s) (gh:aT G H) (E:EnvD X.K He G H σ ε) (ei:fi ε=some ds) (hz:ds.length<1000000) (er:lcD g ft fe ds (prE tn.length ix ε)=some rs) (after:C7 Nl X pins σ G H rs RR) :
  Qf KF X.A (eval iter X.env) (λx s₁=>Qf KF X.A (pyIter x) (λit s₂=>Qf KF X.A (newList []) (λacc s₃=>
   Qf KF X.A (newFunctionEnv sc X.env.globals cl [] X.env.qual none .none (some X.env)) (λcenv s₄=>
    Ku KF X.A (.compStart (.ListComp elt [⟨tg,iter,ifs,0⟩] sc pos) 0 it acc { cenv with scope:=relabel sc X.env }) (RR acc cenv.locals) s₄) X.xe s₃) X.xe s₂) X.xe s₁) X.xe s:=by
 obtain⟨wi,i1,i2⟩:=hi;refine thn (i1 pins s σ H (λJ H'=>∃G1,Grow G H G1 H'/\ItD X.K J ds G1) I (i2 He G H σ ε ds _ gh E ei λJ G' H' gr itd=>⟨G',gr,itd⟩)) λv s1 h1=>thn h1 λitv s2 h2=>?_;obtain⟨it,fp,tn',J,H2,rfl,I2,T,st2,f2,G1,gr,itd⟩:=h2;refine Zl (wpAny_newFunctionEnv S.nocell (by intro y hy;simp at hy) (λh₁ hns₁ hsb₁=>?_) S.kind);dsimp only at hns₁ hsb₁ ⊢;have fr2:H2 s2.heap.objs.size=none:=I2.hok.fresh (Qm _)
 have I3:Inv X pins σ (upd H2 s2.heap.objs.size (.lst [])) { s2 with heap:=s2.heap.push { cls:=.type "list",dict:=none,data:=.seq ([]:List Qa).toArray } }:=
  I2.laid (t':=s2.toks) (o:=.lst []) (λb ob q=>Qe _ q) (Qm _) ⟨QV _,[],0,.nil,Qq _ rfl⟩
 have fpD:∀b∈fp,b≠s2.heap.objs.size:=λb hb z=>by
  obtain⟨o,e,_⟩:=T.obj 0 _ st2 b hb;exact absurd (Qo e) (by rw[z];exact Zb _)
 have f3:∀b∈fp,nQ X pins (upd H2 s2.heap.objs.size (.lst [])) b:=λb hb=>⟨by rw[az (fpD b hb)];exact(f2 b hb).1,(f2 b hb).2⟩
 have lt3:∀b∈fp,b<(s2.heap.push { cls:=.type "list",dict:=none,data:=.seq ([]:List Qa).toArray }).objs.size:=λb hb=>by
  obtain⟨o,e,_⟩:=T.obj 0 _ st2 b hb;rw[Za];exact Nat.lt_succ_of_lt (Qo e)
 have st3:tn' 0 (s2.heap.push { cls:=.type "list",dict:=none,data:=.seq ([]:List Qa).toArray }):=T.keep _ _ _ st2 λb hb o e=>Qe _ e;have gr3:Grow G H G1 (upd H2 s2.heap.objs.size (.lst [])):=gr.trans (.lay _ gr.gh fr2);have nD:H s2.heap.objs.size=none:=gr.hh.free fr2;have gD:G1 s2.heap.objs.size=none:=gr.gh.free fr2;exact wy n0 nm ns (s3:={ s2 with heap:=s2.heap.push { cls:=.type "list",dict:=none,data:=.seq ([]:List Qa).toArray } }) hc S ng hg ht he I3 E hz er after T itd f3 lt3 st3 gr3 upd_same nD gD hns₁ λb o e=>hsb₁.extBut b o (QC (Qo e)) (Qe _ e)
omit n0 nm ns
theorem tS{pins:List Vz}{σ:L2.St}{H':Hp}{s':Qd}{C:Addr}{oC:Obj}{h':Heap}(IX:Inv X (pins++[(C,oC)]) σ H' s')(hC:X.s₀.heap.objs.size<=C)(pC:∀p∈X.pn++pins,p.1≠C)(hs:ZP C s'.heap h') :
  Inv X pins σ H' { s' with heap:=h' }:=by
 obtain⟨q1,q2,q3,q4,q5⟩:=IX.pin (C,oC) (Qu _ (Qu _ (QL.mpr rfl)));refine IX.unpinned.turned (t':=s'.toks) (it:=C) (λb o hb e=>hs.extBut b o hb e) q2 q3 (.inr hC) (λx c e z=>?_) pC;obtain⟨v,w⟩:=IX.cell x c e;rw[z] at w;obtain⟨o,w1,w2⟩:=id w;rw[q1] at w1;cases w1;exact q5 _ w2
noncomputable def eLC(fi:Ev->Option (List D))(n:Nat)(ix:List Nat)(g:D->Ev->Option Ev)(ft:Ev->Option Bool)(fe:Ev->Option D):Ev->Option (List D):=λε=>(fi ε).bind λds=>if ds.length<1000000 then lcD g ft fe ds (prE n ix ε) else none
include n0 nm ns in
theorem Gf(hc:X.calm=true)(hi:DI X tg iter fi)(S:CompSc X sc cl tn fr ix)(ng:NoG g)
  (hg:∀C s₃ H₃ fp pins,DG Vx tg g) (ht:∀C s₃ H₃ fp pins,DIf Vx ifs ft) (he:∀C s₃ H₃ fp pins,DEp Nv Vx elt fe)
  (hs:∀x,ZM iter X.env x=pure x:=by intro _;rfl):∃t,PE X (.ListComp elt [⟨tg,iter,ifs,0⟩] sc pos) t/\∀(He G H:Hp) (σ:L2.St) (ε:Ev) (ds:List D) (Q:VK),aT G H->EnvD X.K He G H σ ε->eLC fi tn.length ix g ft fe ε=some ds->
   (∀a xs G' H',Grow G H G' H'->H a=none->G' a=none->H' a=some (.lst xs)->DenL X.K G' xs ds->Nl H G' xs->Q (.ref a) H')->t σ H Q:=by
 refine⟨λσ H Q=>∃He G ε rs,aT G H/\EnvD X.K He G H σ ε/\eLC fi tn.length ix g ft fe ε=some rs/\∀a xs G' H',Grow G H G' H'->H a=none->G' a=none->H' a=some (.lst xs)->DenL X.K G' xs rs->Nl H G' xs->Q (.ref a) H',λpins s σ H Q I hq=>?_,
  λHe G H σ ε ds Q gh E ef q=>⟨He,G,ε,ds,gh,E,ef,q⟩⟩
 obtain⟨He,G,ε,rs,gh,E,ef,q⟩:=hq;obtain⟨ds,ei,ef⟩:=aq ef;split at ef
 ·rename_i hz
  rw[eval_ListComp];refine wpAny_comprehension_free (use:=none) rfl hs S.clos S.kind S.names (zH n0 nm ns (RR:=λacc C=>compPost KF X.A X.xe none (EP X pins σ Q) acc C) hc hi S ng hg ht he I gh E ei hz ef ?_);intro a xs G' H' C oC m s' IX hNs hC pC gr hn gn ha hd nv;exact⟨m,hNs,λh' hs'=>⟨.ref a,H',tS IX hC pC hs',rfl,q a xs G' H' gr hn gn ha hd nv⟩⟩
 ·cases ef
theorem pL(hc:X.calm=true)(hi:DI X tg iter fi)(S:CompSc X sc cl tn fr ix)(ng:NoG g)
  (hg:∀C s₃ H₃ fp pins,DG Vx tg g) (ht:∀C s₃ H₃ fp pins,DIf Vx ifs ft) (he:∀C s₃ H₃ fp pins,DE Vx elt fe)
  (hs:∀x,ZM iter X.env x=pure x:=by intro _;rfl):DF X (.ListComp elt [⟨tg,iter,ifs,0⟩] sc pos) (eLC fi tn.length ix g ft fe):=
 let⟨t,h1,h2⟩:=Gf (Nv:=λ_ _ _=>True) (Nl:=λ_ _ _=>True) (λ_ _=>trivial) (λ_ _ _ _ _ _=>trivial) (λ_ _ _ _ _ _ _ _ _ _ _=>trivial) hc hi S ng hg ht (λC s H f p=>(he C s H f p).p) hs
 ⟨t,h1,λHe G H σ ε ds Q gh E ef q=>h2 He G H σ ε ds Q gh E ef λa xs G' H' g n1 n2 h3 d3 _=>q a xs G' H' g n1 n2 h3 d3⟩
theorem B6{i:Nat}{y:Str}{py spos:Pos}{W':Ends->L2.St->Hp->Prop}{gg:Ev->Option Fl}(hc:X.calm=true)(hN:X.N.Nodup)(hi:DI X tg iter fi)(S:CompSc X sc cl tn fr ix)(ng:NoG g)
  (hg:∀C s₃ H₃ fp pins,DG Vx tg g) (ht:∀C s₃ H₃ fp pins,DIf Vx ifs ft) (he:∀C s₃ H₃ fp pins,DE Vx elt fe)
  (hiN:X.N[i]?=some y) (hx:Loc X.env.scope y) (hf:X.fn y=true\/X.env.scope.names.lookup y=some .local) (hsw:ZD (.ListComp elt [⟨tg,iter,ifs,0⟩] sc pos) (some (.Name y py)) spos.line X.env=pure true)
  (hs:∀x,ZM iter X.env x=pure x)
  (hgg:∀(He Ge G H:Hp) (σ:L2.St) (ε:Ev) (r:Fl) (W:Ends),Sta X.K He Ge G H σ ε->gg ε=some r->xk X He Ge r W->∃rs,eLC fi tn.length ix g ft fe ε=some rs/\∀a xs G' H',Grow G H G' H'->H a=none->G' a=none->H' a=some (.lst xs)->DenL X.K G' xs rs->W.nx (σ.set i (some (.ref a))) H') :
  DS X (.Assign [.Name y py] (.ListComp elt [⟨tg,iter,ifs,0⟩] sc pos) spos) gg:=by
 refine⟨λW σ H=>∃He G ε rs,aT G H/\EnvD X.K He G H σ ε/\eLC fi tn.length ix g ft fe ε=some rs/\∀a xs G' H',Grow G H G' H'->H a=none->G' a=none->H' a=some (.lst xs)->DenL X.K G' xs rs->W.nx (σ.set i (some (.ref a))) H',λpins s σ H W I hq=>?_,
  λHe Ge G H σ ε r W S' e P=>let⟨rs,e1,e2⟩:=hgg He Ge G H σ ε r W S' e P;⟨He,G,ε,rs,S'.g.gh,S'.e,e1,e2⟩⟩
 obtain⟨He,G,ε,rs,gh,E,ef,q⟩:=hq;obtain⟨ds,ei,ef⟩:=aq ef;split at ef
 ·rename_i hz
  rw[exec_Assign_Name_used _ _ _ _ hsw];refine Qb (K3 (Qb ?_));show Qf _ X.A (do let _<-comprehension (.ListComp elt [⟨tg,iter,ifs,0⟩] sc pos) sc X.env _ (newList []) false (eval iter X.env) (some (assign (.Name y py) X.env))) _ _ s
  refine Qb (Zk (wpAny_comprehension_free (use:=some (assign (.Name y py) X.env)) (Q:=λ_ s'=>SP X pins W .next s') rfl hs S.clos S.kind S.names
   (zH (Nv:=λ_ _ _=>True) (Nl:=λ_ _ _=>True) (λ_ _=>trivial) (λ_ _ _ _ _ _=>trivial) (λ_ _ _ _ _ _ _ _ _ _ _=>trivial) (RR:=λacc C=>compPost KF X.A X.xe (some (assign (.Name y py) X.env)) (λ_ s'=>SP X pins W .next s') acc C) hc hi S ng hg ht (λC s H f p=>(he C s H f p).p) I gh E ei hz ef ?_)) (λ_ s' hq=>Qh (Qh hq)) λ_ _ e=>e)
  intro a xs G' H' C oC m s' IX hNs hC pC gr hn gn ha hd _;show Qf _ X.A (assign (.Name y py) X.env (.ref a)) _ _ _;refine wpAny_assign_Name (jK IX hN hiN hx (v:=.ref a) (u:=.ref a) rfl (λs2 I2=>?_) hf);obtain⟨q1,_⟩:=IX.pin (C,oC) (Qu _ (Qu _ (QL.mpr rfl)));obtain⟨w1,_⟩:=I2.pin (C,oC) (Qu _ (Qu _ (QL.mpr rfl)));refine⟨m,?_,λh' hs'=>⟨_,H',tS I2 hC pC hs',q a xs G' H' gr hn gn ha hd⟩⟩;obtain⟨o,es,ep,h1,h2⟩:=hNs;rw[q1] at h1;cases h1;exact⟨oC,es,ep,w1,h2⟩
 ·cases ef
theorem CV(i:Nat){y:Str}{py spos:Pos}(hc:X.calm=true)(hN:X.N.Nodup)(hi:DI X tg iter fi)(S:CompSc X sc cl tn fr ix)(ng:NoG g)
  (hg:∀C s₃ H₃ fp pins,DG Vx tg g) (ht:∀C s₃ H₃ fp pins,DIf Vx ifs ft) (he:∀C s₃ H₃ fp pins,DE Vx elt fe)
  (hiN:X.N[i]?=some y:=by rfl) (hx:Loc X.env.scope y:=by first | exact Qz rfl | exact Zn rfl) (hf:X.fn y=true\/X.env.scope.names.lookup y=some .local:=by first | exact .inl rfl | exact .inr rfl) (hsw:ZD (.ListComp elt [⟨tg,iter,ifs,0⟩] sc pos) (some (.Name y py)) spos.line X.env=pure true:=by rfl)
  (hs:∀x,ZM iter X.env x=pure x:=by intro _;rfl):DS X (.Assign [.Name y py] (.ListComp elt [⟨tg,iter,ifs,0⟩] sc pos) spos) (nF i (eLC fi tn.length ix g ft fe)):=
 B6 (i:=i) (W':=λ_ _ _=>True) hc hN hi S ng hg ht he hiN hx hf hsw hs λHe Ge G H σ ε r W S' e P=>by
  obtain⟨rs,e1,rfl⟩:=bh e;exact⟨rs,e1,λa xs G' H' gr hn gn ha hd=>P _ G' H' ⟨S'.g.trans gr,S'.e.putO gr S'.g.hh hn gn ha hd⟩⟩
theorem GF(i:Nat){y:Str}{py spos:Pos}(hc:X.calm=true)(hN:X.N.Nodup)(hi:DI X tg iter fi)(S:CompSc X sc cl tn fr ix)(ng:NoG g)
  (hg:∀C s₃ H₃ fp pins,DG Vx tg g) (ht:∀C s₃ H₃ fp pins,DIf Vx ifs ft) (he:∀C s₃ H₃ fp pins,DE Vx elt fe)
  (hiN:X.N[i]?=some y:=by rfl) (hx:Loc X.env.scope y:=by first | exact Qz rfl | exact Zn rfl) (hf:X.fn y=true\/X.env.scope.names.lookup y=some .local:=by first | exact .inl rfl | exact .inr rfl) (hsw:ZD (.ListComp elt [⟨tg,iter,ifs,0⟩] sc pos) (some (.Name y py)) spos.line X.env=pure true:=by rfl)
  (hs:∀x,ZM iter X.env x=pure x:=by intro _;rfl):DS X (.Assign [.Name y py] (.ListComp elt [⟨tg,iter,ifs,0⟩] sc pos) spos) (bW i (eF (eLC fi tn.length ix g ft fe))):=
 B6 (i:=i) (W':=λ_ _ _=>True) hc hN hi S ng hg ht he hiN hx hf hsw hs λHe Ge G H σ ε r W S' e P=>by
  obtain⟨d,e0,rfl⟩:=bh e;obtain⟨rs,e1,rfl⟩:=bh e0;refine⟨rs,e1,λa xs G' H' gr hn gn ha hd=>?_⟩;have s2:aT G' (upd G' a (.lst xs)):=λb o e=>by rw[az (aB e gn)];exact e
  have g2:Grow G H (upd G' a (.lst xs)) H':=⟨gr.hh,gr.gg.trans s2,λb o e=>by
   unfold upd at e
   by_cases z:b=a
   ·rw[if_pos z] at e;cases e;rw[z];exact ha
   ·rw[if_neg z] at e;exact gr.gh b o e,λb o e z=>by rw[az (aB e hn)];exact gr.fo b o e z⟩
  exact P _ _ H' ⟨S'.g.trans g2,(S'.e.grow g2).put (.lst (.inl upd_same) (hd.mono s2))⟩
end
section
variable{X:Cx}{a b c:Expr}{fa fb fc:Ev->Option D}{pos:Pos}
noncomputable def Fy(K:Qc):R2:=λx y H Q=>∃l b xs zs,x=.ref l/\y=.ref b/\SqL K H l xs/\SqL K H b zs/\xs.length+zs.length<=Qk/\∀p,H p=none->Q (.ref p) (upd H p (.lst (xs++zs)))
theorem qC:OpR X (Zh .Add) (Fy X.K):=by
 intro pins s σ H x y v u Q I rx ry h;obtain⟨l,b,xs,zs,rfl,rfl,hH,hB,hz,q⟩:=h;cases rx;cases ry;obtain⟨its,r,pl,z⟩:=I.list hH;obtain⟨its2,r2,pl2,z2⟩:=I.list hB;have hl:=r.length;have hl2:=r2.length;obtain⟨⟨cls,dd,data,sl⟩,ho,hc,n,hd⟩:=id pl.isList;obtain⟨⟨cls2,dd2,data2,sl2⟩,ho2,hc2,n2,hd2⟩:=id pl2.isList;simp only at hc hd hc2 hd2;subst hc hd hc2 hd2;have ea:its.toArray++its2.toArray=(its++its2).toArray:=by simp
 refine concat_meets ⟨_,ho,rfl⟩ ⟨_,ho2,rfl⟩ noFill_list_add seq_list_add PySem.F.slot_list_add PySem.F.entry_list_add (PySem.F.args_list_add_2 _ _) (list_addW l b its.toArray its2.toArray n n2 dd dd2 sl sl2 (by simp;lia)) ⟨ho,ho2,?_⟩;rw[ea];exact⟨.ref _,_,I.lnew (t':=s.toks) (r.append r2) (by rw[QI];lia),rfl,q _ I.fresh⟩
noncomputable def r8(fa fb:Ev->Option D):Ev->Option (List D):=λε=>(fa ε).bind λx=>(fb ε).bind λy=>match x,y with | .lst xs,.lst ys=>if xs.length+ys.length<=1000000 then some (xs++ys) else none | _,_=>none
theorem uL(ha:DB X a fa)(hb:DB X b fb):DF X (.BinOp a .Add b pos) (r8 fa fb):=by
 obtain⟨ta,a1,a2⟩:=ha;obtain⟨tb,b1,b2⟩:=hb;refine⟨_,js qC a1 b1,λHe G H σ ε ds Q gh E ef q=>?_⟩;obtain⟨x,e1,ef⟩:=aq ef;obtain⟨y,e2,ef⟩:=aq ef;refine a2 He G H σ ε x _ gh E e1 λv G1 H1 g1 d1=>?_;refine b2 He G1 H1 σ ε y _ g1.gh (E.grow g1) e2 λu G2 H2 g2 d2=>?_;split at ef
 ·split at ef
  ·rename_i hz
   cases ef;obtain⟨p,xs,rfl,h1,h2⟩:=(d1.grow g2).lst g2.gh;obtain⟨p',ys,rfl,h3,h4⟩:=d2.lst g2.gh;have g:=g1.trans g2;refine⟨p,p',xs,ys,rfl,rfl,h1,h3,?_,λl hl=>q l _ G2 _ (g.trans (.lay _ g2.gh hl)) (g.hh.free hl) (g2.gnone hl) upd_same (h2.append h4)⟩;rw[h2.length,h4.length];exact QO hz KE
  ·cases ef
 ·cases ef
theorem DenL.nil_iff{K:Qc}{G:Hp}{xs:List V}{ds:List D}(h:DenL K G xs ds):xs=[]↔ds=[]:=by cases h<;>simp
end
namespace CatI
noncomputable def C2:D->D->Option D:=λx y=>match x,y with | .tup (x0::xs),.tup (y0::ys)=>if xs.length+ys.length<=1000 then some (.tup (x0::xs++y0::ys)) else none | _,_=>none
end CatI
section
variable{X:Cx}{a b c:Expr}{fa fb fc:Ev->Option D}{pos:Pos}
theorem rN:OpD X (Zh .Add) CatI.C2:=⟨_,nV,λG H x y dx dy d Q gh hx hy e q=>by
 unfold CatI.C2 at e;split at e
 ·split at e
  ·rename_i hz
   cases e;obtain⟨p,xs,rfl,h0,h1,h2⟩:=hx.tup gh;obtain⟨p',ys,rfl,h3,h4,h5⟩:=hy.tup gh;have n1:xs≠[]:=λz=>by have:=h2.nil_iff.mp z;cases this
   have n2:ys≠[]:=λz=>by have:=h5.nil_iff.mp z;cases this
   refine⟨p,p',xs,ys,rfl,rfl,h1,h4,n1,?_,λz=>absurd z n2,λ_ l hl=>?_⟩
   ·rw[h2.length,h5.length]
    simp only[QM];exact QO (Nat.add_le_add (Qm _) (Qm _)) (le_line2 hz)
   ·have g:=Grow.new (.tup (xs++ys)) gh hl
    exact q _ _ _ g (.tup (SqT.of upd_same) ((h2.append h5).mono g.gg))
  ·cases e
 ·cases e⟩
where
 le_line2 {m n:Nat} (h:m+n<=1000):m+1+(n+1)<=Qk:=QO (by lia:m+1+(n+1)<=2000) KE
theorem pF{p:Pos}(ha:DB X a fa)(hm:X.mg "tuple" = none)(hg:Gl X "tuple":=by rfl)(hst:Qg [a] X.env=(false,eval a X.env)::Qg [] X.env:=by rfl)(hpl:(QP pos (Qg [] X.env)).any (·.1)=false:=by rfl):DE X (.Call (.Name "tuple" p) [a] [] pos) (aY (λd=>BN [d]) fa):=by
 obtain⟨ta,a1,a2⟩:=ha;refine⟨_,cD mC hg hm (by rfl) (aC a1 aR hst) KE KE hst hpl,λHe G H σ ε d Q gh E ef q=>?_⟩;obtain⟨x,e1,ef⟩:=aq ef;refine a2 He G H σ ε x _ gh E e1 λv G1 H1 g1 d1=>?_;dsimp only[BN] at ef;split at ef
 ·rename_i xs0 e0
  cases e0;cases ef;obtain⟨p,xs,rfl,h1,h2⟩:=d1.lst g1.gh;refine⟨p,xs,rfl,.inl ⟨h1,λl hl=>?_⟩⟩;have g:=Grow.new (.tup xs) g1.gh hl;exact q _ _ _ (g1.trans g) (.tup (SqT.of upd_same) (h2.mono g.gg))
 ·rename_i xs0 e0
  cases e0;cases ef;obtain⟨p,xs,rfl,h0,h1,h2⟩:=d1.tup g1.gh;exact⟨p,xs,rfl,.inr ⟨h1,q _ _ _ g1 (.tup h0 h2)⟩⟩
 ·cases ef
noncomputable abbrev Ch:=D->Ev->Option D
noncomputable def PCh(X:Cx)(ops:List CmpOp)(es:List Expr)(t:V->TE):Prop:=
 ∀(cp:Pos) (pins:List Vz) (s:Qd) (σ:L2.St) (H:Hp) (x:V) (v:Qa) (Q:VK),Inv X pins σ H s->bq x v->t x σ H Q->Qf KF X.A (compareChain cp v ops (evalEach es X.env)) (EP X pins σ Q) X.xe s
noncomputable def DCh(X:Cx)(ops:List CmpOp)(es:List Expr)(f:Ch):Prop:=∃t,PCh X ops es t/\∀(He G H:Hp) (σ:L2.St) (ε:Ev) (x:V) (dx d:D) (Q:VK),aT G H->EnvD X.K He G H σ ε->eK X.K G H x dx->f dx ε=some d->
 (∀v G' H',Grow G H G' H'->Den X.K G' v d->Q v H')->t x σ H Q
noncomputable def tL(f:D->D->Option D)(fb:Ev->Option D):Ch:=λx ε=>(fb ε).bind λy=>f x y
noncomputable def mq(f:D->D->Option D)(fb:Ev->Option D)(r:Ch):Ch:=λx ε=>(fb ε).bind λy=>(f x y).bind λz=>match z with | .bl k=>if k=true then r y ε else some (.bl false) | _=>none
theorem uD{op:CmpOp}{f:D->D->Option D}(ho:OpD X (QF op) f)(hb:DB X b fb)(he:evalEach [b] X.env=[eval b X.env]:=by rfl):DCh X [op] [b] (tL f fb):=by
 obtain⟨r,o1,o2⟩:=ho;obtain⟨tb,b1,b2⟩:=hb;refine⟨λx σ H Q=>tb σ H λy H1=>r x y H1 Q,λcp pins s σ H x v Q I rx h=>?_,λHe G H σ ε x dx d Q gh E hx ef q=>?_⟩
 ·rw[he]
  exact chain_last (thn (b1 pins s σ H _ I h) λu s1 ⟨y,H1,I1,r1,q1⟩=>o1 pins s1 σ H1 x y v u Q I1 rx r1 q1)
 ·obtain⟨y,e1,ef⟩:=aq ef
  refine b2 He G H σ ε y _ gh E e1 λv G1 H1 g1 d1=>?_;exact o2 G1 H1 x v dx y d Q g1.gh (hx.grow g1) d1 ef λw G2 H2 g2 d2=>q w G2 H2 (g1.trans g2) d2
theorem l7{op op':CmpOp}{ops:List CmpOp}{b':Expr}{bs:List Expr}{f:D->D->Option D}{r:Ch}(ho:OpD X (QF op) f)(hb:DB X b fb)(hr:DCh X (op'::ops) (b'::bs) r)
  (he:evalEach (b::b'::bs) X.env=eval b X.env::eval b' X.env::evalEach bs X.env:=by rfl) (he':evalEach (b'::bs) X.env=eval b' X.env::evalEach bs X.env:=by rfl):DCh X (op::op'::ops) (b::b'::bs) (mq f fb r):=by
 obtain⟨rr,o1,o2⟩:=ho;obtain⟨tb,b1,b2⟩:=hb;obtain⟨tr,r1,r2⟩:=hr;refine⟨λx σ H Q=>tb σ H λy H1=>rr x y H1 λz H2=>∃k,z=.bl k/\(if k=true then tr y σ H2 Q else Q (.bl false) H2),λcp pins s σ H x v Q I rx h=>?_,λHe G H σ ε x dx d Q gh E hx ef q=>?_⟩
 ·rw[he]
  refine chain_link (thn (b1 pins s σ H _ I h) λu s1 ⟨y,H1,I1,ry,q1⟩=>thn (o1 pins s1 σ H1 x y v u _ I1 rx ry q1) λd' s2 ⟨z,H2,I2,rz,k,e,q2⟩=>?_);subst e;cases rz;refine Q8 ?_;cases k with
  |false=>exact ite_ff ⟨.bl false,H2,I2,rfl,q2⟩
  |true=>
   have h5:=r1 cp pins s2 σ H2 y u Q I2 ry q2;rw[he'] at h5;exact ite_tt h5
 ·obtain⟨y,e1,ef⟩:=aq ef
  obtain⟨z,e2,ef⟩:=aq ef;refine b2 He G H σ ε y _ gh E e1 λv G1 H1 g1 d1=>?_;split at ef
  ·rename_i k
   refine o2 G1 H1 x v dx y (.bl k) _ g1.gh (hx.grow g1) d1 e2 λw G2 H2 g2 d2=>⟨k,d2.blV,?_⟩;cases k with
   |true=>
    rw[if_pos rfl] at ef ⊢;exact r2 He G2 H2 σ ε v y d Q g2.gh ((E.grow g1).grow g2) (d1.grow g2) ef λw G3 H3 g3 d3=>q w G3 H3 (g1.trans (g2.trans g3)) d3
   |false=>
    rw[if_neg Qp] at ef ⊢;cases ef;exact q _ _ _ (g1.trans g2) (.bl _)
  ·cases ef
noncomputable def Ad(fa:Ev->Option D)(r:Ch):Ev->Option D:=λε=>(fa ε).bind λx=>r x ε
theorem yy{op op':CmpOp}{ops:List CmpOp}{b':Expr}{bs:List Expr}{r:Ch}(ha:DB X a fa)(hr:DCh X (op::op'::ops) (b::b'::bs) r)(he:evalEach (b::b'::bs) X.env=eval b X.env::eval b' X.env::evalEach bs X.env:=by rfl)
  (hm:lastMarks (op::op'::ops) (b::b'::bs)=false:=by with_unfolding_all rfl):DE X (.Compare a (op::op'::ops) (b::b'::bs) pos) (Ad fa r):=by
 obtain⟨ta,a1,a2⟩:=ha;obtain⟨tr,r1,r2⟩:=hr;refine⟨λσ H Q=>ta σ H λx H1=>tr x σ H1 Q,λpins s σ H Q I h=>?_,λHe G H σ ε d Q gh E ef q=>?_⟩
 ·refine Compare_chain (thn (a1 pins s σ H _ I h) λv s1 ⟨x,H1,I1,rx,q1⟩=>?_) hm
  have h5:=r1 pos pins s1 σ H1 x v Q I1 rx q1;rw[he] at h5;exact h5
 ·obtain⟨x,e1,ef⟩:=aq ef
  refine a2 He G H σ ε x _ gh E e1 λv G1 H1 g1 d1=>?_;exact r2 He G1 H1 σ ε v x d Q g1.gh (E.grow g1) d1 ef λw G2 H2 g2 d2=>q w G2 H2 (g1.trans g2) d2
noncomputable def Kh(i j:Nat)(g:Ev->Option (List D)):Ev->Option Fl:=λε=>match g ε with | some [x,y]=>some (.nx ((ε.set i (.dat x)).set j (.dat y))) | _=>none
end
section
variable{prog:Qr}{w:Qx}{Ar:QB}{Ex:Qa->Qd->Prop}
theorem AZ{I L:Addr}{xs:Array Qa}(apart:L≠I):∀(k i:Nat) (t:Qd) (Q:List Qa->Qd->Prop) (_:t.heap.IsListIter I L i) (_:t.heap.IsList L xs) (_:i+k<=xs.size)
  (_:∀g,g.IsListIter I L (i+k)->ZP I t.heap g->Q ((xs.toList.drop i).take k) { t with heap:=g }),Qf (Qj prog w) Ar (draw (.ref I) k) Q Ex t:=by
 intro k
 induction k with
 |zero=>intro i t Q itr ls room want;exact Qh (want t.heap itr (Heap.SameBut.refl ..))
 |succ k ih=>
  intro i t Q itr ls room want;have there:i<xs.size:=QA (Nat.lt_add_of_pos_right (Nat.succ_pos k)) room;refine Qb (m:=pyNext (.ref I)) (wpAny_pyNext_list_item itr ls (x:=xs[i]) (by simp[there]) λg1 itr1 same1=>?_);refine Qb (QX (ih (i+1) _ _ itr1 (ls.extBut same1.extBut apart) KM λg2 itr2 same2=>Qh ?_))
  have e:(xs.toList.drop i).take (k+1)=xs[i]::(xs.toList.drop (i+1)).take k:=by
   rw[List.drop_eq_getElem_cons (by simpa using there),List.take_succ_cons];simp
  have c:i+(k+1)=i+1+k:=by lia
  have fin:=want g2 (c▸itr2) (same1.trans same2);rw[e] at fin;exact fin
theorem pJ{t:Qd}{L:Addr}{xs:Array Qa}{Q:List Qa->Qd->Prop}(hh:Ar.handled=none)(ls:t.heap.IsList L xs)
  (want:∀g,Heap.ExtBut t.heap.objs.size t.heap g->Q xs.toList { t with heap:=g }):Qf (Qj prog w) Ar (unpackItems (.ref L) xs.size none) Q Ex t:=by
 have apart:L≠t.heap.objs.size:=let⟨_,there,_⟩:=ls;QC (Qo there);unfold unpackItems notIterableAtAll;refine Qb (Qb (wpAny_specialOf ls.typeIs slot_list_iter.lookup (Qh ?_)));rw[if_neg Qp];refine Qb (QX (wpAny_pyIter_list ls ?_));refine Qb (QX (AZ apart xs.size 0 _ _ ⟨_,Qq _ rfl,rfl,rfl⟩ (ls.push _) (Nat.le_of_eq (Nat.zero_add _)) λg1 itr1 same1=>?_));rw[List.drop_zero,Kl (Nat.le_of_eq (by simp)),if_neg (by simp)];refine Qb (QX (wpAny_pyNext_list_end hh itr1 ((ls.push _).extBut same1.extBut apart) (by simp) λg2 ext2=>?_));exact(if_neg (show ¬ (none:Option Qa).isSome=true by simp)).symm▸Qh (want g2 λb o away e=>ext2 b o away (same1.extBut b o away (Qe _ e)))
theorem oz{t:Qd}{ev:Env}{es:List Expr}{x1}{pos:Pos}{L:Addr}{xs:Array Qa}{Q:Unit->Qd->Prop}(hh:Ar.handled=none)(ls:t.heap.IsList L xs)
  (many:(Ze es ev).length=xs.size) (nostar:(Ze es ev).findIdx? (·.1)=none)
  (rest:∀g,Heap.ExtBut t.heap.objs.size t.heap g->Qf (Qj prog w) Ar (assignInOrder ((Ze es ev).map (·.2)) xs.toList) Q Ex { t with heap:=g }):Qf (Qj prog w) Ar (assign (.Tuple es x1 pos) ev (.ref L)) Q Ex t:=by
 rw[assign_Tuple];refine Qb (K3 ?_);unfold unpack;rw[many,nostar];exact Qb (QX (pJ hh ls rest))
end
section
variable{X:Cx}{pos:Pos}
theorem Dt{es:List Expr}{k:Nat}{t:TGs}{n:Nat}(hc:X.calm=true)(h:PGs X es t)
  (hn:(Ze es X.env).length=n:=by rfl) (hst:(Ze es X.env).findIdx? (·.1)=none:=by rfl):PG X (.Tuple es k pos) (λv σ H Q=>∃a xs,v=.ref a/\SqL X.K H a xs/\xs.length=n/\t xs σ H Q):=by
 intro pins s σ H v u Q I r hw;obtain⟨a,xs,e1,hq,hl,hw⟩:=hw;subst e1;cases r;obtain⟨its,rv,ht,hz⟩:=I.list hq;refine oz (I.ok.hd hc) ht.isList (by simp[hn,<-hl,rv.length]) hst λh' hx=>?_;have I1:Inv X pins σ H { s with heap:=h' }:=I.kept (t':=s.toks) λb o e=>hx b o (QC (Qo e)) e;exact h pins _ σ H xs _ Q I1 (by simpa using rv) hw
noncomputable def ja(n:Nat)(g:List D->Ev->Option Ev):D->Ev->Option Ev:=λd ε=>match d with | .tup ds=>if ds.length=n then g ds ε else none | .lst ds=>if ds.length=n then g ds ε else none | _=>none
theorem IS{tg:Expr}{t t':TG}(h:PG X tg t)(h':PG X tg t'):PG X tg (λv σ H Q=>t v σ H Q\/t' v σ H Q):=by
 intro pins s σ H v u Q I r hw;rcases hw with hw | hw
 ·exact h pins s σ H v u Q I r hw
 ·exact h' pins s σ H v u Q I r hw
theorem kZ{es:List Expr}{k:Nat}{g:List D->Ev->Option Ev}{n:Nat}(hc:X.calm=true)(h:DGs X es g)(hn:(Ze es X.env).length=n:=by rfl)(hst:(Ze es X.env).findIdx? (·.1)=none:=by rfl):DG X (.Tuple es k pos) (ja n g):=by
 obtain⟨t,a1,a2⟩:=h;refine⟨_,IS (A7 hc a1 hn hst) (Dt hc a1 hn hst),λHe G H σ ε ε' v d Q gh E hd e q=>?_⟩;unfold ja at e;split at e
 ·split at e
  ·rename_i hl
   obtain⟨p,xs,rfl,h1,h2⟩:=hd.tupV;exact .inl ⟨p,xs,rfl,aM gh h1,by rw[h2.length];exact hl,a2 He G H σ ε ε' _ _ _ gh E h2 e q⟩
  ·cases e
 ·split at e
  ·rename_i hl
   obtain⟨p,xs,rfl,h1,h2⟩:=hd.lstV;exact .inr ⟨p,xs,rfl,gh.seq h1,by rw[h2.length];exact hl,a2 He G H σ ε ε' _ _ _ gh E h2 e q⟩
  ·cases e
 ·cases e
end
noncomputable def AtL(X:Cx):List Str->List Nat->Prop
 |[],[]=>True
 |x::fr,j::ix=>(X.N[j]?=some x/\X.env.scope.names.lookup x=some .cell)/\AtL X fr ix
 |_,_=>False
theorem AtL.len{X:Cx}:∀{fr:List Str} {ix:List Nat},AtL X fr ix->ix.length=fr.length
 |[],[],_=>rfl
 |_::_,_::_,h=>congrArg (· + 1) (AtL.len h.2)
 |[],_::_,h=>h.elim
 |_::_,[],h=>h.elim
theorem AtL.get{X:Cx}:∀{fr:List Str} {ix:List Nat} (k:Nat) (x:Str),AtL X fr ix->fr[k]?=some x->∃j,ix[k]?=some j/\X.N[j]?=some x/\X.env.scope.names.lookup x=some .cell
 |[],_,k,x,_,e=>by simp at e
 |_::_,[],_,_,h,_=>h.elim
 |y::fr,j::ix,0,x,h,e=>by simp at e;subst e;exact⟨j,rfl,h.1.1,h.1.2⟩
 |y::fr,j::ix,k+1,x,h,e=>by
  obtain⟨j',h1,h2⟩:=AtL.get k x h.2 (by simpa using e);exact⟨j',by simpa using h1,h2⟩
noncomputable def CN(X:Cx):List (Str×Addr)->Prop
 |[]=>True
 |p::cl=>X.env.cells.lookup p.1=some p.2/\CN X cl
theorem CN.mem{X:Cx}:∀{cl:List (Str×Addr)},CN X cl->∀p∈cl,X.env.cells.lookup p.1=some p.2
 |[],_,_,h=>by cases h
 |q::cl,h,p,hp=>by
  rcases Ql.mp hp with z | z
  ·rw[z];exact h.1
  ·exact CN.mem h.2 p z
theorem kF{cl:List (Str×Addr)}{x:Str}(h:(cl.map (·.1)).contains x=true):∃c,cl.lookup x=some c:=by
 induction cl with
 |nil=>simp at h
 |cons p cl ih=>
  rw[Q3,QS] at h;obtain⟨y,c0⟩:=p;cases e:(x==y) with
  |true=>exact⟨c0,by unfold Q4;rw[e]⟩
  |false=>
   have h':(x==y || (cl.map (·.1)).contains x)=true:=h;rw[e,Bool.false_or] at h';obtain⟨c,hc⟩:=ih h';exact⟨c,by unfold Q4;rw[e];exact hc⟩
theorem eY{X:Cx}{sc:Scope}{cl:List (Str×Addr)}{tn fr:List Str}{ix:List Nat}(clos:closureFor sc X.env=pure cl)(hat:AtL X fr ix)(sub:CN X cl)
  (kind:sc.kind=.function) (nc:(sc.names.all λy=>!(y.2 == .cell))=true)
  (nm:(sc.names.all λy=>!(y.2 == .local) || (sc.names.lookup y.1==some .local))=true)
  (hs:((relabel sc X.env).names.all λy=>!(y.2 == .cell || y.2 == .free) || (cl.map (·.1)).contains y.1)=true)
  (fc:(fr.all λx=>(relabel sc X.env).names.lookup x==some .cell)=true):CompSc X sc cl tn fr ix where
 kind:=kind
 nocell:=λy hy e=>by
  have:=Vg.mp nc y hy;rw[e] at this;exact absurd this KE
 names:=λy hy e=>by
  have:=Vg.mp nm y hy;rw[e] at this;exact eq_of_beq this
 clos:=clos
 len:=hat.len
 at_:=λk x e=>hat.get k x e
 sub:=λx c e=>sub.mem _ (Zx e)
 has:=λx h=>by
  rcases h with h | h
  ·have:=Vg.mp hs _ (Zx h)
   exact kF this
  ·have:=Vg.mp hs _ (Zx h)
   exact kF this
 frc:=λx hx=>eq_of_beq (Vg.mp fc x hx)
theorem rA{fi:Ev->Option (List D)}{n:Nat}{ix:List Nat}{g:D->Ev->Option Ev}{ft:Ev->Option Bool}{fe:Ev->Option D}{ε:Ev}{ds:List D}(h:fi ε=some ds)(hl:ds.length<1000000):eLC fi n ix g ft fe ε=lcD g ft fe ds (prE n ix ε):=by
 unfold eLC;rw[h];show(if ds.length<1000000 then _ else none)=_;rw[if_pos hl]
noncomputable def ud(f:D->D->Option Bool):List D->List D->Option Bool
 |x::xs,y::ys=>(f x y).bind λa=>(ud f xs ys).bind λb=>some (a&&b)
 |_,_=>some true
noncomputable def jD:Nat->D->D->Option Bool
 |0,x,y=>eqS x y
 |n+1,x,y=>match x,y with
  |.tup xs,.tup ys=>(ud (jD n) xs ys).map λb=>b&&xs.length==ys.length
  |.lst xs,.lst ys=>if xs.length=ys.length then ud (jD n) xs ys else some false
  |x,y=>eqS x y
noncomputable def iR(f:D->D->Option Bool)(xs ys:List D)(j:Nat):Bool:=match xs[j]?,ys[j]? with
 |some x,some y=>(f x y).getD false
 |_,_=>false
theorem fW{f:D->D->Option Bool}:∀{xs ys:List D} {b:Bool},ud f xs ys=some b->b=(QU (min xs.length ys.length)).all (iR f xs ys)/\∀j x y,xs[j]?=some x->ys[j]?=some y->f x y=some (iR f xs ys j)
 |[],ys,b,e=>by cases e;exact⟨by simp,λj x y h _=>by simp at h⟩
 |x::xs,[],b,e=>by cases e;exact⟨by simp,λj x y _ h=>by simp at h⟩
 |x::xs,y::ys,b,e=>by
  obtain⟨a,e1,e⟩:=aq e;obtain⟨c,e2,e⟩:=aq e;cases e;obtain⟨h1,h2⟩:=fW e2;have sh:∀j,iR f (x::xs) (y::ys) (j+1)=iR f xs ys j:=λj=>by unfold iR;simp
  have s0:iR f (x::xs) (y::ys) 0=a:=by unfold iR;simp[e1]
  refine⟨?_,λj u v hu hv=>?_⟩
  ·have hm:min (x::xs).length (y::ys).length=min xs.length ys.length+1:=by simp only[QM];lia
   rw[hm,List.range_succ_eq_map,Vi,s0,List.all_map,h1];congr 1
  ·cases j with
   |zero=>simp at hu hv;subst hu hv;rw[s0,e1]
   |succ j=>rw[sh];exact h2 j u v (by simpa using hu) (by simpa using hv)
theorem kP{d:D}{b:Bool}(h:eqS d d=some b):b=true:=by
 cases d<;>simp[eqS] at h<;>first | exact h | exact h.symm
theorem pq{f:D->D->Option Bool}(hf:∀d b,f d d=some b->b=true):∀{ds:List D} {b:Bool},ud f ds ds=some b->b=true
 |[],b,e=>by cases e;rfl
 |d::ds,b,e=>by
  obtain⟨a,e1,e⟩:=aq e;obtain⟨c,e2,e⟩:=aq e;cases e;rw[hf d a e1,pq hf e2];rfl
theorem lX:∀(n:Nat) (d:D) (b:Bool),jD n d d=some b->b=true
 |0,d,b,e=>kP e
 |n+1,.tup xs,b,e=>by
  obtain⟨c,e1,rfl⟩:=bh e;rw[pq (lX n) e1];simp
 |n+1,.lst xs,b,e=>by
  have e':(if xs.length=xs.length then ud (jD n) xs xs else some false)=some b:=e;rw[if_pos rfl] at e';exact pq (lX n) e'
 |n+1,.non,b,e=>kP (d:=.non) e
 |n+1,.bl k,b,e=>kP (d:=.bl k) e
 |n+1,.int k,b,e=>kP (d:=.int k) e
 |n+1,.str k,b,e=>kP (d:=.str k) e
section
variable{X:Cx}{pins:List Vz}{σ:L2.St}{G H:Hp}{s:Qd}
theorem vv(I:Inv X pins σ H s){a:Addr}{xs ys:List V}(h1:SqT X.K H a xs)(h2:SqL X.K H a ys):False:=by
 obtain⟨its,_,⟨o,e1,c1,_⟩,_⟩:=I.tuple h1;obtain⟨its2,_,⟨o2,n,e2,c2,_⟩,_⟩:=I.list h2;rw[e1] at e2;cases e2;rw[c1] at c2;exact absurd (Value.type.inj c2) KE
theorem BU{x y:V}{u:Qa}(hx:L2.bq x u)(hy:L2.bq y u):x=y:=by
 cases x<;>cases y<;>simp only[L2.bq] at hx hy<;>first | rfl | (subst hx;cases hy;done) | (subst hx;cases hy;rfl) | (obtain⟨t,rfl⟩:=hx;obtain⟨t',e⟩:=hy;cases e;first | rfl | done) | (obtain⟨t,rfl⟩:=hx;cases hy) | (subst hx;obtain⟨t',e⟩:=hy;cases e)
theorem qH(I:Inv X pins σ H s)(gh:aT G H){a:Addr}{us:va}{ep:Nat}(h:G a=some (.ext (DAt a us ep))):DAt a us ep s.heap:=(show cW X.prog X.w H s.heap a (.ext (DAt a us ep)) from I.hok a _ (gh _ _ h)).1
theorem tq(I:Inv X pins σ H s)(gh:aT G H){a:Addr}{xs:List V}{us:va}{ep:Nat}(h1:SqT X.K H a xs)(h:G a=some (.ext (DAt a us ep))):False:=by
 obtain⟨its,_,⟨o,e1,c1,_⟩,_⟩:=I.tuple h1;obtain⟨_,_,o2,raw,e2,⟨c2,_⟩,_⟩:=qH I gh h;rw[e1] at e2;cases e2;rw[c1] at c2;exact absurd (Value.type.inj c2) KE
theorem sT(I:Inv X pins σ H s)(gh:aT G H){a:Addr}{xs:List V}{us:va}{ep:Nat}(h1:SqL X.K H a xs)(h:G a=some (.ext (DAt a us ep))):False:=by
 obtain⟨its,_,⟨o,n,e1,c1,_⟩,_⟩:=I.list h1;obtain⟨_,_,o2,raw,e2,⟨c2,_⟩,_⟩:=qH I gh h;rw[e1] at e2;cases e2;rw[c1] at c2;exact absurd (Value.type.inj c2) KE
theorem pX:∀{k k':List Int},k.map V.int=k'.map V.int->k=k'
 |[],[],_=>rfl
 |[],_::_,e=>by cases e
 |_::_,[],e=>by cases e
 |a::k,b::k',e=>by
  rw[Q3,Q3] at e;injection e with e1 e2
  cases e1;rw[pX e2]
theorem Ao(I:Inv X pins σ H s)(gh:aT G H):∀{raw:List DictEntry} {us vs:va} {es fs:List (List Int×D)},DenM X.K G us es->DenM X.K G vs fs->Paired EntOk us raw->Paired EntOk vs raw->us=vs:=by
 intro raw
 induction raw with
 |nil=>intro us vs es fs _ _ p p';cases p;cases p';rfl
 |cons r rs ih=>
  intro us vs es fs m m' p p';cases p with
  |cons q qs=>
   cases p' with
   |cons q' qs'=>
    cases m with
    |cons hk hv hs=>
     cases m' with
     |cons hk' hv' hs'=>
      have e0:=q.key.symm.trans q'.key;injection e0 with e0
      simp only at e0;subst e0;have ek:=pX (I.tuple_inj (aM gh hk) (aM gh hk'));subst ek;have ev:=BU q.val q'.val;simp only at ev;subst ev;rw[ih hs hs' qs qs']
theorem yT(I:Inv X pins σ H s)(gh:aT G H){a:Addr}{kvs:List (L2.Key×V)}(h:G a=some (.dK kvs)):∃o,s.heap.get? a=some o/\o.cls=.type "dict":=by
 obtain⟨_,_,_,_,o,_,_,e,c,_⟩:=(show cW X.prog X.w H s.heap a (.dK kvs) from I.hok a _ (gh _ _ h));exact⟨o,e,c.1⟩
theorem uJ(I:Inv X pins σ H s)(gh:aT G H){a C dx:Addr}{vs:List (Str×V)}(h:G a=some (.ins C dx vs)):s.heap.get? a=some (Zz C dx):=
 (show cW X.prog X.w H s.heap a (.ins C dx vs) from I.hok a _ (gh _ _ h)).2.2.2.1
theorem uu(I:Inv X pins σ H s){a:Addr}{xs:List V}(h1:SqT X.K H a xs):∃o,s.heap.get? a=some o/\o.cls=.type "tuple":=by
 obtain⟨its,_,⟨o,e1,c1,_⟩,_⟩:=I.tuple h1;exact⟨o,e1,c1⟩
theorem tU(I:Inv X pins σ H s){a:Addr}{xs:List V}(h1:SqL X.K H a xs):∃o,s.heap.get? a=some o/\o.cls=.type "list":=by
 obtain⟨its,_,⟨o,n,e1,c1,_⟩,_⟩:=I.list h1;exact⟨o,e1,c1⟩
theorem uw{h:Heap}{a:Addr}{S T:String}(h1:∃o,h.get? a=some o/\o.cls=.type S)(h2:∃o,h.get? a=some o/\o.cls=.type T)(n:S≠T):False:=by
 obtain⟨o,e,c⟩:=h1;obtain⟨o',e',c'⟩:=h2;rw[e] at e';cases e';rw[c] at c';exact n (Value.type.inj c')
theorem qJ{h:Heap}{a C dx:Addr}{S:String}(h1:∃o,h.get? a=some o/\o.cls=.type S)(h2:h.get? a=some (Zz C dx)):False:=by
 obtain⟨o,e,c⟩:=h1;rw[h2] at e;cases e;cases c
theorem zP:∀{xs ys:List (Str×V)},txK xs=txK ys->xs=ys
 |[],[],_=>rfl
 |[],_::_,e=>by cases e
 |_::_,[],e=>by cases e
 |(a,x)::xs,(b,y)::ys,e=>by
  injection e with e1 e2
  cases e1;rw[zP e2]
theorem DenL.uniq(I:Inv X pins σ H s)(gh:aT G H){vs:List V}{ds es:List D}(h:DenL X.K G vs ds):DenL X.K G vs es->ds=es:=by
 refine DenL.rec (motive_1:=λv d _=>∀e,Den X.K G v e->d=e) (motive_2:=λu d _=>∀e,DenM X.K G u e->d=e) (motive_3:=λv d _=>∀e,DenL X.K G v e->d=e) (motive_4:=λv d _=>∀e,DenF X.K G v e->d=e) ?_ ?_ ?_ ?_ ?_ ?_ ?_ ?_ ?_ ?_ ?_ ?_ ?_ ?_ ?_ h es
 ·intro e w;cases w;rfl
 ·intro b e w;cases w;rfl
 ·intro b e w;cases w;rfl
 ·intro b e w;cases w;rfl
 ·intro a xs ds h _ y e w
  cases w with
  |tup h' hs'=>
   have:=I.tuple_inj (aM gh h) (aM gh h');subst this;rw[y _ hs']
  |lst h' _=>exact(vv I (aM gh h) (gh.seq h'.sq)).elim
  |dic h' _ _=>exact(tq I gh (aM gh h) h').elim
  |rcd h' _=>exact(uw (uu I (aM gh h)) (yT I gh h') KE).elim
  |ins h' _=>exact(qJ (uu I (aM gh h)) (uJ I gh h')).elim
 ·intro a xs ds h _ y e w
  cases w with
  |lst h' hs'=>
   have:=I.list_inj (gh.seq h.sq) (gh.seq h'.sq);subst this;rw[y _ hs']
  |tup h' _=>exact(vv I (aM gh h') (gh.seq h.sq)).elim
  |dic h' _ _=>exact(sT I gh (gh.seq h.sq) h').elim
  |rcd h' _=>exact(uw (tU I (gh.seq h.sq)) (yT I gh h') KE).elim
  |ins h' _=>exact(qJ (tU I (gh.seq h.sq)) (uJ I gh h')).elim
 ·intro a us ep es h nd hs y e w
  cases w with
  |tup h' _=>exact(tq I gh (aM gh h') h).elim
  |lst h' _=>exact(sT I gh (gh.seq h'.sq) h).elim
  |dic h' nd' hs'=>
   obtain⟨_,_,o,raw,e,_,e1,p⟩:=qH I gh h;obtain⟨_,_,o',raw',e',_,e1',p'⟩:=qH I gh h';rw[e] at e';cases e';rw[e1] at e1';cases e1';have z:=Ao I gh hs hs' p p';subst z;rw[y _ hs']
  |rcd h' _=>rw[h] at h';cases h'
  |ins h' _=>rw[h] at h';cases h'
 ·intro a kvs fs h hs y e w
  cases w with
  |tup h' _=>exact(uw (uu I (aM gh h')) (yT I gh h) KE).elim
  |lst h' _=>exact(uw (tU I (gh.seq h'.sq)) (yT I gh h) KE).elim
  |dic h' _ _=>rw[h] at h';cases h'
  |rcd h' hs'=>
   rw[h] at h';injection h' with h'
   injection h' with h'
   cases zP h';rw[y _ hs']
  |ins h' _=>rw[h] at h';cases h'
 ·intro a C dx kvs fs h hs y e w
  cases w with
  |tup h' _=>exact(qJ (uu I (aM gh h')) (uJ I gh h)).elim
  |lst h' _=>exact(qJ (tU I (gh.seq h'.sq)) (uJ I gh h)).elim
  |dic h' _ _=>rw[h] at h';cases h'
  |rcd h' _=>rw[h] at h';cases h'
  |ins h' hs'=>
   rw[h] at h';cases h';rw[y _ hs']
 ·intro e w;cases w;rfl
 ·intro k b v d us es _ _ _ y z e w
  cases w with
  |cons _ h' hs'=>rw[y _ h',z _ hs']
 ·intro e w;cases w;rfl
 ·intro v d vs ds _ _ y z e w
  cases w with
  |cons h' hs'=>rw[y _ h',z _ hs']
 ·intro e w;cases w;rfl
 ·intro k v d vs fs _ _ y z e w
  cases w with
  |cons h' hs'=>rw[y _ h',z _ hs']
theorem vG{K:Qc}{G:Hp}{x y:V}{dx dy:D}{b:Bool}(hx:Den K G x dx)(hy:Den K G y dy)(e:eqS dx dy=some b):kE x=true/\kE y=true/\eqV x y=b:=by
 cases hx<;>cases hy<;>simp[eqS] at e<;>subst e<;>refine⟨rfl,rfl,?_⟩<;>first | rfl | (simp[eqV];done) | (rw[ZX];simp[eqV])
theorem iP{x y:V}{xs ys:List V}{ds es:List D}{its its2:List Qa}{n:Nat}{A:QB}(hs:DenL X.K G xs ds)(hs':DenL X.K G ys es)(r:bu xs its)(r2:bu ys its2)
  (step:∀{dx dy:D} {x y:V} {v u:Qa} {b:Bool},Den X.K G x dx->Den X.K G y dy->bq x v->bq y u->jD n dx dy=some b->SeqAt.EqAt A s v u b)
  (pr:∀j x y,ds[j]?=some x->es[j]?=some y->jD n x y=some (iR (jD n) ds es j)) :
  ∀j (h1:j<its.toArray.size) (h2:j<its2.toArray.size),SeqAt.EqAt A s its.toArray[j] its2.toArray[j] (iR (jD n) ds es j):=by
 intro j h1 h2;have l1:=r.length;have l2:=r2.length;have h1':j<its.length:=by simpa using h1
 have h2':j<its2.length:=by simpa using h2
 have hx:xs[j]?=some xs[j]:=by simp[show j<xs.length by lia]
 have hy:ys[j]?=some ys[j]:=by simp[show j<ys.length by lia]
 obtain⟨dx,e1,d1⟩:=hs.getV hx;obtain⟨dy,e2,d2⟩:=hs'.getV hy;obtain⟨v,e3,r3⟩:=r.get hx;obtain⟨u,e4,r4⟩:=r2.get hy
 have ev:its.toArray[j]=v:=by
  have:=(QH.mp e3).2;simpa using this
 have eu:its2.toArray[j]=u:=by
  have:=(QH.mp e4).2;simpa using this
 rw[ev,eu];exact step d1 d2 r3 r4 (pr j dx dy e1 e2)
theorem xb(I:Inv X pins σ H s)(gh:aT G H):∀(n:Nat) (A:QB),A.units+n<cLine->∀{dx dy:D} {x y:V} {v u:Qa} {b:Bool},Den X.K G x dx->Den X.K G y dy->bq x v->bq y u->jD n dx dy=some b->SeqAt.EqAt A s v u b:=by
 intro n
 induction n with
 |zero=>
  intro A hu dx dy x y v u b hx hy rx ry e;obtain⟨f1,f2,e1⟩:=vG hx hy e;rw[<-e1];exact yh rx ry f1 f2
 |succ n ih=>
  intro A hu dx dy x y v u b hx hy rx ry e;have hu1:A.in1.units+n<cLine:=by show A.units+1+n<cLine;lia
  have step:=λ{dx dy:D} {x y:V} {v u:Qa} {b:Bool}=>ih A.in1 hu1 (dx:=dx) (dy:=dy) (x:=x) (y:=y) (v:=v) (u:=u) (b:=b)
  have flat:∀{b},eqS dx dy=some b->SeqAt.EqAt A s v u b:=λ{b} e=>by
   obtain⟨f1,f2,e1⟩:=vG hx hy e;rw[<-e1];exact yh rx ry f1 f2
  cases hx with
  |@tup a xs ds h hs=>
   cases hy with
   |@tup a' ys es h' hs'=>
    cases(show v=Qn a from rx);cases(show u=Qn a' from ry)
    by_cases z:a=a'
    ·subst z
     have:=I.tuple_inj (aM gh h) (aM gh h');subst this;have:=DenL.uniq I gh hs hs';subst this;rw[lX _ _ _ e];exact SeqAt.EqAt.same _
    ·obtain⟨c,e1,rfl⟩:=bh e
     obtain⟨q1,q2⟩:=fW e1;obtain⟨its,r,p1,_⟩:=I.tuple (aM gh h);obtain⟨its2,r2,p2,_⟩:=I.tuple (aM gh h');have l1:its.toArray.size=ds.length:=by simp[<-r.length,hs.length]
     have l2:its2.toArray.size=es.length:=by simp[<-r2.length,hs'.length]
     refine SeqAt.EqAt.of_refs z ?_;have:=SeqAt.RcAt.tuples (e:=iR (jD n) ds es) p1 p2 KM (iP (x:=.non) (y:=.non) hs hs' r r2 step q2);rw[l1,l2,<-q1] at this;exact this
   |lst h' hs'=>exact flat e
   |dic _ _ _=>exact flat e
   |rcd _ _=>exact flat e
   |ins _ _=>exact flat e
   |non=>exact flat e
   |bl _=>exact flat e
   |int _=>exact flat e
   |str _=>exact flat e
  |@lst a xs ds h hs=>
   cases hy with
   |@lst a' ys es h' hs'=>
    cases(show v=Qn a from rx);cases(show u=Qn a' from ry)
    by_cases z:a=a'
    ·subst z
     have:=I.list_inj (gh.seq h.sq) (gh.seq h'.sq);subst this;have:=DenL.uniq I gh hs hs';subst this;rw[lX _ _ _ e];exact SeqAt.EqAt.same _
    ·have e':(if ds.length=es.length then ud (jD n) ds es else some false)=some b:=e
     obtain⟨its,r,p1,_⟩:=I.list (gh.seq h.sq);obtain⟨its2,r2,p2,_⟩:=I.list (gh.seq h'.sq);have l1:its.toArray.size=ds.length:=by simp[<-r.length,hs.length]
     have l2:its2.toArray.size=es.length:=by simp[<-r2.length,hs'.length]
     refine SeqAt.EqAt.of_refs z ?_
     by_cases hl:ds.length=es.length
     ·rw[if_pos hl] at e'
      obtain⟨q1,q2⟩:=fW e';have:=SeqAt.RcAt.lists (e:=iR (jD n) ds es) p1.isList p2.isList (by rw[l1,l2,hl]) KM (iP (x:=.non) (y:=.non) hs hs' r r2 step q2);rw[l1] at this;rw[<-hl,Nat.min_self] at q1;rw[q1];exact this
     ·rw[if_neg hl] at e'
      cases e';exact SeqAt.RcAt.lists_lengths p1.isList p2.isList (by rw[l1,l2];simpa using hl) KM
   |tup h' hs'=>exact flat e
   |dic _ _ _=>exact flat e
   |rcd _ _=>exact flat e
   |ins _ _=>exact flat e
   |non=>exact flat e
   |bl _=>exact flat e
   |int _=>exact flat e
   |str _=>exact flat e
  |dic _ _ _=>cases hy<;>exact flat e
  |rcd _ _=>cases hy<;>exact flat e
  |ins _ _=>cases hy<;>exact flat e
  |non=>cases hy<;>exact flat e
  |bl _=>cases hy<;>exact flat e
  |int _=>cases hy<;>exact flat e
  |str _=>cases hy<;>exact flat e
end
section
variable{X:Cx}
noncomputable def Io(K:Qc)(neg:Bool):R2:=λx y H Q=>∃G dx dy b,aT G H/\eK K G H x dx/\eK K G H y dy/\jD 9 dx dy=some b/\Q (.bl (if neg then !b else b)) H
theorem HE(hu:X.A.units+64<cLine):OpR X (QF .Eq) (Io X.K false):=by
 intro pins s σ H x y v u Q I rx ry h;obtain⟨G,dx,dy,b,gh,hx,hy,e,q⟩:=h;have step:=λ{dx dy:D} {x y:V} {v u:Qa} {b:Bool}=>xb I gh 8 X.A.in1 (by show X.A.units+1+8<cLine;lia) (dx:=dx) (dy:=dy) (x:=x) (y:=y) (v:=v) (u:=u) (b:=b);have fin:∀{k:Bool},k=b->EP X pins σ Q (.bool k) s:=λ{k} z=>⟨.bl k,H,I,rfl,by rw[z];exact q⟩
 have scl:eqS dx dy=some b->Qf KF X.A (QF .Eq v u) (EP X pins σ Q) X.xe s:=λe=>by
  obtain⟨h1,h2⟩:=vJ hx hy e;exact mM pins s σ H x y v u Q I rx ry ⟨h1,by rw[h2];exact q⟩
 cases dx with
 |tup ds=>
  cases dy with
  |tup es=>
   obtain⟨a,xs,rfl,_,h1,h2⟩:=hx.tup gh;obtain⟨a',ys,rfl,_,h3,h4⟩:=hy.tup gh;cases rx;cases ry;obtain⟨c,e1,e2⟩:=bh e;obtain⟨q1,q2⟩:=fW e1;obtain⟨its,r,p1,_⟩:=I.tuple h1;obtain⟨its2,r2,p2,_⟩:=I.tuple h3;have l1:its.toArray.size=ds.length:=by simp[<-r.length,h2.length]
   have l2:its2.toArray.size=es.length:=by simp[<-r2.length,h4.length]
   refine SeqAt.RcAt.tuples (e:=iR (jD 8) ds es) p1 p2 KM (iP (x:=.non) (y:=.non) h2 h4 r r2 step q2) X.prog X.w X.xe _ (fin ?_);rw[l1,l2,<-q1];exact e2
  |_=>exact scl e
 |lst ds=>
  cases dy with
  |lst es=>
   obtain⟨a,xs,rfl,h1,h2⟩:=hx.lst gh;obtain⟨a',ys,rfl,h3,h4⟩:=hy.lst gh;cases rx;cases ry;have e':(if ds.length=es.length then ud (jD 8) ds es else some false)=some b:=e;obtain⟨its,r,p1,_⟩:=I.list h1;obtain⟨its2,r2,p2,_⟩:=I.list h3;have l1:its.toArray.size=ds.length:=by simp[<-r.length,h2.length]
   have l2:its2.toArray.size=es.length:=by simp[<-r2.length,h4.length]
   by_cases hl:ds.length=es.length
   ·rw[if_pos hl] at e'
    obtain⟨q1,q2⟩:=fW e';refine SeqAt.RcAt.lists (e:=iR (jD 8) ds es) p1.isList p2.isList (by rw[l1,l2,hl]) KM (iP (x:=.non) (y:=.non) h2 h4 r r2 step q2) X.prog X.w X.xe _ (fin ?_);rw[l1];rw[<-hl,Nat.min_self] at q1;exact q1.symm
   ·rw[if_neg hl] at e'
    cases e';exact SeqAt.RcAt.lists_lengths p1.isList p2.isList (by rw[l1,l2];simpa using hl) KM X.prog X.w X.xe _ (fin rfl)
  |_=>exact scl e
 |_=>cases dy<;>exact scl e
theorem G_(hu:X.A.units+64<cLine):OpR X (QF .NotEq) (Io X.K true):=by
 intro pins s σ H x y v u Q I rx ry h;obtain⟨G,dx,dy,b,gh,hx,hy,e,q⟩:=h;have step:=λ{dx dy:D} {x y:V} {v u:Qa} {b:Bool}=>xb I gh 8 X.A.in1 (by show X.A.units+1+8<cLine;lia) (dx:=dx) (dy:=dy) (x:=x) (y:=y) (v:=v) (u:=u) (b:=b);have fin:∀{k:Bool},k = !b->EP X pins σ Q (.bool k) s:=λ{k} z=>⟨.bl k,H,I,rfl,by rw[z];exact q⟩
 have scl:eqS dx dy=some b->Qf KF X.A (QF .NotEq v u) (EP X pins σ Q) X.xe s:=λe=>by
  obtain⟨h1,h2⟩:=vJ hx hy e;exact IL pins s σ H x y v u Q I rx ry ⟨h1,by rw[h2];exact q⟩
 cases dx with
 |tup ds=>
  cases dy with
  |tup es=>
   obtain⟨a,xs,rfl,_,h1,h2⟩:=hx.tup gh;obtain⟨a',ys,rfl,_,h3,h4⟩:=hy.tup gh;cases rx;cases ry;obtain⟨c,e1,e2⟩:=bh e;obtain⟨q1,q2⟩:=fW e1;obtain⟨its,r,p1,_⟩:=I.tuple h1;obtain⟨its2,r2,p2,_⟩:=I.tuple h3;have l1:its.toArray.size=ds.length:=by simp[<-r.length,h2.length]
   have l2:its2.toArray.size=es.length:=by simp[<-r2.length,h4.length]
   refine SeqAt.RcNeAt.tuples (e:=iR (jD 8) ds es) p1 p2 KM (iP (x:=.non) (y:=.non) h2 h4 r r2 step q2) X.prog X.w X.xe _ (fin ?_);rw[l1,l2,<-q1];exact congrArg not e2
  |_=>exact scl e
 |lst ds=>
  cases dy with
  |lst es=>
   obtain⟨a,xs,rfl,h1,h2⟩:=hx.lst gh;obtain⟨a',ys,rfl,h3,h4⟩:=hy.lst gh;cases rx;cases ry;have e':(if ds.length=es.length then ud (jD 8) ds es else some false)=some b:=e;obtain⟨its,r,p1,_⟩:=I.list h1;obtain⟨its2,r2,p2,_⟩:=I.list h3;have l1:its.toArray.size=ds.length:=by simp[<-r.length,h2.length]
   have l2:its2.toArray.size=es.length:=by simp[<-r2.length,h4.length]
   by_cases hl:ds.length=es.length
   ·rw[if_pos hl] at e'
    obtain⟨q1,q2⟩:=fW e';refine SeqAt.RcNeAt.lists (e:=iR (jD 8) ds es) p1.isList p2.isList (by rw[l1,l2,hl]) KM (iP (x:=.non) (y:=.non) h2 h4 r r2 step q2) X.prog X.w X.xe _ (fin ?_);rw[l1];rw[<-hl,Nat.min_self] at q1;rw[q1]
   ·rw[if_neg hl] at e'
    cases e';exact SeqAt.RcNeAt.lists_lengths p1.isList p2.isList (by rw[l1,l2];simpa using hl) KM X.prog X.w X.xe _ (fin rfl)
  |_=>exact scl e
 |_=>cases dy<;>exact scl e
noncomputable def cH:D->D->Option D:=λx y=>(jD 9 x y).map D.bl
noncomputable def me:D->D->Option D:=λx y=>(jD 9 x y).map λb=>D.bl (!b)
theorem cT{k:Nat}(hr:Room k X.A):OpD X (QF .Eq) cH:=⟨_,HE hr.units,λG H x y dx dy d Q gh hx hy e q=>by
 obtain⟨b,e1,rfl⟩:=bh e
 exact⟨G,dx,dy,b,gh,hx,hy,e1,q _ G H (.refl gh) (.bl _)⟩⟩
theorem lU{k:Nat}(hr:Room k X.A):OpD X (QF .NotEq) me:=⟨_,G_ hr.units,λG H x y dx dy d Q gh hx hy e q=>by
 obtain⟨b,e1,rfl⟩:=bh e
 exact⟨G,dx,dy,b,gh,hx,hy,e1,q _ G H (.refl gh) (.bl _)⟩⟩
end
section
variable{prog:Qr}{w:Qx}{Ar:QB}{Rs:Result->Qd->Prop}{It S:Addr}{fp wr:List Addr}{n:Nat}{Pv:Nat->Qa->Prop}{St:Nat->Heap->Prop}{kw:List (Str×Qa)}
theorem qI:(toString "max" ++ toString ".loop" : String) = "max.loop":=by decide
theorem IJ(W:Walks prog w Ar.in1 It fp wr n Pv St){bt:Nat->Nat->Bool}(cmp:CmpOf prog w Ar.in1 .Gt Pv bt)(apart:S∉fp):∀(k j:Nat) (t:Qd) (best:Qa) (c:Nat),j+1+k=n->St (j+1) t.heap->Pv (KQ bt j) best->IsL t.heap S #[best,best] c->
  (∀v g tk,Pv (KQ bt (n-1)) v->(∀b o,b∉wr->b≠S->t.heap.get? b=some o->g.get? b=some o)->Rs (.ok (.ret v)) { t with heap:=g,toks:=tk })->Ku (Qj prog w) Ar (.builtin "max.loop" ⟨[.ref It,.none,.ref S],kw⟩) Rs t:=by
 have away:S∉wr:=λz=>apart (W.sub _ z);intro k
 induction k with
 |zero=>
  intro j t best c ej st hb hS want;refine Vt F.entry_max_loop ?_;rw[KL Kj _];refine Qb (m:=seqItems? (.ref S)) (Zo hS rfl ?_);refine Qb (Vd (W.done t _ _ (ej▸st) λg tk kept=>?_));have hS1:IsL g S #[best,best] c:=kept S _ away hS;refine Qb (m:=updateSeq S (λ_=>#[])) (wpAny_updateSeq hS1 rfl (Qb (Vn (Qh ?_))));refine want best _ tk (by rw[<-ej];exact hb) λb o q1 q2 e=>(QG _ _ (Ne.symm q2)).trans (kept b o q1 e)
 |succ k ih=>
  intro j t best c ej st hb hS want;have more:j+1<n:=by lia
  refine Vt F.entry_max_loop ?_;rw[KL Kj _];refine Qb (m:=seqItems? (.ref S)) (Zo hS rfl ?_);refine Qb (Vd (W.item (j+1) t _ _ more st λv g tk hv st1 kept=>?_));have hS1:IsL g S #[best,best] c:=kept S _ away hS;refine Qb (Qh ?_);refine Qb (Vd (QX (Qb (cmp (j+1) (KQ bt j) v best _ _ _ hv hb (Qb (QX (Q8 (Qb (Vn (Qh ?_))))))))));cases yes:bt (j+1) (KQ bt j) with
  |true=>
   rw[if_pos rfl];refine Qb (m:=updateSeq S (λ_=>#[v,v])) (wpAny_updateSeq hS1 rfl (Qb (Vn ?_)));rw[qI];refine Qh ⟨Vj Kj _,ih (j+1) _ v _ KM (W.frame _ _ _ st1 λb q o e=>(QG _ _ (λz:S=b=>apart (by rw[z];exact q))).trans e) ?_ (Zm _ hS1 rfl) λv2 g2 tk2 hv2 kept2=>want v2 g2 tk2 hv2 λb o q1 q2 e=>kept2 b o q1 q2 ((QG _ _ (Ne.symm q2)).trans (kept b o q1 e))⟩;unfold KQ;rw[if_pos yes];exact hv
  |false=>
   rw[if_neg Qp];refine Qb (Vn ?_);rw[qI];refine Qh ⟨Vj Kj _,ih (j+1) _ best c KM st1 ?_ hS1 λv2 g2 tk2 hv2 kept2=>want v2 g2 tk2 hv2 λb o q1 q2 e=>kept2 b o q1 q2 (kept b o q1 e)⟩;unfold KQ;rw[yes,if_neg Qp];exact hb
theorem Be(W:Walks prog w Ar.in1 It fp wr n Pv St){bt:Nat->Nat->Bool}(cmp:CmpOf prog w Ar.in1 .Gt Pv bt)(apart:S∉fp){t:Qd}{c:Nat}{d:Qa}{nm:Str}(st:St 0 t.heap)(hS:IsL t.heap S #[] c)
  (want:∀v g tk,((n=0/\v=d)\/(0<n/\Pv (KQ bt (n-1)) v))->(∀b o,b∉wr->b≠S->t.heap.get? b=some o->g.get? b=some o)->Rs (.ok (.ret v)) { t with heap:=g,toks:=tk }) :
  Ku (Qj prog w) Ar (.builtin "max.loop" ⟨[.ref It,.none,.ref S],[(nm,d)]⟩) Rs t:=by
 have away:S∉wr:=λz=>apart (W.sub _ z);refine Vt F.entry_max_loop ?_;rw[KL Kj _];refine Qb (m:=seqItems? (.ref S)) (Zo hS rfl ?_)
 by_cases hn:n=0
 ·refine Qb (Vd (W.done t _ _ (hn▸st) λg tk kept=>?_))
  exact Qb (wpAny_rule (Qh (want d g tk (.inl ⟨hn,rfl⟩) λb o q1 _ e=>kept b o q1 e)))
 ·have pos:0<n:=Nat.pos_of_ne_zero hn
  refine Qb (Vd (W.item 0 t _ _ pos st λv g tk hv st1 kept=>?_));have hS1:IsL g S #[] c:=kept S _ away hS;refine Qb (Qh ?_);refine Qb (m:=updateSeq S (λ_=>#[v,v])) (wpAny_updateSeq hS1 rfl ?_);rw[qI]
  exact Qh ⟨Vj Kj _,IJ W cmp apart (n-1) 0 _ v _ KM (W.frame _ _ _ st1 λb q o e=>(QG _ _ (λz:S=b=>apart (by rw[z];exact q))).trans e) hv (Zm _ hS1 rfl)
   λv2 g2 tk2 hv2 kept2=>want v2 g2 tk2 (.inr ⟨pos,hv2⟩) λb o q1 q2 e=>kept2 b o q1 q2 ((QG _ _ (Ne.symm q2)).trans (kept b o q1 e))⟩
end
noncomputable def mxI:Int->List Int->Int
 |m,[]=>m
 |m,x::xs=>mxI (if x>m then x else m) xs
theorem wN:∀(xs:List Int) (m:Int),(mxI m xs=m\/mxI m xs∈xs)/\m<=mxI m xs/\∀a∈xs,a<=mxI m xs
 |[],m=>⟨.inl rfl,Int.le_refl _,λa h=>by cases h⟩
 |x::xs,m=>by
  obtain⟨h1,h2,h3⟩:=wN xs (if x>m then x else m);show(mxI (if x>m then x else m) xs=m\/_)/\_;have c1:m<=(if x>m then x else m):=by split<;>lia
  have c2:x<=(if x>m then x else m):=by split<;>lia
  refine⟨?_,Int.le_trans c1 h2,λa ha=>?_⟩
  ·rcases h1 with h1 | h1
   ·by_cases g:x>m
    ·rw[if_pos g] at h1 ⊢;exact .inr (by rw[show mxI m (x::xs)=mxI (if x>m then x else m) xs from rfl,if_pos g,h1];exact QD)
    ·rw[if_neg g] at h1 ⊢;exact .inl h1
   ·exact .inr (Qv _ h1)
  ·rcases Ql.mp ha with z | z
   ·rw[z];exact Int.le_trans c2 h2
   ·exact h3 a z
theorem B_{m M:Int}{xs:List Int}(h1:M∈m::xs)(h2:∀a∈m::xs,a<=M):M=mxI m xs:=by
 obtain⟨q1,q2,q3⟩:=wN xs m
 have u1:mxI m xs<=M:=by
  rcases q1 with z | z
  ·rw[z];exact h2 m QD
  ·exact h2 _ (Qv _ z)
 have u2:M<=mxI m xs:=by
  rcases Ql.mp h1 with z | z
  ·rw[z];exact q2
  ·exact q3 M z
 lia
noncomputable def gY:List D->Option (List Int)
 |[]=>some []
 |.int i::ds=>(gY ds).bind λr=>some (i::r)
 |_=>none
theorem tM(l:List Int):gY (l.map D.int)=some l:=by
 induction l with
 |nil=>rfl
 |cons i l ih=>show(gY (l.map D.int)).bind _=_;rw[ih];rfl
theorem ky{K:Qc}{G:Hp}{xs:List V}{ds:List D}{ns:List Int}(h:DenL K G xs ds):gY ds=some ns->xs=ns.map V.int:=by
 refine DenL.ind (P:=λxs ds=>∀ns,gY ds=some ns->xs=ns.map V.int) (λns e=>by cases e;rfl) (λ{x d xs ds} h _ y ns e=>?_) h ns;cases d with
 |int i=>
  obtain⟨r,e1,e2⟩:=aq (show(gY ds).bind _=some ns from e);cases e2;rw[h.intV,y _ e1];rfl
 |_=>cases e
section
variable{prog:Qr}{w:Qx}{Ar:QB}{Ex:Qa->Qd->Prop}{t:Qd}
theorem Ed{id:String}{b:Builtin}{args:List Qa}{kw:List (Str×Qa)}{Q:Qa->Qd->Prop}(hk:builtinKind id=none)(hp:plainId id=true)(hb:entryFor table id=some b)(ha:argsOk id ⟨args,kw⟩)
  (hc:Qf (Qj prog w) Ar.in1 (b ⟨args,kw⟩) (λfin t'=>match fin with
   |.done f=>match(Except.ok f:Result) with
    |.ok (.ret v)=>Q v t'
    |.ok _=>False
    |.error e=>Ex e t'
   |.again c'=>c'.quiet=true/\Ku (Qj prog w) Ar c' (λr t'=>match r with
    |.ok (.ret v)=>Q v t'
    |.ok _=>False
    |.error e=>Ex e t') t') Ex t):Qf (Qj prog w) Ar (call (.builtin id) args kw) Q Ex t:=by
 refine Kk (Vh hp hb ?_);simp only[checkBuiltinCall,hk];cases sg:Manifest.signature? id with
 |none=>exact Qh hc
 |some sig=>
  have ok:Bind.checkArgs id sig ⟨args,kw⟩=pure ():=by simpa only[argsOk,sg] using ha
  simp only[ok];exact Qh hc
theorem Ae(a d:Qa):argsOk "max" ⟨[a],[("default",d)]⟩:=by unfold argsOk;kernel_rfl
theorem Hu{l:Addr}{d:Qa}{xs:Array (Int×Tok)}{Q:Qa->Qd->Prop}(hh:Ar.handled=none)(ls:t.heap.IsList l (Zd xs))
  (want:∀v g tk,((xs.size=0/\v=d)\/(0<xs.size/\(Zd xs)[KQ (λi j=>decide (Kw xs i>Kw xs j)) (xs.size-1)]?=some v))->(∀b o,t.heap.get? b=some o->g.get? b=some o)->Q v { t with heap:=g,toks:=tk }) :
  Qf (Qj prog w) Ar (call (.builtin "max") [.ref l] [("default",d)]) Q Ex t:=by
 refine Ed F.kind_max F.plain_max F.entry_max (Ae _ _) ?_;refine Qb (m:=Builtin.Builtins.bindParams "max" ["key","default"] 0 ⟨[],[("default",d)]⟩) (wpAny_of_eq (a:=[none,some d]) rfl (Qb (Qh ?_)));refine Qb (iter_intList ls λt2 e st hfp hl=>?_);subst e;refine Qb (Zl ?_);have sz:(Zd xs).size=xs.size:=by simp[Zd]
 have W:=Walks.list (prog:=prog) (w:=w) (A:=Ar.in1) hh t.heap.objs.size l hl (Zd xs);have ap:(t.heap.push { cls:=.type "list_iterator",data:=.fields #[.ref l,.int 0 0] }).objs.size∉[t.heap.objs.size,l]:=λz=>Zb _ (hfp _ z);rw[qI];refine Qh ⟨Vj Kj _,Be W (CmpOf.ints_gt (Kw xs) (λ_ _=>intItems_at)) ap (W.frame _ _ _ st λb _ o e=>Qe _ e) (Qq _ rfl) λv g tk hv kept=>?_⟩;refine want v g tk (by rw[sz] at hv;exact hv) λb o e=>?_;have lt:=Qo e;refine kept b o (λz=>?_) (QC (QA lt (by rw[Za];exact Nat.le_succ _))) (Qe _ (Qe _ e));rw[QL.mp z] at lt;exact Zb _ lt
end
section
variable{X:Cx}{a c:Expr}{fa fc:Ev->Option D}{pos:Pos}
theorem ua{its:List Qa}{ns:List Int}{xs:Array (Int×Tok)}(hi:IntsAre its ns)(e:its.toArray=Zd xs){v:Qa}{m:Int}{r:List Int}(en:ns=m::r)
  (hv:(Zd xs)[KQ (λi j=>decide (Kw xs i>Kw xs j)) (xs.size-1)]?=some v):∃tk,v=.int (mxI m r) tk:=by
 have hns:ns=xs.toList.map (·.1):=by rw[<-hi.numsOf,<-nums_intItems,<-e]
 have hsz:ns.length=xs.size:=by rw[hns];simp
 obtain⟨tk,rfl⟩:=intItems_at hv;obtain⟨b1,b2⟩:=argBest_gt (Kw xs) (xs.size-1);have pos:0<xs.size:=by rw[<-hsz,en];simp
 refine⟨tk,?_⟩
 have hm:Kw xs (KQ (λi j=>decide (Kw xs i>Kw xs j)) (xs.size-1))=mxI m r:=by
  refine B_ ?_ λu hu=>?_
  ·rw[<-en,hns,numAt_eq];exact getD_mem (by rw[Qt,Zw];lia)
  ·rw[<-en,hns] at hu
   obtain⟨j,hj,rfl⟩:=mem_getD hu;rw[Qt,Zw] at hj;rw[<-numAt_eq];exact b2 j KM
 rw[hm]
noncomputable def sX:D->D->Option D:=λx d=>match x with | .lst ds=>(match gY ds with | some []=>some d | some (m::r)=>some (.int (mxI m r)) | none=>none) | _=>none
theorem C6{p kp:Pos}(ha:DE X a fa)(hd:DE X c fc)(hc:X.calm=true)(hm:X.mg "max" = none)(hg:Gl X "max":=by rfl)
  (hst:Qg [a] X.env=(false,eval a X.env)::Qg [] X.env:=by rfl) (he:QP pos (Qg [a] X.env)=(false,eval a X.env)::QP pos (Qg [] X.env):=by rfl) (hpl:(QP pos (Qg [a] X.env)).any (·.1)=false:=by rfl)
  (hall:(ZN pos (Zg [⟨some "default",c,kp⟩] X.env)).all (·.1.isSome)=true:=by rfl) (hkw:(ZN pos (Zg [⟨some "default",c,kp⟩] X.env)).any (·.1.isNone)=false:=by rfl)
  (hnm:(ZN pos (Zg [⟨some "default",c,kp⟩] X.env)).filterMap (·.1)=[Z2 "default"]:=by rfl):DE X (.Call (.Name "max" p) [a] [⟨some "default",c,kp⟩] pos) (e2 sX fa fc):=by
 obtain⟨ta,a1,a2⟩:=ha;obtain⟨tc,c1,c2⟩:=hd;refine⟨λσ H Q=>pM ta ya σ H λvs H1=>pM tc ya σ H1 λzs H2=>∃l ns v,vs=[.ref l]/\zs=[v]/\SqL X.K H2 l (ns.map V.int)/\(ns=[]->Q v H2)/\∀m r,ns=m::r->Q (.int (mxI m r)) H2,λpins s σ H Q I h=>?_,λHe G H σ ε d Q gh E ef q=>?_⟩
 ·refine Zr (mX I hg hm boot_max ?_ KE KE)
  refine callWith_kw (thn (aC a1 aR hst pos pins s σ H _ I h) λus s1 ⟨vs,H1,I1,r1,q1⟩=>?_) he hpl hall hkw;refine thn (D4 (nm:=some "default") (kpos:=kp) c1 Gb pos pins s1 σ H1 _ I1 q1) λws s2 ⟨zs,H2,I2,r2,q2⟩=>?_;obtain⟨l,ns,v,rfl,rfl,hq,qe,qc⟩:=q2;obtain⟨u,rfl,ru⟩:=r1.one;obtain⟨uv,rfl,rv⟩:=r2.one;cases ru;obtain⟨its,r,pl,hz⟩:=I2.list hq;have hi:IntsAre its ns:=mQ r;have⟨xs,e⟩:=hi.allInts.items
  have hsz:ns.length=xs.size:=by
   have:ns=xs.toList.map (·.1):=by rw[<-hi.numsOf,<-nums_intItems,<-e]
   rw[this];simp
  have hl:=pl.isList;rw[e] at hl;rw[hnm];refine Hu (I2.ok.hd hc) hl λv' g tk hv kept=>?_;have I3:=I2.kept (t':=tk) kept;rcases hv with⟨z,rfl⟩ | ⟨z,hv⟩
  ·exact⟨v,H2,I3,rv,qe (List.eq_nil_of_length_eq_zero KM)⟩
  ·cases en:ns with
   |nil=>rw[en] at hsz;simp at hsz;lia
   |cons m r=>
    obtain⟨tk',rfl⟩:=ua hi e en hv;exact⟨.int (mxI m r),H2,I3,⟨_,rfl⟩,qc m r en⟩
 ·obtain⟨x,e1,ef⟩:=aq ef
  obtain⟨y,e2',ef⟩:=aq ef;refine a2 He G H σ ε x _ gh E e1 λv1 G1 H1 g1 d1=>?_;refine c2 He G1 H1 σ ε y _ g1.gh (E.grow g1) e2' λv2 G2 H2 g2 d2=>?_;unfold sX at ef;split at ef
  ·obtain⟨l,xs,rfl,h1,h2⟩:=d1.lstV
   have g:=g1.trans g2;split at ef
   ·rename_i et
    cases ef;have:=ky h2 et;subst this;exact⟨l,[],v2,rfl,rfl,(g2.gg.trans g2.gh).seq h1,λ_=>q _ G2 H2 g d2,λm r z=>(nomatch z)⟩
   ·rename_i m r et
    cases ef;have:=ky h2 et;subst this
    exact⟨l,m::r,v2,rfl,rfl,(g2.gg.trans g2.gh).seq h1,(λz=>nomatch z),λm' r' z=>by
     cases z
     exact q _ G2 H2 g (.int _)⟩
   ·cases ef
  ·cases ef
noncomputable def ze:List D->Option D
 |[.lst ds]=>(match gY ds with | some (m::r)=>some (.int (mxI m r)) | _=>none)
 |_=>none
theorem Dw(hc:X.calm=true):lG X (.builtin "max") ze:=by
 refine⟨λxs H Q=>∃l m r,xs=[.ref l]/\SqL X.K H l ((m::r).map V.int)/\Q (.int (mxI m r)) H,λpins s σ H xs us Q I rv h=>?_,λG H vs ds d Q gh hd e q=>?_⟩
 ·obtain⟨l,m,r,rfl,hq,q⟩:=h
  obtain⟨u,rfl,ru⟩:=rv.one;cases ru;obtain⟨its,rr,pl,hz⟩:=I.list hq;have hi:IntsAre its (m::r):=mQ rr;have⟨xs,e⟩:=hi.allInts.items
  have hsz:(m::r).length=xs.size:=by
   have:(m::r)=xs.toList.map (·.1):=by rw[<-hi.numsOf,<-nums_intItems,<-e]
   rw[this];simp
  have hl:=pl.isList;rw[e] at hl;refine max_intList (I.ok.hd hc) hl (by rw[<-hsz];simp) λv g tk hv kept=>?_;obtain⟨tk',rfl⟩:=ua hi e rfl hv;exact⟨.int (mxI m r),H,I.kept (t':=tk) kept,⟨_,rfl⟩,q⟩
 ·unfold ze at e
  split at e
  ·split at e
   ·rename_i m r et
    cases e
    cases hd with | cons h1 h2=>
     cases h2;obtain⟨l,xs,rfl,h3,h4⟩:=h1.lstV;have:=ky h4 et;subst this;exact⟨l,m,r,rfl,gh.seq h3,q _ G H (.refl gh) (.int _)⟩
   ·cases e
  ·cases e
end
noncomputable def kH:List D->Option (List Bool)
 |[]=>some []
 |.bl b::ds=>(kH ds).bind λr=>some (b::r)
 |_=>none
theorem AG{K:Qc}{G:Hp}{xs:List V}{ds:List D}{ns:List Bool}(h:DenL K G xs ds):kH ds=some ns->xs=ns.map V.bl:=by
 refine DenL.ind (P:=λxs ds=>∀ns,kH ds=some ns->xs=ns.map V.bl) (λns e=>by cases e;rfl) (λ{x d xs ds} h _ y ns e=>?_) h ns;cases d with
 |bl i=>
  obtain⟨r,e1,e2⟩:=aq (show(kH ds).bind _=some ns from e);cases e2;rw[h.blV,y _ e1];rfl
 |_=>cases e
theorem wu:∀{bs:List Bool} {us:List Qa},bu (bs.map V.bl) us->us=bs.map Ve
 |[],_,.nil=>rfl
 |b::bs,_,.cons r rs=>by rw[wu rs,show _=Ve b from r];rfl
theorem tp:∀bs:List Bool,(QU bs.length).all (λi=>(bs[i]?).getD true)=bs.all id
 |[]=>rfl
 |b::bs=>by
  rw[QM,List.range_succ_eq_map,Vi,List.all_map,Vi,<-tp bs];rfl
section
variable{X:Cx}{a b c:Expr}{fa fb fc:Ev->Option D}{pos:Pos}
noncomputable def mz:List D->Option D
 |[.lst ds]=>(kH ds).bind λbs=>some (.bl (bs.all id))
 |_=>none
theorem xN(hc:X.calm=true):lG X (.builtin "all") mz:=by
 refine⟨λxs H Q=>∃(l:Addr) (bs:List Bool),xs=[.ref l]/\SqL X.K H l (bs.map V.bl)/\Q (.bl (bs.all id)) H,λpins s σ H xs us Q I rv h=>?_,λG H vs ds d Q gh hd e q=>?_⟩
 ·obtain⟨l,bs,rfl,hq,q⟩:=h
  obtain⟨u,rfl,ru⟩:=rv.one;cases ru;obtain⟨its,rr,pl,hz⟩:=I.list hq;have ei:=wu rr;subst ei;have hl:=pl.isList;have lt:l<s.heap.objs.size:=let⟨_,there,_⟩:=hl;Qo there;apply call_all_walk;apply wpAny_pyIter_list hl;refine⟨s.heap.objs.size,_,_,_,_,_,λi=>(bs[i]?).getD true,rfl,Walks.list (A:=X.A.in1) (I.ok.hd hc) _ l (QC lt) _,⟨⟨_,Qq _ rfl,rfl,rfl⟩,hl.push _⟩,λi v t Q' E' hv hQ=>?_,λg tk kept=>?_⟩
  ·have hv':(bs.map Ve)[i]?=some v:=by simpa using hv
   rw[QJ] at hv';obtain⟨k,ek,rfl⟩:=bh hv';have hQ2:Q' k t:=by simpa[ek] using hQ
   exact Q8 hQ2
  ·refine⟨.bl (bs.all id),H,I.kept (t':=tk) λb o e=>kept b o (λz=>?_) (Qe _ e),?_,q⟩
   ·rw[QL.mp z] at e
    exact absurd (Qo e) (Zb _)
   ·have hn:(bs.map Ve).toArray.size=bs.length:=by simp
    rw[hn,tp];rfl
 ·unfold mz at e
  split at e
  ·obtain⟨bs,eb,e⟩:=aq e
   cases e
   cases hd with | cons h1 h2=>
    cases h2;obtain⟨l,xs,rfl,h3,h4⟩:=h1.lstV;have:=AG h4 eb;subst this;exact⟨l,bs,rfl,gh.seq h3,q _ G H (.refl gh) (.bl _)⟩
  ·cases e
end
theorem nN{a b:Nat}(h:a≠b):@Ne Addr a b:=h
noncomputable def SIt(t:Bool)(h:Heap)(it l:Addr)(i:Nat):Prop:=match t with | true=>h.IsTupleIter it l i | false=>h.IsListIter it l i
noncomputable def SSq(t:Bool)(h:Heap)(l:Addr)(xs:Array Qa):Prop:=match t with | true=>h.IsTuple l xs | false=>h.IsList l xs
noncomputable def SqB(t:Bool)(K:Qc)(H:Hp)(l:Addr)(xs:List V):Prop:=match t with | true=>SqT K H l xs | false=>SqL K H l xs
theorem SIt.to{t:Bool}{h h':Heap}{it l:Addr}{i:Nat}(q:SIt t h it l i)(k:∀o,h.get? it=some o->h'.get? it=some o):SIt t h' it l i:=by
 cases t with
 |true=>exact let⟨o,e,r⟩:=q;⟨o,k o e,r⟩
 |false=>exact let⟨o,e,r⟩:=q;⟨o,k o e,r⟩
theorem SSq.to{t:Bool}{h h':Heap}{l:Addr}{xs:Array Qa}(q:SSq t h l xs)(k:∀o,h.get? l=some o->h'.get? l=some o):SSq t h' l xs:=by
 cases t with
 |true=>exact let⟨o,e,r⟩:=q;⟨o,k o e,r⟩
 |false=>exact let⟨o,e,r⟩:=q;⟨o,k o e,r⟩
theorem SIt.there{t:Bool}{h:Heap}{it l:Addr}{i:Nat}(q:SIt t h it l i):∃o,h.get? it=some o/\∀v,o.data≠.cell v:=by
 cases t with
 |true=>exact let⟨o,e,c,d⟩:=q;⟨o,e,λv z=>by rw[d] at z;cases z⟩
 |false=>exact let⟨o,e,c,d⟩:=q;⟨o,e,λv z=>by rw[d] at z;cases z⟩
theorem SSq.lt{t:Bool}{h:Heap}{l:Addr}{xs:Array Qa}(q:SSq t h l xs):l<h.objs.size:=by
 cases t with
 |true=>exact let⟨o,e,r⟩:=q;Qo e
 |false=>exact let⟨o,e,r⟩:=q;Qo e
theorem jO{X:Cx}{pins:List Vz}{σ:L2.St}{H:Hp}{s:Qd}{t:Bool}{a:Addr}{xs:List V}(I:Inv X pins σ H s)(h:SqB t X.K H a xs):∃its:List Qa,bu xs its/\SSq t s.heap a its.toArray:=by
 cases t with
 |true=>exact let⟨its,r,p,_⟩:=I.tuple h;⟨its,r,p⟩
 |false=>exact let⟨its,r,p,_⟩:=I.list h;⟨its,r,p.isList⟩
theorem oG{X:Cx}{pins:List Vz}{σ:L2.St}{H:Hp}{s:Qd}{t:Bool}{a:Addr}{xs ys:List V}(I:Inv X pins σ H s)(h:SqB t X.K H a xs)(h':SqB t X.K H a ys):xs=ys:=by
 cases t with
 |true=>exact I.tuple_inj h h'
 |false=>exact I.list_inj h h'
section
variable{prog:Qr}{w:Qx}{A:QB}{E:Qa->Qd->Prop}{s:Qd}
theorem HP{it l:Addr}{i:Nat}{items:Array Qa}{x:Qa}{Q:Qa->Qd->Prop}(ht:s.heap.IsTupleIter it l i)(hl:s.heap.IsTuple l items)(hx:items[i]?=some x)
  (q:∀h',h'.IsTupleIter it l (i+1)->ZP it s.heap h'->Q x { s with heap:=h' }):Qf (Qj prog w) A (QW (.ref it)) Q E s:=by
 obtain⟨o,e1,e2,e3⟩:=id ht;obtain⟨u,e4,_,m,e5⟩:=hl;unfold QW;refine Qb (ZL (name:=Z2 "__next__") ht.typeIs Kz (KY Kz ht.typeIs F.entry_tuple_iterator_next ?_ (F.args_tuple_iterator_next_1 _)))
 change Qf _ _ (field (.ref it) 0>>=_) _ _ s
 refine Qb (Q5 e1 e3 (x:=.ref l) rfl ?_)
 change Qf _ _ (if(Qn l==Q0)=true then _ else _) _ _ s
 rw[if_neg (show ¬((Qn l==Q0)=true) from λz=>Bool.noConfusion z)]
 change Qf _ _ (field (.ref it) 1>>=_) _ _ s
 refine Qb (Q5 e1 e3 (x:=.int i 0) rfl ?_)
 change Qf _ _ (seqItems? (.ref l)>>=_) _ _ s
 refine Qb (Zo e4 e5 ?_);simp only[hx,KA];refine Qb (wpAny_setField e1 e3 (by simp) (Qh ⟨x,rfl,Qh (q _ ⟨_,Zm _ e1 (Vc (ZU e3 _)),(Obj.cls_mapFields ..).trans e2,?_⟩ (Heap.SameBut.update ..))⟩));rw[ZU e3];simp[rawInt]
theorem xi{it l:Addr}{i:Nat}{items:Array Qa}{Q:Qa->Qd->Prop}(hh:A.handled=none)(ht:s.heap.IsTupleIter it l i)(hl:s.heap.IsTuple l items)(hx:items[i]?=none)
  (q:∀h' e,Heap.ExtBut it s.heap h'->(∃o,h'.get? e=some o/\o.cls=.type "StopIteration")->E (.ref e) { s with heap:=h' }):Qf (Qj prog w) A (QW (.ref it)) Q E s:=by
 obtain⟨o,e1,e2,e3⟩:=id ht;obtain⟨u,e4,_,m,e5⟩:=hl;unfold QW;refine Qb (ZL (name:=Z2 "__next__") ht.typeIs Kz (KY Kz ht.typeIs F.entry_tuple_iterator_next ?_ (F.args_tuple_iterator_next_1 _)))
 change Qf _ _ (field (.ref it) 0>>=_) _ _ s
 refine Qb (Q5 e1 e3 (x:=.ref l) rfl ?_)
 change Qf _ _ (if(Qn l==Q0)=true then _ else _) _ _ s
 rw[if_neg (show ¬((Qn l==Q0)=true) from λz=>Bool.noConfusion z)]
 change Qf _ _ (field (.ref it) 1>>=_) _ _ s
 refine Qb (Q5 e1 e3 (x:=.int i 0) rfl ?_)
 change Qf _ _ (seqItems? (.ref l)>>=_) _ _ s
 refine Qb (Zo e4 e5 ?_);simp only[hx,KA];refine Qb (wpAny_rule (Qb (wpAny_setField e1 e3 (by simp) ?_)))
 change Qf _ _ (newExc (.type "StopIteration") []>>=_) _ _ _
 refine Qb ?_;simp only[newTuple,newExc];refine Qb (Zl (Qb (m:=firstArgMember _ _) (wpAny_of_eq (a:=Q0) (by first | rfl | (simp only[firstArgMember];rfl)) (Zl ?_ (by size_fits)))) (by size_fits));simp only[raiseNew];refine Qb (wpAny_handled ?_);rw[hh];exact Qb (Qh (wpAny_throw (q _ _ (((Heap.SameBut.update ..).extBut.push _).push _) ⟨_,Qq _ rfl,rfl⟩)))
theorem GN{t:Bool}{it l:Addr}{i:Nat}{items:Array Qa}{x:Qa}{Q:Qa->Qd->Prop}(ht:SIt t s.heap it l i)(hl:SSq t s.heap l items)(hx:items[i]?=some x)
  (q:∀h',SIt t h' it l (i+1)->ZP it s.heap h'->Q x { s with heap:=h' }):Qf (Qj prog w) A (QW (.ref it)) Q E s:=by
 cases t with
 |true=>exact HP ht hl hx q
 |false=>exact wpAny_nextOf_list_item ht hl hx q
theorem wU{t:Bool}{it l:Addr}{i:Nat}{items:Array Qa}{Q:Qa->Qd->Prop}(hh:A.handled=none)(ht:SIt t s.heap it l i)(hl:SSq t s.heap l items)(hx:items[i]?=none)
  (q:∀h' e,Heap.ExtBut it s.heap h'->(∃o,h'.get? e=some o/\o.cls=.type "StopIteration")->E (.ref e) { s with heap:=h' }):Qf (Qj prog w) A (QW (.ref it)) Q E s:=by
 cases t with
 |true=>exact xi hh ht hl hx q
 |false=>exact wpAny_nextOf_list_end hh ht hl hx q
theorem EL{t:Bool}{N l1 l2:Nat}{k:Nat}{xs ys:Array Qa}{x y a b:Qa}{Q:Qa->Qd->Prop}(p1:l1<N)(p2:l2<N)(hz:IsZip s.heap (N+4) (N+2) (N+3) .none)
  (hI:ZE s.heap (N+2) (.ref N) (.ref (N+1))) (hO:ZE s.heap (N+3) a b) (h1:SIt t s.heap N l1 k) (h2:SIt t s.heap (N+1) l2 k) (g1:SSq t s.heap l1 xs) (g2:SSq t s.heap l2 ys) (hx:xs[k]?=some x) (hy:ys[k]?=some y)
  (q:∀h',IsZip h' (N+4) (N+2) (N+3) (rawInt s.heap.objs.size)->ZE h' (N+3) x y->SIt t h' N l1 (k+1)->SIt t h' (N+1) l2 (k+1)->ZE h' s.heap.objs.size x y->
   (∀c o,c≠N+4->c≠N+3->c≠N->c≠N+1->s.heap.get? c=some o->h'.get? c=some o)->Q (.ref s.heap.objs.size) { s with heap:=h' }) :
  Qf (Qj prog w) A (Builtin.«zip.__next__» ⟨[.ref (N+4)],[]⟩) (λfin s'=>∃v,fin=.done (.ret v)/\Q v s') E s:=by
 change Qf _ _ (field (.ref (N+4)) 2>>=_) _ _ _
 refine Qb (Q5 hz rfl (x:=.bool false) rfl ?_);change Qf _ _ (field (.ref (N+4)) 3>>=_) _ _ _;refine Qb (Q5 hz rfl (x:=.ref (N+2)) rfl (Qb (Zo hI rfl ?_)))
 change Qf _ _ (ZI (.ref (N+4))>>=_) _ _ _
 refine Qb ?_;unfold ZI;refine Qb (Q5 hz rfl (x:=.none) rfl (Qh ?_));simp only[if_true];refine Qb (wpAny_rule (Qb (Q5 hz rfl (x:=.ref (N+3)) rfl (Qb (Kr hz (by simp) λu1 z1 s1=>?_)))))
 replace z1:IsZip u1 (N+4) (N+2) (N+3) .ellipsis:=z1
 refine Qb ?_;simp only[List.forIn_cons,List.forIn_nil,List.zipIdx_cons,List.zipIdx_nil];refine Qb (Qb (wpAny_onRaise ?_));change Qf _ _ (QW (.ref N)>>=_) _ _ _;refine Qb (GN (h1.to λo e=>s1.extBut _ o (nN KM) e) (g1.to λo e=>s1.extBut _ o (nN KM) e) hx λu2 i2 s2=>Qh ?_);have o2:ZE u2 (N+3) a b:=s2.extBut _ _ (nN KM) (s1.extBut _ _ (nN KM) hO);refine Qb (Zo o2 rfl (Qb (wpAny_updateSeq_pair o2 λu3 o3 s3=>?_)))
 replace o3:ZE u3 (N+3) x b:=o3
 refine Qb (Vn (Qh (Qb (Qb (wpAny_onRaise ?_)))))
 change Qf _ _ (QW (.ref (N+1))>>=_) _ _ _
 refine Qb (GN (h2.to λo e=>s3.extBut _ o (nN KM) (s2.extBut _ o (nN KM) (s1.extBut _ o (nN KM) e))) (g2.to λo e=>s3.extBut _ o (nN KM) (s2.extBut _ o (nN KM) (s1.extBut _ o (nN KM) e))) hy λu4 i4 s4=>Qh ?_);have o4:ZE u4 (N+3) x b:=s4.extBut _ _ (nN KM) o3;refine Qb (Zo o4 rfl (Qb (wpAny_updateSeq_pair o4 λu5 o5 s5=>?_)))
 replace o5:ZE u5 (N+3) x y:=o5
 refine Qb (Vn (Qh (Qh (Qb (Zo o5 rfl (Qb (wpAny_newTuple ?_)))))));have sz:u5.objs.size=s.heap.objs.size:=by rw[s5.1,s4.1,s3.1,s2.1,s1.1]
 have z5:IsZip u5 (N+4) (N+2) (N+3) .ellipsis:=s5.extBut _ _ (nN KM) (s4.extBut _ _ (nN KM) (s3.extBut _ _ (nN KM) (s2.extBut _ _ (nN KM) z1)));have k5:∀c o,c≠N+4->c≠N+3->c≠N->c≠N+1->s.heap.get? c=some o->u5.get? c=some o:=λc o c1 c2 c3 c4 e=>s5.extBut _ _ c2 (s4.extBut _ _ c4 (s3.extBut _ _ c2 (s2.extBut _ _ c3 (s1.extBut _ _ c1 e))));have a5:SIt t u5 N l1 (k+1):=i2.to λo e=>s5.extBut _ o (nN KM) (s4.extBut _ o (nN KM) (s3.extBut _ o (nN KM) e));have b5:SIt t u5 (N+1) l2 (k+1):=i4.to λo e=>s5.extBut _ o (nN KM) e;have zl:N+4<u5.objs.size:=Qo z5
 change Qf _ _ (Builtin.SmallTypes.ownedTupleHandOut (.ref (N+4)) (.ref u5.objs.size)>>=_) _ _ _
 refine Qb ?_;unfold Builtin.SmallTypes.ownedTupleHandOut;have z6:IsZip (u5.push { cls:=.type "tuple",data:=.seq #[x,y] }) (N+4) (N+2) (N+3) .ellipsis:=Qe _ z5;refine Qb (Kr z6 (by simp) λu7 z7 s7=>?_)
 replace z7:IsZip u7 (N+4) (N+2) (N+3) (rawInt u5.objs.size):=z7
 refine Kr z7 (by simp) λu8 z8 s8=>?_
 replace z8:IsZip u8 (N+4) (N+2) (N+3) (rawInt u5.objs.size):=z8
 have up:∀c o,c≠N+4->u5.get? c=some o->u8.get? c=some o:=λc o c1 e=>s8.extBut _ _ c1 (s7.extBut _ _ c1 (Qe _ e));have t8:ZE u8 u5.objs.size x y:=s8.extBut _ _ (nN KM) (s7.extBut _ _ (nN KM) (Qq _ rfl));rw[sz] at z8 t8;refine Qh ⟨_,rfl,?_⟩;change Q (.ref u5.objs.size) _;rw[sz];exact q u8 z8 (up _ _ (nN KM) o5) (a5.to λo e=>up _ o (nN KM) e) (b5.to λo e=>up _ o (nN KM) e) t8 λc o c1 c2 c3 c4 e=>up c o c1 (k5 c o c1 c2 c3 c4 e)
theorem Gh{t:Bool}{N l1 l2:Nat}{k:Nat}{xs ys:Array Qa}{a b:Qa}{Q:Fin->Qd->Prop}(hh:A.handled=none)(p1:l1<N)(p2:l2<N)(hz:IsZip s.heap (N+4) (N+2) (N+3) .none)
  (hI:ZE s.heap (N+2) (.ref N) (.ref (N+1))) (hO:ZE s.heap (N+3) a b) (h1:SIt t s.heap N l1 k) (h2:SIt t s.heap (N+1) l2 k) (g1:SSq t s.heap l1 xs) (g2:SSq t s.heap l2 ys) (he:xs[k]?=none\/ys[k]?=none)
  (q:∀h' e,(∀c o,c≠N+4->c≠N+3->c≠N->c≠N+1->s.heap.get? c=some o->h'.get? c=some o)->(∃o,h'.get? e=some o/\o.cls=.type "StopIteration")->E (.ref e) { s with heap:=h' }) :
  Qf (Qj prog w) A (Builtin.«zip.__next__» ⟨[.ref (N+4)],[]⟩) Q E s:=by
 change Qf _ _ (field (.ref (N+4)) 2>>=_) _ _ _
 refine Qb (Q5 hz rfl (x:=.bool false) rfl ?_);change Qf _ _ (field (.ref (N+4)) 3>>=_) _ _ _;refine Qb (Q5 hz rfl (x:=.ref (N+2)) rfl (Qb (Zo hI rfl ?_)))
 change Qf _ _ (ZI (.ref (N+4))>>=_) _ _ _
 refine Qb ?_;unfold ZI;refine Qb (Q5 hz rfl (x:=.none) rfl (Qh ?_));simp only[if_true];refine Qb (wpAny_rule (Qb (Q5 hz rfl (x:=.ref (N+3)) rfl (Qb (Kr hz (by simp) λu1 z1 s1=>?_)))))
 replace z1:IsZip u1 (N+4) (N+2) (N+3) .ellipsis:=z1
 refine Qb ?_;simp only[List.forIn_cons,List.forIn_nil,List.zipIdx_cons,List.zipIdx_nil];refine Qb (Qb (wpAny_onRaise ?_));change Qf _ _ (QW (.ref N)>>=_) _ _ _
 have fin:∀{h h':Heap} {e:Addr},IsZip h (N+4) (N+2) (N+3) .ellipsis->ZP (N+4) h h'->(∃o,h.get? e=some o/\o.cls=.type "StopIteration")->∃o,h'.get? e=some o/\o.cls=.type "StopIteration":=λ{h h' e} hz sb ⟨o,h1,h2⟩=>
  ⟨o,sb.extBut _ _ (λz=>by rw[z,hz] at h1;cases h1;simp at h2) h1,h2⟩
 cases ex:xs[k]? with
 |none=>
  refine Qb (wU hh (h1.to λo e=>s1.extBut _ o (nN KM) e) (g1.to λo e=>s1.extBut _ o (nN KM) e) ex λu2 e s2 he=>?_);have z2:IsZip u2 (N+4) (N+2) (N+3) .ellipsis:=s2 _ _ (nN KM) z1;exact Kr z2 (by simp) λu3 _ s3=>q u3 e (λc o c1 _ c3 _ x=>s3.extBut _ _ c1 (s2 _ _ c3 (s1.extBut _ _ c1 x))) (fin z2 s3 he)
 |some x=>
  have ey:ys[k]?=none:=by
   rcases he with z | z
   ·rw[ex] at z;cases z
   ·exact z
  refine Qb (GN (h1.to λo e=>s1.extBut _ o (nN KM) e) (g1.to λo e=>s1.extBut _ o (nN KM) e) ex λu2 i2 s2=>Qh ?_);have o2:ZE u2 (N+3) a b:=s2.extBut _ _ (nN KM) (s1.extBut _ _ (nN KM) hO);refine Qb (Zo o2 rfl (Qb (wpAny_updateSeq_pair o2 λu3 o3 s3=>?_)));refine Qb (Vn (Qh (Qb (Qb (wpAny_onRaise ?_)))))
  change Qf _ _ (QW (.ref (N+1))>>=_) _ _ _
  refine Qb (wU hh (h2.to λo e=>s3.extBut _ o (nN KM) (s2.extBut _ o (nN KM) (s1.extBut _ o (nN KM) e))) (g2.to λo e=>s3.extBut _ o (nN KM) (s2.extBut _ o (nN KM) (s1.extBut _ o (nN KM) e))) ey λu4 e s4 he=>?_);have z4:IsZip u4 (N+4) (N+2) (N+3) .ellipsis:=s4 _ _ (nN KM) (s3.extBut _ _ (nN KM) (s2.extBut _ _ (nN KM) z1));exact Kr z4 (by simp) λu5 _ s5=>q u5 e (λc o c1 c2 c3 c4 x=>s5.extBut _ _ c1 (s4 _ _ c4 (s3.extBut _ _ c2 (s2.extBut _ _ c3 (s1.extBut _ _ c1 x))))) (fin z4 s5 he)
theorem GP{t:Bool}{N l1 l2:Nat}{k:Nat}{xs ys:Array Qa}{x y a b:Qa}{Q:Option Qa->Qd->Prop}(p1:l1<N)(p2:l2<N)(hz:IsZip s.heap (N+4) (N+2) (N+3) .none)
  (hI:ZE s.heap (N+2) (.ref N) (.ref (N+1))) (hO:ZE s.heap (N+3) a b) (h1:SIt t s.heap N l1 k) (h2:SIt t s.heap (N+1) l2 k) (g1:SSq t s.heap l1 xs) (g2:SSq t s.heap l2 ys) (hx:xs[k]?=some x) (hy:ys[k]?=some y)
  (q:∀h',IsZip h' (N+4) (N+2) (N+3) (rawInt s.heap.objs.size)->ZE h' (N+3) x y->SIt t h' N l1 (k+1)->SIt t h' (N+1) l2 (k+1)->ZE h' s.heap.objs.size x y->
   (∀c o,c≠N+4->c≠N+3->c≠N->c≠N+1->s.heap.get? c=some o->h'.get? c=some o)->Q (some (.ref s.heap.objs.size)) { s with heap:=h' }) :
  Qf (Qj prog w) A (pyNext (.ref (N+4))) Q E s:=by
 have ty:s.TypeIs (.ref (N+4)) "zip":=⟨_,hz,rfl⟩;unfold pyNext;exact Qb (Vk (ZL (name:=Z2 "__next__") ty F.slot_zip_next (KY F.slot_zip_next ty F.entry_zip_next (EL p1 p2 hz hI hO h1 h2 g1 g2 hx hy λh' a1 a2 a3 a4 a5 a6=>Qh (q h' a1 a2 a3 a4 a5 a6)) (F.args_zip_next_1 _))))
theorem xR{t:Bool}{N l1 l2:Nat}{k:Nat}{xs ys:Array Qa}{a b:Qa}{Q:Option Qa->Qd->Prop}(hh:A.handled=none)(p1:l1<N)(p2:l2<N)(hz:IsZip s.heap (N+4) (N+2) (N+3) .none)
  (hI:ZE s.heap (N+2) (.ref N) (.ref (N+1))) (hO:ZE s.heap (N+3) a b) (h1:SIt t s.heap N l1 k) (h2:SIt t s.heap (N+1) l2 k) (g1:SSq t s.heap l1 xs) (g2:SSq t s.heap l2 ys) (he:xs[k]?=none\/ys[k]?=none)
  (q:∀h',(∀c o,c≠N+4->c≠N+3->c≠N->c≠N+1->s.heap.get? c=some o->h'.get? c=some o)->Q none { s with heap:=h' }):Qf (Qj prog w) A (pyNext (.ref (N+4))) Q E s:=by
 have ty:s.TypeIs (.ref (N+4)) "zip":=⟨_,hz,rfl⟩;unfold pyNext;refine Qb (Vk (ZL (name:=Z2 "__next__") ty F.slot_zip_next (KY F.slot_zip_next ty F.entry_zip_next (Gh hh p1 p2 hz hI hO h1 h2 g1 g2 he λh' e hk ⟨o,w1,w2⟩=>?_) (F.args_zip_next_1 _))));exact Qb (wpAny_isInstance (T:="StopIteration") (b:=true) ⟨o,w1,w2⟩ isSubtype_stop (Qh (q _ hk)))
end
noncomputable def qm(t:Bool)(h:Heap)(l1 l2:Addr):Heap:=
 ((((h.push { cls:=.type (if t then "tuple_iterator" else "list_iterator"),data:=.fields #[.ref l1,.int 0 0] }).push { cls:=.type (if t then "tuple_iterator" else "list_iterator"),data:=.fields #[.ref l2,.int 0 0] }).push
  { cls:=.type "tuple",data:=.seq #[.ref h.objs.size,.ref (h.objs.size+1)] }).push { cls:=.type "tuple",data:=.seq #[.none,.none] }).push
  { cls:=.type "zip",data:=.fields #[.none,.bool false,.bool false,.ref (h.objs.size+2),.ref (h.objs.size+3)] }
theorem CB(l1 l2:Addr)(xs ys:Array Qa):Meets (Builtin.«zip.__new__» ⟨[.type "zip",.ref l1,.ref l2],[]⟩) (λ_ R s=>s.heap.IsTuple l1 xs/\s.heap.IsTuple l2 ys/\
   R (.ok (.ret (.ref (s.heap.objs.size+4)))) { s with heap:=qm true s.heap l1 l2 }):=
 .of_wp λprog w A R s h=>by
  obtain⟨hp,g,d,tk,os⟩:=s;obtain⟨q1,q2,h⟩:=h;have hsub:=sub_zip;have w1:Heap.IsTuple (Shared.heap ⟨hp,g,d,tk,os⟩) l1 xs:=q1;have w2:Heap.IsTuple (Shared.heap ⟨hp.push { cls:=.type "tuple_iterator",data:=.fields #[.ref l1,.int 0 0] },g,d,tk,os⟩) l2 ys:=Heap.IsTuple.push q2 _
  wp_walk using Vu w1,Vu w2
  simp only[Za] at *;exact⟨_,rfl,h⟩
theorem Cw(t:Bool)(h:Heap)(l1 l2:Addr):IsZip (qm t h l1 l2) (h.objs.size+4) (h.objs.size+2) (h.objs.size+3) .none/\ZE (qm t h l1 l2) (h.objs.size+2) (.ref h.objs.size) (.ref (h.objs.size+1))/\
  ZE (qm t h l1 l2) (h.objs.size+3) .none .none/\SIt t (qm t h l1 l2) h.objs.size l1 0/\SIt t (qm t h l1 l2) (h.objs.size+1) l2 0/\∀c o,h.get? c=some o->(qm t h l1 l2).get? c=some o:=by
 have lay:∀(g:Heap) (o:Obj) (n:Nat),g.objs.size=n->o.isFreed=false->(g.push o).get? n=some o:=λg o n e f=>by rw[<-e];exact Qq _ f
 unfold qm;refine⟨lay _ _ _ (by simp[Za]) rfl,?_,?_,?_,?_,λc o e=>?_⟩
 ·exact Qe _ (Qe _ (lay _ _ _ (by simp[Za]) rfl))
 ·exact Qe _ (lay _ _ _ (by simp[Za]) rfl)
 ·cases t<;>exact⟨_,Qe _ (Qe _ (Qe _ (Qe _ (lay _ _ _ rfl rfl)))),rfl,rfl⟩
 ·cases t<;>exact⟨_,Qe _ (Qe _ (Qe _ (lay _ _ _ (by simp[Za]) rfl))),rfl,rfl⟩
 ·exact Qe _ (Qe _ (Qe _ (Qe _ (Qe _ e))))
theorem AW{prog:Qr}{w:Qx}{A:QB}{E:Qa->Qd->Prop}{s:Qd}{t:Bool}{l1 l2:Addr}{xs ys:Array Qa}{Q:Qa->Qd->Prop}(g1:SSq t s.heap l1 xs)(g2:SSq t s.heap l2 ys)
  (q:∀h',IsZip h' (s.heap.objs.size+4) (s.heap.objs.size+2) (s.heap.objs.size+3) .none->ZE h' (s.heap.objs.size+2) (.ref s.heap.objs.size) (.ref (s.heap.objs.size+1))->ZE h' (s.heap.objs.size+3) .none .none->
   SIt t h' s.heap.objs.size l1 0->SIt t h' (s.heap.objs.size+1) l2 0->(∀c o,s.heap.get? c=some o->h'.get? c=some o)->Q (.ref (s.heap.objs.size+4)) { s with heap:=h' }):Qf (Qj prog w) A (call (.type "zip") [.ref l1,.ref l2]) Q E s:=by
 cases t with
 |false=>exact call_zip_2 g1 g2 λh' a1 a2 a3 a4 a5 _ a6=>q h' a1 a2 a3 a4 a5 a6
 |true=>
  obtain⟨a1,a2,a3,a4,a5,a6⟩:=Cw true s.heap l1 l2;exact callType_new F.called_zip KE (F.typeCall_zip_2 _ _) (F.newCall_zip_2 _ _) (λob=>F.args_object_init_3 ob _ _) F.entry_zip_new (CB l1 l2 xs ys) ⟨g1,g2,⟨_,a1,rfl⟩,q _ a1 a2 a3 a4 a5 a6⟩
theorem jz{X:Cx}{pins:List Vz}{σ:L2.St}{H:Hp}{s:Qd}{h':Heap}{t':Nat}{fp:List Addr}(I:Inv X pins σ H s)(k:∀b o,b∉fp->s.heap.get? b=some o->h'.get? b=some o)(hf:∀b∈fp,nQ X pins H b):Inv X pins σ H { s with heap:=h',toks:=t' }:=by
 refine I.step (g':=s.gens) (d':=s.drawn) (ch:=fp) (λb hb=>⟨(hf b hb).2.2.2.1,(hf b hb).2.1,(hf b hb).2.2.2.2.1,(hf b hb).2.2.2.2.2⟩) (λb o _ _ hc e _=>k b o hc e) (λb o _ _ hc e _=>⟨o.slots,k b o hc e⟩) (λ_ _ _ _ n=>n) (λb o hc e=>⟨o,k b o hc e⟩) (λ_ _ e=>e) (λ_ _ _ e=>e)
  (λb ps e=>⟨#[],by rw[e];simp⟩) (λm hm=>?_) (λb u e=>?_) I.bare
 ·obtain⟨o,es,ep,ho,r⟩:=hm
  exact⟨o,es,ep,k _ o (λz=>(hf _ z).2.1 rfl) ho,r⟩
 ·refine(I.hok b u e).stay (λc v hc q=>k c v (λz=>?_) q) (λ_ q=>q) λ_ _ q=>q
  have nc:=(hf c z).1;rcases hc with w | w
  ·rw[w,e] at nc;cases nc
  ·rw[w] at nc;cases nc
noncomputable def Itz(t:Bool)(K:Qc)(l1 l2:Addr):It:=
 ⟨λi H=>∃xs ys x y,SqB t K H l1 xs/\SqB t K H l2 ys/\xs[i]?=some x/\ys[i]?=some y,
  λi H v H'=>∃p x y,v=.ref p/\H p=none/\H'=upd H p (.tup [x,y])/\(∀xs,SqB t K H l1 xs->xs[i]?=some x)/\(∀ys,SqB t K H l2 ys->ys[i]?=some y),
  λi H=>∃xs ys,SqB t K H l1 xs/\SqB t K H l2 ys/\(xs.length<=i\/ys.length<=i)⟩
noncomputable def zfp(N:Nat):List Addr:=[N+4,N+2,N+3,N,N+1]
theorem By{P:Qr}{w:Qx}{K:Qc}{es:List Expr}{k0:Nat}{tpos:Pos}(t:Bool)(N l1 l2:Nat)(p1:l1<N)(p2:l2<N) :
  Turn P w K (.Tuple es k0 tpos) (Itz t K l1 l2) (zfp N) (N+4) (λi h=>IsZip h (N+4) (N+2) (N+3) .none/\ZE h (N+2) (.ref N) (.ref (N+1))/\(∃a b,ZE h (N+3) a b)/\SIt t h N l1 i/\SIt t h (N+1) l2 i) where
 mem:=by simp[zfp]
 obj:=λi h ⟨h1,h2,⟨a,b,h3⟩,h4,h5⟩ c hc=>by
  simp only[zfp,Ql,Qw,or_false] at hc;rcases hc with rfl | rfl | rfl | rfl | rfl
  ·exact⟨_,h1,λv z=>by cases(show Data.fields _=Data.cell v from z)⟩
  ·exact⟨_,h2,λv z=>by cases(show Data.seq _ _=Data.cell v from z)⟩
  ·exact⟨_,h3,λv z=>by cases(show Data.seq _ _=Data.cell v from z)⟩
  ·exact h4.there
  ·exact h5.there
 keep:=λi h h' ⟨h1,h2,⟨a,b,h3⟩,h4,h5⟩ k=>⟨k _ (by simp[zfp]) _ h1,k _ (by simp[zfp]) _ h2,⟨a,b,k _ (by simp[zfp]) _ h3⟩,h4.to λo e=>k _ (by simp[zfp]) o e,h5.to λo e=>k _ (by simp[zfp]) o e⟩
 item:=by
  intro X hP hw hK hc i pins s σ H E I hf st hg;subst hP hw hK;obtain⟨h1,h2,⟨a,b,h3⟩,h4,h5⟩:=st;obtain⟨xs,ys,x,y,q1,q2,ex,ey⟩:=hg;obtain⟨is1,r1,g1⟩:=jO I q1;obtain⟨is2,r2,g2⟩:=jO I q2;obtain⟨u,eu,ru⟩:=r1.get ex;obtain⟨v,ev,rv⟩:=r2.get ey;refine GP p1 p2 h1 h2 h3 h4 h5 g1 g2 (x:=u) (y:=v) (by simpa using eu) (by simpa using ev) λh' a1 a2 a3 a4 a5 a6=>⟨_,rfl,?_⟩;refine wpAny_letOwnedTupleGo_zip (s:={ s with heap:=h' }) a1 λh'' b1 b2=>?_;have zl:N+4<s.heap.objs.size:=Qo h1;have nn:H s.heap.objs.size=none:=I.hok.fresh (Qm _)
  have I1:Inv X pins σ (upd H s.heap.objs.size (.tup [x,y])) { s with heap:=s.heap.push { cls:=.type "tuple",data:=.seq #[u,v] } }:=
   I.laid (t':=s.toks) (λb o e=>Qe _ e) (Qm _) ⟨show 2<=Qk by decide,[u,v],.cons ru (.cons rv .nil),⟨_,Qq _ rfl,rfl,_,rfl⟩⟩
  have ne:∀b∈zfp N,b≠s.heap.objs.size:=λc hc=>by
   simp only[zfp,Ql,Qw,or_false] at hc;rcases hc with rfl | rfl | rfl | rfl | rfl<;>exact nN (by lia)
  have f1:∀b∈zfp N,nQ X pins (upd H s.heap.objs.size (.tup [x,y])) b:=λc hc=>⟨by rw[az (ne c hc)];exact(hf c hc).1,(hf c hc).2⟩
  have k2:∀c o,c∉zfp N->(s.heap.push { cls:=.type "tuple",data:=.seq #[u,v] }).get? c=some o->h''.get? c=some o:=λc o hc e=>by
   simp only[zfp,Ql,Qw,or_false,not_or] at hc;obtain⟨c1,c2,c3,c4,c5⟩:=hc;refine b2.extBut _ _ c1 ?_
   by_cases z:c=s.heap.objs.size
   ·subst z
    rw[Qq _ rfl] at e;cases e;exact a5
   ·exact a6 c o c1 c3 c4 c5 ((Heap.get?_push_ne _ _ _ z).symm.trans e)
  have I2:=jz (h':=h'') (t':=s.toks) I1 k2 f1;refine⟨.ref s.heap.objs.size,_,I2,rfl,⟨_,x,y,rfl,nn,rfl,λzs hz=>?_,λzs hz=>?_⟩,⟨b1,b2.extBut _ _ (nN KM) (a6 _ _ (nN KM) (nN KM) (nN KM) (nN KM) h2),⟨_,_,b2.extBut _ _ (nN KM) a2⟩,a3.to λo e=>b2.extBut _ o (nN KM) e,a4.to λo e=>b2.extBut _ o (nN KM) e⟩,λc hc=>(f1 c hc).1⟩
  ·rw[oG I hz q1];exact ex
  ·rw[oG I hz q2];exact ey
 done:=by
  intro X hP hw hK hc i pins s σ H E I hf st hg;subst hP hw hK;obtain⟨h1,h2,⟨a,b,h3⟩,h4,h5⟩:=st;obtain⟨xs,ys,q1,q2,he⟩:=hg;obtain⟨is1,r1,g1⟩:=jO I q1;obtain⟨is2,r2,g2⟩:=jO I q2;have n1:=r1.length;have n2:=r2.length;refine xR (I.ok.hd hc) p1 p2 h1 h2 h3 h4 h5 g1 g2 (he.elim (λz=>.inl (by simp;lia)) λz=>.inr (by simp;lia)) λh' hk=>⟨rfl,jz (t':=s.toks) I (λc o hc e=>?_) hf⟩;simp only[zfp,Ql,Qw,or_false,not_or] at hc;exact hk c o hc.1 hc.2.2.1 hc.2.2.2.1 hc.2.2.2.2 e
 self:=λ_ _ _ _ _ st h=>wpAny_pyIter_zip st.1 h
section
variable{X:Cx}{a b:Expr}{pos:Pos}
noncomputable def IE(K:Qc)(ta:TA):TI:=λσ H R=>ta σ H λvs H1=>∃t l1 l2 xs ys,vs=[.ref l1,.ref l2]/\SqB t K H1 l1 xs/\SqB t K H1 l2 ys/\R (Itz t K l1 l2) H1
theorem Gp{es:List Expr}{k0:Nat}{tpos p:Pos}{ta:TA}(hg:Gl X "zip")(hm:X.mg "zip" = none)(ha:PA X [a,b] ta)(hs:Qg [a,b] X.env=[(false,eval a X.env),(false,eval b X.env)]:=by rfl)(hs2:Qg [b] X.env=[(false,eval b X.env)]:=by rfl) :
  PI X (.Tuple es k0 tpos) (.Call (.Name "zip" p) [a,b] [] pos) (IE X.K ta):=by
 intro pins s σ H R I h;refine Call_ (mX I hg hm boot_zip (Km (thn (ha pos pins s σ H _ I h) λus s1 ⟨vs,H1,I1,r1,q1⟩=>?_) (by rw[hs,hs2]) (by rw[hs2];rfl)));obtain⟨t,l1,l2,xs,ys,e,q1,q2,q⟩:=q1;subst e
 cases r1 with | cons r rr=>cases rr with | cons r' rr=>
  cases rr;cases r;cases r';obtain⟨is1,w1,g1⟩:=jO I1 q1;obtain⟨is2,w2,g2⟩:=jO I1 q2;refine AW g1 g2 λh' a1 a2 a3 a4 a5 a6=>wpAny_pyIter_zip a1 ?_;refine⟨s1.heap.objs.size+4,zfp s1.heap.objs.size,_,_,H1,rfl,I1.kept (t':=s1.toks) a6,By t s1.heap.objs.size l1 l2 g1.lt g2.lt,⟨a1,a2,⟨_,_,a3⟩,a4,a5⟩,λc hc=>?_,q⟩
  have lc:s1.heap.objs.size<=c:=by
   simp only[zfp,Ql,Qw,or_false] at hc;rcases hc with rfl | rfl | rfl | rfl | rfl<;>(show @LE.le Nat _ _ _;lia)
  exact I1.fpOk lc (I1.hok.fresh lc)
noncomputable def rG(xs ys:List D):List D:=List.zipWith (λx y=>D.tup [x,y]) xs ys
noncomputable def zT(f:Ev->Option (List D)):Ev->Option (List D):=λε=>match f ε with
 |some [.lst xs,.lst ys]=>some (rG xs ys)
 |some [.tup xs,.tup ys]=>some (rG xs ys)
 |_=>none
theorem Fs{K:Qc}{G:Hp}{t:Bool}{l1 l2:Addr}{xs ys:List V}{ds es:List D}(h1:SqB t K G l1 xs)(h2:SqB t K G l2 ys)(d1:DenL K G xs ds)(d2:DenL K G ys es):ItD K (Itz t K l1 l2) (rG ds es) G:=by
 intro i H2 s2
 have up:∀{l:Addr} {zs:List V},SqB t K G l zs->SqB t K H2 l zs:=λ{l zs} h=>by
  cases t with
  |true=>exact aM s2 h
  |false=>exact s2.seq h
 have n1:=d1.length;have n2:=d2.length;have nz:(rG ds es).length=min ds.length es.length:=by simp[rG]
 refine⟨λhi=>?_,λhi=>⟨xs,ys,up h1,up h2,by rw[nz] at hi;lia⟩,?_⟩
 ·rw[nz] at hi
  exact⟨xs,ys,xs[i]' KM,ys[i]' KM,up h1,up h2,by simp,by simp⟩
 ·rintro v H3 ⟨p,x,y,rfl,hn,rfl,w1,w2⟩ d ed G2 s3 s4
  have e1:=w1 xs (up h1);have e2:=w2 ys (up h2);obtain⟨d1',f1,f2⟩:=d1.getV e1;obtain⟨d2',f3,f4⟩:=d2.getV e2;have:(rG ds es)[i]?=some (.tup [d1',d2']):=by simp[rG,List.getElem?_zipWith,f1,f3]
  rw[this] at ed;cases ed;have g:=Grow.new (.tup [x,y]) s4 hn;refine⟨_,g,.tup (xs:=[x,y]) (.inl (.inl upd_same)) (.cons ((f2.mono s3).mono g.gg) (.cons ((f4.mono s3).mono g.gg) .nil))⟩
theorem Bu{es:List Expr}{k0:Nat}{tpos p:Pos}{f:Ev->Option (List D)}(h:DA X [a,b] f)(hm:X.mg "zip" = none)(hg:Gl X "zip":=by rfl)(hs:Qg [a,b] X.env=[(false,eval a X.env),(false,eval b X.env)]:=by rfl)(hs2:Qg [b] X.env=[(false,eval b X.env)]:=by rfl) :
  DI X (.Tuple es k0 tpos) (.Call (.Name "zip" p) [a,b] [] pos) (zT f):=by
 obtain⟨t,a1,a2⟩:=h;refine⟨_,Gp hg hm a1 hs hs2,λHe G H σ ε ds R gh E ef q=>?_⟩;unfold zT at ef;split at ef
 ·rename_i e1
  cases ef;refine a2 He G H σ ε _ _ gh E e1 λvs G1 H1 g1 hd=>?_
  cases hd with | cons h1 hd=>cases hd with | cons h2 hd=>
   cases hd;obtain⟨l1,xs,rfl,w1,w2⟩:=h1.lstV;obtain⟨l2,ys,rfl,w3,w4⟩:=h2.lstV;exact⟨false,l1,l2,xs,ys,rfl,g1.gh.seq w1,g1.gh.seq w3,q _ G1 H1 g1 (Fs (t:=false) w1 w3 w2 w4)⟩
 ·rename_i e1
  cases ef;refine a2 He G H σ ε _ _ gh E e1 λvs G1 H1 g1 hd=>?_
  cases hd with | cons h1 hd=>cases hd with | cons h2 hd=>
   cases hd;obtain⟨l1,xs,rfl,w1,w2⟩:=h1.tupV;obtain⟨l2,ys,rfl,w3,w4⟩:=h2.tupV;exact⟨true,l1,l2,xs,ys,rfl,aM g1.gh w1,aM g1.gh w3,q _ G1 H1 g1 (Fs (t:=true) w1 w3 w2 w4)⟩
 ·cases ef
end
noncomputable def flD:D->Option V
 |.non=>some .non
 |.bl b=>some (.bl b)
 |.int i=>some (.int i)
 |.str x=>some (.str x)
 |_=>none
noncomputable def oY:List D->Option (List V)
 |[]=>some []
 |d::ds=>(flD d).bind λv=>(oY ds).bind λr=>some (v::r)
noncomputable def JW:D->Option (List D)
 |.lst ds=>some ds
 |.tup ds=>some ds
 |_=>none
noncomputable def inD(neg:Bool):D->D->Option D:=λx y=>(flD x).bind λv=>(JW y).bind λds=>(oY ds).bind λvs=>some (.bl (if neg then !inV v vs else inV v vs))
theorem yO{K:Qc}{G:Hp}{v w:V}{d:D}(h:Den K G v d)(e:flD d=some w):v=w/\kE v=true:=by
 cases h<;>cases e<;>exact⟨rfl,rfl⟩
theorem qN{K:Qc}{G:Hp}:∀{xs:List V} {ds:List D} {ws:List V},DenL K G xs ds->oY ds=some ws->xs=ws/\xs.all kE=true
 |_,_,_,.nil,e=>by cases e;exact⟨rfl,rfl⟩
 |_,_,_,.cons h hs,e=>by
  obtain⟨v,e1,e⟩:=aq e;obtain⟨r,e2,e⟩:=aq e;cases e;obtain⟨rfl,f1⟩:=yO h e1;obtain⟨rfl,f2⟩:=qN hs e2;exact⟨rfl,by rw[Vi,f1,f2];rfl⟩
section
variable{X:Cx}{a b c:Expr}{fa fb fc:Ev->Option D}{pos:Pos}
theorem zf{neg:Bool}(G H:Hp)(x y:V)(dx dy d:D)(Q:VK)(gh:aT G H)(hx:eK X.K G H x dx)(hy:eK X.K G H y dy)(e:inD neg dx dy=some d)(q:∀v G' H',Grow G H G' H'->Den X.K G' v d->Q v H'):rIn X.K neg x y H Q:=by
 obtain⟨v,e1,e⟩:=aq e;obtain⟨ds,e2,e⟩:=aq e;obtain⟨vs,e3,e⟩:=aq e;cases e
 have hx':Den X.K G x dx:=by
  rcases hx with h | ⟨_,_,_,_,rfl,_⟩
  ·exact h
  ·cases e1
 obtain⟨rfl,f1⟩:=yO hx' e1;cases dy with
 |lst es=>
  cases e2;obtain⟨p,xs,rfl,h1,h2⟩:=hy.lst gh;obtain⟨rfl,f2⟩:=qN h2 e3;exact⟨p,_,rfl,.inl h1,f1,f2,q _ G H (.refl gh) (.bl _)⟩
 |tup es=>
  cases e2;obtain⟨p,xs,rfl,_,h1,h2⟩:=hy.tup gh;obtain⟨rfl,f2⟩:=qN h2 e3;exact⟨p,_,rfl,.inr h1,f1,f2,q _ G H (.refl gh) (.bl _)⟩
 |_=>cases e2
theorem zE:OpD X (QF .In) (inD false):=⟨_,zY,zf⟩
theorem w8:OpD X (QF .NotIn) (inD true):=⟨_,uI,zf⟩
end
section
variable{X:Cx}{a b c:Expr}{fa fb fc:Ev->Option D}{pos:Pos}
noncomputable def gw(f f':D->D->Option D)(fa fb fc:Ev->Option D):Ev->Option Bool:=λε=>asB (eCh f f' fa fb fc ε)
theorem oO{op op':CmpOp}{f f':D->D->Option D}(ho:OpD X (QF op) f)(ho':OpD X (QF op') f')(ha:DB X a fa)(hb:DB X b fb)(hc:DB X c fc)(hm:lastMarks [op,op'] [b,c]=false:=by with_unfolding_all rfl) :
  DT X (.Compare a [op,op'] [b,c] pos) (gw f f' fa fb fc):=by
 obtain⟨r,o1,o2⟩:=ho;obtain⟨r',p1,p2⟩:=ho';obtain⟨ta,a1,a2⟩:=ha;obtain⟨tb,b1,b2⟩:=hb;obtain⟨tc,c1,c2⟩:=hc;refine⟨_,Cs o1 p1 a1 b1 c1 hm,λHe G H σ ε k Q gh E ef q=>?_⟩;obtain⟨x,e1,ef⟩:=aq (wQ ef);obtain⟨y,e2,ef⟩:=aq ef;obtain⟨z,e3,ef⟩:=aq ef;refine a2 He G H σ ε x _ gh E e1 λv G1 H1 g1 d1=>?_;refine b2 He G1 H1 σ ε y _ g1.gh (E.grow g1) e2 λu G2 H2 g2 d2=>?_;split at ef
 ·rename_i j
  refine o2 G2 H2 v u x y (.bl j) _ g2.gh (d1.grow g2) d2 e3 λw G3 H3 g3 d3=>⟨j,d3.blV,?_⟩;cases j with
  |true=>
   rw[if_pos rfl] at ef ⊢;obtain⟨w',e4,ef⟩:=aq ef;refine c2 He G3 H3 σ ε w' _ g3.gh (((E.grow g1).grow g2).grow g3) e4 λv4 G4 H4 g4 d4=>?_;exact p2 G4 H4 u v4 y w' (.bl k) _ g4.gh ((d2.grow g3).grow g4) d4 ef λv5 G5 H5 g5 d5=>⟨k,d5.blV,q G5 H5 (g1.trans (g2.trans (g3.trans (g4.trans g5))))⟩
  |false=>
   rw[if_neg Qp] at ef ⊢;cases ef;exact⟨false,rfl,q _ _ (g1.trans (g2.trans g3))⟩
 ·cases ef
end
structure Wq where
 (P:Qr)
 (w:Qx)
 (K:Qc)
 (mg:Str->Option Qa)
noncomputable def FB(Z:Wq)(x:Str)(st:Stmt)(ps:List Str)(f:Addr)(fd:QY):Prop:=FA Z.K Z.mg x st ps f fd/\∀us:List Qa,us.length=ps.length->bindArgs fd ⟨us,[]⟩=pure (ps.zip us)
noncomputable def FX(Z:Wq)(x:Str)(st:Stmt)(ps:List Str):Prop:=∃f fd,FB Z x st ps f fd
noncomputable def OkD(Z:Wq)(x:Str)(st:Stmt)(ps:List Str)(n:Nat)(F:List D->Option D):Prop:=∃f fd,FB Z x st ps f fd/\∀base,FnOk Z.P Z.w Z.K Z.mg base CX0 n f fd ps (spF Z.K F)
noncomputable def OkB(Z:Wq)(x:Str)(st:Stmt)(ps:List Str)(n:Nat)(F:List D->Option D)(FO:List D->Option (List D)):Prop:=∃f fd,FB Z x st ps f fd/\(∀base,FnOk Z.P Z.w Z.K Z.mg base CX0 n f fd ps (spF Z.K F))/\∀base,FnOk Z.P Z.w Z.K Z.mg base CX0 n f fd ps (spO Z.K FO)
section
variable{Z:Wq}{x:Str}{st:Stmt}{ps N:List Str}{k:Nat}{g:Ev->Option Fl}
theorem bdF(R:FX Z x st ps)(hb:∀(d:N.Nodup) (f:Addr) (base:Heap) (cdv:Qa) (A:QB) (outer:List Env) (s:Qd) (H:Hp) (E:XK),Room k (A.deeper (ZZ x (aA st) s.heap.objs.size f cdv))->DSs (jd CX0 Z.P Z.w Z.K Z.mg base N x (aA st) f cdv A outer s H E).nox (bc st) g)
  (S:FnScope N ps (aA st):=by exact⟨rfl,rfl,rfl,by decide +kernel,rfl,by decide +kernel,by decide +kernel⟩):OkD Z x st ps (k+1) (fnD N ps g):=
 let⟨f,fd,A⟩:=R;⟨f,fd,A,λbase=>qz A.1.fu S (hb S.nd f base)⟩
theorem bdB(R:FX Z x st ps)(hb:∀(d:N.Nodup) (f:Addr) (base:Heap) (cdv:Qa) (A:QB) (outer:List Env) (s:Qd) (H:Hp) (E:XK),Room k (A.deeper (ZZ x (aA st) s.heap.objs.size f cdv))->DSs (jd CX0 Z.P Z.w Z.K Z.mg base N x (aA st) f cdv A outer s H E).nox (bc st) g)
  (S:FnScope N ps (aA st):=by exact⟨rfl,rfl,rfl,by decide +kernel,rfl,by decide +kernel,by decide +kernel⟩):OkB Z x st ps (k+1) (fnD N ps g) (fnO N ps g):=
 let⟨f,fd,A⟩:=R;⟨f,fd,A,λbase=>qz A.1.fu S (hb S.nd f base),λbase=>Br A.1.fu S (hb S.nd f base)⟩
theorem IC{P:Qr}{w:Qx}{K:Qc}{mg:Str->Option Qa}{h:Heap}{f:Addr}{oc:Qa}{od an:Option Addr}{osl:Array (Option Qa)}{kV doc pm cdv ct:Qa}(X:K.In h)(G:h.Ns Qs mg)
  (a:QE K Qs x=some (some (.ref f)))
  (l:K.lookup f=some ⟨oc,od,.func (QQ x x (cj st) (bc st) (aA st) .none kV doc pm an cdv ct),osl⟩)
  (c:Zt K cdv x=true) (k:QT K (.ref f)=true)
  (hb:∀(kV doc pm:Qa) (an:Option Addr) (cdv ct:Qa) (us:List Qa),us.length=ps.length->bindArgs (QQ x x (cj st) (bc st) (aA st) .none kV doc pm an cdv ct) ⟨us,[]⟩=pure (ps.zip us)):FX ⟨P,w,K,mg⟩ x st ps:=
 ⟨f,_,IU X G a l c k hb,hb kV doc pm an cdv ct⟩
theorem F6{P:Qr}{w:Qx}{K:Qc}{mg:Str->Option Qa}{n:Nat}{F:List D->Option D}{y:Str}{fa:Addr}(H:OkD ⟨P,w,K,mg⟩ x st [y] n F)(hfa:mg x=some (.ref fa)) :
  ∃fd:QY,(∀(s:Qd) (v:Qa),BindsTo s fd ⟨[v],[]⟩ [(y,v)])/\∀base:Heap,K.In base->base.Ns Qs mg->FnOk P w K mg base CX0 n fa fd [y] (spF K F):=by
 obtain⟨f,fd,⟨A,b⟩,G⟩:=H;have e:=A.mgf.symm.trans hfa;cases e;exact⟨fd,λs v=>.of_eq (b [v] rfl),λbase _ _=>G base⟩
end
theorem m7{α:Type}{p:List α->Prop}{n:Nat}(h:∀(a:α) (r:List α),r.length=n->p (a::r)):∀us:List α,us.length=n+1->p us
 |[],e=>by cases e
 |a::r,e=>h a r (Nat.succ.inj e)
theorem Bq{α:Type}{p:List α->Prop}(h:p []):∀us:List α,us.length=0->p us
 |[],_=>h
 |_::_,e=>by cases e
theorem AX{α:Type}{p:List α->Prop}(h:∀a0,p [a0]):∀us:List α,us.length=1->p us:=m7 λa0=>(Bq (h a0))
theorem rM{α:Type}{p:List α->Prop}(h:∀a0 a1,p [a0,a1]):∀us:List α,us.length=2->p us:=m7 λa0=>m7 λa1=>(Bq (h a0 a1))
theorem Ef{α:Type}{p:List α->Prop}(h:∀a0 a1 a2,p [a0,a1,a2]):∀us:List α,us.length=3->p us:=m7 λa0=>m7 λa1=>m7 λa2=>(Bq (h a0 a1 a2))
theorem IY{α:Type}{p:List α->Prop}(h:∀a0 a1 a2 a3,p [a0,a1,a2,a3]):∀us:List α,us.length=4->p us:=m7 λa0=>m7 λa1=>m7 λa2=>m7 λa3=>(Bq (h a0 a1 a2 a3))
theorem JL{α:Type}{p:List α->Prop}(h:∀a0 a1 a2 a3 a4,p [a0,a1,a2,a3,a4]):∀us:List α,us.length=5->p us:=m7 λa0=>m7 λa1=>m7 λa2=>m7 λa3=>m7 λa4=>(Bq (h a0 a1 a2 a3 a4))
section
variable{X:Cx}{pos p:Pos}{x:Str}{st:Stmt}{ps:List Str}{k j:Nat}{e:Expr}{es:List Expr}{g:Ev->Option (List D)}{Fn:List D->Option D}{FO:List D->Option (List D)}
theorem cF(H:OkD ⟨X.prog,X.w,X.K,X.mg⟩ x st ps j Fn)(hr:Room k X.A)(ha:DA X (e::es) g)(hj:j<=k:=by decide)(hg:Gl X x:=by rfl)(hdb:(x==("__debug__" : Str))=false:=by decide)(he:Qg (e::es) X.env=(false,eval e X.env)::Qg es X.env:=by rfl)(hpl:(QP pos (Qg es X.env)).any (·.1)=false:=by rfl) :
  DE X (.Call (.Name x p) (e::es) [] pos) (aL Fn g):=let⟨_,_,A,F⟩:=H;wV A.1 (F _) hr hj ha hg hdb he hpl
theorem cO(H:OkB ⟨X.prog,X.w,X.K,X.mg⟩ x st ps j Fn FO)(hr:Room k X.A)(ha:DA X (e::es) g)(hj:j<=k:=by decide)(hg:Gl X x:=by rfl)(hdb:(x==("__debug__" : Str))=false:=by decide)(he:Qg (e::es) X.env=(false,eval e X.env)::Qg es X.env:=by rfl)(hpl:(QP pos (Qg es X.env)).any (·.1)=false:=by rfl) :
  DF X (.Call (.Name x p) (e::es) [] pos) (pj FO g):=let⟨_,_,A,_,F⟩:=H;Cy A.1 (F _) hr hj ha hg hdb he hpl
end
end Dn
namespace Ex
open PySem PySem.Spec PyProof.Rows L2
theorem Moves.un2{fs fs':List Addr}{n:Nat}{H H':Hp}{h0 h h':Heap}(u:Un fs [] H H' h0 h)(m:Moves fs' n H' h h')(hn:h0.objs.size<=n)(h1:∀b∈fs,b∈fs')(h2:∀b∈fs',b<h0.objs.size->b∈fs):Un fs [] H H' h0 h' where
 keep:=λb o e q z y=>m.keep b o (u.keep b o e q z y) (λk=>z (h2 b k (Qo e))) (.inl (QA (Qo e) hn))
 slot:=λb o e q z y=>let⟨_,e1⟩:=u.slot b o e q z y;let⟨sl,e2⟩:=m.slot b _ e1 (h1 b z);⟨sl,e2⟩
 free:=u.free
 there:=λb o e y=>let⟨o1,e1⟩:=u.there b o e y;m.there b o1 e1
 tups:=u.tups
 frzs:=u.frzs
 tbls:=u.tbls
noncomputable def CX1(P:Qr)(w:Qx):CXT:=λouter H s E e s'=>∃a cls dx H',e=.ref a/\s'.os=s.os/\AllBare s'.gens/\Un (frs outer) [] H H' s.heap s'.heap/\HOk P w H' s'.heap/\XAt s.heap.objs.size H' s'.heap a cls dx/\E cls (some dx) H'
noncomputable def Hx(X:Cx)(E:XK):Prop:=∀(pins:List Vz) (σ:L2.St) (H:Hp) (s:Qd) (a:Addr) (cls:Qa) (dx:Addr),Inv X pins σ H s->XAt X.s₀.heap.objs.size H s.heap a cls dx->E cls (some dx) H->X.xe (.ref a) s
theorem nH{P:Qr}{w:Qx}{K:Qc}{mg:Str->Option Qa}{base:Heap}{N:List Str}{qual:Str}{scope:Scope}{f:Addr}{cd:Qa}{A:QB}{outer:List Env}{s:Qd}{H:Hp}{E:XK} :
  Hx (jd (CX1 P w) P w K mg base N qual scope f cd A outer s H E) E:=by
 intro pins σ H' s' a cls dx I x q;refine Cu (n:=s.heap.objs.size) (H:=H') I.ok.frames I.stack rfl (λb hb=>I.hok.fresh hb) x λh' m y=>?_;refine⟨a,cls,dx,H',rfl,I.os,I.bare,m.un2 I.base (Qm _) (λb z=>?_) (λb z l=>?_),m.hok I.stkFree I.hok,y,q⟩
 ·exact Qv _ z
 ·rcases Ql.mp (show b∈s.heap.objs.size::frs outer from z) with e | e
  ·exact absurd (e▸l) (Zb _)
  ·exact e
theorem pH{X:Cx}{E:XK}(h:Hx X E):kb (CX1 X.prog X.w) X E:=by
 rintro pins σ H s e s' I ⟨a,cls,dx,H',rfl,os,bare,un,hok,x,q⟩;exact h pins σ H' s' a cls dx (I.call' os un hok bare λb z=>absurd z (by simp)) (x.le I.sz) q
theorem jx{P:Qr}{w:Qx}{K:Qc}{mg:Str->Option Qa}{base:Heap}{N:List Str}{qual:Str}{scope:Scope}{f:Addr}{cd:Qa}{A:QB}{outer:List Env}{s:Qd}{H:Hp}{E:XK}{CX:CXT} :
  PassesOwn (Qj P w) (jd CX P w K mg base N qual scope f cd A outer s H E).A (jd CX P w K mg base N qual scope f cd A outer s H E).env (jd CX P w K mg base N qual scope f cd A outer s H E).xe:=PassesOwn.leaving
structure XC(K:Qc)(C:Addr)(cd:ClassData):Prop where
 cls:ZG K C=some cd
 sa:Qi K (.ref C) "__setattr__" = some (some (.builtin "object.__setattr__"))
 obj:ZH K C (.type "object")=some true
 refuse:∀self,refuseLoop self "__setattr__" cd.mro=pure ()
 dict:cd.hasDict=true
section
variable{prog:Qr}{w:Qx}{A:QB}{E:Qa->Qd->Prop}{s:Qd}{K:Qc}{C x:Addr}{cd:ClassData}{mA:Str->Option Qa}{name:Str}{v:Qa}
theorem AI(I:s.heap.Inst x C mA):∃ox od,Vb s.heap x ox C od:=by
 obtain⟨o,e,c,nc,d⟩:=I
 have no:Zp o=true:=by
  unfold Zp;split
  ·rename_i z;exact absurd z (nc _)
  ·rfl
 rcases d with⟨d,_⟩ | ⟨dx,d,_,⟨od,_,_,eo,_⟩⟩
 ·exact⟨o,none,e,c,no,by rw[d];trivial⟩
 ·exact⟨o,some od,e,c,no,by rw[d];exact eo⟩
theorem Ie{M:Model}{A:QB}{E:Qa->Qd->Prop}{s:Qd}{α:Type}{d:Data}{r:α}{k:Sem α}{Q:α->Qd->Prop}(nc:∀c,d≠.cls c)(h:Qf M A k Q E s):Qf M A (match d with | .cls _=>pure r | _=>k) Q E s:=by
 cases d<;>first | exact h | exact absurd rfl (nc _)
theorem BP{dx:Addr}{m:Str->Option Qa}{ns:List Str}{tk:Tok}{Q:Fin->Qd->Prop}(hn:s.heap.Ns1 dx m)(hw:Va m ns)(hz:ns.length+1<=Qk)
  (hq:∀h' t,h'.Ns1 dx (λy=>if y=name then some v else m y)->ZP dx s.heap h'->Q (.done (.ret .none)) { s with heap:=h',toks:=t }):Qf (Qj prog w) A (Builtin.ObjectAttr.storeInDict dx (.str name tk) name v) Q E s:=by
 unfold Builtin.ObjectAttr.storeInDict;refine Qb (Qh (Qb (wpAny_nsSet1 hn λh' n2 sb=>?_)));obtain⟨o,es,ep,e1,e2,e3⟩:=n2.count (PySem.Within.cons name v hw);refine Qb (wpAny_lookBehind e1 ?_ (Qh (hq h' _ n2 sb)));rw[e2];exact pastItsLine_dict (QO e3 (Nat.le_succ_of_le hz))
theorem Ji{ns:List Str}{Q:Unit->Qd->Prop}(X:K.In s.heap)(c:XC K C cd)(hf:Qi K (.ref C) name=some none)(I:s.heap.Inst x C mA)(hw:Va mA ns)(hz:ns.length+1<=Qk)
  (hq:∀h' t,h'.Inst x C (λy=>if y=name then some v else mA y)->(∀b o,b≠x->(∀o0 dx,s.heap.get? x=some o0->o0.dict=some dx->b≠dx)->s.heap.get? b=some o->h'.get? b=some o)->
   (∀o0,s.heap.get? x=some o0->∃d,h'.get? x=some { o0 with dict:=some d }/\(o0.dict=none->s.heap.objs.size<=d)/\∀d0,o0.dict=some d0->d=d0)->Q () { s with heap:=h',toks:=t }) :
  Qf (Qj prog w) A (setAttr (.ref x) name v) Q E s:=by
 obtain⟨ox,od,J⟩:=AI I;refine PySem.W.set_plain X J c.sa ?_;have W0:=PySem.F.store_object;have inst:PySem.W.Looks (Qj prog w) s.heap (isInstance (.ref x) (.type "object")) true:=J.type.andThen (PySem.W.looks_mroIn X c.obj);refine Vh W0.slot.plain W0.entry (@PySem.W.check_slot (Qj prog w) _ _ { s with toks:=s.toks+1 } "object.__setattr__" "object" "__setattr__" (.ref x) [.str name s.toks,v] [] _ W0.kind W0.split inst (W0.args (.ref x) (.str name s.toks) v) ?_);rw[PySem.W.osa_eq,refuse_eq];refine Qb (Qb (Kn (s:={ s with toks:=s.toks+1 }) J.type (Qb (Kn (s:={ s with toks:=s.toks+1 }) ((PySem.W.looks_clsIn X c.cls).andThen .now) ?_))));rw[c.refuse];refine Qh (Qb (Kn (s:={ s with toks:=s.toks+1 }) J.type (Qb (Kn (s:={ s with toks:=s.toks+1 }) (KH X hf) (Qb (Qh ?_))))));obtain⟨o,ho,hc,nc,hd⟩:=I;obtain⟨oc,odi,oda,osl⟩:=o;dsimp only at hc nc hd;subst hc;have cl:=PySem.W.looks_clsIn (M:=Qj prog w) X c.cls;refine Qb (Qh (Qb (Qb (wpAny_loadPart (s:={ s with toks:=s.toks+1 }) ho (Qb (Kn (s:={ s with toks:=s.toks+1 }) cl ?_))))));rw[c.dict];rcases hd with⟨hd,hm⟩ | ⟨dx,hd,ne,hn⟩
 ·subst hd
  rw[if_neg KE];dsimp only;rw[if_neg (by simp[typeHasDict])];have xs:x≠s.heap.objs.size:=QC (Qo ho);refine Ie nc (Qb (wpAny_alloc ?_));have ho1:(s.heap.push { cls:=.type "dict",data:=.dict #[] }).get? x=some { cls:=.ref C,data:=oda,slots:=osl }:=Qe _ ho;refine Qb (wpAny_update ho1 (Qh (a:=some s.heap.objs.size) ?_))
  have selfx:=Zm (λo=>{ cls:=o.cls,dict:=some s.heap.objs.size,data:=o.data,slots:=o.slots }) ho1 (by
   have z:=(Heap.get?_some_iff.mp ho).2
   cases oda<;>first | rfl | exact z)
  have n0:((s.heap.push { cls:=.type "dict",data:=.dict #[] }).update x λo=>{ cls:=o.cls,dict:=some s.heap.objs.size,data:=o.data,slots:=o.slots }).Ns s.heap.objs.size (λ_=>none):=
   ⟨_,#[],_,(QG _ _ xs).trans (Qq _ rfl),rfl,λe he=>absurd he (by simp),λ_=>rfl⟩
  refine BP (ns:=[]) (s:=⟨(s.heap.push { cls:=.type "dict",data:=.dict #[] }).update x λo=>{ cls:=o.cls,dict:=some s.heap.objs.size,data:=o.data,slots:=o.slots },s.gens,s.drawn,s.toks+1,s.os⟩) (Heap.Ns1.of_empty n0) PySem.Within.nil KE λh' t n2 sb=>?_;have hx':=(sb.2 x xs).trans selfx;refine hq h' t ⟨_,hx',rfl,nc,.inr ⟨_,rfl,Ne.symm xs,?_⟩⟩ (λb o nb _ e=>?_) λo0 e0=>?_
  ·obtain⟨o',es,ep,e1,e2,e3,e4,e5⟩:=n2
   refine⟨o',es,ep,e1,e2,e3,e4,λy=>(e5 y).trans ?_⟩
   by_cases z:y=name
   ·simp[z]
   ·simp[z,hm]
  ·exact(sb.2 b (QC (Qo e))).trans ((QG _ _ (Ne.symm nb)).trans (Qe _ e))
  ·obtain rfl:=Option.some.inj (ho.symm.trans e0)
   exact⟨_,hx',λ_=>Qm _,λd0 z=>(by cases z)⟩
 ·subst hd
  refine Qh (a:=(some dx)) (?_);refine BP (s:={ s with toks:=s.toks+1 }) hn hw hz λh' t n2 sb=>?_;refine hq h' t ⟨_,(sb.2 x (Ne.symm ne)).trans ho,rfl,nc,.inr ⟨dx,rfl,ne,n2⟩⟩ (λb o _ nb e=>(sb.2 b (nb _ dx ho rfl)).trans e) λo0 e0=>?_;obtain rfl:=Option.some.inj (ho.symm.trans e0);exact⟨dx,(sb.2 x (Ne.symm ne)).trans ho,λz=>(by cases z),λd0 z=>(Option.some.inj z)⟩
end
structure XG(K:Qc)(C:Addr):Prop where
 ga:Qi K (.ref C) "__getattribute__" = some (some (.builtin "BaseException.__getattribute__"))
 no:Qi K (.ref C) "__getattr__" = some none
 exc:ZH K C (.type "BaseException")=some true
 dict:Zu K C=true
theorem FK:builtinKind "BaseException.__getattribute__" = some .slot:=by decide +kernel
theorem Fv:splitId "BaseException.__getattribute__" = some ("BaseException","__getattribute__"):=by decide +kernel
theorem FW:(Value.builtin "BaseException.__getattribute__" == Value.builtin "object.__getattribute__")=false:=by decide +kernel
section
variable{prog:Qr}{w:Qx}{A:QB}{E:Qa->Qd->Prop}{s:Qd}{K:Qc}{C x dx:Addr}{o:Obj}{mA:Str->Option Qa}{name:Str}{v:Qa}{b:Bool}
theorem Jv{Q:Qa->Qd->Prop}(X:K.In s.heap)(c:XG K C)(hf:Qi K (.ref C) name=some none)(ho:s.heap.get? x=some o)(hc:o.cls=.ref C)(nc:Zp o=true)(hd:o.dict=some dx)
  (hn:s.heap.Ns1 dx mA) (hv:mA name=some v) (hh:PySem.W.handedIn v=true) (hq:Q v { s with toks:=s.toks+1 }):Qf (Qj prog w) A (getAttr (.ref x) name b) Q E s:=by
 obtain⟨od,e,hl⟩:=oU hn;have J:Vb s.heap x o C (some od):=⟨ho,hc,nc,by rw[hd];exact e⟩;have found:=PySem.W.looks_find (M:=Qj prog w) X J (PySem.W.findObj_own c.dict hf rfl (by rw[hl,hv]));have inst:PySem.W.Looks (Qj prog w) s.heap (isInstance (.ref x) (.type "BaseException")) true:=J.type.andThen (PySem.W.looks_mroIn X c.exc);have FG:=PySem.F.attr_ValueError.ga;obtain⟨h,g,d,t,os⟩:=s;unfold getAttr;refine Qb (wpAny_mkText (?_));unfold getAttrBy;refine QX (Qb (J.type.at (Qb ((KH X c.ga).at ?_))));dsimp only;rw[FW,Bool.and_false,if_neg KE];unfold getAttrByItsOwn;refine Qb ((PySem.W.looks_hook (mc:=.ref C) (r:=none) X c.no).at (Qb (Vk (QX ?_))));unfold callGetattribute;rw[if_neg (by cases b<;>exact KE)];unfold boundAndCalled;rw[FG.bind];refine Qb (Qh (Kk (Vh FG.plain PySem.F.entry_bexc_ga (@PySem.W.check_slot (Qj prog w) _ _ ⟨h,g,d,t+1,os⟩ "BaseException.__getattribute__" "BaseException" "__getattribute__" (.ref x) [.str name t] [] _ FK Fv inst (PySem.F.args_bexc_ga (.ref x) (.str name t)) ?_))));refine Qb (Qh (Qb (Qh (Qb (J.type.at (Qb (found.at (Qh ?_))))))));dsimp only;rw[PySem.W.handedOut_of hh];exact Qh hq
end
structure XO(K:Qc)(C:Addr)(bm:List Qa):Prop where
 ob:∃nm q N bs hdct sn sub ab col dd k0 k1 k2 k3 k5,K.lookup C=some (ZQ nm q C N bs bm hdct sn sub ab col dd k0 k1 k2 k3 k5 "ValueError.__new__")
 val:bm.contains (.type "ValueError")=true
 exc:bm.contains (.type "BaseException")=true
 noA:bm.contains (.type "AttributeError")=false
 noN:bm.contains (.type "NameError")=false
section
variable{prog:Qr}{w:Qx}{A:QB}{E:Qa->Qd->Prop}{h:Heap}{g:Array GenState}{d:Drawn}{t:Nat}{os:OsState}{R:Result->Qd->Prop}
variable{nm q:Str}{C N:Addr}{bs bm:List Qa}{hdct:Bool}{sn:List Str}{sub:List Qa}{ab:Bool}{col:Option Bool}{dd:Option Addr}{k0 k1 k2 k3 k5:Option Qa}{rest:List Qa}
noncomputable abbrev CQ(C:Addr)(t:Addr):Obj:={ cls:=.ref C,data:=.fields #[.ref t,.none,.none,.none,.bool false,.none] }
noncomputable abbrev Ei(vs:List Qa):Obj:={ cls:=.type "tuple",data:=.seq vs.toArray }
theorem wZ{b:Bool}{T:String}(e:bm.contains (.type T)=b):(Qn C::bm).contains (.type T)=b:=by rw[QS,e];rfl
theorem yI{M:Model}{Q:Unit->Qd->Prop}(hC:h.get? C=some (ZQ nm q C N bs bm hdct sn sub ab col dd k0 k1 k2 k3 k5 "ValueError.__new__"))(hv:bm.contains (.type "ValueError")=true)(hq:Q () ⟨h,g,d,t,os⟩) :
  Qf M A (checkBuiltinCall "ValueError.__new__" ⟨.ref C::rest,[]⟩) Q E ⟨h,g,d,t,os⟩:=by
 have F:=PySem.F.excBase_ValueError;have c1:=wZ (C:=C) hv;have c2:=F.noStar;simp only[F.newKind,checkBuiltinCall,F.newSplit,F.newRow]
 repeat first
  |refine Q9 hC ?_
  |(refine Zy hC ?_
    rw[c1])
  |refine wpAny_staticBase_exc hC ?_
  |refine wpAny_madeBy_exc hC ?_
  |simp only[bne_self_eq_false,Bool.false_eq_true,if_false]
  |wp_step
 exact hq
theorem JH(hC:h.get? C=some (ZQ nm q C N bs bm hdct sn sub ab col dd k0 k1 k2 k3 k5 "ValueError.__new__"))(hv:bm.contains (.type "ValueError")=true)(ha:bm.contains (.type "AttributeError")=false)
  (hn:bm.contains (.type "NameError")=false) (hz:rest.length<=Qk) (hq:R (.ok (.ret (.ref (h.objs.size+1)))) ⟨(h.push (Ei rest)).push (CQ C h.objs.size),g,d,t,os⟩) :
  Ku (Qj prog w) A (.builtin "ValueError.__new__" ⟨.ref C::rest,[]⟩) R ⟨h,g,d,t,os⟩:=by
 have F:=PySem.F.excBase_ValueError;have c0:=F.ends;have c1:=wZ (C:=C) hv;have c2:=wZ (C:=C) ha;have c3:=wZ (C:=C) hn;refine codeAny_builtinAt F.entry (?_)
 delta Builtin.«BaseException.__new__»
 refine PySem.wpAt_bind ?_;show PySem.wpAt _ _ _ (stack>>=_) _ _ _;refine PySem.wpAt_bind (PySem.wpAt_stack λp below=>PySem.wpAt_of_wpAny ?_)
 wp_walk
 refine PySem.wpAt_of_wpAny ?_;rw[F.owner]
 repeat first
  |with_reducible refine wpAny_madeHere_exc F.canon hC ?_
  |with_reducible refine Q9 hC ?_
  |(with_reducible refine Zy hC ?_
    first | rw[c1] | rw[c2] | rw[c3])
  |wp_step
 show R _ _;rw[Za];exact hq
theorem Je(h:Heap)(C:Addr)(rest:List Qa):Heap.MadeExcOf h ((h.push (Ei rest)).push (CQ C h.objs.size)) (h.objs.size+1) (.ref C) rest where
 keeps:=λb o e=>Qe _ (Qe _ e)
 new:=KG (Nat.le_succ _)
 there:=⟨h.objs.size,Heap.get?_push_at (by rw[Za]) rfl,KG (Qm _),Qe _ (Qq _ rfl)⟩
theorem Fw{K:Qc}{fI:Addr}{Q:Qa->Qd->Prop}(X:K.In h)(c:XO K C bm)(hi:Qi K (.ref C) "__init__" = some (some (.ref fI)))(hf:Z8 K (.ref fI)=some (.type "function"))(hz:rest.length<=Qk)
  (hq:∀h' e,h.objs.size<=e->Heap.MadeExcOf h h' e (.ref C) rest->Qf (Qj prog w) (A.under (.builtin "type.__call__" ⟨.ref C::rest,[]⟩)) (call (.ref fI) (.ref e::rest)) (λr s'=>r=.none/\Q (.ref e) s') E ⟨h',g,d,t,os⟩):Qf (Qj prog w) A (call (.ref C) rest) Q E ⟨h,g,d,t,os⟩:=by
 obtain⟨⟨nm,q,N,bs,hdct,sn,sub,ab,col,dd,k0,k1,k2,k3,k5,lk⟩,hv,_,ha,hn⟩:=c;have hC:=X _ _ lk;have F:=PySem.F.excBase_ValueError;have l1:=tc_lookup;have l2:=tc_bind (.ref C);have ty:(⟨h,g,d,t,os⟩:Qd).TypeIs (.ref C) "type":=⟨_,hC,rfl⟩;refine Kk (codeAny_of_tree (?_));show Qf _ _ (callAny (Qn C) _) _ _ _
 repeat any_goals first
  |assumption
  |with_reducible refine Q9 hC ?_
  |wp_step
 refine⟨rfl,codeAny_call_builtin_at (Code.quiet_builtin _ (by decide +kernel)) entry_typeCall (wpAny_check_type_call_sub hC ?_)⟩
 repeat first
  |with_reducible refine Q9 hC ?_
  |with_reducible refine wpAny_madeBy_exc hC ?_
  |wp_step
 refine codeAny_call_builtin_code (Code.quiet_builtin _ F.quiet) (yI hC hv (JH hC hv ha hn hz ?_));have made:=Je h C rest;have hC1:=made.keeps _ _ hC;have X1:K.In ((h.push (Ei rest)).push (CQ C h.objs.size)):=X.keeps made.keeps;have at1:((h.push (Ei rest)).push (CQ C h.objs.size)).get? (h.objs.size+1)=some (CQ C h.objs.size):=Heap.get?_push_at (by rw[Za]) rfl;have cc:(Qn C::bm).contains (.ref C)=true:=by simp
 show Qf _ _ _ _ _ _;unfold isInstance
 repeat first
  |with_reducible refine Q9 at1 ?_
  |wp_step
 show Qf _ _ (isSubtype (.ref C) (.ref C)) _ _ _;refine Zy hC1 ?_;rw[cc]
 repeat first
  |with_reducible refine Q9 at1 ?_
  |wp_step
 show Qf _ _ (typeLookup (Qn C) _) _ _ _;refine(KH X1 hi).at ?_;refine QX (Qb ((PySem.W.bind_fn X1 _ hf).at ?_));refine Qb (Zk (hq _ _ (Nat.le_succ _) made) (λr s' z=>?_) λ_ _ z=>z);obtain⟨rfl,z⟩:=z
 wp_walk
 exact z
end
section
variable{prog:Qr}{w:Qx}{A:QB}{E:Qa->Qd->Prop}{s:Qd}{env:Env}{K:Qc}{C:Addr}{bm:List Qa}
theorem HH{M:Model}{x:Sem Qa}{Q:Flow->Qd->Prop}(c:XO K C bm)(hh:A.handled=none)
  (h:Qf M A x (λv s1=>∃e o vs,v=.ref e/\K.In s1.heap/\s1.heap.get? e=some o/\o.cls=.ref C/\o.data=.fields vs/\vs[1]?=some .none/\E (.ref e) s1) E s):Qf M A (raiseStmt env (some x) none) Q E s:=by
 obtain⟨⟨nm,q,N,bs,hdct,sn,sub,ab,col,dd,k0,k1,k2,k3,k5,lk⟩,_,hx,_,_⟩:=c;have cb:=wZ (C:=C) hx;unfold raiseStmt;refine Qb (thn h λv s1 h1=>?_);obtain⟨e,o,vs,rfl,X,he,hc,hdt,h1,hE⟩:=h1;have hC:=X _ _ lk;obtain⟨hp,g,d,tk,os⟩:=s1;obtain⟨oc,od,oda,osl⟩:=o;dsimp only at hc hdt;subst hc hdt
 repeat first
  |with_reducible refine Q9 he ?_
  |with_reducible refine Q9 hC ?_
  |(with_reducible refine Zy hC ?_
    rw[cb])
  |wp_step
 rw[h1];refine Qh ?_;rw[if_neg KE];exact Qh (wpAny_raiseNew_none hh hE)
theorem rb{e:Expr}{pos:Pos}{Q:Flow->Qd->Prop}(c:XO K C bm)(hh:A.handled=none)
  (h:Qf (Qj prog w) A (eval e env) (λv s1=>∃a o vs,v=.ref a/\K.In s1.heap/\s1.heap.get? a=some o/\o.cls=.ref C/\o.data=.fields vs/\vs[1]?=some .none/\E (.ref a) s1) E s) :
  Qf (Qj prog w) A (exec (.Raise (some e) none pos) env) Q E s:=by
 rw[arm_exec_Raise];refine Qb (K3 (HH c hh ?_));exact Qb (thn h λv s1 h1=>Qb (K3 (Qh h1)))
end
noncomputable def EH(e C t:Addr)(od:Option Addr):HO:=.ext λh=>h.get? e=some { cls:=.ref C,dict:=od,data:=.fields #[.ref t,.none,.none,.none,.bool false,.none] }
noncomputable def DH(dx:Addr)(fs:List (Str×V)):HO:=.ext λh=>∃mA,h.Ns1 dx mA/\(∀f,jR (fs.lookup f) (mA f))/\Va mA (fs.map (·.1))
theorem EH.ok{P:Qr}{w:Qx}{H:Hp}{h:Heap}{e C t:Addr}{od:Option Addr}(x:h.get? e=some { cls:=.ref C,dict:=od,data:=.fields #[.ref t,.none,.none,.none,.bool false,.none] }):cW P w H h e (EH e C t od):=⟨x,⟨_,x⟩,λ_ _ p k=>k _ p⟩
theorem DH.ok{P:Qr}{w:Qx}{H:Hp}{h:Heap}{dx:Addr}{fs:List (Str×V)}{mA:Str->Option Qa}(n:h.Ns1 dx mA)(r:∀f,jR (fs.lookup f) (mA f))(z:Va mA (fs.map (·.1))):cW P w H h dx (DH dx fs):=by
 refine⟨⟨mA,n,r,z⟩,?_,λh1 h2 p k=>?_⟩
 ·obtain⟨o,_,_,e,_⟩:=n;exact⟨o,e⟩
 ·obtain⟨m,n1,r1,z1⟩:=p;exact⟨m,n1.at k,r1,z1⟩
noncomputable def Pur(X:Cx)(v:Expr)(σ:L2.St)(y:V):Prop:=∀(pins:List Vz) (s:Qd) (H:Hp) (Q:Qa->Qd->Prop),Inv X pins σ H s->(∀u s',Inv X pins σ H s'->bq y u->Q u s')->Qf KF X.A (eval v X.env) Q X.xe s
theorem lS{X:Cx}{σ:L2.St}{y:V}{i:Nat}{x:Str}{pos:Pos}(hσ:σ[i]?=some (some y))(hN:X.N[i]?=some x:=by rfl)(hv:Vis X.env.scope x:=by first | exact Qz rfl | exact Zn (Qz rfl) | exact Zn (Zn rfl))
  (hd:(x==("__debug__" : Str))=false:=by decide) (hcd:(x==("__classdict__" : Str))=false:=by decide):Pur X (.Name x pos) σ y:=by
 intro pins s H Q I hq;refine thn (lu hN hv hd hcd pins s σ H (λv H1=>v=y/\H1=H) I ?_) λu s1 ⟨v,H1,I1,r,ev,eh⟩=>?_
 ·exact⟨y,hσ,rfl,rfl⟩
 ·subst ev eh
  exact hq u s1 I1 r
section
variable{X:Cx}{pins:List Vz}{σ:L2.St}{H:Hp}{s:Qd}{e C t dx:Addr}{cd:ClassData}{fs:List (Str×V)}{name:Str}{y:V}{i:Nat}
theorem wB{mA:Str->Option Qa}{u:Qa}(r:∀f,jR (fs.lookup f) (mA f))(ry:bq y u)(f:Str):jR (((name,y)::fs).lookup f) (if f=name then some u else mA f):=by
 by_cases z:f=name
 ·subst z
  rw[List.lookup_cons_self,if_pos rfl];exact ry
 ·have hb:(f==name)=false:=beq_eq_false_iff_ne.mpr z
  rw[if_neg z];simp only[Q4,hb];exact r f
theorem Al{u:Qa}{Q:Unit->Qd->Prop}(I:Inv X pins σ (upd H e (EH e C t none)) s)(c:XC X.K C cd)(hf:Qi X.K (.ref C) name=some none)(hn:H e=none)(ry:bq y u)
  (hq:∀s' dx,H dx=none->dx≠e->Inv X pins σ (upd (upd H e (EH e C t (some dx))) dx (DH dx [(name,y)])) s'->Q () s'):Qf KF X.A (setAttr (.ref e) name u) Q X.xe s:=by
 have x0:s.heap.get? e=some { cls:=.ref C,dict:=none,data:=.fields #[.ref t,.none,.none,.none,.bool false,.none] }:=(I.hok e _ upd_same).1;refine Ji (mA:=λ_=>none) (ns:=[]) I.kIn c hf ⟨_,x0,rfl,(λ_ z=>nomatch z),.inl ⟨rfl,λ_=>rfl⟩⟩ PySem.Within.nil KE λh' tk J kp at1=>?_;obtain⟨d,x1,fr,_⟩:=at1 _ x0;have fr:=fr rfl;have nd:(upd H e (EH e C t none)) d=none:=I.hok.fresh fr;have de:d≠e:=λz=>by rw[z,upd_same] at nd;cases nd
 have Hd:H d=none:=by rw[az de] at nd;exact nd
 have n1:h'.Ns1 d (λf=>if f=name then some u else none):=by
  obtain⟨o,eo,_,_,z | ⟨d2,ed,_,n⟩⟩:=J
  ·obtain rfl:=Option.some.inj (x1.symm.trans eo)
   cases z.1
  ·obtain rfl:=Option.some.inj (x1.symm.trans eo)
   cases ed;exact n
 have keep:∀b o,b≠e->s.heap.get? b=some o->h'.get? b=some o:=λb o ne q=>kp b o ne (λo0 dx e0 ed=>by obtain rfl:=Option.some.inj (x0.symm.trans e0);cases ed) q;refine hq { s with heap:=h',toks:=tk } d Hd de (I.un (h':=h') (t':=tk) ⟨λb o q z _ _=>?_,λb o q z _ _=>?_,λb o q z _=>?_,λb o q _=>?_,λb xs q=>?_,λb o v q=>?_,λb ps q=>?_⟩ λb o q=>?_)
 ·exact keep b o (λk=>by rw[k,upd_same] at z;cases z) q
 ·exact⟨o.slots,keep b o (λk=>by rw[k,upd_same] at z;cases z) q⟩
 ·have be:b≠e:=λk=>by rw[k,upd_same] at z;cases z
  have bd:b≠d:=λk=>absurd (Qo q) (Nat.not_lt.mpr (k▸fr));rw[az bd,az be];rw[az be] at z;exact z
 ·by_cases k:b=e
  ·subst k;exact⟨_,x1⟩
  ·exact⟨o,keep b o k q⟩
 ·have be:b≠e:=λk=>by rw[k,upd_same] at q;cases q
  rw[az be] at q;rw[az (aB q Hd),az be];exact q
 ·have be:b≠e:=λk=>by rw[k,upd_same] at q;cases q
  rw[az be] at q;rw[az (aB q Hd),az be];exact q
 ·have be:b≠e:=λk=>by rw[k,upd_same] at q;cases q
  rw[az be] at q;exact⟨#[],by rw[az (aB q Hd),az be,q];simp⟩
 ·by_cases k:b=d
  ·subst k
   rw[upd_same] at q;cases q;refine DH.ok n1 (wB (mA:=λ_=>none) (λf=>trivial) ry) ?_;exact PySem.Within.cons name u PySem.Within.nil
  ·rw[az k] at q
   by_cases k2:b=e
   ·subst k2
    rw[upd_same] at q;cases q;exact EH.ok x1
   ·rw[az k2] at q
    have q0:upd H e (EH e C t none) b=some o:=by rw[az k2];exact q
    refine(I.hok b o q0).stay (λc' v hc z=>keep c' v ?_ z) (λc' z=>?_) λc' xs z=>?_
    ·rcases hc with z | z
     ·rw[z];exact k2
     ·exact λk=>by rw[k,upd_same] at z;cases z
    ·have ce:c'≠e:=λk=>by rw[k,upd_same] at z;cases z
     rw[az ce] at z;rw[az (aB z Hd),az ce];exact z
    ·have ce:c'≠e:=λk=>by rw[k,upd_same] at z;cases z
     rw[az ce] at z;rw[az (aB z Hd),az ce];exact z
theorem CT{u:Qa}{Q:Unit->Qd->Prop}(I:Inv X pins σ (upd (upd H e (EH e C t (some dx))) dx (DH dx fs)) s)(c:XC X.K C cd)(hf:Qi X.K (.ref C) name=some none)(de:dx≠e)(hl:fs.length<1000)(ry:bq y u)
  (hq:∀s',Inv X pins σ (upd (upd H e (EH e C t (some dx))) dx (DH dx ((name,y)::fs))) s'->Q () s'):Qf KF X.A (setAttr (.ref e) name u) Q X.xe s:=by
 have x0:s.heap.get? e=some { cls:=.ref C,dict:=some dx,data:=.fields #[.ref t,.none,.none,.none,.bool false,.none] }:=(I.hok e (EH e C t (some dx)) (by rw[az (Ne.symm de),upd_same])).1;obtain⟨⟨mA,n0,r0,w0⟩,_,_⟩:=I.hok dx (DH dx fs) upd_same;refine Ji (mA:=mA) I.kIn c hf ⟨_,x0,rfl,(λ_ z=>nomatch z),.inr ⟨dx,rfl,de,n0⟩⟩ w0 (by rw[Qt];exact QO hl KE) λh' tk J kp at1=>?_;obtain⟨d,x1,_,dd⟩:=at1 _ x0;obtain rfl:=dd dx rfl
 have n1:h'.Ns1 d (λf=>if f=name then some u else mA f):=by
  obtain⟨o,eo,_,_,z | ⟨d2,ed,_,n⟩⟩:=J
  ·obtain rfl:=Option.some.inj (x1.symm.trans eo)
   cases z.1
  ·obtain rfl:=Option.some.inj (x1.symm.trans eo)
   cases ed;exact n
 have keep:∀b o,b≠d->s.heap.get? b=some o->h'.get? b=some o:=λb o ne q=>by
  by_cases k:b=e
  ·subst k
   obtain rfl:=Option.some.inj (x0.symm.trans q);exact x1
  ·exact kp b o k (λo0 d2 e0 ed=>by obtain rfl:=Option.some.inj (x0.symm.trans e0);cases ed;exact ne) q
 have eq:upd (upd (upd H e (EH e C t (some d))) d (DH d fs)) d (DH d ((name,y)::fs))=upd (upd H e (EH e C t (some d))) d (DH d ((name,y)::fs)):=ES;refine hq { s with heap:=h',toks:=tk } ?_;rw[<-eq];refine I.write (x:=d) (e:=d) (o:=DH d ((name,y)::fs)) (t':=tk) (by rw[upd_same];trivial) (.inl rfl) keep ?_ (DH.ok n1 (wB r0 ry) ?_)
 ·obtain⟨o,_,_,k,_⟩:=n1;exact⟨o,k⟩
 ·exact PySem.Within.cons name u w0
end
section
variable{X:Cx}{σ:L2.St}{pos:Pos}
theorem wY{x:Str}{j:Nat}:Pur X (.Constant (.str x) j pos) σ (.str x):=λpins s H Q I hq=>
 Calls.Constant_str (hq _ _ (I.tok _) ⟨_,rfl⟩)
theorem Dc{v:Expr}{i:Int}(h:Pur X v σ (.int i))(hd:i.natAbs.log2<1920):Pur X (.FormattedValue v (-1) none pos) σ (.str (toString i:String)):=λpins s H Q I hq=>by
 refine FormattedValue_plain (h pins s H _ I λu s1 I1 r=>?_);obtain⟨t,rfl⟩:=(show ∃t,u=Value.int i t from r);exact formatField_int_small hd (hq _ _ (I1.tok _) ⟨_,rfl⟩)
theorem Bg{v:Expr}{x:Str}(h:Pur X v σ (.str x))(hz:x.length<=Qk):Pur X (.FormattedValue v (-1) none pos) σ (.str x):=λpins s H Q I hq=>by
 refine FormattedValue_plain (h pins s H _ I λu s1 I1 r=>?_);obtain⟨t,rfl⟩:=(show ∃t,u=Value.str x t from r);exact formatField_str (λt' tk=>hq _ _ (I1.tok _) ⟨_,rfl⟩) hz
theorem Jn{es:List Expr}{xs:List Str}(h:Paired (λe x=>Pur X e σ (.str x)) es xs):∀{out:Str} {pins:List Vz} {s:Qd} {H:Hp} {Q:Qa->Qd->Prop},Inv X pins σ H s->out.length+(xs.map (·.length)).sum<=Qk->
  (∀u s',Inv X pins σ H s'->bq (.str (xs.foldl (· ++ ·) out)) u->Q u s')->Qf KF X.A (joinParts out (evalEach es X.env)) Q X.xe s:=by
 induction h with
 |nil=>
  intro out pins s H Q I hz hq;exact joinParts_nil (hq _ _ (I.tok _) ⟨_,rfl⟩) (by simpa using hz)
 |@cons e x es xs h _ ih=>
  intro out pins s H Q I hz hq;rw[Q3,List.sum_cons] at hz;show Qf _ _ (joinParts out (eval e X.env::evalEach es X.env)) _ _ _;refine joinParts_cons (h pins s H _ I λu s1 I1 r=>?_);obtain⟨t,rfl⟩:=(show ∃t,u=Value.str x t from r);refine⟨by rw[strLen_append];omega,ih I1 (by rw[strLen_append];omega) hq⟩
theorem Di{e1 e2:Expr}{es:List Expr}{xs:List Str}(h:Paired (λe x=>Pur X e σ (.str x)) (e1::e2::es) xs)(hz:(xs.map (·.length)).sum<=Qk):Pur X (.JoinedStr (e1::e2::es) pos) σ (.str (xs.foldl (· ++ ·) Str.empty)):=λpins s H Q I hq=>
 JoinedStr_many (Jn h I (by show 0+_<=_;omega) hq)
end
section
variable{X:Cx}{pins:List Vz}{σ:L2.St}{H:Hp}{s:Qd}{e C t dx:Addr}{cd:ClassData}{fs:List (Str×V)}{name:Str}{y:V}{o value:Expr}{pos pos':Pos}
theorem wR{Q:Flow->Qd->Prop}(I:Inv X pins σ (upd H e (EH e C t none)) s)(c:XC X.K C cd)(hf:Qi X.K (.ref C) name=some none)(hn:H e=none)(hv:Pur X value σ y)(ho:Pur X o σ (.ref e))
  (hq:∀s' dx,H dx=none->dx≠e->Inv X pins σ (upd (upd H e (EH e C t (some dx))) dx (DH dx [(name,y)])) s'->Q .next s') (hs:ZD value (some (.Attribute o name pos')) pos.line X.env=pure false:=by rfl) :
  Qf KF X.A (exec (.Assign [.Attribute o name pos'] value pos) X.env) Q X.xe s:=by
 refine plainObj_wpAny_Assign_Attribute (hv pins s _ _ I λu s1 I1 ru=>ho pins s1 _ _ I1 λv s2 I2 rv=>?_) hs;obtain rfl:v=Qn e:=rv;exact Al I2 c hf hn ru hq
theorem yQ{Q:Flow->Qd->Prop}(I:Inv X pins σ (upd (upd H e (EH e C t (some dx))) dx (DH dx fs)) s)(c:XC X.K C cd)(hf:Qi X.K (.ref C) name=some none)(de:dx≠e)(hl:fs.length<1000)(hv:Pur X value σ y)(ho:Pur X o σ (.ref e))
  (hq:∀s',Inv X pins σ (upd (upd H e (EH e C t (some dx))) dx (DH dx ((name,y)::fs))) s'->Q .next s') (hs:ZD value (some (.Attribute o name pos')) pos.line X.env=pure false:=by rfl) :
  Qf KF X.A (exec (.Assign [.Attribute o name pos'] value pos) X.env) Q X.xe s:=by
 refine plainObj_wpAny_Assign_Attribute (hv pins s _ _ I λu s1 I1 ru=>ho pins s1 _ _ I1 λv s2 I2 rv=>?_) hs;obtain rfl:v=Qn e:=rv;exact CT I2 c hf de hl ru hq
noncomputable def tW(X:Cx)(st:List Stmt):TS:=λD σ H=>∀pins s,Inv X pins σ H s->Qf KF X.A (execs st X.env) (SP X pins D) X.xe s
theorem sR{st:List Stmt}:PSs X st (tW X st):=λpins s _ _ _ I h=>h pins s I
noncomputable def tW1(X:Cx)(st:Stmt):TS:=λD σ H=>∀pins s,Inv X pins σ H s->Qf KF X.A (exec st X.env) (SP X pins D) X.xe s
theorem Gu{st:Stmt}:PS X st (tW1 X st):=λpins s _ _ _ I h=>h pins s I
end
noncomputable def spI(C:Addr)(f:List V->Option (List (Str×V))):Sp:=λvs H Q _=>∃e t H0 args fs,vs=.ref e::args/\H=upd H0 e (EH e C t none)/\H0 e=none/\f args=some fs/\∀dx,H0 dx=none->dx≠e->Q .non (upd (upd H0 e (EH e C t (some dx))) dx (DH dx fs))
theorem CF{X:Cx}{pins:List Vz}{σ:L2.St}{H:Hp}{s:Qd}{e C t dx:Addr}{fs:List (Str×V)}(I:Inv X pins σ (upd (upd H e (EH e C t (some dx))) dx (DH dx fs)) s)(he:H e=none)(hd:H dx=none)(de:dx≠e):Inv X pins σ (upd H dx (.xd fs)) s:=by
 have big:∀b,b≠e->b≠dx->(upd (upd H e (EH e C t (some dx))) dx (DH dx fs)) b=H b:=λb h1 h2=>by rw[az h2,az h1]
 have far:∀{b:Addr} {o:HO},(upd (upd H e (EH e C t (some dx))) dx (DH dx fs)) b=some o->(∀φ,o≠.ext φ)->b≠e/\b≠dx:=λ{b o} q n=>⟨λk=>by
   rw[k,az (Ne.symm de),upd_same] at q;exact n _ (Option.some.inj q).symm,λk=>by
   rw[k,upd_same] at q
   exact n _ (Option.some.inj q).symm⟩
 refine I.un (h':=s.heap) (t':=s.toks) ⟨λb o q _ _ _=>q,λb o q _ _ _=>⟨o.slots,q⟩,λb o q z _=>?_,λb o q _=>⟨o,q⟩,λb xs q=>?_,λb o v q=>?_,λb ps q=>?_⟩ λb o q=>?_
 ·have k2:b≠dx:=λk=>by rw[k,upd_same] at z;cases z
  rw[az k2] at z ⊢
  by_cases k1:b=e
  ·rw[k1];exact he
  ·rw[az k1] at z;exact z
 ·obtain⟨k1,k2⟩:=far q (λφ z=>by cases z)
  rw[big b k1 k2] at q;rw[az k2];exact q
 ·obtain⟨k1,k2⟩:=far q (λφ z=>by cases z)
  rw[big b k1 k2] at q;rw[az k2];exact q
 ·obtain⟨k1,k2⟩:=far q (λφ z=>by cases z)
  rw[big b k1 k2] at q;exact⟨#[],by rw[az k2,q];simp⟩
 ·by_cases k2:b=dx
  ·subst k2
   rw[upd_same] at q;cases q;obtain⟨⟨mA,n0,r0,_⟩,_,_⟩:=I.hok b (DH b fs) upd_same;exact⟨mA,n0,r0⟩
  ·rw[az k2] at q
   have k1:b≠e:=λk=>by rw[k,he] at q;cases q
   have q0:=(big b k1 k2).trans q;refine(I.hok b o q0).stay (λc v _ z=>z) (λc z=>?_) λc xs z=>?_
   ·obtain⟨j1,j2⟩:=far z (λφ z=>by cases z)
    rw[big c j1 j2] at z;rw[az j2];exact z
   ·obtain⟨j1,j2⟩:=far z (λφ z=>by cases z)
    rw[big c j1 j2] at z;rw[az j2];exact z
theorem D8{X:Cx}{pins:List Vz}{σ:L2.St}{H:Hp}{s:Qd}{C fI:Addr}{bm:List Qa}{fd:QY}{ps:List Str}{k:Nat}{f:List V->Option (List (Str×V))}{us:List Qa}{vs:List V}{fs:List (Str×V)}{Q:Qa->Qd->Prop}
  (c:XO X.K C bm) (hi:Qi X.K (.ref C) "__init__" = some (some (.ref fI))) (ht:Z8 X.K (.ref fI)=some (.type "function")) (F:FnOk X.prog X.w X.K X.mg X.base CX0 k fI fd ps (spI C f)) (hr:Room (k+1) X.A) (hb:gj X.K fd ps [])
  (I:Inv X pins σ H s) (r:bu vs us) (hf:f vs=some fs) (hz:us.length<=Qk)
  (hq:∀s' a dx,H dx=none->Inv X pins σ (upd H dx (.xd fs)) s'->XN s.heap.objs.size (upd H dx (.xd fs)) s'.heap a (.ref C) dx->Q (.ref a) s'):Qf KF X.A (call (.ref C) us) Q X.xe s:=by
 obtain⟨hh,g,dw,tk,os⟩:=s;refine Fw I.kIn c hi ht hz λh' e fr m=>?_;obtain⟨t,e0,_,_⟩:=m.there;have He:H e=none:=I.hok.fresh fr;have I1:Inv X pins σ (upd H e (EH e C t none)) ⟨h',g,dw,tk,os⟩:=I.laid (a:=e) (o:=EH e C t none) (h':=h') (t':=tk) m.keeps fr (EH.ok e0);have r2:bu (V.ref e::vs) (Qn e::us):=.cons rfl r;have sp:spI C f (V.ref e::vs) (upd H e (EH e C t none)) (λv H2=>v=.non/\∃dx,H dx=none/\dx≠e/\H2=upd (upd H e (EH e C t (some dx))) dx (DH dx fs)) E0:=⟨e,t,H,vs,fs,rfl,rfl,He,hf,λdx h1 h2=>⟨rfl,dx,h1,h2,rfl⟩⟩
 have hl:(Qn e::us++[]).length=ps.length:=by
  rw[Q6,<-r2.length];exact F.len _ _ _ _ sp
 refine Kk (KS (F.run _ X.stack _ _ ⟨Qn e::us,[]⟩ (Qn e::us) _ _ E0 (hr.make C us []) (I1.env0.make C us []) ?_ r2 sp) λr s' z=>?_)
 ·have:=hb ⟨h',g,dw,tk,os⟩ (Qn e::us) I1.kIn hl
  rw[Q6] at this;exact this
 ·cases r with
  |error e=>exact QR z
  |ok fl=>
   cases fl with
   |ret u=>
    obtain⟨v,H',I3,rv,ev,dx,h1,h2,h3⟩:=I1.after z;subst ev h3;obtain rfl:u=Q0:=rv;refine⟨rfl,hq s' e dx h1 (CF I3 He h1 h2) ⟨fr,?_,_,_,(I3.hok e (EH e C t (some dx)) (by rw[az (Ne.symm h2),upd_same])).1,rfl,rfl,rfl,rfl⟩⟩;rw[az (Ne.symm h2)];exact He
   |next=>exact QR z
   |brk=>exact QR z
   |cont=>exact QR z
noncomputable def Mk2(X:Cx)(a:Addr):Cx:={ X with A:=X.A.mark (some (.ref a)),calm:=false,xe:=λ_ _=>False }
section
variable{X:Cx}{pins:List Vz}{σ:L2.St}{H:Hp}{s:Qd}{a:Addr}
theorem oA(I:Inv X pins σ H s):Inv (Mk2 X a) pins σ H s:=
 ⟨⟨I.ok.mod,I.ok.kind,I.ok.glob,I.ok.blt,I.ok.above,I.ok.inj,I.ok.has,I.ok.cab,(λz=>by cases z),I.ok.frames,I.ok.stk,I.ok.exf,I.ok.bs,I.ok.bsz,I.ok.noex,I.ok.exfs,I.ok.funs,I.ok.frf⟩,I.os,I.bare,I.base,I.loc,I.cell,I.free,I.freeC,I.pin,I.hok,I.len⟩
theorem vP(ok:X.Ok)(I:Inv (Mk2 X a) pins σ H s):Inv X pins σ H s:=⟨ok,I.os,I.bare,I.base,I.loc,I.cell,I.free,I.freeC,I.pin,I.hok,I.len⟩
theorem IT{M:Model}{A:QB}{E:Qa->Qd->Prop}{n:Str}{i:Nat}{pos:Pos}{Q:Unit->Qd->Prop}(I:Inv X pins σ H s)(hl:X.env.kindOf n=some .local)(hN:X.N.Nodup)(hi:X.N[i]?=some n)
  (hq:∀s',Inv X pins (σ.set i none) H s'->Q () s'):Qf M A (do bindName X.env n .none;unbindBehindTheSuite X.env n pos) Q E s:=by
 obtain⟨m,hn,hm⟩:=id I.loc;refine wpAny_nameGoes_keeps hl hn (by rw[I.ok.kind];rfl) λh' v n2 sb=>hq _ ?_;have old:∀{b o},X.s₀.heap.get? b=some o->h'.get? b=s.heap.get? b:=λ{b o} e=>sb.2 b (QC (QA (Qo e) I.ok.above));obtain⟨oL,_,_,hL,_⟩:=id hn;refine⟨I.ok,I.os,I.bare,⟨λb o e q z y=>(old e).trans (I.base.keep b o e q z y),λb o e q z y=>?_,I.base.free,λb o e y=>?_,I.base.tups,I.base.frzs,I.base.tbls⟩,⟨_,n2,λj y w e1 e2 e3=>?_⟩,λy c e=>?_,I.free,I.freeC,λp hp=>?_,λb o e=>?_,by rw[ZC];exact I.len⟩
 ·obtain⟨sl,k⟩:=I.base.slot b o e q z y
  exact⟨sl,(old e).trans k⟩
 ·obtain⟨o',k⟩:=I.base.there b o e y
  exact⟨o',(old e).trans k⟩
 ·have ji:j≠i:=λz=>by
   subst z;have hz:j<σ.length:=by rw[I.len];exact(QH.mp e1).1
   rw[List.getElem?_set_self hz] at e2;cases e2
  rw[List.getElem?_set_ne (Ne.symm ji)] at e2;obtain⟨u,r,q⟩:=hm j y w e1 e2 e3;refine⟨u,r,?_⟩;have yn:y≠n:=λz=>ji (rB hN e1 (z▸hi));rcases q with⟨k,e⟩ | ⟨k,c,e,z⟩
  ·exact .inl ⟨k,by show(if y=n then v else m y)=some u;rw[if_neg yn];exact e⟩
  ·exact .inr ⟨k,c,e,z.sameBut sb (I.cne y c e)⟩
 ·obtain⟨w,z⟩:=I.cell y c e
  exact⟨w,z.sameBut sb (I.cne y c e)⟩
 ·obtain⟨e,q,ne,nf,d⟩:=I.pin p hp
  exact⟨(sb.2 p.1 ne).trans e,q,ne,nf,d⟩
 ·refine(I.hok b o e).stay (λc v hc q=>(sb.2 c ?_).trans q) (λ_ q=>q) λ_ _ q=>q
  rintro rfl;rcases hc with z | z
  ·rw[<-z,I.free] at e;cases e
  ·rw[I.free] at z;cases z
theorem HV{s0 s1:Qd}{H0:Hp}{C dx:Addr}{bm:List Qa}{c n:Str}{i:Nat}{pc hpos:Pos}{b0:Stmt}{suite:List Stmt}{R:L2.St->Hp->Prop}{Q:Flow->Qd->Prop}{post:List ExceptHandler}(I0:Inv X pins σ H0 s0)(hst:X.stack=X.env::X.outer)(hfr:X.env.frame=some X.env.locals)
  (hos:s1.os=s0.os) (hba:AllBare s1.gens) (un:Un (frs X.stack) [] H0 H s0.heap s1.heap) (hok:HOk X.prog X.w H s1.heap) (x:XAt s0.heap.objs.size H s1.heap a (.ref C) dx) (k:XO X.K C bm) (hg:Gl X c) (hm:X.mg c=some (.ref C)) (hdb:(c==("__debug__" : Str))=false)
  (hl:X.env.kindOf n=some .local) (hN:X.N.Nodup) (hi:X.N[i]?=some n)
  (hsuite:∀oe s3,oe.cls=.ref C->oe.dict=some dx->Zp oe=true->Inv (Mk2 X a) ((a,oe)::pins) (σ.set i (some (.ref a))) H s3->
   Qf KF (Mk2 X a).A (execs (b0::suite) X.env) (λf s4=>f=.next/\∃σ4 H4,Inv (Mk2 X a) ((a,oe)::pins) σ4 H4 s4/\R σ4 H4) (λ_ _=>False) s3)
  (hQ:∀σ4 H4 s5,R σ4 H4->Inv X pins (σ4.set i none) H4 s5->Q .next s5) :
  Qf KF X.A (noteFrame (.ref a) X.env) (λ_ s2=>Qf KF X.A (setFlight (.ref a) none) (λ_ s3=>Qf KF X.A (handleBy (.ref a) X.env (.ExceptHandler (some (.Name c pc)) (some n) (b0::suite) hpos::post)) Q X.xe s3) X.xe s2) X.xe s1:=by
 have I1:Inv X pins σ H s1:=I0.call' hos un hok hba λb z=>absurd z (by simp);have fr:X.A.frames=some (X.env::X.outer):=I1.ok.frames.trans (congrArg some hst);have ff:s1.heap.FunFrames X.base (X.env::X.outer):=hst▸I1.stack;have free:∀b∈frs (X.env::X.outer),H b=none:=hst▸I1.stkFree;have hH:∀b,s1.heap.objs.size<=b->H b=none:=λb z=>I1.hok.fresh z;refine uM (n:=s0.heap.objs.size) (H:=H) fr ff hfr hH x λh2 m2 x2=>?_;refine jN (s:={ s1 with heap:=h2 }) (base:=X.base) (l:=X.env::X.outer) (ou m2 _ (λ_ z=>z) ff) x2 λh3 m3 x3=>?_;have m23:=m2.trans m3
 have to:∀{h':Heap},Moves (frs (X.env::X.outer)) s0.heap.objs.size H s1.heap h'->∀t,Inv X pins σ H ⟨h',s1.gens,s1.drawn,t,s1.os⟩:=λ{h'} m t=>
  I0.call' (s':=⟨h',s1.gens,s1.drawn,t,s1.os⟩) hos (Moves.un un (hst▸m) (Qm _)) (m.hok free hok) hba λb z=>absurd z (by simp)
 have nb:(Qn a)≠byPass:=λz=>by cases z
 refine wpAny_handleBy_cons (codeAny_handlers_test ?_) nb;obtain⟨nm,q,N,bs,hdct,sn,sub,ab,col,dd,k0,k1,k2,k3,k5,lk⟩:=k.ob;have J3:=to m23 s1.toks;have hC:=J3.kIn _ _ lk;refine hU (X:=Mk2 X a) (oA J3) hg hm ?_ hdb;obtain⟨g3,u3,oe3,vs3,T3,oT3,ts3,ea3,ec3,ed3,r3⟩:=id x3;refine wpAny_excMatches_sub_self hC ea3 ec3 k.exc ?_;refine codeAny_handlers_suite_as (?_);refine jN (s:=⟨h3,s1.gens,s1.drawn,s1.toks,s1.os⟩) (base:=X.base) (l:=X.env::X.outer) (ou m23 _ (λ_ z=>z) ff) x3 λh4 m4 x4=>?_;have J4:=to (m23.trans m4) s1.toks;obtain⟨g4,u4,oe,vs,T,oT,ts,ea,ec,ed,edat,r4⟩:=id x4;have nc:Zp oe=true:=by unfold Zp;rw[edat]
 have P4:Inv X ((a,oe)::pins) σ H ⟨h4,s1.gens,s1.drawn,s1.toks,s1.os⟩:=J4.pins_of λp hp=>by
  rcases Ql.mp hp with e | e
  ·subst e
   refine⟨ea,u4,λz=>?_,I0.nofs g4,λv z=>?_⟩
   ·have z:a=X.env.locals:=z
    exact absurd (QA I0.lt g4) (by rw[z];exact Zb _)
   ·rw[edat] at z;cases z
  ·exact J4.pin p (Qu _ e)
 refine jK (X:=Mk2 X a) (oA P4) hN hi (.inl hl) (v:=.ref a) rfl (λs5 I5=>?_) (.inr hl);refine Zk (hsuite oe s5 ec ed nc I5) (λf s6 z=>?_) λ_ _ z=>z.elim;obtain⟨rfl,σ4,H4,I6,rr⟩:=z;have I7:Inv X ((a,oe)::pins) σ4 H4 s6:=vP I0.ok I6;refine IT (I7.pins_of λp hp=>I7.pin p (Qu _ (Qv _ hp))) hl hN hi λs8 I8=>hQ σ4 H4 s8 rr I8
end
end Ex
namespace Dn
open PySem PySem.Spec PyProof.Rows L2
noncomputable abbrev Out:=D ⊕ (Str×List (Str×D))
noncomputable def spX(K:Qc)(mg:Str->Option Qa)(F:List D->Option Out):Sp:=λvs H Q E=>∃G ds r,aT G H/\DenL K G vs ds/\F ds=some r/\(∀d,r=.inl d->∀v G' H',Grow G H G' H'->Den K G' v d->Q v H')/\
 ∀c fs,r=.inr (c,fs)->∀cls dx G' H',Grow G H G' H'->mg c=some cls->XD K G' dx fs->E cls (some dx) H'
noncomputable def fnX(N ps:List Str)(g:Ev->Option Fl):List D->Option Out:=λds=>if ds.length=ps.length then(match g (bG N ds) with | some (.rt d)=>some (.inl d) | some (.nx _)=>some (.inl .non) | some (.ro rs)=>some (.inl (.lst rs)) | some (.xc c fs)=>some (.inr (c,fs)) | _=>none) else none
theorem vX{P:Qr}{w:Qx}{K:Qc}{mg:Str->Option Qa}{base:Heap}{x qual:Str}{st:Stmt}{f:Addr}{fd:QY}{N ps:List Str}{k:Nat}{g:Ev->Option Fl}(Fu:Fun K x qual st f fd)(S:FnScope N ps (aA st))
  (hb:∀(cdv:Qa) (A:QB) (outer:List Env) (s:Qd) (H:Hp) (E:XK),Room k (A.deeper (ZZ qual (aA st) s.heap.objs.size f cdv))->DSs (jd (Ex.CX1 P w) P w K mg base N qual (aA st) f cdv A outer s H E) (bc st) g) :
  FnOk P w K mg base (Ex.CX1 P w) (k+1) f fd ps (spX K mg (fnX N ps g)):=by
 obtain⟨oc,od,kV,doc,pm,an,cdv,ct,osl,rfl,lk,hcd⟩:=Fu.ex;refine qk lk hcd S (λvs H Q E h=>?_) λA outer s H vs Q E hr h=>?_
 ·obtain⟨G,ds,r,gh,hd,e,_⟩:=h
  rw[hd.length];unfold fnX at e;split at e
  ·assumption
  ·cases e
 ·obtain⟨G,ds,r,gh,hd,e,q1,q2⟩:=h
  obtain⟨t,h1,h2⟩:=hb cdv A outer s H E hr;refine⟨t,h1,?_⟩;unfold fnX at e;split at e
  ·split at e
   ·rename_i d e1
    cases e;exact h2 H G G H _ _ _ _ (f9 gh hd) e1 λv G' H' g hd=>q1 _ rfl v G' H' g hd
   ·rename_i ε e1
    cases e;exact h2 H G G H _ _ _ _ (f9 gh hd) e1 λσ G' H' S'=>q1 _ rfl _ G' H' S'.g .non
   ·rename_i rs e1
    cases e;exact h2 H G G H _ _ _ _ (f9 gh hd) e1 λa xs G' H' g n1 n2 h3 d3=>q1 _ rfl _ _ H' (g.seal n1 n2 h3) (yb n2 d3)
   ·rename_i c fs e1
    cases e;exact h2 H G G H _ _ _ _ (f9 gh hd) e1 λpins σ G' H' s' a dx cls I g' x m d=>Ex.nH pins σ H' s' a cls dx I x (q2 c fs rfl cls dx G' H' g' m d)
   ·cases e
  ·cases e
noncomputable def OkX(Z:Wq)(x:Str)(st:Stmt)(ps:List Str)(n:Nat)(F:List D->Option Out):Prop:=∃f fd,FB Z x st ps f fd/\∀base,FnOk Z.P Z.w Z.K Z.mg base (Ex.CX1 Z.P Z.w) n f fd ps (spX Z.K Z.mg F)
theorem bdX{Z:Wq}{x:Str}{st:Stmt}{ps N:List Str}{k:Nat}{g:Ev->Option Fl}(R:FX Z x st ps) (hb:∀(d:N.Nodup) (f:Addr) (base:Heap) (cdv:Qa) (A:QB) (outer:List Env) (s:Qd) (H:Hp) (E:XK),Room k (A.deeper (ZZ x (aA st) s.heap.objs.size f cdv))->
   DSs (jd (Ex.CX1 Z.P Z.w) Z.P Z.w Z.K Z.mg base N x (aA st) f cdv A outer s H E) (bc st) g)
  (S:FnScope N ps (aA st):=by exact⟨rfl,rfl,rfl,by decide +kernel,rfl,by decide +kernel,by decide +kernel⟩):OkX Z x st ps (k+1) (fnX N ps g):=
 let⟨f,fd,A⟩:=R;⟨f,fd,A,λbase=>vX A.1.fu S (hb S.nd f base)⟩
noncomputable def OkC(Z:Wq)(c:Str)(n:Nat)(C:Addr)(fD:List D->Option (List (Str×D))):Prop:=∃fI fd ps bm f,Z.mg c=some (.ref C)/\QT Z.K (.ref C)=true/\Ex.XO Z.K C bm/\Qi Z.K (.ref C) "__init__" = some (some (.ref fI))/\
 Z8 Z.K (.ref fI)=some (.type "function")/\gj Z.K fd ps []/\(∀base,FnOk Z.P Z.w Z.K Z.mg base CX0 n fI fd ps (Ex.spI C f))/\
 ∀G vs ds fs',DenL Z.K G vs ds->fD ds=some fs'->∃fs,f vs=some fs/\vs.length<=1000/\∀k d,(k,d)∈fs'->∃v,fs.lookup k=some v/\Den Z.K G v d
section
variable{X:Cx}{pos:Pos}
noncomputable def uj(c:Str)(fD:List D->Option (List (Str×D)))(g:Ev->Option (List D)):Ev->Option Fl:=λε=>(g ε).bind λds=>(fD ds).map λfs=>Fl.xc c fs
theorem Cm{c:Str}{j k:Nat}{C:Addr}{fD:List D->Option (List (Str×D))}{e:Expr}{es:List Expr}{g:Ev->Option (List D)}{p cpos:Pos}(Hc:OkC ⟨X.prog,X.w,X.K,X.mg⟩ c j C fD)(hr:Room k X.A)(hcalm:X.calm=true)(ha:DA X (e::es) g)(hj:j+1<=k:=by decide)(hg:Gl X c:=by rfl)
  (hdb:(c==("__debug__" : Str))=false:=by decide) (he:Qg (e::es) X.env=(false,eval e X.env)::Qg es X.env:=by rfl) (hpl:(QP cpos (Qg es X.env)).any (·.1)=false:=by rfl) :
  DS X (.Raise (some (.Call (.Name c p) (e::es) [] cpos)) none pos) (uj c fD g):=by
 obtain⟨fI,fd,ps,bm,f,hm,hk,xo,hi,ht,hb,hF,rel⟩:=Hc;obtain⟨t,a1,a2⟩:=ha;refine⟨_,Ex.Gu,λHe Ge G H σ ε r W S ef P pins s I=>?_⟩;obtain⟨ds,e1,ef⟩:=aq ef;obtain⟨fs',e2,rfl⟩:=bh ef;refine Ex.rb xo (I.ok.hd hcalm) ?_;refine Zr (hU I hg hm ?_ hdb);refine Ko (h₀:=X.base) I.ok.mod.kin hk (thn (a1 cpos pins s σ H (λvs H1=>∃G1,Grow G H G1 H1/\DenL X.K G1 vs ds) I (a2 He G H σ ε ds _ S.g.gh S.e e1 λvs G1 H1 g1 d1=>⟨G1,g1,d1⟩)) λus s1 ⟨vs,H1,I1,r1,G1,g1,d1⟩=>⟨I1.kIn,?_⟩) he hpl;obtain⟨fs,ff,fz,fl⟩:=rel G1 vs ds fs' d1 e2;refine Ex.D8 xo hi ht (hF X.base) (hr.mono hj) hb I1 r1 ff (by show us.length<=Qk;rw[<-r1.length];exact QO fz KE) λs' a dx hdx I' xn=>?_;obtain⟨oe,vs',q1,q2,q3,q4,q5⟩:=id xn.ob;refine⟨a,oe,vs',rfl,I'.kIn,q1,q2,q4,q5,?_⟩;have g2:=Grow.new (.xd fs) g1.gh hdx;refine P pins σ (upd G1 dx (.xd fs)) (upd H1 dx (.xd fs)) s' a dx (.ref C) I' ((S.g.trans g1).trans g2) (Ex.XAt.le (.inl xn) I1.sz) hm ⟨fs,upd_same,λn d z=>?_⟩;obtain⟨v,l,dn⟩:=fl n d z;exact⟨v,l,dn.mono g2.gg⟩
end
noncomputable def Mk3(X:Cx)(a:Addr)(oe:Obj):Cx:={ Ex.Mk2 X a with pn:=(a,oe)::X.pn }
section
variable{X:Cx}{pins:List Vz}{σ:L2.St}{H:Hp}{s:Qd}{a dx C:Addr}{oe:Obj}
theorem EO(I:L2.Inv (Ex.Mk2 X a) ((a,oe)::pins) σ H s):L2.Inv (Mk3 X a oe) pins σ H s:=
 ⟨⟨I.ok.mod,I.ok.kind,I.ok.glob,I.ok.blt,I.ok.above,I.ok.inj,I.ok.has,I.ok.cab,I.ok.hd,I.ok.frames,I.ok.stk,I.ok.exf,I.ok.bs,I.ok.bsz,I.ok.noex,I.ok.exfs,I.ok.funs,I.ok.frf⟩,I.os,I.bare,I.base,I.loc,I.cell,I.free,I.freeC,
  λp hp=>I.pin p (by
   rcases Q2.mp (hp) with h | h
   ·rcases Ql.mp h with h | h
    ·exact Qu _ (h▸QD)
    ·exact Zs _ h
   ·exact Qu _ (Qv _ h)),I.hok,I.len⟩
theorem BW(ok:(Ex.Mk2 X a).Ok)(I:L2.Inv (Mk3 X a oe) pins σ H s):L2.Inv (Ex.Mk2 X a) ((a,oe)::pins) σ H s:=
 ⟨ok,I.os,I.bare,I.base,I.loc,I.cell,I.free,I.freeC,
  λp hp=>I.pin p (by
   rcases Q2.mp (hp) with h | h
   ·exact Zs _ (Qv _ h)
   ·rcases Ql.mp h with h | h
    ·exact Zs _ (h▸QD)
    ·exact Qu _ h),I.hok,I.len⟩
noncomputable def JJ(i:Nat)(a dx:Addr)(f:Str):TE:=λσ H Q=>σ[i]?=some (some (.ref a))/\∃vs v,H dx=some (.xd vs)/\vs.lookup f=some v/\Q v H
theorem BI{n f:Str}{i:Nat}{p q:Pos}(g:Ex.XG X.K C)(hf:Qi X.K (.ref C) f=some none)(hc:oe.cls=.ref C)(hd:oe.dict=some dx)(nc:Zp oe=true)
  (hN:X.N[i]?=some n:=by rfl) (hv:Vis X.env.scope n:=by first | exact Qz rfl | exact Zn (Qz rfl) | exact Zn (Zn rfl)) (hdb:(n==("__debug__" : Str))=false:=by decide) (hcd:(n==("__classdict__" : Str))=false:=by decide)
  (hb:Kx (.Name n p) f X.env (eval (.Name n p) X.env)=eval (.Name n p) X.env:=by rfl):PE (Mk3 X a oe) (.Attribute (.Name n p) f q) (JJ i a dx f):=by
 intro pins s σ H Q I ⟨hσ,vs,v,hx,hl,hq⟩;refine zI hb (thn (lu (X:=Mk3 X a oe) hN hv hdb hcd pins s σ H (λv H1=>v=.ref a/\H1=H) I ⟨_,hσ,rfl,rfl⟩) λu s1 ⟨v1,H1,I1,r1,e1,e2⟩=>?_);subst e1 e2;obtain rfl:u=Qn a:=r1;obtain⟨mA,n0,r0⟩:=I1.hok dx _ hx;have pin:=(I1.pin (a,oe) (Zs _ QD)).1;have rv:=r0 f;rw[hl] at rv;cases hm:mA f with
 |none=>rw[hm] at rv;exact rv.elim
 |some w=>
  rw[hm] at rv;refine Ex.Jv I1.kIn g hf pin hc nc hd n0 hm ?_ ⟨v,H1,I1.tok _,rv,hq⟩;exact tN rv
end
noncomputable def mth:Stmt->Stmt
 |.ClassDef _ _ _ b _ _ _ _ _ _ _=>b.getD 0 (.Pass ⟨0,0,0,0⟩)
 |s=>s
noncomputable def t9(i:Int):Bool:=decide (i.natAbs.log2<64)
noncomputable def oS(x:Str):Bool:=decide (x.length<=1000)
theorem AJ{i:Int}(h:t9 i=true):(Z2 (toString i)).length<=1000:=by
 have e:=int_text_length_le (k:=64) KE (of_decide_eq_true h);rw[PySem.ofString_length];omega
noncomputable def FF(Z:Wq)(c:Str)(n:Nat)(fD:List D->Option (List (Str×D)))(ns:List Str):Prop:=∃C,OkC Z c n C fD/\Ex.XG Z.K C/\∀f∈ns,Qi Z.K (.ref C) f=some none
noncomputable def fD2(n1 n2:Str):List D->Option (List (Str×D))
 |[.int i,.str x]=>if(t9 i&&oS x)=true then some [(n1,.int i),(n2,.str x)] else none
 |_=>none
noncomputable def fV2(n1 n2 t1 t2:Str):List V->Option (List (Str×V))
 |[.int i,.str x]=>if(t9 i&&oS x)=true then some [("said",.str ([t1,Z2 (toString i),t2,x].foldl (· ++ ·) Str.empty)),(n2,.str x),(n1,.int i)] else none
 |_=>none
theorem Ka{n1 n2 t1 t2:Str}(h1:n1≠"said")(h2:n2≠"said")(h3:n1≠n2){K:Qc}{G:Hp}{vs:List V}{ds:List D}{fs':List (Str×D)}(h:DenL K G vs ds)(e:fD2 n1 n2 ds=some fs') :
  ∃fs,fV2 n1 n2 t1 t2 vs=some fs/\vs.length<=1000/\∀k d,(k,d)∈fs'->∃v,fs.lookup k=some v/\Den K G v d:=by
 unfold fD2 at e;split at e
 ·rename_i i x
  cases h with
  |cons a r=>
   cases a;cases r with
   |cons b r=>
    cases b;cases r;split at e
    ·rename_i hs
     cases e;unfold fV2;refine⟨_,if_pos hs,by show 2<=_;decide,λk d hm=>?_⟩;have q1:(n1==("said" : Str))=false:=beq_eq_false_iff_ne.mpr h1;have q2:(n2==("said" : Str))=false:=beq_eq_false_iff_ne.mpr h2;have q3:(n1==n2)=false:=beq_eq_false_iff_ne.mpr h3;rcases Ql.mp hm with z | z
     ·cases z
      exact⟨.int i,by simp[Q4,q1,q3],.int i⟩
     ·rcases Ql.mp z with z | z
      ·cases z
       exact⟨.str x,by simp[Q4,q2],.str x⟩
      ·cases z
    ·cases e
 ·cases e
theorem Ip{P:Qr}{w:Qx}{K:Qc}{mg:Str->Option Qa}{base:Heap}{qual n1 n2 t1 t2:Str}{st:Stmt}{f C:Addr}{fd:QY}{cd:ClassData}{p1 p2 p3 p4 p5 p6 p7 p8 p9 p10 p11 p12 p13 p14 p15 p16 p17 p18:Pos}{j1 j2:Nat}(Fu:Fun K "__init__" qual st f fd)(S:FnScope ["self",n1,n2] ["self",n1,n2] (aA st))
  (hb:bc st=[.Assign [.Attribute (.Name "self" p1) n1 p2] (.Name n1 p3) p4,.Assign [.Attribute (.Name "self" p5) n2 p6] (.Name n2 p7) p8,
   .Assign [.Attribute (.Name "self" p9) "said" p10] (.JoinedStr [.Constant (.str t1) j1 p11,.FormattedValue (.Name n1 p12) (-1) none p13,.Constant (.str t2) j2 p14,.FormattedValue (.Name n2 p15) (-1) none p16] p17) p18])
  (c:Ex.XC K C cd) (f1:Qi K (.ref C) n1=some none) (f2:Qi K (.ref C) n2=some none) (f3:Qi K (.ref C) "said" = some none) (hl:t1.length+t2.length<=1000)
  (v0:(aA st).names.lookup ("self" : Str)=some .local) (v1:(aA st).names.lookup n1=some .local) (v2:(aA st).names.lookup n2=some .local) (d1:(n1==("__debug__" : Str))=false) (d2:(n2==("__debug__" : Str))=false) (c1:(n1==("__classdict__" : Str))=false) (c2:(n2==("__classdict__" : Str))=false) :
  FnOk P w K mg base CX0 1 f fd ["self",n1,n2] (Ex.spI C (fV2 n1 n2 t1 t2)):=by
 refine Fu.ok (k:=0) S (λvs H Q E h=>?_) (λcdv A outer s H vs Q E hr h=>?_)
 ·obtain⟨e,t,H0,args,fs,rfl,_,_,ef,_⟩:=h
  unfold fV2 at ef;split at ef
  ·rfl
  ·cases ef
 ·obtain⟨e,t,H0,args,fs,rfl,rfl,He,ef,q⟩:=h
  refine⟨_,Ex.sR,λpins s1 I=>?_⟩;rw[hb];unfold fV2 at ef;split at ef
  ·rename_i i x
   split at ef
   ·rename_i hs
    cases ef;obtain⟨s1,s2⟩:=Bool.and_eq_true_iff.mp hs;have se:∀{X:Cx} {p:Pos},X.N=(["self",n1,n2]:List Str)->X.env.scope=aA st->Ex.Pur X (.Name "self" p) (jn ["self",n1,n2] [.ref e,.int i,.str x]) (.ref e):=λ{X p} h1 h2=>Ex.lS (i:=0) rfl (by rw[h1];rfl) (by rw[h2];exact .inl v0);have a1:∀{X:Cx} {p:Pos},X.N=(["self",n1,n2]:List Str)->X.env.scope=aA st->Ex.Pur X (.Name n1 p) (jn ["self",n1,n2] [.ref e,.int i,.str x]) (.int i):=λ{X p} h1 h2=>Ex.lS (i:=1) rfl (by rw[h1];rfl) (by rw[h2];exact .inl v1) d1 c1;have a2:∀{X:Cx} {p:Pos},X.N=(["self",n1,n2]:List Str)->X.env.scope=aA st->Ex.Pur X (.Name n2 p) (jn ["self",n1,n2] [.ref e,.int i,.str x]) (.str x):=λ{X p} h1 h2=>Ex.lS (i:=2) rfl (by rw[h1];rfl) (by rw[h2];exact .inl v2) d2 c2;refine ZS (Ex.wR I c f1 He (a1 rfl rfl) (se rfl rfl) λs3 dx hd ne I3=>?_);refine ZS (Ex.yQ I3 c f2 ne (by show 1<1000;decide) (a2 rfl rfl) (se rfl rfl) λs4 I4=>?_);refine ZS (Ex.yQ I4 c f3 ne (by show 2<1000;decide) (Ex.Di (xs:=[t1,Z2 (toString i),t2,x]) (.cons Ex.wY (.cons (Ex.Dc (a1 rfl rfl) (K0 (of_decide_eq_true s1) KE)) (.cons Ex.wY (.cons (Ex.Bg (a2 rfl rfl) (QO (of_decide_eq_true s2) KE)) .nil)))) ?_) (se rfl rfl) λs5 I5=>?_)
    ·have z1:=AJ s1
     have z2:x.length<=1000:=of_decide_eq_true s2;have z3:(3000:Nat)<=Qk:=by decide
     simp only[List.map_nil,Q3,List.sum_cons,List.sum_nil];omega
    ·exact Ks ⟨_,_,I5,q dx hd ne⟩
   ·cases ef
  ·cases ef
noncomputable abbrev gk:List Qa:=[.type "ValueError",.type "Exception",.type "BaseException",.type "object"]
theorem Ek{P:Qr}{w:Qx}{K:Qc}{mg:Str->Option Qa}{h:Heap}{c qual n1 n2 t1 t2 nm q:Str}{st:Stmt}{C B N fI:Addr}{bs:List Qa}{sn:List Str}{sub:List Qa}{ab:Bool}{col:Option Bool}{dd:Option Addr}{k0 k1 k2 k3 k5:Option Qa}{oc:Qa}{od an:Option Addr}
  {osl:Array (Option Qa)} {kV doc pm cdv ct:Qa} {p1 p2 p3 p4 p5 p6 p7 p8 p9 p10 p11 p12 p13 p14 p15 p16 p17 p18:Pos} {j1 j2:Nat} (X:K.In h) (G:h.Ns Qs mg)
  (hb:bc st=[.Assign [.Attribute (.Name "self" p1) n1 p2] (.Name n1 p3) p4,.Assign [.Attribute (.Name "self" p5) n2 p6] (.Name n2 p7) p8,
   .Assign [.Attribute (.Name "self" p9) "said" p10] (.JoinedStr [.Constant (.str t1) j1 p11,.FormattedValue (.Name n1 p12) (-1) none p13,.Constant (.str t2) j2 p14,.FormattedValue (.Name n2 p15) (-1) none p16] p17) p18])
  (hbi:∀(kV doc pm:Qa) (an:Option Addr) (cdv ct:Qa) (us:List Qa),us.length=3->bindArgs (QQ "__init__" qual (cj st) (bc st) (aA st) .none kV doc pm an cdv ct) ⟨us,[]⟩=pure ((["self",n1,n2]:List Str).zip us))
  (S:FnScope ["self",n1,n2] ["self",n1,n2] (aA st)) (sides:n1≠"said"/\n2≠"said"/\n1≠n2/\t1.length+t2.length<=1000/\(aA st).names.lookup ("self" : Str)=some .local/\(aA st).names.lookup n1=some .local/\(aA st).names.lookup n2=some .local/\
   (n1==("__debug__" : Str))=false/\(n2==("__debug__" : Str))=false/\(n1==("__classdict__" : Str))=false/\(n2==("__classdict__" : Str))=false)
  (a:QE K Qs c=some (some (.ref C))) (lk:K.lookup C=some (ZQ nm q C N bs (.ref B::gk) true sn sub ab col dd k0 k1 k2 k3 k5 "ValueError.__new__"))
  (ci:Qi K (.ref C) "__init__" = some (some (.ref fI))) (l:K.lookup fI=some ⟨oc,od,.func (QQ "__init__" qual (cj st) (bc st) (aA st) .none kV doc pm an cdv ct),osl⟩) (cc:Zt K cdv qual=true)
  (kp:QT K (.ref C)=true) (kf:QT K (.ref fI)=true) (ty:Z8 K (.ref fI)=some (.type "function")) (sa:Qi K (.ref C) "__setattr__" = some (some (.builtin "object.__setattr__")))
  (ga:Qi K (.ref C) "__getattribute__" = some (some (.builtin "BaseException.__getattribute__"))) (gn:Qi K (.ref C) "__getattr__" = some none)
  (f1:Qi K (.ref C) n1=some none) (f2:Qi K (.ref C) n2=some none) (f3:Qi K (.ref C) "said" = some none):FF ⟨P,w,K,mg⟩ c 1 (fD2 n1 n2) [n1,n2]:=by
 obtain⟨e1,e2,e3,e4,v0,v1,v2,d1,d2,c1,c2⟩:=sides;have hc:ZG K C=some { name:=nm,bases:=bs,mro:=.ref C :: .ref B::gk,ns:=N,qualname:=q,hasDict:=true,slotNames:=sn,subclasses:=sub,abstract:=ab,collection:=col,hasDel:=false }:=by unfold ZG;rw[lk]
 have XCk:Ex.XC K C _:=⟨hc,sa,by unfold ZH;rw[hc];rfl,λself=>by rw[refuseLoop_ref,refuseLoop_ref];exact PySem.F.store_ValueError.passes self,rfl⟩;have Fu:=rT (x:="__init__") (qual:=qual) l cc kf;refine⟨C,⟨fI,_,["self",n1,n2],.ref B::gk,fV2 n1 n2 t1 t2,?_,kp,⟨⟨nm,q,N,bs,true,sn,sub,ab,col,dd,k0,k1,k2,k3,k5,lk⟩,rfl,rfl,rfl,rfl⟩,ci,ty,Fu.binds (ps:=["self",n1,n2]) hbi,λbase=>Ip Fu S hb XCk f1 f2 f3 e4 v0 v1 v2 d1 d2 c1 c2,λG vs ds fs' h e=>Ka e1 e2 e3 h e⟩,⟨ga,gn,by unfold ZH;rw[hc];rfl,by unfold Zu;rw[hc];rfl⟩,λf hf=>?_⟩
 ·exact Zc X G a
 ·rcases Ql.mp hf with z | z
  ·rw[z];exact f1
  ·rcases Ql.mp z with z | z
   ·rw[z];exact f2
   ·cases z
noncomputable def sXe(F:List D->Option Out)(g:Ev->Option (List D)):Ev->Option Fl:=λε=>(g ε).bind λds=>(F ds).bind λr=>match r with
 |.inl _=>some (.nx ε)
 |.inr (c,fs)=>some (.xc c fs)
theorem qb{X:Cx}{ap cp pf:Pos}{fn:Str}{j k:Nat}{st:Stmt}{ps:List Str}{F:List D->Option Out}{e:Expr}{es:List Expr}{g:Ev->Option (List D)}
  (HF:OkX ⟨X.prog,X.w,X.K,X.mg⟩ fn st ps j F) (hr:Room k X.A) (ha:DA X (e::es) g) (hj:j<=k:=by decide)
  (hg:Gl X fn:=by rfl) (hdb:(fn==("__debug__" : Str))=false:=by decide)
  (he:Qg (e::es) X.env=(false,eval e X.env)::Qg es X.env:=by rfl) (hpl:(QP cp (Qg es X.env)).any (·.1)=false:=by rfl)
  (hs:ZD (.Call (.Name fn pf) (e::es) [] cp) none ap.line X.env=pure false:=by rfl) :
  DS X (.Expr (.Call (.Name fn pf) (e::es) [] cp) ap) (sXe F g):=by
 obtain⟨f,fd,⟨FA,_⟩,hF⟩:=HF;obtain⟨t,a1,a2⟩:=ha;refine⟨_,Ex.Gu,λHe Ge G H σ ε r W S ef P pins s I=>?_⟩;obtain⟨ds,e1,ef1⟩:=aq ef;obtain⟨rr,e2,ef2⟩:=aq ef1
 clear ef ef1
 refine wpAny_Expr_any (Zr (hU I hg FA.mgf ?_ hdb)) I.quiet hs;refine Ko (h₀:=X.base) I.ok.mod.kin FA.fu.kp (thn (a1 cp pins s σ H (λvs H1=>∃G1,Grow G H G1 H1/\DenL X.K G1 vs ds) I (a2 He G H σ ε ds _ S.g.gh S.e e1 λvs G1 H1 g1 d1=>⟨G1,g1,d1⟩)) λus s1 ⟨vs,H1,I1,r1,G1,g1,d1⟩=>⟨I1.kIn,?_⟩) he hpl;have r2:bu vs ([]++us):=r1
 have SP:spX X.K X.mg F vs H1 (λv H2=>∃d G2,rr=.inl d/\Grow G1 H1 G2 H2) (λcls od H2=>∃c' fs dx G2,rr=.inr (c',fs)/\od=some dx/\Grow G1 H1 G2 H2/\X.mg c'=some cls/\XD X.K G2 dx fs):=
  ⟨G1,ds,rr,g1.gh,d1,e2,λd z v G2 H2 g2 dn=>⟨d,G2,z,g2⟩,λc' fs z cls dx G2 H2 g2 m2 xd=>⟨c',fs,dx,G2,z,rfl,g2,m2,xd⟩⟩
 have hlen:([]++us++[]).length=ps.length:=by
  rw[Q6,<-r2.length];exact(hF X.base).len _ _ _ _ SP
 have bb:=FA.bi s1 ([]++us) I1.kIn hlen;rw[Q6] at bb;refine Kk (KS ((hF X.base).run X.A X.stack s1 H1 ⟨[]++us,[]⟩ ([]++us) vs _ _ (hr.mono hj) I1.env0 bb r2 SP) λres s2 z=>?_);cases res with
 |ok fl=>
  cases fl with
  |ret u=>
   obtain⟨v,H2,I2,rv,d,G2,er,g2⟩:=I1.after z;subst er;cases ef2;exact⟨σ,H2,I2,P σ G2 H2 ⟨S.g.trans (g1.trans g2),S.e.grow (g1.trans g2)⟩⟩
  |next=>exact QR z
  |brk=>exact QR z
  |cont=>exact QR z
 |error ex=>
  obtain⟨a,cls,dx,H2,rfl,os,bare,un,hok,xat,c',fs,dx',G2,er,ed,g2,m2,xd⟩:=z;cases ed;subst er;cases ef2;exact P pins σ G2 H2 s2 a dx cls (I1.call' os un hok bare λb z=>absurd z (by simp)) (S.g.trans (g1.trans g2)) (xat.le I1.sz) m2 xd
noncomputable def fV0:List V->Option (List (Str×V))
 |[.str x]=>some [("said",.str x)]
 |_=>none
structure OkE(Z:Wq)(c:Str)(C:Addr)(bm:List Qa):Prop where
 mg:Z.mg c=some (.ref C)
 kp:QT Z.K (.ref C)=true
 xo:Ex.XO Z.K C bm
 exc:ZH Z.K C (.type "BaseException")=some true
 dict:Zu Z.K C=true
 ob:ZH Z.K C (.type "object")=some true
 run:∃(fI:Addr) (fd:QY) (x:Str) (tk:Tok),Qi Z.K (.ref C) "__init__" = some (some (.ref fI))/\Z8 Z.K (.ref fI)=some (.type "function")/\
  (∀(s:Qd) (e:Qa),Z.K.In s.heap->BindsTo s fd ⟨[e],[]⟩ [("self",e),("said",.str x tk)])/\∀base,FnOk Z.P Z.w Z.K Z.mg base CX0 1 fI fd ["self","said"] (Ex.spI C fV0)
theorem CM{X:Cx}{pins:List Vz}{σ:L2.St}{H:Hp}{s:Qd}{C:Addr}{bm:List Qa}{c:Str}{Q:Qa->Qd->Prop}(Hc:OkE ⟨X.prog,X.w,X.K,X.mg⟩ c C bm)(hr:Room 2 X.A)(I:Inv X pins σ H s)
  (hq:∀s' a dx fs,H dx=none->Inv X pins σ (upd H dx (.xd fs)) s'->Ex.XN s.heap.objs.size (upd H dx (.xd fs)) s'.heap a (.ref C) dx->Q (.ref a) s'):Qf KF X.A (call (.ref C) []) Q X.xe s:=by
 obtain⟨fI,fd,x,tx,hi,ht,hb,F⟩:=Hc.run;obtain⟨hh,g,dw,tk,os⟩:=s;refine Ex.Fw I.kIn Hc.xo hi ht (QV _) λh' e fr m=>?_;obtain⟨t,e0,_,_⟩:=m.there;have He:H e=none:=I.hok.fresh fr;have I1:Inv X pins σ (upd H e (Ex.EH e C t none)) ⟨h',g,dw,tk,os⟩:=I.laid (a:=e) (o:=Ex.EH e C t none) (h':=h') (t':=tk) m.keeps fr (Ex.EH.ok e0);have r2:bu [V.ref e,V.str x] [Qn e,Value.str x tx]:=.cons rfl (.cons ⟨tx,rfl⟩ .nil);have sp:Ex.spI C fV0 [V.ref e,V.str x] (upd H e (Ex.EH e C t none)) (λv H2=>v=.non/\∃dx,H dx=none/\dx≠e/\H2=upd (upd H e (Ex.EH e C t (some dx))) dx (Ex.DH dx [("said",.str x)])) E0:=⟨e,t,H,[.str x],_,rfl,rfl,He,rfl,λdx h1 h2=>⟨rfl,dx,h1,h2,rfl⟩⟩;refine Kk (KS ((F X.base).run _ X.stack _ _ ⟨[Qn e],[]⟩ [Qn e,Value.str x tx] _ _ E0 ((hr.mono KE).make C [] []) (I1.env0.make C [] []) (hb ⟨h',g,dw,tk,os⟩ (Qn e) I1.kIn) r2 sp) λr s' z=>?_);cases r with
 |error e=>exact QR z
 |ok fl=>
  cases fl with
  |ret u=>
   obtain⟨v,H',I3,rv,ev,dx,h1,h2,h3⟩:=I1.after z;subst ev h3;obtain rfl:u=Q0:=rv;refine⟨rfl,hq s' e dx _ h1 (Ex.CF I3 He h1 h2) ⟨fr,?_,_,_,(I3.hok e (Ex.EH e C t (some dx)) (by rw[az (Ne.symm h2),upd_same])).1,rfl,rfl,rfl,rfl⟩⟩;rw[az (Ne.symm h2)];exact He
  |next=>exact QR z
  |brk=>exact QR z
  |cont=>exact QR z
noncomputable def cx(c:Str):Ev->Option Fl:=λ_=>some (.xc c [])
theorem bY{X:Cx}{pos:Pos}{c:Str}{k:Nat}{C:Addr}{bm:List Qa}{p cpos:Pos}(Hc:OkE ⟨X.prog,X.w,X.K,X.mg⟩ c C bm)(hr:Room k X.A)(hcalm:X.calm=true)(hj:2<=k:=by decide)(hg:Gl X c:=by rfl)
  (hdb:(c==("__debug__" : Str))=false:=by decide):DS X (.Raise (some (.Call (.Name c p) [] [] cpos)) none pos) (cx c):=by
 refine⟨_,Ex.Gu,λHe Ge G H σ ε r W S ef P pins s I=>?_⟩;cases ef;refine Ex.rb Hc.xo (I.ok.hd hcalm) ?_;refine Zr (hU I hg Hc.mg ?_ hdb);refine PySem.W.callWith_K0 I.kIn Hc.kp ?_;refine CM Hc (hr.mono hj) I λs' a dx fs hdx I' xn=>?_;obtain⟨oe,vs',q1,q2,q3,q4,q5⟩:=id xn.ob;refine⟨a,oe,vs',rfl,I'.kIn,q1,q2,q4,q5,?_⟩;have g2:=Grow.new (.xd fs) S.g.gh hdx;exact P pins σ (upd G dx (.xd fs)) (upd H dx (.xd fs)) s' a dx (.ref C) I' (S.g.trans g2) (Ex.XAt.le (.inl xn) I.sz) Hc.mg ⟨fs,upd_same,λn d z=>by cases z⟩
theorem DU{P:Qr}{w:Qx}{K:Qc}{mg:Str->Option Qa}{h:Heap}{c qual nm q:Str}{st:Stmt}{C N fI T:Addr}{bs bm:List Qa}{sn:List Str}{sub:List Qa}{ab:Bool}{col:Option Bool}{dd:Option Addr}{k0 k1 k2 k3 k5:Option Qa}{od an:Option Addr}
  {osl:Array (Option Qa)} {kV doc pm cdv ct:Qa} {p1 p2 p3 p4:Pos} {x:Str} {tk:Tok} {tc:Qa} {td:Option Addr} {ts:Array (Option Qa)} {tn:Nat} (X:K.In h) (G:h.Ns Qs mg)
  (hb:bc st=[.Assign [.Attribute (.Name "self" p1) "said" p2] (.Name "said" p3) p4])
  (hbi:∀(s:Qd) (kV doc pm:Qa) (an:Option Addr) (cdv ct e:Qa),s.heap.get? T=some ⟨tc,td,.seq #[.str x tk] tn,ts⟩->BindsTo s (QQ "__init__" qual (cj st) (bc st) (aA st) (.ref T) kV doc pm an cdv ct) ⟨[e],[]⟩ [("self",e),("said",.str x tk)])
  (S:FnScope ["self","said"] ["self","said"] (aA st)) (v0:(aA st).names.lookup ("self" : Str)=some .local) (v1:(aA st).names.lookup ("said" : Str)=some .local)
  (a:QE K Qs c=some (some (.ref C))) (lk:K.lookup C=some (ZQ nm q C N bs bm true sn sub ab col dd k0 k1 k2 k3 k5 "ValueError.__new__"))
  (hbm:bm.contains (.type "ValueError")=true/\bm.contains (.type "BaseException")=true/\bm.contains (.type "AttributeError")=false/\bm.contains (.type "NameError")=false/\bm.contains (.type "object")=true) (hrf:∀self,refuseLoop self "__setattr__" (.ref C::bm)=pure ())
  (ci:Qi K (.ref C) "__init__" = some (some (.ref fI))) (l:K.lookup fI=some ⟨.type "function",od,.func (QQ "__init__" qual (cj st) (bc st) (aA st) (.ref T) kV doc pm an cdv ct),osl⟩) (lt:K.lookup T=some ⟨tc,td,.seq #[.str x tk] tn,ts⟩) (cc:Zt K cdv qual=true)
  (kp:QT K (.ref C)=true) (sa:Qi K (.ref C) "__setattr__" = some (some (.builtin "object.__setattr__")))
  (f3:Qi K (.ref C) "said" = some none):OkE ⟨P,w,K,mg⟩ c C bm:=by
 have hc:ZG K C=some { name:=nm,bases:=bs,mro:=.ref C::bm,ns:=N,qualname:=q,hasDict:=true,slotNames:=sn,subclasses:=sub,abstract:=ab,collection:=col,hasDel:=false }:=by unfold ZG;rw[lk]
 have mro:∀T:String,bm.contains (.type T)=true->ZH K C (.type T)=some true:=λT hT=>by
  unfold ZH;rw[hc];show(if(List.isEmpty (Qn C::bm))=true then none else some (List.contains (Qn C::bm) (.type T)))=_;rw[if_neg (λz=>nomatch z),QS,hT,Bool.or_true]
 have ty:Z8 K (.ref fI)=some (.type "function"):=by show Option.map _ (Q4 fI K)=_;rw[l];rfl
 have ob:=mro "object" hbm.2.2.2.2;have XCk:Ex.XC K C _:=⟨hc,sa,ob,hrf,rfl⟩;refine⟨Zc X G a,kp,⟨⟨nm,q,N,bs,true,sn,sub,ab,col,dd,k0,k1,k2,k3,k5,lk⟩,hbm.1,hbm.2.1,hbm.2.2.1,hbm.2.2.2.1⟩,mro _ hbm.2.1,by unfold Zu;rw[hc];rfl,ob,fI,_,x,tk,ci,ty,λs e ks=>hbi s kV doc pm an cdv ct e (ks _ _ lt),λbase=>?_⟩;refine qk (k:=0) l cc S (λvs H Q E h=>?_) (λA outer s H vs Q E hr h=>?_)
 ·obtain⟨e,t,H0,args,fs,rfl,_,_,ef,_⟩:=h
  unfold fV0 at ef;split at ef
  ·rfl
  ·cases ef
 ·obtain⟨e,t,H0,args,fs,rfl,rfl,He,ef,q⟩:=h
  refine⟨_,Ex.sR,λpins s1 I=>?_⟩;rw[hb];unfold fV0 at ef;split at ef
  ·rename_i y
   cases ef;refine ZS (Ex.wR I XCk f3 He (Ex.lS (i:=1) (y:=.str y) rfl rfl (.inl v1)) (Ex.lS (i:=0) (y:=.ref e) rfl rfl (.inl v0)) λs3 dx hd ne I3=>?_);exact Ks ⟨_,_,I3,q dx hd ne⟩
  ·cases ef
noncomputable def Ite(K:Qc)(l:Addr):It:=
 ⟨λi H=>∃xs x,SqL K H l xs/\xs[i]?=some x,
  λi H v H'=>∃p x,v=.ref p/\H p=none/\H'=upd H p (.tup [.int (i:Int),x])/\∀xs,SqL K H l xs->xs[i]?=some x,
  λi H=>∃xs,SqL K H l xs/\xs.length<=i⟩
noncomputable def efp(N:Nat):List Addr:=[N+1,N]
theorem Ai{P:Qr}{w:Qx}{K:Qc}{es:List Expr}{k0:Nat}{tpos:Pos}(N l:Nat)(p1:l<N) :
  Turn P w K (.Tuple es k0 tpos) (Ite K l) (efp N) (N+1) (λi h=>(∃old,IsEnum h (N+1) N (i:Int) old)/\h.IsListIter N l i) where
 mem:=by simp[efp]
 obj:=λi h ⟨⟨old,h1⟩,h2⟩ c hc=>by
  simp only[efp,Ql,Qw,or_false] at hc;rcases hc with rfl | rfl
  ·exact⟨_,h1,λv z=>by cases(show Data.fields _=Data.cell v from z)⟩
  ·obtain⟨o,e,c,d⟩:=h2
   exact⟨o,e,λv z=>by rw[d] at z;cases z⟩
 keep:=λi h h' ⟨⟨old,h1⟩,h2⟩ k=>⟨⟨old,k _ (by simp[efp]) _ h1⟩,h2.at λo e=>k _ (by simp[efp]) o e⟩
 item:=by
  intro X hP hw hK hc i pins s σ H E I hf st hg;subst hP hw hK;obtain⟨⟨old,h1⟩,h2⟩:=st;obtain⟨xs,x,q1,ex⟩:=hg;obtain⟨its,r1,pl,_⟩:=I.list q1;obtain⟨u,eu,ru⟩:=r1.get ex;have D:=Draws.list (prog:=X.prog) (w:=X.w) (A:=X.A.in1) (I.ok.hd hc) N l (nN KM) its.toArray;have hi:i<its.toArray.size:=by have:=(QH.mp eu).1;simpa using this
  refine wpAny_pyNext_enum_itemD D h1 ⟨h2,pl.isList⟩ hi (nN KM) (by intro z;simp only[Ql,Qw,or_false] at z;rcases z with z | z<;>exact absurd z (nN (by lia))) λx' h' tk hx ho st' hT hsz hk=>⟨_,rfl,?_⟩
  have:x'=u:=by
   have e1:its[i]?=some x':=by simpa using hx
   rw[eu] at e1;exact(Option.some.inj e1).symm
  subst this;refine wpAny_letOwnedTupleGo_enum (s:={ s with heap:=h',toks:=tk+1 }) ho λh'' he' hs'=>?_;have zl:N+1<s.heap.objs.size:=Qo h1;have nn:H s.heap.objs.size=none:=I.hok.fresh (Qm _)
  have I1:Inv X pins σ (upd H s.heap.objs.size (.tup [.int (i:Int),x])) { s with heap:=s.heap.push { cls:=.type "tuple",data:=.seq #[.int i tk,x'] },toks:=tk+1 }:=
   I.laid (t':=tk+1) (λb o e=>Qe _ e) (Qm _) ⟨show 2<=Qk by decide,[.int i tk,x'],.cons ⟨tk,rfl⟩ (.cons ru .nil),⟨_,Qq _ rfl,rfl,_,rfl⟩⟩
  have ne:∀b∈efp N,b≠s.heap.objs.size:=λc hc=>by
   simp only[efp,Ql,Qw,or_false] at hc;rcases hc with rfl | rfl<;>exact nN (by lia)
  have f1:∀b∈efp N,nQ X pins (upd H s.heap.objs.size (.tup [.int (i:Int),x])) b:=λc hc=>⟨by rw[az (ne c hc)];exact(hf c hc).1,(hf c hc).2⟩
  have k2:∀c o,c∉efp N->(s.heap.push { cls:=.type "tuple",data:=.seq #[.int i tk,x'] }).get? c=some o->h''.get? c=some o:=λc o hc e=>by
   simp only[efp,Ql,Qw,or_false,not_or] at hc;refine hs'.extBut _ _ hc.1 ?_
   by_cases z:c=s.heap.objs.size
   ·subst z
    rw[Qq _ rfl] at e;cases e;exact hT
   ·exact hk c o hc.1 hc.2 ((Heap.get?_push_ne _ _ _ z).symm.trans e)
  have I2:=jz (h':=h'') (t':=tk+1) I1 k2 f1;refine⟨.ref s.heap.objs.size,_,I2,rfl,⟨_,x,rfl,nn,rfl,λzs hz=>?_⟩,⟨⟨_,by simpa using he'⟩,st'.1.at λo e=>hs'.extBut _ o (nN KM) e⟩,λc hc=>(f1 c hc).1⟩;rw[I.list_inj hz q1];exact ex
 done:=by
  intro X hP hw hK hc i pins s σ H E I hf st hg;subst hP hw hK;obtain⟨⟨old,h1⟩,h2⟩:=st;obtain⟨xs,q1,he⟩:=hg;obtain⟨its,r1,pl,_⟩:=I.list q1;have n1:=r1.length;have nx:its.toArray[i]?=none:=by simp;lia
  have ty:s.TypeIs (.ref (N+1)) "enumerate":=⟨_,h1,rfl⟩;unfold pyNext;refine Qb (Vk (ZL (name:=Z2 "__next__") ty F.slot_enumerate_next (KY F.slot_enumerate_next ty F.entry_enumerate_next ?_ (F.args_enumerate_next_1 _))))
  change Qf _ _ (field (.ref (N+1)) 2>>=_) _ _ _
  refine Qb (Q5 h1 rfl (x:=.ref N) rfl (Qb (wpAny_nextOf_list_end (I.ok.hd hc) h2 pl.isList nx λh' e he' hx'=>?_)));obtain⟨o,ho,hc'⟩:=hx';refine Qb (wpAny_isInstance (T:="StopIteration") (b:=true) ⟨o,ho,hc'⟩ isSubtype_stop (Qh ⟨rfl,jz (t':=s.toks) I (λc o hc e=>?_) hf⟩));simp only[efp,Ql,Qw,or_false,not_or] at hc;exact he' c o hc.2 e
 self:=λ_ _ _ _ _ st h=>let⟨_,e⟩:=st.1;wpAny_pyIter_enum e h
section
variable{X:Cx}{a:Expr}{pos:Pos}{fa:Ev->Option D}
noncomputable def Gd(K:Qc)(ta:TA):TI:=λσ H R=>ta σ H λvs H1=>∃l xs,vs=[.ref l]/\SqL K H1 l xs/\R (Ite K l) H1
theorem zF{es:List Expr}{k0:Nat}{tpos p:Pos}{ta:TA}(hg:Gl X "enumerate")(hm:X.mg "enumerate" = none)(ha:PA X [a] ta)(hs:Qg [a] X.env=[(false,eval a X.env)]:=by rfl) :
  PI X (.Tuple es k0 tpos) (.Call (.Name "enumerate" p) [a] [] pos) (Gd X.K ta):=by
 intro pins s σ H R I h;refine Call_ (mX I hg hm boot_enumerate (Km (thn (ha pos pins s σ H _ I h) λus s1 ⟨vs,H1,I1,r1,q1⟩=>?_) hs rfl));obtain⟨l,xs,e,q1,q⟩:=q1;subst e
 cases r1 with | cons r rr=>
  cases rr;cases r;obtain⟨its,rv,pl,hz⟩:=I1.list q1;have lt:l<s1.heap.objs.size:=let⟨_,there,_⟩:=pl.isList;Qo there;refine call_enumerate_list pl.isList λh' he hit hsz hk=>wpAny_pyIter_enum he ?_;refine⟨s1.heap.objs.size+1,efp s1.heap.objs.size,_,_,H1,rfl,I1.kept (t':=s1.toks) hk,Ai s1.heap.objs.size l lt,⟨⟨_,he⟩,hit⟩,λc hc=>?_,q⟩
  have lc:s1.heap.objs.size<=c:=by
   simp only[efp,Ql,Qw,or_false] at hc;rcases hc with rfl | rfl<;>(show @LE.le Nat _ _ _;lia)
  exact I1.fpOk lc (I1.hok.fresh lc)
noncomputable def iZ:Nat->List D->List D
 |_,[]=>[]
 |n,d::ds=>.tup [.int (n:Int),d]::iZ (n+1) ds
theorem pb:∀(ds:List D) (n:Nat),(iZ n ds).length=ds.length
 |[],_=>rfl
 |d::ds,n=>by show(iZ (n+1) ds).length+1=ds.length+1;rw[pb ds]
theorem tF:∀(ds:List D) (n i:Nat) (d:D),ds[i]?=some d->(iZ n ds)[i]?=some (.tup [.int ((n+i:Nat):Int),d])
 |[],_,i,_,e=>by simp at e
 |x::ds,n,0,d,e=>by simp at e;subst e;rfl
 |x::ds,n,i+1,d,e=>by
  have:=tF ds (n+1) i d (by simpa using e);rw[show n+1+i=n+(i+1) by lia] at this;exact this
noncomputable def qZ(f:Ev->Option D):Ev->Option (List D):=λε=>match f ε with | some (.lst ds)=>some (iZ 0 ds) | _=>none
theorem zv{es:List Expr}{k0:Nat}{tpos p:Pos}(h:DE X a fa)(hm:X.mg "enumerate" = none)(hg:Gl X "enumerate":=by rfl)(hs:Qg [a] X.env=[(false,eval a X.env)]:=by rfl) :
  DI X (.Tuple es k0 tpos) (.Call (.Name "enumerate" p) [a] [] pos) (qZ fa):=by
 obtain⟨t,a1,a2⟩:=h;refine⟨_,zF hg hm (aC a1 aR hs) hs,λHe G H σ ε ds R gh E ef q=>?_⟩;unfold qZ at ef;split at ef
 ·rename_i ds' e1
  cases ef;refine a2 He G H σ ε _ _ gh E e1 λv G1 H1 g1 d1=>?_;obtain⟨l,xs,rfl,w1,w2⟩:=d1.lstV;refine⟨l,xs,rfl,g1.gh.seq w1,q _ G1 H1 g1 λi H2 s2=>?_⟩;have n1:=w2.length;refine⟨λhi=>?_,λhi=>⟨xs,s2.seq w1,by rw[pb] at hi;lia⟩,?_⟩
  ·rw[pb] at hi
   exact⟨xs,xs[i]' KM,s2.seq w1,by simp⟩
  ·rintro v H3 ⟨p',x,rfl,hn,rfl,w3⟩ d ed G2 s3 s4
   obtain⟨d',f1,f2⟩:=w2.getV (w3 xs (s2.seq w1));rw[tF ds' 0 i d' f1,Nat.zero_add] at ed;cases ed;have g:=Grow.new (.tup [.int (i:Int),x]) s4 hn;exact⟨_,g,.tup (xs:=[.int (i:Int),x]) (.inl (.inl upd_same)) (.cons (.int _) (.cons ((f2.mono s3).mono g.gg) .nil))⟩
 ·cases ef
end
end Dn
namespace RW2
open PySem PyProof.Rows
end RW2
namespace Dn
open PySem PySem.Spec PyProof.Rows L2 RW2
section
variable{X:Cx}{a b c:Expr}{fa fb fc:Ev->Option D}{pos:Pos}
theorem DM(l b:Addr)(items items2:Array Qa)(n n2:Nat)(d1 d2:Option Addr)(s1 s2:Array (Option Qa))(hc0:items.isEmpty=true):Meets (Builtin.«tuple.__add__» ⟨[.ref l,.ref b],[]⟩) (λ_ R s=>s.heap.get? l=some ⟨.type "tuple",d1,.seq items n,s1⟩/\s.heap.get? b=some ⟨.type "tuple",d2,.seq items2 n2,s2⟩/\R (.ok (.ret (Qn b))) s):=
 .of_wp λprog w A R s h=>by
  obtain⟨hp,gs,dr,tk,os⟩:=s;obtain⟨hl,hb,h⟩:=h;have q1:=AutoSeq1.sub_tuple_tuple;have q2:=AutoSeq1.sub_list_tuple
  (wp_walk using Z1 hl,Z1 hb);exact⟨_,rfl,h⟩
noncomputable def Fx(K:Qc):R2:=λx y H Q=>∃a b ys,x=.ref a/\y=.ref b/\SqT K H a []/\SqT K H b ys/\Q (.ref b) H
theorem Ds:OpR X (Zh .Add) (Fx X.K):=by
 intro pins s σ H x y v u Q I rx ry h;obtain⟨a,b,ys,rfl,rfl,ha,hb,q⟩:=h;cases rx;cases ry;obtain⟨its,r1,⟨⟨cls,dd,data,sl⟩,ho,hc,n,hd⟩,_⟩:=I.tuple ha;obtain⟨its2,r2,⟨⟨cls2,dd2,data2,sl2⟩,ho2,hc2,n2,hd2⟩,_⟩:=I.tuple hb;simp only at hc hd hc2 hd2;subst hc hd hc2 hd2;cases r1;exact concat_meets ⟨_,ho,rfl⟩ ⟨_,ho2,rfl⟩ noFill_tuple_add seq_tuple_add K8 K1 (KW _ _) (DM a b #[] its2.toArray n n2 dd dd2 sl sl2 rfl) ⟨ho,ho2,.ref b,H,I,rfl,q⟩
noncomputable def BY:D->D->Option D:=λx y=>match x,y with | .tup [],.tup ys=>some (.tup ys) | x,y=>CatI.C2 x y
theorem uA:OpD X (Zh .Add) BY:=by
 obtain⟨r,o1,o2⟩:=rN (X:=X);refine⟨λx y H Q=>r x y H Q\/Fx X.K x y H Q,λpins s σ H x y v u Q I rx ry h=>?_,λG H x y dx dy d Q gh hx hy e q=>?_⟩
 ·rcases h with h | h
  ·exact o1 pins s σ H x y v u Q I rx ry h
  ·exact Ds pins s σ H x y v u Q I rx ry h
 ·unfold BY at e
  split at e
  ·rename_i ys
   cases e;obtain⟨p,xs,rfl,h0,h1,h2⟩:=hx.tup gh;obtain⟨p',zs,rfl,h3,h4,h5⟩:=hy.tup gh;cases h2;exact .inr ⟨p,p',zs,rfl,rfl,h1,h4,q _ G H (.refl gh) (.tup h3 h5)⟩
  ·exact .inl (o2 G H x y _ _ d Q gh hx hy e q)
end
section
variable{X:Cx}
theorem Ey(l b:Addr)(items items2:Array Qa)(n n2:Nat)(d1 d2:Option Addr)(s1 s2:Array (Option Qa))(hc0:items.isEmpty=false)(hc1:items2.isEmpty=true):Meets (Builtin.«tuple.__add__» ⟨[.ref l,.ref b],[]⟩) (λ_ R s=>s.heap.get? l=some ⟨.type "tuple",d1,.seq items n,s1⟩/\s.heap.get? b=some ⟨.type "tuple",d2,.seq items2 n2,s2⟩/\R (.ok (.ret (Qn l))) s):=
 .of_wp λprog w A R s h=>by
  obtain⟨hp,gs,dr,tk,os⟩:=s;obtain⟨hl,hb,h⟩:=h;have q1:=AutoSeq1.sub_tuple_tuple;have q2:=AutoSeq1.sub_list_tuple
  (wp_walk using Z1 hl,Z1 hb);exact⟨_,rfl,h⟩
noncomputable def Fd(K:Qc):R2:=λx y H Q=>∃a b z zs,x=.ref a/\y=.ref b/\SqT K H a (z::zs)/\SqT K H b []/\Q (.ref a) H
theorem DN:OpR X (Zh .Add) (Fd X.K):=by
 intro pins s σ H x y v u Q I rx ry h;obtain⟨a,b,z,zs,rfl,rfl,ha,hb,q⟩:=h;cases rx;cases ry;obtain⟨its,r1,⟨⟨cls,dd,data,sl⟩,ho,hc,n,hd⟩,_⟩:=I.tuple ha;obtain⟨its2,r2,⟨⟨cls2,dd2,data2,sl2⟩,ho2,hc2,n2,hd2⟩,_⟩:=I.tuple hb;simp only at hc hd hc2 hd2;subst hc hd hc2 hd2;cases r2
 have ne:its.toArray.isEmpty=false:=by
  cases r1;rfl
 exact concat_meets ⟨_,ho,rfl⟩ ⟨_,ho2,rfl⟩ noFill_tuple_add seq_tuple_add K8 K1 (KW _ _) (Ey a b its.toArray #[] n n2 dd dd2 sl sl2 ne rfl) ⟨ho,ho2,.ref a,H,I,rfl,q⟩
noncomputable def zX:D->D->Option D:=λx y=>match x,y with | .tup (z::zs),.tup []=>some (.tup (z::zs)) | x,y=>BY x y
theorem zJ:OpD X (Zh .Add) zX:=by
 obtain⟨r,o1,o2⟩:=uA (X:=X);refine⟨λx y H Q=>r x y H Q\/Fd X.K x y H Q,λpins s σ H x y v u Q I rx ry h=>?_,λG H x y dx dy d Q gh hx hy e q=>?_⟩
 ·rcases h with h | h
  ·exact o1 pins s σ H x y v u Q I rx ry h
  ·exact DN pins s σ H x y v u Q I rx ry h
 ·unfold zX at e
  split at e
  ·rename_i z zs
   cases e;obtain⟨p,xs,rfl,h0,h1,h2⟩:=hx.tup gh;obtain⟨p',ws,rfl,h3,h4,h5⟩:=hy.tup gh;cases h5;cases h2 with | cons a1 a2=>exact .inr ⟨p,p',_,_,rfl,rfl,h1,h4,q _ G H (.refl gh) (.tup h0 (.cons a1 a2))⟩
  ·exact .inl (o2 G H x y dx dy d Q gh hx hy e q)
end
noncomputable def mnI:Int->List Int->Int
 |m,[]=>m
 |m,x::xs=>mnI (if x<m then x else m) xs
theorem wC:∀(xs:List Int) (m:Int),mnI m xs∈m::xs/\∀a∈m::xs,mnI m xs<=a
 |[],m=>⟨QD,λa h=>by cases h with | head=>exact Int.le_refl _ | tail _ z=>cases z⟩
 |x::xs,m=>by
  obtain⟨h1,h2⟩:=wC xs (if x<m then x else m);show mnI (if x<m then x else m) xs∈_/\∀a∈_,mnI (if x<m then x else m) xs<=a;have h3:=h2 _ QD;refine⟨?_,λa h=>?_⟩
  ·generalize mnI (if x<m then x else m) xs=M at *
   cases h1 with
   |head=>split<;>simp
   |tail _ z=>exact Qv _ (Qv _ z)
  ·cases h with
   |head=>split at h3<;>split<;>lia
   |tail _ z=>cases z with
    |head=>split at h3<;>split<;>lia
    |tail _ z=>exact h2 a (Qv _ z)
theorem Ck{m M:Int}{xs:List Int}(h1:M∈m::xs)(h2:∀a∈m::xs,M<=a):M=mnI m xs:=by
 obtain⟨q1,q2⟩:=wC xs m;have u1:=h2 _ q1;have u2:=q2 _ h1
 lia
section
variable{X:Cx}
theorem B4{its:List Qa}{ns:List Int}{xs:Array (Int×Tok)}(hi:IntsAre its ns)(e:its.toArray=Zd xs){v:Qa}{m:Int}{r:List Int}(en:ns=m::r)
  (hv:(Zd xs)[KQ (λi j=>decide (Kw xs i<Kw xs j)) (xs.size-1)]?=some v):∃tk,v=.int (mnI m r) tk:=by
 have hns:ns=xs.toList.map (·.1):=by rw[<-hi.numsOf,<-nums_intItems,<-e]
 have hsz:ns.length=xs.size:=by rw[hns];simp
 obtain⟨tk,rfl⟩:=intItems_at hv;obtain⟨b1,b2⟩:=argBest_lt (Kw xs) (xs.size-1);have pos:0<xs.size:=by rw[<-hsz,en];simp
 refine⟨tk,?_⟩
 have hm:Kw xs (KQ (λi j=>decide (Kw xs i<Kw xs j)) (xs.size-1))=mnI m r:=by
  refine Ck ?_ λu hu=>?_
  ·rw[<-en,hns,numAt_eq];exact getD_mem (by rw[Qt,Zw];lia)
  ·rw[<-en,hns] at hu
   obtain⟨j,hj,rfl⟩:=mem_getD hu;rw[Qt,Zw] at hj;rw[<-numAt_eq];exact b2 j KM
 rw[hm]
end
section
variable{prog:Qr}{w:Qx}{A:QB}{E:Qa->Qd->Prop}{s:Qd}{l:Addr}{xs:Array (Int×Tok)}
theorem itT{Q:Qa->Qd->Prop}(hl:s.heap.IsTuple l (Zd xs))
  (h:∀t:Qd,t={ s with heap:=s.heap.push { cls:=.type "tuple_iterator",data:=.fields #[.ref l,.int 0 0] } }->(t.heap.IsTupleIter s.heap.objs.size l 0/\t.heap.IsTuple l (Zd xs))->(∀b,b=s.heap.objs.size\/b=l->b<t.heap.objs.size)->l≠s.heap.objs.size->(∀g,(∀b o,b≠s.heap.objs.size->t.heap.get? b=some o->g.get? b=some o)->∀b o,s.heap.get? b=some o->Heap.get? g b=some o)->Q (.ref s.heap.objs.size) t) :
  Qf (Qj prog w) A (pyIter (.ref l)) Q E s:=by
 have lt:l<s.heap.objs.size:=let⟨_,e,_⟩:=hl;Qo e;refine Vu hl (h _ rfl ⟨⟨_,Qq _ rfl,rfl,rfl⟩,hl.push _⟩ (λb hb=>?_) (QC lt) λg kp b o e=>?_)
 ·show b<(s.heap.push _).objs.size
  rw[Za];rcases hb with rfl | rfl<;>lia
 ·refine kp b o (λz=>?_) (Qe _ e)
  rw[z] at e;exact Zb _ (Qo e)
theorem JE{Q:Qa->Qd->Prop}(hh:A.handled=none)(hl:s.heap.IsTuple l (Zd xs))(pos:0<xs.size)
  (h:∀v g tk,(Zd xs)[KQ (λi j=>decide (Kw xs i>Kw xs j)) (xs.size-1)]?=some v->(∀b o,s.heap.get? b=some o->g.get? b=some o)->Q v { s with heap:=g,toks:=tk }):Qf (Qj prog w) A (call (.builtin "max") [.ref l]) Q E s:=by
 refine call_max_walk (itT hl λt e st fp ne kp=>?_);subst e;refine⟨_,[_,l],[_],_,_,_,_,rfl,Walks.tuple (A:=A.in1) hh _ l ne (Zd xs),st,λb hb=>fp b (by simpa using hb),by simpa[Zd] using pos,CmpOf.ints_gt (Kw xs) (λ_ _=>intItems_at),λv g tk hP hk=>?_⟩;exact h v g tk (by simpa[Zd] using hP) (kp g λb o nb e=>hk b o (by simpa using nb) e)
theorem J7{Q:Qa->Qd->Prop}(hh:A.handled=none)(hl:s.heap.IsTuple l (Zd xs))(pos:0<xs.size)
  (h:∀v g tk,(Zd xs)[KQ (λi j=>decide (Kw xs i<Kw xs j)) (xs.size-1)]?=some v->(∀b o,s.heap.get? b=some o->g.get? b=some o)->Q v { s with heap:=g,toks:=tk }):Qf (Qj prog w) A (call (.builtin "min") [.ref l]) Q E s:=by
 refine call_min_walk (itT hl λt e st fp ne kp=>?_);subst e;refine⟨_,[_,l],[_],_,_,_,_,rfl,Walks.tuple (A:=A.in1) hh _ l ne (Zd xs),st,λb hb=>fp b (by simpa using hb),by simpa[Zd] using pos,CmpOf.ints_lt (Kw xs) (λ_ _=>intItems_at),λv g tk hP hk=>?_⟩;exact h v g tk (by simpa[Zd] using hP) (kp g λb o nb e=>hk b o (by simpa using nb) e)
end
section
variable{X:Cx}
noncomputable def pZ(f:Int->List Int->Int):List D->Option D
 |[.tup ds]=>(match gY ds with | some (m::r)=>some (.int (f m r)) | _=>none)
 |_=>none
theorem wW{id:String}{f:Int->List Int->Int}(hc:X.calm=true)
  (h:∀{A:QB} {E:Qa->Qd->Prop} {s:Qd} {l:Addr} {xs:Array (Int×Tok)} {Q:Qa->Qd->Prop} {its:List Qa} {m:Int} {r:List Int},A.handled=none->s.heap.IsTuple l (Zd xs)->0<xs.size->IntsAre its (m::r)->its.toArray=Zd xs->(∀g tk tk',(∀b o,s.heap.get? b=some o->Heap.get? g b=some o)->Q (.int (f m r) tk') { s with heap:=g,toks:=tk })->Qf KF A (call (.builtin id) [.ref l]) Q E s):lG X (.builtin id) (pZ f):=by
 refine⟨λxs H Q=>∃l m r,xs=[.ref l]/\SqT X.K H l ((m::r).map V.int)/\Q (.int (f m r)) H,λpins s σ H xs us Q I rv h0=>?_,λG H vs ds d Q gh hd e q=>?_⟩
 ·obtain⟨l,m,r,rfl,hq,q⟩:=h0
  obtain⟨u,rfl,ru⟩:=rv.one;cases ru;obtain⟨its,rr,pl,hz⟩:=I.tuple hq;have hi:IntsAre its (m::r):=mQ rr;have⟨xs,e⟩:=hi.allInts.items
  have hsz:(m::r).length=xs.size:=by
   have:(m::r)=xs.toList.map (·.1):=by rw[<-hi.numsOf,<-nums_intItems,<-e]
   rw[this];simp
  have hl:s.heap.IsTuple l (Zd xs):=by
   obtain⟨o,h1,h2,h3⟩:=pl;rw[<-e];exact⟨o,h1,h2,h3⟩
  exact h (I.ok.hd hc) hl (by rw[<-hsz];simp) hi e λg tk tk' kept=>⟨.int (f m r),H,I.kept (t':=tk) kept,⟨_,rfl⟩,q⟩
 ·unfold pZ at e
  split at e
  ·split at e
   ·rename_i m r et
    cases e
    cases hd with | cons h1 h2=>
     cases h2;obtain⟨l,xs,rfl,h3,h4⟩:=h1.tupV;have:=ky h4 et;subst this;exact⟨l,m,r,rfl,aM gh h3,q _ G H (.refl gh) (.int _)⟩
   ·cases e
  ·cases e
theorem Ew(hc:X.calm=true):lG X (.builtin "min") (pZ mnI):=wW hc λhh hl pos hi e q=>J7 hh hl pos λv g tk hv kept=>by
 obtain⟨tk',rfl⟩:=B4 hi e rfl hv;exact q g tk tk' kept
theorem Du(hc:X.calm=true):lG X (.builtin "max") (pZ mxI):=wW hc λhh hl pos hi e q=>JE hh hl pos λv g tk hv kept=>by
 obtain⟨tk',rfl⟩:=ua hi e rfl hv;exact q g tk tk' kept
end
end Dn
namespace Ex
open PySem PySem.Spec PyProof.Rows L2
section
variable{prog:Qr}{w:Qx}{A:QB}{E:Qa->Qd->Prop}{s:Qd}{K:Qc}{C x:Addr}{o od:Obj}
structure XK1(K:Qc)(C:Addr):Prop extends XG K C where
 cl:Qi K (.ref C) "__class__" = some (some (.builtin "object.__class__"))
 gs:PySem.W.specialIn K (.builtin "object.__class__") "__get__" = some (some (.builtin "getset_descriptor.__get__"))
 tk:PySem.W.takesIn K (.builtin "object.__class__")=some true
 ob:ZH K C (.type "object")=some true
theorem GV{Q:Option Qa->Qd->Prop}(X:K.In s.heap)(c:XK1 K C)(J:Vb s.heap x o C (some od))(hq:Q (some (.ref C)) { s with toks:=s.toks+1 }):Qf (Qj prog w) A (getAttr? (.ref x) "__class__") Q E s:=by
 have hf:PySem.W.findObj K C (some od) "__class__" = some (.bind (.builtin "getset_descriptor.__get__") (.builtin "object.__class__")):=PySem.W.findObj_data (by obtain⟨cd,hc,_⟩:=PySem.W.any_some c.dict;rw[hc];rfl) c.cl c.gs c.tk;have found:=PySem.W.looks_find (M:=Qj prog w) X J hf;have inst:PySem.W.Looks (Qj prog w) s.heap (isInstance (.ref x) (.type "BaseException")) true:=J.type.andThen (PySem.W.looks_mroIn X c.exc);have FG:=PySem.F.attr_ValueError.ga;obtain⟨h,g,d,t,os⟩:=s;unfold getAttr?;refine Qb (wpAny_mkText (?_));unfold getAttrBy?;apply Qb;apply Vk;unfold getAttrBy;refine QX (Qb (J.type.at (Qb ((KH X c.ga).at ?_))));dsimp only;rw[FW,Bool.and_false,if_neg KE];unfold getAttrByItsOwn;refine Qb ((PySem.W.looks_hook (mc:=.ref C) (r:=none) X c.no).at (Qb (Vk (QX ?_))));unfold callGetattribute;rw[if_neg KE];unfold boundAndCalled;rw[FG.bind];refine Qb (Qh (Kk (Vh FG.plain PySem.F.entry_bexc_ga (@PySem.W.check_slot (Qj prog w) _ _ ⟨h,g,d,t+1,os⟩ "BaseException.__getattribute__" "BaseException" "__getattribute__" (.ref x) [.str "__class__" t] [] _ FK Fv inst (PySem.F.args_bexc_ga (.ref x) (.str "__class__" t)) ?_))));refine Qb (Qh (Qb (Qh (Qb (J.type.at (Qb (found.at ?_)))))));dsimp only;show Qf _ _ (ZO [_] (call _ [_,.ref x,.ref C])>>=λv=>ret v) _ _ _;refine Qb (QX (Kk (PySem.W.class_get (s:=⟨h,g,d,t+1,os⟩) (ox:=o) (od:=some od) X J c.ob (Qh ?_))));exact PySem.W.handed_on rfl (Qh hq)
theorem B3(c:XK1 K C):PySem.W.KitX K (.ref x) (.ref C) (λh=>Vb h x o C (some od)) where
 ty:=λ_ _ _ I=>I.type
 it:=λM1 h1 X1 _=>by
  obtain⟨cd,c1,_⟩:=PySem.W.any_some c.dict;unfold ZG at c1;split at c1
  ·rename_i l1
   intro A1 Q1 E1 s1 k1 q1;unfold isType loadHead;have a1:=k1 _ _ (X1 _ _ l1);apply Qb;exact wpAny_loadPart a1 (Qh q1)
  ·cases c1
 ne:=λh1 t1 d1 i1 n1 s1 X1 e1=>by
  obtain⟨cd,c1,_⟩:=PySem.W.any_some c.dict;cases z1:(Qn C==Qn t1) with
  |false=>rfl
  |true=>
   cases Value.ref.inj (beq_iff_eq.mp z1);unfold ZG at c1;split at c1
   ·rename_i l1
    cases((X1 _ _ l1).symm.trans e1)
   ·cases c1
 ca:=λX I k=>GV X c I k
end
section
variable{M:Model}{A:QB}{E:Qa->Qd->Prop}{nm q nm' q':Str}{C N B N':Addr}{bs bm bs' bm':List Qa}{hdct hdct':Bool}{sn sn':List Str}{sub sub':List Qa}{ab ab':Bool}{col col':Option Bool}{dd dd':Option Addr}{k0 k1 k2 k3 k5 j0 j1 j2 j3 j5:Option Qa}{newId newId':String}
theorem D2{h:Heap}{g:Array GenState}{d:Drawn}{t:Nat}{os:OsState}{e:Addr}{oe:Obj}{Q:Bool->Qd->Prop}(hC:h.get? C=some (ZQ nm q C N bs bm hdct sn sub ab col dd k0 k1 k2 k3 k5 newId))
  (hB:h.get? B=some (ZQ nm' q' B N' bs' bm' hdct' sn' sub' ab' col' dd' j0 j1 j2 j3 j5 newId')) (he:h.get? e=some oe) (hcls:oe.cls=.ref C) (b1:bm'.contains (.type "BaseException")=true) (b2:bm.contains (.ref B)=true)
  (hq:Q true ⟨h,g,d,t,os⟩):Qf M A (excMatches (.ref e) (.ref B)) Q E ⟨h,g,d,t,os⟩:=by
 have c1:(Qn B::bm').contains (.type "BaseException")=true:=by rw[QS,b1];simp
 have c2:(Qn C::bm).contains (.ref B)=true:=by rw[QS,b2];simp
 have nt:=tc_notTuple;unfold excMatches
 repeat (first | (with_reducible refine Q9 he ?_;rw[hcls]) | with_reducible refine Q9 hB ?_ | (with_reducible refine Zy hB ?_;rw[c1]) | (with_reducible refine Zy hC ?_;rw[c2]) | wp_step)
 exact hq
end
end Ex
namespace Dn
open PySem PySem.Spec PyProof.Rows L2
section
variable{X:Cx}{a dx C:Addr}{oe:Obj}
noncomputable def IG(K:Qc)(C a dx:Addr):List V->Hp->VK->Prop:=λxs H Q=>∃vs D b,xs=[.ref a,.ref D]/\H dx=some (.xd vs)/\Ki K (.ref C) (.ref D)=some b/\Q (.bl b) H
theorem C0(g:Ex.XK1 X.K C)(hc:oe.cls=.ref C)(hd:oe.dict=some dx)(nc:Zp oe=true):iW (Mk3 X a oe) (.builtin "isinstance") (IG X.K C a dx):=by
 rintro pins s σ H xs us Q I rv ⟨vs,D,b,rfl,hx,hk,q⟩
 cases rv with | cons r1 rv=>cases rv with | cons r2 rv=>
  cases rv;cases r1;cases r2;obtain⟨mA,n0,r0⟩:=I.hok dx _ hx;obtain⟨od,e,hl⟩:=oU n0;have pin:=(I.pin (a,oe) (Zs _ QD)).1;have J:Vb s.heap a oe C (some od):=⟨pin,hc,nc,by rw[hd];exact e⟩;exact Z3 (Ex.B3 g) I.kIn J hk (λz=>nomatch z) λtk=>⟨.bl b,H,I.tok tk,rfl,q⟩
end
theorem vI{X:Cx}{a:Addr}{oe:Obj}{pins:List Vz}{σ:L2.St}{H:Hp}{s:Qd}{st:List Stmt}{t:TS}{R:L2.St->Hp->Prop}(I:Inv (Ex.Mk2 X a) ((a,oe)::pins) σ H s)(h:PSs (Mk3 X a oe) st t)(q:t ⟨R,λ_ _=>False,λ_ _=>False,λ_ _=>False⟩ σ H) :
  Qf KF (Ex.Mk2 X a).A (execs st X.env) (λf s4=>f=.next/\∃σ4 H4,Inv (Ex.Mk2 X a) ((a,oe)::pins) σ4 H4 s4/\R σ4 H4) (λ_ _=>False) s:=by
 refine Zk (h pins s σ H _ (EO I) q) (λf s4 z=>?_) λ_ _ z=>z.elim;cases f with
 |next=>obtain⟨σ4,H4,I4,r⟩:=z;exact⟨rfl,σ4,H4,BW I.ok I4,r⟩
 |brk=>obtain⟨_,_,_,r⟩:=z;exact r.elim
 |cont=>obtain⟨_,_,_,r⟩:=z;exact r.elim
 |ret u=>obtain⟨_,_,_,_,_,r⟩:=z;exact r.elim
theorem Da{X:Cx}{e:Expr}:DE X e (λ_=>none):=⟨λ_ _ _=>False,λ_ _ _ _ _ _ h=>h.elim,λ_ _ _ _ _ _ _ _ _ e=>by cases e⟩
theorem xI{K:Qc}{He G H:Hp}(σ:L2.St):EnvD K He G H σ (Z9 σ.length Sl.un):=by
 have no:∀{i:Nat} {x:Sl},(Z9 σ.length Sl.un)[i]?=some x->x=.un:=λ{i x} e=>by
  rw[ZK] at e;split at e
  ·cases e;rfl
  ·cases e
 exact⟨by simp,λe=>(nomatch no e),λe=>(nomatch no e),λe=>(nomatch no e),λe=>(nomatch no e),λe=>(nomatch no e)⟩
section
variable{X:Cx}{elt tg iter:Expr}{sc:Scope}{cl:List (Str×Addr)}{tn fr:List Str}{ix:List Nat}{pos:Pos}{wi:TI}{g:D->Ev->Option Ev}
noncomputable def JZ(K:Qc)(wi:TI):TE:=λσ H Q=>wi σ H λJ H'=>aT H H'/\ItD K J [] H'/\∀a H'',aT H' H''->H' a=none->H'' a=some (.lst [])->Q (.ref a) H''
theorem Cb(hc:X.calm=true)(hi:PI X tg iter wi)(S:CompSc X sc cl tn fr ix)(ng:NoG g)(hg:∀C s₃ H₃ fp pins,DG Vx tg g)(hs:∀x,ZM iter X.env x=pure x:=by intro _;rfl) :
  PE X (.ListComp elt [⟨tg,iter,[],0⟩] sc pos) (JZ X.K wi):=by
 intro pins s σ H Q I h;rw[eval_ListComp];refine wpAny_comprehension_free (use:=none) rfl hs S.clos S.kind S.names (thn (hi pins s σ H _ I h) λv s1 h1=>thn h1 λitv s2 h2=>?_);obtain⟨it,fp,tn',J,H2,rfl,I2,T,st2,f2,hh,itd,q⟩:=h2;refine Zl (wpAny_newFunctionEnv S.nocell (by intro y hy;simp at hy) (λh₁ hns₁ hsb₁=>?_) S.kind);dsimp only at hns₁ hsb₁ ⊢;have fr2:H2 s2.heap.objs.size=none:=I2.hok.fresh (Qm _)
 have I3:Inv X pins σ (upd H2 s2.heap.objs.size (.lst [])) { s2 with heap:=s2.heap.push { cls:=.type "list",dict:=none,data:=.seq ([]:List Qa).toArray } }:=
  I2.laid (t':=s2.toks) (o:=.lst []) (λb ob q=>Qe _ q) (Qm _) ⟨QV _,[],0,.nil,Qq _ rfl⟩
 have fpD:∀b∈fp,b≠s2.heap.objs.size:=λb hb z=>by
  obtain⟨o,e,_⟩:=T.obj 0 _ st2 b hb;exact absurd (Qo e) (by rw[z];exact Zb _)
 have f3:∀b∈fp,nQ X pins (upd H2 s2.heap.objs.size (.lst [])) b:=λb hb=>⟨by rw[az (fpD b hb)];exact(f2 b hb).1,(f2 b hb).2⟩
 have lt3:∀b∈fp,b<(s2.heap.push { cls:=.type "list",dict:=none,data:=.seq ([]:List Qa).toArray }).objs.size:=λb hb=>by
  obtain⟨o,e,_⟩:=T.obj 0 _ st2 b hb;rw[Za];exact Nat.lt_succ_of_lt (Qo e)
 have st3:tn' 0 (s2.heap.push { cls:=.type "list",dict:=none,data:=.seq ([]:List Qa).toArray }):=T.keep _ _ _ st2 λb hb o e=>Qe _ e
 refine wy (Nv:=λ_ _ _=>True) (Nl:=λ_ _ _=>True) (λ_ _=>trivial) (λ_ _ _ _ _ _=>trivial) (λ_ _ _ _ _ _ _ _ _ _ _=>trivial) (He:=H2) (G:=H2) (H:=H2) (G1:=H2) (ε:=Z9 σ.length .un) (ds:=[]) (rs:=[]) (fe:=λ_=>none) (ft:=ig)
  (s3:={ s2 with heap:=s2.heap.push { cls:=.type "list",dict:=none,data:=.seq ([]:List Qa).toArray } }) hc S ng hg (λ_ _ _ _ _=>jf) (λ_ _ _ _ _=>Da.p) I3 (xI σ) KE rfl ?_ T itd f3 lt3 st3 (.lay _ (aT.refl _) fr2) upd_same fr2 fr2 hns₁ λb o e=>hsb₁.extBut b o (QC (Qo e)) (Qe _ e)
 intro a xs G' H' C oC m s' IX hNs hC pC gr hn gn ha hd nv;cases hd;exact⟨m,hNs,λh' hs'=>⟨.ref a,H',tS IX hC pC hs',rfl,q a H' gr.hh hn ha⟩⟩
end
end Dn
namespace L2
open PySem PySem.Spec PyProof.Rows
noncomputable def Its(x:Str):It:=⟨λi _=>i<x.cps.size,λi H v H'=>H'=H/\∃c,x.cps[i]?=some c/\v=.str ⟨#[c]⟩,λi _=>x.cps.size<=i⟩
theorem BX{P:Qr}{w:Qx}{K:Qc}{tg:Expr}{x:Str}{t:Tok}{T:String}(it:Addr)(hT:T = "str_ascii_iterator"\/T = "str_iterator"):Turn P w K tg (Its x) [it] it (λi h=>h.IsStrIter it T x t i) where
 mem:=by simp
 obj:=λi h st b hb=>by
  have e:b=it:=by simpa using hb
  subst e;obtain⟨o,e,c,d⟩:=st;exact⟨o,e,λv z=>by rw[d] at z;cases z⟩
 keep:=λi h h' st k=>let⟨o,e,r⟩:=st;⟨o,k it (by simp) o e,r⟩
 item:=by
  intro X hP hw hK hc i pins s σ H E I hf st hg;subst hP hw hK;obtain⟨f0,f1,f2,f3,f4,f5⟩:=hf it (by simp);obtain⟨c0,hx⟩:∃c,x.cps[i]?=some c:=⟨_,Array.getElem?_eq_getElem (show i<x.cps.size from hg)⟩
  have fin:∀h',h'.IsStrIter it T x t (i+1)->ZP it s.heap h'->∃u,some (Value.str ⟨#[c0]⟩ s.toks)=some u/\Qf KF X.A (Vr tg (.ref it) u) (λ_ s2=>∃y H',Inv X pins σ H' s2/\bq y u/\(Its x).yld i H y H'/\s2.heap.IsStrIter it T x t (i+1)/\∀b∈[it],H' b=none) E { s with heap:=h',toks:=s.toks+1 }:=λh' st' sb=>by
   have I1:Inv X pins σ H { s with heap:=h',toks:=s.toks+1 }:=I.turned (λb o hb e=>(sb.2 b hb).trans e) f0 f1 f3 f4 f5;obtain⟨o,e,c,d⟩:=id st';exact⟨_,rfl,zt (s:={ s with heap:=h',toks:=s.toks+1 }) e c d (by rcases hT with rfl | rfl<;>decide) ⟨.str ⟨#[c0]⟩,H,I1,⟨_,rfl⟩,⟨rfl,_,hx,rfl⟩,st',λb hb=>(hf b hb).1⟩⟩
  rcases hT with rfl | rfl
  ·exact wpAny_pyNext_ascii_item st hx fin
  ·exact wpAny_pyNext_wide_item st hx fin
 done:=by
  intro X hP hw hK hc i pins s σ H E I hf st hg;subst hP hw hK;obtain⟨f0,f1,f2,f3,f4,f5⟩:=hf it (by simp);have hx:x.cps[i]?=none:=by simp[show x.cps.size<=i from hg]
  have fin:∀h',Heap.ExtBut it s.heap h'->(none:Option Qa)=none/\Inv X pins σ H { s with heap:=h' }:=λh' eb=>⟨rfl,I.turned (t':=s.toks) (λb o hb e=>eb b o hb e) f0 f1 f3 f4 f5⟩;rcases hT with rfl | rfl
  ·exact wpAny_pyNext_ascii_end (I.ok.hd hc) st hx fin
  ·exact wpAny_pyNext_wide_end (I.ok.hd hc) st hx fin
 self:=λ_ _ _ _ _ st h=>by
  rcases hT with rfl | rfl
  ·exact wpAny_pyIter_striter_ascii st h
  ·exact wpAny_pyIter_striter_wide st h
section
variable{X:Cx}{tg:Expr}
noncomputable def JO(tl:TE):TI:=λσ H R=>tl σ H λv H1=>∃x,v=.str x/\R (Its x) H1
theorem F0{l:Expr}{tl:TE}(hl:PE X l tl):PI X tg l (JO tl):=by
 intro pins s σ H R I h;refine thn (hl pins s σ H _ I h) λv s1 ⟨y,H1,I1,r1,q1⟩=>?_;obtain⟨x,e,q⟩:=q1;subst e;obtain⟨t,rfl⟩:=r1
 have go:∀T,(T = "str_ascii_iterator"\/T = "str_iterator")->PIE X pins σ tg R (.ref s1.heap.objs.size) { s1 with heap:=s1.heap.push { cls:=.type T,data:=.fields #[.str x t,.int 0 0] } }:=λT hT=>
  ⟨s1.heap.objs.size,[s1.heap.objs.size],_,_,H1,rfl,I1.kept (t':=s1.toks) λb o e=>Qe _ e,BX _ hT,⟨_,Qq _ rfl,rfl,rfl⟩,λb hb=>by
   have e:b=s1.heap.objs.size:=by simpa using hb
   subst e
   exact I1.fpOk (Qm _) (I1.hok.fresh (Qm _)),q⟩
 cases ha:x.cps.all (· < 128)
 ·exact wpAny_pyIter_wide ha (go _ (.inr rfl))
 ·exact wpAny_pyIter_ascii ha (go _ (.inl rfl))
end
end L2
namespace Dn
open PySem PySem.Spec PyProof.Rows L2
section
variable{X:Cx}{a b:Expr}{fa fb:Ev->Option D}{pos:Pos}
noncomputable def yC(x:Str):List D:=x.cps.toList.map λc=>.str ⟨#[c]⟩
noncomputable def rJ(f:Ev->Option D):Ev->Option (List D):=λε=>match f ε with | some (.str x)=>some (yC x) | _=>none
theorem Cq{tg:Expr}(h:DE X a fa):DI X tg a (rJ fa):=by
 obtain⟨t,a1,a2⟩:=h;refine⟨_,F0 a1,λHe G H σ ε ds R gh E ef q=>?_⟩;unfold rJ at ef;split at ef
 ·rename_i x e1
  cases ef;refine a2 He G H σ ε _ _ gh E e1 λv G1 H1 g1 d1=>?_;cases d1;have ln:(yC x).length=x.cps.size:=by simp[yC]
  refine⟨x,rfl,q _ G1 H1 g1 λi H2 s2=>⟨λhi=>?_,λhi=>?_,?_⟩⟩
  ·show i<x.cps.size
   rw[<-ln];exact hi
  ·show x.cps.size<=i
   rw[<-ln];exact hi
  ·rintro y H3 ⟨rfl,c,hc,rfl⟩ d ed G2 s3 s4
   refine⟨G2,.refl s4,?_⟩;unfold yC at ed;rw[QJ] at ed;obtain⟨m,em,rfl⟩:=bh ed;have:x.cps[i]?=some m:=by rw[<-Array.getElem?_toList];exact em
   rw[hc] at this;cases this;exact .str _
 ·cases ef
end
end Dn
namespace L2
open PySem PySem.Spec PyProof.Rows
section
variable{κ:Type}[DecidableEq κ]
noncomputable def qt(kvs:List (κ×V))(k:κ):Option V:=(kvs.find? λkv=>decide (kv.1=k)).map (·.2)
noncomputable def kK(kvs:List (κ×V))(k:κ)(v:V):List (κ×V):=
 if(kvs.any λkv=>decide (kv.1=k))=true then kvs.map (λkv=>if kv.1=k then(kv.1,v) else kv) else kvs++[(k,v)]
theorem oK{p:κ×V}{r:List (κ×V)}{k:κ}(e:p.1=k):qt (p::r) k=some p.2:=by simp[qt,K6,e]
theorem oF{p:κ×V}{r:List (κ×V)}{k:κ}(e:¬ p.1=k):qt (p::r) k=qt r k:=by simp[qt,K6,e]
theorem qM(k:κ):∀kvs:List (κ×V),(kvs.any λkv=>decide (kv.1=k))=(qt kvs k).isSome
 |[]=>rfl
 |p::r=>by
  rw[List.any_cons]
  by_cases e:p.1=k
  ·simp only[oK e,decide_eq_true e,Bool.true_or,Option.isSome_some]
  ·rw[oF e,decide_eq_false e,Bool.false_or];exact qM k r
theorem lj(kvs:List (κ×V))(k:κ)(v:V):(kK kvs k v).length<=kvs.length+1:=by
 unfold kK;split
 ·rw[Qt];lia
 ·rw[QI,QM,List.length_nil];lia
theorem jR.isSome_eq{o:Option V}{u:Option Qa}(r:jR o u):o.isSome=u.isSome:=by
 cases o with
 |none=>cases u with
  |none=>rfl
  |some _=>exact(show False from r).elim
 |some _=>cases u with
  |none=>exact(show False from r).elim
  |some _=>rfl
theorem KV.val{kvs:List (κ×V)}{vs:List (κ×Qa)}(r:KV kvs vs)(k:κ):jR (qt kvs k) (valueAt vs k):=by
 unfold KV at r
 induction r with
 |nil=>exact ZY
 |@cons p q ps qs h t ih=>
  obtain⟨h1,h2⟩:=h
  by_cases e:p.1=k
  ·have e':q.1=k:=h1.symm.trans e
   have b:valueAt (q::qs) k=some q.2:=by simp[valueAt,K6,e']
   rw[oK e,b];exact h2
  ·have e':¬ q.1=k:=λz=>e (h1.trans z)
   have b:valueAt (q::qs) k=valueAt qs k:=by simp[valueAt,K6,e']
   rw[oF e,b];exact ih
theorem KV.any{kvs:List (κ×V)}{vs:List (κ×Qa)}(r:KV kvs vs)(k:κ):(kvs.any λkv=>decide (kv.1=k))=vs.any λkv=>decide (kv.1=k):=by
 unfold KV at r
 induction r with
 |nil=>rfl
 |cons h t ih=>rw[List.any_cons,List.any_cons,ih,h.1]
theorem KV.repl{kvs:List (κ×V)}{vs:List (κ×Qa)}(r:KV kvs vs)(k:κ){y:V}{u:Qa}(ry:bq y u) :
  KV (kvs.map λkv=>if kv.1=k then(kv.1,y) else kv) (vs.map λkv=>if kv.1=k then(kv.1,u) else kv):=by
 unfold KV at r ⊢
 induction r with
 |nil=>exact .nil
 |@cons p q ps qs h t ih=>
  rw[Q3,Q3];refine .cons ?_ ih;obtain⟨h1,h2⟩:=h
  by_cases e:p.1=k
  ·rw[if_pos e,if_pos (h1.symm.trans e)];exact⟨h1,ry⟩
  ·rw[if_neg e,if_neg (λz=>e (h1.trans z))];exact⟨h1,h2⟩
theorem KV.put{kvs:List (κ×V)}{vs:List (κ×Qa)}(r:KV kvs vs)(k:κ){y:V}{u:Qa}(ry:bq y u):KV (kK kvs k y) (stored vs k u):=by
 unfold kK stored;rw[r.any k]
 by_cases e:(vs.any λkv=>decide (kv.1=k))=true
 ·rw[if_pos e,if_pos e];exact r.repl k ry
 ·rw[if_neg e,if_neg e];exact Paired.snoc r ⟨rfl,ry⟩
theorem KV.length{kvs:List (κ×V)}{vs:List (κ×Qa)}(r:KV kvs vs):kvs.length=vs.length:=Paired.length r
end
theorem zd{P:Qr}{w:Qx}{k:Key}{u:Qa}(r:bq (kV k) u):(cK P w).is k u=true:=by
 cases k with
 |inl i=>obtain⟨t,e⟩:=(show ∃t,u=Value.int i t from r);subst e;exact wA P w i t
 |inr x=>obtain⟨t,e⟩:=(show ∃t,u=Value.str x t from r);subst e;exact vQ P w x t
theorem tG{P:Qr}{w:Qx}:∀{ks:List Key} {us:List Qa},bu (ks.map kV) us->ItemsAre (cK P w) ks us
 |[],_,r=>by rw[List.map_nil] at r;cases r;exact .nil
 |k::ks,_,r=>by
  rw[Q3] at r;cases r with
  |cons h t=>exact .cons (zd h) (tG t)
noncomputable abbrev KT(H:Hp):List (List Key×V)->List (List Key×Addr×Qa)->Prop:=Paired λp q=>p.1=q.1/\H q.2.1=some (.tup (p.1.map kV))/\bq p.2 q.2.2
theorem KT.val{H:Hp}{kvs:List (List Key×V)}{xs:List (List Key×Addr×Qa)}(r:KT H kvs xs)(k:List Key):jR (qt kvs k) ((atKey xs k).map (·.2)):=by
 induction r with
 |nil=>exact ZY
 |@cons p q ps qs h t ih=>
  obtain⟨h1,_,h2⟩:=h
  by_cases e:p.1=k
  ·have e':q.1=k:=h1.symm.trans e
   have b:atKey (q::qs) k=some q.2:=by simp[atKey,K6,e']
   rw[oK e,b];exact h2
  ·have e':¬ q.1=k:=λz=>e (h1.trans z)
   have b:atKey (q::qs) k=atKey qs k:=by simp[atKey,K6,e']
   rw[oF e,b];exact ih
theorem KT.repl{H:Hp}{kvs:List (List Key×V)}{xs:List (List Key×Addr×Qa)}(r:KT H kvs xs)(k:List Key){y:V}{u:Qa}(ry:bq y u) :
  KT H (kvs.map λkv=>if kv.1=k then(kv.1,y) else kv) (xs.map (putAt k u)):=by
 induction r with
 |nil=>exact .nil
 |@cons p q ps qs h t ih=>
  rw[Q3,Q3];refine .cons ?_ ih;obtain⟨h1,h2,h3⟩:=h;unfold putAt
  by_cases e:p.1=k
  ·rw[if_pos e,if_pos (h1.symm.trans e)];exact⟨h1,h2,ry⟩
  ·rw[if_neg e,if_neg (λz=>e (h1.trans z))];exact⟨h1,h2,h3⟩
theorem KT.put{H:Hp}{kvs:List (List Key×V)}{xs:List (List Key×Addr×Qa)}(r:KT H kvs xs)(k:List Key){b:Addr}{y:V}{u:Qa}(hb:H b=some (.tup (k.map kV)))(ry:bq y u) :
  KT H (kK kvs k y) (storedH xs k b u):=by
 have e:(kvs.any λkv=>decide (kv.1=k))=(atKey xs k).isSome:=by
  rw[qM,(r.val k).isSome_eq,Option.isSome_map]
 unfold kK storedH;rw[e]
 by_cases q:(atKey xs k).isSome=true
 ·rw[if_pos q,if_pos q];exact r.repl k ry
 ·rw[if_neg q,if_neg q];exact Paired.snoc r ⟨rfl,hb,ry⟩
theorem KT.keeps{H H':Hp}{kvs:List (List Key×V)}{xs:List (List Key×Addr×Qa)}(r:KT H kvs xs)(ht:∀b ys,H b=some (.tup ys)->H' b=some (.tup ys)):KT H' kvs xs:=
 Paired.mapP r λ_ _ z=>⟨z.1,ht _ _ z.2.1,z.2.2⟩
section
variable{P:Qr}{w:Qx}{H:Hp}{h:Heap}{a:Addr}
theorem FH{u:HO}(ok:HOk P w H h)(e:Rd H a u):cW P w H h a u:=e.ok ok
theorem zw{kvs:List (Key×V)}(ok:HOk P w H h)(e:Rd H a (.dK kvs)):kvs.length<=Qk/\(a==ZV)=false/\∃vs,KV kvs vs/\h.DictOf (cK P w) a vs:=
 show cW P w H h a (.dK kvs) from FH ok e
theorem Fk{kvs:List (Key×V)}(ok:HOk P w H h)(e:H a=some (.dK kvs)):kvs.length<=Qk/\(a==ZV)=false/\∃vs,KV kvs vs/\h.DictOf (cK P w) a vs:=zw ok (.inl e)
theorem xH{ks:List Key}(ok:HOk P w H h)(e:H a=some (.tup (ks.map kV))):(tupleKind (cK P w)).is h ks a:=by
 obtain⟨_,its,r,o,h1,h2,n,h3⟩:=(show cW P w H h a (.tup (ks.map kV)) from ok a _ e);exact⟨o,its.toArray,n,h1,h2,h3,by simpa using tG r⟩
theorem BQ{kvs:List (List Key×V)}(ok:HOk P w H h)(e:Rd H a (.dT kvs)):kvs.length<=Qk/\(a==ZV)=false/\
  ∃xs,KT H kvs xs/\h.DictOfH (tupleKind (cK P w)) a xs:=by
 obtain⟨z,y,xs,r,o,es,ep,h1,h2,h3,h4,h5⟩:=(show cW P w H h a (.dT kvs) from FH ok e);refine⟨z,y,xs,r,o,es,ep,h1,h2,h3,h4,λx hx=>?_,h5⟩
 have all:∀{l:List (List Key×V)} {m:List (List Key×Addr×Qa)},KT H l m->∀x∈m,(tupleKind (cK P w)).is h x.1 x.2.1:=by
  intro l m q
  induction q with
  |nil=>intro x hx;exact nomatch hx
  |@cons p q ps qs hq t ih=>
   intro x hx;rcases Ql.mp hx with e | hx
   ·subst e
    exact xH ok (by rw[<-hq.1];exact hq.2.1)
   ·exact ih x hx
 exact all r x hx
theorem Jq{kvs:List (List Key×V)}(ok:HOk P w H h)(e:H a=some (.dT kvs)):kvs.length<=Qk/\(a==ZV)=false/\
  ∃xs,KT H kvs xs/\h.DictOfH (tupleKind (cK P w)) a xs:=BQ ok (.inl e)
end
noncomputable def uP(H:Hp)(a:Addr)(y:V)(r:Option V):Prop:=
 (∃kvs k,Rd H a (.dK kvs)/\y=kV k/\r=qt kvs k)\/∃kvs k b,Rd H a (.dT kvs)/\y=.ref b/\H b=some (.tup (k.map kV))/\r=qt kvs k
noncomputable def vy(H:Hp)(a:Addr)(y v:V)(H':Hp):Prop:=
 (∃kvs k,H a=some (.dK kvs)/\y=kV k/\kvs.length<Qk/\H'=upd H a (.dK (kK kvs k v)))\/
 ∃kvs k b,H a=some (.dT kvs)/\y=.ref b/\H b=some (.tup (k.map kV))/\kvs.length<Qk/\H'=upd H a (.dT (kK kvs k v))
theorem uP.k{H:Hp}{a:Addr}{kvs:List (Key×V)}{k:Key}(e:H a=some (.dK kvs)):uP H a (kV k) (qt kvs k):=.inl ⟨kvs,k,.inl e,rfl,rfl⟩
theorem vy.k{H:Hp}{a:Addr}{kvs:List (Key×V)}{k:Key}{v:V}(e:H a=some (.dK kvs))(hl:kvs.length<Qk):vy H a (kV k) v (upd H a (.dK (kK kvs k v))):=.inl ⟨kvs,k,e,rfl,hl,rfl⟩
section
variable{X:Cx}{pins:List Vz}{σ:St}{H:Hp}{s:Qd}{a:Addr}{y v:V}{u r:Qa}{o:Option V}{A:QB}{E:Qa->Qd->Prop}
theorem Inv.big(I:Inv X pins σ H s):ZV<s.heap.objs.size:=by
 have h:Qs<s.heap.objs.size:=(I.mod.glob.keeps I.bk).lt;exact K0 KE h
theorem AO{Q:Qa->Qd->Prop}(hu:A.units+1<cLine)(I:Inv X pins σ H s)(g:uP H a y (some v))(ry:bq y u)(h:∀w' s',Inv X pins σ H s'->bq v w'->Q w' s') :
  Qf KF A (getItem (.ref a) u) Q E s:=by
 rcases g with⟨kvs,k,e,ey,l⟩ | ⟨kvs,k,b,e,ey,eb,l⟩
 ·subst ey
  obtain⟨z,hd,vs,rel,dd⟩:=zw I.hok e;obtain⟨w',hw,rw'⟩:=jR.some_of (v:=v) (o:=valueAt vs k) (by rw[l];exact rel.val k);exact wpAny_getItem_of (zd ry) dd.mapOf hw (h w' _ (I.tok _) rw')
 ·subst ey
  cases(show u=Qn b from ry);obtain⟨z,hd,xs,rel,dd⟩:=BQ I.hok e;obtain⟨w',hw,rw'⟩:=jR.some_of (v:=v) (o:=(atKey xs k).map (·.2)) (by rw[l];exact rel.val k);obtain⟨p,hp,hp2⟩:=Option.map_eq_some_iff.mp hw;refine wpAny_getItem_heap (tupleKind_room_in1 hu) (xH I.hok eb) dd hp ?_;rw[hp2];exact h w' _ (I.tok _) rw'
theorem tY{h':Heap}{t':Nat}{ob:HO}(I:Inv X pins σ H s)(mu:Mut (H a))(hs:ZP a s.heap h')(he:∃q,h'.get? a=some q)(new:cW X.prog X.w (upd H a ob) h' a ob) :
  Inv X pins σ (upd H a ob) { s with heap:=h',toks:=t' }:=
 I.write (x:=a) (e:=a) mu (.inl rfl) (λb q hb z=>(hs.2 b hb).trans z) he new
theorem xS{P:Qr}{w:Qx}{H':Hp}{h':Heap}{kvs:List (Key×V)}{vs:List (Key×Qa)}(z:kvs.length<=Qk)(hd:(a==ZV)=false)(rel:KV kvs vs)(dd:h'.DictOf (cK P w) a vs) :
  cW P w H' h' a (.dK kvs):=⟨z,hd,vs,rel,dd⟩
theorem AL{H':Hp}{Q:Unit->Qd->Prop}(hu:A.units+1<cLine)(I:Inv X pins σ H s)(g:vy H a y v H')(ry:bq y u)(rv:bq v r)(h:∀s',Inv X pins σ H' s'->Q () s') :
  Qf KF A (setItem (.ref a) u r) Q E s:=by
 rcases g with⟨kvs,k,e,ey,l,eH⟩ | ⟨kvs,k,b,e,ey,eb,l,eH⟩
 ·subst ey eH
  obtain⟨z,hd,vs,rel,dd⟩:=Fk I.hok e;have hz:vs.length<=Qk:=by rw[<-rel.length];exact z
  have hl:(kK kvs k v).length<=Qk:=by have:=lj kvs k v;lia
  refine wpAny_setItem_pairs (hsz:=hz) (zd ry) dd λh' dd' hs=>h _ ?_;have he:∃q,h'.get? a=some q:=let⟨q,_,_,hq,_⟩:=dd';⟨q,hq⟩;exact tY I (by rw[e];exact ZY) hs he (xS hl hd (rel.put k rv) dd')
 ·subst ey eH
  cases(show u=Qn b from ry);obtain⟨z,hd,xs,rel,dd⟩:=Jq I.hok e;have hz:xs.length<=Qk:=by rw[<-Paired.length rel];exact z
  have hl:(kK kvs k v).length<=Qk:=by have:=lj kvs k v;lia
  refine wpAny_setItem_heap (hsz:=hz) (tupleKind_room_in1 hu) (xH I.hok eb) dd λh' dd' hs=>h _ ?_;obtain⟨q,es,ep,hq,h2,h3,h4,_,h5⟩:=dd';refine tY I (by rw[e];exact ZY) hs ⟨q,hq⟩ ⟨hl,hd,_,(rel.put k eb rv).keeps λc ys ec=>?_,q,es,ep,hq,h2,h3,h4,h5⟩;rw[az (Ic ec e (λz=>nomatch z))];exact ec
end
noncomputable def Ii(i:Expr):Prop:=∀ov iv,subscripted i false ov iv=operate [ov,iv] (getItem ov iv)
theorem DX{prog:Qr}{w:Qx}{A:QB}{E:Qa->Qd->Prop}{s:Qd}{env:Env}{value slice:Expr}{pos:Pos}{T id:String}{Q:Qa->Qd->Prop}
  (hl:typeLookup (.type T) "__getitem__" = pure (some (.builtin id))) (hs:Ii slice)
  (h:Qf (Qj prog w) A (eval value env) (λo s₁=>Qf (Qj prog w) A (eval slice env) (λi s₂=>s₂.TypeIs o T/\Qf (Qj prog w) A (getItem o i) Q E s₂) E s₁) E s) :
  Qf (Qj prog w) A (eval (.Subscript value slice pos) env) Q E s:=by
 refine Subscript_ (Zk h (λo s₁ h₁=>Zk h₁ (λi s₂ h₂=>?_) λ_ _ x=>x) λ_ _ x=>x);obtain⟨hT,h₂⟩:=h₂;unfold subscriptTail;refine Qb ?_;rw[getitemInPython_of_ne hT.not_modules];refine Qb (wpAny_specialOf hT hl ?_)
 have fin:Qf (Qj prog w) A (subscripted slice false o i) (λr s₃=>Qf (Qj prog w) A (letTemporaryGo value o r>>=λ_=>pure r) Q E s₃) E s₂:=by
  rw[hs o i];exact wpAny_operating (Zk h₂ (λr s₃ h₃=>Qb (wpAny_letTemporaryGo (Qh h₃))) λ_ _ x=>x)
 first
  |exact Qh (Qb fin)
  |exact Qb (Qh (Qb fin))
  |exact Qb fin
theorem vE{X:Cx}{pins:List Vz}{σ:St}{H:Hp}{s:Qd}{a:Addr}{y:V}{o:Option V}(I:Inv X pins σ H s)(g:uP H a y o):s.TypeIs (.ref a) "dict":=by
 rcases g with⟨kvs,k,e,_,_⟩ | ⟨kvs,k,b,e,_,_,_⟩
 ·obtain⟨_,_,vs,_,dd⟩:=zw I.hok e
  exact dd.typeIs
 ·obtain⟨_,_,xs,_,dd⟩:=BQ I.hok e
  exact dd.typeIs
noncomputable def FR(td ty:TE):TE:=λσ H Q=>td σ H λx H1=>ty σ H1 λy H2=>∃a v,x=.ref a/\uP H2 a y (some v)/\Q v H2
noncomputable def FC(td ty tv:TE):TS:=λD σ H=>tv σ H λv H1=>td σ H1 λx H2=>ty σ H2 λy H3=>∃a H4,x=.ref a/\vy H3 a y v H4/\D.nx σ H4
section
variable{X:Cx}{o i e value:Expr}{pos pos' tpos:Pos}{td ty tv:TE}
theorem lY(hu:X.A.units+1<cLine)(ho:PE X o td)(hi:PE X i ty)(hs:Ii i):PE X (.Subscript o i pos) (FR td ty):=by
 intro pins s σ H Q I h;refine DX PySem.F.slot_dict_getitem.lookup hs (thn (ho pins s σ H _ I h) λu s1 ⟨x,H1,I1,rx,q1⟩=>thn (hi pins s1 σ H1 _ I1 q1) λiv s2 ⟨y,H2,I2,ry,a,v,ex,g,q2⟩=>?_);subst ex;obtain rfl:u=Qn a:=rx;exact⟨vE I2 g,AO hu I2 g ry λw' s3 I3 rw'=>⟨v,H2,I3,rw',q2⟩⟩
theorem oo(hu:X.A.units+1<cLine)(ho:PE X o td)(hi:PE X i ty)(hv:PE X value tv)(hs:ZD value (some (.Subscript o i pos')) pos.line X.env=pure false) :
  PS X (.Assign [.Subscript o i pos'] value pos) (FC td ty tv):=by
 intro pins s σ H D I h;refine wpAny_Assign_Subscript (thn (hv pins s σ H _ I h) λr s1 ⟨v,H1,I1,rv,q1⟩=>thn (ho pins s1 σ H1 _ I1 q1) λu s2 ⟨x,H2,I2,rx,q2⟩=>thn (hi pins s2 σ H2 _ I2 q2) λiv s3 ⟨y,H3,I3,ry,a,H4,ex,g,q3⟩=>?_) hs;subst ex;obtain rfl:u=Qn a:=rx;exact AL hu I3 g ry rv λs4 I4=>⟨σ,H4,I4,q3⟩
end
theorem wG{P:Qr}{w:Qx}{H:Hp}(h:Heap)(hb:ZV<h.objs.size):cW P w H (h.push { cls:=.type "dict",data:=.dict #[] }) h.objs.size (.dK []):=
 ⟨QV _,beq_eq_false_iff_ne.mpr (Ne.symm (QC hb)),[],.nil,Heap.DictOf.new h⟩
noncomputable def GL:TE:=λ_ H Q=>∀p,H p=none->Q (.ref p) (upd H p (.dK []))
section
variable{X:Cx}{pos:Pos}
theorem Dj:PE X (.Dict [] [] pos) GL:=λpins s σ H Q I h=>
 wpAny_Dict_empty ⟨.ref s.heap.objs.size,_,I.laid (a:=s.heap.objs.size) (o:=.dK []) (t':=s.toks) (λ_ _ q=>Qe _ q) (Qm _) (wG s.heap I.big),rfl,h _ (I.hok.fresh (Qm _))⟩
end
noncomputable def xO:List (TE×TE)->St->Hp->(List (V×V)->Hp->Prop)->Prop
 |[],_,H,Q=>Q [] H
 |(tk,tv)::r,σ,H,Q=>tk σ H λx H1=>tv σ H1 λy H2=>xO r σ H2 λps H3=>Q ((x,y)::ps) H3
noncomputable abbrev VV:List (V×V)->List (Qa×Qa)->Prop:=Paired λp q=>bq p.1 q.1/\bq p.2 q.2
noncomputable def PPs(X:Cx)(pos:Pos)(keys:List (Option Expr))(values:List Expr)(trs:List (TE×TE)):Prop:=
 ∀(pins:List Vz) (s:Qd) (σ:St) (H:Hp) (Q:List (V×V)->Hp->Prop),Inv X pins σ H s->xO trs σ H Q->
  Qf KF X.A (evalPairs (pairTrees keys values X.env pos)) (λvs s'=>∃ps H',Inv X pins σ H' s'/\VV ps vs/\Q ps H') X.xe s
theorem EI{X:Cx}{pos:Pos}:PPs X pos [] [] []:=λpins s σ H Q I h=>pairTrees_nil_walk ⟨[],H,I,.nil,h⟩
theorem iT{X:Cx}{pos:Pos}{k v:Expr}{ks:List (Option Expr)}{vs:List Expr}{tk tv:TE}{trs:List (TE×TE)}(hk:PE X k tk)(hv:PE X v tv)(hr:PPs X pos ks vs trs) :
  PPs X pos (some k::ks) (v::vs) ((tk,tv)::trs):=λpins s σ H Q I h=>
 pairTrees_cons_walk (thn (hk pins s σ H _ I h) λu s1 ⟨x,H1,I1,rx,q1⟩=>thn (hv pins s1 σ H1 _ I1 q1) λw2 s2 ⟨y,H2,I2,ry,q2⟩=>
  thn (hr pins s2 σ H2 _ I2 q2) λws s3 ⟨ps,H3,I3,rel,q3⟩=>⟨(x,y)::ps,H3,I3,.cons ⟨rx,ry⟩ rel,q3⟩)
noncomputable def qW(kvs more:List (Key×V)):List (Key×V):=more.foldl (λacc kv=>kK acc kv.1 kv.2) kvs
theorem KV.merge:∀{more:List (Key×V)} {rs:List (Key×Qa)} {kvs:List (Key×V)} {vs:List (Key×Qa)},KV more rs->KV kvs vs->KV (qW kvs more) (merged vs rs):=by
 intro more rs kvs vs r;unfold KV at r
 induction r generalizing kvs vs with
 |nil=>intro q;exact q
 |@cons p q ps qs h t ih=>
  intro r0
  have e:KV (kK kvs p.1 p.2) (stored vs q.1 q.2):=by
   have:=r0.put p.1 h.2;rw[<-h.1];exact this
  exact ih e
theorem mj:∀(more kvs:List (Key×V)),(qW kvs more).length<=kvs.length+more.length
 |[],kvs=>by show kvs.length<=kvs.length+0;lia
 |p::r,kvs=>by
  have h1:=mj r (kK kvs p.1 p.2);have h2:=lj kvs p.1 p.2;show(qW (kK kvs p.1 p.2) r).length<=_;rw[QM];lia
theorem rf{P:Qr}{w:Qx}:∀{kvs:List (Key×V)} {ws:List (Qa×Qa)},VV (kvs.map λkv=>(kV kv.1,kv.2)) ws->∃rs,Carries (cK P w) ws rs/\KV kvs rs
 |[],_,r=>by rw[List.map_nil] at r;cases r;exact⟨[],ZY,.nil⟩
 |p::kvs,_,r=>by
  rw[Q3] at r;cases r with
  |@cons a b as bs h t=>
   obtain⟨rs,c,q⟩:=rf (P:=P) (w:=w) t;obtain⟨b1,b2⟩:=b;exact⟨(p.1,b2)::rs,⟨zd h.1,rfl,c⟩,.cons ⟨rfl,h.2⟩ q⟩
noncomputable def II(trs:List (TE×TE)):TE:=λσ H Q=>∀p,H p=none->xO trs σ (upd H p (.dK [])) λps H2=>H2 p=some (.dK [])/\∃kvs:List (Key×V),ps=kvs.map (λkv=>(kV kv.1,kv.2))/\kvs.length<=15/\Q (.ref p) (upd H2 p (.dK (qW [] kvs)))
theorem Do{X:Cx}{pos:Pos}{keys:List (Option Expr)}{values:List Expr}{trs:List (TE×TE)}(h:PPs X pos keys values trs)(hall:keys.all (·.isSome)=true)(hl:keys.length=values.length)(h0:keys≠[])
  (h15:keys.length<=15):PE X (.Dict keys values pos) (II trs):=by
 intro pins s σ H Q I q;have hn:=I.hok.fresh (Qm s.heap.objs.size);have I1:=I.laid (a:=s.heap.objs.size) (o:=.dK []) (h':=s.heap.push { cls:=.type "dict",data:=.dict #[] }) (t':=s.toks) (λ_ _ q=>Qe _ q) (Qm _) (wG s.heap I.big);refine wpAny_Dict_walk (knd:=cK X.prog X.w) hall hl h0 h15 (thn (h pins _ σ _ _ I1 (q _ hn)) λws s2 ⟨ps,H2,I2,rel,e,kvs,ep,lk,q2⟩=>?_);subst ep;obtain⟨rs,c,rk⟩:=rf (P:=X.prog) (w:=X.w) rel;obtain⟨z,hd,vs0,r0,dd⟩:=Fk I2.hok e;cases r0;refine⟨rs,c,dd,λh' dd' hs=>⟨.ref s.heap.objs.size,_,?_,rfl,q2⟩⟩
 have hz:(qW [] kvs).length<=Qk:=by
  have h1:=mj kvs [];rw[List.length_nil] at h1;rw[sizeLine_eq];lia
 have he:∃q,h'.get? s.heap.objs.size=some q:=let⟨q,_,_,hq,_⟩:=dd';⟨q,hq⟩;exact tY I2 (by rw[e];exact ZY) hs he (xS hz hd (rk.merge .nil) dd')
end L2
namespace Dn
open PySem PySem.Spec PyProof.Rows L2
theorem lR{k:Str}:∀{kvs:List (Str×V)} {v:V},kvs.lookup k=some v->qt (txK kvs) (Zi k:L2.Key)=some v
 |(j,x)::r,v,e=>by
  rw[List.lookup_cons] at e;cases z:k==j with
  |true=>
   rw[z] at e;cases e;have:j=k:=(beq_iff_eq.mp z).symm;exact oK (p:=(Zi j,_)) (by rw[this])
  |false=>
   rw[z] at e
   have:¬ (Zi j:L2.Key)=Zi k:=λw=>by
    cases w;rw[beq_self_eq_true] at z;cases z
   exact(oF (p:=(Zi j,x)) this).trans (lR e)
section
variable{X:Cx}{a b:Expr}{fa fb:Ev->Option D}{pos:Pos}
noncomputable def fR(k:Str):D->Option D
 |.rcd none fs=>fs.lookup k
 |_=>none
theorem Den.rcdV{K:Qc}{G:Hp}{v:V}{fs:List (Str×D)}(h:Den K G v (.rcd none fs)):∃p kvs,v=.ref p/\G p=some (.dK (txK kvs))/\DenF K G kvs fs:=by
 cases h with | rcd h hs=>exact⟨_,_,rfl,h,hs⟩
theorem Den.insV{K:Qc}{G:Hp}{v:V}{C:Addr}{fs:List (Str×D)}(h:Den K G v (.rcd (some C) fs)):∃p dx kvs,v=.ref p/\G p=some (.ins C dx kvs)/\DenF K G kvs fs:=by
 cases h with | ins h hs=>exact⟨_,_,_,rfl,h,hs⟩
theorem gJ{k:Str}{j:Nat}{p:Pos}{m:Nat}(hr:Room m X.A)(ha:DE X a fa):DE X (.Subscript a (.Constant (.str k) j p) pos) (aY (fR k) fa):=by
 obtain⟨t,a1,a2⟩:=ha;refine⟨_,lY (Kq (Vp (by decide:1<=64) _) hr.units) a1 bP (λ_ _=>rfl),λHe G H σ ε d Q gh E ef q=>?_⟩;obtain⟨x,e1,ef⟩:=aq ef;refine a2 He G H σ ε x _ gh E e1 λv G1 H1 g1 d1=>?_
 match x,ef,d1 with
 |.rcd none fs,ef,d1=>
  obtain⟨p,kvs,rfl,h,hs⟩:=d1.rcdV;obtain⟨w,ew,dw⟩:=hs.get ef;exact⟨p,w,rfl,by rw[<-lR ew];exact uP.k (k:=Zi k) (g1.gh _ _ h),q w G1 H1 g1 dw⟩
noncomputable def eJ(C:Addr)(f:Str):D->Option D
 |.rcd (some C') fs=>if C'=C then fs.lookup f else none
 |_=>none
theorem dq{C:Addr}{f:Str}(c:Cls X.K C)(n:i8 X.K C f)(ha:DE X a fa)(hb:Kx a f X.env (eval a X.env)=eval a X.env:=by rfl):DE X (.Attribute a f pos) (aY (eJ C f) fa):=by
 obtain⟨t,a1,a2⟩:=ha;refine⟨_,kL a1 hb,λHe G H σ ε d Q gh E ef q=>?_⟩;obtain⟨x,e1,ef⟩:=aq ef;refine a2 He G H σ ε x _ gh E e1 λv G1 H1 g1 d1=>?_
 match x,ef,d1 with
 |.rcd (some C') fs,ef,d1=>
  have ef2:(if C'=C then fs.lookup f else none)=some d:=ef
  by_cases e:C'=C
  ·rw[if_pos e] at ef2
   subst e;obtain⟨p,dx,kvs,rfl,h,hs⟩:=d1.insV;obtain⟨w,ew,dw⟩:=hs.get ef2;exact⟨p,C',dx,kvs,w,rfl,g1.gh _ _ h,c,n,ew,q w G1 H1 g1 dw⟩
  ·rw[if_neg e] at ef2;cases ef2
theorem DenF.no{K:Qc}{G:Hp}{k:Str}{vs:List (Str×V)}{fs:List (Str×D)}(h:DenF K G vs fs):fs.lookup k=none->vs.lookup k=none:=
 DenF.ind (P:=λvs fs=>fs.lookup k=none->vs.lookup k=none) (λ_=>rfl) (λ{k' v d' vs fs} h _ y e=>by
  rw[List.lookup_cons] at e ⊢;cases z:k==k' with
  |true=>rw[z] at e;cases e
  |false=>rw[z] at e;exact y e) h
noncomputable def MtD(Z:Wq)(C:Addr)(m:Str)(ps:List Str)(n:Nat)(F:List D->Option D):Prop:=∃f fd,Meth Z.K C m f/\gj Z.K fd ps []/\∀base,FnOk Z.P Z.w Z.K Z.mg base CX0 n f fd ps (spF Z.K F)
noncomputable def MtX(Z:Wq)(C:Addr)(m:Str)(ps:List Str)(n:Nat)(F:List D->Option Out):Prop:=∃f fd,Meth Z.K C m f/\gj Z.K fd ps []/\∀base,FnOk Z.P Z.w Z.K Z.mg base (Ex.CX1 Z.P Z.w) n f fd ps (spX Z.K Z.mg F)
noncomputable def gA(C:Addr)(m:Str)(F:List D->Option D)(fa:Ev->Option D)(g:Ev->Option (List D)):Ev->Option D:=λε=>(fa ε).bind λo=>(g ε).bind λds=>match o with
 |.rcd (some C') fs=>if C'=C/\fs.lookup m=none then F (o::ds) else none
 |_=>none
theorem vo{C:Addr}{m:Str}{F:List D->Option D}{fa:Ev->Option D}{g:Ev->Option (List D)}{ε:Ev}{d:D}(e:gA C m F fa g ε=some d):∃fs ds,fa ε=some (.rcd (some C) fs)/\g ε=some ds/\fs.lookup m=none/\F (.rcd (some C) fs::ds)=some d:=by
 unfold gA at e;obtain⟨o,e1,e⟩:=aq e;obtain⟨ds,e2,e⟩:=aq e
 match o,e1,e with
 |.rcd (some C') fs,e1,e=>
  have e9:(if C'=C/\fs.lookup m=none then F (.rcd (some C') fs::ds) else none)=some d:=e
  by_cases h:C'=C/\fs.lookup m=none
  ·rw[if_pos h] at e9
   obtain⟨rfl,h2⟩:=h;exact⟨fs,ds,e1,e2,h2,e9⟩
  ·rw[if_neg h] at e9;cases e9
theorem Jr{C:Addr}{m:Str}{ps:List Str}{j k:Nat}{F:List D->Option D}{e:Expr}{es:List Expr}{g:Ev->Option (List D)}{apos:Pos}{pl:Sem Bool}(c:Cls X.K C)(HF:MtD ⟨X.prog,X.w,X.K,X.mg⟩ C m ps j F)(hr:Room k X.A)(ho:DE X a fa)(ha:DA X (e::es) g)(hj:j<=k:=by decide)
  (hst:Qg (e::es) X.env=(false,eval e X.env)::Qg es X.env:=by rfl) (hpl:(QP pos (Qg es X.env)).any (·.1)=false:=by rfl)
  (ht:eval (.Call (.Attribute a m apos) (e::es) [] pos) X.env=(do
   let ov<-eval a X.env
   KO apos.atName
   let(f,first)<-ZO [ov] (K5 ov m pl)
   callWith pos f first (QP pos (Qg (e::es) X.env)) (ZN pos (Zg [] X.env))):=by rfl):DE X (.Call (.Attribute a m apos) (e::es) [] pos) (gA C m F fa g):=by
 obtain⟨t,a1,a2⟩:=ho;obtain⟨u,b1,b2⟩:=ha;obtain⟨f,fd,hm,hb,hF⟩:=HF;refine⟨_,hX a1 c hm (hF X.base) (hr.mono hj) hb .nil f7 b1 hst hpl ht,λHe G H σ ε d Q gh E ef q=>?_⟩;obtain⟨fs,ds,e1,e2,hl,e3⟩:=vo ef;refine a2 He G H σ ε _ _ gh E e1 λv G1 H1 g1 d1=>?_;obtain⟨p,dx,kvs,rfl,h,hs⟩:=d1.insV;refine⟨p,dx,kvs,rfl,g1.gh _ _ h,hs.no hl,b2 He G1 H1 σ ε ds _ g1.gh (E.grow g1) e2 λvs G2 H2 g2 d2=>?_⟩;rw[Q6];exact⟨G2,_,d,g2.gh,.cons (d1.mono g2.gg) d2,e3,λw G3 H3 g3 d3=>q w G3 H3 ((g1.trans g2).trans g3) d3⟩
theorem jM{C:Addr}{m:Str}{ps:List Str}{j k:Nat}{F:List D->Option D}{apos:Pos}{pl:Sem Bool}(c:Cls X.K C)(HF:MtD ⟨X.prog,X.w,X.K,X.mg⟩ C m ps j F)(hr:Room k X.A)(ho:DE X a fa)(hj:j<=k:=by decide)
  (ht:eval (.Call (.Attribute a m apos) [] [] pos) X.env=(do
   let ov<-eval a X.env
   KO apos.atName
   let(f,first)<-ZO [ov] (K5 ov m pl)
   callWith pos f first (QP pos (Qg [] X.env)) (ZN pos (Zg [] X.env))):=by rfl):DE X (.Call (.Attribute a m apos) [] [] pos) (gA C m F fa aF):=by
 obtain⟨t,a1,a2⟩:=ho;obtain⟨f,fd,hm,hb,hF⟩:=HF;refine⟨_,qY a1 c hm (hF X.base) (hr.mono hj) hb .nil f7 ht,λHe G H σ ε d Q gh E ef q=>?_⟩;obtain⟨fs,ds,e1,e2,hl,e3⟩:=vo ef;cases e2;refine a2 He G H σ ε _ _ gh E e1 λv G1 H1 g1 d1=>?_;obtain⟨p,dx,kvs,rfl,h,hs⟩:=id d1.insV;refine⟨p,dx,kvs,rfl,g1.gh _ _ h,hs.no hl,?_⟩;exact⟨G1,_,d,g1.gh,.cons d1 .nil,e3,λw G3 H3 g3 d3=>q w G3 H3 (g1.trans g3) d3⟩
end
noncomputable def EW(X:Cx):XK:=λcls od H=>∀pins σ s a dx,od=some dx->L2.Inv X pins σ H s->Ex.XAt X.s₀.heap.objs.size H s.heap a cls dx->X.xe (.ref a) s
theorem xp{X:Cx}:Ex.Hx X (EW X):=λpins σ H s a cls dx I x e=>e pins σ s a dx rfl I x
noncomputable def Xq(X:Cx)(G H:Hp)(r:Out):Prop:=∀c fs,r=.inr (c,fs)->∀cls dx G' H',Grow G H G' H'->X.mg c=some cls->XD X.K G' dx fs->EW X cls (some dx) H'
noncomputable def DEx(X:Cx)(e:Expr)(f:Ev->Option Out):Prop:=∃t,PE X e t/\∀(He G H:Hp) (σ:L2.St) (ε:Ev) (r:Out) (Q:VK),aT G H->EnvD X.K He G H σ ε->f ε=some r->(∀d,r=.inl d->∀v G' H',Grow G H G' H'->Den X.K G' v d->Q v H')->Xq X G H r->t σ H Q
theorem Xq.grow{X:Cx}{G H G1 H1:Hp}{r:Out}(h:Xq X G H r)(g:Grow G H G1 H1):Xq X G1 H1 r:=λc fs e cls dx G' H' g' m xd=>h c fs e cls dx G' H' (g.trans g') m xd
noncomputable def B0(r:Out)(k:D->Option D):Option Out:=match r with
 |.inl d=>(k d).map .inl
 |.inr x=>some (.inr x)
theorem ue{r r':Out}{k:D->Option D}(h:B0 r k=some r'):(∃d d',r=.inl d/\k d=some d'/\r'=.inl d')\/∃x,r=.inr x/\r'=.inr x:=by
 unfold B0 at h;cases r with
 |inl d=>
  obtain⟨d',e,rfl⟩:=bh h;exact .inl ⟨d,d',rfl,e,rfl⟩
 |inr x=>cases h;exact .inr ⟨x,rfl,rfl⟩
section
variable{X:Cx}{a b:Expr}{fa fb:Ev->Option D}{fx:Ev->Option Out}{pos:Pos}
noncomputable def mh(F:List D->Option Out)(g:Ev->Option (List D)):Ev->Option Out:=λε=>(g ε).bind F
theorem um{fn:Str}{j k:Nat}{st:Stmt}{ps:List Str}{F:List D->Option Out}{e:Expr}{es:List Expr}{g:Ev->Option (List D)}{pf:Pos}(HF:OkX ⟨X.prog,X.w,X.K,X.mg⟩ fn st ps j F)(hr:Room k X.A)(ha:DA X (e::es) g)(hj:j<=k:=by decide)
  (hg:Gl X fn:=by rfl) (hdb:(fn==("__debug__" : Str))=false:=by decide) (he:Qg (e::es) X.env=(false,eval e X.env)::Qg es X.env:=by rfl) (hpl:(QP pos (Qg es X.env)).any (·.1)=false:=by rfl):DEx X (.Call (.Name fn pf) (e::es) [] pos) (mh F g):=by
 obtain⟨f,fd,⟨FA,_⟩,hF⟩:=HF;obtain⟨t,a1,a2⟩:=ha;refine⟨_,eP (hF X.base) (hr.mono hj) hg FA.mgf FA.fu.kp FA.bi .nil (Ex.pH xp) a1 hdb he hpl,λHe G H σ ε r Q gh E ef q xq=>?_⟩;obtain⟨ds,e1,ef⟩:=aq ef;refine a2 He G H σ ε ds _ gh E e1 λvs G1 H1 g1 d1=>?_;rw[Q6];exact⟨G1,ds,r,g1.gh,d1,ef,λd rd v G2 H2 g2 dn=>q d rd v G2 H2 (g1.trans g2) dn,xq.grow g1⟩
noncomputable def cv(C:Addr)(m:Str)(F:List D->Option Out)(fa:Ev->Option D)(g:Ev->Option (List D)):Ev->Option Out:=λε=>(fa ε).bind λo=>(g ε).bind λds=>match o with
 |.rcd (some C') fs=>if C'=C/\fs.lookup m=none then F (o::ds) else none
 |_=>none
theorem rh{C:Addr}{m:Str}{F:List D->Option Out}{g:Ev->Option (List D)}{ε:Ev}{r:Out}(e:cv C m F fa g ε=some r):∃fs ds,fa ε=some (.rcd (some C) fs)/\g ε=some ds/\fs.lookup m=none/\F (.rcd (some C) fs::ds)=some r:=by
 unfold cv at e;obtain⟨o,e1,e⟩:=aq e;obtain⟨ds,e2,e⟩:=aq e
 match o,e1,e with
 |.rcd (some C') fs,e1,e=>
  have e9:(if C'=C/\fs.lookup m=none then F (.rcd (some C') fs::ds) else none)=some r:=e
  by_cases h:C'=C/\fs.lookup m=none
  ·rw[if_pos h] at e9
   obtain⟨rfl,h2⟩:=h;exact⟨fs,ds,e1,e2,h2,e9⟩
  ·rw[if_neg h] at e9;cases e9
theorem l0{C:Addr}{m:Str}{ps:List Str}{j k:Nat}{F:List D->Option Out}{e:Expr}{es:List Expr}{g:Ev->Option (List D)}{apos:Pos}{pl:Sem Bool}(c:Cls X.K C)(HF:MtX ⟨X.prog,X.w,X.K,X.mg⟩ C m ps j F)(hr:Room k X.A)(ho:DE X a fa)(ha:DA X (e::es) g)(hj:j<=k:=by decide)
  (hst:Qg (e::es) X.env=(false,eval e X.env)::Qg es X.env:=by rfl) (hpl:(QP pos (Qg es X.env)).any (·.1)=false:=by rfl)
  (ht:eval (.Call (.Attribute a m apos) (e::es) [] pos) X.env=(do
   let ov<-eval a X.env
   KO apos.atName
   let(f,first)<-ZO [ov] (K5 ov m pl)
   callWith pos f first (QP pos (Qg (e::es) X.env)) (ZN pos (Zg [] X.env))):=by rfl):DEx X (.Call (.Attribute a m apos) (e::es) [] pos) (cv C m F fa g):=by
 obtain⟨t,a1,a2⟩:=ho;obtain⟨u,b1,b2⟩:=ha;obtain⟨f,fd,hm,hb,hF⟩:=HF;refine⟨_,hX a1 c hm (hF X.base) (hr.mono hj) hb .nil (Ex.pH xp) b1 hst hpl ht,λHe G H σ ε r Q gh E ef q xq=>?_⟩;obtain⟨fs,ds,e1,e2,hl,e3⟩:=rh ef;refine a2 He G H σ ε _ _ gh E e1 λv G1 H1 g1 d1=>?_;obtain⟨p,dx,kvs,rfl,h,hs⟩:=d1.insV;refine⟨p,dx,kvs,rfl,g1.gh _ _ h,hs.no hl,b2 He G1 H1 σ ε ds _ g1.gh (E.grow g1) e2 λvs G2 H2 g2 d2=>?_⟩;rw[Q6];exact⟨G2,_,r,g2.gh,.cons (d1.mono g2.gg) d2,e3,λd rd w G3 H3 g3 d3=>q d rd w G3 H3 ((g1.trans g2).trans g3) d3,xq.grow (g1.trans g2)⟩
theorem rR{C:Addr}{m:Str}{ps:List Str}{j k:Nat}{F:List D->Option Out}{apos:Pos}{pl:Sem Bool}(c:Cls X.K C)(HF:MtX ⟨X.prog,X.w,X.K,X.mg⟩ C m ps j F)(hr:Room k X.A)(ho:DE X a fa)(hj:j<=k:=by decide)
  (ht:eval (.Call (.Attribute a m apos) [] [] pos) X.env=(do
   let ov<-eval a X.env
   KO apos.atName
   let(f,first)<-ZO [ov] (K5 ov m pl)
   callWith pos f first (QP pos (Qg [] X.env)) (ZN pos (Zg [] X.env))):=by rfl):DEx X (.Call (.Attribute a m apos) [] [] pos) (cv C m F fa aF):=by
 obtain⟨t,a1,a2⟩:=ho;obtain⟨f,fd,hm,hb,hF⟩:=HF;refine⟨_,qY a1 c hm (hF X.base) (hr.mono hj) hb .nil (Ex.pH xp) ht,λHe G H σ ε r Q gh E ef q xq=>?_⟩;obtain⟨fs,ds,e1,e2,hl,e3⟩:=rh ef;cases e2;refine a2 He G H σ ε _ _ gh E e1 λv G1 H1 g1 d1=>?_;obtain⟨p,dx,kvs,rfl,h,hs⟩:=id d1.insV;refine⟨p,dx,kvs,rfl,g1.gh _ _ h,hs.no hl,?_⟩;exact⟨G1,_,r,g1.gh,.cons d1 .nil,e3,λd rd w G3 H3 g3 d3=>q d rd w G3 H3 (g1.trans g3) d3,xq.grow g1⟩
noncomputable def As(C:Addr)(f:Str)(fx:Ev->Option Out):Ev->Option Out:=λε=>(fx ε).bind λr=>B0 r (eJ C f)
theorem xw{C:Addr}{f:Str}(c:Cls X.K C)(n:i8 X.K C f)(ha:DEx X a fx)(hb:Kx a f X.env (eval a X.env)=eval a X.env:=by rfl):DEx X (.Attribute a f pos) (As C f fx):=by
 obtain⟨t,a1,a2⟩:=ha;refine⟨_,kL a1 hb,λHe G H σ ε r Q gh E ef q xq=>?_⟩;obtain⟨r0,e1,ef⟩:=aq ef;rcases ue ef with⟨d,d',rfl,e2,rfl⟩ | ⟨x,rfl,rfl⟩
 ·refine a2 He G H σ ε _ _ gh E e1 (λd0 z v G1 H1 g1 d1=>?_) λc fs z=>by cases z
  cases z
  match d,e2,d1 with
  |.rcd (some C') fs,e2,d1=>
   have e3:(if C'=C then fs.lookup f else none)=some d':=e2
   by_cases e:C'=C
   ·rw[if_pos e] at e3
    subst e;obtain⟨p,dx,kvs,rfl,h,hs⟩:=d1.insV;obtain⟨w,ew,dw⟩:=hs.get e3;exact⟨p,C',dx,kvs,w,rfl,g1.gh _ _ h,c,n,ew,q _ rfl w G1 H1 g1 dw⟩
   ·rw[if_neg e] at e3;cases e3
 ·exact a2 He G H σ ε _ _ gh E e1 (λd0 z=>by cases z) xq
noncomputable def xIx(fa:Ev->Option D)(fx:Ev->Option Out):Ev->Option Out:=λε=>(fa ε).bind λl=>(fx ε).bind λr=>B0 r (ixD l)
theorem Jh(ha:DE X a fa)(hb:DEx X b fx)(hs:ot b:=by intro _ _;rfl):DEx X (.Subscript a b pos) (xIx fa fx):=by
 obtain⟨t,a1,a2⟩:=ha;obtain⟨u,b1,b2⟩:=hb;refine⟨_,ib (zM.or d9) a1 b1 hs,λHe G H σ ε r Q gh E ef q xq=>?_⟩;obtain⟨l,e1,ef⟩:=aq ef;obtain⟨r0,e2,ef⟩:=aq ef;refine a2 He G H σ ε l _ gh E e1 λv G1 H1 g1 d1=>?_;rcases ue ef with⟨d,d',rfl,e3,rfl⟩ | ⟨x,rfl,rfl⟩
 ·refine b2 He G1 H1 σ ε _ _ g1.gh (E.grow g1) e2 (λd0 z w G2 H2 g2 d2=>?_) λc fs z=>by cases z
  cases z;have d1:=d1.mono g2.gg;have g12:=g1.trans g2;unfold ixD at e3;split at e3
  ·obtain⟨p,xs,rfl,h1,h2⟩:=d1.lstV
   obtain⟨v',h3,h4⟩:=qB h2 e3;exact .inl ⟨p,xs,_,v',rfl,d2.intV,g12.gh.seq h1,h3,q _ rfl _ G2 H2 g12 h4⟩
  ·obtain⟨p,xs,rfl,h1,h2⟩:=d1.tupV
   obtain⟨v',h3,h4⟩:=qB h2 e3;exact .inr ⟨p,xs,_,v',rfl,d2.intV,aM g12.gh h1,h3,q _ rfl _ G2 H2 g12 h4⟩
  ·cases e3
 ·exact b2 He G1 H1 σ ε _ _ g1.gh (E.grow g1) e2 (λd0 z=>by cases z) (xq.grow g1)
noncomputable def toL:D->Option D
 |.tup ds=>some (.lst ds)
 |.lst ds=>some (.lst ds)
 |_=>none
noncomputable def vS(fx:Ev->Option Out):Ev->Option Out:=λε=>(fx ε).bind λr=>B0 r toL
theorem yY{p:Pos}(hm:X.mg "list" = none)(ha:DEx X a fx)(hg:Gl X "list":=by rfl)(hst:Qg [a] X.env=(false,eval a X.env)::Qg [] X.env:=by rfl)(hpl:(QP pos (Qg [] X.env)).any (·.1)=false:=by rfl):DEx X (.Call (.Name "list" p) [a] [] pos) (vS fx):=by
 obtain⟨t,a1,a2⟩:=ha;refine⟨_,cD cN hg hm (by rfl) (aC a1 aR hst) KE KE hst hpl,λHe G H σ ε r Q gh E ef q xq=>?_⟩;obtain⟨r0,e1,ef⟩:=aq ef;rcases ue ef with⟨d,d',rfl,e2,rfl⟩ | ⟨x,rfl,rfl⟩
 ·refine a2 He G H σ ε _ _ gh E e1 (λd0 z v G1 H1 g1 d1=>?_) λc fs z=>by cases z
  cases z
  match d,e2,d1 with
  |.tup ds,e2,d1=>
   cases e2;obtain⟨p,xs,rfl,h1,h2⟩:=d1.tupV;exact⟨p,xs,rfl,.inr (aM g1.gh h1),λl hl=>q _ rfl _ _ _ (g1.trans (Grow.new (.lst xs) g1.gh hl)) (.lst (.inl upd_same) (h2.mono (Grow.new (.lst xs) g1.gh hl).gg))⟩
  |.lst ds,e2,d1=>
   cases e2;obtain⟨p,xs,rfl,h1,h2⟩:=d1.lstV;exact⟨p,xs,rfl,.inl (g1.gh.seq h1),λl hl=>q _ rfl _ _ _ (g1.trans (Grow.new (.lst xs) g1.gh hl)) (.lst (.inl upd_same) (h2.mono (Grow.new (.lst xs) g1.gh hl).gg))⟩
 ·exact a2 He G H σ ε _ _ gh E e1 (λd0 z=>by cases z) xq
theorem tQ{He Ge G H:Hp}{σ:L2.St}{ε:Ev}{c:Str}{fs:List (Str×D)}{W:Ends}(S:Sta X.K He Ge G H σ ε)(P:xk X He Ge (.xc c fs) W):Xq X G H (.inr (c,fs)):=λc' fs' z cls dx G' H' g m xd=>by
 cases z;intro pins σ' s a dx' ed I xat;cases ed;exact P pins σ' G' H' s a dx cls I (S.g.trans g) xat m xd
noncomputable def q_(fx:Ev->Option Out):Ev->Option Fl:=λε=>(fx ε).bind λr=>match r with
 |.inl d=>some (.rt d)
 |.inr (c,fs)=>some (.xc c fs)
theorem qE(ha:DEx X a fx):DS X (.Return (some a) pos) (q_ fx):=by
 obtain⟨t,a1,a2⟩:=ha;refine⟨_,d_ a1,λHe Ge G H σ ε r W S ef P=>?_⟩;obtain⟨r0,e1,ef⟩:=aq ef
 match r0,e1,ef with
 |.inl d,e1,ef=>
  cases ef;exact a2 He G H σ ε _ _ S.g.gh S.e e1 (λd0 z v G1 H1 g1 d1=>by cases z;exact P v G1 H1 (S.g.trans g1) d1) λc fs z=>by cases z
 |.inr (c,fs),e1,ef=>
  cases ef;exact a2 He G H σ ε _ _ S.g.gh S.e e1 (λd0 z=>by cases z) (tQ S P)
noncomputable def tO(i:Nat)(fx:Ev->Option Out):Ev->Option Fl:=λε=>(fx ε).bind λr=>match r with
 |.inl d=>some (.nx (ε.set i (.dat d)))
 |.inr (c,fs)=>some (.xc c fs)
theorem zy{x:Str}{px:Pos}(i:Nat)(hN:X.N.Nodup)(ha:DEx X a fx)(hi:X.N[i]?=some x:=by rfl)(hx:Loc X.env.scope x:=by first | exact Qz rfl | exact Zn rfl)(hf:X.fn x=true\/X.env.scope.names.lookup x=some .local:=by first | exact .inl rfl | exact .inr rfl)
  (hs:ZD a (some (.Name x px)) pos.line X.env=pure false:=by rfl):DS X (.Assign [.Name x px] a pos) (tO i fx):=by
 obtain⟨t,a1,a2⟩:=ha;refine⟨_,bT hN hi hx a1 hs hf,λHe Ge G H σ ε r W S ef P=>?_⟩;obtain⟨r0,e1,ef⟩:=aq ef
 match r0,e1,ef with
 |.inl d,e1,ef=>
  cases ef;exact a2 He G H σ ε _ _ S.g.gh S.e e1 (λd0 z v G1 H1 g1 d1=>by cases z;exact P _ G1 H1 ⟨S.g.trans g1,(S.e.grow g1).put d1⟩) λc fs z=>by cases z
 |.inr (c,fs),e1,ef=>
  cases ef;exact a2 He G H σ ε _ _ S.g.gh S.e e1 (λd0 z=>by cases z) (tQ S P)
noncomputable def mW(fx:Ev->Option Out):Ev->Option Fl:=λε=>(fx ε).bind λr=>match r with
 |.inl d=>some (.nx ε)
 |.inr (c,fs)=>some (.xc c fs)
end
noncomputable def cm(st:Stmt)(j:Nat):Stmt:=match st with
 |.ClassDef _ _ _ b _ _ _ _ _ _ _=>b.getD j (.Pass ⟨0,0,0,0⟩)
 |s=>s
noncomputable def MT(K:Qc)(C:Addr)(m qual:Str)(st:Stmt)(ps:List Str):Prop:=∃f fd,Meth K C m f/\Fun K m qual st f fd/\gj K fd ps []
theorem gP{K:Qc}{C f:Addr}{m qual:Str}{st:Stmt}{ps:List Str}{od an:Option Addr}{osl:Array (Option Qa)}{kV doc pm cdv ct:Qa}(a:Qi K (.ref C) m=some (some (.ref f)))(kp:QT K (.ref f)=true)
  (l:K.lookup f=some ⟨.type "function",od,.func (QQ m qual (cj st) (bc st) (aA st) .none kV doc pm an cdv ct),osl⟩) (cc:Zt K cdv qual=true)
  (hb:∀(kV doc pm:Qa) (an:Option Addr) (cdv ct:Qa) (us:List Qa),us.length=ps.length->bindArgs (QQ m qual (cj st) (bc st) (aA st) .none kV doc pm an cdv ct) ⟨us,[]⟩=pure (ps.zip us)):MT K C m qual st ps:=
 ⟨f,_,⟨a,beq_iff_eq.mpr (by show Option.map _ (Q4 f K)=_;rw[l];rfl),kp⟩,rT l cc kp,(rT l cc kp).binds hb⟩
section
variable{Z:Wq}{C:Addr}{m qual:Str}{st:Stmt}{ps N:List Str}{k:Nat}{g:Ev->Option Fl}
theorem bdM(R:MT Z.K C m qual st ps)(hb:∀(d:N.Nodup) (f:Addr) (base:Heap) (cdv:Qa) (A:QB) (outer:List Env) (s:Qd) (H:Hp) (E:XK),Room k (A.deeper (ZZ qual (aA st) s.heap.objs.size f cdv))->DSs (jd CX0 Z.P Z.w Z.K Z.mg base N qual (aA st) f cdv A outer s H E).nox (bc st) g)
  (S:FnScope N ps (aA st):=by exact⟨rfl,rfl,rfl,by decide +kernel,rfl,by decide +kernel,by decide +kernel⟩):MtD Z C m ps (k+1) (fnD N ps g):=
 let⟨f,fd,M,F,b⟩:=R;⟨f,fd,M,b,λbase=>qz F S (hb S.nd f base)⟩
theorem wF(R:MT Z.K C m qual st ps)(hb:∀(d:N.Nodup) (f:Addr) (base:Heap) (cdv:Qa) (A:QB) (outer:List Env) (s:Qd) (H:Hp) (E:XK),Room k (A.deeper (ZZ qual (aA st) s.heap.objs.size f cdv))->DSs (jd (Ex.CX1 Z.P Z.w) Z.P Z.w Z.K Z.mg base N qual (aA st) f cdv A outer s H E) (bc st) g)
  (S:FnScope N ps (aA st):=by exact⟨rfl,rfl,rfl,by decide +kernel,rfl,by decide +kernel,by decide +kernel⟩):MtX Z C m ps (k+1) (fnX N ps g):=
 let⟨f,fd,M,F,b⟩:=R;⟨f,fd,M,b,λbase=>vX F S (hb S.nd f base)⟩
end
theorem gZ{H:Hp}{a:Addr}{o o':HO}:upd (upd H a o) a o'=upd H a o':=by
 funext b
 unfold upd
 by_cases z:b=a
 ·rw[if_pos z,if_pos z]
 ·rw[if_neg z,if_neg z,if_neg z]
noncomputable def JS(C:Addr)(ns:List Str):Sp:=λvs H Q _=>∃x dx ws,vs=.ref x::ws/\ws.length=ns.length/\H x=some (.ins C dx [])/\Q .non (upd H x (.ins C dx (ns.zip ws)))
noncomputable def MkD(Z:Wq)(c:Str)(C:Addr)(ns:List Str)(dds:List D)(n:Nat):Prop:=Z.mg c=some (.ref C)/\∃fI fd ds dvs,Mk Z.K C fI/\gj Z.K fd ("self" :: ns) ds/\bu dvs ds/\(∀G,DenL Z.K G dvs dds)/\∀base,FnOk Z.P Z.w Z.K Z.mg base CX0 n fI fd ("self" :: ns) (JS C ns)
noncomputable def eMk(C:Addr)(ns:List Str)(dds:List D)(g:Ev->Option (List D)):Ev->Option D:=λε=>(g ε).bind λds=>if(ds++dds).length=ns.length then some (.rcd (some C) (ns.zip (ds++dds))) else none
theorem DenL.zip{K:Qc}{G:Hp}{vs:List V}{ds:List D}(h:DenL K G vs ds):∀ns:List Str,DenF K G (ns.zip vs) (ns.zip ds):=
 DenL.ind (P:=λvs ds=>∀ns:List Str,DenF K G (ns.zip vs) (ns.zip ds)) (λns=>by cases ns<;>exact .nil) (λh _ y ns=>by
  cases ns with
  |nil=>exact .nil
  |cons n ns=>exact .cons h (y ns)) h
section
variable{X:Cx}{pos:Pos}
theorem EC{c:Str}{C:Addr}{ns:List Str}{dds:List D}{j k:Nat}{e:Expr}{es:List Expr}{g:Ev->Option (List D)}{p:Pos}(HM:MkD ⟨X.prog,X.w,X.K,X.mg⟩ c C ns dds j)(hr:Room k X.A)(ha:DA X (e::es) g)(hj:j+1<=k:=by decide)
  (hg:Gl X c:=by rfl) (hdb:(c==("__debug__" : Str))=false:=by decide) (he:Qg (e::es) X.env=(false,eval e X.env)::Qg es X.env:=by rfl) (hpl:(QP pos (Qg es X.env)).any (·.1)=false:=by rfl):DE X (.Call (.Name c p) (e::es) [] pos) (eMk C ns dds g):=by
 obtain⟨hm,fI,fd,dvs',dvs,M,hb,hd,hdd,hF⟩:=HM;obtain⟨t,a1,a2⟩:=ha;refine⟨_,zp M (hF X.base) (hr.mono hj) hg hm hb hd f7 a1 hdb he hpl,λHe G H σ ε d Q gh E ef q=>?_⟩;obtain⟨ds,e1,ef⟩:=aq ef;have ef:(if(ds++dds).length=ns.length then some (D.rcd (some C) (ns.zip (ds++dds))) else none)=some d:=ef;split at ef
 ·rename_i hl
  cases ef;refine a2 He G H σ ε ds _ gh E e1 λvs G1 H1 g1 d1=>?_;intro x dx hx hdx ne;have da:=d1.append (hdd G1);refine⟨x,dx,vs++dvs,rfl,by rw[da.length];exact hl,upd_same,rfl,?_⟩;rw[gZ];have g2:Grow G1 H1 G1 (upd H1 dx (.own x)):=.lay _ g1.gh hdx;have hx2:upd H1 dx (.own x) x=none:=by rw[az (Ne.symm ne)];exact hx
  have g3:=Grow.new (.ins C dx (ns.zip (vs++dvs))) g2.gh hx2;exact q _ _ _ (g1.trans (g2.trans g3)) (.ins upd_same ((da.zip ns).mono g3.gg))
 ·cases ef
end
theorem Fq{P:Qr}{w:Qx}{X:Cx}:kb (Ex.CX1 P w) X (λ_ _ _=>False):=λ_ _ _ _ _ _ _ ⟨_,_,_,_,_,_,_,_,_,_,h⟩=>h.elim
noncomputable def noX(o:Option Out):Option D:=match o with
 |some (.inl d)=>some d
 |_=>none
theorem Gz{o:Option Out}{d:D}(h:noX o=some d):o=some (.inl d):=by
 unfold noX at h;split at h
 ·cases h;rfl
 ·cases h
section
variable{X:Cx}{a:Expr}{fa:Ev->Option D}{pos:Pos}
theorem Dy{x y:Str}{t:Tok}(hg:Gl X x)(hm:X.mg x=some (.str y t))(hd:(x==("__debug__" : Str))=false:=by decide):DE X (.Name x pos) (eC (.str y)):=
 ⟨_,vn (v:=.str y) hg hm ⟨_,rfl⟩ hd,λHe G H σ ε d Q gh E ef q=>by cases ef;exact q _ G H (.refl gh) (.str y)⟩
theorem oP{C:Addr}{m:Str}{ps:List Str}{j k:Nat}{F:List D->Option Out}{e:Expr}{es:List Expr}{g:Ev->Option (List D)}{apos:Pos}{pl:Sem Bool}(c:Cls X.K C)(HF:MtX ⟨X.prog,X.w,X.K,X.mg⟩ C m ps j F)(hr:Room k X.A)(ho:DE X a fa)(ha:DA X (e::es) g)(hj:j<=k:=by decide)
  (hst:Qg (e::es) X.env=(false,eval e X.env)::Qg es X.env:=by rfl) (hpl:(QP pos (Qg es X.env)).any (·.1)=false:=by rfl)
  (ht:eval (.Call (.Attribute a m apos) (e::es) [] pos) X.env=(do
   let ov<-eval a X.env
   KO apos.atName
   let(f,first)<-ZO [ov] (K5 ov m pl)
   callWith pos f first (QP pos (Qg (e::es) X.env)) (ZN pos (Zg [] X.env))):=by rfl):DE X (.Call (.Attribute a m apos) (e::es) [] pos) (λε=>noX (cv C m F fa g ε)):=by
 obtain⟨t,a1,a2⟩:=ho;obtain⟨u,b1,b2⟩:=ha;obtain⟨f,fd,hm,hb,hF⟩:=HF;refine⟨_,hX a1 c hm (hF X.base) (hr.mono hj) hb .nil Fq b1 hst hpl ht,λHe G H σ ε d Q gh E ef q=>?_⟩;obtain⟨fs,ds,e1,e2,hl,e3⟩:=rh (Gz ef);refine a2 He G H σ ε _ _ gh E e1 λv G1 H1 g1 d1=>?_;obtain⟨p,dx,kvs,rfl,h,hs⟩:=d1.insV;refine⟨p,dx,kvs,rfl,g1.gh _ _ h,hs.no hl,b2 He G1 H1 σ ε ds _ g1.gh (E.grow g1) e2 λvs G2 H2 g2 d2=>?_⟩;rw[Q6];exact⟨G2,_,.inl d,g2.gh,.cons (d1.mono g2.gg) d2,e3,λd' rd w G3 H3 g3 d3=>by cases rd;exact q w G3 H3 ((g1.trans g2).trans g3) d3,λc fs z=>by cases z⟩
end
noncomputable def ObK(K:Qc)(C:Addr)(ns:List Str):Prop:=Cls K C/\∀f∈ns,i8 K C f
section
variable{X:Cx}{a b:Expr}{fa fb:Ev->Option D}{pos:Pos}
noncomputable def mx:D->Option D
 |.str x=>if x.length<=1000 then some (.int x.length) else none
 |_=>none
theorem wj{n:Nat}(h:n<=1000):n<=Qk:=QO h KE
theorem uk{p:Pos}(ha:DE X a fa)(hm:X.mg "len" = none)(hg:Gl X "len":=by rfl)(hst:Qg [a] X.env=(false,eval a X.env)::Qg [] X.env:=by rfl)(hpl:(QP pos (Qg [] X.env)).any (·.1)=false:=by rfl):DE X (.Call (.Name "len" p) [a] [] pos) (aY mx fa):=by
 obtain⟨ta,a1,a2⟩:=ha;refine⟨_,fm vi hg hm KP (aC a1 aR hst) KE KE hst hpl,λHe G H σ ε d Q gh E ef q=>?_⟩;obtain⟨y,e1,ef⟩:=aq ef;refine a2 He G H σ ε y _ gh E e1 λv G1 H1 g1 d1=>?_
 match y,ef,d1 with
 |.str x,ef,d1=>
  have ef2:(if x.length<=1000 then some (D.int x.length) else none)=some d:=ef
  by_cases h:x.length<=1000
  ·rw[if_pos h] at ef2
   cases ef2;cases d1;exact⟨x,rfl,wj h,q _ G1 H1 g1 (.int _)⟩
  ·rw[if_neg h] at ef2;cases ef2
noncomputable def inS(neg:Bool):D->D->Option D
 |.str i,.str j=>some (.bl (if neg then !(!(ZJ j i 0 j.length 1).isEmpty) else !(ZJ j i 0 j.length 1).isEmpty))
 |_,_=>none
theorem Bp:OpD X (QF .In) (inS false):=⟨_,AE,λG H x y dx dy d Q gh hx hy e q=>by
 match dx,dy,e,hx,hy with
 |.str i,.str j,e,hx,hy=>
  cases e
  exact⟨i,j,hx.str,hy.str,q _ G H (.refl gh) (.bl _)⟩⟩
noncomputable def ixS:D->D->Option D
 |.str z,.int i=>if z.length<=1000 then(atI z.cps.toList i).map λc=>.str ⟨#[c]⟩ else none
 |_,_=>none
theorem BE(ha:DB X a fa)(hb:DB X b fb)(hs:ot b:=by intro _ _;rfl):DE X (.Subscript a b pos) (e2 ixS fa fb):=
 BL Gj (λG H x y dx dy d Q gh hx hy e q=>by
  match dx,dy,e,hx,hy with
  |.str z,.int i,e,hx,hy=>
   have e2:(if z.length<=1000 then(atI z.cps.toList i).map (λc=>D.str ⟨#[c]⟩) else none)=some d:=e
   by_cases h:z.length<=1000
   ·rw[if_pos h] at e2
    obtain⟨c,ec,rfl⟩:=bh e2;exact⟨z,i,c,hx.str,hy.int,wj h,ec,q _ G H (.refl gh) (.str _)⟩
   ·rw[if_neg h] at e2;cases e2) ha hb hs
noncomputable def H_(K:Qc):V->List V->Hp->VK->Prop:=λx vs H Q=>∃sep ys p,x=.str sep/\vs=[.ref p]/\SqL K H p (ys.map V.str)/\JoinOk sep ys=true/\Q (.str (Txt.join sep ys)) H
theorem sY:∀{ys:List Str} {us:List Qa},bu (ys.map V.str) us->∃l:List (Str×Tok),us=strValues l/\l.map (·.1)=ys
 |[],_,.nil=>⟨[],rfl,rfl⟩
 |y::ys,_,.cons r rs=>by
  obtain⟨t,rfl⟩:=r;obtain⟨l,rfl,rfl⟩:=sY rs;exact⟨(y,t)::l,rfl,rfl⟩
theorem Eb:MtR X "str.join" (H_ X.K):=by
 rintro pins s σ H x xs v us Q I rx rs ⟨sep,ys,p,rfl,rfl,hp,hj,q⟩;obtain⟨t,rfl⟩:=(show ∃t,v=Value.str sep t from rx)
 cases rs with | cons r rs=>
  cases rs;cases r;obtain⟨its,r1,pl,_⟩:=I.list hp;obtain⟨l,rfl,hl⟩:=sY r1;exact SC.join (l:=l) pl.isList hl hj λt' k=>⟨.str (Txt.join sep ys),H,I.tok k,⟨t',rfl⟩,q⟩
noncomputable def oW:List D->Option (List Str)
 |[]=>some []
 |.str y::r=>(oW r).map (y :: ·)
 |_=>none
theorem rV{K:Qc}{G:Hp}:∀{vs:List V} {ds:List D} {ys:List Str},DenL K G vs ds->oW ds=some ys->vs=ys.map V.str
 |_,_,_,.nil,e=>by cases e;rfl
 |_,_,_,.cons (d:=.str y) h hs,e=>by
  obtain⟨zs,ez,rfl⟩:=bh e;cases h;rw[rV hs ez];rfl
noncomputable def lB(sep:Str):D->Option D
 |.lst ds=>(oW ds).bind λys=>if JoinOk sep ys=true then some (.str (Txt.join sep ys)) else none
 |_=>none
theorem vb{sep:Str}{e:Expr}{k:Nat}{p apos cpos:Pos}{f:Ev->Option D}(ha:DB X e f)(hb:Kx (.Constant (.str sep) k p) "join" X.env (eval (.Constant (.str sep) k p) X.env)=eval (.Constant (.str sep) k p) X.env:=by rfl)
  (hw:((((QP cpos (Qg [e] X.env)).all λx=>!x.fst)&&(ZN cpos (Zg [] X.env)).all λx=>x.fst.isSome)&&decide (([e]:List Expr).length+([]:List Keyword).length+(if([]:List Keyword).isEmpty=true then 0 else 1)<30))=true:=by rfl)
  (hl:(apos.endLine==cpos.line)=true:=by rfl) (hs:Qg [e] X.env=(false,eval e X.env)::Qg [] X.env:=by rfl) (hp:((QP cpos (Qg [] X.env)).any λx=>x.fst)=false:=by rfl) :
  DE X (.Call (.Attribute (.Constant (.str sep) k p) "join" apos) [e] [] cpos) (aY (lB sep) f):=by
 obtain⟨t,a1,a2⟩:=ha;refine⟨_,tf PySem.F.plainAttrs_str PySem.F.slot_str_join PySem.F.type_str_join Eb bP (aC a1 aR hs) hb hw hl hs hp,λHe G H σ ε d Q gh E ef q=>?_⟩;obtain⟨x,e1,ef⟩:=aq ef;unfold lB at ef;split at ef
 ·rename_i ds
  obtain⟨ys,ey,ef⟩:=aq ef;split at ef
  ·rename_i hj
   cases ef;refine⟨rfl,a2 He G H σ ε _ _ gh E e1 λv G1 H1 g1 d1=>?_⟩;obtain⟨p,xs,rfl,h1,h2⟩:=d1.lst g1.gh;have:=rV h2 ey;subst this;exact⟨sep,ys,p,rfl,rfl,h1,hj,q _ G1 H1 g1 (.str _)⟩
  ·cases ef
 ·cases ef
end
noncomputable def Kg(X:Cx)(He Ge:Hp)(r:Fl)(u:TS)(W:Ends):Prop:=match r with
 |.nx ε=>∀σ G H,Sta X.K He Ge G H σ ε->u W σ H
 |r=>xk X He Ge r W
noncomputable def tE(X:Cx)(He Ge:Hp)(r:Fl)(m:Nat)(σ0:L2.St)(u:TS)(W:Ends):Prop:=match r with
 |.nx ε=>∀σ G H,Sta X.K He Ge G H σ ε->σ.length=σ0.length->σ.take m=σ0.take m->u W σ H
 |r=>xk X He Ge r W
noncomputable def DSp(X:Cx)(m:Nat)(st:List Stmt)(g:Ev->Option Fl)(u:TS):Prop:=∃t,PSs X st t/\∀(He Ge G H:Hp) (σ:L2.St) (ε:Ev) (r:Fl) (W:Ends),Sta X.K He Ge G H σ ε->g ε=some r->tE X He Ge r m σ u W->t W σ H
theorem tE.cg{X:Cx}{He Ge:Hp}{r:Fl}{m:Nat}{σ σ1:L2.St}{u:TS}{W:Ends}(h1:σ1.length=σ.length)(h2:σ1.take m=σ.take m)(P:tE X He Ge r m σ u W):tE X He Ge r m σ1 u W:=by
 cases r with
 |nx ε=>exact λσ' G H S a b=>P σ' G H S (a.trans h1) (b.trans h2)
 |rt d=>exact P
 |ro ds=>exact P
 |xc c fs=>exact P
 |bk ε'=>exact P
 |ct ε'=>exact P
section
variable{X:Cx}{m:Nat}{rest:List Stmt}{g g':Ev->Option Fl}{u:TS}{a c:Expr}{pos:Pos}
theorem yH(h:PSs X rest u):DSp X m rest bj u:=⟨_,h,λHe Ge G H σ ε r W S e P=>by cases e;exact P σ G H S rfl rfl⟩
theorem tH{fx:Ev->Option Out}(ha:DEx X a fx)(hs':DSp X m rest g u)(hs:ZD a none pos.line X.env=pure false:=by rfl):DSp X m (.Expr a pos::rest) (aQ (mW fx) g) u:=by
 obtain⟨t,a1,a2⟩:=ha;obtain⟨v,b1,b2⟩:=hs';refine⟨_,aH (ko a1 hs) b1,λHe Ge G H σ ε r W S e P=>?_⟩;obtain⟨r1,e1,e⟩:=aq e;obtain⟨r0,e0,e1⟩:=aq e1
 match r0,e0,e1 with
 |.inl d,e0,e1=>
  cases e1;exact a2 He G H σ ε _ _ S.g.gh S.e e0 (λd0 z v G1 H1 g1 d1=>b2 He Ge G1 H1 σ ε r W ⟨S.g.trans g1,S.e.grow g1⟩ e P) λc fs z=>by cases z
 |.inr (c,fs),e0,e1=>
  cases e1;cases e;exact a2 He G H σ ε _ _ S.g.gh S.e e0 (λd0 z=>by cases z) (tQ (W:=W) S P)
theorem Gg(i:Nat){x:Str}{px:Pos}{fa:Ev->Option D}(hN:X.N.Nodup)(ha:DE X a fa)(hs':DSp X m rest g u)(h0:m<=i:=by decide)(hi:X.N[i]?=some x:=by rfl)(hx:Loc X.env.scope x:=by first | exact Qz rfl | exact Zn rfl)(hf:X.fn x=true\/X.env.scope.names.lookup x=some .local:=by first | exact .inl rfl | exact .inr rfl)
  (hs:ZD a (some (.Name x px)) pos.line X.env=pure false:=by rfl):DSp X m (.Assign [.Name x px] a pos::rest) (aQ (bW i fa) g) u:=by
 obtain⟨t,a1,a2⟩:=ha;obtain⟨v,b1,b2⟩:=hs';refine⟨_,aH (bT hN hi hx a1 hs hf) b1,λHe Ge G H σ ε r W S e P=>?_⟩;obtain⟨r1,e1,e⟩:=aq e;obtain⟨d,e0,rfl⟩:=bh e1;refine a2 He G H σ ε d _ S.g.gh S.e e0 λw G1 H1 g1 d1=>b2 He Ge G1 H1 _ _ r W ⟨S.g.trans g1,(S.e.grow g1).put d1⟩ e ?_;exact P.cg (ZC ..) (by rw[List.take_set,List.set_eq_of_length_le (QO (List.length_take_le _ _) h0)])
theorem zo{f:Ev->Option Bool}{s1:List Stmt}{g1:Ev->Option Fl}(hc:DT X c f)(h1:DSs X s1 g1)(no:∀ε ε',g1 ε≠some (.nx ε'))(hs':DSp X m rest g u):DSp X m (.If c s1 [] pos::rest) (aQ (sIf f g1 bj) g) u:=by
 obtain⟨t,c1,c2⟩:=hc;obtain⟨ta,a1,a2⟩:=h1;obtain⟨v,b1,b2⟩:=hs';refine⟨_,aH (ia c1 a1 eQ) b1,λHe Ge G H σ ε r W S e P=>?_⟩;obtain⟨r1,e1,e⟩:=aq e;obtain⟨k,e0,e1⟩:=aq e1;refine c2 He G H σ ε k _ S.g.gh S.e e0 λG1 H1 g1=>?_;cases k with
 |true=>
  rw[if_pos rfl] at e1 ⊢;refine a2 He Ge G1 H1 σ ε r1 _ (S.grow g1) e1 ?_;cases r1 with
  |nx ε'=>exact absurd e1 (no ε ε')
  |rt d=>cases e;exact P
  |ro ds=>cases e;exact P
  |xc c fs=>cases e;exact P
  |bk ε'=>cases e;exact P
  |ct ε'=>cases e;exact P
 |false=>
  rw[if_neg Qp] at e1 ⊢;cases e1;exact b2 He Ge G1 H1 σ ε r W (S.grow g1) e P
theorem pe{c:Str}(ε ε':Ev):cx c ε≠some (.nx ε'):=λz=>by cases z
theorem CG{c:Str}{fd:List D->Option (List (Str×D))}{ga:Ev->Option (List D)}(ε ε':Ev):uj c fd ga ε≠some (.nx ε'):=λz=>by
 obtain⟨ds,_,z⟩:=aq z;obtain⟨fs,_,z⟩:=bh z;cases z
end
open PySem.W
section tree
variable{α β:Type}
end tree
noncomputable def Kp(h g:Heap):Prop:=∀b o,h.get? b=some o->g.get? b=some o
noncomputable def C1(i:Int):Int:=if i<0 then -i else i
noncomputable def vL:List D->Option D
 |[.int i]=>some (.int (C1 i))
 |_=>none
section
variable{X:Cx}
theorem Ag:iW X (.builtin "abs") (λxs H Q=>∃i,xs=[.int i]/\Q (.int (C1 i)) H):=by
 intro pins s σ H xs us Q I rv h;obtain⟨i,rfl,q⟩:=h;obtain⟨u,rfl,ru⟩:=rv.one;obtain⟨t,rfl⟩:=ru;exact PyProof.Rows.call_abs_int λu tk=>⟨.int (C1 i),H,I.kept (t':=tk) λ_ _ e=>e,⟨u,rfl⟩,q⟩
theorem Hh:lG X (.builtin "abs") vL:=⟨_,Ag,λG H vs ds d Q gh hd e q=>by
 unfold vL at e;split at e
 ·cases e
  cases hd with | cons h1 h2=>cases h2;exact⟨_,by rw[h1.intV],q _ _ _ (.refl gh) (.int _)⟩
 ·cases e⟩
end
end Dn
namespace Ex
open PySem PySem.Spec PyProof.Rows L2
section
variable{M:Model}{A:QB}{E:Qa->Qd->Prop}{nm q nm' q':Str}{C N B N':Addr}{bs bm bs' bm':List Qa}{hdct hdct':Bool}{sn sn':List Str}{sub sub':List Qa}{ab ab':Bool}{col col':Option Bool}{dd dd':Option Addr}{k0 k1 k2 k3 k5 j0 j1 j2 j3 j5:Option Qa}{newId newId':String}
theorem Il{h:Heap}{g:Array GenState}{d:Drawn}{t:Nat}{os:OsState}{e:Addr}{oe:Obj}{Q:Bool->Qd->Prop}(hC:h.get? C=some (ZQ nm q C N bs bm hdct sn sub ab col dd k0 k1 k2 k3 k5 newId))
  (hB:h.get? B=some (ZQ nm' q' B N' bs' bm' hdct' sn' sub' ab' col' dd' j0 j1 j2 j3 j5 newId')) (he:h.get? e=some oe) (hcls:oe.cls=.ref C) (b1:bm'.contains (.type "BaseException")=true) (c2:(Qn C::bm).contains (.ref B)=false)
  (hq:Q false ⟨h,g,d,t,os⟩):Qf M A (excMatches (.ref e) (.ref B)) Q E ⟨h,g,d,t,os⟩:=by
 have c1:(Qn B::bm').contains (.type "BaseException")=true:=by rw[QS,b1];simp
 have nt:=tc_notTuple;unfold excMatches
 repeat (first | (with_reducible refine Q9 he ?_;rw[hcls]) | with_reducible refine Q9 hB ?_ | (with_reducible refine Zy hB ?_;rw[c1]) | (with_reducible refine Zy hC ?_;rw[c2]) | wp_step)
 exact hq
end
section
variable{X:Cx}{pins:List Vz}{σ:L2.St}{H:Hp}{a:Addr}
noncomputable def IZ(X:Cx)(C:Addr)(bm:List Qa)(x:ExceptHandler):Prop:=∃c pc n b0 suite hpos D bmD,x=.ExceptHandler (some (.Name c pc)) n (b0::suite) hpos/\Gl X c/\X.mg c=some (.ref D)/\XO X.K D bmD/\(Qn C::bm).contains (.ref D)=false/\(c==("__debug__" : Str))=false
theorem FY{s:Qd}{C dx N0:Addr}{bm:List Qa}{Q:Flow->Qd->Prop}{rest:List ExceptHandler}(I:Inv X pins σ H s)(k:XO X.K C bm)(x:XT N0 H s.heap a (.ref C) dx .none):∀{pre:List ExceptHandler},(∀x∈pre,IZ X C bm x)->Qf KF X.A (handleBy (.ref a) X.env rest) Q X.xe s->Qf KF X.A (handleBy (.ref a) X.env (pre++rest)) Q X.xe s
 |[],_,h=>h
 |y::pre,hp,h=>by
  obtain⟨c,pc,n,b0,suite,hpos,D,bmD,rfl,hg,hm,kD,ne,hdb⟩:=hp y QD;have ih:=FY (rest:=rest) I k x (pre:=pre) (λz hz=>hp z (Qv _ hz)) h;have nb:(Qn a)≠byPass:=λz=>by cases z
  refine wpAny_handleBy_cons (codeAny_handlers_test ?_) nb;obtain⟨nm,q,N,bs,hdct,sn,sub,ab,col,dd,k0,k1,k2,k3,k5,lk⟩:=k.ob;obtain⟨nm',q',N',bs',hdct',sn',sub',ab',col',dd',j0,j1,j2,j3,j5,lkB⟩:=kD.ob;have hC:=I.kIn _ _ lk;have hB:=I.kIn _ _ lkB;refine hU (X:=Mk2 X a) (oA I) hg hm ?_ hdb;obtain⟨g3,u3,oe3,vs3,T3,oT3,ts3,ea3,ec3,ed3,r3⟩:=id x;obtain⟨h0,g0,d0,t0,o0⟩:=s;refine Il hC hB ea3 ec3 kD.exc ne ?_;exact ih
theorem D1{s0 s1:Qd}{H0:Hp}{C B dx:Addr}{bm bm':List Qa}{c n:Str}{i:Nat}{pc hpos:Pos}{b0:Stmt}{suite:List Stmt}{R:L2.St->Hp->Prop}{Q:Flow->Qd->Prop}{pre:List ExceptHandler}(hp:∀x∈pre,IZ X C bm x)(I0:Inv X pins σ H0 s0)(hst:X.stack=X.env::X.outer)(hfr:X.env.frame=some X.env.locals)
  (hos:s1.os=s0.os) (hba:AllBare s1.gens) (un:Un (frs X.stack) [] H0 H s0.heap s1.heap) (hok:HOk X.prog X.w H s1.heap) (x:XAt s0.heap.objs.size H s1.heap a (.ref C) dx) (k:XO X.K C bm) (kB:XO X.K B bm') (sb:bm.contains (.ref B)=true) (hg:Gl X c) (hm:X.mg c=some (.ref B)) (hdb:(c==("__debug__" : Str))=false)
  (hl:X.env.kindOf n=some .local) (hN:X.N.Nodup) (hi:X.N[i]?=some n)
  (hsuite:∀oe s3,oe.cls=.ref C->oe.dict=some dx->Zp oe=true->Inv (Mk2 X a) ((a,oe)::pins) (σ.set i (some (.ref a))) H s3->
   Qf KF (Mk2 X a).A (execs (b0::suite) X.env) (λf s4=>f=.next/\∃σ4 H4,Inv (Mk2 X a) ((a,oe)::pins) σ4 H4 s4/\R σ4 H4) (λ_ _=>False) s3)
  (hQ:∀σ4 H4 s5,R σ4 H4->Inv X pins (σ4.set i none) H4 s5->Q .next s5) :
  Qf KF X.A (noteFrame (.ref a) X.env) (λ_ s2=>Qf KF X.A (setFlight (.ref a) none) (λ_ s3=>Qf KF X.A (handleBy (.ref a) X.env (pre++[.ExceptHandler (some (.Name c pc)) (some n) (b0::suite) hpos])) Q X.xe s3) X.xe s2) X.xe s1:=by
 have I1:Inv X pins σ H s1:=I0.call' hos un hok hba λb z=>absurd z (by simp);have fr:X.A.frames=some (X.env::X.outer):=I1.ok.frames.trans (congrArg some hst);have ff:s1.heap.FunFrames X.base (X.env::X.outer):=hst▸I1.stack;have free:∀b∈frs (X.env::X.outer),H b=none:=hst▸I1.stkFree;have hH:∀b,s1.heap.objs.size<=b->H b=none:=λb z=>I1.hok.fresh z;refine uM (n:=s0.heap.objs.size) (H:=H) fr ff hfr hH x λh2 m2 x2=>?_;refine jN (s:={ s1 with heap:=h2 }) (base:=X.base) (l:=X.env::X.outer) (ou m2 _ (λ_ z=>z) ff) x2 λh3 m3 x3=>?_;have m23:=m2.trans m3
 have to:∀{h':Heap},Moves (frs (X.env::X.outer)) s0.heap.objs.size H s1.heap h'->∀t,Inv X pins σ H ⟨h',s1.gens,s1.drawn,t,s1.os⟩:=λ{h'} m t=>
  I0.call' (s':=⟨h',s1.gens,s1.drawn,t,s1.os⟩) hos (Moves.un un (hst▸m) (Qm _)) (m.hok free hok) hba λb z=>absurd z (by simp)
 have nb:(Qn a)≠byPass:=λz=>by cases z
 refine FY (to m23 s1.toks) k x3 hp ?_;refine wpAny_handleBy_cons (codeAny_handlers_test ?_) nb;obtain⟨nm,q,N,bs,hdct,sn,sub,ab,col,dd,k0,k1,k2,k3,k5,lk⟩:=k.ob;obtain⟨nm',q',N',bs',hdct',sn',sub',ab',col',dd',j0,j1,j2,j3,j5,lkB⟩:=kB.ob;have J3:=to m23 s1.toks;have hC:=J3.kIn _ _ lk;have hB:=J3.kIn _ _ lkB;refine hU (X:=Mk2 X a) (oA J3) hg hm ?_ hdb;obtain⟨g3,u3,oe3,vs3,T3,oT3,ts3,ea3,ec3,ed3,r3⟩:=id x3;refine D2 hC hB ea3 ec3 kB.exc sb ?_;refine codeAny_handlers_suite_as (?_);refine jN (s:=⟨h3,s1.gens,s1.drawn,s1.toks,s1.os⟩) (base:=X.base) (l:=X.env::X.outer) (ou m23 _ (λ_ z=>z) ff) x3 λh4 m4 x4=>?_;have J4:=to (m23.trans m4) s1.toks;obtain⟨g4,u4,oe,vs,T,oT,ts,ea,ec,ed,edat,r4⟩:=id x4;have nc:Zp oe=true:=by unfold Zp;rw[edat]
 have P4:Inv X ((a,oe)::pins) σ H ⟨h4,s1.gens,s1.drawn,s1.toks,s1.os⟩:=J4.pins_of λp hp=>by
  rcases Ql.mp hp with e | e
  ·subst e
   refine⟨ea,u4,λz=>?_,I0.nofs g4,λv z=>?_⟩
   ·have z:a=X.env.locals:=z
    exact absurd (QA I0.lt g4) (by rw[z];exact Zb _)
   ·rw[edat] at z;cases z
  ·exact J4.pin p (Qu _ e)
 refine jK (X:=Mk2 X a) (oA P4) hN hi (.inl hl) (v:=.ref a) rfl (λs5 I5=>?_) (.inr hl);refine Zk (hsuite oe s5 ec ed nc I5) (λf s6 z=>?_) λ_ _ z=>z.elim;obtain⟨rfl,σ4,H4,I6,rr⟩:=z;have I7:Inv X ((a,oe)::pins) σ4 H4 s6:=vP I0.ok I6;refine IT (I7.pins_of λp hp=>I7.pin p (Qu _ (Qv _ hp))) hl hN hi λs8 I8=>hQ σ4 H4 s8 rr I8
end
end Ex
namespace RW2
open PySem PyProof.Rows PySem.W
theorem sU:typeLookup (.type "list") "keys" = pure none:=by rw[typeLookup_type,builtinLookup_eq_fast];kernel_rfl
section
variable{prog:Qr}{w:Qx}{A:QB}{E:Qa->Qd->Prop}{s:Qd}
theorem Aj{a:Addr}{its:Array Qa}{Q:Option Qa->Qd->Prop}(x:PlainL s.heap a its)(hA:A.handled=none)
  (h:∀h' tk,(∀b o,s.heap.get? b=some o->h'.get? b=some o)->Q none { s with heap:=h',toks:=tk }):Qf (Qj prog w) A (getAttr? (.ref a) "keys") Q E s:=by
 obtain⟨⟨c,dct,dat,sl⟩,k,hx,hc,hd,hdat⟩:=x;simp only at hc hdat hd;subst hc hdat hd;rcases s with⟨hp,g,d,tk,os⟩
 have tyA:∀tk',(⟨hp,g,d,tk',os⟩:Qd).TypeIs (.ref a) "list":=λ_=>⟨_,hx,rfl⟩;have f1:=sub_AttributeError;have f3:=PySem.F.slot_list_getattribute.lookup;have f4:=PySem.F.slot_list_getattribute.bind (.ref a);have noHook:=am_list_getattr_none;have f6:=sU;unfold getAttr? getAttrBy?;unfold getAttrBy
 repeat (any_goals (first | assumption | exact tyA _ | ((with_reducible show Qf _ _ (call (Value.builtin "list.__getattribute__") _ _) _ _ _);refine call_meets PySem.F.slot_list_getattribute (tyA _) am_entry_list_getattribute (PySem.F.args_list_getattribute_2 _ _) (meets_getattribute_miss_list a its k sl "keys" _ sU (by decide) (by size_fits)) ⟨hx,hA,λh' tk' e hx'=>?_⟩) | wp_step))
 have⟨t',u',he⟩:=hx'.there;show Qf _ _ (getattributeRaised _ _ _ _ _ _ _) (λ_ _=>_) _ _;unfold getattributeRaised
 repeat (any_goals (first | wp_step | assumption))
 exact h h' tk' λb o e=>hx'.keeps b o e
end
end RW2
namespace Dn
open PySem PySem.Spec PyProof.Rows L2
noncomputable def pG:Ev->Option Fl:=(sIf (aG gtI (ah 5) Vw) (aQ (l_ 2 (e2 ba (ah 5) (eC (.int 1000)))) (bW 5 (e2 nP (ah 5) (eC (.int 1000))))) bj)
noncomputable def oQ:Ev->Option Fl:=(aQ (bW 3 (e2 ba (e2 bR (e2 bR (e2 cV (ah 3) (eC (.int 69621))) (e2 ba (ah 4) (eC (.int 999983)))) (eC (.int 7))) (eC (.int 2147483629)))) (aQ (bW 5 (e2 h9 (ah 4) (e2 w_ (eC (.int 10)) (eC (.int 18))))) (aQ (sIf (aG ltI (ah 5) Vw) (l_ 2 (e2 ba (ah 4) (eC (.int 1000)))) bj) (iX (iG (eC (.int 60))) (ao 6) pG))))
noncomputable def lW:Ev->Option Fl:=(sIf (aG ltI (aY dJ (ah 2)) (ah 1)) (aQ (bW 3 (e2 ba (e2 bR (e2 bR (e2 bR (e2 w_ (ah 3) (eC (.int 3))) (e2 cV (eC (.int 40692)) (ah 3))) (e2 cV (eC (.int 7)) (ah 6))) (eC (.int 5))) (eC (.int 2147483629)))) (l_ 2 (e2 ba (e2 nP (ah 3) (eC (.int 1009))) (eC (.int 1000))))) bj)
theorem ax{g g':Ev->Option Fl}{ε ε':Ev}(h:g ε=some (.nx ε')):aQ g g' ε=g' ε':=by unfold aQ;rw[h];rfl
theorem cC{g g':Ev->Option Fl}{ε:Ev}{d:D}(h:g ε=some (.rt d)):aQ g g' ε=some (.rt d):=by unfold aQ;rw[h];rfl
theorem cq{f:Ev->Option (List D)}{g:D->Ev->Option Ev}{gb:Ev->Option Fl}{ε:Ev}{ds:List D}(h:f ε=some ds):iX f g gb ε=cz g gb ds ε:=by unfold iX;rw[h];rfl
theorem iq{f:Ev->Option Bool}{g g':Ev->Option Fl}{ε:Ev}(h:f ε=some true):sIf f g g' ε=g ε:=by unfold sIf;rw[h];rfl
theorem iS{f:Ev->Option Bool}{g g':Ev->Option Fl}{ε:Ev}(h:f ε=some false):sIf f g g' ε=g' ε:=by unfold sIf;rw[h];rfl
theorem dR{i:Nat}{f:Ev->Option D}{ε:Ev}{d:D}(h:f ε=some d):bW i f ε=some (.nx (ε.set i (.dat d))):=by unfold bW;rw[h];rfl
theorem fF{f:Ev->Option D}{ε:Ev}{d:D}(h:f ε=some d):bo f ε=some (.rt d):=by unfold bo;rw[h];rfl
theorem jc{f:Ev->Option (List D)}{ε:Ev}{ds:List D}(h:f ε=some ds):eF f ε=some (.lst ds):=by unfold eF;rw[h];rfl
theorem nC{F:List D->Option D}{fa:Ev->Option D}{ε:Ev}{x:D}(h1:fa ε=some x):aL F (aa fa aF) ε=F [x]:=by unfold aL aa;rw[h1];rfl
theorem nu{F:List D->Option D}{fa fb:Ev->Option D}{ε:Ev}{x y:D}(h1:fa ε=some x)(h2:fb ε=some y):aL F (aa fa (aa fb aF)) ε=F [x,y]:=by unfold aL aa;rw[h1,h2];rfl
theorem B9{F:List D->Option D}{fa fb fc:Ev->Option D}{ε:Ev}{x y z:D}(h1:fa ε=some x)(h2:fb ε=some y)(h3:fc ε=some z):aL F (aa fa (aa fb (aa fc aF))) ε=F [x,y,z]:=by unfold aL aa;rw[h1,h2,h3];rfl
theorem Ac{F:List D->Option D}{g:Ev->Option (List D)}{ε:Ev}{b:Bool}(h:aL F g ε=some (.bl b)):b_ (cZ (aL F g)) ε=some (!b):=by unfold b_ cZ;rw[h];rfl
theorem hZ{fa fb:Ev->Option D}{ε:Ev}{a b:Bool}(h1:fa ε=some (.bl a))(h2:fb ε=some (.bl b)):i_ fa fb ε=some (.bl (a&&b)):=by
 unfold i_;rw[h1];cases a
 ·rfl
 ·show fb ε=_;rw[h2];rfl
theorem rX{fa fb fc:Ev->Option D}{ε:Ev}{a b c:Int}(h1:fa ε=some (.int a))(h2:fb ε=some (.int b))(h3:fc ε=some (.int c)):eCh leI leI fa fb fc ε=some (.bl (decide (a<=b)&&decide (b<=c))):=by
 unfold eCh;rw[h1,h2,h3];show(if decide (a<=b)=true then some (D.bl (decide (b<=c))) else some (.bl false))=_;cases decide (a<=b)<;>rfl
theorem b9{N ps:List Str}{g:Ev->Option Fl}{ds:List D}{d:D}(hl:ds.length=ps.length)(h:g (bG N ds)=some (.rt d)):fnD N ps g ds=some d:=by
 unfold fnD;rw[if_pos hl,h]
theorem Cf(xs:List D)(a b:Nat)(hb:b<=xs.length):Dn.kI xs (some (a:Int)) (some (b:Int))=(xs.drop a).take (b-a):=by
 unfold Dn.kI;rw[HT.tT,HT.tT,Nat.min_eq_left hb];rcases Nat.le_total a xs.length with h | h
 ·rw[Nat.min_eq_left h]
 ·rw[Nat.min_eq_right h,List.drop_eq_nil_of_le h,List.drop_length];simp
noncomputable abbrev iL(l:List Int):List D:=l.map D.int
noncomputable def Low(l:List Int):Prop:=∀v∈l,0<=v/\v<1000
theorem Low.snoc{l:List Int}{v:Int}(h:Low l)(h0:0<=v)(h1:v<1000):Low (l++[v]):=by
 intro u hu;rcases Q2.mp hu with z | z
 ·exact h u z
 ·rw[QL.mp z];exact⟨h0,h1⟩
theorem AH(A M S C k:Sl)(row:List Int)(rest:Int)(hl:Low row)(hz:row.length<900000) :
  ∃row' rest',pG [A,M,.own (iL row),S,C,.dat (.int rest),k]=some (.nx [A,M,.own (iL row'),S,C,.dat (.int rest'),k])/\Low row'/\row'.length<=row.length+1:=by
 by_cases h:0<rest
 ·refine⟨row++[rest%1000],rest/1000,?_,hl.snoc KM KM,by simp⟩
  have:row.length<1000000:=by lia
  simp[pG,sIf,aG,asB,e2,gtI,ip,ah,eC,aQ,l_,bW,ba,nP,z_,h,this,iL]
 ·refine⟨row,rest,?_,hl,by simp⟩
  simp[pG,sIf,aG,asB,e2,gtI,ip,ah,eC,bj,h]
theorem zA(A M S C:Sl):∀(l:List D) (k:Sl) (row:List Int) (rest:Int),Low row->row.length+l.length<900000->
  ∃row' rest' k',cz (ao 6) pG l [A,M,.own (iL row),S,C,.dat (.int rest),k]=some (.nx [A,M,.own (iL row'),S,C,.dat (.int rest'),k'])/\Low row'/\row'.length<=row.length+l.length
 |[],k,row,rest,hl,hz=>⟨row,rest,k,rfl,hl,by simp⟩
 |d::l,k,row,rest,hl,hz=>by
  simp only[QM] at hz;obtain⟨row1,rest1,e1,l1,z1⟩:=AH A M S C (.dat d) row rest hl KM;obtain⟨row2,rest2,k2,e2,l2,z2⟩:=zA A M S C l (.dat d) row1 rest1 l1 KM;refine⟨row2,rest2,k2,?_,l2,by simp only[QM];lia⟩;unfold cz;have t:ao 6 d [A,M,.own (iL row),S,C,.dat (.int rest),k]=some [A,M,.own (iL row),S,C,.dat (.int rest),.dat d]:=rfl;rw[t];show(pG _).bind _=_;rw[e1];exact e2
theorem A0(A M r k:Sl)(row:List Int)(seed cell:Int)(hl:Low row)(hs:0<=seed/\seed<2147483629)(hz:row.length<800000) :
  ∃row' seed' r' k',oQ [A,M,.own (iL row),.dat (.int seed),.dat (.int cell),r,k]=some (.nx [A,M,.own (iL row'),.dat (.int seed'),.dat (.int cell),r',k'])/\Low row'/\(0<=seed'/\seed'<2147483629)/\row'.length<=row.length+61:=by
 have key:∃row1,sIf (aG ltI (ah 5) Vw) (l_ 2 (e2 ba (ah 4) (eC (.int 1000)))) bj [A,M,.own (iL row),.dat (.int ((seed*69621+cell%999983+7)%2147483629)),.dat (.int cell),.dat (.int (cell-1000000000000000000)),k] =
   some (.nx [A,M,.own (iL row1),.dat (.int ((seed*69621+cell%999983+7)%2147483629)),.dat (.int cell),.dat (.int (cell-1000000000000000000)),k])/\Low row1/\row1.length<=row.length+1:=by
  by_cases h:cell-1000000000000000000<0
  ·refine⟨row++[cell%1000],?_,hl.snoc KM KM,by simp⟩
   have h2:row.length<1000000:=by lia
   simp[sIf,aG,asB,e2,ltI,ip,ah,eC,l_,ba,h,h2,iL]
  ·refine⟨row,?_,hl,by simp⟩
   simp[sIf,aG,asB,e2,ltI,ip,ah,eC,bj,h]
 obtain⟨row1,e1,l1,z1⟩:=key;obtain⟨row2,rest2,k2,e2',l2,z2⟩:=zA A M (.dat (.int ((seed*69621+cell%999983+7)%2147483629))) (.dat (.int cell)) (fX 60) k row1 (cell-1000000000000000000) l1 (by simp[fX];lia);refine⟨row2,(seed*69621+cell%999983+7)%2147483629,.dat (.int rest2),k2,?_,l2,by lia,by simp[fX] at z2;lia⟩
 have s1:bW 3 (e2 ba (e2 bR (e2 bR (e2 cV (ah 3) (eC (.int 69621))) (e2 ba (ah 4) (eC (.int 999983)))) (eC (.int 7))) (eC (.int 2147483629))) [A,M,.own (iL row),.dat (.int seed),.dat (.int cell),r,k] =
   some (.nx [A,M,.own (iL row),.dat (.int ((seed*69621+cell%999983+7)%2147483629)),.dat (.int cell),r,k]):=by
  simp[bW,e2,ba,bR,cV,ip,ah,eC,sv]
 have s2:bW 5 (e2 h9 (ah 4) (e2 w_ (eC (.int 10)) (eC (.int 18)))) [A,M,.own (iL row),.dat (.int ((seed*69621+cell%999983+7)%2147483629)),.dat (.int cell),r,k] =
   some (.nx [A,M,.own (iL row),.dat (.int ((seed*69621+cell%999983+7)%2147483629)),.dat (.int cell),.dat (.int (cell-1000000000000000000)),k]):=by
  simp[bW,e2,h9,w_,ip,ah,eC,AV]
 have r60:iG (eC (.int 60)) [A,M,.own (iL row1),.dat (.int ((seed*69621+cell%999983+7)%2147483629)),.dat (.int cell),.dat (.int (cell-1000000000000000000)),k]=some (fX 60):=rfl;unfold oQ;rw[ax s1,ax s2,ax e1,cq r60];exact e2'
theorem vK(A M:Sl):∀(l:List Int) (c r k:Sl) (row:List Int) (seed:Int),Low row->(0<=seed/\seed<2147483629)->row.length+61*l.length<800000->
  ∃row' seed' c' r' k',cz (ao 4) oQ (iL l) [A,M,.own (iL row),.dat (.int seed),c,r,k]=some (.nx [A,M,.own (iL row'),.dat (.int seed'),c',r',k'])/\Low row'/\(0<=seed'/\seed'<2147483629)/\row'.length<=row.length+61*l.length
 |[],c,r,k,row,seed,hl,hs,hz=>⟨row,seed,c,r,k,rfl,hl,hs,by simp⟩
 |v::l,c,r,k,row,seed,hl,hs,hz=>by
  simp only[QM] at hz;obtain⟨row1,seed1,r1,k1,e1,l1,h1,z1⟩:=A0 A M r k row seed v hl hs KM;obtain⟨row2,seed2,c2,r2,k2,e2,l2,h2,z2⟩:=vK A M l (.dat (.int v)) r1 k1 row1 seed1 l1 h1 KM;refine⟨row2,seed2,c2,r2,k2,?_,l2,h2,by simp only[QM];lia⟩;show cz (ao 4) oQ (.int v::iL l) _=_;unfold cz;have t:ao 4 (.int v) [A,M,.own (iL row),.dat (.int seed),c,r,k]=some [A,M,.own (iL row),.dat (.int seed),.dat (.int v),r,k]:=rfl;rw[t];show(oQ _).bind _=_;rw[e1];exact e2
theorem AA(A c r:Sl)(m:Nat)(row:List Int)(seed:Int)(j:Nat)(hl:Low row)(hs:0<=seed/\seed<2147483629)(hz:row.length<900000) :
  ∃row' seed',lW [A,.dat (.int (m:Int)),.own (iL row),.dat (.int seed),c,r,.dat (.int (j:Int))]=some (.nx [A,.dat (.int (m:Int)),.own (iL row'),.dat (.int seed'),c,r,.dat (.int (j:Int))])/\Low row'/\(0<=seed'/\seed'<2147483629)/\row'.length<=row.length+1/\(row.length<m->row'.length=row.length+1)/\(m<=row.length->row'.length=row.length):=by
 by_cases h:row.length<m
 ·refine⟨row++[(seed ^ 3+40692*seed+7*(j:Int)+5)%2147483629/1009%1000],(seed ^ 3+40692*seed+7*(j:Int)+5)%2147483629,?_,hl.snoc KM KM,by lia,by simp,by simp,by lia⟩
  have h2:(row.length:Int)<(m:Int):=by lia
  have h3:row.length<1000000:=by lia
  have h4:seed.natAbs<18446744073709551616:=by lia
  simp[lW,sIf,aG,asB,e2,ltI,ip,ah,eC,aY,dJ,aQ,l_,bW,ba,nP,w_,bR,cV,z_,AV,sv,h2,h3,h4,h,iL]
 ·refine⟨row,seed,?_,hl,hs,by lia,by lia,by lia⟩
  have h2:¬ (row.length:Int)<(m:Int):=by lia
  simp[lW,sIf,aG,asB,e2,ltI,ip,ah,eC,aY,dJ,bj,h]
theorem sP(A c r:Sl)(m:Nat):∀(l:List Nat) (k:Sl) (row:List Int) (seed:Int),Low row->(0<=seed/\seed<2147483629)->row.length+l.length<900000->m<=row.length+l.length->
  ∃row' seed' k',cz (ao 6) lW (l.map λ(i:Nat)=>D.int (i:Int)) [A,.dat (.int (m:Int)),.own (iL row),.dat (.int seed),c,r,k]=some (.nx [A,.dat (.int (m:Int)),.own (iL row'),.dat (.int seed'),c,r,k'])/\Low row'/\m<=row'.length/\row'.length<900000
 |[],k,row,seed,hl,hs,hz,hm=>⟨row,seed,k,rfl,hl,by simpa using hm,by simpa using hz⟩
 |j::l,k,row,seed,hl,hs,hz,hm=>by
  simp only[QM] at hz hm;obtain⟨row1,seed1,e1,l1,h1,z1,z2,z3⟩:=AA A c r m row seed j hl hs KM;obtain⟨row2,seed2,k2,e2,l2,h2,h3⟩:=sP A c r m l (.dat (.int (j:Int))) row1 seed1 l1 h1 KM KM;refine⟨row2,seed2,k2,?_,l2,h2,h3⟩;show cz (ao 6) lW (.int (j:Int)::l.map λ(i:Nat)=>D.int (i:Int)) _=_;unfold cz;have t:ao 6 (.int (j:Int)) [A,.dat (.int (m:Int)),.own (iL row),.dat (.int seed),c,r,k]=some [A,.dat (.int (m:Int)),.own (iL row),.dat (.int seed),c,r,.dat (.int (j:Int))]:=rfl;rw[t];show(lW _).bind _=_;rw[e1];exact e2
theorem qy(xs:List D)(n:Nat):kI xs none (some (n:Int))=xs.take n:=by
 unfold kI;rw[HT.CK,HT.tT,List.drop_zero,Nat.sub_zero];rcases Nat.le_total n xs.length with h | h
 ·rw[Nat.min_eq_left h]
 ·rw[Nat.min_eq_right h,List.take_length,Kl h]
noncomputable abbrev tg2:D->Ev->Option Ev:=eZ 2 (aD (ao 0) (aD (ao 1) bM))
noncomputable def qa(rec:List D->Option D):Ev->Option Fl:=(aQ (sIf (iY (cZ (h_ (gq "list") (ah 1))) (cZ (h_ (gq "tuple") (ah 1)))) (aQ (sIf (iY (aG me (h_ (gq "list") (ah 0)) (h_ (gq "list") (ah 1))) (aG me (h_ (gq "tuple") (ah 0)) (h_ (gq "tuple") (ah 1)))) (bo (eC (.bl false))) bj) (bo (i_ (e2 cH (aY dJ (ah 0)) (aY dJ (ah 1))) (aL mz (aa (eF (eLC (zT (aa (aj 0) (aa (aj 1) aF))) 2 [] tg2 ig (aL rec (aa (aj 0) (aa (aj 1) aF))))) aF))))) bj) (aQ (sIf (iY (aG (isD false) (ah 0) (eC .non)) (aG (isD false) (ah 1) (eC .non))) (bo (i_ (e2 (isD false) (ah 0) (eC .non)) (e2 (isD false) (ah 1) (eC .non)))) bj) (aQ (sIf (iY (aG me (h_ (gq "bool") (ah 0)) (h_ (gq "bool") (ah 1))) (aG me (h_ (gq "int") (ah 0)) (h_ (gq "int") (ah 1)))) (bo (eC (.bl false))) bj) (bo (e2 cH (ah 0) (ah 1))))))
noncomputable def FrS:Nat->List D->Option D
 |0=>λ_=>none
 |n+1=>fnD ["a","b"] ["a","b"] (qa (FrS n))
noncomputable def OkS:Nat->D->Prop
 |0,_=>False
 |n+1,.tup ds=>ds.length<1000000/\∀d∈ds,OkS n d
 |n+1,.lst ds=>ds.length<1000000/\∀d∈ds,OkS n d
 |_+1,.dic _=>False
 |_+1,.rcd _ _=>False
 |_+1,_=>True
theorem y_{rec:List D->Option D}:∀(ds:List D) (s0 s1:Sl),(∀d∈ds,rec [d,d]=some (.bl true))->lcD tg2 ig (aL rec (aa (aj 0) (aa (aj 1) aF))) (rG ds ds) [s0,s1]=some (ds.map λ_=>D.bl true)
 |[],_,_,_=>rfl
 |d::ds,s0,s1,h=>by
  show((rec [d,d]).bind λv=>(lcD tg2 ig (aL rec (aa (aj 0) (aa (aj 1) aF))) (rG ds ds) [.dat d,.dat d]).bind λr=>some (v::r))=_;rw[h d (by simp),y_ ds _ _ λe he=>h e (by simp[he])];rfl
theorem wK:∀ds:List D,kH (ds.map λ_=>D.bl true)=some (ds.map λ_=>true)
 |[]=>rfl
 |d::ds=>by show(kH (ds.map λ_=>D.bl true)).bind _=_;rw[wK ds];rfl
theorem Gm(ds:List D):mz [.lst (ds.map λ_=>D.bl true)]=some (.bl true):=by
 show(kH (ds.map λ_=>D.bl true)).bind _=_;rw[wK];show some (D.bl ((ds.map λ_=>true).all id))=_;simp
theorem wg{rec:List D->Option D}(d:D)(ds:List D)(hd:d=.tup ds\/d=.lst ds)(hz:ds.length<1000000)(h:∀e∈ds,rec [e,e]=some (.bl true)):qa rec [.dat d,.dat d]=some (.rt (.bl true)):=by
 have c2:eF (eLC (zT (aa (aj 0) (aa (aj 1) aF))) 2 [] tg2 ig (aL rec (aa (aj 0) (aa (aj 1) aF)))) [.dat d,.dat d]=some (.lst (ds.map λ_=>D.bl true)):=by
  refine jc ?_;rw[rA (ds:=rG ds ds) (by rcases hd with rfl | rfl<;>rfl) (by simpa[rG] using hz)];exact y_ ds _ _ h
 have c1:e2 cH (aY dJ (ah 0)) (aY dJ (ah 1)) [.dat d,.dat d]=some (.bl true):=by
  have:e2 cH (aY dJ (ah 0)) (aY dJ (ah 1)) [.dat d,.dat d]=some (.bl (decide ((ds.length:Int)=(ds.length:Int)))):=by rcases hd with rfl | rfl<;>rfl
  rw[this];simp
 unfold qa;refine cC ?_;rw[iq (by rcases hd with rfl | rfl<;>rfl),ax (ε':=[.dat d,.dat d]) (by rcases hd with rfl | rfl<;>rfl)];exact fF (hZ c1 ((nC c2).trans (Gm ds)))
theorem uG:∀(n:Nat) (d:D),OkS n d->FrS n [d,d]=some (.bl true)
 |0,_,h=>h.elim
 |n+1,d,h=>by
  show fnD ["a","b"] ["a","b"] (qa (FrS n)) [d,d]=_;refine b9 rfl ?_;show qa (FrS n) [.dat d,.dat d]=_;cases d with
  |non=>rfl
  |bl b=>cases b<;>rfl
  |int i=>
   have:qa (FrS n) [.dat (.int i),.dat (.int i)]=some (.rt (.bl (decide (i=i)))):=rfl;rw[this];simp
  |str x=>
   have:qa (FrS n) [.dat (.str x),.dat (.str x)]=some (.rt (.bl (decide (x=x)))):=rfl;rw[this];simp
  |dic ds=>exact h.elim
  |rcd c ds=>exact h.elim
  |tup ds=>exact wg _ ds (.inl rfl) h.1 λe he=>uG n e (h.2 e he)
  |lst ds=>exact wg _ ds (.inr rfl) h.1 λe he=>uG n e (h.2 e he)
noncomputable def bX(f:Nat->Int)(n:Nat):List Int:=(QU n).map f
theorem Gv(row:List Int):row=bX (λj=>row.getD j 0) row.length:=by
 apply KD;intro i;unfold bX;rw[QJ]
 by_cases h:i<row.length
 ·simp[h,Vq]
 ·have h':row.length<=i:=by lia
  rw[List.getElem?_eq_none h',List.getElem?_eq_none (by simpa using h')];rfl
theorem Gn{row:List Int}{n:Nat}(hl:row.length=n)(hL:Low row):∃f:Nat->Int,row=bX f n/\∀j,0<=f j/\f j<1000:=by
 refine⟨λj=>row.getD j 0,by rw[<-hl];exact Gv row,λj=>?_⟩
 by_cases h:j<row.length
 ·have:row.getD j 0=row[j]:=by simp[ZR,h]
  show 0<=row.getD j 0/\row.getD j 0<1000;rw[this];exact hL _ (List.getElem_mem h)
 ·have:row.getD j 0=0:=by simp[ZR,List.getElem?_eq_none (show row.length<=j by lia)]
  show 0<=row.getD j 0/\row.getD j 0<1000;rw[this];lia
theorem lK{f:Ev->Option Bool}{g g':Ev->Option Fl}{ε:Ev}(p:Prop)[Decidable p](h:f ε=some (decide p))(hp:p):sIf f g g' ε=g ε:=iq (h.trans (by rw[decide_eq_true hp]))
theorem gX{f:Ev->Option Bool}{g g':Ev->Option Fl}{ε:Ev}(p:Prop)[Decidable p](h:f ε=some (decide p))(hp:¬p):sIf f g g' ε=g' ε:=iS (h.trans (by rw[decide_eq_false hp]))
theorem Jd{i j:Int}(h:-(2 ^ 64)<j/\j<2 ^ 64):cV (.int i) (.int j)=some (.int (i*j)):=by
 have c:sv i j:=Zn h;simp[cV,ip,c]
theorem rP{i j:Int}(h:-(2 ^ 64)<i/\i<2 ^ 64):cV (.int i) (.int j)=some (.int (i*j)):=by
 have c:sv i j:=Qz h;simp[cV,ip,c]
theorem HX{i j:Int}(h:0<j):ba (.int i) (.int j)=some (.int (i%j)):=by
 simp[ba,ip,h]
theorem sZ{op:D->D->Option D}{fa fb:Ev->Option D}{ε:Ev}{x y:D}(h1:fa ε=some x)(h2:fb ε=some y):e2 op fa fb ε=op x y:=by unfold e2;rw[h1,h2];rfl
theorem lJ{g:D->Ev->Option Ev}{gb:Ev->Option Fl}(P:Nat->Ev->Prop):∀(ds:List D) (n:Nat),(∀i d,ds[i]?=some d->∀ε,P (n+i) ε->∃ε1 ε2,g d ε=some ε1/\(gb ε1=some (.nx ε2)\/gb ε1=some (.ct ε2))/\P (n+i+1) ε2)->
  ∀ε,P n ε->∃ε',cz g gb ds ε=some (.nx ε')/\P (n+ds.length) ε'
 |[],n,_,ε,h=>⟨ε,rfl,h⟩
 |d::ds,n,st,ε,h=>by
  obtain⟨ε1,ε2,e1,e2,h2⟩:=st 0 d rfl ε h
  obtain⟨ε3,e3,h3⟩:=lJ P ds (n+1) (λi d' hd ε h'=>by
   have:=st (i+1) d' hd ε (by rw[show n+(i+1)=n+1+i by lia];exact h');rw[show n+(i+1)+1=n+1+i+1 by lia] at this
   exact this) ε2 h2
  refine⟨ε3,?_,by rw[QM,show n+(ds.length+1)=n+1+ds.length by lia];exact h3⟩;show(g d ε).bind _=_;rw[e1];show(gb ε1).bind _=_;rcases e2 with e2 | e2<;>(rw[e2];exact e3)
theorem Am{g:D->Ev->Option Ev}{gb:Ev->Option Fl}(P:Ev->Prop){ds:List D}(st:∀d∈ds,∀ε,P ε->∃ε1 ε2,g d ε=some ε1/\(gb ε1=some (.nx ε2)\/gb ε1=some (.ct ε2))/\P ε2){ε:Ev}(h:P ε):∃ε',cz g gb ds ε=some (.nx ε')/\P ε':=
 lJ (λ_=>P) ds 0 (λi d hd ε h=>st d (Z0 hd) ε h) ε h
theorem nO{n i:Nat}{d:D}(h:(fX n)[i]?=some d):d=.int (i:Int)/\i<n:=by
 unfold fX at h;rw[QJ] at h;obtain⟨m,em,rfl⟩:=bh h;obtain⟨hm,em⟩:=QH.mp em;rw[List.getElem_range] at em;subst em;exact⟨rfl,by simpa using hm⟩
@[simp] theorem rngD_len (n:Nat):(fX n).length=n:=by simp[fX]
theorem j7{f:Ev->Option D}{ε:Ev}{j:Int}(h:f ε=some (.int j))(h1:0<=j)(h2:j<1000000):iG f ε=some (fX j.toNat):=by
 unfold iG;rw[h];show(if j<1000000/\-1000000<j then some (fX j.toNat) else none)=_;rw[if_pos KM]
theorem zk{f g:Ev->Option Bool}{ε:Ev}{a b:Bool}(h1:f ε=some a)(h2:g ε=some b):cI f g ε=some (a&&b):=by
 unfold cI;rw[h1];cases a
 ·rfl
 ·exact h2
theorem kU{α:Type}(xs:List α)(j:Int)(h0:0<=j)(h1:j<xs.length):∃x∈xs,atI xs j=some x:=by
 have hj:j.toNat<xs.length:=by lia
 refine⟨xs[j.toNat],List.getElem_mem hj,?_⟩;unfold atI ixN;rw[if_pos h0,if_pos h1];simp[hj]
theorem tR{i:Nat}{f:Ev->Option D}{ε:Ev}{d:D}{ds:List D}(h:f ε=some d)(hi:ε[i]?=some (.own ds))(hl:ds.length<1000000):l_ i f ε=some (.nx (ε.set i (.own (ds++[d])))):=by
 unfold l_;rw[h];show(match ε[i]? with | some (.own ds)=>_ | _=>none)=_;rw[hi];show(if ds.length<1000000 then _ else none)=_;rw[if_pos hl]
theorem oy(f:Nat->Int)(m a n:Nat)(h:a+n<=m):Dn.kI (iL (bX f m)) (some (a:Int)) (some ((a+n:Nat):Int))=iL (bX (λj=>f (a+j)) n):=by
 rw[Cf _ _ _ (by simp[iL,bX];lia)];unfold iL bX;rw[show a+n-a=n by lia,<-List.map_drop,<-Vl,<-List.map_drop,<-Vl];congr 1;apply KD;intro i;rw[QJ,QJ]
 by_cases hi:i<n
 ·rw[List.getElem?_take,if_pos hi,List.getElem?_drop]
  simp[Vq,hi,show a+i<m by lia]
 ·rw[List.getElem?_take,if_neg hi]
  simp[Vq,hi]
noncomputable abbrev t6(a0 a1 a2 a3 a4 a5:Int):D:=.tup [.int a0,.int a1,.int a2,.int a3,.int a4,.int a5]
structure Stt where
 (x y z s p:Int)
noncomputable def stD(q:Stt):D:=.tup [.int q.x,.int q.y,.int q.z,.int q.s,.int q.p]
theorem bg{op:D->D->Option D}{fa fb:Ev->Option D}{ε:Ev}{x y z:D}(h1:fa ε=some x)(h2:fb ε=some y)(h3:op x y=some z):e2 op fa fb ε=some z:=(sZ h1 h2).trans h3
theorem aX{f:Ev->Option D}{g:Ev->Option (List D)}{ε:Ev}{x:D}{xs:List D}(h1:f ε=some x)(h2:g ε=some xs):aa f g ε=some (x::xs):=by unfold aa;rw[h1,h2];rfl
theorem dO{g:Ev->Option (List D)}{ε:Ev}{ds:List D}(h1:g ε=some ds)(h2:ds.length<=1000):cA g ε=some (.tup ds):=by unfold cA;rw[h1];show(if ds.length<=1000 then some (D.tup ds) else none)=_;rw[if_pos h2]
theorem uB{op:D->Option D}{fa:Ev->Option D}{ε:Ev}{x z:D}(h1:fa ε=some x)(h2:op x=some z):aY op fa ε=some z:=by unfold aY;rw[h1];exact h2
theorem kM{F:List D->Option D}{g:Ev->Option (List D)}{ε:Ev}{ds:List D}{d:D}(h1:g ε=some ds)(h2:F ds=some d):aL F g ε=some d:=by unfold aL;rw[h1];exact h2
theorem kg{op:D->D->Option D}{fa fb:Ev->Option D}{ε:Ev}{x y:D}{b:Bool}(h1:fa ε=some x)(h2:fb ε=some y)(h3:op x y=some (.bl b)):aG op fa fb ε=some b:=by unfold aG;rw[bg h1 h2 h3];rfl
theorem tV{F:List D->Option D}{g:Ev->Option (List D)}{ε:Ev}{b:Bool}(h:aL F g ε=some (.bl b)):cZ (aL F g) ε=some b:=by unfold cZ;rw[h];rfl
theorem yP{α:Type}{g:D->Ev->Option Ev}{ft:Ev->Option Bool}{fe:Ev->Option D}(P:Ev->Prop)(enc:α->D)(p:α->Bool)(h:α->D):∀(xs:List α),(∀x∈xs,∀ε,P ε->∃ε1,g (enc x) ε=some ε1/\P ε1/\ft ε1=some (p x)/\(p x=true->fe ε1=some (h x)))->
  ∀ε,P ε->lcD g ft fe (xs.map enc) ε=some ((xs.filter p).map h)
 |[],_,ε,_=>rfl
 |x::xs,st,ε,hp=>by
  obtain⟨ε1,e1,p1,e2,e3⟩:=st x (QD ..) ε hp;have ih:=yP P enc p h xs (λy hy=>st y (Qv _ hy)) ε1 p1;show(g (enc x) ε).bind _=_;rw[e1];show(ft ε1).bind _=_;rw[e2];show(if p x=true then _ else _)=_;cases hx:p x with
  |true=>
   rw[if_pos rfl,e3 hx];show(lcD g ft fe (xs.map enc) ε1).bind _=_;rw[ih,List.filter_cons_of_pos (by simpa using hx)];rfl
  |false=>
   rw[if_neg Qp,ih,List.filter_cons_of_neg (by simp[hx])]
theorem oj{α:Type}{g:D->Ev->Option Ev}{fe:Ev->Option D}(P:Ev->Prop)(enc:α->D)(h:α->D)(xs:List α)(st:∀x∈xs,∀ε,P ε->∃ε1,g (enc x) ε=some ε1/\P ε1/\fe ε1=some (h x))(ε:Ev)(hp:P ε) :
  lcD g ig fe (xs.map enc) ε=some (xs.map h):=by
 rw[yP (ft:=ig) P enc (λ_=>true) h xs (λx hx ε hp=>let⟨ε1,a,b,c⟩:=st x hx ε hp;⟨ε1,a,b,rfl,λ_=>c⟩) ε hp,List.filter_eq_self.mpr λ_ _=>rfl]
theorem zi{α:Type}(l:List α):l=[]\/∃r a,l=r++[a]:=by
 cases h:l.reverse with
 |nil=>exact .inl (by simpa using h)
 |cons a r=>exact .inr ⟨r.reverse,a,by rw[<-List.reverse_reverse l,h,List.reverse_cons]⟩
theorem CJ{F:List D->Option (List D)}{g:Ev->Option (List D)}{ε:Ev}{ds rs:List D}(h1:g ε=some ds)(h2:F ds=some rs):pj F g ε=some rs:=by unfold pj;rw[h1];exact h2
theorem uN{i:Nat}{f:Ev->Option (List D)}{ε:Ev}{ds:List D}(h:f ε=some ds):nF i f ε=some (.nx (ε.set i (.own ds))):=by unfold nF;rw[h];rfl
theorem rm{fi:Ev->Option (List D)}{n:Nat}{ix:List Nat}{g:D->Ev->Option Ev}{ft:Ev->Option Bool}{fe:Ev->Option D}{ε:Ev}{ds rs:List D}(h:fi ε=some ds)(hl:ds.length<1000000)(h2:lcD g ft fe ds (prE n ix ε)=some rs):eLC fi n ix g ft fe ε=some rs:=(rA h hl).trans h2
theorem Ct{n:Nat}(l:List Int)(h:l.length<1000000):OkS (n+2) (.lst (iL l)):=⟨by simpa using h,λd hd=>by
 obtain⟨i,_,rfl⟩:=ZF.mp hd
 exact trivial⟩
end Dn
namespace RW2
open PySem PyProof.Rows PySem.W L2
theorem FZ:entryFor table "dict.update.loop" = some Builtin.«dict.update.loop»:=entryFor_of_tree (by kernel_rfl)
theorem yW:plainId "dict.update.loop" = true:=by decide +kernel
noncomputable abbrev Tk(prog:Qr)(w:Qx):=tupleKind (cK prog w)
noncomputable abbrev PsL:=List (List L2.Key×Addr×Qa)
noncomputable def gU(ps:PsL):PsL:=ps.foldl (λxs p=>storedH xs p.1 p.2.1 p.2.2) []
theorem ly(ps:PsL)(p:List L2.Key×Addr×Qa):gU (ps++[p])=storedH (gU ps) p.1 p.2.1 p.2.2:=by unfold gU;rw[List.foldl_append];rfl
theorem xX{xs:PsL}{k:List L2.Key}{a:Addr}{v:Qa}{x:List L2.Key×Addr×Qa}(h:x∈storedH xs k a v):(∃y∈xs,x.1=y.1/\x.2.1=y.2.1)\/(x.1=k/\x.2.1=a):=by
 unfold storedH at h;split at h
 ·obtain⟨y0,hy,rfl⟩:=ZF.mp h
  refine .inl ⟨y0,hy,?_⟩;unfold putAt;split<;>exact⟨rfl,rfl⟩
 ·rcases Q2.mp h with h5 | h5
  ·exact .inl ⟨x,h5,rfl,rfl⟩
  ·rw[QL.mp h5];exact .inr ⟨rfl,rfl⟩
theorem qL:∀(n:Nat) (ps:PsL),ps.length=n->∀x∈gU ps,∃p∈ps,x.1=p.1/\x.2.1=p.2.1
 |0,ps,hn,x,h=>by
  have:ps=[]:=List.eq_nil_of_length_eq_zero hn;subst this;cases h
 |n+1,ps,hn,x,h=>by
  rcases Dn.zi ps with rfl | ⟨r,p,rfl⟩
  ·cases h
  ·rw[ly] at h
   rcases xX h with⟨y,hy,e1,e2⟩ | ⟨e1,e2⟩
   ·obtain⟨q,hq,f1,f2⟩:=qL n r (by simpa using hn) y hy
    exact⟨q,Zs _ hq,e1.trans f1,e2.trans f2⟩
   ·exact⟨p,by simp,e1,e2⟩
theorem xY(xs:PsL)(k:List L2.Key)(a:Addr)(v:Qa):(storedH xs k a v).length<=xs.length+1:=by
 unfold storedH;split<;>simp
theorem qP:∀(n:Nat) (ps:PsL),ps.length=n->(gU ps).length<=n
 |0,ps,hn=>by
  have:ps=[]:=List.eq_nil_of_length_eq_zero hn;subst this;exact Qm _
 |n+1,ps,hn=>by
  rcases Dn.zi ps with rfl | ⟨r,p,rfl⟩
  ·simp at hn
  ·rw[ly]
   have:=qP n r (by simpa using hn);have:=xY (gU r) p.1 p.2.1 p.2.2
   lia
section
variable{prog:Qr}{w:Qx}{A:QB}{E:Qa->Qd->Prop}{s:Qd}
theorem CU{h g:Heap}{k:List L2.Key}{a:Addr}(x:(Tk prog w).is h k a)(kp:Dn.Kp h g):(Tk prog w).is g k a:=let⟨o,its,n,e,r⟩:=x;⟨o,its,n,kp _ _ e,r⟩
theorem r_{h g:Heap}{d:Addr}{xs:PsL}(x:h.DictOfH (Tk prog w) d xs)(same:∀o,h.get? d=some o->g.get? d=some o)(ks:∀y∈xs,(Tk prog w).is g y.1 y.2.1):g.DictOfH (Tk prog w) d xs:=
 let⟨o,es,ep,e,c,dd,el,_,nd⟩:=x;⟨o,es,ep,same o e,c,dd,el,ks,nd⟩
theorem CA{R:Result->Qd->Prop}{It d:Addr}{h0:Heap}{ps:PsL}{fp wr:List Addr}{Pv:Nat->Qa->Prop}{St:Nat->Heap->Prop}(W:Walks prog w A.in1 It fp wr ps.length Pv St)(dn:d∉fp)(hu:A.units+1<cLine)
  (hp:∀i v,Pv i v->∃(a:Addr) (p:List L2.Key×Addr×Qa),v=.ref a/\ps[i]?=some p/\IsTup h0 a #[.ref p.2.1,p.2.2]) (hk:∀p∈ps,(Tk prog w).is h0 p.1 p.2.1) (d0:h0.get? d=none) (w0:∀b∈wr,h0.get? b=none) (hz:ps.length<Qk) :
  ∀(k i:Nat) (t:Qd) (tok:Tok),i+k=ps.length->St i t.heap->Dn.Kp h0 t.heap->t.heap.DictOfH (Tk prog w) d (gU (ps.take i))->
   (∀g tk,Dn.Kp h0 g->g.DictOfH (Tk prog w) d (gU ps)->R (.ok (.ret .none)) { t with heap:=g,toks:=tk })->Ku (Qj prog w) A (.builtin "dict.update.loop" ⟨[.ref d,.ref It,.int i tok,.none],[]⟩) R t:=by
 have dw:d∉wr:=λz=>dn (W.sub _ z);have step:∀{t:Qd} {g:Heap},Dn.Kp h0 t.heap->(∀b o,b∉wr->t.heap.get? b=some o->g.get? b=some o)->Dn.Kp h0 g:=λ{t g} kp kept b o e=>kept b o (λz=>by rw[w0 b z] at e;cases e) (kp b o e)
 have keys:∀{g:Heap} (i:Nat),Dn.Kp h0 g->∀y∈gU (ps.take i),(Tk prog w).is g y.1 y.2.1:=λ{g} i kp y hy=>by
  obtain⟨p,hp',e1,e2⟩:=qL _ _ rfl y hy;rw[e1,e2];exact CU (hk p (List.mem_of_mem_take hp')) kp
 intro k
 induction k with
 |zero=>
  intro i t tok ei st kp hd want;refine Vt FZ ?_;rw[KL yW _];show Qf _ A.in1 (pyNext (.ref It)>>=λ_=>_) _ _ t;have ei':i=ps.length:=by lia
  subst ei';refine Qb (W.done t _ _ st λg tk kept=>?_);show Qf _ _ (Builtin.Dict.addKeywords d []>>=λ_=>ret .none) _ _ _;refine Qb (Qh (Qh (want g tk (step kp kept) ?_)));rw[List.take_length] at hd;have ks:=keys (g:=g) ps.length (step kp kept);rw[List.take_length] at ks;exact r_ hd (λo e=>kept d o dw e) ks
 |succ k ih=>
  intro i t tok ei st kp hd want;refine Vt FZ ?_;rw[KL yW _];show Qf _ A.in1 (pyNext (.ref It)>>=λ_=>_) _ _ t;have lt:i<ps.length:=by lia
  refine Qb (W.item i t _ _ lt st λv g tk hpv st1 kept=>?_);obtain⟨a,p,rfl,hpi,tu⟩:=hp i v hpv;have kp1:=step kp kept;have hd1:g.DictOfH (Tk prog w) d (gU (ps.take i)):=r_ hd (λo e=>kept d o dw e) (keys i kp1);obtain⟨o,o1,o2,n,o3⟩:=tu;have ty:({ t with heap:=g,toks:=tk }:Qd).TypeIs (.ref a) "tuple":=⟨o,kp1 _ _ o1,o2⟩;dsimp only;refine Qb (QX (Qb (Vd ?_)));unfold Builtin.Dict.pairItems;refine Qb (wpAny_typeOf ty ?_);rw[if_pos KE];refine Qb (Zo (kp1 _ _ o1) o3 (Qh ?_));show Qf _ _ (ZO [Qn p.2.1,p.2.2] (dictSet d (.ref p.2.1) p.2.2)) _ _ _
  have hz1:(gU (ps.take i)).length<=Qk:=by
   have:=qP _ (ps.take i) rfl;rw[KU] at this
   lia
  refine QX (wpAny_dictSet_heap (knd:=Tk prog w) (hsz:=hz1) (show A.in1.units<cLine from hu) (CU (hk p (Z0 hpi)) kp1) hd1 λg2 hd2 same=>?_);have kp2:Dn.Kp h0 g2:=λb o e=>(same.2 b (λz=>by rw[z,d0] at e;cases e)).trans (kp1 b o e);refine Qh ⟨Vj yW _,ih (i+1) _ _ KM (W.frame _ _ _ st1 λb q o e=>(same.2 b (λz=>dn (by rw[<-z];exact q))).trans e) kp2 ?_ λg3 tk3 kp3 hd3=>want g3 tk3 kp3 hd3⟩;rw[List.take_add_one,hpi];show g2.DictOfH (Tk prog w) d (gU (ps.take i++[p]));rw[ly];exact hd2
theorem EJ{l:Addr}{its:List Qa}{ps:PsL}{Q:Qa->Qd->Prop}(x:PlainL s.heap l its.toArray)(hA:A.handled=none)(hu:A.units+2<cLine)(len:its.length=ps.length)(hz:ps.length<Qk)
  (hp:∀(i:Nat) v,its[i]?=some v->∃(a:Addr) (p:List L2.Key×Addr×Qa),v=.ref a/\ps[i]?=some p/\IsTup s.heap a #[.ref p.2.1,p.2.2]) (hk:∀p∈ps,(Tk prog w).is s.heap p.1 p.2.1)
  (h:∀g tk,Dn.Kp s.heap g->g.DictOfH (Tk prog w) s.heap.objs.size (gU ps)->Q (.ref s.heap.objs.size) { s with heap:=g,toks:=tk }):Qf (Qj prog w) A (call (.type "dict") [.ref l]) Q E s:=by
 refine callType_codes (Q₁:=λob s₁=>ob=.ref s.heap.objs.size/\s₁={ s with heap:=s.heap.push { cls:=.type "dict",data:=.dict #[] } }) PySem.F.kt_called_dict (PySem.F.kt_typeCall_dict_1 _) PySem.F.entry_dict_init (kt_code_dict_new _ ⟨rfl,rfl⟩) ?_;rintro ob s₁ ⟨rfl,rfl⟩;have new0:(s.heap.push { cls:=.type "dict",data:=.dict #[] }).DictOfH (Tk prog w) s.heap.objs.size []:=⟨_,#[],_,Qq _ rfl,⟨rfl,rfl,rfl⟩,rfl,rfl,(λy hy=>nomatch hy),List.nodup_nil⟩;have kp0:Dn.Kp s.heap (s.heap.push { cls:=.type "dict",data:=.dict #[] }):=λb o e=>Qe _ e;have ty:({ s with heap:=s.heap.push { cls:=.type "dict",data:=.dict #[] } }:Qd).TypeIs (.ref s.heap.objs.size) "dict":=⟨_,Qq _ rfl,rfl⟩;refine⟨ty,PySem.F.args_dict_init_2 _ _,?_⟩;unfold Builtin.«dict.__init__» Builtin.Dict.selfAndRest;refine Qb (Qb (wpAny_notOrdered_dict ty ?_));show Qf _ _ (pure (s.heap.objs.size,[Qn l])) (λ_ _=>_) _ _;refine Qh ?_;show Qf _ _ (K2 "dict.__init__" s.heap.objs.size (.ref l) [] .none) (λ_ _=>_) _ _;unfold K2;have xl:=x.keeps (h':=s.heap.push { cls:=.type "dict",data:=.dict #[] }) kp0;refine Qb (wpAny_typeOf (T:="list") (let⟨o,ho,hc,_⟩:=xl.isList;⟨o,ho,hc⟩) ?_);rw[if_pos KE];refine Qb (Aj (s:={ s with heap:=s.heap.push { cls:=.type "dict",data:=.dict #[] } }) xl (show A.in1.in1.handled=none from hA) λh1 tk1 kp1=>?_);rw[if_pos (show(none:Option Qa).isNone=true from rfl)];refine Qb (wpAny_rule ?_);have x1:PlainL h1 l its.toArray:=xl.keeps kp1;have lt1:l<h1.objs.size:=x1.lt;have kp01:Dn.Kp s.heap h1:=λb o e=>kp1 b o (kp0 b o e);have dl:s.heap.objs.size<h1.objs.size:=Qo (kp1 _ _ (Qq _ rfl));refine Qb (wpAny_pyIter_list (s:={ s with heap:=h1,toks:=tk1 }) x1.isList (Qh ⟨Vj yW _,?_⟩));have W:=Walks.list (prog:=prog) (w:=w) (A:=A.in1.in1) (show A.in1.in1.handled=none from hA) h1.objs.size l (QC lt1) its.toArray;have sz:its.toArray.size=ps.length:=by simp[len]
 rw[sz] at W;have lts:l<s.heap.objs.size:=x.lt;refine CA (A:=A.in1) (h0:=s.heap) (ps:=ps) W ?_ (show A.units+1+1<cLine by lia) (λi v hv=>hp i v (by simpa using hv)) hk (KG (Qm _)) (λb hb=>?_) hz ps.length 0 _ _ (Nat.zero_add _) ?_ ?_ ?_ λg tk kp hd=>⟨rfl,h g tk kp hd⟩
 ·simp only[Ql,Qw,or_false,not_or]
  exact⟨QC dl,Nat.ne_of_gt lts⟩
 ·rw[QL.mp hb];exact KG (Nat.le_of_lt dl)
 ·exact⟨⟨_,Qq _ rfl,rfl,rfl⟩,x1.isList.push _⟩
 ·exact λb o e=>Qe _ (kp01 b o e)
 ·exact r_ new0 (λo e=>Qe _ (kp1 _ _ e)) λy hy=>by cases hy
end
open PySem.Spec
section
variable{prog:Qr}{w:Qx}{A:QB}{E:Qa->Qd->Prop}{s:Qd}
theorem yL{Kt:Type}[DecidableEq Kt]{knd:KeyKind prog w Kt}{a:Addr}{more:List (Kt×Qa)}{Q:Qa->Qd->Prop}(ha:s.heap.DictOf knd a more)(hs:(a==ZV)=false)(hz:more.length<=Qk)
  (h:∀g,Dn.Kp s.heap g->g.DictOf knd s.heap.objs.size more->Q (.ref s.heap.objs.size) { s with heap:=g }):Qf (Qj prog w) A (call (.type "dict") [.ref a]) Q E s:=by
 refine callType_codes (Q₁:=λob s₁=>ob=.ref s.heap.objs.size/\s₁={ s with heap:=s.heap.push { cls:=.type "dict",data:=.dict #[] } }) PySem.F.kt_called_dict (PySem.F.kt_typeCall_dict_1 _) PySem.F.entry_dict_init (kt_code_dict_new _ ⟨rfl,rfl⟩) ?_;rintro ob s₁ ⟨rfl,rfl⟩;have new0:(s.heap.push { cls:=.type "dict",data:=.dict #[] }).DictOf knd s.heap.objs.size []:=⟨_,#[],_,Qq _ rfl,⟨rfl,rfl,rfl⟩,rfl,(λe he=>nomatch he),.nil,List.nodup_nil⟩;have lt:a<s.heap.objs.size:=let⟨_,_,_,e,_⟩:=id ha;Qo e;have ha1:=ha.push { cls:=.type "dict",data:=.dict #[] };have ty:=Heap.DictOf.typeIs (s:={ s with heap:=s.heap.push { cls:=.type "dict",data:=.dict #[] } }) new0;have tya:=Heap.DictOf.typeIs (s:={ s with heap:=s.heap.push { cls:=.type "dict",data:=.dict #[] } }) ha1;refine⟨ty,PySem.F.args_dict_init_2 _ _,?_⟩;unfold Builtin.«dict.__init__» Builtin.Dict.selfAndRest;refine Qb (Qb (wpAny_notOrdered_dict ty ?_));show Qf _ _ (pure (s.heap.objs.size,[Qn a])) (λ_ _=>_) _ _;refine Qh ?_;show Qf _ _ (K2 "dict.__init__" s.heap.objs.size (.ref a) [] .none) (λ_ _=>_) _ _;unfold K2 Builtin.Dict.merge Builtin.Dict.readDirectly;refine Qb (wpAny_typeOf tya ?_);rw[if_neg KE];refine Qb (Qb (Qb (wpAny_isInstance tya isSubtype_dict_dict ?_)));rw[if_neg KE];refine Qb (wpAny_specialOf tya PySem.F.slot_dict_iter.lookup (Qh ?_));rw[if_pos (beq_self_eq_true _)];refine Qb (Qh (wpAny_mergeDict (hsz:=by simpa using hz) (Nat.ne_of_gt lt) hs new0 ha1 λg d1 _ d3=>?_));have nd:(more.map (·.1)).Nodup:=let⟨_,_,_,_,_,_,_,_,n⟩:=ha;n;rw[merged_nil_of_nodup more nd] at d1;show Qf (Qj prog w) _ (Builtin.Dict.addKeywords s.heap.objs.size []>>=_) _ _ _;refine Qb (Qh (Qh ⟨rfl,h g (λb o e=>?_) d1⟩));exact(d3.2 b (QC (Qo e))).trans (Qe _ e)
end
end RW2
namespace L2
open PySem PySem.Spec PyProof.Rows
theorem qx{X:Cx}:iW X (.type "dict") (λxs H Q=>∃p kvs,xs=[.ref p]/\Rd H p (.dK kvs)/\∀l,H l=none->Q (.ref l) (upd H l (.dK kvs))):=by
 rintro pins s σ H xs us Q I r ⟨p,kvs,rfl,rd,q⟩;obtain⟨u,rfl,rx⟩:=pV r;cases rx;obtain⟨hz,hs,vs,rel,dd⟩:=zw I.hok rd;refine RW2.yL dd hs (by rw[<-rel.length];exact hz) λg kp d=>?_;exact⟨.ref s.heap.objs.size,_,I.laid (t':=s.toks) (λb o e=>kp b o e) (Qm _) (xS hz (beq_eq_false_iff_ne.mpr (Ne.symm (QC I.big))) rel d),rfl,q _ (I.hok.fresh (Qm _))⟩
end L2
namespace Dn
open PySem PySem.Spec PyProof.Rows L2
structure Hl where
 (x y t:Int)
noncomputable def hD(h:Hl):D:=.tup [.int h.x,.int h.y,.int h.t]
noncomputable abbrev hL(hs:List Hl):List D:=hs.map hD
structure Wd where
 (h z dx dy:Int)
noncomputable def wD(q:Wd):D:=.tup [.int q.h,.int q.z,.int q.dx,.int q.dy]
noncomputable abbrev wL(ws:List Wd):List D:=ws.map wD
structure Sh where
 (a b c d e f t u:Int)
noncomputable def shD(q:Sh):D:=.tup [.int q.a,.int q.b,.int q.c,.int q.d,.int q.e,.int q.f,.int q.t,.int q.u]
noncomputable abbrev shL(l:List Sh):List D:=l.map shD
theorem zB(f:Nat->Int)(m j:Nat)(h:j<m):ixD (.lst (iL (bX f m))) (.int (j:Int))=some (.int (f j)):=
 ET (by unfold iL bX;rw[QJ,QJ,Vq h];rfl)
section
variable(f:Nat->Int)(b0 b1 hour:Int)
theorem uF:∀l:List Int,oY (iL l)=some (l.map V.int)
 |[]=>rfl
 |i::l=>by show(oY (iL l)).bind _=_;rw[uF l];rfl
end
end Dn
namespace HG
open PySem PyProof.Rows
section
open PySem.SeqAt
open PySem.AutoSeq1 (wpAny_loadPart')
open PySem.MeetsSeq PySem.MeetsSeq2 PySem.MeetsSeq3
end
end HG
namespace Dn
open PySem PySem.Spec PyProof.Rows L2
end Dn
namespace Fl
open PySem PySem.Spec PyProof.Rows L2 Dn
noncomputable abbrev jG:List Str:=["_law_hills","_law_x","_law_y"]
noncomputable abbrev dF:List Str:=["_law_hills","_law_x","_law_y"]
noncomputable def fv:Ev->Option Fl:=(bo (aL ze (aa (eF (r8 (eF (iI (aa Vw aF))) (eF (eLC (gW (aj 0)) 3 [1,2] (eZ 3 (aD (ao 0) (aD (ao 1) (aD (ao 2) bM)))) (cI (aG cH (ah 0) (ah 3)) (aG cH (ah 1) (ah 4))) (aj 2))))) aF)))
noncomputable def dH:List D->Option D:=fnD jG dF fv
noncomputable abbrev o9:List Str:=["_law_box_here","_law_x","_law_y","_law_z"]
noncomputable abbrev iK:List Str:=["_law_box_here","_law_x","_law_y","_law_z"]
noncomputable def l8:Ev->Option Fl:=(bo (i_ (e2 leI (e2 ixD (ah 0) Vw) (ah 1)) (i_ (e2 leI (ah 1) (e2 ixD (ah 0) (eC (.int 2)))) (i_ (e2 leI (e2 ixD (ah 0) Vy) (ah 2)) (i_ (e2 leI (ah 2) (e2 ixD (ah 0) (eC (.int 3)))) (i_ (e2 leI (e2 ixD (ah 0) (eC (.int 4))) (ah 3)) (e2 leI (ah 3) (e2 ixD (ah 0) (eC (.int 5))))))))))
noncomputable def iM:List D->Option D:=fnD o9 iK l8
noncomputable abbrev ll:List Str:=["_law_shuts","_law_hour","_law_x","_law_y","_law_z"]
noncomputable abbrev gf:List Str:=["_law_shuts","_law_hour","_law_x","_law_y","_law_z"]
noncomputable def jj:Ev->Option Fl:=(bo (e2 (inD false) (eC (.bl true)) (eF (eLC (gW (aj 0)) 1 [2,3,4,1] (ao 0) (cI (aG leI (e2 ixD (ah 0) (eC (.int 6))) (ah 4)) (aG leI (ah 4) (e2 ixD (ah 0) (eC (.int 7))))) (aL iM (aa (mY (ah 0) dC (bf (eC (.int 6)))) (aa (aj 1) (aa (aj 2) (aa (aj 3) aF)))))))))
noncomputable def gc:List D->Option D:=fnD ll gf jj
noncomputable abbrev km:List Str:=["_law_sky_here","_law_hour","_law_state_here"]
noncomputable abbrev eU:List Str:=["_law_sky_here","_law_hour","_law_state_here"]
noncomputable def iE:Ev->Option Fl:=(aQ (sIf (aG ltI (e2 ixD (ah 2) (eC (.int 2))) (aL dH (aa (e2 ixD (ah 0) Vw) (aa (e2 ixD (ah 2) Vw) (aa (e2 ixD (ah 2) Vy) aF))))) (bo (eC (.str "hill"))) bj) (aQ (sIf (cZ (aL gc (aa (e2 ixD (ah 0) (eC (.int 3))) (aa (aj 1) (aa (e2 ixD (ah 2) Vw) (aa (e2 ixD (ah 2) Vy) (aa (e2 ixD (ah 2) (eC (.int 2))) aF))))))) (bo (eC (.str "shut"))) bj) (bo (eC (.str "")))))
noncomputable def cP:List D->Option D:=fnD km eU iE
noncomputable abbrev lI:List Str:=["hills","x","y","tops"]
noncomputable abbrev fZ:List Str:=["hills","x","y"]
noncomputable def ie:Ev->Option Fl:=(aQ (bW 3 (eF (eLC (gW (aj 0)) 3 [1,2] (eZ 3 (aD (ao 0) (aD (ao 1) (aD (ao 2) bM)))) (cI (aG cH (ah 0) (ah 3)) (aG cH (ah 1) (ah 4))) (aj 2)))) (bo (e2 sX (aj 3) Vw)))
noncomputable def f_:List D->Option D:=fnD lI fZ ie
noncomputable abbrev sj:List Str:=["box","x","y","height","x1","y1","x2","y2","low","high"]
noncomputable abbrev jV:List Str:=["box","x","y","height"]
noncomputable def nX:Ev->Option Fl:=(aQ (mV (aj 0) (ja 6 (aD (ao 4) (aD (ao 5) (aD (ao 6) (aD (ao 7) (aD (ao 8) (aD (ao 9) bM)))))))) (bo (i_ (eCh leI leI (ah 4) (ah 1) (ah 6)) (i_ (eCh leI leI (ah 5) (ah 2) (ah 7)) (eCh leI leI (ah 8) (ah 3) (ah 9))))))
noncomputable def jP:List D->Option D:=fnD sj jV nX
noncomputable abbrev oX:List Str:=["shuts","hour","x","y","height","shut"]
noncomputable abbrev iN:List Str:=["shuts","hour","x","y","height"]
noncomputable def cn:Ev->Option Fl:=(sIf (cI (gw leI leI (e2 ixD (ah 5) (eC (.int 6))) (ah 1) (e2 ixD (ah 5) (eC (.int 7)))) (cZ (aL jP (aa (mY (ah 5) dC (bf (eC (.int 6)))) (aa (aj 2) (aa (aj 3) (aa (aj 4) aF))))))) (bo (eC (.bl true))) bj)
noncomputable def lZ:Ev->Option Fl:=(aQ (iX (gW (aj 0)) (ao 5) (cn)) (bo (eC (.bl false))))
noncomputable def iO:List D->Option D:=fnD oX iN lZ
noncomputable abbrev il:List Str:=["sky","hour","state","hills","cool","winds","shuts","x","y","height","sacks","puffs"]
noncomputable abbrev cJ:List Str:=["sky","hour","state"]
noncomputable def fM:Ev->Option Fl:=(aQ (mV (aj 0) (ja 4 (aD (ao 3) (aD (ao 4) (aD (ao 5) (aD (ao 6) bM)))))) (aQ (mV (aj 2) (ja 5 (aD (ao 7) (aD (ao 8) (aD (ao 9) (aD (ao 10) (aD (ao 11) bM))))))) (aQ (sIf (aG ltI (ah 9) (aL f_ (aa (aj 3) (aa (aj 7) (aa (aj 8) aF))))) (bo (eC (.str "hill"))) bj) (aQ (sIf (cZ (aL iO (aa (aj 6) (aa (aj 1) (aa (aj 7) (aa (aj 8) (aa (aj 9) aF))))))) (bo (eC (.str "shut"))) bj) (bo (eC (.str "")))))))
noncomputable def cy:List D->Option D:=fnD il cJ fM
noncomputable def cU(hs:List Hl)(x y:Int):List Int:=(hs.filter λh=>decide (h.x=x)&&decide (h.y=y)).map (·.t)
noncomputable abbrev tgH:D->Ev->Option Ev:=eZ 3 (aD (ao 0) (aD (ao 1) (aD (ao 2) bM)))
noncomputable abbrev ftH:Ev->Option Bool:=cI (aG cH (ah 0) (ah 3)) (aG cH (ah 1) (ah 4))
theorem IM(h:Hl)(x y:Int):ftH [.dat (.int h.x),.dat (.int h.y),.dat (.int h.t),.dat (.int x),.dat (.int y)]=some (decide (h.x=x)&&decide (h.y=y)):=by
 have u1:aG cH (ah 0) (ah 3) [.dat (.int h.x),.dat (.int h.y),.dat (.int h.t),.dat (.int x),.dat (.int y)]=some (decide (h.x=x)):=rfl;have u2:aG cH (ah 1) (ah 4) [.dat (.int h.x),.dat (.int h.y),.dat (.int h.t),.dat (.int x),.dat (.int y)]=some (decide (h.y=y)):=rfl;unfold ftH cI;rw[u1,u2];cases decide (h.x=x)<;>rfl
theorem CY(x y:Int):∀(hs:List Hl) (s0 s1 s2:Sl),lcD tgH ftH (aj 2) (hL hs) [s0,s1,s2,.dat (.int x),.dat (.int y)]=some (iL (cU hs x y))
 |[],_,_,_=>rfl
 |h::hs,s0,s1,s2=>by
  show((ftH [.dat (.int h.x),.dat (.int h.y),.dat (.int h.t),.dat (.int x),.dat (.int y)]).bind λk=>if k=true then(some (D.int h.t)).bind λv=>(lcD tgH ftH (aj 2) (hL hs) [.dat (.int h.x),.dat (.int h.y),.dat (.int h.t),.dat (.int x),.dat (.int y)]).bind λr=>some (v::r) else lcD tgH ftH (aj 2) (hL hs) [.dat (.int h.x),.dat (.int h.y),.dat (.int h.t),.dat (.int x),.dat (.int y)])=_;rw[IM,CY x y hs];unfold cU;rw[List.filter_cons];cases e:(decide (h.x=x)&&decide (h.y=y))<;>simp[iL]
noncomputable def gr(hs:List Hl)(x y:Int):Int:=match cU hs x y with | []=>0 | m::r=>mxI m r
theorem AR(hs:List Hl)(hz:hs.length<1000000)(x y:Int):f_ [.lst (hL hs),.int x,.int y]=some (.int (gr hs x y)):=by
 refine b9 rfl ?_;show ie [.dat (.lst (hL hs)),.dat (.int x),.dat (.int y),.un]=_;unfold ie
 have c:eF (eLC (gW (aj 0)) 3 [1,2] tgH ftH (aj 2)) [.dat (.lst (hL hs)),.dat (.int x),.dat (.int y),.un]=some (.lst (iL (cU hs x y))):=by
  refine jc ?_;rw[rA (ds:=hL hs) rfl (by simpa[hL] using hz)];exact CY x y hs _ _ _
 rw[ax (dR c)];show bo (e2 sX (aj 3) Vw) [.dat (.lst (hL hs)),.dat (.int x),.dat (.int y),.dat (.lst (iL (cU hs x y)))]=_;refine fF ?_;show sX (.lst (iL (cU hs x y))) (.int 0)=_;show(match gY (iL (cU hs x y)) with | some []=>some (D.int 0) | some (m::r)=>some (D.int (mxI m r)) | none=>none)=_;unfold gr;rw[show gY (iL (cU hs x y))=some (cU hs x y) from tM _];cases cU hs x y<;>rfl
theorem BH{hs:List Hl}{x y:Int}(ok:∀h∈hs,0<=h.t):∀v∈cU hs x y,0<=v:=λv hv=>by
 obtain⟨h,h1,rfl⟩:=ZF.mp hv;exact ok h (List.mem_filter.mp h1).1
theorem GS(hs:List Hl)(hz:hs.length<100000)(ok:∀h∈hs,0<=h.t)(x y:Int):dH [.lst (hL hs),.int x,.int y]=some (.int (gr hs x y)):=by
 refine b9 rfl ?_;show fv [.dat (.lst (hL hs)),.dat (.int x),.dat (.int y)]=_;unfold fv
 have c:eF (eLC (gW (aj 0)) 3 [1,2] tgH ftH (aj 2)) [.dat (.lst (hL hs)),.dat (.int x),.dat (.int y)]=some (.lst (iL (cU hs x y))):=by
  refine jc ?_;rw[rA (ds:=hL hs) rfl (by simp[hL];lia)];exact CY x y hs _ _ _
 have tl:(cU hs x y).length<=hs.length:=by unfold cU;rw[Qt];exact List.length_filter_le _ _
 have c2:eF (r8 (eF (iI (aa Vw aF))) (eF (eLC (gW (aj 0)) 3 [1,2] tgH ftH (aj 2)))) [.dat (.lst (hL hs)),.dat (.int x),.dat (.int y)]=some (.lst (iL (0::cU hs x y))):=by
  refine jc ?_;unfold r8;rw[c];show(if 1+(iL (cU hs x y)).length<=1000000 then some ([D.int 0]++iL (cU hs x y)) else none)=_;rw[if_pos (by simp[iL];lia)];rfl
 refine fF ?_;rw[nC c2];show(match gY (iL (0::cU hs x y)) with | some (m::r)=>some (D.int (mxI m r)) | _=>none)=_;rw[show gY (iL (0::cU hs x y))=some (0::cU hs x y) from tM _];have tm:=BH (x:=x) (y:=y) ok;unfold gr
 revert tm
 cases cU hs x y with
 |nil=>intro _;rfl
 |cons m r=>
  intro tm;have h0:=tm m (by simp);show some (D.int (mxI (if m>0 then m else 0) r))=_;rw[show(if m>0 then m else 0)=m by split<;>lia]
noncomputable def in6(q:Sh)(x y z:Int):Bool:=(decide (q.a<=x)&&decide (x<=q.c))&&((decide (q.b<=y)&&decide (y<=q.d))&&(decide (q.e<=z)&&decide (z<=q.f)))
theorem AN(q:Sh)(x y z:Int):jP [t6 q.a q.b q.c q.d q.e q.f,.int x,.int y,.int z]=some (.bl (in6 q x y z)):=by
 refine b9 rfl ?_;unfold nX;refine(ax rfl).trans (fF ?_);exact hZ (rX rfl rfl rfl) (hZ (rX rfl rfl rfl) (rX rfl rfl rfl))
theorem Cz(q:Sh)(x y z:Int):iM [t6 q.a q.b q.c q.d q.e q.f,.int x,.int y,.int z]=some (.bl (in6 q x y z)):=by
 refine b9 rfl ?_;unfold l8;refine fF ?_;refine(hZ (b:=decide (x<=q.c)&&(decide (q.b<=y)&&(decide (y<=q.d)&&(decide (q.e<=z)&&decide (z<=q.f))))) (a:=decide (q.a<=x)) rfl (hZ rfl (hZ rfl (hZ rfl (hZ rfl rfl))))).trans ?_;unfold in6;rw[Bool.and_assoc,Bool.and_assoc]
noncomputable def whB(q:Sh)(h:Int):Bool:=decide (q.t<=h)&&decide (h<=q.u)
noncomputable def iU(ss:List Sh)(h x y z:Int):Bool:=ss.any λq=>whB q h&&in6 q x y z
theorem s_(L:D)(h x y z:Int):∀(ss:List Sh) (s5:Sl),(iU ss h x y z=false->∃e5,cz (ao 5) cn (shL ss) [.dat L,.dat (.int h),.dat (.int x),.dat (.int y),.dat (.int z),s5]=some (.nx [.dat L,.dat (.int h),.dat (.int x),.dat (.int y),.dat (.int z),e5]))/\
  (iU ss h x y z=true->cz (ao 5) cn (shL ss) [.dat L,.dat (.int h),.dat (.int x),.dat (.int y),.dat (.int z),s5]=some (.rt (.bl true)))
 |[],s5=>⟨λ_=>⟨s5,rfl⟩,λh=>by cases h⟩
 |q::ss,s5=>by
  have c:cI (gw leI leI (e2 ixD (ah 5) (eC (.int 6))) (ah 1) (e2 ixD (ah 5) (eC (.int 7)))) (cZ (aL jP (aa (mY (ah 5) dC (bf (eC (.int 6)))) (aa (aj 2) (aa (aj 3) (aa (aj 4) aF)))))) [.dat L,.dat (.int h),.dat (.int x),.dat (.int y),.dat (.int z),.dat (shD q)]=some (whB q h&&in6 q x y z):=by
   refine zk ?_ ?_
   ·unfold gw;rw[rX (a:=q.t) (b:=h) (c:=q.u) rfl rfl rfl];rfl
   ·exact tV (AN q x y z)
  obtain⟨k1,k2⟩:=s_ L h x y z ss (.dat (shD q));have hb:iU (q::ss) h x y z=((whB q h&&in6 q x y z) || iU ss h x y z):=rfl
  have e0:cz (ao 5) cn (shL (q::ss)) [.dat L,.dat (.int h),.dat (.int x),.dat (.int y),.dat (.int z),s5]=(cn [.dat L,.dat (.int h),.dat (.int x),.dat (.int y),.dat (.int z),.dat (shD q)]).bind λr=>match r with
   |.nx ε2=>cz (ao 5) cn (shL ss) ε2 | .ct ε2=>cz (ao 5) cn (shL ss) ε2 | .bk ε2=>some (.nx ε2) | .rt v=>some (.rt v) | .ro v=>some (.ro v) | .xc c v=>some (.xc c v):=rfl
  rw[e0];unfold cn at e0 ⊢;cases ho:(whB q h&&in6 q x y z) with
  |true=>
   rw[ho] at c hb;rw[iq c];exact⟨λh=>(by rw[hb] at h;cases h),λ_=>rfl⟩
  |false=>
   rw[ho] at c hb;rw[iS c];exact⟨λh=>k1 (by rw[hb] at h;exact h),λh=>k2 (by rw[hb] at h;exact h)⟩
theorem uY(ss:List Sh)(h x y z:Int):iO [.lst (shL ss),.int h,.int x,.int y,.int z]=some (.bl (iU ss h x y z)):=by
 refine b9 rfl ?_;unfold lZ;obtain⟨k1,k2⟩:=s_ (.lst (shL ss)) h x y z ss .un;cases hb:iU ss h x y z with
 |false=>
  obtain⟨e5,e⟩:=k1 hb;exact(ax ((cq (ds:=shL ss) rfl).trans e)).trans rfl
 |true=>exact cC ((cq (ds:=shL ss) rfl).trans (k2 hb))
noncomputable abbrev ftS:Ev->Option Bool:=cI (aG leI (e2 ixD (ah 0) (eC (.int 6))) (ah 4)) (aG leI (ah 4) (e2 ixD (ah 0) (eC (.int 7))))
noncomputable abbrev feS:Ev->Option D:=aL iM (aa (mY (ah 0) dC (bf (eC (.int 6)))) (aa (aj 1) (aa (aj 2) (aa (aj 3) aF))))
theorem C3(h x y z:Int):∀(ss:List Sh) (s0:Sl),∃bs:List Bool,lcD (ao 0) ftS feS (shL ss) [s0,.dat (.int x),.dat (.int y),.dat (.int z),.dat (.int h)]=some (bs.map D.bl)/\bs.any id=iU ss h x y z
 |[],_=>⟨[],rfl,rfl⟩
 |q::ss,s0=>by
  obtain⟨bs,e,hb⟩:=C3 h x y z ss (.dat (shD q));have c:ftS [.dat (shD q),.dat (.int x),.dat (.int y),.dat (.int z),.dat (.int h)]=some (whB q h):=zk (a:=decide (q.t<=h)) (b:=decide (h<=q.u)) rfl rfl;have e0:lcD (ao 0) ftS feS (shL (q::ss)) [s0,.dat (.int x),.dat (.int y),.dat (.int z),.dat (.int h)]=(ftS [.dat (shD q),.dat (.int x),.dat (.int y),.dat (.int z),.dat (.int h)]).bind λk=>if k=true then(feS [.dat (shD q),.dat (.int x),.dat (.int y),.dat (.int z),.dat (.int h)]).bind λv=>(lcD (ao 0) ftS feS (shL ss) [.dat (shD q),.dat (.int x),.dat (.int y),.dat (.int z),.dat (.int h)]).bind λr=>some (v::r) else lcD (ao 0) ftS feS (shL ss) [.dat (shD q),.dat (.int x),.dat (.int y),.dat (.int z),.dat (.int h)]:=rfl
  have hs:iU (q::ss) h x y z=((whB q h&&in6 q x y z) || iU ss h x y z):=rfl;rw[e0,c,hs];cases whB q h with
  |true=>
   refine⟨in6 q x y z::bs,?_,by rw[<-hb];rfl⟩;rw[show feS [.dat (shD q),.dat (.int x),.dat (.int y),.dat (.int z),.dat (.int h)]=some (.bl (in6 q x y z)) from Cz q x y z];show(lcD (ao 0) ftS feS (shL ss) _).bind _=_;rw[e];rfl
  |false=>exact⟨bs,e,by rw[hb];rfl⟩
theorem B5:∀bs:List Bool,oY (bs.map D.bl)=some (bs.map V.bl)
 |[]=>rfl
 |b::bs=>by show(oY (bs.map D.bl)).bind _=_;rw[B5 bs];rfl
theorem FV:∀bs:List Bool,inV (.bl true) (bs.map V.bl)=bs.any id
 |[]=>rfl
 |b::bs=>by
  show(eqV (.bl b) (.bl true) || inV (.bl true) (bs.map V.bl))=_;rw[FV bs];cases b<;>rfl
theorem ym(ss:List Sh)(hz:ss.length<1000000)(h x y z:Int):gc [.lst (shL ss),.int h,.int x,.int y,.int z]=some (.bl (iU ss h x y z)):=by
 refine b9 rfl ?_;unfold jj;obtain⟨bs,e,hb⟩:=C3 h x y z ss .un;refine fF ?_;refine(sZ (x:=.bl true) (y:=.lst (bs.map D.bl)) rfl (jc ?_)).trans ?_
 ·rw[rA (ds:=shL ss) rfl (by simpa using hz)];exact e
 ·show(oY (bs.map D.bl)).bind _=_
  rw[B5,<-hb,<-FV];rfl
noncomputable abbrev sk4(hs:List Hl)(cs:List Int)(ws:List Wd)(ss:List Sh):D:=.tup [.lst (hL hs),.lst (iL cs),.lst (wL ws),.lst (shL ss)]
noncomputable def why(hs:List Hl)(ss:List Sh)(h:Int)(q:Stt):Str:=if q.z<gr hs q.x q.y then "hill" else if iU ss h q.x q.y q.z=true then "shut" else ""
section
variable(hs:List Hl)(cs:List Int)(ws:List Wd)(ss:List Sh)(hz:hs.length<=900)(ok:∀h∈hs,0<=h.t)(sz:ss.length<=900)(h:Int)(q:Stt)
include hz in
theorem F8:cy [sk4 hs cs ws ss,.int h,stD q]=some (.str (why hs ss h q)):=by
 refine b9 rfl ?_;unfold fM;refine(ax rfl).trans ?_;refine(ax rfl).trans ?_;show aQ _ _ [.dat (sk4 hs cs ws ss),.dat (.int h),.dat (stD q),.dat (.lst (hL hs)),.dat (.lst (iL cs)),.dat (.lst (wL ws)),.dat (.lst (shL ss)),.dat (.int q.x),.dat (.int q.y),.dat (.int q.z),.dat (.int q.s),.dat (.int q.p)]=_;have c1:aG ltI (ah 9) (aL f_ (aa (aj 3) (aa (aj 7) (aa (aj 8) aF)))) [.dat (sk4 hs cs ws ss),.dat (.int h),.dat (stD q),.dat (.lst (hL hs)),.dat (.lst (iL cs)),.dat (.lst (wL ws)),.dat (.lst (shL ss)),.dat (.int q.x),.dat (.int q.y),.dat (.int q.z),.dat (.int q.s),.dat (.int q.p)]=some (decide (q.z<gr hs q.x q.y)):=kg (x:=.int q.z) (y:=.int (gr hs q.x q.y)) rfl (kM rfl (AR hs KM q.x q.y)) rfl;have c2:cZ (aL iO (aa (aj 6) (aa (aj 1) (aa (aj 7) (aa (aj 8) (aa (aj 9) aF)))))) [.dat (sk4 hs cs ws ss),.dat (.int h),.dat (stD q),.dat (.lst (hL hs)),.dat (.lst (iL cs)),.dat (.lst (wL ws)),.dat (.lst (shL ss)),.dat (.int q.x),.dat (.int q.y),.dat (.int q.z),.dat (.int q.s),.dat (.int q.p)]=some (iU ss h q.x q.y q.z):=tV (kM rfl (uY ss h q.x q.y q.z));unfold why
 by_cases g1:q.z<gr hs q.x q.y
 ·rw[if_pos g1]
  exact cC ((lK _ c1 g1).trans rfl)
 ·rw[if_neg g1]
  refine(ax ((gX _ c1 g1).trans rfl)).trans ?_;cases hb:iU ss h q.x q.y q.z with
  |true=>
   rw[hb] at c2;rw[if_pos rfl];exact cC ((iq c2).trans rfl)
  |false=>
   rw[hb] at c2;rw[if_neg Qp];exact(ax ((iS c2).trans rfl)).trans rfl
include hz ok sz in
theorem Bi:cP [sk4 hs cs ws ss,.int h,stD q]=some (.str (why hs ss h q)):=by
 refine b9 rfl ?_;unfold iE;show aQ _ _ [.dat (sk4 hs cs ws ss),.dat (.int h),.dat (stD q)]=_;have c1:aG ltI (e2 ixD (ah 2) (eC (.int 2))) (aL dH (aa (e2 ixD (ah 0) Vw) (aa (e2 ixD (ah 2) Vw) (aa (e2 ixD (ah 2) Vy) aF)))) [.dat (sk4 hs cs ws ss),.dat (.int h),.dat (stD q)]=some (decide (q.z<gr hs q.x q.y)):=kg (x:=.int q.z) (y:=.int (gr hs q.x q.y)) rfl (kM rfl (GS hs KM ok q.x q.y)) rfl;have c2:cZ (aL gc (aa (e2 ixD (ah 0) (eC (.int 3))) (aa (aj 1) (aa (e2 ixD (ah 2) Vw) (aa (e2 ixD (ah 2) Vy) (aa (e2 ixD (ah 2) (eC (.int 2))) aF)))))) [.dat (sk4 hs cs ws ss),.dat (.int h),.dat (stD q)]=some (iU ss h q.x q.y q.z):=tV (kM rfl (ym ss KM h q.x q.y q.z));unfold why
 by_cases g1:q.z<gr hs q.x q.y
 ·rw[if_pos g1]
  exact cC ((lK _ c1 g1).trans rfl)
 ·rw[if_neg g1]
  refine(ax ((gX _ c1 g1).trans rfl)).trans ?_;cases hb:iU ss h q.x q.y q.z with
  |true=>
   rw[hb] at c2;rw[if_pos rfl];exact cC ((iq c2).trans rfl)
  |false=>
   rw[hb] at c2;rw[if_neg Qp];exact(ax ((iS c2).trans rfl)).trans rfl
end
end Fl
namespace Dn
open PySem PySem.Spec PyProof.Rows L2 PySem.W RW2
end Dn
namespace Tb
open PySem PySem.Spec PyProof.Rows L2 Dn Fl
end Tb
namespace Dn
open PySem PySem.Spec PyProof.Rows L2
open PySem.W
open RW2
end Dn
namespace Tb
open PySem PySem.Spec PyProof.Rows L2 Dn Fl
end Tb
namespace LL
open PySem PySem.Spec PyProof.Rows L2 HT
section
open PySem.SeqAt
open PySem.AutoSeq1 (wpAny_loadPart')
open PySem.MeetsSeq PySem.MeetsSeq2 PySem.MeetsSeq3
end
end LL
namespace Dn
open PySem PySem.Spec PyProof.Rows L2
end Dn
namespace LL
open PySem PySem.Spec PyProof.Rows L2 HT
section
open PySem.SeqAt
open PySem.AutoSeq1 (wpAny_loadPart')
open PySem.MeetsSeq PySem.MeetsSeq2 PySem.MeetsSeq3
end
end LL
namespace Dn
open PySem PySem.Spec PyProof.Rows L2
end Dn
namespace Tb
open PySem PySem.Spec PyProof.Rows L2 Dn Fl
end Tb
namespace Lw
open PySem PySem.Spec PyProof.Rows L2 Dn
noncomputable def top(i:Nat):Stmt:=PySem.Challenge.pw_ballastbook_k43_balloons_launched.main.body.getD i (.Pass ⟨0,0,0,0⟩)
abbrev aV:Addr:=581
noncomputable abbrev gi:List Str:=["name","fate","last","path","lost_at","reports"]
abbrev ar:Addr:=995
noncomputable abbrev vm:List Str:=["hills","cool","hour","winds","shuts","balloons","deeds","holds"]
noncomputable abbrev lA(Z:Wq):Prop:=MkD Z "Balloon" aV gi [.int 0,.tup []] 1
noncomputable abbrev jb:List D->Option (List (Str×D)):=fD2 "at" "why"
noncomputable abbrev nE(Z:Wq):Prop:=FF Z "Stopped" 1 jb ["at","why"]
noncomputable abbrev Aa(Z:Wq):Prop:=∃C bm,OkE Z "BadBox" C bm
noncomputable abbrev oa(Z:Wq):Prop:=∃C bm,OkE Z "BadHeight" C bm
noncomputable abbrev yF(Z:Wq):Prop:=∃C bm,OkE Z "BadHour" C bm
noncomputable abbrev xj(Z:Wq):Prop:=∃C bm,OkE Z "BadLoad" C bm
noncomputable abbrev xA(Z:Wq):Prop:=∃C bm,OkE Z "BadName" C bm
noncomputable abbrev xf(Z:Wq):Prop:=∃C bm,OkE Z "BadPlace" C bm
noncomputable abbrev uz(Z:Wq):Prop:=∃C bm,OkE Z "Full" C bm
noncomputable abbrev uy(Z:Wq):Prop:=∃C bm,OkE Z "NoBalloon" C bm
noncomputable abbrev xu(Z:Wq):Prop:=∃C bm,OkE Z "NotLost" C bm
noncomputable abbrev sJ(Z:Wq):Prop:=∃C bm,OkE Z "OutOfSight" C bm
noncomputable abbrev Ea(Z:Wq):Prop:=∃C bm,OkE Z "Past" C bm
noncomputable abbrev C4(Z:Wq):Prop:=∃C bm,OkE Z "Taken" C bm
noncomputable abbrev Bh(Z:Wq):Prop:=∃C bm,OkE Z "Twice" C bm
noncomputable abbrev kW:List Str:=["_law_script","_law_many","_law_row","_law_seed","_law_cell","_law_rest","_law_k"]
noncomputable abbrev dY:List Str:=["_law_script","_law_many"]
noncomputable def nU:Ev->Option Fl:=(sIf (aG gtI (ah 5) Vw) (aQ (l_ 2 (e2 ba (ah 5) (eC (.int 1000)))) (bW 5 (e2 nP (ah 5) (eC (.int 1000))))) bj)
noncomputable def jg:Ev->Option Fl:=(aQ (bW 3 (e2 ba (e2 bR (e2 bR (e2 cV (ah 3) (eC (.int 69621))) (e2 ba (ah 4) (eC (.int 999983)))) (eC (.int 7))) (eC (.int 2147483629)))) (aQ (bW 5 (e2 h9 (ah 4) (e2 w_ (eC (.int 10)) (eC (.int 18))))) (aQ (sIf (aG ltI (ah 5) Vw) (l_ 2 (e2 ba (ah 4) (eC (.int 1000)))) bj) (iX (iG (eC (.int 60))) (ao 6) (nU)))))
noncomputable def jC:Ev->Option Fl:=(sIf (aG ltI (aY dJ (ah 2)) (ah 1)) (aQ (bW 3 (e2 ba (e2 bR (e2 bR (e2 bR (e2 w_ (ah 3) (eC (.int 3))) (e2 cV (eC (.int 40692)) (ah 3))) (e2 cV (eC (.int 7)) (ah 6))) (eC (.int 5))) (eC (.int 2147483629)))) (l_ 2 (e2 ba (e2 nP (ah 3) (eC (.int 1009))) (eC (.int 1000))))) bj)
noncomputable def gH:Ev->Option Fl:=(aQ (nF 2 (iI aF)) (aQ (bW 3 (eC (.int 29))) (aQ (iX (gW (eF (eSl (ah 0) dC (bf (eC (.int 63)))))) (ao 4) (jg)) (aQ (iX (iG (aj 1)) (ao 6) (jC)) (zG (eSl (ah 2) dC (bf (ah 1))))))))
noncomputable def rF:List D->Option D:=fnD kW dY gH
noncomputable def fE:List D->Option (List D):=fnO kW dY gH
noncomputable abbrev lD(Z:Wq):Prop:=OkB Z "_law_numbers" (top 83) dY 1 rF fE
noncomputable abbrev qh:List Str:=["_law_found","_law_due"]
noncomputable abbrev eA:List Str:=["_law_found","_law_due"]
noncomputable def pQ(rec:List D->Option D):Ev->Option Fl:=(aQ (sIf (iY (cZ (h_ (gq "list") (ah 1))) (cZ (h_ (gq "tuple") (ah 1)))) (aQ (sIf (iY (aG me (h_ (gq "list") (ah 0)) (h_ (gq "list") (ah 1))) (aG me (h_ (gq "tuple") (ah 0)) (h_ (gq "tuple") (ah 1)))) (bo (eC (.bl false))) bj) (bo (i_ (e2 cH (aY dJ (ah 0)) (aY dJ (ah 1))) (aL mz (aa (eF (eLC (zT (aa (aj 0) (aa (aj 1) aF))) 2 [] (eZ 2 (aD (ao 0) (aD (ao 1) bM))) ig (aL rec (aa (aj 0) (aa (aj 1) aF))))) aF))))) bj) (aQ (sIf (iY (aG (isD false) (ah 0) (eC .non)) (aG (isD false) (ah 1) (eC .non))) (bo (i_ (e2 (isD false) (ah 0) (eC .non)) (e2 (isD false) (ah 1) (eC .non)))) bj) (aQ (sIf (iY (aG me (h_ (gq "bool") (ah 0)) (h_ (gq "bool") (ah 1))) (aG me (h_ (gq "int") (ah 0)) (h_ (gq "int") (ah 1)))) (bo (eC (.bl false))) bj) (bo (e2 cH (ah 0) (ah 1))))))
noncomputable def gG:Nat->List D->Option D
 |0=>λ_=>none
 |n+1=>fnD qh eA (pQ (gG n))
noncomputable def cu:List D->Option D:=gG 5
noncomputable abbrev kN(Z:Wq):Prop:=OkD Z "_law_same" (top 84) eA 5 cu
noncomputable abbrev wb:List Str:=["_law_d"]
noncomputable abbrev jy:List Str:=["_law_d"]
noncomputable def lH:Ev->Option Fl:=(aQ (sIf (aG cH (e2 ba (e2 ixD (ah 0) Vw) (eC (.int 5))) Vy) (bo (cA (aa (e2 h9 (e2 ixD (ah 0) Vy) (eC (.int 500))) (aa (e2 h9 (e2 ixD (ah 0) (eC (.int 2))) (eC (.int 500))) aF)))) bj) (aQ (sIf (aG cH (e2 ba (e2 ixD (ah 0) Vw) (eC (.int 5))) (eC (.int 2))) (bo (cA (aa (e2 cV (e2 h9 (e2 ba (e2 ixD (ah 0) Vy) (eC (.int 3))) Vy) (eC (.int 985))) (aa (e2 cV (e2 h9 (e2 ba (e2 ixD (ah 0) (eC (.int 2))) (eC (.int 3))) Vy) (eC (.int 985))) aF)))) bj) (bo (cA (aa Vw (aa Vw aF))))))
noncomputable def kQ:List D->Option D:=fnD wb jy lH
noncomputable abbrev pT(Z:Wq):Prop:=OkD Z "_law_base" (top 85) jy 1 kQ
noncomputable abbrev yB:List Str:=["_law_d","_law_base_here","_law_x","_law_y","_law_low"]
noncomputable abbrev j9:List Str:=["_law_d","_law_base_here"]
noncomputable def xh:Ev->Option Fl:=(aQ (bW 2 (e2 h9 (e2 bR (e2 ixD (ah 1) Vw) (e2 ba (e2 ixD (ah 0) Vw) (eC (.int 9)))) (eC (.int 4)))) (aQ (bW 3 (e2 h9 (e2 bR (e2 ixD (ah 1) Vy) (e2 ba (e2 ixD (ah 0) Vy) (eC (.int 9)))) (eC (.int 4)))) (aQ (bW 4 (e2 ba (e2 ixD (ah 0) (eC (.int 4))) (eC (.int 6)))) (bo (cA (aa (aj 2) (aa (aj 3) (aa (e2 bR (ah 2) (e2 ba (e2 ixD (ah 0) (eC (.int 2))) (eC (.int 4)))) (aa (e2 bR (ah 3) (e2 ba (e2 ixD (ah 0) (eC (.int 3))) (eC (.int 4)))) (aa (aj 4) (aa (e2 bR (ah 4) (e2 ba (e2 ixD (ah 0) (eC (.int 5))) (e2 h9 (eC (.int 6)) (ah 4)))) aF)))))))))))
noncomputable def nA:List D->Option D:=fnD yB j9 xh
noncomputable abbrev qX(Z:Wq):Prop:=OkD Z "_law_box" (top 86) j9 1 nA
noncomputable abbrev si:List Str:=["_law_d","_law_base_here","_law_hills","_law_j","_law_cool"]
noncomputable abbrev gL:List Str:=["_law_d","_law_base_here"]
noncomputable def dX:Ev->Option Fl:=(l_ 2 (cA (aa (e2 h9 (e2 bR (e2 ixD (ah 1) Vw) (e2 ba (e2 ixD (ah 0) (e2 bR (e2 cV (eC (.int 3)) (ah 3)) Vy)) (eC (.int 11)))) (eC (.int 5))) (aa (e2 h9 (e2 bR (e2 ixD (ah 1) Vy) (e2 ba (e2 ixD (ah 0) (e2 bR (e2 cV (eC (.int 3)) (ah 3)) (eC (.int 2)))) (eC (.int 11)))) (eC (.int 5))) (aa (e2 bR Vy (e2 ba (e2 ixD (ah 0) (e2 bR (e2 cV (eC (.int 3)) (ah 3)) (eC (.int 3)))) (eC (.int 5)))) aF)))))
noncomputable def dW:Ev->Option Fl:=(sIf (aG (inD true) (e2 ba (e2 ixD (ah 0) (e2 bR (eC (.int 16)) (ah 3))) (eC (.int 24))) (ah 4)) (l_ 4 (e2 ba (e2 ixD (ah 0) (e2 bR (eC (.int 16)) (ah 3))) (eC (.int 24)))) bj)
noncomputable def cQ:Ev->Option Fl:=(l_ 2 (cA (aa (e2 h9 (e2 bR (e2 ixD (ah 1) Vw) (e2 ba (e2 bR (e2 cV (eC (.int 10)) (ah 3)) (e2 ixD (ah 0) (eC (.int 22)))) (eC (.int 27)))) (eC (.int 13))) (aa (e2 h9 (e2 bR (e2 ixD (ah 1) Vy) (e2 ba (e2 bR (e2 cV (eC (.int 11)) (ah 3)) (e2 ixD (ah 0) (eC (.int 23)))) (eC (.int 27)))) (eC (.int 13))) (aa (e2 bR Vy (e2 ba (ah 3) (eC (.int 5)))) aF)))))
noncomputable def eg:Ev->Option Fl:=(aQ (nF 2 (iI aF)) (aQ (iX (iG (e2 ba (e2 ixD (ah 0) Vw) (eC (.int 6)))) (ao 3) (dX)) (aQ (nF 4 (iI aF)) (aQ (iX (iG (e2 ba (e2 nP (e2 ixD (ah 0) Vw) (eC (.int 6))) (eC (.int 6)))) (ao 3) (dW)) (aQ (sIf (aG cH (e2 ba (e2 ixD (ah 0) (eC (.int 24))) (eC (.int 9))) Vy) (nF 4 (eLC (iG (eC (.int 24))) 1 [0] (ao 0) ig (e2 ba (e2 bR (e2 cV (eC (.int 7)) (ah 0)) (e2 ixD (ah 1) (eC (.int 23)))) (eC (.int 24))))) bj) (aQ (sIf (aG ltI (e2 ba (e2 ixD (ah 0) (eC (.int 24))) (eC (.int 9))) (eC (.int 2))) (iX (iG (e2 h9 (eC (.int 20)) (aY dJ (ah 2)))) (ao 3) (cQ)) bj) (sFz 4 (sFz 2 (bo (cA (aa (aj 2) (aa (aj 4) aF))))))))))))
noncomputable def cE:List D->Option D:=fnD si gL eg
noncomputable abbrev lr(Z:Wq):Prop:=OkD Z "_law_opening" (top 99) gL 1 cE
noncomputable abbrev vC:List Str:=["_law_model","_law_name_here","_law_at"]
noncomputable abbrev jq:List Str:=["_law_model","_law_name_here"]
noncomputable def bK:Ev->Option Fl:=(sIf (aG cH (e2 ixD (e2 ixD (aY (fR "fleet") (aj 0)) (ah 2)) Vw) (ah 1)) (bo (aj 2)) bj)
noncomputable def vW:Ev->Option Fl:=(aQ (iX (iG (aY dJ (aY (fR "fleet") (aj 0)))) (ao 2) (bK)) (bo (eC .non)))
noncomputable def cM:List D->Option D:=fnD vC jq vW
noncomputable abbrev lL(Z:Wq):Prop:=OkD Z "_law_spot" (top 96) jq 1 cM
noncomputable abbrev pU:List Str:=["_law_d","_law_model","_law_letters","_law_many","_law_at","_law_signs","_law_k"]
noncomputable abbrev jA:List Str:=["_law_d","_law_model"]
noncomputable def d8:Ev->Option Fl:=(aQ (kG 5 (ah 4) (e2 ixS (ah 2) (e2 ba (e2 bR (e2 ixD (ah 0) (eC (.int 3))) (ah 6)) (eC (.int 26))))) (sIf (aG (isD false) (aL cM (aa (aj 1) (aa (aY (lB "") (ah 5)) aF))) (eC .non)) (bo (aY (lB "") (ah 5))) bj))
noncomputable def qo:Ev->Option Fl:=(aQ (bW 2 (eC (.str "abcdefghijklmnopqrstuvwxyz"))) (aQ (bW 3 (e2 bR Vy (e2 ba (e2 ixD (ah 0) Vw) (eC (.int 6))))) (aQ (bW 4 (e2 ba (e2 ixD (ah 0) Vy) (ah 3))) (aQ (nF 5 (eLC (iG (aj 3)) 1 [2,0] (ao 0) ig (e2 ixS (ah 1) (e2 ba (e2 bR (e2 ixD (ah 2) (eC (.int 2))) (e2 cV (e2 ba (e2 ixD (ah 2) (eC (.int 4))) (eC (.int 3))) (ah 0))) (eC (.int 26)))))) (aQ (iX (iG (eC (.int 8))) (ao 6) (d8)) (bo (aY (lB "") (ah 5))))))))
noncomputable def jk:List D->Option D:=fnD pU jA qo
noncomputable abbrev qf(Z:Wq):Prop:=OkD Z "_law_name" (top 106) jA 2 jk
noncomputable abbrev uE:List Str:=["_law_d","_law_base_here","_law_most","_law_x","_law_y"]
noncomputable abbrev iH:List Str:=["_law_d","_law_base_here","_law_most"]
noncomputable def vc:Ev->Option Fl:=(aQ (bW 3 (e2 h9 (e2 bR (e2 ixD (ah 1) Vw) (e2 ba (e2 ixD (ah 0) Vw) (eC (.int 7)))) (eC (.int 3)))) (aQ (bW 4 (e2 h9 (e2 bR (e2 ixD (ah 1) Vy) (e2 ba (e2 ixD (ah 0) Vy) (eC (.int 7)))) (eC (.int 3)))) (bo (cA (aa (aj 3) (aa (aj 4) (aa (e2 ba (e2 ixD (ah 0) (eC (.int 2))) (eC (.int 6))) (aa (e2 ba (e2 ixD (ah 0) (eC (.int 3))) (e2 bR (ah 2) Vy)) (aa (e2 ba (e2 ixD (ah 0) (eC (.int 4))) (e2 bR (ah 2) Vy)) aF)))))))))
noncomputable def iB:List D->Option D:=fnD uE iH vc
noncomputable abbrev nS(Z:Wq):Prop:=OkD Z "_law_state" (top 87) iH 1 iB
noncomputable abbrev jo:List Str:=["_law_call_here","_law_d","_law_parts","_law_at","_law_some","_law_part","_law_k"]
noncomputable abbrev jw:List Str:=["_law_call_here","_law_d"]
noncomputable def jh:Ev->Option Fl:=(aQ (nF 2 (kY (ah 0))) (aQ (bW 3 (e2 bR Vy (e2 ba (e2 ixD (ah 1) Vw) (e2 h9 (aY dJ (ah 2)) Vy)))) (aQ (bW 4 (eF (iI (aa (kJ Vy) (aa (eC (.int 6)) (aa (eC (.int 7)) (aa (eC (.int 5)) (aa (eC (.int 24)) (aa (eC (.int 25)) (aa (eC (.int 1000)) (aa (kJ (eC (.int 1000))) (aa (eC (.int 3)) (aa (kJ (eC (.int 999))) (aa (eC (.int 999)) (aa Vw aF))))))))))))))) (aQ (bW 5 (e2 ixD (ah 2) (ah 3))) (aQ (sIf (cZ (h_ (gq "str") (ah 5))) (kG 2 (ah 3) (e2 ixD (eF (iI (aa (eC (.str "")) (aa (eC (.str "A")) (aa (eC (.str "abcdefg")) (aa (eC (.str "a1")) (aa (aj 5) aF))))))) (e2 ba (e2 ixD (ah 1) Vy) (eC (.int 5))))) bj) (aQ (sIf (cZ (h_ (gq "int") (ah 5))) (kG 2 (ah 3) (e2 ixD (ah 4) (e2 ba (e2 ixD (ah 1) Vy) (eC (.int 12))))) bj) (aQ (sIf (cZ (h_ (gq "tuple") (ah 5))) (aQ (bW 6 (e2 ba (e2 ixD (ah 1) (eC (.int 2))) (aY dJ (ah 5)))) (kG 2 (ah 3) (e2 zX (e2 zX (mY (ah 5) dC (bf (ah 6))) (cA (aa (e2 ixD (ah 4) (e2 ba (e2 ixD (ah 1) Vy) (eC (.int 12)))) aF))) (mY (ah 5) (bf (e2 bR (ah 6) Vy)) dC)))) bj) (bo (aY (λd=>BN [d]) (ah 2))))))))))
noncomputable def ic:List D->Option D:=fnD jo jw jh
noncomputable abbrev p_(Z:Wq):Prop:=OkD Z "_law_bent" (top 110) jw 1 ic
noncomputable abbrev pR:List Str:=["_law_d","_law_model","_law_base_here","_law_name_here","_law_call_here"]
noncomputable abbrev jr:List Str:=["_law_d","_law_model","_law_base_here"]
noncomputable def pP:Ev->Option Fl:=(aQ (bW 3 (aL jk (aa (eF (eSl (ah 0) (bf (eC (.int 6))) (bf (eC (.int 11))))) (aa (aj 1) aF)))) (aQ (sIf (aG cH (e2 ba (e2 ixD (ah 0) Vw) (eC (.int 4))) Vy) (bW 3 (e2 ixD (eF (iI (aa (eC (.str "")) (aa (eC (.str "A")) (aa (eC (.str "abcdefg")) (aa (eC (.str "a b")) (aa (eC (.str "a1")) (aa (eC (.str "a-")) (aa (eC (.str "abcdef")) aF))))))))) (e2 ba (e2 ixD (ah 0) (eC (.int 11))) (eC (.int 7))))) bj) (aQ (bW 4 (cA (aa (eC (.str "launch")) (aa (aj 3) (aa (aL iB (aa (eF (eSl (ah 0) (bf Vy) (bf (eC (.int 6))))) (aa (aj 2) (aa (eC (.int 6)) aF)))) aF))))) (aQ (sIf (aG cH (e2 ba (e2 ixD (ah 0) (eC (.int 12))) (eC (.int 3))) Vy) (bW 4 (aL ic (aa (aj 4) (aa (eF (r8 (eF (iI (aa Vy aF))) (eF (eSl (ah 0) (bf (eC (.int 13))) (bf (eC (.int 17))))))) aF)))) bj) (aQ (sIf (aG cH (e2 ba (e2 ixD (ah 0) (eC (.int 12))) (eC (.int 9))) (eC (.int 2))) (bW 4 (aL ic (aa (aj 4) (aa (eF (r8 (eF (iI (aa Vy aF))) (eF (eSl (ah 0) (bf (eC (.int 17))) (bf (eC (.int 21))))))) aF)))) bj) (aQ (sIf (cI (aG cH (e2 ba (e2 ixD (ah 0) (eC (.int 22))) (eC (.int 7))) Vy) (aG gtI (aY dJ (aY (fR "fleet") (aj 1))) Vw)) (bW 4 (cA (aa (e2 ixD (ah 4) Vw) (aa (e2 ixD (e2 ixD (aY (fR "fleet") (aj 1)) (e2 ba (e2 ixD (ah 0) (eC (.int 23))) (aY dJ (aY (fR "fleet") (aj 1))))) Vw) (aa (e2 ixD (ah 4) (eC (.int 2))) aF))))) bj) (bo (aj 4))))))))
noncomputable def lq:List D->Option D:=fnD pR jr pP
noncomputable abbrev kO(Z:Wq):Prop:=OkD Z "_law_call" (top 112) jr 3 lq
noncomputable abbrev nq:List Str:=["_law_x","_law_y"]
noncomputable abbrev jY:List Str:=["_law_x","_law_y"]
noncomputable def xr:Ev->Option Fl:=(bo (eOr (e2 ltI (aL zO (aa (aj 0) (aa (aj 1) aF))) (kJ (eC (.int 999)))) (e2 gtI (aL zq (aa (aj 0) (aa (aj 1) aF))) (eC (.int 999)))))
noncomputable def iQ:List D->Option D:=fnD nq jY xr
noncomputable abbrev rC(Z:Wq):Prop:=OkD Z "_law_off" (top 97) jY 1 iQ
noncomputable abbrev pw:List Str:=["_law_state_here"]
noncomputable abbrev eG:List Str:=["_law_state_here"]
noncomputable def pB:Ev->Option Fl:=(aQ (sIf (cZ (aL iQ (aa (e2 ixD (ah 0) Vw) (aa (e2 ixD (ah 0) Vy) aF)))) (bo (eC (.str "BadPlace"))) bj) (aQ (sIf (iY (aG ltI (e2 ixD (ah 0) (eC (.int 2))) Vw) (aG gtI (e2 ixD (ah 0) (eC (.int 2))) (eC (.int 5)))) (bo (eC (.str "BadHeight"))) bj) (aQ (sIf (iY (aG ltI (aL (pZ mnI) (aa (mY (ah 0) (bf (eC (.int 3))) dC) aF)) Vw) (aG gtI (aL (pZ mxI) (aa (mY (ah 0) (bf (eC (.int 3))) dC) aF)) (eC (.int 6)))) (bo (eC (.str "BadLoad"))) bj) (bo (eC (.str ""))))))
noncomputable def eE:List D->Option D:=fnD pw eG pB
noncomputable abbrev jL(Z:Wq):Prop:=OkD Z "_law_bad_state" (top 98) eG 2 eE
noncomputable abbrev xC:List Str:=["_law_model"]
noncomputable abbrev kl:List Str:=["_law_model"]
noncomputable def xU:Ev->Option Fl:=(bo (cA (aa (aY (fR "hills") (aj 0)) (aa (aY (fR "cool") (aj 0)) (aa (aY (fR "winds") (aj 0)) (aa (aY (fR "shuts") (aj 0)) aF))))))
noncomputable def dZ:List D->Option D:=fnD xC kl xU
noncomputable abbrev ku(Z:Wq):Prop:=OkD Z "_law_air" (top 95) kl 1 dZ
noncomputable abbrev jG:List Str:=["_law_hills","_law_x","_law_y"]
noncomputable abbrev dF:List Str:=["_law_hills","_law_x","_law_y"]
noncomputable def fv:Ev->Option Fl:=(bo (aL ze (aa (eF (r8 (eF (iI (aa Vw aF))) (eF (eLC (gW (aj 0)) 3 [1,2] (eZ 3 (aD (ao 0) (aD (ao 1) (aD (ao 2) bM)))) (cI (aG cH (ah 0) (ah 3)) (aG cH (ah 1) (ah 4))) (aj 2))))) aF)))
noncomputable def dH:List D->Option D:=fnD jG dF fv
noncomputable abbrev mP(Z:Wq):Prop:=OkD Z "_law_ground" (top 89) dF 1 dH
noncomputable abbrev o9:List Str:=["_law_box_here","_law_x","_law_y","_law_z"]
noncomputable abbrev iK:List Str:=["_law_box_here","_law_x","_law_y","_law_z"]
noncomputable def l8:Ev->Option Fl:=(bo (i_ (e2 leI (e2 ixD (ah 0) Vw) (ah 1)) (i_ (e2 leI (ah 1) (e2 ixD (ah 0) (eC (.int 2)))) (i_ (e2 leI (e2 ixD (ah 0) Vy) (ah 2)) (i_ (e2 leI (ah 2) (e2 ixD (ah 0) (eC (.int 3)))) (i_ (e2 leI (e2 ixD (ah 0) (eC (.int 4))) (ah 3)) (e2 leI (ah 3) (e2 ixD (ah 0) (eC (.int 5))))))))))
noncomputable def iM:List D->Option D:=fnD o9 iK l8
noncomputable abbrev sV(Z:Wq):Prop:=OkD Z "_law_in" (top 90) iK 1 iM
noncomputable abbrev ll:List Str:=["_law_shuts","_law_hour","_law_x","_law_y","_law_z"]
noncomputable abbrev gf:List Str:=["_law_shuts","_law_hour","_law_x","_law_y","_law_z"]
noncomputable def jj:Ev->Option Fl:=(bo (e2 (inD false) (eC (.bl true)) (eF (eLC (gW (aj 0)) 1 [2,3,4,1] (ao 0) (cI (aG leI (e2 ixD (ah 0) (eC (.int 6))) (ah 4)) (aG leI (ah 4) (e2 ixD (ah 0) (eC (.int 7))))) (aL iM (aa (mY (ah 0) dC (bf (eC (.int 6)))) (aa (aj 1) (aa (aj 2) (aa (aj 3) aF)))))))))
noncomputable def gc:List D->Option D:=fnD ll gf jj
noncomputable abbrev pO(Z:Wq):Prop:=OkD Z "_law_shut" (top 91) gf 2 gc
noncomputable abbrev km:List Str:=["_law_sky","_law_hour","_law_state_here"]
noncomputable abbrev eU:List Str:=["_law_sky","_law_hour","_law_state_here"]
noncomputable def iE:Ev->Option Fl:=(aQ (sIf (aG ltI (e2 ixD (ah 2) (eC (.int 2))) (aL dH (aa (e2 ixD (ah 0) Vw) (aa (e2 ixD (ah 2) Vw) (aa (e2 ixD (ah 2) Vy) aF))))) (bo (eC (.str "hill"))) bj) (aQ (sIf (cZ (aL gc (aa (e2 ixD (ah 0) (eC (.int 3))) (aa (aj 1) (aa (e2 ixD (ah 2) Vw) (aa (e2 ixD (ah 2) Vy) (aa (e2 ixD (ah 2) (eC (.int 2))) aF))))))) (bo (eC (.str "shut"))) bj) (bo (eC (.str "")))))
noncomputable def cP:List D->Option D:=fnD km eU iE
noncomputable abbrev nG(Z:Wq):Prop:=OkD Z "_law_stand" (top 92) eU 3 cP
noncomputable abbrev uK:List Str:=["_law_model","_law_call_here","_law_word","_law_name_here","_law_state_here","_law_bad","_law_why"]
noncomputable abbrev iy:List Str:=["_law_model","_law_call_here"]
noncomputable def oJ:Ev->Option Fl:=(aQ (mV (aj 1) (ja 3 (aD (ao 2) (aD (ao 3) (aD (ao 4) bM))))) (aQ (sIf (aG cH (aY dJ (aY (fR "fleet") (aj 0))) (eC (.int 6))) (bo (cA (aa (eC (.str "no")) (aa (eC (.str "Full")) aF)))) bj) (aQ (sIf (iY (aG ltI (aY mx (aj 3)) Vy) (iY (aG gtI (aY mx (aj 3)) (eC (.int 6))) (b_ (cZ (aL mz (aa (eF (eLC (rJ (aj 3)) 1 [] (ao 0) ig (e2 (inS false) (ah 0) (eC (.str "abcdefghijklmnopqrstuvwxyz"))))) aF)))))) (bo (cA (aa (eC (.str "no")) (aa (eC (.str "BadName")) aF)))) bj) (aQ (sIf (aG (isD true) (aL cM (aa (aj 0) (aa (aj 3) aF))) (eC .non)) (bo (cA (aa (eC (.str "no")) (aa (eC (.str "Taken")) aF)))) bj) (aQ (bW 5 (aL eE (aa (aj 4) aF))) (aQ (sIf (aG me (ah 5) (eC (.str ""))) (bo (cA (aa (eC (.str "no")) (aa (aj 5) aF)))) bj) (aQ (bW 6 (aL cP (aa (aL dZ (aa (aj 0) aF)) (aa (aY (fR "hour") (aj 0)) (aa (aj 4) aF))))) (aQ (sIf (aG me (ah 6) (eC (.str ""))) (bo (cA (aa (eC (.str "no")) (aa (eC (.str "Stopped")) (aa Vw (aa (aj 6) aF)))))) bj) (bo (cA aF))))))))))
noncomputable def gy:List D->Option D:=fnD uK iy oJ
noncomputable abbrev kj(Z:Wq):Prop:=OkD Z "_law_fault" (top 111) iy 4 gy
noncomputable abbrev uC:List Str:=["self"]
noncomputable abbrev iF:List Str:=["self"]
noncomputable def nK:Ev->Option Fl:=(bo (eF (eLC (gW (aY (eJ ar "balloons") (aj 0))) 1 [] (ao 0) ig (aY (eJ aV "name") (aj 0)))))
noncomputable def eI:List D->Option D:=fnD uC iF nK
noncomputable abbrev kn(Z:Wq):Prop:=MtD Z ar "names" iF 1 eI
noncomputable abbrev vY:List Str:=["self"]
noncomputable abbrev jm:List Str:=["self"]
noncomputable def vz:Ev->Option Fl:=(bo (eF (kY (aY (eJ ar "deeds") (aj 0)))))
noncomputable def lz:List D->Option D:=fnD vY jm vz
noncomputable abbrev qg(Z:Wq):Prop:=MtD Z ar "done" jm 1 lz
noncomputable abbrev xM:List Str:=["self"]
noncomputable abbrev kq:List Str:=["self"]
noncomputable def xy:Ev->Option Fl:=(bo (cA (aa (eF (kY (aY (eJ ar "hills") (aj 0)))) (aa (eF (kY (aY (eJ ar "cool") (aj 0)))) (aa (eF (kY (aY (eJ ar "winds") (aj 0)))) (aa (eF (kY (aY (eJ ar "shuts") (aj 0)))) aF))))))
noncomputable def fY:List D->Option D:=fnD xM kq xy
noncomputable abbrev ke(Z:Wq):Prop:=MtD Z ar "sky" kq 1 fY
noncomputable abbrev xP:List Str:=["self"]
noncomputable abbrev kr:List Str:=["self"]
noncomputable def yl:Ev->Option Fl:=(bo (aY (eJ ar "hour") (aj 0)))
noncomputable def nr:List D->Option D:=fnD xP kr yl
noncomputable abbrev qR(Z:Wq):Prop:=MtD Z ar "now" kr 1 nr
noncomputable abbrev o6:List Str:=["self","name","at","balloon"]
noncomputable abbrev eO:List Str:=["self","name"]
noncomputable def bz:Ev->Option Fl:=(sIf (aG cH (aY (eJ aV "name") (aj 3)) (ah 1)) (bo (aj 2)) bj)
noncomputable def ph:Ev->Option Fl:=(aQ (iX (qZ (aY (eJ ar "balloons") (aj 0))) (eZ 2 (aD (ao 2) (aD (ao 3) bM))) (bz)) (cx "NoBalloon"))
noncomputable def cY:List D->Option Out:=fnX o6 eO ph
noncomputable abbrev jS(Z:Wq):Prop:=MtX Z ar "number_of" eO 3 cY
noncomputable abbrev uS:List Str:=["self","name"]
noncomputable abbrev iu:List Str:=["self","name"]
noncomputable def uQ:Ev->Option Fl:=(q_ (xIx (aY (eJ ar "balloons") (aj 0)) (cv ar "number_of" cY (aj 0) (aa (aj 1) aF))))
noncomputable def cS:List D->Option Out:=fnX uS iu uQ
noncomputable abbrev gF(Z:Wq):Prop:=MtX Z ar "found" iu 4 cS
noncomputable abbrev xJ:List Str:=["self","name"]
noncomputable abbrev jX:List Str:=["self","name"]
noncomputable def yv:Ev->Option Fl:=(q_ (vS (As aV "path" (cv ar "found" cS (aj 0) (aa (aj 1) aF)))))
noncomputable def gS:List D->Option Out:=fnX xJ jX yv
noncomputable abbrev rL(Z:Wq):Prop:=MtX Z ar "log" jX 5 gS
noncomputable abbrev sI:List Str:=["self","name"]
noncomputable abbrev hW:List Str:=["self","name"]
noncomputable def sy:Ev->Option Fl:=(q_ (As aV "fate" (cv ar "found" cS (aj 0) (aa (aj 1) aF))))
noncomputable def dG:List D->Option Out:=fnX sI hW sy
noncomputable abbrev mr(Z:Wq):Prop:=MtX Z ar "status" hW 5 dG
noncomputable abbrev tP:List Str:=["self","name","balloon"]
noncomputable abbrev ir:List Str:=["self","name"]
noncomputable def uO:Ev->Option Fl:=(aQ (tO 2 (cv ar "found" cS (aj 0) (aa (aj 1) aF))) (aQ (sIf (aG (inD true) (aY (eJ aV "fate") (aj 2)) (cA (aa (eC (.str "aloft")) (aa (eC (.str "landed")) aF)))) (cx "OutOfSight") bj) (bo (aY (eJ aV "last") (aj 2)))))
noncomputable def eX:List D->Option Out:=fnX tP ir uO
noncomputable abbrev nL(Z:Wq):Prop:=MtX Z ar "state" ir 5 eX
noncomputable abbrev oN:List Str:=["self","name","balloon"]
noncomputable abbrev dP:List Str:=["self","name"]
noncomputable def nI:Ev->Option Fl:=(aQ (tO 2 (cv ar "found" cS (aj 0) (aa (aj 1) aF))) (aQ (sIf (aG me (aY (eJ aV "fate") (aj 2)) (eC (.str "lost"))) (cx "NotLost") bj) (bo (aj 2))))
noncomputable def jt:List D->Option Out:=fnX oN dP nI
noncomputable abbrev je(Z:Wq):Prop:=MtX Z ar "found_lost" dP 5 jt
noncomputable abbrev oR:List Str:=["self","name"]
noncomputable abbrev eM:List Str:=["self","name"]
noncomputable def o7:Ev->Option Fl:=(q_ (vS (As aV "reports" (cv ar "found_lost" jt (aj 0) (aa (aj 1) aF)))))
noncomputable def jJ:List D->Option Out:=fnX oR eM o7
noncomputable abbrev jQ(Z:Wq):Prop:=MtX Z ar "sightings" eM 6 jJ
noncomputable abbrev sD:List Str:=["_law_book","_law_model","_law_fleet","_law_found","_law_due","_law_name_here","_law_fate","_law_state_here","_law_rows","_law_since","_law_told"]
noncomputable abbrev hG:List Str:=["_law_book","_law_model"]
noncomputable def gR:Ev->Option Fl:=(aQ (sIf (b_ (cZ (aL cu (aa (cA (aa (λε=>noX (cv ar "status" dG (aj 0) (aa (aj 5) aF) ε)) (aa (λε=>noX (cv ar "log" gS (aj 0) (aa (aj 5) aF) ε)) aF))) (aa (cA (aa (aj 6) (aa (eF (kY (ah 8))) aF))) aF))))) (bo (eC (.bl false))) bj) (aQ (sIf (cI (aG (inD false) (ah 6) (cA (aa (eC (.str "aloft")) (aa (eC (.str "landed")) aF)))) (b_ (cZ (aL cu (aa (λε=>noX (cv ar "state" eX (aj 0) (aa (aj 5) aF) ε)) (aa (aj 7) aF)))))) (bo (eC (.bl false))) bj) (sIf (cI (aG cH (ah 6) (eC (.str "lost"))) (b_ (cZ (aL cu (aa (λε=>noX (cv ar "sightings" jJ (aj 0) (aa (aj 5) aF) ε)) (aa (eF (kY (ah 10))) aF)))))) (bo (eC (.bl false))) bj)))
noncomputable def sF:Ev->Option Fl:=(aQ (bW 2 (aY (fR "fleet") (aj 1))) (aQ (bW 3 (cA (aa (gA ar "now" nr (aj 0) aF) (aa (gA ar "sky" fY (aj 0) aF) (aa (gA ar "done" lz (aj 0) aF) (aa (gA ar "names" eI (aj 0) aF) aF)))))) (aQ (bW 4 (cA (aa (aY (fR "hour") (aj 1)) (aa (aL dZ (aa (aj 1) aF)) (aa (aY (fR "deeds") (aj 1)) (aa (eF (eLC (gW (aj 2)) 1 [] (ao 0) ig (e2 ixD (ah 0) Vw))) aF)))))) (aQ (sIf (b_ (cZ (aL cu (aa (aj 3) (aa (aj 4) aF))))) (bo (eC (.bl false))) bj) (aQ (iX (gW (aj 2)) (eZ 6 (aD (ao 5) (aD (ao 6) (aD (ao 7) (aD (ao 8) (aD (ao 9) (aD (ao 10) bM))))))) (gR)) (bo (eC (.bl true))))))))
noncomputable def fC:List D->Option D:=fnD sD hG sF
noncomputable abbrev jE(Z:Wq):Prop:=OkD Z "_law_stands" (top 105) hG 7 fC
noncomputable abbrev wk:List Str:=["_law_flags","_law_names"]
noncomputable abbrev jv:List Str:=["_law_flags"]
noncomputable def vH:Ev->Option Fl:=(aQ (bW 1 (eF (iI (aa (eC (.str "BadName")) (aa (eC (.str "Taken")) (aa (eC (.str "NoBalloon")) (aa (eC (.str "BadHour")) (aa (eC (.str "Past")) (aa (eC (.str "Late")) (aa (eC (.str "BadPlace")) (aa (eC (.str "BadHeight")) (aa (eC (.str "BadLoad")) (aa (eC (.str "BadWind")) aF))))))))))))) (aQ (bW 1 (eF (r8 (ah 1) (eF (iI (aa (eC (.str "BadBox")) (aa (eC (.str "BadOrder")) (aa (eC (.str "Twice")) (aa (eC (.str "NotAloft")) (aa (eC (.str "NotLost")) (aa (eC (.str "NotLow")) (aa (eC (.str "OutOfSight")) (aa (eC (.str "NoHold")) (aa (eC (.str "Full")) aF)))))))))))))) (bo (e2 CatI.C2 (cA (aa (eC (.str "no")) aF)) (aY (λd=>BN [d]) (eF (eLC (zT (aa (aj 1) (aa (aj 0) aF))) 2 [] (eZ 2 (aD (ao 0) (aD (ao 1) bM))) (cZ (ah 1)) (aj 0))))))))
noncomputable def qi:List D->Option D:=fnD wk jv vH
noncomputable abbrev p0(Z:Wq):Prop:=OkD Z "_law_only" (top 107) jv 1 qi
noncomputable abbrev qS:List Str:=["_law_call_here","_law_deed","_law_part"]
noncomputable abbrev gC:List Str:=["_law_call_here"]
noncomputable def ow:Ev->Option Fl:=(sIf (cZ (h_ (gq "tuple") (ah 2))) (bW 1 (e2 BY (ah 1) (ah 2))) (bW 1 (e2 BY (ah 1) (cA (aa (aj 2) aF)))))
noncomputable def rO:Ev->Option Fl:=(aQ (sIf (aG cH (e2 ixD (ah 0) Vw) (eC (.str "drift"))) (bo (cA (aa (eC (.str "drift")) (aa (aY (λd=>BN [d]) (e2 ixD (ah 0) Vy)) aF)))) bj) (aQ (bW 1 (cA aF)) (aQ (iX (Cr (aj 0)) (ao 2) (ow)) (bo (aj 1)))))
noncomputable def rW:List D->Option D:=fnD qS gC rO
noncomputable abbrev lO(Z:Wq):Prop:=OkD Z "_law_deed_of" (top 100) gC 1 rW
noncomputable abbrev g_:List Str:=["x","y"]
noncomputable abbrev h8:List Str:=["x","y"]
noncomputable def su:Ev->Option Fl:=(sIf (b_ (cI (gw leI leI (kJ (eC (.int 999))) (ah 0) (eC (.int 999))) (gw leI leI (kJ (eC (.int 999))) (ah 1) (eC (.int 999))))) (cx "BadPlace") bj)
noncomputable def fq:List D->Option Out:=fnX g_ h8 su
noncomputable abbrev jI(Z:Wq):Prop:=OkX Z "check_place" (top 67) h8 3 fq
noncomputable abbrev oH:List Str:=["hill","x","y","top"]
noncomputable abbrev iw:List Str:=["hill"]
noncomputable def uV:Ev->Option Fl:=(aQ (mV (aj 0) (ja 3 (aD (ao 1) (aD (ao 2) (aD (ao 3) bM))))) (aQ (sXe fq (aa (aj 1) (aa (aj 2) aF))) (sIf (b_ (gw leI leI Vy (ah 3) (eC (.int 5)))) (cx "BadHeight") bj)))
noncomputable def kh:List D->Option Out:=fnX oH iw uV
noncomputable abbrev n9(Z:Wq):Prop:=OkX Z "check_hill" (top 76) iw 4 kh
noncomputable abbrev ij:List Str:=["hour","first","last"]
noncomputable abbrev fH:List Str:=["hour","first","last"]
noncomputable def qw:Ev->Option Fl:=(sIf (b_ (gw leI leI (ah 1) (ah 0) (ah 2))) (cx "BadHour") bj)
noncomputable def dE:List D->Option Out:=fnX ij fH qw
noncomputable abbrev ik(Z:Wq):Prop:=OkX Z "check_between" (top 73) fH 3 dE
noncomputable abbrev fK:List Str:=["hills","cool","hill","at","hour"]
noncomputable abbrev fP:List Str:=["hills","cool"]
noncomputable def c_:Ev->Option Fl:=(sXe kh (aa (aj 2) aF))
noncomputable def dj:Ev->Option Fl:=(aQ (sXe dE (aa (aj 4) (aa Vw (aa (e2 h9 (eC (.int 24)) Vy) aF)))) (sIf (aG (inD false) (ah 4) (eF (eSl (ah 1) dC (bf (ah 3))))) (cx "Twice") bj))
noncomputable def kC:Ev->Option Fl:=(aQ (sIf (iY (aG gtI (aY dJ (ah 0)) (eC (.int 20))) (aG gtI (aY dJ (ah 1)) (eC (.int 24)))) (cx "Full") bj) (aQ (iX (gW (aj 0)) (ao 2) (c_)) (iX (qZ (aj 1)) (eZ 2 (aD (ao 3) (aD (ao 4) bM))) (dj))))
noncomputable def dB:List D->Option Out:=fnX fK fP kC
noncomputable abbrev kA(Z:Wq):Prop:=OkX Z "check_opening" (top 77) fP 5 dB
noncomputable abbrev xt:List Str:=["box","x1","y1","x2","y2","low","high"]
noncomputable abbrev j4:List Str:=["box"]
noncomputable def yq:Ev->Option Fl:=(aQ (mV (aj 0) (ja 6 (aD (ao 1) (aD (ao 2) (aD (ao 3) (aD (ao 4) (aD (ao 5) (aD (ao 6) bM)))))))) (bo (i_ (Ad (kJ (eC (.int 999))) (mq leI (ah 1) (mq leI (ah 3) (tL leI (eC (.int 999)))))) (i_ (Ad (kJ (eC (.int 999))) (mq leI (ah 2) (mq leI (ah 4) (tL leI (eC (.int 999)))))) (Ad Vw (mq leI (ah 5) (mq leI (ah 6) (tL leI (eC (.int 5))))))))))
noncomputable def kc:List D->Option D:=fnD xt j4 yq
noncomputable abbrev rH(Z:Wq):Prop:=OkD Z "good_box" (top 4) j4 1 kc
noncomputable abbrev pS:List Str:=["box"]
noncomputable abbrev ju:List Str:=["box"]
noncomputable def vp:Ev->Option Fl:=(sIf (b_ (cZ (aL kc (aa (aj 0) aF)))) (cx "BadBox") bj)
noncomputable def k_:List D->Option Out:=fnX pS ju vp
noncomputable abbrev qp(Z:Wq):Prop:=OkX Z "check_box" (top 70) ju 3 k_
noncomputable abbrev oI:List Str:=["now","box","first","last"]
noncomputable abbrev iD:List Str:=["now","box","first","last"]
noncomputable def uX:Ev->Option Fl:=(aQ (sXe k_ (aa (aj 1) aF)) (aQ (sXe dE (aa (aj 2) (aa Vw (aa (eC (.int 24)) aF)))) (aQ (sXe dE (aa (aj 3) (aa (aj 2) (aa (eC (.int 24)) aF)))) (sIf (aG leI (ah 2) (ah 0)) (cx "Past") bj))))
noncomputable def eB:List D->Option Out:=fnX oI iD uX
noncomputable abbrev nY(Z:Wq):Prop:=OkX Z "check_shut" (top 75) iD 4 eB
noncomputable abbrev ub:List Str:=["name"]
noncomputable abbrev iC:List Str:=["name"]
noncomputable def uc:Ev->Option Fl:=(sIf (iY (b_ (gw leI leI Vy (aY mx (aj 0)) (eC (.int 6)))) (b_ (cZ (aL mz (aa (eF (eLC (rJ (aj 0)) 1 [] (ao 0) ig (e2 (inS false) (ah 0) (eC (.str "abcdefghijklmnopqrstuvwxyz"))))) aF))))) (cx "BadName") bj)
noncomputable def ka:List D->Option Out:=fnX ub iC uc
noncomputable abbrev oM(Z:Wq):Prop:=OkX Z "check_name" (top 71) iC 3 ka
noncomputable abbrev kS:List Str:=["height"]
noncomputable abbrev gO:List Str:=["height"]
noncomputable def qO:Ev->Option Fl:=(sIf (b_ (gw leI leI Vw (ah 0) (eC (.int 5)))) (cx "BadHeight") bj)
noncomputable def gK:List D->Option Out:=fnX kS gO qO
noncomputable abbrev lT(Z:Wq):Prop:=OkX Z "check_height" (top 68) gO 3 gK
noncomputable abbrev mn:List Str:=["state","x","y","height","sacks","puffs"]
noncomputable abbrev hV:List Str:=["state"]
noncomputable def mB:Ev->Option Fl:=(aQ (mV (aj 0) (ja 5 (aD (ao 1) (aD (ao 2) (aD (ao 3) (aD (ao 4) (aD (ao 5) bM))))))) (aQ (sXe fq (aa (aj 1) (aa (aj 2) aF))) (aQ (sXe gK (aa (aj 3) aF)) (sIf (b_ (cI (gw leI leI Vw (ah 4) (eC (.int 6))) (gw leI leI Vw (ah 5) (eC (.int 6))))) (cx "BadLoad") bj))))
noncomputable def jF:List D->Option Out:=fnX mn hV mB
noncomputable abbrev mE(Z:Wq):Prop:=OkX Z "check_state" (top 69) hV 4 jF
noncomputable abbrev lI:List Str:=["hills","x","y","tops"]
noncomputable abbrev fZ:List Str:=["hills","x","y"]
noncomputable def ie:Ev->Option Fl:=(aQ (bW 3 (eF (eLC (gW (aj 0)) 3 [1,2] (eZ 3 (aD (ao 0) (aD (ao 1) (aD (ao 2) bM)))) (cI (aG cH (ah 0) (ah 3)) (aG cH (ah 1) (ah 4))) (aj 2)))) (bo (e2 sX (aj 3) Vw)))
noncomputable def f_:List D->Option D:=fnD lI fZ ie
noncomputable abbrev pK(Z:Wq):Prop:=OkD Z "ground_at" (top 7) fZ 1 f_
noncomputable abbrev sj:List Str:=["box","x","y","height","x1","y1","x2","y2","low","high"]
noncomputable abbrev jV:List Str:=["box","x","y","height"]
noncomputable def nX:Ev->Option Fl:=(aQ (mV (aj 0) (ja 6 (aD (ao 4) (aD (ao 5) (aD (ao 6) (aD (ao 7) (aD (ao 8) (aD (ao 9) bM)))))))) (bo (i_ (eCh leI leI (ah 4) (ah 1) (ah 6)) (i_ (eCh leI leI (ah 5) (ah 2) (ah 7)) (eCh leI leI (ah 8) (ah 3) (ah 9))))))
noncomputable def jP:List D->Option D:=fnD sj jV nX
noncomputable abbrev we(Z:Wq):Prop:=OkD Z "inside" (top 5) jV 1 jP
noncomputable abbrev oX:List Str:=["shuts","hour","x","y","height","shut"]
noncomputable abbrev iN:List Str:=["shuts","hour","x","y","height"]
noncomputable def cn:Ev->Option Fl:=(sIf (cI (gw leI leI (e2 ixD (ah 5) (eC (.int 6))) (ah 1) (e2 ixD (ah 5) (eC (.int 7)))) (cZ (aL jP (aa (mY (ah 5) dC (bf (eC (.int 6)))) (aa (aj 2) (aa (aj 3) (aa (aj 4) aF))))))) (bo (eC (.bl true))) bj)
noncomputable def lZ:Ev->Option Fl:=(aQ (iX (gW (aj 0)) (ao 5) (cn)) (bo (eC (.bl false))))
noncomputable def iO:List D->Option D:=fnD oX iN lZ
noncomputable abbrev tj(Z:Wq):Prop:=OkD Z "shut_at" (top 11) iN 2 iO
noncomputable abbrev il:List Str:=["sky","hour","state","hills","cool","winds","shuts","x","y","height","sacks","puffs"]
noncomputable abbrev cJ:List Str:=["sky","hour","state"]
noncomputable def fM:Ev->Option Fl:=(aQ (mV (aj 0) (ja 4 (aD (ao 3) (aD (ao 4) (aD (ao 5) (aD (ao 6) bM)))))) (aQ (mV (aj 2) (ja 5 (aD (ao 7) (aD (ao 8) (aD (ao 9) (aD (ao 10) (aD (ao 11) bM))))))) (aQ (sIf (aG ltI (ah 9) (aL f_ (aa (aj 3) (aa (aj 7) (aa (aj 8) aF))))) (bo (eC (.str "hill"))) bj) (aQ (sIf (cZ (aL iO (aa (aj 6) (aa (aj 1) (aa (aj 7) (aa (aj 8) (aa (aj 9) aF))))))) (bo (eC (.str "shut"))) bj) (bo (eC (.str "")))))))
noncomputable def cy:List D->Option D:=fnD il cJ fM
noncomputable abbrev kz(Z:Wq):Prop:=OkD Z "why_not_stand" (top 12) cJ 3 cy
noncomputable abbrev xG:List Str:=["name","hour","state"]
noncomputable abbrev j8:List Str:=["name","hour","state"]
noncomputable def yp:Ev->Option Fl:=(bo (eMk aV gi [.int 0,.tup []] (aa (aj 0) (aa (eC (.str "aloft")) (aa (aj 2) (aa (cA (aa (e2 CatI.C2 (cA (aa (aj 1) aF)) (ah 2)) aF)) aF))))))
noncomputable def ki:List D->Option D:=fnD xG j8 yp
noncomputable abbrev qT(Z:Wq):Prop:=OkD Z "launched" (top 53) j8 3 ki
noncomputable abbrev n_:List Str:=["self"]
noncomputable abbrev dQ:List Str:=["self"]
noncomputable def nW:Ev->Option Fl:=(sIf (aG geI (aY dJ (aY (eJ ar "deeds") (aj 0))) (eC (.int 60))) (cx "Full") bj)
noncomputable def b8:List D->Option Out:=fnX n_ dQ nW
noncomputable abbrev dS(Z:Wq):Prop:=MtX Z ar "check_room" dQ 3 b8
noncomputable abbrev sA:List Str:=["self","name","state","why"]
noncomputable abbrev Cj:List Str:=["_law_script","_law_numbers_here","_law_base_here","_law_hills","_law_cool","_law_book","_law_model","_law_box_here","_law_calls","_law_call_here","_law_k"]
noncomputable abbrev vV:List Str:=["_law_script"]
structure Md(Z:Wq):Prop where
 b_all:Z.mg "all" = none
 b_bool:Z.mg "bool" = none
 b_enumerate:Z.mg "enumerate" = none
 b_int:Z.mg "int" = none
 b_isinstance:Z.mg "isinstance" = none
 b_len:Z.mg "len" = none
 b_list:Z.mg "list" = none
 b_max:Z.mg "max" = none
 b_min:Z.mg "min" = none
 b_range:Z.mg "range" = none
 b_str:Z.mg "str" = none
 b_tuple:Z.mg "tuple" = none
 b_zip:Z.mg "zip" = none
 g_BOOK_EDGE:∃t,Z.mg "BOOK_EDGE" = some (.int 999 t)
 g_LAST_HOUR:∃t,Z.mg "LAST_HOUR" = some (.int 24 t)
 g_LONGEST_NAME:∃t,Z.mg "LONGEST_NAME" = some (.int 6 t)
 g_MOST_BALLOONS:∃t,Z.mg "MOST_BALLOONS" = some (.int 6 t)
 g_MOST_COOL:∃t,Z.mg "MOST_COOL" = some (.int 24 t)
 g_MOST_DEEDS:∃t,Z.mg "MOST_DEEDS" = some (.int 60 t)
 g_MOST_HILLS:∃t,Z.mg "MOST_HILLS" = some (.int 20 t)
 g_MOST_LEFT:∃t,Z.mg "MOST_LEFT" = some (.int 6 t)
 g_TOP_HEIGHT:∃t,Z.mg "TOP_HEIGHT" = some (.int 5 t)
 g_WIND_HOURS:∃t,Z.mg "WIND_HOURS" = some (.int 24 t)
 s_LETTERS:∃t,Z.mg "LETTERS" = some (.str "abcdefghijklmnopqrstuvwxyz" t)
 o_Balloon:ObK Z.K aV gi
 o_Book:ObK Z.K ar vm
theorem ra{Z:Wq}(R:FX Z "_law_numbers" (top 83) dY)(M:Md Z):lD Z:=bdB R λd _ _ _ _ _ _ _ _ hr=>(aw (q9 2 d (dI aE)) (aw (bJ 3 d ag) (aw (gz Q7 rfl (iA (DF.de (lP (ai 0) gN (bU KB)))) (aJ 4 d) (aw (bJ 3 d (ay a_ (DE.db (ay bB (DE.db (ay bB (DE.db (ay gE (ai 3) KB)) (DE.db (ay a_ (ai 4) KB)))) KB)) KB)) (aw (bJ 5 d (ay d7 (ai 4) (DE.db (ay Ce KB KB)))) (aw (bp (a8 oi (ai 5) KB (aP _)) (au (oZ 2 (ay a_ (ai 4) KB))) aU) (au (gz Q7 rfl (gB ag M.b_range) (aJ 6 d) (au (bp (a8 og (ai 5) KB (aP _)) (aw (oZ 2 (ay a_ (ai 5) KB)) (au (bJ 5 d (ay vg (ai 5) KB)))) aU)))))))) (aw (gz Q7 rfl (gB (ak 1) M.b_range) (aJ 6 d) (au (bp (a8 oi (DE.db (fQ (ai 2) M.b_len)) (ai 1) (aP _)) (aw (bJ 3 d (ay a_ (DE.db (ay bB (DE.db (ay bB (DE.db (ay bB (DE.db (ay Ce (ai 3) KB)) (DE.db (ay gE KB (ai 3))))) (DE.db (ay gE KB (ai 6))))) KB)) KB)) (au (oZ 2 (ay a_ (DE.db (ay vg (ai 3) KB)) KB)))) aU))) (au (Eh (lP (ai 2) gN (bU (ai 1)))))))))
theorem ql{Z:Wq}{f:Addr}{fd:QY}(R:FA Z.K Z.mg "_law_same" (top 84) eA f fd)(M:Md Z):∀(n:Nat) (base:Heap),FnOk Z.P Z.w Z.K Z.mg base CX0 (0+n) f fd eA (spF Z.K (gG n))
 |0,_=>DD
 |n+1,base=>by
  have GR:=ql R M n base;have sc:FnScope qh eA (aA (top 84)):=⟨rfl,rfl,rfl,by decide +kernel,rfl,by decide +kernel,by decide +kernel⟩;have d:=sc.nd;exact qz R.fu sc λcdv A outer s H E hr=>(aw (bp (DW.dt (mf (ck (DE.db (gI (T:="list") (by simp) (ai 1) M.b_isinstance M.b_list (by rfl)))) (jW (ck (DE.db (gI (T:="tuple") (by simp) (ai 1) M.b_isinstance M.b_tuple (by rfl))))))) (aw (bp (DW.dt (mf (a8 (lU hr) (DE.db (gI (T:="list") (by simp) (ai 0) M.b_isinstance M.b_list (by rfl))) (DE.db (gI (T:="list") (by simp) (ai 1) M.b_isinstance M.b_list (by rfl))) (aP _)) (jW (a8 (lU hr) (DE.db (gI (T:="tuple") (by simp) (ai 0) M.b_isinstance M.b_tuple (by rfl))) (DE.db (gI (T:="tuple") (by simp) (ai 1) M.b_isinstance M.b_tuple (by rfl))) (aP _))))) (au (aZ mJ)) aU) (au (aZ (iV (fg (cT hr) (DE.db (fQ (ai 0) M.b_len)) (DE.db (fQ (ai 1) M.b_len)) (aP _)) (pA (gM (xN rfl) M.b_all (by rfl) (ae (DF.de (pL (tn:=["_law_one","_law_other"]) (fr:=[]) (ix:=[]) rfl (Bu (ae (ak 0) (ae (ak 1) aE)) M.b_zip) (eY (by rfl) (by exact trivial) (by exact trivial) (by rfl) (by rfl) (by rfl) (by rfl) (by rfl)) (rY (dD (cw _) (dD (cw _) om))) (λ_ _ _ _ _=>(kX rfl (aK (aJ 0 (show(((["_law_one","_law_other"]:List Str)++([]:List Str)):List Str).Nodup by decide +kernel)) (aK (aJ 1 (show(((["_law_one","_law_other"]:List Str)++([]:List Str)):List Str).Nodup by decide +kernel)) cX)))) (λ_ _ _ _ _=>jf) (λ_ _ _ _ _=>(wV R GR hr (Qm _) (ae (ak 0) (ae (ak 1) aE)))))) aE))))))) aU) (aw (bp (DW.dt (mf (a8 w9 (ai 0) (DE.db mZ) (aP _)) (jW (a8 w9 (ai 1) (DE.db mZ) (aP _))))) (au (aZ (iV (fg w9 (ai 0) (DE.db mZ) (aP _)) (pA (fg w9 (ai 1) (DE.db mZ) (aP _)))))) aU) (aw (bp (DW.dt (mf (a8 (lU hr) (DE.db (gI (T:="bool") (by simp) (ai 0) M.b_isinstance M.b_bool (by rfl))) (DE.db (gI (T:="bool") (by simp) (ai 1) M.b_isinstance M.b_bool (by rfl))) (aP _)) (jW (a8 (lU hr) (DE.db (gI (T:="int") (by simp) (ai 0) M.b_isinstance M.b_int (by rfl))) (DE.db (gI (T:="int") (by simp) (ai 1) M.b_isinstance M.b_int (by rfl))) (aP _))))) (au (aZ mJ)) aU) (au (aZ (fg (cT hr) (ai 0) (ai 1) (aP _)))))))
theorem wJ{Z:Wq}(R:FX Z "_law_same" (top 84) eA)(M:Md Z):kN Z:=let⟨f,fd,A⟩:=R;⟨f,fd,A,λbase=>(ql A.1 M 5 base).mono KE⟩
theorem vD{Z:Wq}(R:FX Z "_law_base" (top 85) jy)(M:Md Z):pT Z:=bdF R λd _ _ _ _ _ _ _ _ hr=>(aw (bp (a8 (cT hr) (DE.db (ay a_ (DE.db (aO (ai 0) KB)) KB)) KB (aP _)) (au (aZ (br (ae (ay d7 (DE.db (aO (ai 0) KB)) KB) (ae (ay d7 (DE.db (aO (ai 0) KB)) KB) aE))))) aU) (aw (bp (a8 (cT hr) (DE.db (ay a_ (DE.db (aO (ai 0) KB)) KB)) KB (aP _)) (au (aZ (br (ae (ay gE (DE.db (ay d7 (DE.db (ay a_ (DE.db (aO (ai 0) KB)) KB)) KB)) KB) (ae (ay gE (DE.db (ay d7 (DE.db (ay a_ (DE.db (aO (ai 0) KB)) KB)) KB)) KB) aE))))) aU) (au (aZ (br (ae ag (ae ag aE)))))))
theorem xD{Z:Wq}(R:FX Z "_law_box" (top 86) j9)(M:Md Z):qX Z:=bdF R λd _ _ _ _ _ _ _ _ hr=>(aw (bJ 2 d (ay d7 (DE.db (ay bB (DE.db (aO (ai 1) KB)) (DE.db (ay a_ (DE.db (aO (ai 0) KB)) KB)))) KB)) (aw (bJ 3 d (ay d7 (DE.db (ay bB (DE.db (aO (ai 1) KB)) (DE.db (ay a_ (DE.db (aO (ai 0) KB)) KB)))) KB)) (aw (bJ 4 d (ay a_ (DE.db (aO (ai 0) KB)) KB)) (au (aZ (br (ae (ak 2) (ae (ak 3) (ae (ay bB (ai 2) (DE.db (ay a_ (DE.db (aO (ai 0) KB)) KB))) (ae (ay bB (ai 3) (DE.db (ay a_ (DE.db (aO (ai 0) KB)) KB))) (ae (ak 4) (ae (ay bB (ai 4) (DE.db (ay a_ (DE.db (aO (ai 0) KB)) (DE.db (ay d7 KB (ai 4)))))) aE))))))))))))
theorem qV{Z:Wq}(R:FX Z "_law_opening" (top 99) gL)(M:Md Z):lr Z:=bdF R λd _ _ _ _ _ _ _ _ hr=>(aw (q9 2 d (dI aE)) (aw (gz Q7 rfl (gB (ay a_ (DE.db (aO (ai 0) KB)) KB) M.b_range) (aJ 3 d) (au (oZ 2 (br (ae (ay d7 (DE.db (ay bB (DE.db (aO (ai 1) KB)) (DE.db (ay a_ (DE.db (aO (ai 0) (DE.db (ay bB (DE.db (ay gE KB (ai 3))) KB)))) KB)))) KB) (ae (ay d7 (DE.db (ay bB (DE.db (aO (ai 1) KB)) (DE.db (ay a_ (DE.db (aO (ai 0) (DE.db (ay bB (DE.db (ay gE KB (ai 3))) KB)))) KB)))) KB) (ae (ay bB KB (DE.db (ay a_ (DE.db (aO (ai 0) (DE.db (ay bB (DE.db (ay gE KB (ai 3))) KB)))) KB))) aE))))))) (aw (q9 4 d (dI aE)) (aw (gz Q7 rfl (gB (ay a_ (DE.db (ay vg (DE.db (aO (ai 0) KB)) KB)) KB) M.b_range) (aJ 3 d) (au (bp (a8 w8 (DE.db (ay a_ (DE.db (aO (ai 0) (DE.db (ay bB KB (ai 3))))) KB)) (ai 4) (by with_unfolding_all rfl)) (au (oZ 4 (ay a_ (DE.db (aO (ai 0) (DE.db (ay bB KB (ai 3))))) KB))) aU))) (aw (bp (a8 (cT hr) (DE.db (ay a_ (DE.db (aO (ai 0) KB)) KB)) KB (aP _)) (au (CV 4 (tn:=["_law_j"]) (fr:=["_law_d"]) (ix:=[0]) rfl d (gB ag M.b_range) (eY (by rfl) (by exact⟨⟨rfl,rfl⟩,trivial⟩) (by exact⟨rfl,trivial⟩) (by rfl) (by rfl) (by rfl) (by rfl) (by rfl)) (cw _) (λ_ _ _ _ _=>(aJ 0 (show(((["_law_j"]:List Str)++(["_law_d"]:List Str)):List Str).Nodup by decide +kernel))) (λ_ _ _ _ _=>jf) (λ_ _ _ _ _=>(ay a_ (DE.db (ay bB (DE.db (ay gE KB (ai 0))) (DE.db (aO (ai 1) KB)))) KB)))) aU) (aw (bp (a8 oi (DE.db (ay a_ (DE.db (aO (ai 0) KB)) KB)) KB (aP _)) (au (gz Q7 rfl (gB (ay d7 KB (DE.db (fQ (ai 2) M.b_len))) M.b_range) (aJ 3 d) (au (oZ 2 (br (ae (ay d7 (DE.db (ay bB (DE.db (aO (ai 1) KB)) (DE.db (ay a_ (DE.db (ay bB (DE.db (ay gE KB (ai 3))) (DE.db (aO (ai 0) KB)))) KB)))) KB) (ae (ay d7 (DE.db (ay bB (DE.db (aO (ai 1) KB)) (DE.db (ay a_ (DE.db (ay bB (DE.db (ay gE KB (ai 3))) (DE.db (aO (ai 0) KB)))) KB)))) KB) (ae (ay bB KB (DE.db (ay a_ (ai 3) KB))) aE)))))))) aU) (au (Fh 4 (Fh 2 (aZ (br (ae (ak 2) (ae (ak 4) aE)))))))))))))
theorem v_{Z:Wq}(R:FX Z "_law_spot" (top 96) jq)(M:Md Z):lL Z:=bdF R λd _ _ _ _ _ _ _ _ hr=>(aw (gz Q7 rfl (gB (fQ (DE.db (gJ hr (ak 0))) M.b_len) M.b_range) (aJ 2 d) (au (bp (a8 (cT hr) (DE.db (aO (DE.db (aO (DE.db (gJ hr (ak 0))) (ai 2))) KB)) (ai 1) (aP _)) (au (aZ (ak 2))) aU))) (au (aZ mZ)))
theorem vO{Z:Wq}(R:FX Z "_law_name" (top 106) jA)(M:Md Z)(h__law_spot:lL Z):qf Z:=bdF R λd _ _ _ _ _ _ _ _ hr=>(aw (bJ 2 d aW) (aw (bJ 3 d (ay bB KB (DE.db (ay a_ (DE.db (aO (ai 0) KB)) KB)))) (aw (bJ 4 d (ay a_ (DE.db (aO (ai 0) KB)) (ai 3))) (aw (CV 5 (tn:=["_law_j"]) (fr:=["_law_letters","_law_d"]) (ix:=[2,0]) rfl d (gB (ak 3) M.b_range) (eY (by rfl) (by exact⟨⟨rfl,rfl⟩,⟨rfl,rfl⟩,trivial⟩) (by exact⟨rfl,rfl,trivial⟩) (by rfl) (by rfl) (by rfl) (by rfl) (by rfl)) (cw _) (λ_ _ _ _ _=>(aJ 0 (show(((["_law_j"]:List Str)++(["_law_letters","_law_d"]:List Str)):List Str).Nodup by decide +kernel))) (λ_ _ _ _ _=>jf) (λ_ _ _ _ _=>(BE (ai 1) (DE.db (ay a_ (DE.db (ay bB (DE.db (aO (ai 2) KB)) (DE.db (ay gE (DE.db (ay a_ (DE.db (aO (ai 2) KB)) KB)) (ai 0))))) KB))))) (aw (gz Q7 rfl (gB ag M.b_range) (aJ 6 d) (aw (l9 5 (BE (ai 2) (DE.db (ay a_ (DE.db (ay bB (DE.db (aO (ai 0) KB)) (ai 6))) KB))) (ai 4)) (au (bp (a8 w9 (DE.db (cF h__law_spot hr (ae (ak 1) (ae (vb (ai 5)) aE)))) (DE.db mZ) (aP _)) (au (aZ (vb (ai 5)))) aU)))) (au (aZ (vb (ai 5)))))))))
theorem ui{Z:Wq}(R:FX Z "_law_state" (top 87) iH)(M:Md Z):nS Z:=bdF R λd _ _ _ _ _ _ _ _ hr=>(aw (bJ 3 d (ay d7 (DE.db (ay bB (DE.db (aO (ai 1) KB)) (DE.db (ay a_ (DE.db (aO (ai 0) KB)) KB)))) KB)) (aw (bJ 4 d (ay d7 (DE.db (ay bB (DE.db (aO (ai 1) KB)) (DE.db (ay a_ (DE.db (aO (ai 0) KB)) KB)))) KB)) (au (aZ (br (ae (ak 3) (ae (ak 4) (ae (ay a_ (DE.db (aO (ai 0) KB)) KB) (ae (ay a_ (DE.db (aO (ai 0) KB)) (DE.db (ay bB (ai 2) KB))) (ae (ay a_ (DE.db (aO (ai 0) KB)) (DE.db (ay bB (ai 2) KB))) aE))))))))))
theorem vt{Z:Wq}(R:FX Z "_law_bent" (top 110) jw)(M:Md Z):p_ Z:=bdF R λd _ _ _ _ _ _ _ _ hr=>(aw (q9 2 d (jB (ai 0) M.b_list)) (aw (bJ 3 d (ay bB KB (DE.db (ay a_ (DE.db (aO (ai 1) KB)) (DE.db (ay d7 (DE.db (fQ (ai 2) M.b_len)) KB)))))) (aw (bJ 4 d (DF.de (dI (ae (jH KB) (ae ag (ae ag (ae ag (ae ag (ae ag (ae ag (ae (jH KB) (ae ag (ae (jH KB) (ae ag (ae ag aE))))))))))))))) (aw (bJ 5 d (aO (ai 2) (ai 3))) (aw (bp (ck (DE.db (gI (T:="str") (by simp) (ai 5) M.b_isinstance M.b_str (by rfl)))) (au (l9 2 (aO (DE.db (DF.de (dI (ae aW (ae aW (ae aW (ae aW (ae (ak 5) aE)))))))) (DE.db (ay a_ (DE.db (aO (ai 1) KB)) KB))) (ai 3))) aU) (aw (bp (ck (DE.db (gI (T:="int") (by simp) (ai 5) M.b_isinstance M.b_int (by rfl)))) (au (l9 2 (aO (ai 4) (DE.db (ay a_ (DE.db (aO (ai 1) KB)) KB))) (ai 3))) aU) (aw (bp (ck (DE.db (gI (T:="tuple") (by simp) (ai 5) M.b_isinstance M.b_tuple (by rfl)))) (aw (bJ 6 d (ay a_ (DE.db (aO (ai 1) KB)) (DE.db (fQ (ai 5) M.b_len)))) (au (l9 2 (ay zJ (DE.db (ay zJ (DE.db (m_ (ai 5) gN (bU (ai 6)))) (DE.db (br (ae (aO (ai 4) (DE.db (ay a_ (DE.db (aO (ai 1) KB)) KB))) aE))))) (DE.db (m_ (ai 5) (bU (DE.db (ay bB (ai 6) KB))) gN))) (ai 3)))) aU) (au (aZ (pF (ai 2) M.b_tuple))))))))))
theorem wH{Z:Wq}(R:FX Z "_law_call" (top 112) jr)(M:Md Z)(h__law_name:qf Z)(h__law_state:nS Z)(h__law_bent:p_ Z):kO Z:=bdF R λd _ _ _ _ _ _ _ _ hr=>(aw (bJ 3 d (cF h__law_name hr (ae (DF.de (lP (ai 0) (bU KB) (bU KB))) (ae (ak 1) aE)))) (aw (bp (a8 (cT hr) (DE.db (ay a_ (DE.db (aO (ai 0) KB)) KB)) KB (aP _)) (au (bJ 3 d (aO (DE.db (DF.de (dI (ae aW (ae aW (ae aW (ae aW (ae aW (ae aW (ae aW aE)))))))))) (DE.db (ay a_ (DE.db (aO (ai 0) KB)) KB))))) aU) (aw (bJ 4 d (br (ae aW (ae (ak 3) (ae (cF h__law_state hr (ae (DF.de (lP (ai 0) (bU KB) (bU KB))) (ae (ak 2) (ae ag aE)))) aE))))) (aw (bp (a8 (cT hr) (DE.db (ay a_ (DE.db (aO (ai 0) KB)) KB)) KB (aP _)) (au (bJ 4 d (cF h__law_bent hr (ae (ak 4) (ae (DF.de (uL (DE.db (DF.de (dI (ae ag aE)))) (DE.db (DF.de (lP (ai 0) (bU KB) (bU KB)))))) aE))))) aU) (aw (bp (a8 (cT hr) (DE.db (ay a_ (DE.db (aO (ai 0) KB)) KB)) KB (aP _)) (au (bJ 4 d (cF h__law_bent hr (ae (ak 4) (ae (DF.de (uL (DE.db (DF.de (dI (ae ag aE)))) (DE.db (DF.de (lP (ai 0) (bU KB) (bU KB)))))) aE))))) aU) (aw (bp (DW.dt (jZ (a8 (cT hr) (DE.db (ay a_ (DE.db (aO (ai 0) KB)) KB)) KB (aP _)) (iz (a8 og (DE.db (fQ (DE.db (gJ hr (ak 1))) M.b_len)) KB (aP _))))) (au (bJ 4 d (br (ae (aO (ai 4) KB) (ae (aO (DE.db (aO (DE.db (gJ hr (ak 1))) (DE.db (ay a_ (DE.db (aO (ai 0) KB)) (DE.db (fQ (DE.db (gJ hr (ak 1))) M.b_len)))))) KB) (ae (aO (ai 4) KB) aE)))))) aU) (au (aZ (ak 4)))))))))
theorem yJ{Z:Wq}(R:FX Z "_law_off" (top 97) jY)(M:Md Z):rC Z:=bdF R λd _ _ _ _ _ _ _ _ hr=>(au (aZ (Ib (fg oi (DE.db (gM (EB rfl) M.b_min (by rfl) (ae (ak 0) (ae (ak 1) aE)))) (DE.db (jH KB)) (aP _)) (pA (fg og (DE.db (gM (D0 rfl) M.b_max (by rfl) (ae (ak 0) (ae (ak 1) aE)))) KB (aP _))))))
theorem oV{Z:Wq}(R:FX Z "_law_bad_state" (top 98) eG)(M:Md Z)(h__law_off:rC Z):jL Z:=bdF R λd _ _ _ _ _ _ _ _ hr=>(aw (bp (ck (DE.db (cF h__law_off hr (ae (aO (ai 0) KB) (ae (aO (ai 0) KB) aE))))) (au (aZ aW)) aU) (aw (bp (DW.dt (mf (a8 oi (DE.db (aO (ai 0) KB)) KB (aP _)) (jW (a8 og (DE.db (aO (ai 0) KB)) KB (aP _))))) (au (aZ aW)) aU) (aw (bp (DW.dt (mf (a8 oi (DE.db (gM (Ew rfl) M.b_min (by rfl) (ae (m_ (ai 0) (bU KB) gN) aE))) KB (aP _)) (jW (a8 og (DE.db (gM (Du rfl) M.b_max (by rfl) (ae (m_ (ai 0) (bU KB) gN) aE))) KB (aP _))))) (au (aZ aW)) aU) (au (aZ aW)))))
theorem yj{Z:Wq}(R:FX Z "_law_air" (top 95) kl)(M:Md Z):ku Z:=bdF R λd _ _ _ _ _ _ _ _ hr=>(au (aZ (br (ae (gJ hr (ak 0)) (ae (gJ hr (ak 0)) (ae (gJ hr (ak 0)) (ae (gJ hr (ak 0)) aE)))))))
theorem sL{Z:Wq}(R:FX Z "_law_ground" (top 89) dF)(M:Md Z):mP Z:=bdF R λd _ _ _ _ _ _ _ _ hr=>(au (aZ (gM (Dw rfl) M.b_max (by rfl) (ae (DF.de (uL (DE.db (DF.de (dI (ae ag aE)))) (DE.db (DF.de (pL (tn:=["_law_a","_law_b","_law_top"]) (fr:=["_law_x","_law_y"]) (ix:=[1,2]) rfl (iA (ak 0)) (eY (by rfl) (by exact⟨⟨rfl,rfl⟩,⟨rfl,rfl⟩,trivial⟩) (by exact⟨rfl,rfl,trivial⟩) (by rfl) (by rfl) (by rfl) (by rfl) (by rfl)) (rY (dD (cw _) (dD (cw _) (dD (cw _) om)))) (λ_ _ _ _ _=>(kX rfl (aK (aJ 0 (show(((["_law_a","_law_b","_law_top"]:List Str)++(["_law_x","_law_y"]:List Str)):List Str).Nodup by decide +kernel)) (aK (aJ 1 (show(((["_law_a","_law_b","_law_top"]:List Str)++(["_law_x","_law_y"]:List Str)):List Str).Nodup by decide +kernel)) (aK (aJ 2 (show(((["_law_a","_law_b","_law_top"]:List Str)++(["_law_x","_law_y"]:List Str)):List Str).Nodup by decide +kernel)) cX))))) (λ_ _ _ _ _=>(qK (DW.dt (jZ (a8 (cT hr) (ai 0) (ai 3) (aP _)) (iz (a8 (cT hr) (ai 1) (ai 4) (aP _))))))) (λ_ _ _ _ _=>(ak 2))))))) aE))))
theorem Ah{Z:Wq}(R:FX Z "_law_in" (top 90) iK)(M:Md Z):sV Z:=bdF R λd _ _ _ _ _ _ _ _ hr=>(au (aZ (iV (fg bV (DE.db (aO (ai 0) KB)) (ai 1) (aP _)) (iV (fg bV (ai 1) (DE.db (aO (ai 0) KB)) (aP _)) (iV (fg bV (DE.db (aO (ai 0) KB)) (ai 2) (aP _)) (iV (fg bV (ai 2) (DE.db (aO (ai 0) KB)) (aP _)) (iV (fg bV (DE.db (aO (ai 0) KB)) (ai 3) (aP _)) (pA (fg bV (ai 3) (DE.db (aO (ai 0) KB)) (aP _))))))))))
theorem vR{Z:Wq}(R:FX Z "_law_shut" (top 91) gf)(M:Md Z)(h__law_in:sV Z):pO Z:=bdF R λd _ _ _ _ _ _ _ _ hr=>(au (aZ (fg zE (DE.db mJ) (DE.db (DF.de (pL (tn:=["_law_one"]) (fr:=["_law_x","_law_y","_law_z","_law_hour"]) (ix:=[2,3,4,1]) rfl (iA (ak 0)) (eY (by rfl) (by exact⟨⟨rfl,rfl⟩,⟨rfl,rfl⟩,⟨rfl,rfl⟩,⟨rfl,rfl⟩,trivial⟩) (by exact⟨rfl,rfl,rfl,rfl,trivial⟩) (by rfl) (by rfl) (by rfl) (by rfl) (by rfl)) (cw _) (λ_ _ _ _ _=>(aJ 0 (show(((["_law_one"]:List Str)++(["_law_x","_law_y","_law_z","_law_hour"]:List Str)):List Str).Nodup by decide +kernel))) (λ_ _ _ _ _=>(qK (DW.dt (jZ (a8 bV (DE.db (aO (ai 0) KB)) (ai 4) (aP _)) (iz (a8 bV (ai 4) (DE.db (aO (ai 0) KB)) (aP _))))))) (λ_ _ _ _ _=>(cF h__law_in hr (ae (m_ (ai 0) gN (bU KB)) (ae (ak 1) (ae (ak 2) (ae (ak 3) aE))))))))) (by with_unfolding_all rfl))))
theorem ur{Z:Wq}(R:FX Z "_law_stand" (top 92) eU)(M:Md Z)(h__law_ground:mP Z)(h__law_shut:pO Z):nG Z:=bdF R λd _ _ _ _ _ _ _ _ hr=>(aw (bp (a8 oi (DE.db (aO (ai 2) KB)) (DE.db (cF h__law_ground hr (ae (aO (ai 0) KB) (ae (aO (ai 2) KB) (ae (aO (ai 2) KB) aE))))) (aP _)) (au (aZ aW)) aU) (aw (bp (ck (DE.db (cF h__law_shut hr (ae (aO (ai 0) KB) (ae (ak 1) (ae (aO (ai 2) KB) (ae (aO (ai 2) KB) (ae (aO (ai 2) KB) aE)))))))) (au (aZ aW)) aU) (au (aZ aW))))
theorem uW{Z:Wq}(R:FX Z "_law_fault" (top 111) iy)(M:Md Z)(h__law_spot:lL Z)(h__law_bad_state:jL Z)(h__law_air:ku Z)(h__law_stand:nG Z):kj Z:=bdF R λd _ _ _ _ _ _ _ _ hr=>(aw (lE (ak 1) (kZ rfl (aK (aJ 2 d) (aK (aJ 3 d) (aK (aJ 4 d) cX))))) (aw (bp (a8 (cT hr) (DE.db (fQ (DE.db (gJ hr (ak 0))) M.b_len)) KB (aP _)) (au (aZ (br (ae aW (ae aW aE))))) aU) (aw (bp (DW.dt (mf (a8 oi (DE.db (uk (ak 3) M.b_len)) KB (aP _)) (mf (a8 og (DE.db (uk (ak 3) M.b_len)) KB (aP _)) (jW (gQ (ck (DE.db (gM (xN rfl) M.b_all (by rfl) (ae (DF.de (pL (tn:=["_law_sign"]) (fr:=[]) (ix:=[]) rfl (Cq (ak 3)) (eY (by rfl) (by exact trivial) (by exact trivial) (by rfl) (by rfl) (by rfl) (by rfl) (by rfl)) (cw _) (λ_ _ _ _ _=>(aJ 0 (show(((["_law_sign"]:List Str)++([]:List Str)):List Str).Nodup by decide +kernel))) (λ_ _ _ _ _=>jf) (λ_ _ _ _ _=>(fg Bp (ai 0) (DE.db aW) (by with_unfolding_all rfl))))) aE))))))))) (au (aZ (br (ae aW (ae aW aE))))) aU) (aw (bp (a8 B7 (DE.db (cF h__law_spot hr (ae (ak 0) (ae (ak 3) aE)))) (DE.db mZ) (aP _)) (au (aZ (br (ae aW (ae aW aE))))) aU) (aw (bJ 5 d (cF h__law_bad_state hr (ae (ak 4) aE))) (aw (bp (a8 (lU hr) (ai 5) (DE.db aW) (aP _)) (au (aZ (br (ae aW (ae (ak 5) aE))))) aU) (aw (bJ 6 d (cF h__law_stand hr (ae (cF h__law_air hr (ae (ak 0) aE)) (ae (gJ hr (ak 0)) (ae (ak 4) aE))))) (aw (bp (a8 (lU hr) (ai 6) (DE.db aW) (aP _)) (au (aZ (br (ae aW (ae aW (ae ag (ae (ak 6) aE))))))) aU) (au (aZ (br aE)))))))))))
theorem ux{Z:Wq}(R:MT Z.K ar "names" "Book.names" (cm (top 81) 22) iF)(M:Md Z):kn Z:=bdM R λd _ _ _ _ _ _ _ _ hr=>(au (aZ (DF.de (pL (tn:=["balloon"]) (fr:=[]) (ix:=[]) rfl (iA (dq M.o_Book.1 (M.o_Book.2 "balloons" (by decide)) (ak 0))) (eY (by rfl) (by exact trivial) (by exact trivial) (by rfl) (by rfl) (by rfl) (by rfl) (by rfl)) (cw _) (λ_ _ _ _ _=>(aJ 0 (show(((["balloon"]:List Str)++([]:List Str)):List Str).Nodup by decide +kernel))) (λ_ _ _ _ _=>jf) (λ_ _ _ _ _=>(dq M.o_Balloon.1 (M.o_Balloon.2 "name" (by decide)) (ak 0)))))))
theorem wc{Z:Wq}(R:MT Z.K ar "done" "Book.done" (cm (top 81) 21) jm)(M:Md Z):qg Z:=bdM R λd _ _ _ _ _ _ _ _ hr=>(au (aZ (DF.de (jB (DE.db (dq M.o_Book.1 (M.o_Book.2 "deeds" (by decide)) (ak 0))) M.b_list))))
theorem yA{Z:Wq}(R:MT Z.K ar "sky" "Book.sky" (cm (top 81) 20) kq)(M:Md Z):ke Z:=bdM R λd _ _ _ _ _ _ _ _ hr=>(au (aZ (br (ae (DF.de (jB (DE.db (dq M.o_Book.1 (M.o_Book.2 "hills" (by decide)) (ak 0))) M.b_list)) (ae (DF.de (jB (DE.db (dq M.o_Book.1 (M.o_Book.2 "cool" (by decide)) (ak 0))) M.b_list)) (ae (DF.de (jB (DE.db (dq M.o_Book.1 (M.o_Book.2 "winds" (by decide)) (ak 0))) M.b_list)) (ae (DF.de (jB (DE.db (dq M.o_Book.1 (M.o_Book.2 "shuts" (by decide)) (ak 0))) M.b_list)) aE)))))))
theorem xZ{Z:Wq}(R:MT Z.K ar "now" "Book.now" (cm (top 81) 19) kr)(M:Md Z):qR Z:=bdM R λd _ _ _ _ _ _ _ _ hr=>(au (aZ (dq M.o_Book.1 (M.o_Book.2 "hour" (by decide)) (ak 0))))
theorem pD{Z:Wq}(R:MT Z.K ar "number_of" "Book.number_of" (cm (top 81) 3) eO)(M:Md Z)(he_NoBalloon:uy Z):jS Z:=let⟨_,_,hE_NoBalloon⟩:=he_NoBalloon;wF R λd _ _ _ _ _ _ _ _ hr=>(aw (gz Ex.jx rfl (zv (dq M.o_Book.1 (M.o_Book.2 "balloons" (by decide)) (ak 0)) M.b_enumerate) (kX rfl (aK (aJ 2 d) (aK (aJ 3 d) cX))) (au (bp (a8 (cT hr) (DE.db (dq M.o_Balloon.1 (M.o_Balloon.2 "name" (by decide)) (ak 3))) (ai 1) (aP _)) (au (aZ (ak 2))) aU))) (au (bY hE_NoBalloon hr rfl)))
theorem uf{Z:Wq}(R:MT Z.K ar "found" "Book.found" (cm (top 81) 4) iu)(M:Md Z)(h_Book_number_of:jS Z):gF Z:=wF R λd _ _ _ _ _ _ _ _ hr=>(au (qE (Jh (dq M.o_Book.1 (M.o_Book.2 "balloons" (by decide)) (ak 0)) (l0 M.o_Book.1 h_Book_number_of hr (ak 0) (ae (ak 1) aE)))))
theorem x_{Z:Wq}(R:MT Z.K ar "log" "Book.log" (cm (top 81) 25) jX)(M:Md Z)(h_Book_found:gF Z):rL Z:=wF R λd _ _ _ _ _ _ _ _ hr=>(au (qE (yY M.b_list (xw M.o_Balloon.1 (M.o_Balloon.2 "path" (by decide)) (l0 M.o_Book.1 h_Book_found hr (ak 0) (ae (ak 1) aE))))))
theorem sN{Z:Wq}(R:MT Z.K ar "status" "Book.status" (cm (top 81) 23) hW)(M:Md Z)(h_Book_found:gF Z):mr Z:=wF R λd _ _ _ _ _ _ _ _ hr=>(au (qE (xw M.o_Balloon.1 (M.o_Balloon.2 "fate" (by decide)) (l0 M.o_Book.1 h_Book_found hr (ak 0) (ae (ak 1) aE)))))
theorem u_{Z:Wq}(R:MT Z.K ar "state" "Book.state" (cm (top 81) 24) ir)(M:Md Z)(h_Book_found:gF Z)(he_OutOfSight:sJ Z):nL Z:=let⟨_,_,hE_OutOfSight⟩:=he_OutOfSight;wF R λd _ _ _ _ _ _ _ _ hr=>(aw (zy 2 d (l0 M.o_Book.1 h_Book_found hr (ak 0) (ae (ak 1) aE))) (aw (bp (a8 w8 (DE.db (dq M.o_Balloon.1 (M.o_Balloon.2 "fate" (by decide)) (ak 2))) (DE.db (br (ae aW (ae aW aE)))) (by with_unfolding_all rfl)) (au (bY hE_OutOfSight hr rfl)) aU) (au (aZ (dq M.o_Balloon.1 (M.o_Balloon.2 "last" (by decide)) (ak 2))))))
theorem nM{Z:Wq}(R:MT Z.K ar "found_lost" "Book.found_lost" (cm (top 81) 6) dP)(M:Md Z)(h_Book_found:gF Z)(he_NotLost:xu Z):je Z:=let⟨_,_,hE_NotLost⟩:=he_NotLost;wF R λd _ _ _ _ _ _ _ _ hr=>(aw (zy 2 d (l0 M.o_Book.1 h_Book_found hr (ak 0) (ae (ak 1) aE))) (aw (bp (a8 (lU hr) (DE.db (dq M.o_Balloon.1 (M.o_Balloon.2 "fate" (by decide)) (ak 2))) (DE.db aW) (aP _)) (au (bY hE_NotLost hr rfl)) aU) (au (aZ (ak 2)))))
theorem pk{Z:Wq}(R:MT Z.K ar "sightings" "Book.sightings" (cm (top 81) 33) eM)(M:Md Z)(h_Book_found_lost:je Z):jQ Z:=wF R λd _ _ _ _ _ _ _ _ hr=>(au (qE (yY M.b_list (xw M.o_Balloon.1 (M.o_Balloon.2 "reports" (by decide)) (l0 M.o_Book.1 h_Book_found_lost hr (ak 0) (ae (ak 1) aE))))))
theorem sM{Z:Wq}(R:FX Z "_law_stands" (top 105) hG)(M:Md Z)(h_Book_names:kn Z)(h_Book_done:qg Z)(h_Book_sky:ke Z)(h_Book_now:qR Z)(h__law_air:ku Z)(h__law_same:kN Z)(h_Book_log:rL Z)(h_Book_status:mr Z)(h_Book_state:nL Z)(h_Book_sightings:jQ Z):jE Z:=bdF R λd _ _ _ _ _ _ _ _ hr=>(aw (bJ 2 d (gJ hr (ak 1))) (aw (bJ 3 d (br (ae (jM M.o_Book.1 h_Book_now hr (ak 0)) (ae (jM M.o_Book.1 h_Book_sky hr (ak 0)) (ae (jM M.o_Book.1 h_Book_done hr (ak 0)) (ae (jM M.o_Book.1 h_Book_names hr (ak 0)) aE)))))) (aw (bJ 4 d (br (ae (gJ hr (ak 1)) (ae (cF h__law_air hr (ae (ak 1) aE)) (ae (gJ hr (ak 1)) (ae (DF.de (pL (tn:=["_law_one"]) (fr:=[]) (ix:=[]) rfl (iA (ak 2)) (eY (by rfl) (by exact trivial) (by exact trivial) (by rfl) (by rfl) (by rfl) (by rfl) (by rfl)) (cw _) (λ_ _ _ _ _=>(aJ 0 (show(((["_law_one"]:List Str)++([]:List Str)):List Str).Nodup by decide +kernel))) (λ_ _ _ _ _=>jf) (λ_ _ _ _ _=>(aO (ai 0) KB)))) aE)))))) (aw (bp (gQ (ck (DE.db (cF h__law_same hr (ae (ak 3) (ae (ak 4) aE)))))) (au (aZ mJ)) aU) (aw (gz Q7 rfl (iA (ak 2)) (kX rfl (aK (aJ 5 d) (aK (aJ 6 d) (aK (aJ 7 d) (aK (aJ 8 d) (aK (aJ 9 d) (aK (aJ 10 d) cX))))))) (aw (bp (gQ (ck (DE.db (cF h__law_same hr (ae (br (ae (oP M.o_Book.1 h_Book_status hr (ak 0) (ae (ak 5) aE)) (ae (oP M.o_Book.1 h_Book_log hr (ak 0) (ae (ak 5) aE)) aE))) (ae (br (ae (ak 6) (ae (DF.de (jB (ai 8) M.b_list)) aE))) aE)))))) (au (aZ mJ)) aU) (aw (bp (DW.dt (jZ (a8 zE (ai 6) (DE.db (br (ae aW (ae aW aE)))) (by with_unfolding_all rfl)) (iz (gQ (ck (DE.db (cF h__law_same hr (ae (oP M.o_Book.1 h_Book_state hr (ak 0) (ae (ak 5) aE)) (ae (ak 7) aE))))))))) (au (aZ mJ)) aU) (au (bp (DW.dt (jZ (a8 (cT hr) (ai 6) (DE.db aW) (aP _)) (iz (gQ (ck (DE.db (cF h__law_same hr (ae (oP M.o_Book.1 h_Book_sightings hr (ak 0) (ae (ak 5) aE)) (ae (DF.de (jB (ai 10) M.b_list)) aE))))))))) (au (aZ mJ)) aU))))) (au (aZ mJ)))))))
theorem vB{Z:Wq}(R:FX Z "_law_only" (top 107) jv)(M:Md Z):p0 Z:=bdF R λd _ _ _ _ _ _ _ _ hr=>(aw (bJ 1 d (DF.de (dI (ae aW (ae aW (ae aW (ae aW (ae aW (ae aW (ae aW (ae aW (ae aW (ae aW aE))))))))))))) (aw (bJ 1 d (DF.de (uL (ai 1) (DE.db (DF.de (dI (ae aW (ae aW (ae aW (ae aW (ae aW (ae aW (ae aW (ae aW (ae aW aE))))))))))))))) (au (aZ (ay rN (DE.db (br (ae aW aE))) (DE.db (pF (DE.db (DF.de (pL (tn:=["_law_name_here","_law_flag"]) (fr:=[]) (ix:=[]) rfl (Bu (ae (ak 1) (ae (ak 0) aE)) M.b_zip) (eY (by rfl) (by exact trivial) (by exact trivial) (by rfl) (by rfl) (by rfl) (by rfl) (by rfl)) (rY (dD (cw _) (dD (cw _) om))) (λ_ _ _ _ _=>(kX rfl (aK (aJ 0 (show(((["_law_name_here","_law_flag"]:List Str)++([]:List Str)):List Str).Nodup by decide +kernel)) (aK (aJ 1 (show(((["_law_name_here","_law_flag"]:List Str)++([]:List Str)):List Str).Nodup by decide +kernel)) cX)))) (λ_ _ _ _ _=>(qK (ck (ai 1)))) (λ_ _ _ _ _=>(ak 0))))) M.b_tuple)))))))
theorem r9{Z:Wq}(R:FX Z "_law_deed_of" (top 100) gC)(M:Md Z):lO Z:=bdF R λd _ _ _ _ _ _ _ _ hr=>(aw (bp (a8 (cT hr) (DE.db (aO (ai 0) KB)) (DE.db aW) (aP _)) (au (aZ (br (ae aW (ae (pF (DE.db (aO (ai 0) KB)) M.b_tuple) aE))))) aU) (aw (bJ 1 d (br aE)) (aw (gz Q7 rfl (GY (ak 0)) (aJ 2 d) (au (bp (ck (DE.db (gI (T:="tuple") (by simp) (ai 2) M.b_isinstance M.b_tuple (by rfl)))) (au (bJ 1 d (ay uA (ai 1) (ai 2)))) (au (bJ 1 d (ay uA (ai 1) (DE.db (br (ae (ak 2) aE))))))))) (au (aZ (ak 1))))))
theorem sx{Z:Wq}(R:FX Z "check_place" (top 67) h8)(M:Md Z)(he_BadPlace:xf Z):jI Z:=let⟨_,gi_BOOK_EDGE⟩:=M.g_BOOK_EDGE;let⟨_,_,hE_BadPlace⟩:=he_BadPlace;bdX R λd _ _ _ _ _ _ _ _ hr=>(au (bp (gQ (DW.dt (jZ (oO bV bV (DE.db (jH (DE.db (cf rfl gi_BOOK_EDGE)))) (ai 0) (DE.db (cf rfl gi_BOOK_EDGE))) (iz (oO bV bV (DE.db (jH (DE.db (cf rfl gi_BOOK_EDGE)))) (ai 1) (DE.db (cf rfl gi_BOOK_EDGE))))))) (au (bY hE_BadPlace hr rfl)) aU))
theorem tZ{Z:Wq}(R:FX Z "check_hill" (top 76) iw)(M:Md Z)(h_check_place:jI Z)(he_BadHeight:oa Z):n9 Z:=let⟨_,gi_TOP_HEIGHT⟩:=M.g_TOP_HEIGHT;let⟨_,_,hE_BadHeight⟩:=he_BadHeight;bdX R λd _ _ _ _ _ _ _ _ hr=>(aw (lE (ak 0) (kZ rfl (aK (aJ 1 d) (aK (aJ 2 d) (aK (aJ 3 d) cX))))) (aw (qb h_check_place hr (ae (ak 1) (ae (ak 2) aE))) (au (bp (gQ (oO bV bV KB (ai 3) (DE.db (cf rfl gi_TOP_HEIGHT)))) (au (bY hE_BadHeight hr rfl)) aU))))
theorem qv{Z:Wq}(R:FX Z "check_between" (top 73) fH)(M:Md Z)(he_BadHour:yF Z):ik Z:=let⟨_,_,hE_BadHour⟩:=he_BadHour;bdX R λd _ _ _ _ _ _ _ _ hr=>(au (bp (gQ (oO bV bV (ai 1) (ai 0) (ai 2))) (au (bY hE_BadHour hr rfl)) aU))
theorem qr{Z:Wq}(R:FX Z "check_opening" (top 77) fP)(M:Md Z)(h_check_hill:n9 Z)(h_check_between:ik Z)(he_Full:uz Z)(he_Twice:Bh Z):kA Z:=let⟨_,gi_MOST_COOL⟩:=M.g_MOST_COOL;let⟨_,gi_MOST_HILLS⟩:=M.g_MOST_HILLS;let⟨_,gi_WIND_HOURS⟩:=M.g_WIND_HOURS;let⟨_,_,hE_Full⟩:=he_Full;let⟨_,_,hE_Twice⟩:=he_Twice;bdX R λd _ _ _ _ _ _ _ _ hr=>(aw (bp (DW.dt (mf (a8 og (DE.db (fQ (ai 0) M.b_len)) (DE.db (cf rfl gi_MOST_HILLS)) (aP _)) (jW (a8 og (DE.db (fQ (ai 1) M.b_len)) (DE.db (cf rfl gi_MOST_COOL)) (aP _))))) (au (bY hE_Full hr rfl)) aU) (aw (gz Ex.jx rfl (iA (ak 0)) (aJ 2 d) (au (qb h_check_hill hr (ae (ak 2) aE)))) (au (gz Ex.jx rfl (zv (ak 1) M.b_enumerate) (kX rfl (aK (aJ 3 d) (aK (aJ 4 d) cX))) (aw (qb h_check_between hr (ae (ak 4) (ae ag (ae (ay d7 (DE.db (cf rfl gi_WIND_HOURS)) KB) aE)))) (au (bp (a8 zE (ai 4) (DE.db (DF.de (lP (ai 1) gN (bU (ai 3))))) (by with_unfolding_all rfl)) (au (bY hE_Twice hr rfl)) aU)))))))
theorem yc{Z:Wq}(R:FX Z "good_box" (top 4) j4)(M:Md Z):rH Z:=let⟨_,gi_BOOK_EDGE⟩:=M.g_BOOK_EDGE;let⟨_,gi_TOP_HEIGHT⟩:=M.g_TOP_HEIGHT;bdF R λd _ _ _ _ _ _ _ _ hr=>(aw (lE (ak 0) (kZ rfl (aK (aJ 1 d) (aK (aJ 2 d) (aK (aJ 3 d) (aK (aJ 4 d) (aK (aJ 5 d) (aK (aJ 6 d) cX)))))))) (au (aZ (iV (yy (DE.db (jH (DE.db (cf rfl gi_BOOK_EDGE)))) (l7 bV (ai 1) (l7 bV (ai 3) (uD bV (DE.db (cf rfl gi_BOOK_EDGE)))))) (iV (yy (DE.db (jH (DE.db (cf rfl gi_BOOK_EDGE)))) (l7 bV (ai 2) (l7 bV (ai 4) (uD bV (DE.db (cf rfl gi_BOOK_EDGE)))))) (pA (yy KB (l7 bV (ai 5) (l7 bV (ai 6) (uD bV (DE.db (cf rfl gi_TOP_HEIGHT))))))))))))
theorem xa{Z:Wq}(R:FX Z "check_box" (top 70) ju)(M:Md Z)(h_good_box:rH Z)(he_BadBox:Aa Z):qp Z:=let⟨_,_,hE_BadBox⟩:=he_BadBox;bdX R λd _ _ _ _ _ _ _ _ hr=>(au (bp (gQ (ck (DE.db (cF h_good_box hr (ae (ak 0) aE))))) (au (bY hE_BadBox hr rfl)) aU))
theorem uR{Z:Wq}(R:FX Z "check_shut" (top 75) iD)(M:Md Z)(h_check_box:qp Z)(h_check_between:ik Z)(he_Past:Ea Z):nY Z:=let⟨_,gi_LAST_HOUR⟩:=M.g_LAST_HOUR;let⟨_,_,hE_Past⟩:=he_Past;bdX R λd _ _ _ _ _ _ _ _ hr=>(aw (qb h_check_box hr (ae (ak 1) aE)) (aw (qb h_check_between hr (ae (ak 2) (ae ag (ae (cf rfl gi_LAST_HOUR) aE)))) (aw (qb h_check_between hr (ae (ak 3) (ae (ak 2) (ae (cf rfl gi_LAST_HOUR) aE)))) (au (bp (a8 bV (ai 2) (ai 0) (aP _)) (au (bY hE_Past hr rfl)) aU)))))
theorem uH{Z:Wq}(R:FX Z "check_name" (top 71) iC)(M:Md Z)(he_BadName:xA Z):oM Z:=let⟨_,gs_LETTERS⟩:=M.s_LETTERS;let⟨_,gi_LONGEST_NAME⟩:=M.g_LONGEST_NAME;let⟨_,_,hE_BadName⟩:=he_BadName;bdX R λd _ _ _ _ _ _ _ _ hr=>(au (bp (DW.dt (mf (gQ (oO bV bV KB (DE.db (uk (ak 0) M.b_len)) (DE.db (cf rfl gi_LONGEST_NAME)))) (jW (gQ (ck (DE.db (gM (xN rfl) M.b_all (by rfl) (ae (DF.de (pL (tn:=["sign"]) (fr:=[]) (ix:=[]) rfl (Cq (ak 0)) (eY (by rfl) (by exact trivial) (by exact trivial) (by rfl) (by rfl) (by rfl) (by rfl) (by rfl)) (cw _) (λ_ _ _ _ _=>(aJ 0 (show(((["sign"]:List Str)++([]:List Str)):List Str).Nodup by decide +kernel))) (λ_ _ _ _ _=>jf) (λ_ _ _ _ _=>(fg Bp (ai 0) (DE.db (Dy rfl gs_LETTERS)) (by with_unfolding_all rfl))))) aE)))))))) (au (bY hE_BadName hr rfl)) aU))
theorem rZ{Z:Wq}(R:FX Z "check_height" (top 68) gO)(M:Md Z)(he_BadHeight:oa Z):lT Z:=let⟨_,gi_TOP_HEIGHT⟩:=M.g_TOP_HEIGHT;let⟨_,_,hE_BadHeight⟩:=he_BadHeight;bdX R λd _ _ _ _ _ _ _ _ hr=>(au (bp (gQ (oO bV bV KB (ai 0) (DE.db (cf rfl gi_TOP_HEIGHT)))) (au (bY hE_BadHeight hr rfl)) aU))
theorem sO{Z:Wq}(R:FX Z "check_state" (top 69) hV)(M:Md Z)(h_check_place:jI Z)(h_check_height:lT Z)(he_BadLoad:xj Z):mE Z:=let⟨_,gi_MOST_LEFT⟩:=M.g_MOST_LEFT;let⟨_,_,hE_BadLoad⟩:=he_BadLoad;bdX R λd _ _ _ _ _ _ _ _ hr=>(aw (lE (ak 0) (kZ rfl (aK (aJ 1 d) (aK (aJ 2 d) (aK (aJ 3 d) (aK (aJ 4 d) (aK (aJ 5 d) cX))))))) (aw (qb h_check_place hr (ae (ak 1) (ae (ak 2) aE))) (aw (qb h_check_height hr (ae (ak 3) aE)) (au (bp (gQ (DW.dt (jZ (oO bV bV KB (ai 4) (DE.db (cf rfl gi_MOST_LEFT))) (iz (oO bV bV KB (ai 5) (DE.db (cf rfl gi_MOST_LEFT))))))) (au (bY hE_BadLoad hr rfl)) aU)))))
theorem wz{Z:Wq}(R:FX Z "ground_at" (top 7) fZ)(M:Md Z):pK Z:=bdF R λd _ _ _ _ _ _ _ _ hr=>(aw (GF 3 (tn:=["hill_x","hill_y","top"]) (fr:=["x","y"]) (ix:=[1,2]) rfl d (iA (ak 0)) (eY (by rfl) (by exact⟨⟨rfl,rfl⟩,⟨rfl,rfl⟩,trivial⟩) (by exact⟨rfl,rfl,trivial⟩) (by rfl) (by rfl) (by rfl) (by rfl) (by rfl)) (rY (dD (cw _) (dD (cw _) (dD (cw _) om)))) (λ_ _ _ _ _=>(kX rfl (aK (aJ 0 (show(((["hill_x","hill_y","top"]:List Str)++(["x","y"]:List Str)):List Str).Nodup by decide +kernel)) (aK (aJ 1 (show(((["hill_x","hill_y","top"]:List Str)++(["x","y"]:List Str)):List Str).Nodup by decide +kernel)) (aK (aJ 2 (show(((["hill_x","hill_y","top"]:List Str)++(["x","y"]:List Str)):List Str).Nodup by decide +kernel)) cX))))) (λ_ _ _ _ _=>(qK (DW.dt (jZ (a8 (cT hr) (ai 0) (ai 3) (aP _)) (iz (a8 (cT hr) (ai 1) (ai 4) (aP _))))))) (λ_ _ _ _ _=>(ak 2))) (au (aZ (C6 (ak 3) ag rfl M.b_max))))
theorem A8{Z:Wq}(R:FX Z "inside" (top 5) jV)(M:Md Z):we Z:=bdF R λd _ _ _ _ _ _ _ _ hr=>(aw (lE (ak 0) (kZ rfl (aK (aJ 4 d) (aK (aJ 5 d) (aK (aJ 6 d) (aK (aJ 7 d) (aK (aJ 8 d) (aK (aJ 9 d) cX)))))))) (au (aZ (iV (Bx bV bV (ai 4) (ai 1) (ai 6)) (iV (Bx bV bV (ai 5) (ai 2) (ai 7)) (pA (Bx bV bV (ai 8) (ai 3) (ai 9))))))))
theorem Au{Z:Wq}(R:FX Z "shut_at" (top 11) iN)(M:Md Z)(h_inside:we Z):tj Z:=bdF R λd _ _ _ _ _ _ _ _ hr=>(aw (gz Q7 rfl (iA (ak 0)) (aJ 5 d) (au (bp (DW.dt (jZ (oO bV bV (DE.db (aO (ai 5) KB)) (ai 1) (DE.db (aO (ai 5) KB))) (iz (ck (DE.db (cF h_inside hr (ae (m_ (ai 5) gN (bU KB)) (ae (ak 2) (ae (ak 3) (ae (ak 4) aE)))))))))) (au (aZ mJ)) aU))) (au (aZ mJ)))
theorem qu{Z:Wq}(R:FX Z "why_not_stand" (top 12) cJ)(M:Md Z)(h_ground_at:pK Z)(h_shut_at:tj Z):kz Z:=bdF R λd _ _ _ _ _ _ _ _ hr=>(aw (lE (ak 0) (kZ rfl (aK (aJ 3 d) (aK (aJ 4 d) (aK (aJ 5 d) (aK (aJ 6 d) cX)))))) (aw (lE (ak 2) (kZ rfl (aK (aJ 7 d) (aK (aJ 8 d) (aK (aJ 9 d) (aK (aJ 10 d) (aK (aJ 11 d) cX))))))) (aw (bp (a8 oi (ai 9) (DE.db (cF h_ground_at hr (ae (ak 3) (ae (ak 7) (ae (ak 8) aE))))) (aP _)) (au (aZ aW)) aU) (aw (bp (ck (DE.db (cF h_shut_at hr (ae (ak 6) (ae (ak 1) (ae (ak 7) (ae (ak 8) (ae (ak 9) aE)))))))) (au (aZ aW)) aU) (au (aZ aW))))))
theorem yk{Z:Wq}(R:FX Z "launched" (top 53) j8)(M:Md Z)(hM_Balloon4:lA Z):qT Z:=bdF R λd _ _ _ _ _ _ _ _ hr=>(au (aZ (EC hM_Balloon4 hr (ae (ak 0) (ae aW (ae (ak 2) (ae (br (ae (ay rN (DE.db (br (ae (ak 1) aE))) (ai 2)) aE)) aE)))))))
theorem oE{Z:Wq}(R:MT Z.K ar "check_room" "Book.check_room" (cm (top 81) 1) dQ)(M:Md Z)(he_Full:uz Z):dS Z:=let⟨_,gi_MOST_DEEDS⟩:=M.g_MOST_DEEDS;let⟨_,_,hE_Full⟩:=he_Full;wF R λd _ _ _ _ _ _ _ _ hr=>(au (bp (a8 De (DE.db (fQ (DE.db (dq M.o_Book.1 (M.o_Book.2 "deeds" (by decide)) (ak 0))) M.b_len)) (DE.db (cf rfl gi_MOST_DEEDS)) (aP _)) (au (bY hE_Full hr rfl)) aU))
theorem HY{P:Qr}{w:Qx}{K:Qc}{h:Heap}{mg:Str->Option Qa}{t_LETTERS:PySem.Tok}{t_BOOK_EDGE:Tok}{t_LAST_HOUR:Tok}{t_LONGEST_NAME:Tok}{t_MOST_BALLOONS:Tok}{t_MOST_COOL:Tok}{t_MOST_DEEDS:Tok}{t_MOST_HILLS:Tok}{t_MOST_LEFT:Tok}{t_TOP_HEIGHT:Tok}{t_WIND_HOURS:Tok}(X:K.In h)(G:h.Ns Qs mg)
  (y_LETTERS:QE K Qs "LETTERS" = some (some (.str "abcdefghijklmnopqrstuvwxyz" t_LETTERS)))
  (x_Balloon:ObK K aV gi)
  (x_Book:ObK K ar vm)
  (z_all:QE K Qs "all" = some none)
  (z_bool:QE K Qs "bool" = some none)
  (z_enumerate:QE K Qs "enumerate" = some none)
  (z_int:QE K Qs "int" = some none)
  (z_isinstance:QE K Qs "isinstance" = some none)
  (z_len:QE K Qs "len" = some none)
  (z_list:QE K Qs "list" = some none)
  (z_max:QE K Qs "max" = some none)
  (z_min:QE K Qs "min" = some none)
  (z_range:QE K Qs "range" = some none)
  (z_str:QE K Qs "str" = some none)
  (z_tuple:QE K Qs "tuple" = some none)
  (z_zip:QE K Qs "zip" = some none)
  (y_BOOK_EDGE:QE K Qs "BOOK_EDGE" = some (some (.int 999 t_BOOK_EDGE)))
  (y_LAST_HOUR:QE K Qs "LAST_HOUR" = some (some (.int 24 t_LAST_HOUR)))
  (y_LONGEST_NAME:QE K Qs "LONGEST_NAME" = some (some (.int 6 t_LONGEST_NAME)))
  (y_MOST_BALLOONS:QE K Qs "MOST_BALLOONS" = some (some (.int 6 t_MOST_BALLOONS)))
  (y_MOST_COOL:QE K Qs "MOST_COOL" = some (some (.int 24 t_MOST_COOL)))
  (y_MOST_DEEDS:QE K Qs "MOST_DEEDS" = some (some (.int 60 t_MOST_DEEDS)))
  (y_MOST_HILLS:QE K Qs "MOST_HILLS" = some (some (.int 20 t_MOST_HILLS)))
  (y_MOST_LEFT:QE K Qs "MOST_LEFT" = some (some (.int 6 t_MOST_LEFT)))
  (y_TOP_HEIGHT:QE K Qs "TOP_HEIGHT" = some (some (.int 5 t_TOP_HEIGHT)))
  (y_WIND_HOURS:QE K Qs "WIND_HOURS" = some (some (.int 24 t_WIND_HOURS))):Md ⟨P,w,K,mg⟩:=⟨QZ X G z_all,QZ X G z_bool,QZ X G z_enumerate,QZ X G z_int,QZ X G z_isinstance,QZ X G z_len,QZ X G z_list,QZ X G z_max,QZ X G z_min,QZ X G z_range,QZ X G z_str,QZ X G z_tuple,QZ X G z_zip,⟨_,Zc X G y_BOOK_EDGE⟩,⟨_,Zc X G y_LAST_HOUR⟩,⟨_,Zc X G y_LONGEST_NAME⟩,⟨_,Zc X G y_MOST_BALLOONS⟩,⟨_,Zc X G y_MOST_COOL⟩,⟨_,Zc X G y_MOST_DEEDS⟩,⟨_,Zc X G y_MOST_HILLS⟩,⟨_,Zc X G y_MOST_LEFT⟩,⟨_,Zc X G y_TOP_HEIGHT⟩,⟨_,Zc X G y_WIND_HOURS⟩,⟨_,Zc X G y_LETTERS⟩,x_Balloon,x_Book⟩
structure Bln where
 n:Str
 h:Int
 x:Int
 y:Int
 z:Int
 s:Int
 p:Int
noncomputable def stL(q:Bln):List D:=[.int q.x,.int q.y,.int q.z,.int q.s,.int q.p]
noncomputable def stD(q:Bln):D:=.tup (stL q)
noncomputable def lg(q:Bln):D:=.tup [.tup (.int q.h::stL q)]
noncomputable def fj(q:Bln):D:=.rcd (some aV) [("name",.str q.n),("fate",.str "aloft"),("last",stD q),("path",lg q),("lost_at",.int 0),("reports",.tup [])]
noncomputable def gv(q:Bln):D:=.tup [.str q.n,.str "aloft",stD q,lg q,.int q.h,.tup []]
structure BT where
 hills:List D
 cool:List D
 hour:Int
 winds:List D
 shuts:List D
 bal:List D
 deeds:List D
noncomputable def bw(T:BT):D:=.rcd (some ar) [("hills",.lst T.hills),("cool",.lst T.cool),("hour",.int T.hour),("winds",.lst T.winds),("shuts",.lst T.shuts),("balloons",.lst T.bal),("deeds",.lst T.deeds),("holds",.lst [])]
noncomputable def bZ(T:BT):D:=.rcd none [("hills",.lst T.hills),("cool",.lst T.cool),("hour",.int T.hour),("winds",.lst T.winds),("shuts",.lst T.shuts),("fleet",.lst T.bal),("deeds",.lst T.deeds)]
noncomputable def j6(T:BT):D:=.tup [.lst T.hills,.lst T.cool,.lst T.winds,.lst T.shuts]
structure BS where
 hills:List V
 cool:List V
 hour:Int
 winds:List V
 shuts:List V
 bal:List V
 deeds:List V
noncomputable def fsB(a1 a2 a3 a4 a5 a6 a7:Addr)(hour:Int):List (Str×V):=[("hills",.ref a1),("cool",.ref a2),("hour",.int hour),("winds",.ref a3),("shuts",.ref a4),("balloons",.ref a5),("deeds",.ref a6),("holds",.ref a7)]
structure BkM(H:Hp)(b dx a1 a2 a3 a4 a5 a6 a7:Addr)(S:BS):Prop where
 b:H b=some (.ins ar dx (fsB a1 a2 a3 a4 a5 a6 a7 S.hour))
 e1:H a1=some (.lst S.hills)
 e2:H a2=some (.lst S.cool)
 e3:H a3=some (.lst S.winds)
 e4:H a4=some (.lst S.shuts)
 e5:H a5=some (.lst S.bal)
 e6:H a6=some (.lst S.deeds)
 e7:H a7=some (.lst [])
 nd:[a1,a2,a3,a4,a5,a6,a7].Nodup
noncomputable def Bk(H:Hp)(b:Addr)(as:List Addr)(S:BS):Prop:=∃dx a1 a2 a3 a4 a5 a6 a7,as=[a1,a2,a3,a4,a5,a6,a7]/\BkM H b dx a1 a2 a3 a4 a5 a6 a7 S
theorem Bk.same{b:Addr}{H H':Hp}{as:List Addr}{S:BS}(h:Bk H b as S)(g:aT H H'):Bk H' b as S:=by
 obtain⟨dx,a1,a2,a3,a4,a5,a6,a7,rfl,m⟩:=h;exact⟨dx,a1,a2,a3,a4,a5,a6,a7,rfl,g _ _ m.b,g _ _ m.e1,g _ _ m.e2,g _ _ m.e3,g _ _ m.e4,g _ _ m.e5,g _ _ m.e6,g _ _ m.e7,m.nd⟩
theorem cB{H:Hp}{p:Addr}(o:HO)(h:H p=none):aT H (upd H p o):=λb u q=>by rw[az (aB q h)];exact q
structure BV(K:Qc)(G:Hp)(S:BS)(T:BT):Prop where
 hills:DenL K G S.hills T.hills
 cool:DenL K G S.cool T.cool
 hour:S.hour=T.hour
 winds:DenL K G S.winds T.winds
 shuts:DenL K G S.shuts T.shuts
 bal:DenL K G S.bal T.bal
 deeds:DenL K G S.deeds T.deeds
theorem BV.mono{K:Qc}{G G':Hp}{S:BS}{T:BT}(g:aT G G')(h:BV K G S T):BV K G' S T:=⟨h.hills.mono g,h.cool.mono g,h.hour,h.winds.mono g,h.shuts.mono g,h.bal.mono g,h.deeds.mono g⟩
structure BkD(K:Qc)(G H:Hp)(b:Addr)(as:List Addr)(T:BT):Prop where
 gh:aT G H
 gb:G b=none
 ga:∀a∈as,G a=none
 at_:∃S,Bk H b as S/\BV K G S T
theorem BkD.den{K:Qc}{b:Addr}{G H:Hp}{as:List Addr}{T:BT}(h:BkD K G H b as T):Den K H (.ref b) (bw T):=by
 obtain⟨S,⟨dx,a1,a2,a3,a4,a5,a6,a7,rfl,m⟩,v⟩:=h.at_;have v:=v.mono h.gh;refine .ins m.b (.cons (.lst (.inl m.e1) v.hills) (.cons (.lst (.inl m.e2) v.cool) (.cons (by rw[v.hour];exact .int _) (.cons (.lst (.inl m.e3) v.winds) (.cons (.lst (.inl m.e4) v.shuts) (.cons (.lst (.inl m.e5) v.bal) (.cons (.lst (.inl m.e6) v.deeds) (.cons (.lst (.inl m.e7) .nil) .nil))))))))
noncomputable def Out(H H':Hp)(b:Addr)(as:List Addr):Prop:=∀q o,q≠b->q∉as->H q=some o->H' q=some o
structure Mv(G H G' H':Hp)(b:Addr)(as as':List Addr):Prop where
 gg:aT G G'
 gh:aT G' H'
 out:Out H H' b as
 fo:∀a o,H a=some o->G a=none->G' a=none
 new:∀a∈as',a∈as\/H a=none
 st:∀a o,H a=some o->∃o',H' a=some o'
theorem Bk.ins{b:Addr}{H:Hp}{as:List Addr}{S:BS}(h:Bk H b as S):∃dx fs,H b=some (.ins ar dx fs):=let⟨dx,_,_,_,_,_,_,_,_,m⟩:=h;⟨dx,_,m.b⟩
theorem Bk.has{b a:Addr}{H:Hp}{as:List Addr}{S:BS}(h:Bk H b as S)(m:a∈as):∃xs,H a=some (.lst xs):=by
 obtain⟨dx,a1,a2,a3,a4,a5,a6,a7,rfl,k⟩:=h;simp only[Ql,Qw,or_false] at m;rcases m with e | e | e | e | e | e | e<;>rw[e]
 ·exact⟨_,k.e1⟩
 ·exact⟨_,k.e2⟩
 ·exact⟨_,k.e3⟩
 ·exact⟨_,k.e4⟩
 ·exact⟨_,k.e5⟩
 ·exact⟨_,k.e6⟩
 ·exact⟨_,k.e7⟩
theorem BkD.grow{K:Qc}{b:Addr}{G H G' H':Hp}{as:List Addr}{T:BT}(h:BkD K G H b as T)(g:Grow G H G' H'):BkD K G' H' b as T:=by
 obtain⟨S,k,v⟩:=h.at_;obtain⟨dx,fs,e⟩:=k.ins;exact⟨g.gh,g.fo _ _ e h.gb,λa m=>let⟨xs,z⟩:=k.has m;g.fo _ _ z (h.ga a m),S,k.same g.hh,v.mono g.gg⟩
theorem kd{G H H':Hp}(gh:aT G H)(g:aT H H'):Grow G H G H':=⟨g,aT.refl _,gh.trans g,λ_ _ _ e=>e⟩
theorem BkD.look{K:Qc}{b:Addr}{G H H':Hp}{as:List Addr}{T:BT}(h:BkD K G H b as T)(g:aT H H'):BkD K G H' b as T:=h.grow (kd h.gh g)
theorem Mv.grow{G H G1 H1 G2 H2:Hp}{b:Addr}{as as':List Addr}(g:Grow G H G1 H1)(m:Mv G1 H1 G2 H2 b as as'):Mv G H G2 H2 b as as':=
 ⟨g.gg.trans m.gg,m.gh,λq o n1 n2 e=>m.out q o n1 n2 (g.hh _ _ e),λa o e z=>m.fo a o (g.hh _ _ e) (g.fo a o e z),λa h=>(m.new a h).imp id λz=>g.hh.free z,λa o e=>m.st a o (g.hh _ _ e)⟩
theorem Mv.trans{G H G1 H1 G2 H2:Hp}{b:Addr}{as:List Addr}(m:Mv G H G1 H1 b as as)(n:Mv G1 H1 G2 H2 b as as)(gb:G2 b=none)(ga:∀a∈as,G2 a=none):Mv G H G2 H2 b as as where
 gg:=m.gg.trans n.gg
 gh:=n.gh
 out:=λq o n1 n2 e=>n.out q o n1 n2 (m.out q o n1 n2 e)
 fo:=λa o e z=>by
  by_cases w:a=b\/a∈as
  ·exact w.elim (λz=>by rw[z];exact gb) (ga a)
  ·rw[not_or] at w
   exact n.fo a o (m.out a o w.1 w.2 e) (m.fo a o e z)
 new:=λ_ h=>.inl h
 st:=λa o e=>let⟨o',e'⟩:=m.st a o e;n.st a o' e'
theorem Mv.behind{G H G1 H1 G2 H2:Hp}{b:Addr}{as as':List Addr}(m:Mv G H G1 H1 b as as')(g:Grow G1 H1 G2 H2):Mv G H G2 H2 b as as':=
 ⟨m.gg.trans g.gg,g.gh,λq o n1 n2 e=>g.hh _ _ (m.out q o n1 n2 e),λa o e z=>let⟨o',e'⟩:=m.st a o e;g.fo a o' e' (m.fo a o e z),m.new,λa o e=>let⟨o',e'⟩:=m.st a o e;⟨o',g.hh _ _ e'⟩⟩
theorem nd7{a1 a2 a3 a4 a5 a6 a7:Addr}(nd:[a1,a2,a3,a4,a5,a6,a7].Nodup):(a1≠a4/\a2≠a4/\a3≠a4/\a5≠a4/\a6≠a4/\a7≠a4)/\(a1≠a5/\a2≠a5/\a3≠a5/\a4≠a5/\a6≠a5/\a7≠a5)/\(a1≠a6/\a2≠a6/\a3≠a6/\a4≠a6/\a5≠a6/\a7≠a6):=by
 simp only[Kv,Ql,Qw,not_or,or_false,not_false_eq_true,List.nodup_nil,and_true] at nd;obtain⟨⟨n12,n13,n14,n15,n16,n17⟩,⟨n23,n24,n25,n26,n27⟩,⟨n34,n35,n36,n37⟩,⟨n45,n46,n47⟩,⟨n56,n57⟩,n67⟩:=nd;exact⟨⟨n14,n24,n34,Ne.symm n45,Ne.symm n46,Ne.symm n47⟩,⟨n15,n25,n35,n45,Ne.symm n56,Ne.symm n57⟩,n16,n26,n36,n46,n56,Ne.symm n67⟩
theorem Bk.app4{b:Addr}{H:Hp}{as:List Addr}{S:BS}(h:Bk H b as S):∃a∈as,(∃dx fs,H b=some (.ins ar dx fs)/\Q4 ("shuts" : Str) fs=some (V.ref a))/\H a=some (.lst S.shuts)/\∀y H',aT H H'->Bk (upd H' a (.lst (S.shuts++[y]))) b as { S with shuts:=S.shuts++[y] }:=by
 obtain⟨dx,a1,a2,a3,a4,a5,a6,a7,rfl,m⟩:=h;refine⟨a4,by simp,⟨dx,_,m.b,rfl⟩,m.e4,λy H' g=>⟨dx,a1,a2,a3,a4,a5,a6,a7,rfl,?_⟩⟩;have nb:b≠a4:=λz=>by have:=m.b;rw[z,m.e4] at this;cases this
 obtain⟨⟨n1,n2,n3,n5,n6,n7⟩,_,_⟩:=nd7 m.nd;exact⟨by rw[az nb];exact g _ _ m.b,by rw[az n1];exact g _ _ m.e1,by rw[az n2];exact g _ _ m.e2,by rw[az n3];exact g _ _ m.e3,upd_same,by rw[az n5];exact g _ _ m.e5,by rw[az n6];exact g _ _ m.e6,by rw[az n7];exact g _ _ m.e7,m.nd⟩
theorem Bk.app5{b:Addr}{H:Hp}{as:List Addr}{S:BS}(h:Bk H b as S):∃a∈as,(∃dx fs,H b=some (.ins ar dx fs)/\Q4 ("balloons" : Str) fs=some (V.ref a))/\H a=some (.lst S.bal)/\∀y H',aT H H'->Bk (upd H' a (.lst (S.bal++[y]))) b as { S with bal:=S.bal++[y] }:=by
 obtain⟨dx,a1,a2,a3,a4,a5,a6,a7,rfl,m⟩:=h;refine⟨a5,by simp,⟨dx,_,m.b,rfl⟩,m.e5,λy H' g=>⟨dx,a1,a2,a3,a4,a5,a6,a7,rfl,?_⟩⟩;have nb:b≠a5:=λz=>by have:=m.b;rw[z,m.e5] at this;cases this
 obtain⟨_,⟨n1,n2,n3,n4,n6,n7⟩,_⟩:=nd7 m.nd;exact⟨by rw[az nb];exact g _ _ m.b,by rw[az n1];exact g _ _ m.e1,by rw[az n2];exact g _ _ m.e2,by rw[az n3];exact g _ _ m.e3,by rw[az n4];exact g _ _ m.e4,upd_same,by rw[az n6];exact g _ _ m.e6,by rw[az n7];exact g _ _ m.e7,m.nd⟩
theorem Bk.app6{b:Addr}{H:Hp}{as:List Addr}{S:BS}(h:Bk H b as S):∃a∈as,(∃dx fs,H b=some (.ins ar dx fs)/\Q4 ("deeds" : Str) fs=some (V.ref a))/\H a=some (.lst S.deeds)/\∀y H',aT H H'->Bk (upd H' a (.lst (S.deeds++[y]))) b as { S with deeds:=S.deeds++[y] }:=by
 obtain⟨dx,a1,a2,a3,a4,a5,a6,a7,rfl,m⟩:=h;refine⟨a6,by simp,⟨dx,_,m.b,rfl⟩,m.e6,λy H' g=>⟨dx,a1,a2,a3,a4,a5,a6,a7,rfl,?_⟩⟩;have nb:b≠a6:=λz=>by have:=m.b;rw[z,m.e6] at this;cases this
 obtain⟨_,_,n1,n2,n3,n4,n5,n7⟩:=nd7 m.nd;exact⟨by rw[az nb];exact g _ _ m.b,by rw[az n1];exact g _ _ m.e1,by rw[az n2];exact g _ _ m.e2,by rw[az n3];exact g _ _ m.e3,by rw[az n4];exact g _ _ m.e4,by rw[az n5];exact g _ _ m.e5,upd_same,by rw[az n7];exact g _ _ m.e7,m.nd⟩
theorem yo{G H:Hp}{b a:Addr}{as:List Addr}{o:HO}(gh:aT G H)(ga:G a=none)(ha:a∈as):Mv G H G (upd H a o) b as as where
 gg:=aT.refl _
 gh:=λq u e=>by rw[az (λz=>by rw[z,ga] at e;cases e)];exact gh _ _ e
 out:=λq u n1 n2 e=>by
  have ne:q≠a:=λz=>n2 (by rw[z];exact ha);rw[az ne];exact e
 fo:=λ_ _ _ z=>z
 new:=λ_ h=>.inl h
 st:=λx u e=>by
  by_cases z:x=a
  ·subst z;exact⟨o,upd_same⟩
  ·exact⟨u,by rw[az z];exact e⟩
noncomputable def tDe(K:Qc)(f:Ev->Option D):TE:=λσ H Q=>∃He G ε d,aT G H/\EnvD K He G H σ ε/\f ε=some d/\∀v G' H',Grow G H G' H'->Den K G' v d->Q v H'
theorem kR{X:Cx}{e:Expr}{f:Ev->Option D}(h:DE X e f):PE X e (tDe X.K f):=by
 obtain⟨t,p1,p2⟩:=h;rintro pins s σ H Q I ⟨He,G,ε,d,gh,E,e,q⟩;exact p1 pins s σ H Q I (p2 He G H σ ε d Q gh E e q)
noncomputable def tDt(K:Qc)(f:Ev->Option Bool):TT:=λσ H Q=>∃He G ε b,aT G H/\EnvD K He G H σ ε/\f ε=some b/\∀H',aT H H'->Q b H'
theorem Jj{X:Cx}{c:Expr}{f:Ev->Option Bool}(h:DT X c f):PT X c (tDt X.K f):=by
 obtain⟨t,p1,p2⟩:=h;rintro pins s σ H Q I ⟨He,G,ε,b,gh,E,e,q⟩;exact p1 pins s σ H Q I (p2 He G H σ ε b Q gh E e λG' H' g=>q H' g.hh)
inductive Slots(K:Qc)(G:Hp):L2.St->Ev->Prop where
 |nil:Slots K G [] []
 |un {o:Option V} {σ:L2.St} {ε:Ev} (r:Slots K G σ ε):Slots K G (o::σ) (.un::ε)
 |dat {v:V} {d:D} {σ:L2.St} {ε:Ev} (h:Den K G v d) (r:Slots K G σ ε):Slots K G (some v::σ) (.dat d::ε)
theorem Slots.env{K:Qc}{He G H:Hp}{σ:L2.St}{ε:Ev}(h:Slots K G σ ε):EnvD K He G H σ ε:=by
 have no:∀{i:Nat} {x:Sl},ε[i]?=some x->x=.un\/∃v d,x=.dat d/\σ[i]?=some (some v)/\Den K G v d:=by
  induction h with
  |nil=>intro i x e;cases e
  |un _ ih=>
   intro i x e;cases i with
   |zero=>cases e;exact .inl rfl
   |succ i=>exact ih e
  |dat hd _ ih=>
   intro i x e;cases i with
   |zero=>cases e;exact .inr ⟨_,_,rfl,rfl,hd⟩
   |succ i=>exact ih e
 have ln:σ.length=ε.length:=by
  clear no
  induction h with
  |nil=>rfl
  |un _ ih=>simp[ih]
  |dat _ _ ih=>simp[ih]
 refine⟨ln,λe=>?_,λe=>?_,λe=>?_,λe=>?_,λe=>?_⟩
 ·rcases no e with z | ⟨v,d,z,hv,hd⟩
  ·cases z
  ·cases z;exact⟨v,hv,hd⟩
 all_goals (rcases no e with z | ⟨_,_,z,_⟩<;>cases z)
theorem pss_no{X:Cx}{st:List Stmt}:PSs X st GD:=λ_ _ _ _ _ _ h=>h.elim
theorem FU{X:Cx}{tg:Expr}:PG X tg (λ_ _ _ _=>False):=λ_ _ _ _ _ _ _ _ _ h=>h.elim
noncomputable def C9(f:Str)(get:BT->List D)(put:BT->List D->BT):Prop:=∀{K:Qc} {G H:Hp} {b:Addr} {as:List Addr} {T:BT},BkD K G H b as T->∃a dx fs vs,H b=some (.ins ar dx fs)/\Q4 f fs=some (V.ref a)/\H a=some (.lst vs)/\vs.length=(get T).length/\
 ∀y d G' H',Grow G H G' H'->Den K G' y d->BkD K G' (upd H' a (.lst (vs++[y]))) b as (put T (get T++[d]))/\Mv G H G' (upd H' a (.lst (vs++[y]))) b as as
theorem Bd:C9 "shuts" BT.shuts (λT l=>{ T with shuts:=l }):=λ{K G H b as T} k=>by
 obtain⟨S,bk,bv⟩:=k.at_;obtain⟨a,ha,⟨dx,fs,e0,l⟩,e,next⟩:=bk.app4;refine⟨a,dx,fs,S.shuts,e0,l,e,bv.shuts.length,λy d G' H' g dn=>?_⟩;have k':=k.grow g;have M:=yo (b:=b) (o:=.lst (S.shuts++[y])) k'.gh (k'.ga a ha) ha;exact⟨⟨M.gh,k'.gb,k'.ga,_,next y H' g.hh,let v:=bv.mono g.gg;{ v with shuts:=v.shuts.append (.one dn) }⟩,Mv.grow g M⟩
theorem F7:C9 "balloons" BT.bal (λT l=>{ T with bal:=l }):=λ{K G H b as T} k=>by
 obtain⟨S,bk,bv⟩:=k.at_;obtain⟨a,ha,⟨dx,fs,e0,l⟩,e,next⟩:=bk.app5;refine⟨a,dx,fs,S.bal,e0,l,e,bv.bal.length,λy d G' H' g dn=>?_⟩;have k':=k.grow g;have M:=yo (b:=b) (o:=.lst (S.bal++[y])) k'.gh (k'.ga a ha) ha;exact⟨⟨M.gh,k'.gb,k'.ga,_,next y H' g.hh,let v:=bv.mono g.gg;{ v with bal:=v.bal.append (.one dn) }⟩,Mv.grow g M⟩
theorem Cc:C9 "deeds" BT.deeds (λT l=>{ T with deeds:=l }):=λ{K G H b as T} k=>by
 obtain⟨S,bk,bv⟩:=k.at_;obtain⟨a,ha,⟨dx,fs,e0,l⟩,e,next⟩:=bk.app6;refine⟨a,dx,fs,S.deeds,e0,l,e,bv.deeds.length,λy d G' H' g dn=>?_⟩;have k':=k.grow g;have M:=yo (b:=b) (o:=.lst (S.deeds++[y])) k'.gh (k'.ga a ha) ha;exact⟨⟨M.gh,k'.gb,k'.ga,_,next y H' g.hh,let v:=bv.mono g.gg;{ v with deeds:=v.deeds.append (.one dn) }⟩,Mv.grow g M⟩
theorem BkD.ins{K:Qc}{b:Addr}{G H:Hp}{as:List Addr}{T:BT}(k:BkD K G H b as T):∃dx a1 a2 a3 a4 a5 a6 a7,H b=some (.ins ar dx (fsB a1 a2 a3 a4 a5 a6 a7 T.hour)):=by
 obtain⟨S,⟨dx,a1,a2,a3,a4,a5,a6,a7,_,m⟩,v⟩:=k.at_;exact⟨dx,a1,a2,a3,a4,a5,a6,a7,by rw[<-v.hour];exact m.b⟩
noncomputable def MO(Z:Wq)(CX:CXT)(m:Str)(ps:List Str)(k:Nat)(sp:Sp):Prop:=∃f fd,Meth Z.K ar m f/\gj Z.K fd ps []/\∀base,FnOk Z.P Z.w Z.K Z.mg base CX k f fd ps sp
section
variable{Z:Wq}
noncomputable def qF(K:Qc):Sp:=λvs H Q _=>∃G b as T v d,vs=[.ref b,v]/\BkD K G H b as T/\Den K G v d/\T.deeds.length<1000/\∀H',Mv G H G H' b as as->BkD K G H' b as { T with deeds:=T.deeds++[d] }->Q (.int (T.deeds.length+1)) H'
theorem Et(R:MT Z.K ar "noted" "Book.noted" (cm (top 81) 2) ["self","deed"])(M:Md Z):MO Z CX0 "noted" ["self","deed"] 1 (qF Z.K):=by
 obtain⟨f,fd,mt,F,bi⟩:=R;refine⟨f,fd,mt,bi,λbase=>?_⟩;have SC:FnScope ["self","deed"] ["self","deed"] (aA (cm (top 81) 2)):=⟨rfl,rfl,rfl,by decide +kernel,rfl,by decide +kernel,by decide +kernel⟩;refine F.ok SC (λvs H Q E h=>?_) (λcdv A outer s H vs Q E hr h=>?_)
 ·obtain⟨G,b,as,T,v,d,rfl,_⟩:=h
  rfl
 obtain⟨G,b,as,T,v,d,rfl,k,dv,few,q⟩:=h;obtain⟨a,dx,fs,us,e0,l6,e6,hl,next⟩:=Cc k;refine⟨_,aH (ko (tf Z7 Z4 Z5 iJ (kL (pv 0) rfl) (aC (pv 1) aR))) (bF (d_ (fm eR rfl M.b_len KP (aC (kL (pv 0) rfl) aR)))),?_⟩;refine⟨_,rfl,b,ar,dx,fs,_,rfl,e0,M.o_Book.1,M.o_Book.2 _ KE,l6,⟨.inl ⟨rfl,_,SqL.of e6⟩,_,rfl,a,_,_,rfl,rfl,e6,?_,?_⟩⟩
 ·rw[hl];exact K0 few KE
 obtain⟨B,mv⟩:=next v d G H (Grow.refl k.gh) dv;have e0':upd H a (.lst (us++[v])) b=some (.ins ar dx fs):=by rw[az (λz=>by rw[z,e6] at e0;cases e0)];exact e0
 refine⟨_,rfl,b,ar,dx,fs,_,rfl,e0',M.o_Book.1,M.o_Book.2 _ KE,l6,a,_,rfl,.inl (SqL.of upd_same),?_⟩;have Z:=q _ mv B;rw[QI,hl];exact Z
noncomputable def XE(Z:Wq)(H:Hp)(E:XK)(c:Str)(fs:List (Str×D)):Prop:=∀cls dx G' H',Grow H H G' H'->Z.mg c=some cls->XD Z.K G' dx fs->E cls (some dx) H'
noncomputable def Aft(r:Fl)(ok:Prop)(xe:Str->List (Str×D)->Prop):Prop:=match r with
 |.nx _=>ok
 |.xc c fs=>xe c fs
 |_=>False
theorem qQ{P:Qr}{w:Qx}{K:Qc}{mg:Str->Option Qa}{base:Heap}{N:List Str}{qual:Str}{sc:Scope}{f:Addr}{cdv:Qa}{A:QB}{outer:List Env}{s:Qd}{H:Hp}{E:XK}{r:Fl}{m:Nat}{σ:L2.St}{u:TS}{W:Ends}{ok:Prop}(h:Aft r ok (XE ⟨P,w,K,mg⟩ H E))
  (q:ok->∀σ' H',aT H H'->σ'.length=σ.length->σ'.take m=σ.take m->u W σ' H'):tE (jd (Ex.CX1 P w) P w K mg base N qual sc f cdv A outer s H E) H H r m σ u W:=by
 cases r with
 |nx ε=>exact λσ' G' H' S a b=>q h σ' H' S.g.hh a b
 |xc c fs=>exact λpins σ' G' H' s' a dx cls I g x mc xd=>Ex.nH pins σ' H' s' a cls dx I x (h cls dx G' H' g mc xd)
 |rt d=>exact h.elim
 |ro ds=>exact h.elim
 |bk ε'=>exact h.elim
 |ct ε'=>exact h.elim
theorem yM{X:Cx}{m:Nat}{st:List Stmt}{g:Ev->Option Fl}{u:TS}{σ:L2.St}{H:Hp}{ε:Ev}{r:Fl}{W:Ends}(h:DSp X m st g u)(E:EnvD X.K H H H σ ε)(e:g ε=some r)(P:tE X H H r m σ u W):∃t,PSs X st t/\t W σ H:=let⟨t,t1,t2⟩:=h;⟨t,t1,t2 H H H H σ ε r W ⟨Grow.refl (aT.refl _),E⟩ e P⟩
theorem yV{σ σ':L2.St}{m:Nat}(h:σ.length<=m)(a:σ'.length=σ.length)(b:σ'.take m=σ.take m):σ'=σ:=by
 rw[Kl h,Kl (by rw[a];exact h)] at b;exact b
noncomputable def vk:Ev->Option Fl:=aQ (mW (cv ar "check_room" b8 (aj 0) aF)) (aQ (mW (mh eB (aa (aY (eJ ar "hour") (aj 0)) (aa (aj 1) (aa (aj 2) (aa (aj 3) aF)))))) bj)
noncomputable def BA(Z:Wq):Sp:=λvs H Q E=>∃G b as T bx ds x y r,vs=[.ref b,bx,.int x,.int y]/\BkD Z.K G H b as T/\T.deeds.length<1000/\T.shuts.length<1000/\Den Z.K G bx (.tup ds)/\ds≠[]/\ds.length<1000/\vk [.dat (bw T),.dat (.tup ds),.dat (.int x),.dat (.int y)]=some r/\
 Aft r (∀G' H',Mv G H G' H' b as as->BkD Z.K G' H' b as { T with shuts:=T.shuts++[.tup (ds++[.int x,.int y])],deeds:=T.deeds++[.tup (.str "shut" :: ds++[.int x,.int y])] }->Q (.int (T.deeds.length+1)) H') (XE Z H E)
noncomputable abbrev pz:List Str:=["self","box","first","last"]
theorem rE{K:Qc}{G:Hp}:∀ns:List Int,DenL K G (ns.map V.int) (ns.map D.int)
 |[]=>.nil
 |n::r=>.cons (.int n) (rE r)
theorem Hq(R:MT Z.K ar "shut" "Book.shut" (cm (top 81) 9) pz)(M:Md Z)(HR:dS Z)(HC:nY Z)(HN:MO Z CX0 "noted" ["self","deed"] 1 (qF Z.K)):MO Z (Ex.CX1 Z.P Z.w) "shut" pz 6 (BA Z):=by
 obtain⟨f,fd,mt,F,bi⟩:=R;refine⟨f,fd,mt,bi,λbase=>?_⟩;obtain⟨fN,fdN,mN,bN,hN⟩:=HN;obtain⟨oc,od,kV,doc,pm,an,cdv,ct,osl,rfl,lkk,hcd⟩:=F.ex;have SC:FnScope pz pz (aA (cm (top 81) 9)):=⟨rfl,rfl,rfl,by decide +kernel,rfl,by decide +kernel,by decide +kernel⟩;refine qk (k:=5) lkk hcd SC (λvs H Q E h=>?_) λA outer s H vs Q E hr h=>?_
 ·obtain⟨G,b,as,T,bx,ds,x,y,r,rfl,_⟩:=h
  rfl
 obtain⟨G,b,as,T,bx,ds,x,y,r,rfl,k,few,fw,dbx,dne,dle,er,q⟩:=h
 refine yM (tH (m:=4) (rR M.o_Book.1 HR hr (ak 0)) (tH (um HC hr (ae (dq M.o_Book.1 (M.o_Book.2 "hour" (by decide)) (ak 0)) (ae (ak 1) (ae (ak 2) (ae (ak 3) aE))))) (yH
  (aH (ko (tf Z7 Z4 Z5 iJ (kL (pv 0) rfl) (aC (js nV (pv 1) (mT (aC (pv 2) (aC (pv 3) aR)))) aR)))
  (bF (d_ (hX (pv 0) M.o_Book.1 mN (hN base) (hr.mono KE) bN .nil f7 (aC (js nV (js nV (mT (aC bP aR)) (pv 1)) (mT (aC (pv 2) (aC (pv 3) aR)))) aR)))))))) (Slots.dat k.den (Slots.dat (dbx.mono k.gh) (Slots.dat (.int x) (Slots.dat (.int y) .nil)))).env er ?_
 refine qQ q λq1 σ' H2 g12 h1 h2=>?_;obtain rfl:=yV (Qm _) h1 h2;have k0:=k;have k:=k.look g12;have gh:=k.gh;obtain⟨abx,xs,rfl,sq,dl⟩:=dbx.tupV;have xl:=dl.length;have xne:xs≠[]:=λz=>by subst z;cases dl;exact dne rfl
 have xl2:xs.length<1000:=by rw[xl];exact dle
 have big:(2000:Nat)<=Qk:=by decide
 obtain⟨a3,dxc,fsc,us,e0,l3,e3,hw,next⟩:=Bd k;refine⟨_,rfl,b,ar,dxc,fsc,_,rfl,e0,M.o_Book.1,M.o_Book.2 _ KE,l3,.inl ⟨rfl,_,SqL.of e3⟩,_,rfl,_,rfl,_,rfl,(by show 2<=Qk;decide),λp2 hp2=>?_⟩;have g2:=Grow.new (.tup [.int x,.int y]) gh hp2;refine⟨abx,p2,xs,[.int x,.int y],rfl,rfl,aM (gh.trans g2.hh) sq,SqT.of upd_same,xne,(by show xs.length+2<=Qk;omega),λz=>(by cases z),λ_ p3 hp3=>?_⟩;have g3:=Grow.new (.tup (xs++[.int x,.int y])) g2.gh hp3;have g13:=g2.trans g3;refine⟨a3,_,_,rfl,rfl,g13.hh _ _ e3,(by rw[hw];exact K0 fw KE),?_⟩;obtain⟨k4,M04⟩:=next (.ref p3) (.tup (ds++[.int x,.int y])) _ _ g13 (.tup (SqT.of upd_same) ((dl.mono g13.gg).append (rE [x,y])));have sq4:=aM M04.gh (aM g13.gg sq);have sg4:=aM g13.gg sq;have dl4:=dl.mono g13.gg;generalize upd (upd (upd H2 p2 _) p3 _) a3 _=H4 at *;generalize upd (upd G p2 _) p3 _=G4 at *;obtain⟨dx4,b1,b2,b3,b4,b5,b6,b7,m4⟩:=k4.ins;refine⟨_,rfl,b,dx4,_,rfl,m4,rfl,(by show 1<=Qk;decide),λp5 hp5=>?_⟩;have g5:=Grow.new (.tup [.str "shut"]) k4.gh hp5;refine⟨_,rfl,p5,abx,[.str "shut"],xs,rfl,rfl,SqT.of upd_same,aM g5.hh sq4,(by simp),(by show 1+xs.length<=Qk;omega),λz=>absurd z xne,λ_ p6 hp6=>?_⟩;have g6:=Grow.new (.tup ([.str "shut"]++xs)) g5.gh hp6;have g56:=g5.trans g6;refine⟨_,rfl,_,rfl,(by show 2<=Qk;decide),λp7 hp7=>?_⟩;have g7:=Grow.new (.tup [.int x,.int y]) g56.gh hp7;have g57:=g56.trans g7;refine⟨p6,p7,[.str "shut"]++xs,[.int x,.int y],rfl,rfl,SqT.of (g7.hh _ _ upd_same),SqT.of upd_same,(by simp),(by rw[QI];show(1+xs.length)+2<=Qk;omega),λz=>(by cases z),λ_ p8 hp8=>?_⟩;have g8:=Grow.new (.tup ([.str "shut"]++xs++[.int x,.int y])) g57.gh hp8;have g58:=g57.trans g8;refine⟨_,b,as,_,_,.tup (.str "shut" :: ds++[.int x,.int y]),rfl,k4.grow g58,.tup (SqT.of upd_same) (((DenL.one (.str _)).append (dl4.mono g58.gg)).append (rE [x,y])),few,λH' mv bk'=>?_⟩;exact q1 _ H' (Mv.grow (kd k0.gh g12) (M04.trans (Mv.grow g58 mv) bk'.gb bk'.ga)) bk'
end
noncomputable def nZ:Ev->Option Fl:=(aQ (mW (cv ar "check_room" b8 (aj 0) aF)) (aQ (sIf (aG geI (aY dJ (aY (eJ ar "balloons") (aj 0))) (eC (.int 6))) (cx "Full") bj) (aQ (mW (mh ka (aa (aj 1) aF))) (aQ (sIf (aG (inD false) (ah 1) (gA ar "names" eI (aj 0) aF)) (cx "Taken") bj) (aQ (mW (mh jF (aa (aj 2) aF))) (aQ (bW 3 (aL cy (aa (gA ar "sky" fY (aj 0) aF) (aa (aY (eJ ar "hour") (aj 0)) (aa (aj 2) aF))))) (aQ (sIf (aG me (ah 3) (eC (.str ""))) (uj "Stopped" jb (aa Vw (aa (aj 3) aF))) bj) bj)))))))
noncomputable def wO(Z:Wq):Sp:=λvs H Q E=>∃G b as T n vst ds r,vs=[.ref b,.str n,vst]/\BkD Z.K G H b as T/\T.deeds.length<1000/\T.bal.length<1000/\Den Z.K G vst (.tup ds)/\ds≠[]/\ds.length<1000/\nZ [.dat (bw T),.dat (.str n),.dat (.tup ds),.un]=some r/\
 Aft r (∃bd,ki [.str n,.int T.hour,.tup ds]=some bd/\∀G' H',Mv G H G' H' b as as->BkD Z.K G' H' b as { T with bal:=T.bal++[bd],deeds:=T.deeds++[.tup ([.str "launch",.str n]++ds)] }->Q (.int (T.deeds.length+1)) H') (XE Z H E)
noncomputable abbrev lC:List Str:=["self","name","state"]
theorem Im{σ:L2.St}{a b c e:Option V}(h:σ.length=4)(t:σ.take 3=List.take 3 [a,b,c,e]):∃w,σ=[a,b,c,w]:=by
 match σ,h,t with
 |[x,y,z,w],_,t=>
  have t:[x,y,z]=[a,b,c]:=t;cases t;exact⟨w,rfl⟩
section
variable{Z:Wq}
theorem Bc(R:MT Z.K ar "launch" "Book.launch" (cm (top 81) 10) lC)(M:Md Z)(HR:dS Z)(h_check_name:oM Z)(h_Book_names:kn Z)(h_check_state:mE Z)(h_Book_sky:ke Z)(h_why_not_stand:kz Z)(hc_Stopped:nE Z)(he_Full:uz Z)(he_Taken:C4 Z)
  (HL:qT Z) (HN:MO Z CX0 "noted" ["self","deed"] 1 (qF Z.K)):MO Z (Ex.CX1 Z.P Z.w) "launch" lC 6 (wO Z):=by
 obtain⟨f,fd,mt,F,bi⟩:=R;refine⟨f,fd,mt,bi,λbase=>?_⟩;obtain⟨fN,fdN,mN,bN,hN⟩:=HN;obtain⟨fl,fdl,⟨FA,_⟩,hl⟩:=HL;obtain⟨_,gi_MOST_BALLOONS⟩:=M.g_MOST_BALLOONS;obtain⟨C_Stopped,hC_Stopped,hG_Stopped,hn_Stopped⟩:=hc_Stopped;obtain⟨_,_,hE_Full⟩:=he_Full;obtain⟨_,_,hE_Taken⟩:=he_Taken;obtain⟨oc,od,kV,doc,pm,an,cdv,ct,osl,rfl,lkk,hcd⟩:=F.ex;have SC:FnScope sA lC (aA (cm (top 81) 10)):=⟨rfl,rfl,rfl,by decide +kernel,rfl,by decide +kernel,by decide +kernel⟩;have d:=SC.nd;refine qk (k:=5) lkk hcd SC (λvs H Q E h=>?_) λA outer s H vs Q E hr h=>?_
 ·obtain⟨G,b,as,T,n,vst,ds,r,rfl,_⟩:=h
  rfl
 obtain⟨G,b,as,T,n,vst,ds,r,rfl,k,few,fw,dst,dne,dle,er,q⟩:=h
 refine yM (tH (m:=3) (rR M.o_Book.1 HR hr (ak 0)) (zo (a8 De (DE.db (fQ (DE.db (dq M.o_Book.1 (M.o_Book.2 "balloons" (by decide)) (ak 0))) M.b_len)) (DE.db (cf rfl gi_MOST_BALLOONS)) (aP _)) (au (bY hE_Full hr rfl)) pe
  (tH (um h_check_name hr (ae (ak 1) aE)) (zo (a8 zE (ai 1) (DE.db (jM M.o_Book.1 h_Book_names hr (ak 0))) (by with_unfolding_all rfl)) (au (bY hE_Taken hr rfl)) pe
  (tH (um h_check_state hr (ae (ak 2) aE)) (Gg 3 d (cF h_why_not_stand hr (ae (jM M.o_Book.1 h_Book_sky hr (ak 0)) (ae (dq M.o_Book.1 (M.o_Book.2 "hour" (by decide)) (ak 0)) (ae (ak 2) aE)))) (zo (a8 (lU hr) (ai 3) (DE.db aW) (aP _)) (au (Cm hC_Stopped hr rfl (ae ag (ae (ak 3) aE)))) CG (yH
  (aH (ko (tf Z7 Z4 Z5 iJ (kL (pv 0) rfl) (aC (eP (hl base) (hr.mono KE) rfl FA.mgf FA.fu.kp FA.bi .nil f7 (aC (pv 1) (aC (kL (pv 0) rfl) (aC (pv 2) aR)))) aR)))
  (bF (d_ (hX (pv 0) M.o_Book.1 mN (hN base) (hr.mono KE) bN .nil f7 (aC (js nV (mT (aC bP (aC (pv 1) aR))) (pv 2)) aR))))))))))))) (Slots.dat k.den (Slots.dat (.str n) (Slots.dat (dst.mono k.gh) (Slots.un .nil)))).env er ?_
 refine qQ q λ⟨bd,eb,q1⟩ σ' H2 g12 h1 h2=>?_;obtain⟨w,rfl⟩:=Im h1 h2;have k0:=k;have k:=k.look g12;have gh:=k.gh;obtain⟨abx,xs,rfl,sq,dl⟩:=id dst.tupV;have xl:=dl.length;have xne:xs≠[]:=λz=>by subst z;cases dl;exact dne rfl
 have xl2:xs.length<1000:=by rw[xl];exact dle
 have big:(2000:Nat)<=Qk:=by decide
 obtain⟨a3,dxc,fsc,us,e0,l3,e3,hw,next⟩:=F7 k;obtain⟨dx2,c1,c2,c3,c4,c5,c6,c7,m2⟩:=k.ins;obtain⟨rfl,rfl⟩:dxc=dx2/\fsc=fsB c1 c2 c3 c4 c5 c6 c7 T.hour:=by have:=e0.symm.trans m2;cases this;exact⟨rfl,rfl⟩
 refine⟨_,rfl,b,ar,dxc,_,_,rfl,e0,M.o_Book.1,M.o_Book.2 _ KE,l3,.inl ⟨rfl,_,SqL.of e3⟩,_,rfl,_,rfl,b,ar,dxc,_,_,rfl,e0,M.o_Book.1,M.o_Book.2 _ KE,rfl,_,rfl,?_⟩;refine⟨G,[.str n,.int T.hour,.tup ds],bd,gh,.cons (.str n) (.cons (.int _) (.cons dst .nil)),eb,λv G3 H3 g3 dn=>?_⟩;refine⟨a3,_,_,rfl,rfl,g3.hh _ _ e3,(by rw[hw];exact K0 fw KE),?_⟩;obtain⟨k4,M04⟩:=next v bd _ _ g3 dn;have sq4:=aM M04.gh (aM g3.gg sq);have dl4:=dl.mono g3.gg;generalize upd H3 a3 _=H4 at *;obtain⟨dx4,b1,b2,b3,b4,b5,b6,b7,m4⟩:=k4.ins;refine⟨_,rfl,b,dx4,_,rfl,m4,rfl,_,rfl,(by show 2<=Qk;decide),λp5 hp5=>?_⟩;have g5:=Grow.new (.tup [.str "launch",.str n]) k4.gh hp5;refine⟨_,rfl,p5,abx,[.str "launch",.str n],xs,rfl,rfl,SqT.of upd_same,aM g5.hh sq4,(by simp),(by show 2+xs.length<=Qk;omega),λz=>absurd z xne,λ_ p6 hp6=>?_⟩;have g6:=Grow.new (.tup ([.str "launch",.str n]++xs)) g5.gh hp6;have g56:=g5.trans g6;refine⟨_,b,as,_,_,.tup ([.str "launch",.str n]++ds),rfl,k4.grow g56,.tup (SqT.of upd_same) ((DenL.cons (.str _) (.cons (.str _) .nil)).append (dl4.mono g56.gg)),few,λH' mv bk'=>?_⟩;exact q1 _ H' (Mv.grow (kd k0.gh g12) (M04.trans (Mv.grow g56 mv) bk'.gb bk'.ga)) bk'
end
section
variable{Z:Wq}
noncomputable def Fi:Sp:=λvs H Q _=>∃b l,vs=[b,.ref l]/\H l=some (.lst [])/\∀p,H p=none->Q (.ref p) (upd H p (.dK []))
noncomputable abbrev Jx:List Str:=["self","pairs","orders","name","order"]
theorem Bb(R:MT Z.K ar "orders_given" "Book.orders_given" (cm (top 81) 11) ["self","pairs"]):MO Z CX0 "orders_given" ["self","pairs"] 1 Fi:=by
 obtain⟨f,fd,mt,F,bi⟩:=R;refine⟨f,fd,mt,bi,λbase=>?_⟩;have SC:FnScope Jx ["self","pairs"] (aA (cm (top 81) 11)):=⟨rfl,rfl,rfl,by decide +kernel,rfl,by decide +kernel,by decide +kernel⟩;refine F.ok SC (λvs H Q E h=>?_) (λcdv A outer s H vs Q E hr h=>?_)
 ·obtain⟨b,l,rfl,_⟩:=h
  rfl
 obtain⟨b,l,rfl,hl,q⟩:=h;refine⟨_,aH (bT (i:=2) SC.nd rfl (Qz rfl) Dj) (aH (rQ Q7 rfl (oB (pv 1)) FU pss_no) (bF (d_ (pv 2)))),?_⟩;intro p hp;have g:=cB (.dK []) hp;refine⟨_,rfl,l,rfl,⟨[],SqL.of (g _ _ hl)⟩,λi _ σ' H'=>i=0/\σ'=_/\H'=_,⟨0,rfl,rfl,rfl⟩,λi m σ' H' ⟨e1,e2,e3⟩=>?_⟩;subst e1 e2 e3;exact .inl ⟨⟨[],SqL.of (g _ _ hl),Qm _⟩,_,rfl,q p hp⟩
noncomputable def qD:Ev->Option Fl:=aQ (mW (cv ar "check_room" b8 (aj 0) aF)) (aQ (sIf (aG geI (aY (eJ ar "hour") (aj 0)) (eC (.int 24))) (cx "Late") bj) bj)
noncomputable abbrev Ke:List Str:=["self","orders","given","sky","after","at","balloon"]
noncomputable def zj(Z:Wq):Sp:=λvs H Q E=>∃G b as T l r,vs=[.ref b,.ref l]/\BkD Z.K G H b as T/\T.deeds.length<1000/\T.bal=[]/\H l=some (.lst [])/\qD [.dat (bw T),.un,.un,.un,.un,.un,.un]=some r/\
 Aft r (∀G' H' as',Mv G H G' H' b as as'->BkD Z.K G' H' b as' { T with hour:=T.hour+1,deeds:=T.deeds++[.tup [.str "drift",.tup []]] }->Q (.int (T.deeds.length+1)) H') (XE Z H E)
theorem xB(T:BT):fY [bw T]=some (j6 T):=by rfl
theorem Dl{a1 a2 a3 a4 a5 a6 a7 p:Addr}{h:Int}:dN "balloons" (.ref p) (fsB a1 a2 a3 a4 a5 a6 a7 h)=fsB a1 a2 a3 a4 p a6 a7 h:=by rfl
theorem BJ{a1 a2 a3 a4 a5 a6 a7:Addr}{h i:Int}:dN "hour" (.int i) (fsB a1 a2 a3 a4 a5 a6 a7 h)=fsB a1 a2 a3 a4 a5 a6 a7 i:=by rfl
theorem DV(R:MT Z.K ar "drift" "Book.drift" (cm (top 81) 12) ["self","orders"])(M:Md Z)(HR:dS Z)(HS:ke Z)(HO:MO Z CX0 "orders_given" ["self","pairs"] 1 Fi)(he_Late:∃C bm,OkE Z "Late" C bm)(HN:MO Z CX0 "noted" ["self","deed"] 1 (qF Z.K)):MO Z (Ex.CX1 Z.P Z.w) "drift" ["self","orders"] 6 (zj Z):=by
 obtain⟨f,fd,mt,F,bi⟩:=R;refine⟨f,fd,mt,bi,λbase=>?_⟩;obtain⟨fN,fdN,mN,bN,hN⟩:=HN;obtain⟨fO,fdO,mO,bO,hO⟩:=HO;obtain⟨fS,fdS,mS,bS,hS⟩:=HS;obtain⟨_,gi_LAST_HOUR⟩:=M.g_LAST_HOUR;obtain⟨_,_,hE_Late⟩:=he_Late;obtain⟨oc,od,kV,doc,pm,an,cdv,ct,osl,rfl,lkk,hcd⟩:=F.ex;have SC:FnScope Ke ["self","orders"] (aA (cm (top 81) 12)):=⟨rfl,rfl,rfl,by decide +kernel,rfl,by decide +kernel,by decide +kernel⟩;refine qk (k:=5) lkk hcd SC (λvs H Q E h=>?_) λA outer s H vs Q E hr h=>?_
 ·obtain⟨G,b,as,T,l,r,rfl,_⟩:=h
  rfl
 obtain⟨G,b,as,T,l,r,rfl,k,few,hb0,hl0,er,q⟩:=h
 refine yM (tH (m:=7) (rR M.o_Book.1 HR hr (ak 0)) (zo (a8 De (DE.db (dq M.o_Book.1 (M.o_Book.2 "hour" (by decide)) (ak 0))) (DE.db (cf rfl gi_LAST_HOUR)) (aP _)) (au (bY hE_Late hr rfl)) pe (yH
  (aH (bT (i:=2) SC.nd rfl (Qz rfl) (hX (pv 0) M.o_Book.1 mO (hO base) (hr.mono KE) bO .nil f7 (aC (pv 1) aR)))
  (aH (bT (i:=3) SC.nd rfl (Qz rfl) (qY (pv 0) M.o_Book.1 mS (hS base) (hr.mono KE) bS .nil f7))
  (aH (bT (i:=4) SC.nd rfl (Qz rfl) (dM aR))
  (aH (rQ Ex.jx rfl (zF rfl M.b_enumerate (aC (kL (pv 0) rfl) aR)) FU pss_no)
  (aH (fV (pv 0) (pv 4) rfl)
  (aH (Ab (pv 0) cG GJ)
  (bF (d_ (hX (pv 0) M.o_Book.1 mN (hN base) (hr.mono KE) bN .nil f7 (aC (mT (aC bP (aC (cD mC (by rfl) M.b_tuple (by rfl) (aC (Cb (tn:=["name","order"]) (fr:=[]) (ix:=[]) rfl (oB (pv 1)) (eY (by rfl) (by exact trivial) (by exact trivial) (by rfl) (by rfl) (by rfl) (by rfl) (by rfl)) (rY (n:=2) (dD (cw _) (dD (cw _) om))) (λ_ _ _ _ _=>kX rfl (aK (aJ 0 (show(((["name","order"]:List Str)++([]:List Str)):List Str).Nodup by decide +kernel)) (aK (aJ 1 (show(((["name","order"]:List Str)++([]:List Str)):List Str).Nodup by decide +kernel)) cX)))) aR)) aR))) aR))))))))))))) (Slots.dat k.den (Slots.un (Slots.un (Slots.un (Slots.un (Slots.un (Slots.un .nil))))))).env er ?_
 refine qQ q λq1 σ' H0 g0 h1 h2=>?_;obtain rfl:=yV (Qm _) h1 h2;have kk:=k;have k:=k.look g0;have hl0:=g0 _ _ hl0;obtain⟨S,⟨dx,a1,a2,a3,a4,a5,a6,a7,eas,m⟩,bv⟩:=id k.at_;have hl:=bv.deeds.length;refine⟨_,rfl,b,dx,_,rfl,m.b,rfl,_,rfl,_,l,rfl,hl0,λp2 hp2=>?_⟩;have g2:=cB (.dK []) hp2;generalize upd H0 p2 (.dK [])=H2 at *;refine⟨_,rfl,b,dx,_,rfl,g2 _ _ m.b,rfl,H2,[bw T],j6 T,aT.refl _,.one (k.look g2).den,xB T,λv3 G3 H3 g3 _=>?_⟩;refine⟨QV _,λp4 hp4=>?_⟩;have g4:=g2.trans (g3.hh.trans (cB (.lst []) hp4));have n4:H0 p4=none:=(g2.trans g3.hh).free hp4;have e4:upd H3 p4 (.lst []) p4=some (.lst []):=upd_same;generalize upd H3 p4 (.lst [])=H4 at *
 have e5:H0 a5=some (.lst []):=by
  have z:=bv.bal;rw[hb0] at z
  have:S.bal=[]:=by cases hS:S.bal with
   |nil=>rfl
   |cons x r=>rw[hS] at z;cases z
  rw[m.e5,this]
 refine⟨_,rfl,b,ar,dx,_,_,rfl,g4 _ _ m.b,M.o_Book.1,M.o_Book.2 _ KE,rfl,a5,[],rfl,SqL.of (g4 _ _ e5),λi _ σ' H'=>i=0/\σ'=_/\H'=_,⟨0,rfl,rfl,rfl⟩,λi _ σ' H' ⟨z1,z2,z3⟩=>?_⟩;subst z1 z2;have z4:=z3.symm;subst z4;refine .inl ⟨⟨[],SqL.of (g4 _ _ e5),Qm _⟩,?_⟩;have b4:=g4 _ _ m.b;refine⟨_,rfl,_,rfl,b,ar,dx,_,rfl,b4,M.o_Book.1,M.o_Book.2 _ KE,(by show 8<_;decide),?_⟩;rw[Dl];refine⟨_,rfl,b,ar,dx,_,.int S.hour,rfl,upd_same,M.o_Book.1,M.o_Book.2 _ KE,rfl,_,_,rfl,rfl,dx,_,upd_same,(by show 8<_;decide),?_⟩;rw[BJ,gZ];have e8:upd H4 b (.ins ar dx (fsB a1 a2 a3 a4 p4 a6 a7 (S.hour+1))) b=some (.ins ar dx (fsB a1 a2 a3 a4 p4 a6 a7 (S.hour+1))):=upd_same;have k8:∀q o,q≠b->H4 q=some o->upd H4 b (.ins ar dx (fsB a1 a2 a3 a4 p4 a6 a7 (S.hour+1))) q=some o:=λq o z e=>by rw[az z];exact e
 generalize upd H4 b (.ins ar dx (fsB a1 a2 a3 a4 p4 a6 a7 (S.hour+1)))=H8 at *;have nb:∀{q:Addr} {xs:List V},H0 q=some (.lst xs)->q≠b:=λe z=>by rw[z,m.b] at e;cases e
 have nb4:p4≠b:=λz=>by rw[z,m.b] at n4;cases n4
 have n4':∀{q:Addr} {o:HO},H0 q=some o->q≠p4:=λe=>aB e n4;have kp:∀q o,q≠b->H0 q=some o->H8 q=some o:=λq o z e=>k8 q o z (g4 _ _ e);have gH8:aT G H8:=λq o e=>kp q o (λz=>by rw[z,k.gb] at e;cases e) (k.gh _ _ e)
 have bk8:BkD Z.K G H8 b [a1,a2,a3,a4,p4,a6,a7] { T with hour:=T.hour+1 }:=by
  refine⟨gH8,k.gb,λa ha=>?_,{ S with hour:=S.hour+1,bal:=[] },⟨dx,a1,a2,a3,a4,p4,a6,a7,rfl,?_⟩,{ bv with hour:=by rw[bv.hour],bal:=by show DenL _ _ _ T.bal;rw[hb0];exact .nil }⟩
  ·subst eas
   simp only[Ql,Qw,or_false] at ha;rcases ha with z | z | z | z | z | z | z<;>rw[z]
   ·exact k.ga _ (by simp)
   ·exact k.ga _ (by simp)
   ·exact k.ga _ (by simp)
   ·exact k.ga _ (by simp)
   ·exact k.gh.free n4
   ·exact k.ga _ (by simp)
   ·exact k.ga _ (by simp)
  ·have nd:=m.nd
   simp only[Kv,Ql,Qw,not_or,or_false,not_false_eq_true,List.nodup_nil,and_true] at nd;obtain⟨⟨n12,n13,n14,n15,n16,n17⟩,⟨n23,n24,n25,n26,n27⟩,⟨n34,n35,n36,n37⟩,⟨n45,n46,n47⟩,⟨n56,n57⟩,n67⟩:=nd;refine⟨e8,kp _ _ (nb m.e1) m.e1,kp _ _ (nb m.e2) m.e2,kp _ _ (nb m.e3) m.e3,kp _ _ (nb m.e4) m.e4,k8 _ _ nb4 e4,kp _ _ (nb m.e6) m.e6,kp _ _ (nb m.e7) m.e7,?_⟩;simp[n12,n13,n14,n16,n17,n23,n24,n26,n27,n34,n36,n37,n46,n47,n67,n4' m.e1,n4' m.e2,n4' m.e3,n4' m.e4,Ne.symm (n4' m.e6),Ne.symm (n4' m.e7)]
 have hl8:H8 l=some (.lst []):=kp _ _ (nb hl0) hl0;obtain⟨dx8,b1,b2,b3,b4',b5,b6,b7,m8⟩:=bk8.ins;refine⟨_,rfl,b,dx8,_,rfl,m8,rfl,_,rfl,l,rfl,⟨_,SqL.of hl8⟩,aT.refl _,?_,λa9 H9 g9 hn9 ha9=>?_⟩
 ·intro i H' s2
  exact⟨λz=>absurd z (Nat.not_lt_zero _),λ_=>⟨[],SqL.of (s2 _ _ hl8),QV _⟩,λx H3 _ d z=>by cases z⟩
 have G9:Grow G H8 G H9:=⟨g9,aT.refl _,gH8.trans g9,λ_ _ _ e=>e⟩;refine⟨a9,[],rfl,.inl ⟨SqL.of ha9,λpt hpt=>⟨(by show 2<=Qk;decide),λpd hpd=>?_⟩⟩⟩;have gt:=Grow.new (.tup []) G9.gh hpt;have gd:=Grow.new (.tup [.str "drift",.ref pt]) gt.gh hpd;have gg:=G9.trans (gt.trans gd);refine⟨_,b,_,_,_,.tup [.str "drift",.tup []],rfl,bk8.grow gg,.tup (SqT.of upd_same) (.cons (.str _) (.cons (.tup (SqT.of (gd.gg _ _ upd_same)) .nil) .nil)),few,λH' mv bk'=>?_⟩;have M9:=Mv.grow gg mv;refine q1 _ H' _ (Mv.grow (kd kk.gh g0) ⟨M9.gg,M9.gh,λx o z1 z2 e=>M9.out x o z1 (λz=>?_) (kp x o z1 e),λa o e z=>?_,λa ha=>?_,λa o e=>?_⟩) bk'
 ·rw[eas] at z2
  simp only[Ql,Qw,or_false,not_or] at z z2;obtain⟨y1,y2,y3,y4,y5,y6,y7⟩:=z2;rcases z with z | z | z | z | z | z | z
  ·exact y1 z
  ·exact y2 z
  ·exact y3 z
  ·exact y4 z
  ·exact n4' e z
  ·exact y6 z
  ·exact y7 z
 ·by_cases y:a=b
  ·rw[y];exact bk'.gb
  ·exact M9.fo a o (kp a o y e) z
 ·rw[eas]
  simp only[Ql,Qw,or_false] at ha ⊢;rcases ha with z | z | z | z | z | z | z
  ·exact .inl (.inl z)
  ·exact .inl (.inr (.inl z))
  ·exact .inl (.inr (.inr (.inl z)))
  ·exact .inl (.inr (.inr (.inr (.inl z))))
  ·exact .inr (by rw[z];exact n4)
  ·exact .inl (.inr (.inr (.inr (.inr (.inr (.inl z))))))
  ·exact .inl (.inr (.inr (.inr (.inr (.inr (.inr z))))))
 ·by_cases y:a=b
  ·rw[y];exact M9.st b _ m8
  ·exact M9.st a o (kp a o y e)
end
inductive Doing(T:BT):D->Fl->BT->Prop where
 |shut {ds:List D} {x y:Int} {r:Fl} (n:ds≠[]) (l:ds.length<1000) (e:vk [.dat (bw T),.dat (.tup ds),.dat (.int x),.dat (.int y)]=some r):Doing T (.tup [.str "shut",.tup ds,.int x,.int y]) r { T with shuts:=T.shuts++[.tup (ds++[.int x,.int y])],deeds:=T.deeds++[.tup (.str "shut" :: ds++[.int x,.int y])] }
 |launch {n:Str} {ds:List D} {r:Fl} {bd:D} (ne:ds≠[]) (l:ds.length<1000) (e:nZ [.dat (bw T),.dat (.str n),.dat (.tup ds),.un]=some r) (eb:(∃ε,r=.nx ε)->ki [.str n,.int T.hour,.tup ds]=some bd):Doing T (.tup [.str "launch",.str n,.tup ds]) r { T with bal:=T.bal++[bd],deeds:=T.deeds++[.tup ([.str "launch",.str n]++ds)] }
 |drift {r:Fl} (b:T.bal=[]) (e:qD [.dat (bw T),.un,.un,.un,.un,.un,.un]=some r):Doing T (.tup [.str "drift",.lst []]) r { T with hour:=T.hour+1,deeds:=T.deeds++[.tup [.str "drift",.tup []]] }
theorem Aft.imp{r:Fl}{a b:Prop}{x y:Str->List (Str×D)->Prop}(h:Aft r a x)(f:(∃ε,r=.nx ε)->a->b)(g:∀c fs,x c fs->y c fs):Aft r b y:=by
 cases r with
 |nx ε=>exact f ⟨ε,rfl⟩ h
 |xc c fs=>exact g c fs h
 |rt d=>exact h
 |ro ds=>exact h
 |bk ε'=>exact h
 |ct ε'=>exact h
theorem XE.look{Z:Wq}{H H1:Hp}{E:XK}{c:Str}{fs:List (Str×D)}(h:XE Z H E c fs)(g:aT H H1):XE Z H1 E c fs:=λcls dx G' H' g' m xd=>h cls dx G' H' ⟨g.trans g'.hh,g.trans g'.gg,g'.gh,λa o e z=>by rw[e] at z;cases z⟩ m xd
structure Few(T:BT):Prop where
 deeds:T.deeds.length<1000
 shuts:T.shuts.length<1000
 bal:T.bal.length<1000
section
variable{Z:Wq}
noncomputable abbrev rn:List Str:=["_law_book","_law_call_here"]
noncomputable def OO(Z:Wq)(CX:CXT)(n:Str)(st:Stmt)(ps:List Str)(k:Nat)(sp:Sp):Prop:=∃f fd,FA Z.K Z.mg n st ps f fd/\∀base,FnOk Z.P Z.w Z.K Z.mg base CX k f fd ps sp
noncomputable def GU(Z:Wq):Sp:=λvs H Q E=>∃G b as T v d r T',vs=[.ref b,v]/\BkD Z.K G H b as T/\Few T/\Den Z.K G v d/\Doing T d r T'/\Aft r (∀G' H' as',Mv G H G' H' b as as'->BkD Z.K G' H' b as' T'->Q (.int (T.deeds.length+1)) H') (XE Z H E)
theorem Js(R:FX Z "_law_do" (top 104) rn)(M:Md Z)(HS:MO Z (Ex.CX1 Z.P Z.w) "shut" pz 6 (BA Z))(HL:MO Z (Ex.CX1 Z.P Z.w) "launch" lC 6 (wO Z))(HD:MO Z (Ex.CX1 Z.P Z.w) "drift" ["self","orders"] 6 (zj Z)):OO Z (Ex.CX1 Z.P Z.w) "_law_do" (top 104) rn 7 (GU Z):=by
 obtain⟨f,fd,R,_⟩:=R;have F:=R.fu;refine⟨f,fd,R,λbase=>?_⟩;obtain⟨fL,fdL,mL,bL,hL⟩:=HL;obtain⟨fS,fdS,mS,bS,hS⟩:=HS;obtain⟨fD,fdD,mD,bD,hD⟩:=HD
 clear R
 obtain⟨oc,od,kV,doc,pm,an,cdv,ct,osl,rfl,lkk,hcd⟩:=F.ex;have SC:FnScope rn rn (aA (top 104)):=⟨rfl,rfl,rfl,by decide +kernel,rfl,by decide +kernel,by decide +kernel⟩;refine qk (k:=6) lkk hcd SC (λvs H Q E h=>?_) λA outer s H vs Q E hr h=>?_
 ·obtain⟨G,b,as,T,v,d,r,T',rfl,_⟩:=h
  rfl
 obtain⟨G,b,as,T,v,d,r,T',rfl,k,few,dv,dg,q⟩:=h
 refine⟨_,aH (ia (fG mM (ib d9 (pv 1) cG (λ_ _=>rfl)) bP (aP _)) pss_no eQ)
  (aH (ia (fG mM (ib d9 (pv 1) cG (λ_ _=>rfl)) bP (aP _)) (bF (d_ (hX (pv 0) M.o_Book.1 mS (hS base) hr bS .nil (Ex.pH Ex.nH) (aC (ib d9 (pv 1) cG (λ_ _=>rfl)) (aC (ib d9 (pv 1) cG (λ_ _=>rfl)) (aC (ib d9 (pv 1) cG (λ_ _=>rfl)) aR)))))) eQ)
  (aH (ia (fG mM (ib d9 (pv 1) cG (λ_ _=>rfl)) bP (aP _)) (bF (d_ (hX (pv 0) M.o_Book.1 mL (hL base) hr bL .nil (Ex.pH Ex.nH) (aC (ib d9 (pv 1) cG (λ_ _=>rfl)) (aC (ib d9 (pv 1) cG (λ_ _=>rfl)) aR))))) eQ)
  (aH (ia (fG mM (ib d9 (pv 1) cG (λ_ _=>rfl)) bP (aP _)) (bF (d_ (hX (pv 0) M.o_Book.1 mD (hD base) hr bD .nil (Ex.pH Ex.nH) (aC (cD cN (by rfl) M.b_list (by rfl) (aC (ib d9 (pv 1) cG (λ_ _=>rfl)) aR)) aR)))) eQ) pss_no))),?_⟩
 obtain⟨dx,a1,a2,a3,a4,a5,a6,a7,m⟩:=k.ins
 obtain⟨av,xs,rfl,sq,dl⟩:∃a xs,v=.ref a/\SqT Z.K H a xs/\∃ds,d=.tup ds/\DenL Z.K G xs ds:=by
  have:∃ds,d=.tup ds:=by cases dg<;>exact⟨_,rfl⟩
  obtain⟨ds,rfl⟩:=this;obtain⟨a,xs,rfl,sq,dl⟩:=dv.tupV;exact⟨a,xs,rfl,aM k.gh sq,ds,rfl,dl⟩
 obtain⟨ds,rfl,dl⟩:=dl;cases dg with
 |shut ne le e=>
  rcases dl with _ | ⟨d0,_ | ⟨d1,_ | ⟨d2,_ | ⟨d3,_ | _⟩⟩⟩⟩
  cases d0;cases d2;cases d3;refine⟨_,rfl,av,_,_,_,rfl,rfl,sq,rfl,rfl,_,rfl,?_⟩;refine gu (λc=>absurd c KE) λ_=>?_;refine⟨_,rfl,av,_,_,_,rfl,rfl,sq,rfl,rfl,_,rfl,?_⟩;refine gu (λ_=>?_) λc=>absurd (decide_eq_true rfl) c;refine⟨_,rfl,b,dx,_,rfl,m,rfl,_,rfl,av,_,_,_,rfl,rfl,sq,rfl,_,rfl,av,_,_,_,rfl,rfl,sq,rfl,_,rfl,av,_,_,_,rfl,rfl,sq,rfl,?_⟩;exact⟨G,b,as,T,_,_,_,_,_,rfl,k,few.deeds,few.shuts,d1,ne,le,e,q.imp (λ_ q G' H' mv bk=>q G' H' as mv bk) λ_ _ x=>x⟩
 |launch ne le e eb=>
  rcases dl with _ | ⟨d0,_ | ⟨d1,_ | ⟨d2,_ | _⟩⟩⟩
  cases d0;cases d1;refine⟨_,rfl,av,_,_,_,rfl,rfl,sq,rfl,rfl,_,rfl,?_⟩;refine gu (λc=>absurd c KE) λ_=>?_;refine⟨_,rfl,av,_,_,_,rfl,rfl,sq,rfl,rfl,_,rfl,?_⟩;refine gu (λc=>absurd c KE) λ_=>?_;refine⟨_,rfl,av,_,_,_,rfl,rfl,sq,rfl,rfl,_,rfl,?_⟩;refine gu (λ_=>?_) λc=>absurd (decide_eq_true rfl) c;refine⟨_,rfl,b,dx,_,rfl,m,rfl,_,rfl,av,_,_,_,rfl,rfl,sq,rfl,_,rfl,av,_,_,_,rfl,rfl,sq,rfl,?_⟩;exact⟨G,b,as,T,_,_,_,_,rfl,k,few.deeds,few.bal,d2,ne,le,e,q.imp (λz q=>⟨_,eb z,λG' H' mv bk=>q G' H' as mv bk⟩) λ_ _ x=>x⟩
 |drift hb e=>
  rcases dl with _ | ⟨d0,_ | ⟨d1,_ | _⟩⟩
  cases d0;refine⟨_,rfl,av,_,_,_,rfl,rfl,sq,rfl,rfl,_,rfl,?_⟩;refine gu (λc=>absurd c KE) λ_=>?_;refine⟨_,rfl,av,_,_,_,rfl,rfl,sq,rfl,rfl,_,rfl,?_⟩;refine gu (λc=>absurd c KE) λ_=>?_;refine⟨_,rfl,av,_,_,_,rfl,rfl,sq,rfl,rfl,_,rfl,?_⟩;refine gu (λc=>absurd c KE) λ_=>?_;refine⟨_,rfl,av,_,_,_,rfl,rfl,sq,rfl,rfl,_,rfl,?_⟩;refine gu (λ_=>?_) λc=>absurd (decide_eq_true rfl) c;obtain⟨al,ys,rfl,rl,dy⟩:=d1.lstV;cases dy;refine⟨_,rfl,b,dx,_,rfl,m,rfl,_,rfl,av,_,_,_,rfl,rfl,sq,rfl,al,[],rfl,.inl (k.gh.seq rl),λl hl=>?_⟩;have g:=Grow.lay (.lst []) k.gh hl;exact⟨G,b,as,T,l,_,rfl,k.grow g,few.deeds,hb,upd_same,e,q.imp (λ_ q G' H' as' mv bk=>q G' H' as' (Mv.grow g mv) bk) λ_ _ x=>x.look g.hh⟩
end
structure ExA(Z:Wq)(B:Addr)(c:Str)(C:Addr):Prop where
 ok:OkE Z c C (.ref B::gk)
 kk:Ex.XK1 Z.K C
theorem GQ{K:Qc}{C:Addr}:Ki K (.ref C) (.ref C)=some true:=by
 unfold Ki;rw[if_pos (beq_self_eq_true _)]
theorem F2{K:Qc}{B C D:Addr}(h1:Ex.XO K C (.ref B::gk))(h2:Ex.XO K D (.ref B::gk))(ne:C≠D)(nb:D≠B):Ki K (.ref C) (.ref D)=some false:=by
 obtain⟨nm,q,N,bs,hd,sn,sub,ab,col,dd,k0,k1,k2,k3,k5,l1⟩:=h1.ob;obtain⟨nm',q',N',bs',hd',sn',sub',ab',col',dd',j0,j1,j2,j3,j5,l2⟩:=h2.ob;unfold Ki PySem.W.kitCls;rw[if_neg (λz=>ne (Value.ref.inj (beq_iff_eq.mp z)))];have c2:(ZG K D).isSome=true:=by unfold ZG;rw[l2];rfl
 have t2:Z8 K (.ref D)=some (.type "type"):=by show Option.map _ (Q4 D K)=_;rw[l2];rfl
 obtain⟨cd,c1,m1⟩:∃cd,ZG K C=some cd/\cd.mro=.ref C :: .ref B::gk:=by unfold ZG;rw[l1];exact⟨_,rfl,rfl⟩
 simp only[c2,t2,beq_self_eq_true,Bool.and_self,if_true];show ZH K C (.ref D)=_;unfold ZH;rw[c1];show(if cd.mro.isEmpty=true then none else some (cd.mro.contains (Qn D)))=_;rw[m1];have e1:(Qn D==Qn C)=false:=beq_eq_false_iff_ne.mpr λz=>ne (Value.ref.inj z).symm;have e2:(Qn D==Qn B)=false:=beq_eq_false_iff_ne.mpr λz=>nb (Value.ref.inj z);rw[if_neg (λz=>nomatch z),QS,QS,e1,e2];rfl
noncomputable def isx(c:Str)(p1 p2 p3 p4:Pos):Expr:=.Call (.Name "isinstance" p1) [.Name "e" p2,.Name c p3] [] p4
section
variable{X:Cx}{a dx C D:Addr}{oe:Obj}{c:Str}{p1 p2 p3 p4:Pos}
theorem di(g:Ex.XK1 X.K C)(hc:oe.cls=.ref C)(hd:oe.dict=some dx)(nc:Zp oe=true)(hN:X.N[4]?=some ("e" : Str))(hv:Vis X.env.scope "e")(hg:Gl X "isinstance")(hm:X.mg "isinstance" = none)(hgc:Gl X c)(mc:X.mg c=some (.ref D))(dc:(c==("__debug__" : Str))=false)
  (he:Qg [.Name "e" p2,.Name c p3] X.env=(false,eval (.Name "e" p2) X.env)::Qg [.Name c p3] X.env) (he2:Qg [.Name c p3] X.env=(false,eval (.Name c p3) X.env)::Qg [] X.env) (hpl:(QP p4 (Qg [.Name c p3] X.env)).any (·.1)=false) :
  PE (Mk3 X a oe) (isx c p1 p2 p3 p4) (tCB (IG X.K C a dx) (pM (yG 4) (pM (tC (.ref D)) ya))):=
 fm (X:=Mk3 X a oe) (C0 g hc hd nc) hg hm PyProof.Rows.boot_isinstance (aC (lu hN hv) (aC (vn (v:=.ref D) hgc mc rfl dc) aR he2) he) KE KE he hpl
end
theorem qG{X:Cx}{pins:List Vz}{s:Qd}{σ:L2.St}{H:Hp}{D:Ends}{st:List Stmt}{t:TS}(I:Inv X pins σ H s)(h:PSs X st t)(q:t D σ H):Qf KF X.A (execs st X.env) (SP X pins D) X.xe s:=h pins s σ H D I q
theorem Ej{X:Cx}{pins:List Vz}{s:Qd}{σ:L2.St}{He Ge G H:Hp}{D:Ends}{st:List Stmt}{g:Ev->Option Fl}{ε:Ev}{r:Fl}(I:Inv X pins σ H s)(h:DSs X st g)(S:Sta X.K He Ge G H σ ε)(e:g ε=some r)(P:xk X He Ge r D) :
  Qf KF X.A (execs st X.env) (SP X pins D) X.xe s:=let⟨_,t1,t2⟩:=h;t1 pins s σ H D I (t2 He Ge G H σ ε r D S e P)
noncomputable def nms:List Str:=["BadName","Taken","NoBalloon","BadHour","Past","Late","BadPlace","BadHeight","BadLoad","BadWind","BadBox","BadOrder","Twice","NotAloft","NotLost","NotLow","OutOfSight","NoHold","Full"]
theorem yS{K:Qc}{G:Hp}:∀bs:List Bool,DenL K G (bs.map V.bl) (bs.map D.bl)
 |[]=>.nil
 |b::r=>.cons (.bl b) (yS r)
structure Cls19(Z:Wq)(B:Addr)(c:Nat->Addr):Prop where
 b:OkE Z "BookError" B gk
 ex:∀i,i<19->ExA Z B (nms.getD i "") (c i)
 inj:∀i j,i<19->j<19->c i=c j->i=j
 nb:∀i,i<19->c i≠B
theorem Cls19.kit{Z:Wq}{B:Addr}{c:Nat->Addr}(h:Cls19 Z B c){i j:Nat}(hi:i<19)(hj:j<19):Ki Z.K (.ref (c j)) (.ref (c i))=some (decide (i=j)):=by
 by_cases e:i=j
 ·subst e;rw[decide_eq_true rfl];exact GQ
 ·rw[decide_eq_false e];exact F2 (h.ex j hj).ok.xo (h.ex i hi).ok.xo (λz=>e (h.inj i j hi hj z.symm)) (h.nb i hi)
noncomputable def Gq(j:Nat):List Bool:=(QU 19).map λi=>decide (i=j)
noncomputable abbrev Jb:List Str:=["_law_book","_law_call_here","_law_found","_law_flags","e"]
noncomputable def Df:Ev->Option Fl:=aQ (sIf (aG gtI (aY dJ (ah 3)) Vw) (bo (aL qi (aa (aj 3) aF))) bj) (bo (aj 2))
theorem El:∀j,j<19->Df [.un,.un,.dat .non,.dat (.lst ((Gq j).map D.bl)),.un]=some (.rt (.tup [.str "no",.str (nms.getD j "")]))
 |0,_=>by rfl
 |1,_=>by rfl
 |2,_=>by rfl
 |3,_=>by rfl
 |4,_=>by rfl
 |5,_=>by rfl
 |6,_=>by rfl
 |7,_=>by rfl
 |8,_=>by rfl
 |9,_=>by rfl
 |10,_=>by rfl
 |11,_=>by rfl
 |12,_=>by rfl
 |13,_=>by rfl
 |14,_=>by rfl
 |15,_=>by rfl
 |16,_=>by rfl
 |17,_=>by rfl
 |18,_=>by rfl
 |n+19,h=>absurd h (by omega)
theorem Ee{K:Qc}{He G H:Hp}{v1 v2:V}{p:Addr}{bs:List Bool}(hp:G p=some (.lst (bs.map V.bl))):EnvD K He G H [some v1,some v2,some .non,some (.ref p),none] [.un,.un,.dat .non,.dat (.lst (bs.map D.bl)),.un] where
 len:=rfl
 dat:=λ{i d} e=>by
  match i,e with
  |0,e=>cases e
  |1,e=>cases e
  |4,e=>cases e
  |2,e=>cases e;exact⟨_,rfl,.non⟩
  |3,e=>cases e;exact⟨_,rfl,.lst (.inl hp) (yS bs)⟩
 own:=λ{i d} e=>by match i,e with | 0,e=>cases e | 1,e=>cases e | 2,e=>cases e | 3,e=>cases e | 4,e=>cases e
 apart:=λ{i j d d' a} e=>by match i,e with | 0,e=>cases e | 1,e=>cases e | 2,e=>cases e | 3,e=>cases e | 4,e=>cases e
 odi:=λ{i d} e=>by match i,e with | 0,e=>cases e | 1,e=>cases e | 2,e=>cases e | 3,e=>cases e | 4,e=>cases e
 apartD:=λ{i j d d' a} e=>by match i,e with | 0,e=>cases e | 1,e=>cases e | 2,e=>cases e | 3,e=>cases e | 4,e=>cases e
structure Ahead(Z:Wq)(B:Addr)(c:Nat->Addr)(n:Str)(S:Addr)(bS:List Qa):Prop where
 mg:Z.mg n=some (.ref S)
 xo:Ex.XO Z.K S bS
 nb:S≠B
 nc:∀i,i<19->S≠c i
theorem Ahead.no{Z:Wq}{B S:Addr}{c:Nat->Addr}{n:Str}{bS:List Qa}(h:Ahead Z B c n S bS){j:Nat}(hj:j<19):(Qn (c j) :: .ref B::gk).contains (.ref S)=false:=by
 have e1:(Qn S==Qn (c j))=false:=beq_eq_false_iff_ne.mpr λz=>h.nc j hj (Value.ref.inj z);have e2:(Qn S==Qn B)=false:=beq_eq_false_iff_ne.mpr λz=>h.nb (Value.ref.inj z);rw[QS,QS,e1,e2];rfl
inductive Told:Str->List (Str×D)->D->Prop where
 |nm {j:Nat} {fs:List (Str×D)} (hj:j<19):Told (nms.getD j "") fs (.tup [.str "no",.str (nms.getD j "")])
 |st {i:Int} {w:Str}:Told "Stopped" [("at",.int i),("why",.str w)] (.tup [.str "no",.str "Stopped",.int i,.str w])
theorem Aft.re{r:Fl}{a b:Prop}{x y:Str->List (Str×D)->Prop}(h:Aft r a x)(f:(∃ε,r=.nx ε)->a->b)(g:∀c fs,r=.xc c fs->x c fs->y c fs):Aft r b y:=by
 cases r with
 |nx ε=>exact f ⟨ε,rfl⟩ h
 |xc c fs=>exact g c fs rfl h
 |rt d=>exact h
 |ro ds=>exact h
 |bk ε'=>exact h
 |ct ε'=>exact h
noncomputable def FL(Z:Wq):Sp:=λvs H Q _=>∃G b as T v d r T',vs=[.ref b,v]/\BkD Z.K G H b as T/\Few T/\Den Z.K G v d/\Doing T d r T'/\Aft r (∀G' H' as',Mv G H G' H' b as as'->BkD Z.K G' H' b as' T'->Q (.int (T.deeds.length+1)) H') λx fs=>∃d',Told x fs d'/\∀v' G' H',Grow G H G' H'->Den Z.K G' v' d'->Q v' H'
theorem Ij{Z:Wq}{B SA NA:Addr}{c:Nat->Addr}{bS bN:List Qa}(R:FX Z "_law_try" (top 108) rn)(M:Md Z)(HD:OO Z (Ex.CX1 Z.P Z.w) "_law_do" (top 104) rn 7 (GU Z))(HO:p0 Z)(cs:Cls19 Z B c)(aS:Ahead Z B c "Stopped" SA bS)(aN:Ahead Z B c "NothingFits" NA bN)(hc_Stopped:nE Z):OO Z CX0 "_law_try" (top 108) rn 8 (FL Z):=by
 obtain⟨f,fd,R,_⟩:=R;have F:=R.fu;refine⟨f,fd,R,λbase=>?_⟩;obtain⟨fD,fdD,FD,hD⟩:=HD;obtain⟨CS,okS,xgS,fnS⟩:=hc_Stopped;obtain⟨_,_,_,bmS,_,mgS,_,xoS,_⟩:=okS;have S:FnScope Jb rn (aA (top 108)):=⟨rfl,rfl,rfl,by decide +kernel,rfl,by decide +kernel,by decide +kernel⟩;refine F.ok (k:=7) S (λvs H Q E h=>?_) (λcdv A outer s H vs Q E hr h=>?_)
 ·obtain⟨G,b,as,T,v,d,r,T',rfl,_⟩:=h
  rfl
 obtain⟨G,b,as,T,v,d,r,T',rfl,k,few,dv,dg,q⟩:=h;refine⟨_,aH (bT (i:=2) S.nd rfl (Qz rfl) Bw) (aH (bT (i:=3) S.nd rfl (Qz rfl) (dM aR)) Ex.sR),?_⟩;refine⟨QV _,λp3 hp3 pins s1 I=>?_⟩;have g3:Grow G H G (upd H p3 (.lst [])):=.lay _ k.gh hp3;have h3:upd H p3 (.lst []) p3=some (.lst []):=upd_same;generalize upd H p3 (.lst [])=H1 at *;have k1:=k.grow g3;refine ZS (wpAny_Try_except (ZS (wpAny_Assign_Name (Zr (hU I rfl FD.mgf ?_ KE)) rfl)));refine Ko (h₀:=base) I.ok.mod.kin FD.fu.kp (Zk ((aC (pv 0) (aC (pv 1) aR)) _ pins s1 _ H1 (λvs H2=>vs=[.ref b,v]/\H2=H1) I ⟨_,rfl,_,rfl,rfl,rfl⟩) (λus s2 ⟨vs,H2,I2,rv,ev,eh⟩=>⟨I2.kIn,?_⟩) λ_ _ z=>z.elim) rfl rfl;subst ev eh;have r2:bu [.ref b,v] ([]++us):=rv
 have SPD:GU Z [.ref b,v] H2 (λv' H'=>v'=.int (T.deeds.length+1)/\(∃ε,r=.nx ε)/\∃G' as',Mv G H2 G' H' b as as'/\BkD Z.K G' H' b as' T') (λcls od H'=>∃x fs dx' G',r=.xc x fs/\od=some dx'/\Grow H2 H2 G' H'/\Z.mg x=some cls/\XD Z.K G' dx' fs):=
  ⟨G,b,as,T,v,d,r,T',rfl,k1,few,dv,dg,q.re (λe _ G' H' as' mv bk=>⟨rfl,e,G',as',mv,bk⟩) λx fs e _ cls dx' G' H' g m xd=>⟨x,fs,dx',G',e,rfl,g,m,xd⟩⟩
 have hlen:([]++us++[]).length=2:=by rw[Q6,<-r2.length];rfl
 have bb:=FD.bi s2 ([]++us) I2.kIn hlen;rw[Q6] at bb;refine Kk (KS ((hD base).run _ _ s2 H2 ⟨[]++us,[]⟩ ([]++us) [.ref b,v] _ _ hr I2.env0 bb r2 SPD) λres s3 z=>?_)
 have np:p3≠b/\p3∉as:=by
  obtain⟨S0,bk,_⟩:=k.at_;obtain⟨_,_,e⟩:=bk.ins;constructor
  ·intro z;rw[<-z,hp3] at e;cases e
  ·intro z;obtain⟨_,e⟩:=bk.has z;rw[hp3] at e;cases e
 cases res with
 |ok fl=>
  cases fl with
  |ret u=>
   obtain⟨v4,H4,I4,rv4,ev,⟨z,ez⟩,G',as',mv,bk⟩:=I2.after z;subst ev ez;refine jK I4 S.nd (i:=2) rfl (Qz rfl) rv4 (λs5 I5=>?_) (.inl rfl);refine Ks (Ks ?_);refine qG I5 (aH (ia (fG C8 (fm eR rfl M.b_len KP (aC (pv 3) aR)) cG (aP _)) Ex.sR eQ) (bF (d_ (pv 2)))) ?_;refine⟨_,rfl,p3,[],rfl,.inl (SqL.of (mv.out _ _ np.1 np.2 h3)),_,_,rfl,rfl,_,rfl,?_⟩;refine gu (λc=>absurd c KE) λ_=>?_;exact⟨_,rfl,q G' H4 as' (Mv.grow g3 mv) bk⟩
  |next=>exact QR z
  |brk=>exact QR z
  |cont=>exact QR z
 |error ex=>
  obtain⟨a,cls,dxe,H4,rfl,os4,bare,un,hok,xat,x,fs,dx',G4,er,ed,g4,mc,xd⟩:=z;cases ed;subst er;obtain⟨d',td,q3⟩:=q;have g4':Grow G H2 G H4:=kd k1.gh g4.hh;cases td with
  |@st i w=>
   have ecl:cls=.ref CS:=Option.some.inj (mc.symm.trans mgS);subst ecl;obtain⟨xs,hv,hx⟩:=xd;have hv:=g4.gh _ _ hv;obtain⟨v1,l1,dn1⟩:=hx "at" _ QD;obtain⟨v2,l2,dn2⟩:=hx "why" _ (Qv _ QD);cases dn1;cases dn2;refine Ex.HV (R:=λσ4 H5=>∃p,σ4=[some (.ref b),some v,some (.ref p),some (.ref p3),some (.ref a)]/\H4 p=none/\H5=upd H4 p (.tup [.str "no",.str "Stopped",.int i,.str w])) I2 rfl rfl os4 bare un hok xat xoS rfl mgS KE rfl S.nd (i:=4) rfl (λoe s4 oc odd nc I4=>?_) λσ4 H5 s5 hR I5=>?_
   ·refine vI I4 (bF (bT (i:=2) S.nd rfl (Qz rfl) (mT (aC bP (aC bP (aC (BI (i:=4) xgS (fnS "at" (by simp)) oc odd nc) (aC (BI (i:=4) xgS (fnS "why" (by simp)) oc odd nc) aR))))))) ?_
    exact⟨rfl,xs,_,hv,l1,rfl,xs,_,hv,l2,(by show 4<=Qk;decide),λp hp=>⟨p,rfl,hp,rfl⟩⟩
   ·obtain⟨p,rfl,hp,rfl⟩:=hR
    have gn:=Grow.new (.tup [.str "no",.str "Stopped",.int i,.str w]) g4'.gh hp;refine qG I5 (aH (ia (fG C8 (fm eR rfl M.b_len KP (aC (pv 3) aR)) cG (aP _)) Ex.sR eQ) (bF (d_ (pv 2)))) ?_;refine⟨_,rfl,p3,[],rfl,.inl (SqL.of (gn.hh _ _ (g4.hh _ _ h3))),_,_,rfl,rfl,_,rfl,?_⟩;refine gu (λc=>absurd c KE) λ_=>?_;exact⟨_,rfl,q3 _ _ _ (g3.trans (g4'.trans gn)) (.tup (SqT.of upd_same) (.cons (.str _) (.cons (.str _) (.cons (.int _) (.cons (.str _) .nil)))))⟩
  |@nm j _ hj=>
  have A:=cs.ex j hj;have ecl:cls=.ref (c j):=Option.some.inj (mc.symm.trans A.ok.mg);subst ecl;obtain⟨vs,hv,_⟩:=xd;have hv:=g4.gh _ _ hv;refine Ex.D1 (R:=λσ4 H5=>∃p,σ4=[some (.ref b),some v,some .non,some (.ref p),some (.ref a)]/\aT H4 H5/\H4 p=none/\H5 p=some (.lst ((Gq j).map V.bl))) (pre:=[_,_]) ?_ I2 rfl rfl os4 bare un hok xat A.ok.xo cs.b.xo (by simp) rfl cs.b.mg KE rfl S.nd (i:=4) rfl (λoe s4 oc odd nc I4=>?_) λσ4 H5 s5 hR I5=>?_
  ·intro y hy
   obtain rfl | hy:=Ql.mp hy
   ·exact⟨_,_,_,_,_,_,SA,bS,rfl,rfl,aS.mg,aS.xo,aS.no hj,by decide⟩
   ·obtain rfl | hy:=Ql.mp hy
    ·exact⟨_,_,_,_,_,_,NA,bN,rfl,rfl,aN.mg,aN.xo,aN.no hj,by decide⟩
    ·cases hy
  ·refine vI I4 (aH (bT (i:=3) S.nd rfl (Qz rfl) (dM (aC (di A.kk oc odd nc rfl (Qz rfl) rfl M.b_isinstance rfl (cs.ex 0 KE).ok.mg KE rfl rfl rfl) (aC (di A.kk oc odd nc rfl (Qz rfl) rfl M.b_isinstance rfl (cs.ex 1 KE).ok.mg KE rfl rfl rfl) (aC (di A.kk oc odd nc rfl (Qz rfl) rfl M.b_isinstance rfl (cs.ex 2 KE).ok.mg KE rfl rfl rfl) (aC (di A.kk oc odd nc rfl (Qz rfl) rfl M.b_isinstance rfl (cs.ex 3 KE).ok.mg KE rfl rfl rfl) aR)))))) (aH (bT (i:=3) S.nd rfl (Qz rfl) (js t_ (pv 3) (dM (aC (di A.kk oc odd nc rfl (Qz rfl) rfl M.b_isinstance rfl (cs.ex 4 KE).ok.mg KE rfl rfl rfl) (aC (di A.kk oc odd nc rfl (Qz rfl) rfl M.b_isinstance rfl (cs.ex 5 KE).ok.mg KE rfl rfl rfl) (aC (di A.kk oc odd nc rfl (Qz rfl) rfl M.b_isinstance rfl (cs.ex 6 KE).ok.mg KE rfl rfl rfl) (aC (di A.kk oc odd nc rfl (Qz rfl) rfl M.b_isinstance rfl (cs.ex 7 KE).ok.mg KE rfl rfl rfl) aR))))))) (aH (bT (i:=3) S.nd rfl (Qz rfl) (js t_ (pv 3) (dM (aC (di A.kk oc odd nc rfl (Qz rfl) rfl M.b_isinstance rfl (cs.ex 8 KE).ok.mg KE rfl rfl rfl) (aC (di A.kk oc odd nc rfl (Qz rfl) rfl M.b_isinstance rfl (cs.ex 9 KE).ok.mg KE rfl rfl rfl) (aC (di A.kk oc odd nc rfl (Qz rfl) rfl M.b_isinstance rfl (cs.ex 10 KE).ok.mg KE rfl rfl rfl) (aC (di A.kk oc odd nc rfl (Qz rfl) rfl M.b_isinstance rfl (cs.ex 11 KE).ok.mg KE rfl rfl rfl) aR))))))) (aH (bT (i:=3) S.nd rfl (Qz rfl) (js t_ (pv 3) (dM (aC (di A.kk oc odd nc rfl (Qz rfl) rfl M.b_isinstance rfl (cs.ex 12 KE).ok.mg KE rfl rfl rfl) (aC (di A.kk oc odd nc rfl (Qz rfl) rfl M.b_isinstance rfl (cs.ex 13 KE).ok.mg KE rfl rfl rfl) (aC (di A.kk oc odd nc rfl (Qz rfl) rfl M.b_isinstance rfl (cs.ex 14 KE).ok.mg KE rfl rfl rfl) (aC (di A.kk oc odd nc rfl (Qz rfl) rfl M.b_isinstance rfl (cs.ex 15 KE).ok.mg KE rfl rfl rfl) aR))))))) (bF (bT (i:=3) S.nd rfl (Qz rfl) (js t_ (pv 3) (dM (aC (di A.kk oc odd nc rfl (Qz rfl) rfl M.b_isinstance rfl (cs.ex 16 KE).ok.mg KE rfl rfl rfl) (aC (di A.kk oc odd nc rfl (Qz rfl) rfl M.b_isinstance rfl (cs.ex 17 KE).ok.mg KE rfl rfl rfl) (aC (di A.kk oc odd nc rfl (Qz rfl) rfl M.b_isinstance rfl (cs.ex 18 KE).ok.mg KE rfl rfl rfl) aR))))))))))) ?_
   refine⟨_,rfl,vs,c 0,_,rfl,hv,cs.kit KE hj,_,rfl,vs,c 1,_,rfl,hv,cs.kit KE hj,_,rfl,vs,c 2,_,rfl,hv,cs.kit KE hj,_,rfl,vs,c 3,_,rfl,hv,cs.kit KE hj,(by show 4<=Qk;decide),λp5 hp5=>?_⟩;have g0:=cB (.lst [V.bl (decide (0=j)),V.bl (decide (1=j)),V.bl (decide (2=j)),V.bl (decide (3=j))]) hp5;refine⟨_,rfl,_,rfl,vs,c 4,_,rfl,g0 _ _ hv,cs.kit KE hj,_,rfl,vs,c 5,_,rfl,g0 _ _ hv,cs.kit KE hj,_,rfl,vs,c 6,_,rfl,g0 _ _ hv,cs.kit KE hj,_,rfl,vs,c 7,_,rfl,g0 _ _ hv,cs.kit KE hj,(by show 4<=Qk;decide),λa1 ha1=>?_⟩;have u1:=cB (.lst [V.bl (decide (4=j)),V.bl (decide (5=j)),V.bl (decide (6=j)),V.bl (decide (7=j))]) ha1;refine⟨p5,a1,_,_,rfl,rfl,u1 _ _ upd_same,upd_same,(by show 8<=Qk;decide),λb1 hb1=>?_⟩;have w1:=g0.trans (u1.trans (cB (.lst ([V.bl (decide (0=j)),V.bl (decide (1=j)),V.bl (decide (2=j)),V.bl (decide (3=j))]++[V.bl (decide (4=j)),V.bl (decide (5=j)),V.bl (decide (6=j)),V.bl (decide (7=j))])) hb1));have f1:=(g0.trans u1).free hb1;refine⟨_,rfl,_,rfl,vs,c 8,_,rfl,w1 _ _ hv,cs.kit KE hj,_,rfl,vs,c 9,_,rfl,w1 _ _ hv,cs.kit KE hj,_,rfl,vs,c 10,_,rfl,w1 _ _ hv,cs.kit KE hj,_,rfl,vs,c 11,_,rfl,w1 _ _ hv,cs.kit KE hj,(by show 4<=Qk;decide),λa2 ha2=>?_⟩;have u2:=cB (.lst [V.bl (decide (8=j)),V.bl (decide (9=j)),V.bl (decide (10=j)),V.bl (decide (11=j))]) ha2;refine⟨b1,a2,_,_,rfl,rfl,u2 _ _ upd_same,upd_same,(by show 12<=Qk;decide),λb2 hb2=>?_⟩;have w2:=w1.trans (u2.trans (cB (.lst (([V.bl (decide (0=j)),V.bl (decide (1=j)),V.bl (decide (2=j)),V.bl (decide (3=j))]++[V.bl (decide (4=j)),V.bl (decide (5=j)),V.bl (decide (6=j)),V.bl (decide (7=j))])++[V.bl (decide (8=j)),V.bl (decide (9=j)),V.bl (decide (10=j)),V.bl (decide (11=j))])) hb2));have f2:=(w1.trans u2).free hb2;refine⟨_,rfl,_,rfl,vs,c 12,_,rfl,w2 _ _ hv,cs.kit KE hj,_,rfl,vs,c 13,_,rfl,w2 _ _ hv,cs.kit KE hj,_,rfl,vs,c 14,_,rfl,w2 _ _ hv,cs.kit KE hj,_,rfl,vs,c 15,_,rfl,w2 _ _ hv,cs.kit KE hj,(by show 4<=Qk;decide),λa3 ha3=>?_⟩;have u3:=cB (.lst [V.bl (decide (12=j)),V.bl (decide (13=j)),V.bl (decide (14=j)),V.bl (decide (15=j))]) ha3;refine⟨b2,a3,_,_,rfl,rfl,u3 _ _ upd_same,upd_same,(by show 16<=Qk;decide),λb3 hb3=>?_⟩;have w3:=w2.trans (u3.trans (cB (.lst ((([V.bl (decide (0=j)),V.bl (decide (1=j)),V.bl (decide (2=j)),V.bl (decide (3=j))]++[V.bl (decide (4=j)),V.bl (decide (5=j)),V.bl (decide (6=j)),V.bl (decide (7=j))])++[V.bl (decide (8=j)),V.bl (decide (9=j)),V.bl (decide (10=j)),V.bl (decide (11=j))])++[V.bl (decide (12=j)),V.bl (decide (13=j)),V.bl (decide (14=j)),V.bl (decide (15=j))])) hb3));have f3:=(w2.trans u3).free hb3;refine⟨_,rfl,_,rfl,vs,c 16,_,rfl,w3 _ _ hv,cs.kit KE hj,_,rfl,vs,c 17,_,rfl,w3 _ _ hv,cs.kit KE hj,_,rfl,vs,c 18,_,rfl,w3 _ _ hv,cs.kit KE hj,(by show 3<=Qk;decide),λa4 ha4=>?_⟩;have u4:=cB (.lst [V.bl (decide (16=j)),V.bl (decide (17=j)),V.bl (decide (18=j))]) ha4;refine⟨b3,a4,_,_,rfl,rfl,u4 _ _ upd_same,upd_same,(by show 19<=Qk;decide),λb4 hb4=>?_⟩;have w4:=w3.trans (u4.trans (cB (.lst (((([V.bl (decide (0=j)),V.bl (decide (1=j)),V.bl (decide (2=j)),V.bl (decide (3=j))]++[V.bl (decide (4=j)),V.bl (decide (5=j)),V.bl (decide (6=j)),V.bl (decide (7=j))])++[V.bl (decide (8=j)),V.bl (decide (9=j)),V.bl (decide (10=j)),V.bl (decide (11=j))])++[V.bl (decide (12=j)),V.bl (decide (13=j)),V.bl (decide (14=j)),V.bl (decide (15=j))])++[V.bl (decide (16=j)),V.bl (decide (17=j)),V.bl (decide (18=j))])) hb4));have f4:=(w3.trans u4).free hb4;exact⟨b4,rfl,w4,f4,upd_same⟩
  ·obtain⟨p,rfl,g5,hn5,hp5⟩:=hR
   have gs:=Grow.seal (a:=p) ⟨g5,aT.refl G,g4'.gh.trans g5,λ_ _ _ e=>e⟩ hn5 (g4'.gh.free hn5) hp5
   refine Ej (He:=H5) (Ge:=_) (G:=_) (ε:=[.un,.un,.dat .non,.dat (.lst ((Gq j).map D.bl)),.un]) (r:=.rt (.tup [.str "no",.str (nms.getD j "")])) (g:=Df) I5
    (aw (bp (a8 og (DE.db (fQ (ai 3) M.b_len)) KB (aP _)) (au (aZ (cF HO hr (ae (ak 3) aE)))) aU) (au (aZ (ak 2))))
    ⟨Grow.refl gs.gh,Ee upd_same⟩ (El j hj) (λv' G' H' g dn=>?_)
   exact q3 v' G' H' (g3.trans (g4'.trans (gs.trans g))) dn
noncomputable def rK{α:Type}(k:Str)(x:α)(l:List (Str×α)):List (Str×α):=l.map λp=>if p.1=k then(p.1,x) else p
theorem DK{kvs:List (Str×V)}{k:Str}{v u:V}(h:kvs.lookup k=some u):kK (txK kvs) (Zi k:L2.Key) v=txK (rK k v kvs):=by
 unfold kK;rw[qM,lR h,if_pos (show(some u).isSome=true from rfl)];unfold txK rK;rw[List.map_map,List.map_map];refine List.map_congr_left λp _=>?_;show(if(Zi p.1:L2.Key)=Zi k then((Zi p.1:L2.Key),v) else(Zi p.1,p.2))=(Zi (if p.1=k then(p.1,v) else p).1,(if p.1=k then(p.1,v) else p).2)
 by_cases z:p.1=k
 ·rw[if_pos z,if_pos (by rw[z])]
 ·rw[if_neg z,if_neg (λw=>z (Sum.inr.inj w))]
theorem DenF.put{K:Qc}{G:Hp}{vs:List (Str×V)}{fs:List (Str×D)}{k:Str}{v:V}{d:D}(dn:Den K G v d)(h:DenF K G vs fs):DenF K G (rK k v vs) (rK k d fs):=
 DenF.ind (P:=λvs fs=>DenF K G (rK k v vs) (rK k d fs)) .nil (λ{k' v' d' vs fs} h _ y=>by
  show DenF K G ((if k'=k then(k',v) else(k',v'))::rK k v vs) ((if k'=k then(k',d) else(k',d'))::rK k d fs)
  by_cases z:k'=k
  ·rw[if_pos z,if_pos z];exact .cons dn y
  ·rw[if_neg z,if_neg z];exact .cons h y) h
structure DIn(K:Qc)(G H:Hp)(p:Addr)(Gk Hk:Hp)(kvs:List (Str×V))(fs:List (Str×D)):Prop where
 g:Grow G H Gk Hk
 hn:H p=none
 at_:Hk p=some (.dK (txK kvs))
 gp:Gk p=none
 m:DenF K Gk kvs fs
section
variable{K:Qc}{G H Gk Hk G' H':Hp}{p:Addr}{kvs:List (Str×V)}{fs:List (Str×D)}
theorem DIn.step(i:DIn K G H p Gk Hk kvs fs)(g:Grow Gk Hk G' H'):DIn K G H p G' H' kvs fs:=⟨i.g.trans g,i.hn,g.hh _ _ i.at_,g.fo _ _ i.at_ i.gp,i.m.mono g.gg⟩
theorem DIn.put(i:DIn K G H p Gk Hk kvs fs){k:Str}{v:V}{d d0:D}(dn:Den K Gk v d)(e:fs.lookup k=some d0):DIn K G H p Gk (upd Hk p (.dK (kK (txK kvs) (Zi k:L2.Key) v))) (rK k v kvs) (rK k d fs) where
 g:=⟨λb u e=>by rw[az (aB e i.hn)];exact i.g.hh _ _ e,i.g.gg,λb u e=>by rw[az (aB e i.gp)];exact i.g.gh _ _ e,i.g.fo⟩
 hn:=i.hn
 at_:=by
  obtain⟨u,eu,_⟩:=i.m.get e;rw[DK eu];exact upd_same
 gp:=i.gp
 m:=DenF.put dn i.m
theorem DIn.get(i:DIn K G H p Gk Hk kvs fs){k:Str}{d:D}(e:fs.lookup k=some d):∃v,uP Hk p (.str k) (some v)/\Den K Gk v d:=by
 obtain⟨u,eu,du⟩:=i.m.get e;exact⟨u,by rw[<-lR eu];exact uP.k (k:=Zi k) i.at_,du⟩
theorem DIn.fin(i:DIn K G H p Gk Hk kvs fs):Grow G H (upd Gk p (.dK (txK kvs))) Hk/\Den K (upd Gk p (.dK (txK kvs))) (.ref p) (.rcd none fs):=by
 refine⟨⟨i.g.hh,λb u e=>?_,λb u e=>?_,λb u e z=>?_⟩,.rcd upd_same (i.m.mono (cB _ i.gp))⟩
 ·have y:=i.g.gg _ _ e
  rw[az (aB y i.gp)];exact y
 ·by_cases z:b=p
  ·subst z;rw[upd_same] at e;cases e;exact i.at_
  ·rw[az z] at e;exact i.g.gh _ _ e
 ·rw[az (aB e i.hn)];exact i.g.fo _ _ e z
theorem DIn.den(i:DIn K G H p Gk Hk kvs fs):Den K Hk (.ref p) (.rcd none fs):=.rcd i.at_ (i.m.mono i.g.gh)
theorem DIn.few(i:DIn K G H p Gk Hk kvs fs)(h:fs.length=7):(txK kvs).length<Qk:=by
 have:kvs.length=fs.length:=DenF.ind (P:=λvs fs=>vs.length=fs.length) rfl (λ_ _ y=>congrArg (· + 1) y) i.m;unfold txK;rw[Qt,this,h]
 decide
end
theorem Ez{K:Qc}{G H Gk Hk:Hp}{p:Addr}{kvs:List (Str×V)}{fs:List (Str×Dn.D)}{x:Str}{f:Ev->Option D}{W:Ends}{σ:L2.St}{ds:List Dn.D}{d1:Dn.D}{ε:Ev}(h0:σ[0]?=some (some (.ref p)))(i:DIn K G H p Gk Hk kvs fs)(h7:fs.length=7)(hv:fs.lookup x=some (.lst ds))(hl:ds.length<1000)
  (E:EnvD K Hk Gk Hk σ ε) (e:f ε=some (.lst [d1])) (q:∀G' H' kvs',DIn K G H p G' H' kvs' (rK x (.lst (ds++[d1])) fs)->W.nx σ H') :
  FC (yG 0) (tC (.str x)) (tOp (Fy K) (FR (yG 0) (tC (.str x))) (tDe K f)) W σ Hk:=by
 obtain⟨v,ev,dv⟩:=i.get hv;refine⟨_,h0,p,v,rfl,ev,Hk,Gk,ε,_,i.g.gh,E,e,λv1 G1 H1 g1 dn=>?_⟩;obtain⟨la,xs,rfl,sa,da⟩:=dv.lstV;obtain⟨lb,zs,rfl,sb,db⟩:=dn.lstV;have i1:=i.step g1;have z1:=da.length;have z2:=db.length;have big:(2000:Nat)<=Qk:=by decide
 refine⟨la,lb,xs,zs,rfl,rfl,(i.g.gh.trans g1.hh).seq sa,g1.gh.seq sb,?_,λp2 hp2=>?_⟩
 ·rw[z1,z2];show ds.length+1<=Qk;omega
 have g2:=Grow.new (.lst (xs++zs)) i1.g.gh hp2;have i2:=i1.step g2;refine⟨_,h0,p,_,rfl,vy.k (k:=Zi x) i2.at_ (i2.few h7),q _ _ _ (i2.put (v:=.ref p2) (.lst (.inl upd_same) (((da.mono (g1.gg)).append db).mono g2.gg)) hv)⟩
theorem Grow.sealO{G H G' H':Hp}{a:Addr}{o:HO}(g:Grow G H G' H')(hn:H a=none)(gn:G' a=none):Grow G H (upd G' a o) (upd H' a o) where
 hh:=λb u e=>by rw[az (aB e hn)];exact g.hh _ _ e
 gg:=λb u e=>by have z:=g.gg _ _ e;rw[az (aB z gn)];exact z
 gh:=λb u e=>by
  by_cases z:b=a
  ·subst z;rw[upd_same] at e;rw[upd_same];exact e
  ·rw[az z] at e;rw[az z];exact g.gh _ _ e
 fo:=λb u e z=>by rw[az (aB e hn)];exact g.fo _ _ e z
noncomputable abbrev T0(hs cs:List D):BT:=⟨hs,cs,0,[],[],[],[]⟩
noncomputable abbrev tk(x:Str):L2.Key:=.inr x
section
variable{Z:Wq}
noncomputable def wM(Z:Wq):Sp:=λvs H Q _=>∃G v1 v2 hs cs,vs=[v1,v2]/\aT G H/\Den Z.K G v1 (.lst hs)/\Den Z.K G v2 (.lst cs)/\∀a G' H',Grow G H G' H'->Den Z.K G' (.ref a) (bZ (T0 hs cs))->Q (.ref a) H'
noncomputable abbrev z0:List Str:=["_law_hills","_law_cool"]
theorem CO(R:FX Z "_law_opened" (top 94) z0):OO Z CX0 "_law_opened" (top 94) z0 1 (wM Z):=by
 obtain⟨f,fd,R,_⟩:=R;refine⟨f,fd,R,λbase=>?_⟩;have SC:FnScope z0 z0 (aA (top 94)):=⟨rfl,rfl,rfl,by decide +kernel,rfl,by decide +kernel,by decide +kernel⟩;refine R.fu.ok SC (λvs H Q E h=>?_) (λcdv A outer s H vs Q E hr h=>?_)
 ·obtain⟨G,v1,v2,hs,cs,rfl,_⟩:=h
  rfl
 obtain⟨G,v1,v2,hs,cs,rfl,gh,d1,d2,q⟩:=h;refine⟨_,bF (d_ (Do (iT bP (pv 0) (iT bP (pv 1) (iT bP cG (iT bP (dM aR) (iT bP (dM aR) (iT bP (dM aR) (iT bP (dM aR) EI))))))) rfl rfl KE KE)),?_⟩;intro p hp;have g0:Grow G H G (upd H p (.dK [])):=.lay _ gh hp;have e0:upd H p (.dK []) p=some (.dK []):=upd_same;refine⟨_,rfl,_,rfl,QV _,λp1 h1=>?_⟩;have g1:=g0.trans (Grow.new (.lst []) g0.gh h1);refine⟨QV _,λp2 h2=>?_⟩;have g2:=g1.trans (Grow.new (.lst []) g1.gh h2);refine⟨QV _,λp3 h3=>?_⟩;have g3:=g2.trans (Grow.new (.lst []) g2.gh h3);refine⟨QV _,λp4 h4=>?_⟩;have g4:=g3.trans (Grow.new (.lst []) g3.gh h4);have gp:∀{X:Hp},aT X H->X p=none:=λz=>z.free hp;have hs0:aT (upd H p (.dK [])) _:=(Grow.new (.lst []) g0.gh h1).hh.trans ((Grow.new (.lst []) g1.gh h2).hh.trans ((Grow.new (.lst []) g2.gh h3).hh.trans (Grow.new (.lst []) g3.gh h4).hh));refine⟨hs0 _ _ e0,[(tk "hills",v1),(tk "cool",v2),(tk "hour",.int 0),(tk "winds",.ref p1),(tk "shuts",.ref p2),(tk "fleet",.ref p3),(tk "deeds",.ref p4)],rfl,(by decide:(7:Nat)<=15),?_⟩;have n1:p1≠p:=Ne.symm (aB e0 h1);have f1:=(Grow.new (.lst []) g0.gh h1).hh;have f2:=f1.trans (Grow.new (.lst []) g1.gh h2).hh;have f3:=f2.trans (Grow.new (.lst []) g2.gh h3).hh;have n2:p2≠p:=Ne.symm (aB (f1 _ _ e0) h2);have n3:p3≠p:=Ne.symm (aB (f2 _ _ e0) h3);have n4:p4≠p:=Ne.symm (aB (f3 _ _ e0) h4);have gn:upd (upd (upd (upd G p1 (.lst [])) p2 (.lst [])) p3 (.lst [])) p4 (.lst []) p=none:=by rw[az (Ne.symm n4),az (Ne.symm n3),az (Ne.symm n2),az (Ne.symm n1)];exact gp gh
 have ge:=Grow.sealO (o:=.dK (txK [("hills",v1),("cool",v2),("hour",.int 0),("winds",.ref p1),("shuts",.ref p2),("fleet",.ref p3),("deeds",.ref p4)])) g4 hp gn;have c2:=(Grow.new (.lst []) g1.gh h2).gg;have c3:=(Grow.new (.lst []) g2.gh h3).gg;have c4:=(Grow.new (.lst []) g3.gh h4).gg;have cp:aT (upd (upd (upd (upd G p1 (.lst [])) p2 (.lst [])) p3 (.lst [])) p4 (.lst [])) _:=cB (.dK (txK [("hills",v1),("cool",v2),("hour",.int 0),("winds",.ref p1),("shuts",.ref p2),("fleet",.ref p3),("deeds",.ref p4)])) gn;exact q p _ _ ge (.rcd upd_same (.cons (d1.mono ge.gg) (.cons (d2.mono ge.gg) (.cons (.int 0) (.cons (.lst (.inl (cp _ _ (c4 _ _ (c3 _ _ (c2 _ _ upd_same))))) .nil) (.cons (.lst (.inl (cp _ _ (c4 _ _ (c3 _ _ upd_same)))) .nil) (.cons (.lst (.inl (cp _ _ (c4 _ _ upd_same))) .nil) (.cons (.lst (.inl (cp _ _ upd_same)) .nil) .nil))))))))
inductive Step(U:BT):D->BT->Prop where
 |shut {a b c d e g x y:Int}:Step U (.tup [.str "shut",.tup [.int a,.int b,.int c,.int d,.int e,.int g],.int x,.int y]) { U with shuts:=U.shuts++[.tup [.int a,.int b,.int c,.int d,.int e,.int g,.int x,.int y]],deeds:=U.deeds++[.tup [.str "shut",.int a,.int b,.int c,.int d,.int e,.int g,.int x,.int y]] }
 |launch {n:Str} {x y z s p:Int}:Step U (.tup [.str "launch",.str n,.tup [.int x,.int y,.int z,.int s,.int p]]) { U with bal:=U.bal++[gv ⟨n,U.hour,x,y,z,s,p⟩],deeds:=U.deeds++[.tup [.str "launch",.str n,.int x,.int y,.int z,.int s,.int p]] }
 |drift (hb:U.bal=[]):Step U (.tup [.str "drift",.lst []]) { U with hour:=U.hour+1,deeds:=U.deeds++[.tup [.str "drift",.tup []]] }
noncomputable def Jk(Z:Wq):Sp:=λvs H Q _=>∃G am v d U U',vs=[.ref am,v]/\aT G H/\Den Z.K G (.ref am) (bZ U)/\Few U/\Den Z.K G v d/\Step U d U'/\∀a G' H',Grow G H G' H'->Den Z.K G' (.ref a) (bZ U')->Q (.ref a) H'
noncomputable abbrev B2:List Str:=["_law_model","_law_call_here"]
noncomputable abbrev JN:List Str:=["_law_model","_law_call_here","_law_hour","_law_fleet","_law_one","_law_wanted","_law_sky"]
theorem yu{X:Cx}(hA:X.A.handled=none)(hu:X.A.units+2<cLine):iW X (.type "dict") (λxs H Q=>∃l,xs=[.ref l]/\SqL X.K H l []/\∀p,Q (.ref p) H):=by
 rintro pins s σ H xs us Q I r ⟨l,rfl,sl,q⟩;obtain⟨u,rfl,rx⟩:=pV r;cases rx;obtain⟨its,rv,pl,_⟩:=I.list sl;cases rv;exact RW2.EJ (its:=[]) (ps:=[]) pl hA hu rfl KE (λi v h=>nomatch h) (λp h=>nomatch h) λg tk kp _=>⟨.ref s.heap.objs.size,H,I.kept kp,rfl,q _⟩
theorem xE(U:BT):dZ [bZ U]=some (j6 U):=by rfl
theorem J5(R:FX Z "_law_done_by" (top 103) B2)(M:Md Z)(md:Z.mg "dict" = none)(HD:lO Z)(HA:ku Z):OO Z CX0 "_law_done_by" (top 103) B2 3 (Jk Z):=by
 obtain⟨f,fd,R,_⟩:=R;refine⟨f,fd,R,λbase=>?_⟩;have SC:FnScope JN B2 (aA (top 103)):=⟨rfl,rfl,rfl,by decide +kernel,rfl,by decide +kernel,by decide +kernel⟩;refine R.fu.ok (k:=2) SC (λvs H Q E h=>?_) (λcdv A outer s H vs Q E hr h=>?_)
 ·obtain⟨G,am,v,d,U,U',rfl,_⟩:=h
  rfl
 obtain⟨G,am,v,d,U,U',rfl,gh,dm,few,dv,dg,q⟩:=h;have hu:=Kq (Vp (by decide:1<=64) _) hr.units;have hu2:=Kq (Vp (by decide:2<=64) _) hr.units;obtain⟨fA,fdA,⟨FAA,_⟩,hA⟩:=HA
 refine⟨_,aH (bT (i:=0) SC.nd rfl (Qz rfl) (cD qx (by rfl) md (by rfl) (aC (pv 0) aR)))
  (aH (oo hu (pv 0) bP (js qC (lY hu (pv 0) bP (λ_ _=>rfl)) (kR (DF.de (dI (ae (cF HD hr (ae (ak 1) aE)) aE))))) rfl)
  (aH (bT (i:=2) SC.nd rfl (Zn rfl) (lY hu (pv 0) bP (λ_ _=>rfl)))
  (aH (bT (i:=3) SC.nd rfl (Qz rfl) (lY hu (pv 0) bP (λ_ _=>rfl)))
  (aH (ia (fG mM (ib d9 (pv 1) cG (λ_ _=>rfl)) bP (aP _)) pss_no
   (bF (ia (fG mM (ib d9 (pv 1) cG (λ_ _=>rfl)) bP (aP _))
    (bF (oo hu (pv 0) bP (js qC (lY hu (pv 0) bP (λ_ _=>rfl)) (kR (DF.de (dI (ae (ay rN (DE.db (aO (ai 1) KB)) (DE.db (m_ (ai 1) (bU KB) gN))) aE))))) rfl))
    (bF (ia (fG mM (ib d9 (pv 1) cG (λ_ _=>rfl)) bP (aP _))
     (aH (bT (i:=4) SC.nd rfl (Qz rfl) (kR (br (ae (aO (ai 1) KB) (ae aW (ae (aO (ai 1) KB) (ae (br (ae (ay rN (DE.db (br (ae (ak 2) aE))) (DE.db (aO (ai 1) KB))) aE)) (ae (ak 2) (ae (br aE) aE)))))))))
     (bF (oo hu (pv 0) bP (js qC (pv 3) (kR (DF.de (dI (ae (ak 4) aE))))) rfl)))
     (bF (ia (fG mM (ib d9 (pv 1) cG (λ_ _=>rfl)) bP (aP _))
      (aH (bT (i:=5) SC.nd rfl (Zn rfl) (cD (yu hr.hd hu2) (by rfl) md (by rfl) (aC (cD cN (by rfl) M.b_list (by rfl) (aC (ib d9 (pv 1) cG (λ_ _=>rfl)) aR)) aR)))
      (aH (bT (i:=6) SC.nd rfl (Zn rfl) (eP (hA base) (hr.mono KE) rfl FAA.mgf FAA.fu.kp FAA.bi .nil f7 (aC (pv 0) aR)))
      (aH (oo hu (pv 0) bP (Cb (tn:=["_law_one"]) (fr:=["_law_sky","_law_hour","_law_wanted"]) (ix:=[6,2,5]) rfl (oB (pv 3)) (eY (by rfl) (by exact⟨⟨rfl,rfl⟩,⟨rfl,rfl⟩,⟨rfl,rfl⟩,trivial⟩) (by exact⟨rfl,rfl,rfl,trivial⟩) (by rfl) (by rfl) (by rfl) (by rfl) (by rfl)) (cw _) (λ_ _ _ _ _=>aJ 0 (show(((["_law_one"]:List Str)++(["_law_sky","_law_hour","_law_wanted"]:List Str)):List Str).Nodup by decide +kernel))) rfl)
      (bF (oo hu (pv 0) bP (js A_ (pv 2) cG) rfl)))))
      pss_no)))))))
  (bF (d_ (pv 0))))))),?_⟩
 obtain⟨am',kvs,ee,ha,mk⟩:=dm.rcdV;cases ee;refine⟨_,rfl,am,txK kvs,rfl,.inl (gh _ _ ha),λp hp=>?_⟩;have i0:DIn Z.K G H p G (upd H p (.dK (txK kvs))) kvs _:=⟨.lay _ gh hp,hp,upd_same,gh.free hp,mk⟩;cases dg with
 |@shut a b c d e g x y=>
  refine Ez (ds:=U.deeds) (d1:=.tup [.str "shut",.int a,.int b,.int c,.int d,.int e,.int g,.int x,.int y]) rfl i0 rfl rfl few.deeds (Slots.un (Slots.dat dv (Slots.un (Slots.un (Slots.un (Slots.un (Slots.un .nil))))))).env rfl λG1 H1 kv1 i1=>?_;have i2:DIn Z.K G H p G1 H1 kv1 [("hills",.lst U.hills),("cool",.lst U.cool),("hour",.int U.hour),("winds",.lst U.winds),("shuts",.lst U.shuts),("fleet",.lst U.bal),("deeds",.lst (U.deeds++[.tup [.str "shut",.int a,.int b,.int c,.int d,.int e,.int g,.int x,.int y]]))]:=i1
  clear i1
  obtain⟨vh,eh,dh⟩:=i2.get (k:="hour") rfl;obtain⟨vf,ef,df⟩:=i2.get (k:="fleet") rfl;cases dh;refine⟨_,rfl,p,_,rfl,eh,_,rfl,p,_,rfl,ef,?_⟩;have dv2:=dv.mono i2.g.gg;obtain⟨av,xs,rfl,sq,dl⟩:=dv2.tupV;rcases dl with _ | ⟨d0,_ | ⟨d1,_ | ⟨d2,_ | ⟨d3,_ | _⟩⟩⟩⟩
  cases d0;cases d2;cases d3;refine⟨_,rfl,av,_,_,_,rfl,rfl,aM i2.g.gh sq,rfl,rfl,_,rfl,?_⟩;refine gu (λc=>absurd c KE) λ_=>?_;refine⟨_,rfl,av,_,_,_,rfl,rfl,aM i2.g.gh sq,rfl,rfl,_,rfl,?_⟩;refine gu (λ_=>?_) λc=>absurd (decide_eq_true rfl) c;refine Ez (ds:=U.shuts) (d1:=.tup [.int a,.int b,.int c,.int d,.int e,.int g,.int x,.int y]) rfl i2 rfl rfl few.shuts (Slots.un (Slots.dat dv2 (Slots.un (Slots.un (Slots.un (Slots.un (Slots.un .nil))))))).env rfl λG3 H3 kv3 i3=>?_;exact⟨_,rfl,q p _ _ i3.fin.1 i3.fin.2⟩
 |@launch n x y z s p'=>
  refine Ez (ds:=U.deeds) (d1:=.tup [.str "launch",.str n,.int x,.int y,.int z,.int s,.int p']) rfl i0 rfl rfl few.deeds (Slots.un (Slots.dat dv (Slots.un (Slots.un (Slots.un (Slots.un (Slots.un .nil))))))).env rfl λG1 H1 kv1 i1=>?_;have i2:DIn Z.K G H p G1 H1 kv1 [("hills",.lst U.hills),("cool",.lst U.cool),("hour",.int U.hour),("winds",.lst U.winds),("shuts",.lst U.shuts),("fleet",.lst U.bal),("deeds",.lst (U.deeds++[.tup [.str "launch",.str n,.int x,.int y,.int z,.int s,.int p']]))]:=i1
  clear i1
  obtain⟨vh,eh,dh⟩:=i2.get (k:="hour") rfl;obtain⟨vf,ef,df⟩:=i2.get (k:="fleet") rfl;cases dh;refine⟨_,rfl,p,_,rfl,eh,_,rfl,p,_,rfl,ef,?_⟩;have dv2:=dv.mono i2.g.gg;obtain⟨av,xs,rfl,sq,dl⟩:=id dv2.tupV;rcases dl with _ | ⟨d0,_ | ⟨d1,_ | ⟨d2,_ | _⟩⟩⟩
  cases d0;cases d1;have sq2:=aM i2.g.gh sq;refine⟨_,rfl,av,_,_,_,rfl,rfl,sq2,rfl,rfl,_,rfl,?_⟩;refine gu (λc=>absurd c KE) λ_=>?_;refine⟨_,rfl,av,_,_,_,rfl,rfl,sq2,rfl,rfl,_,rfl,?_⟩;refine gu (λc=>absurd c KE) λ_=>?_;refine⟨_,rfl,av,_,_,_,rfl,rfl,sq2,rfl,rfl,_,rfl,?_⟩;refine gu (λ_=>?_) λc=>absurd (decide_eq_true rfl) c;refine⟨H1,G1,[.un,.dat (.tup [.str "launch",.str n,.tup [.int x,.int y,.int z,.int s,.int p']]),.dat (.int U.hour),.un,.un,.un,.un],gv ⟨n,U.hour,x,y,z,s,p'⟩,i2.g.gh,(Slots.un (Slots.dat dv2 (Slots.dat (.int _) (Slots.un (Slots.un (Slots.un (Slots.un .nil))))))).env,rfl,λv4 G4 H4 g4 d4=>?_⟩;have i4:=i2.step g4;obtain⟨lf,ys,rfl,sf,dy⟩:=(df.mono g4.gg).lstV;refine⟨_,rfl,H4,G4,[.un,.un,.un,.un,.dat (gv ⟨n,U.hour,x,y,z,s,p'⟩),.un,.un],_,i4.g.gh,(Slots.un (Slots.un (Slots.un (Slots.un (Slots.dat d4 (Slots.un (Slots.un .nil))))))).env,rfl,λv5 G5 H5 g5 d5=>?_⟩;obtain⟨lb,zs,rfl,sb,db⟩:=d5.lstV;have i5:=i4.step g5;have z1:=dy.length;have z2:=db.length;have big:(2000:Nat)<=Qk:=by decide
  have fb:=few.bal;refine⟨lf,lb,ys,zs,rfl,rfl,(i4.g.gh.trans g5.hh).seq sf,g5.gh.seq sb,?_,λp6 hp6=>?_⟩
  ·rw[z1,z2];show U.bal.length+1<=Qk;omega
  have g6:=Grow.new (.lst (ys++zs)) i5.g.gh hp6;have i6:=i5.step g6;refine⟨_,rfl,p,_,rfl,vy.k (k:=Zi "fleet") i6.at_ (i6.few rfl),?_⟩;have i7:=i6.put (k:="fleet") (v:=.ref p6) (.lst (.inl upd_same) (((dy.mono g5.gg).append db).mono g6.gg)) rfl;exact⟨_,rfl,q p _ _ i7.fin.1 i7.fin.2⟩
 |drift hb=>
  refine Ez (ds:=U.deeds) (d1:=.tup [.str "drift",.tup []]) rfl i0 rfl rfl few.deeds (Slots.un (Slots.dat dv (Slots.un (Slots.un (Slots.un (Slots.un (Slots.un .nil))))))).env rfl λG1 H1 kv1 i1=>?_;have i2:DIn Z.K G H p G1 H1 kv1 [("hills",.lst U.hills),("cool",.lst U.cool),("hour",.int U.hour),("winds",.lst U.winds),("shuts",.lst U.shuts),("fleet",.lst U.bal),("deeds",.lst (U.deeds++[.tup [.str "drift",.tup []]]))]:=i1
  clear i1
  obtain⟨vh,eh,dh⟩:=i2.get (k:="hour") rfl;obtain⟨vf,ef,df⟩:=i2.get (k:="fleet") rfl;cases dh;rw[hb] at df;obtain⟨lf,ys,rfl,sf,dy⟩:=df.lstV;cases dy;refine⟨_,rfl,p,_,rfl,eh,_,rfl,p,_,rfl,ef,?_⟩;have dv2:=dv.mono i2.g.gg;obtain⟨av,xs,rfl,sq,dl⟩:=dv2.tupV;rcases dl with _ | ⟨d0,_ | ⟨d1,_ | _⟩⟩
  cases d0;obtain⟨al,zs,rfl,sl,dz⟩:=d1.lstV;cases dz;have sq2:=aM i2.g.gh sq;refine⟨_,rfl,av,_,_,_,rfl,rfl,sq2,rfl,rfl,_,rfl,?_⟩;refine gu (λc=>absurd c KE) λ_=>?_;refine⟨_,rfl,av,_,_,_,rfl,rfl,sq2,rfl,rfl,_,rfl,?_⟩;refine gu (λc=>absurd c KE) λ_=>?_;refine⟨_,rfl,av,_,_,_,rfl,rfl,sq2,rfl,rfl,_,rfl,?_⟩;refine gu (λc=>absurd c KE) λ_=>?_;refine⟨_,rfl,av,_,_,_,rfl,rfl,sq2,rfl,rfl,_,rfl,?_⟩;refine gu (λ_=>?_) λc=>absurd (decide_eq_true rfl) c;refine⟨_,rfl,av,_,_,_,rfl,rfl,sq2,rfl,al,[],rfl,.inl (i2.g.gh.seq sl),λl hl=>⟨l,rfl,SqL.of upd_same,λpd=>?_⟩⟩;have g3:=Grow.lay (.lst []) i2.g.gh hl;have i3:=i2.step g3;refine⟨_,rfl,_,[_],j6 { U with deeds:=U.deeds++[.tup [.str "drift",.tup []]] },aT.refl _,.one i3.den,xE { U with deeds:=U.deeds++[.tup [.str "drift",.tup []]] },λps G4 H4 g4 _=>?_⟩;have i4:=i3.step (kd i3.g.gh g4.hh);have sf4:=(i2.g.gh.trans (g3.hh.trans g4.hh)).seq sf;refine⟨_,rfl,lf,rfl,⟨_,sf4⟩,aT.refl _,?_,λa9 H9 g9 hn9 ha9=>?_⟩
  ·intro i H' s2
   exact⟨λz=>absurd z (Nat.not_lt_zero _),λ_=>⟨[],s2.seq sf4,QV _⟩,λx H3 _ d z=>by cases z⟩
  have i5:=i4.step (Grow.seal (a:=a9) ⟨g9,aT.refl _,i4.g.gh.trans g9,λ_ _ _ e=>e⟩ hn9 (i4.g.gh.free hn9) ha9);refine⟨_,rfl,p,_,rfl,vy.k (k:=Zi "fleet") i5.at_ (i5.few rfl),?_⟩;have i6:=i5.put (k:="fleet") (v:=.ref a9) (d:=.lst []) (.lst (.inl upd_same) .nil) rfl;refine⟨_,rfl,_,_,rfl,rfl,_,rfl,p,_,rfl,vy.k (k:=Zi "hour") i6.at_ (i6.few rfl),?_⟩;have i7:=i6.put (k:="hour") (v:=.int (U.hour+1)) (.int _) rfl;have e7:=i7.fin.2;refine⟨_,rfl,q p _ _ i7.fin.1 ?_⟩;unfold bZ;rw[hb];exact e7
end
section
variable{Z:Wq}
noncomputable abbrev zS:List Str:=["_law_book","_law_model","_law_call_here","_law_fault_here"]
noncomputable abbrev JB:List Str:=["_law_book","_law_model","_law_call_here","_law_fault_here","_law_due"]
noncomputable def F9(Z:Wq):Sp:=λvs H Q _=>∃G b as am v d vf T T' U r,vs=[.ref b,.ref am,v,vf]/\BkD Z.K G H b as T/\Den Z.K G (.ref am) (bZ U)/\Few T/\Few U/\Den Z.K G v d/\Doing T d r T'/\
 (((∃ε,r=.nx ε)/\Den Z.K G vf (.tup [])/\∃U',Step U d U'/\U'.deeds.length=T.deeds.length+1/\∀a' G' H' as',Mv G H G' H' b as as'->BkD Z.K G' H' b as' T'->Den Z.K G' (.ref a') (bZ U')->Q (.ref a') H')\/
  ∃x fs d',r=.xc x fs/\Told x fs d'/\Den Z.K G vf d'/\∀G' H',Grow G H G' H'->Q (.ref am) H')
theorem JP(R:FX Z "_law_judged" (top 109) zS)(M:Md Z)(HB:OO Z CX0 "_law_done_by" (top 103) B2 3 (Jk Z))(HT:OO Z CX0 "_law_try" (top 108) rn 8 (FL Z))(HS:kN Z)
  (s1:∀n:Int,cu [.int n,.int n]=some (.bl true)) (s2:∀x fs d',Told x fs d'->cu [d',d']=some (.bl true)):OO Z CX0 "_law_judged" (top 109) zS 9 (F9 Z):=by
 obtain⟨f,fd,R,_⟩:=R;refine⟨f,fd,R,λbase=>?_⟩;obtain⟨fB,fdB,FB,hB⟩:=HB;obtain⟨fT,fdT,FT,hT⟩:=HT;obtain⟨fS,fdS,⟨FS,_⟩,hS⟩:=HS;have SC:FnScope JB zS (aA (top 109)):=⟨rfl,rfl,rfl,by decide +kernel,rfl,by decide +kernel,by decide +kernel⟩;refine R.fu.ok (k:=8) SC (λvs H Q E h=>?_) (λcdv A outer s H vs Q E hr h=>?_)
 ·obtain⟨G,b,as,am,v,d,vf,T,T',U,r,rfl,_⟩:=h
  rfl
 obtain⟨G,b,as,am,v,d,vf,T,T',U,r,rfl,k,dm,few,fewU,dv,dg,q⟩:=h;have hu:=Kq (Vp (by decide:1<=64) _) hr.units
 refine⟨_,aH (bT (i:=4) SC.nd rfl (Qz rfl) (pv 3))
  (aH (ia (fG mM (fm eR rfl M.b_len KP (aC (pv 3) aR)) cG (aP _))
   (aH (bT (i:=1) SC.nd rfl (Qz rfl) (eP (hB base) (hr.mono KE) rfl FB.mgf FB.fu.kp FB.bi .nil f7 (aC (pv 1) (aC (pv 2) aR))))
   (bF (bT (i:=4) SC.nd rfl (Qz rfl) (fm eR rfl M.b_len KP (aC (lY hu (pv 1) bP (λ_ _=>rfl)) aR))))) eQ)
  (aH (ia (yf (wo (eP (hS base) (hr.mono KE) rfl FS.mgf FS.fu.kp FS.bi .nil f7 (aC (eP (hT base) hr rfl FT.mgf FT.fu.kp FT.bi .nil f7 (aC (pv 0) (aC (pv 2) aR))) (aC (pv 4) aR))) (by intro _;rfl))) pss_no eQ)
  (bF (d_ (pv 1))))),?_⟩
 rcases q with⟨⟨ε,rfl⟩,df,U',st,hl,q⟩ | ⟨x,fs,d',rfl,td,df,q⟩
 ·obtain⟨af,xs,rfl,sq,dl⟩:=df.tupV
  cases dl;refine⟨_,rfl,_,rfl,af,[],rfl,.inr (aM k.gh sq),rfl,_,rfl,?_⟩;refine gu (λ_=>?_) λc=>absurd (decide_eq_true rfl) c;refine⟨_,rfl,_,rfl,G,am,v,d,U,U',rfl,k.gh,dm,fewU,dv,st,λa' G1 H1 g1 ma1=>?_⟩;have k1:=k.grow g1;obtain⟨a2,kvs,ee,ea,mk⟩:=ma1.rcdV;cases ee;obtain⟨wd,ed,dd⟩:=mk.get (k:="deeds") rfl;obtain⟨ld,ys,rfl,sd,dy⟩:=dd.lstV;refine⟨_,rfl,a',_,rfl,(by rw[<-lR ed];exact uP.k (k:=Zi "deeds") (g1.gh _ _ ea)),ld,ys,rfl,.inl (g1.gh.seq sd),?_⟩;refine⟨_,rfl,_,rfl,G1,b,as,T,v,d,_,T',rfl,k1,few,dv.mono g1.gg,dg,λG2 H2 as' mv bk=>?_⟩;have ey:(ys.length:Int)=T.deeds.length+1:=by rw[dy.length,hl];rfl
  refine⟨_,rfl,G2,[.int _,.int _],.bl true,bk.gh,.cons (.int _) (.cons (.int _) .nil),(by rw[ey];exact s1 _),λv3 G3 H3 g3 d3=>?_⟩;cases d3;refine⟨true,rfl,?_⟩;refine gu (λc=>absurd c KE) λ_=>?_;have mv1:=Mv.grow g1 mv;exact⟨_,rfl,q a' G3 H3 as' (mv1.behind g3) (bk.grow g3) (ma1.mono (mv.gg.trans g3.gg))⟩
 ·obtain⟨ds,rfl,n0⟩:∃ds,d'=.tup ds/\¬ (ds.length:Int)=0:=by
   cases td with
   |nm hj=>exact⟨_,rfl,show ¬ (2:Int)=0 by decide⟩
   |st=>exact⟨_,rfl,show ¬ (4:Int)=0 by decide⟩
  obtain⟨af,xs,rfl,sq,dl⟩:=id df.tupV;refine⟨_,rfl,_,rfl,af,_,rfl,.inr (aM k.gh sq),rfl,_,rfl,?_⟩;refine gu (λc=>absurd (V.int.inj (of_decide_eq_true c)) (by rw[dl.length];exact n0)) λ_=>?_;refine⟨_,rfl,_,rfl,G,b,as,T,v,d,_,T',rfl,k,few,dv,dg,_,td,λv1 G1 H1 g1 d1=>?_⟩;refine⟨_,rfl,G1,[_,_],.bl true,g1.gh,.cons d1 (.cons (df.mono g1.gg) .nil),s2 _ _ _ td,λv3 G3 H3 g3 d3=>?_⟩;cases d3;refine⟨true,rfl,?_⟩;refine gu (λc=>absurd c KE) λ_=>?_;exact⟨_,rfl,q G3 H3 (g1.trans g3)⟩
end
theorem i9{H:Hp}{x p dx C:Addr}{fs:List (Str×V)}{f:Str}{ys:List V}(hx:H x=some (.ins C dx fs))(hp:H p=none):upd H p (.lst ys) x=some (.ins C dx fs)/\∃H',H'=upd (upd H p (.lst ys)) x (.ins C dx (dN f (.ref p) fs))/\H' x=some (.ins C dx (dN f (.ref p) fs))/\
  H' p=some (.lst ys)/\p≠x/\(∀b o,b≠x->H b=some o->H' b=some o):=by
 have ne:p≠x:=Ne.symm (aB hx hp);refine⟨by rw[az (Ne.symm ne)];exact hx,_,rfl,upd_same,by rw[az ne];exact upd_same,ne,λb o hb e=>?_⟩;rw[az hb,az (aB e hp)];exact e
theorem DP{H:Hp}{x dx C:Addr}{fs:List (Str×V)}{f:Str}{v:V}(hx:H x=some (.ins C dx fs)):∃H',H'=upd H x (.ins C dx (dN f v fs))/\H' x=some (.ins C dx (dN f v fs))/\∀b o,b≠x->H b=some o->H' b=some o:=
 ⟨_,rfl,upd_same,λb o hb e=>by rw[az hb];exact e⟩
noncomputable def Gi(Z:Wq):Sp:=λvs H Q _=>∃x dx G l1 l2 hs cs ds es d,vs=[.ref x,.ref l1,.ref l2]/\H x=some (.ins ar dx [])/\G x=none/\aT G H/\G l1=some (.lst hs)/\G l2=some (.lst cs)/\DenL Z.K G hs ds/\DenL Z.K G cs es/\
 dB [.lst ds,.lst es]=some (.inl d)/\∀G' H' as,aT G G'->(∀b o,b≠x->H b=some o->H' b=some o)->(∀b o,H b=some o->G b=none->G' b=none)->(∀a∈as,H a=none)->BkD Z.K G' H' x as (T0 ds es)->Q .non H'
theorem Eu{p1 p2 p3 p4 p5 p6 p7:Addr}:dN "holds" (.ref p7) (dN "deeds" (.ref p6) (dN "balloons" (.ref p5) (dN "shuts" (.ref p4) (dN "winds" (.ref p3) (dN "hour" (.int 0) (dN "cool" (.ref p2) (dN "hills" (.ref p1) [])))))))=fsB p1 p2 p3 p4 p5 p6 p7 0:=by rfl
theorem Jp{Z:Wq}{base:Heap}{f:Addr}{fd:QY}(F:Fun Z.K "__init__" "Book.__init__" (cm (top 81) 0) f fd)(M:Md Z)(HC:kA Z):FnOk Z.P Z.w Z.K Z.mg base CX0 6 f fd ["self","hills","cool"] (Gi Z):=by
 obtain⟨fc,fdc,⟨FA,_⟩,hF⟩:=HC;have ml:=M.b_list;have n:∀m∈vm,i8 Z.K ar m:=M.o_Book.2;have cl:=M.o_Book.1;have SC:FnScope ["self","hills","cool"] ["self","hills","cool"] (aA (cm (top 81) 0)):=⟨rfl,rfl,rfl,by decide +kernel,rfl,by decide +kernel,by decide +kernel⟩;refine F.ok (k:=5) SC (λvs H Q E h=>?_) (λcdv A outer s H vs Q E hr h=>?_)
 ·obtain⟨x,dx,G,l1,l2,hs,cs,ds,es,d,rfl,_⟩:=h
  rfl
 obtain⟨x,dx,G,l1,l2,hs,cs,ds,es,d,rfl,hx,gx,gh,e1,e2,d1,d2,er,q⟩:=h
 refine⟨_,aH (ko (eP (hF base) hr rfl FA.mgf FA.fu.kp FA.bi .nil Fq (aC (pv 1) (aC (pv 2) aR))))
  (aH (fV (pv 0) (cD cN (by rfl) ml (by rfl) (aC (pv 1) aR)) rfl) (aH (fV (pv 0) (cD cN (by rfl) ml (by rfl) (aC (pv 2) aR)) rfl)
  (aH (fV (pv 0) cG rfl) (aH (fV (pv 0) (dM aR) rfl) (aH (fV (pv 0) (dM aR) rfl) (aH (fV (pv 0) (dM aR) rfl) (aH (fV (pv 0) (dM aR) rfl) (bF (fV (pv 0) (dM aR) rfl))))))))),?_⟩
 refine⟨_,rfl,_,rfl,G,[.lst ds,.lst es],.inl d,gh,.cons (.lst (.inl e1) d1) (.cons (.lst (.inl e2) d2) .nil),er,λd' rd v G' H1 g _=>?_,λc fs rc=>by cases rc⟩;have hx1:=g.hh _ _ hx;have h11:=g.hh _ _ (gh _ _ e1);have h12:=g.hh _ _ (gh _ _ e2);have n1:l1≠x:=λz=>by rw[z,gx] at e1;cases e1
 have n2:l2≠x:=λz=>by rw[z,gx] at e2;cases e2
 have big:(1000:Nat)<=Qk:=by decide
 refine⟨_,rfl,l1,hs,rfl,.inl (SqL.of h11),λp1 hp1=>?_⟩;obtain⟨y1,H2,eq2,x2,a1,w1,k2⟩:=i9 (f:="hills") (ys:=hs) hx1 hp1;refine⟨_,rfl,x,ar,dx,[],rfl,y1,cl,n _ KE,(by show 0<_;decide),?_⟩;rw[<-eq2];refine⟨_,rfl,l2,cs,rfl,.inl (SqL.of (k2 _ _ n2 h12)),λp2 hp2=>?_⟩;obtain⟨y2,H3,eq3,x3,a2,w2,k3⟩:=i9 (f:="cool") (ys:=cs) x2 hp2;refine⟨_,rfl,x,ar,dx,_,rfl,y2,cl,n _ KE,(by show 1<_;decide),?_⟩;rw[<-eq3];obtain⟨H4,eq4,x4,k4⟩:=DP (f:="hour") (v:=.int 0) x3;refine⟨_,rfl,x,ar,dx,_,rfl,x3,cl,n _ KE,(by show 2<_;decide),?_⟩;rw[<-eq4];refine⟨QV _,λp3 hp3=>?_⟩;obtain⟨y5,H5,eq5,x5,a3,w3,k5⟩:=i9 (f:="winds") (ys:=[]) x4 hp3;refine⟨_,rfl,x,ar,dx,_,rfl,y5,cl,n _ KE,(by show 3<_;decide),?_⟩;rw[<-eq5];refine⟨QV _,λp4 hp4=>?_⟩;obtain⟨y6,H6,eq6,x6,a4,w4,k6⟩:=i9 (f:="shuts") (ys:=[]) x5 hp4;refine⟨_,rfl,x,ar,dx,_,rfl,y6,cl,n _ KE,(by show 4<_;decide),?_⟩;rw[<-eq6];refine⟨QV _,λp5 hp5=>?_⟩;obtain⟨y7,H7,eq7,x7,a5,w5,k7⟩:=i9 (f:="balloons") (ys:=[]) x6 hp5;refine⟨_,rfl,x,ar,dx,_,rfl,y7,cl,n _ KE,(by show 5<_;decide),?_⟩;rw[<-eq7];refine⟨QV _,λp6 hp6=>?_⟩;obtain⟨y8,H8,eq8,x8,a6,w6,k8⟩:=i9 (f:="deeds") (ys:=[]) x7 hp6;refine⟨_,rfl,x,ar,dx,_,rfl,y8,cl,n _ KE,(by show 6<_;decide),?_⟩;rw[<-eq8];refine⟨QV _,λp7 hp7=>?_⟩;obtain⟨y9,H9,eq9,x9,a7,w7,k9⟩:=i9 (f:="holds") (ys:=[]) x8 hp7;refine⟨_,rfl,x,ar,dx,_,rfl,y9,cl,n _ KE,(by show 7<_;decide),?_⟩;rw[<-eq9];have c1:=k3 _ _ w1 a1;have c1:=k4 _ _ w1 c1;have f2:=k4 _ _ w2 a2;have n12:p1≠p2:=aB a1 hp2;have n13:p1≠p3:=aB c1 hp3;have n23:p2≠p3:=aB f2 hp3;have c1:=k5 _ _ w1 c1;have f2:=k5 _ _ w2 f2;have n14:p1≠p4:=aB c1 hp4;have n24:p2≠p4:=aB f2 hp4;have n34:p3≠p4:=aB a3 hp4;have c1:=k6 _ _ w1 c1;have f2:=k6 _ _ w2 f2;have f3:=k6 _ _ w3 a3;have n15:p1≠p5:=aB c1 hp5;have n25:p2≠p5:=aB f2 hp5;have n35:p3≠p5:=aB f3 hp5;have n45:p4≠p5:=aB a4 hp5;have c1:=k7 _ _ w1 c1;have f2:=k7 _ _ w2 f2;have f3:=k7 _ _ w3 f3;have f4:=k7 _ _ w4 a4;have n16:p1≠p6:=aB c1 hp6;have n26:p2≠p6:=aB f2 hp6;have n36:p3≠p6:=aB f3 hp6;have n46:p4≠p6:=aB f4 hp6;have n56:p5≠p6:=aB a5 hp6;have c1:=k8 _ _ w1 c1;have f2:=k8 _ _ w2 f2;have f3:=k8 _ _ w3 f3;have f4:=k8 _ _ w4 f4;have f5:=k8 _ _ w5 a5;have n17:p1≠p7:=aB c1 hp7;have n27:p2≠p7:=aB f2 hp7;have n37:p3≠p7:=aB f3 hp7;have n47:p4≠p7:=aB f4 hp7;have n57:p5≠p7:=aB f5 hp7;have n67:p6≠p7:=aB a6 hp7;have up:∀b o,b≠x->H1 b=some o->H9 b=some o:=λb o hb e=>k9 _ _ hb (k8 _ _ hb (k7 _ _ hb (k6 _ _ hb (k5 _ _ hb (k4 _ _ hb (k3 _ _ hb (k2 _ _ hb e)))))))
 have new:∀{Hk:Hp} {p:Addr} {o':HO},(∀b o,b≠x->H1 b=some o->Hk b=some o)->Hk x=some o'->Hk p=none->H1 p=none:=λ{Hk p o'} k kx kp=>by
  cases z:H1 p with
  |none=>rfl
  |some o=>
   by_cases w:p=x
   ·rw[w,kx] at kp;cases kp
   ·have:=k p o w z
    rw[kp] at this;cases this
 have u4:∀b o,b≠x->H1 b=some o->H4 b=some o:=λb o hb e=>k4 _ _ hb (k3 _ _ hb (k2 _ _ hb e));have u5:∀b o,b≠x->H1 b=some o->H5 b=some o:=λb o hb e=>k5 _ _ hb (u4 _ _ hb e);have u6:∀b o,b≠x->H1 b=some o->H6 b=some o:=λb o hb e=>k6 _ _ hb (u5 _ _ hb e);have u7:∀b o,b≠x->H1 b=some o->H7 b=some o:=λb o hb e=>k7 _ _ hb (u6 _ _ hb e);have u8:∀b o,b≠x->H1 b=some o->H8 b=some o:=λb o hb e=>k8 _ _ hb (u7 _ _ hb e)
 have fr:∀a∈[p1,p2,p3,p4,p5,p6,p7],H1 a=none:=λa ha=>by
  simp only[Ql,Qw,or_false] at ha;rcases ha with z | z | z | z | z | z | z<;>rw[z]
  ·exact hp1
  ·exact new k2 x2 hp2
  ·exact new u4 x4 hp3
  ·exact new u5 x5 hp4
  ·exact new u6 x6 hp5
  ·exact new u7 x7 hp6
  ·exact new u8 x8 hp7
 have gx':G' x=none:=g.fo _ _ hx gx;have bm:BkM H9 x dx p1 p2 p3 p4 p5 p6 p7 ⟨hs,cs,0,[],[],[],[]⟩:=⟨by rw[<-Eu];exact x9,k9 _ _ w1 c1,k9 _ _ w2 f2,k9 _ _ w3 f3,k9 _ _ w4 f4,k9 _ _ w5 f5,k9 _ _ w6 a6,a7,by simp[n12,n13,n14,n15,n16,n17,n23,n24,n25,n26,n27,n34,n35,n36,n37,n45,n46,n47,n56,n57,n67]⟩;exact q G' H9 [p1,p2,p3,p4,p5,p6,p7] g.gg (λb o hb e=>up b o hb (g.hh _ _ e)) g.fo (λa ha=>g.hh.free (fr a ha)) ⟨λb o e=>up b o (λz=>by rw[z,gx'] at e;cases e) (g.gh _ _ e),gx',λa ha=>g.gh.free (fr a ha),⟨hs,cs,0,[],[],[],[]⟩,⟨dx,p1,p2,p3,p4,p5,p6,p7,rfl,bm⟩,⟨d1.mono g.gg,d2.mono g.gg,rfl,.nil,.nil,.nil,.nil⟩⟩
inductive Res(Rel:Nat->BT->BT->Prop)(n:Nat)(T U:BT)(d:D):D->Prop where
 |ok {ε:Ev} {T' U':BT} (dg:Doing T d (.nx ε) T') (st:Step U d U') (l:U'.deeds.length=T.deeds.length+1) (r:Rel (n+1) T' U'):Res Rel n T U d (.tup [])
 |no {x:Str} {fs:List (Str×D)} {T':BT} {fl:D} (dg:Doing T d (.xc x fs) T') (td:Told x fs fl):Res Rel n T U d fl
noncomputable def Fo:Ev->Option D:=aL nA (aa (eF (eSl (ah 1) (bf (eC (.int 35))) (bf (eC (.int 41))))) (aa (e2 ixD (eF (iI (aa (aj 2) (aa (cA (aa Vw (aa Vw aF))) aF)))) (aL vZ (aa (e2 cH (aL vL (aa (e2 ixD (ah 2) Vy) aF)) (eC (.int 996))) aF))) aF))
noncomputable def Bf:Ev->Option D:=cA (aa (eC (.str "shut")) (aa (aj 7) (aa Vy (aa (e2 bR Vy (e2 ba (e2 ixD (ah 1) (eC (.int 41))) (eC (.int 24)))) aF))))
noncomputable def zx:Ev->Option Bool:=aG cH (e2 ba (e2 ixD (ah 1) (eC (.int 3))) (eC (.int 2))) Vy
noncomputable def A6:Ev->Option D:=e2 bR Vy (e2 ba (e2 ixD (ah 1) (eC (.int 4))) (eC (.int 9)))
noncomputable def Bo:Ev->Option D:=aL lq (aa (eF (eSl (ah 1) (bf (e2 bR (eC (.int 50)) (e2 cV (eC (.int 25)) (ah 10)))) (bf (e2 bR (eC (.int 75)) (e2 cV (eC (.int 25)) (ah 10)))))) (aa (aj 6) (aa (aj 2) aF)))
noncomputable abbrev lM:D:=.tup [.str "drift",.lst []]
structure Good(ns:List D)(bs:D)(hs cs:List D)(Rel:Nat->BT->BT->Prop):Prop where
 op:∃d,dB [.lst hs,.lst cs]=some (.inl d)
 z:Rel 0 (T0 hs cs) (T0 hs cs)
 up:∀n T U,Rel n T U->Rel (n+1) T U
 few:∀n T U,n<=11->Rel n T U->Few T/\Few U
 sh:∃bx sd,Fo [.un,.dat (.lst ns),.dat bs,.un,.un,.un,.un,.un,.un,.un,.un]=some bx/\Bf [.un,.dat (.lst ns),.un,.un,.un,.un,.un,.dat bx,.un,.un,.un]=some sd/\∀T U,Rel 0 T U->∃ε T' U',Doing T sd (.nx ε) T'/\Step U sd U'/\U'.deeds.length=T.deeds.length+1/\Rel 1 T' U'
 dr:∃c,zx [.un,.dat (.lst ns),.un,.un,.un,.un,.un,.un,.un,.un,.un]=some c
 dd:∀T U,Rel 1 T U->∃ε T' U',Doing T lM (.nx ε) T'/\Step U lM U'/\U'.deeds.length=T.deeds.length+1/\Rel 2 T' U'
 many:∃m:Int,A6 [.un,.dat (.lst ns),.un,.un,.un,.un,.un,.un,.un,.un,.un]=some (.int m)/\0<=m/\m<=9
 call:∀(i n:Nat) T U,i<9->2<=n->n<11->Rel n T U->∃d fl,Bo [.un,.dat (.lst ns),.dat bs,.un,.un,.un,.dat (bZ U),.un,.un,.un,.dat (.int (0+(i:Int)))]=some d/\gy [bZ U,d]=some fl/\Res Rel n T U d fl
 stands:∀n T U,n<=11->Rel n T U->fC [bw T,bZ U]=some (.bl true)
open Classical in
noncomputable def zh:Ev->Option Fl:=λε=>if ∃d0 ns bs hs cs Rel,ε=[.dat d0,.own ns,.dat bs,.dat (.lst hs),.dat (.lst cs),.un,.un,.un,.un,.un,.un]/\Good ns bs hs cs Rel then some (.rt (.bl true)) else none
noncomputable def GI:Ev->Option Fl:=(aQ (nF 1 (pj fE (aa (aj 0) (aa (eC (.int 280)) aF)))) (aQ (bW 2 (aL kQ (aa (eF (eSl (ah 1) dC (bf (eC (.int 3))))) aF))) (aQ (sIf (aG cH (e2 ba (e2 ixD (ah 1) Vw) (eC (.int 7))) (eC (.int 6))) (aQ (bW 2 (cA (aa (e2 ixD (eF (iI (aa (eC (.int 996)) (aa (kJ (eC (.int 996))) (aa Vw aF))))) (e2 ba (e2 ixD (ah 1) Vy) (eC (.int 3)))) (aa (e2 ixD (eF (iI (aa (kJ (eC (.int 996))) (aa (eC (.int 996)) aF)))) (e2 ba (e2 ixD (ah 1) (eC (.int 2))) (eC (.int 2)))) aF)))) (aQ (kG 1 (eC (.int 10)) Vw) (kG 1 (eC (.int 34)) (eC (.int 8))))) bj) (aQ (mV (aL cE (aa (eF (eSl (ah 1) (bf (eC (.int 10))) (bf (eC (.int 35))))) (aa (aj 2) aF))) (ja 2 (aD (ao 3) (aD (ao 4) bM)))) zh))))
noncomputable def vU:List D->Option D:=fnD Cj vV GI
theorem IV{α:Type}{l:List α}(h:l.length=11):∃a b c d e f g i j k m,l=[a,b,c,d,e,f,g,i,j,k,m]:=match l,h with | [a,b,c,d,e,f,g,i,j,k,m],_=>⟨a,b,c,d,e,f,g,i,j,k,m,rfl⟩
noncomputable def LI(K:Qc)(Rel:Nat->BT->BT->Prop)(He G0:Hp)(b:Addr)(n:Nat)(H:Hp)(am:Addr):Prop:=∃G as T U,BkD K G H b as T/\Den K G (.ref am) (bZ U)/\Rel n T U/\aT G0 G/\aT He H/\He b=none/\∀a∈as,He a=none
section
variable{K:Qc}{Rel:Nat->BT->BT->Prop}{b am am':Addr}{He G0 G H G' H':Hp}{as as':List Addr}{n:Nat}{T U:BT}
theorem LI.move(mv:Mv G H G' H' b as as')(bk:BkD K G' H' b as' T)(ma:Den K G' (.ref am') (bZ U))(r:Rel n T U)(g0:aT G0 G)(he:aT He H)(hb:He b=none)(ha:∀a∈as,He a=none):LI K Rel He G0 b n H' am':=
 ⟨G',as',T,U,bk,ma,r,g0.trans mv.gg,λq o e=>mv.out q o (λz=>by rw[z,hb] at e;cases e) (λz=>by rw[ha q z] at e;cases e) (he q o e),hb,λa m=>(mv.new a m).elim (ha a) λz=>he.free z⟩
theorem LI.grow(h:LI K Rel He G0 b n H am):∃G,aT G0 G/\aT G H/\∀G' H',Grow G H G' H'->LI K Rel He G0 b n H' am:=by
 obtain⟨G,as,T,U,bk,ma,r,g0,he,hb,ha⟩:=h;exact⟨G,g0,bk.gh,λG' H' g=>⟨G',as,T,U,bk.grow g,ma.mono g.gg,r,g0.trans g.gg,he.trans g.hh,hb,ha⟩⟩
theorem LI.up(h:LI K Rel He G0 b n H am)(u:∀n T U,Rel n T U->Rel (n+1) T U):LI K Rel He G0 b (n+1) H am:=let⟨G,as,T,U,bk,ma,r,g⟩:=h;⟨G,as,T,U,bk,ma,u _ _ _ r,g⟩
end
noncomputable def Iw(K:Qc)(ns:List D)(bs sd:D)(Rel:Nat->BT->BT->Prop):TS:=λW σ H=>∃He G0 y0 v1 v2 y3 y4 b am y7 p8 y9 y10 vs ds,σ=[y0,some v1,some v2,y3,y4,some (.ref b),some (.ref am),y7,some (.ref p8),y9,y10]/\Den K G0 v1 (.lst ns)/\Den K G0 v2 bs/\DenL K G0 vs ds/\(ds=[sd]\/ds=[sd,lM])/\He p8=some (.lst vs)/\LI K Rel He G0 b 0 H am/\∀H',aT He H'->aT G0 H'->W.rt (.bl true) H'
theorem C_{Z:Wq}{f:Addr}{base:Heap}{cdv:Qa}{A:QB}{outer:List Env}{s:Qd}{H0:Hp}{E:XK}{ns hs cs:List D}{bs sd:D}{Rel:Nat->BT->BT->Prop}(d:Cj.Nodup)(hr:Room 9 (A.deeper (ZZ "law" (aA (top 113)) s.heap.objs.size f cdv)))(M:Md Z)(h__law_call:kO Z)(h__law_fault:kj Z)(HS:jE Z)(HJ:OO Z CX0 "_law_judged" (top 109) zS 9 (F9 Z))(good:Good ns bs hs cs Rel)
  (hsh:∀T U,Rel 0 T U->∃ε T' U',Doing T sd (.nx ε) T'/\Step U sd U'/\U'.deeds.length=T.deeds.length+1/\Rel 1 T' U'):PSs (jd CX0 Z.P Z.w Z.K Z.mg base Cj "law" (aA (top 113)) f cdv A outer s H0 E).nox ((bc (top 113)).drop 9) (Iw Z.K ns bs sd Rel):=by
 obtain⟨fJ,fdJ,FJ,hJ⟩:=HJ;obtain⟨fS,fdS,⟨FS,_⟩,hS⟩:=HS;intro pins s1 σ H W I ⟨He,G0,y0,v1,v2,y3,y4,b,am,y7,p8,y9,y10,vs,ds,eσ,n1,n2,dvs,hds,e8,li,q⟩;subst eσ
 refine qG I (aH (rQ Q7 rfl (oB (pv 8)) (uh (i:=9) d rfl (Qz rfl))
   (aH (bT (i:=6) d rfl (Qz rfl) (eP (hJ base) hr rfl FJ.mgf FJ.fu.kp FJ.bi .nil f7 (aC (pv 5) (aC (pv 6) (aC (pv 9) (aC (kR (br aE)) aR))))))
   (bF (ia (B8 (Bl (pv 6))) pss_no eQ))))
  (aH (rQ Q7 rfl (tK rfl M.b_range (aC (kR (f:=A6) (ay bB KB (DE.db (ay a_ (DE.db (aO (ai 1) KB)) KB)))) aR)) (uh (i:=10) d rfl (Qz rfl))
   (aH (bT (i:=9) d rfl (Qz rfl) (kR (f:=Bo) (cF h__law_call hr (ae (DF.de (lP (ai 1) (bU (DE.db (ay bB KB (DE.db (ay gE KB (ai 10)))))) (bU (DE.db (ay bB KB (DE.db (ay gE KB (ai 10)))))))) (ae (ak 6) (ae (ak 2) aE))))))
   (aH (bT (i:=6) d rfl (Qz rfl) (eP (hJ base) hr rfl FJ.mgf FJ.fu.kp FJ.bi .nil f7 (aC (pv 5) (aC (pv 6) (aC (pv 9) (aC (kR (cF h__law_fault hr (ae (ak 6) (ae (ak 9) aE)))) aR))))))
   (bF (ia (PW.pt (Fz (B8 (Bl (pv 6))) (BF (yf (GX (eP (hS base) (hr.mono KE) rfl FS.mgf FS.fu.kp FS.bi .nil f7 (aC (pv 5) (aC (pv 6) aR)))))))) pss_no eQ)))))
  (bF (d_ FN)))) ?_
 refine⟨_,rfl,p8,rfl,⟨vs,SqL.of (li.choose_spec.choose_spec.choose_spec.choose_spec.2.2.2.2.1 _ _ e8)⟩,A9 (xs:=vs) (λi σ' H'=>∃am z9,σ'=[y0,some v1,some v2,y3,y4,some (.ref b),some (.ref am),y7,some (.ref p8),z9,y10]/\LI Z.K Rel He G0 b i H' am) ⟨am,y9,rfl,li⟩ (λi σ' H' _ hP=>?_) (λi xv σ' H' ex hP=>?_) λσ' H' hP=>?_⟩
 ·obtain⟨am,z9,rfl,G6,as6,T6,U6,bk6,ma6,r6,g06,he6,_⟩:=hP
  exact SqL.of (he6 _ _ e8)
 ·obtain⟨am,z9,rfl,G6,as6,T6,U6,bk6,ma6,r6,g06,he6,hb6,ha6⟩:=hP
  obtain⟨dc,edc,dxv⟩:=dvs.getV ex
  have i2:i<2:=by
   have:=(QH.mp edc).1;rcases hds with z | z<;>rw[z] at this<;>simp at this<;>omega
  obtain⟨ε,T',U',dg,st,hl,r'⟩:∃ε T' U',Doing T6 dc (.nx ε) T'/\Step U6 dc U'/\U'.deeds.length=T6.deeds.length+1/\Rel (i+1) T' U':=by
   match i,i2 with
   |0,_=>
    have:dc=sd:=by rcases hds with z | z<;>rw[z] at edc<;>exact(Option.some.inj edc).symm
    rw[this];exact hsh _ _ r6
   |1,_=>
    have:dc=lM:=by
     rcases hds with z | z<;>rw[z] at edc
     ·cases edc
     ·exact(Option.some.inj edc).symm
    rw[this];exact good.dd _ _ r6
  obtain⟨fT,fU⟩:=good.few _ _ _ (by omega) r6;refine⟨_,rfl,_,rfl,_,rfl,H',G6,_,.tup [],bk6.gh,xI _,rfl,λv8 G8 H8 g8 dn8=>?_⟩;refine⟨G8,b,as6,am,xv,dc,v8,T6,T',U6,_,rfl,bk6.grow g8,ma6.mono g8.gg,fT,fU,dxv.mono (g06.trans g8.gg),dg,.inl ⟨⟨ε,rfl⟩,dn8,U',st,hl,λam' G9 H9 as9 mv9 bk9 ma9=>?_⟩⟩;refine⟨_,rfl,_,rfl,gu (λc=>absurd (of_decide_eq_true c) (by simp)) λ_=>?_⟩;exact⟨am',_,rfl,LI.move mv9 bk9 ma9 r' (g06.trans g8.gg) (he6.trans g8.hh) hb6 ha6⟩
 obtain⟨am,z9,rfl,li⟩:=hP;have l2:vs.length<=2:=by rw[dvs.length];rcases hds with z | z<;>rw[z]<;>simp
 have li:LI Z.K Rel He G0 b 2 H' am:=by
  rcases(by omega:vs.length=0\/vs.length=1\/vs.length=2) with z | z | z<;>rw[z] at li
  ·exact(li.up good.up).up good.up
  ·exact li.up good.up
  ·exact li
 obtain⟨m,em,m0,m9⟩:=good.many;obtain⟨Ga,ga0,gah,la⟩:=li.grow;refine⟨H',Ga,[.un,.dat (.lst ns),.un,.un,.un,.un,.un,.un,.un,.un,.un],.int m,gah,Slots.env (.un (.dat (n1.mono ga0) (.un (.un (.un (.un (.un (.un (.un (.un (.un .nil))))))))))),em,λv5 G5 H5 g5 dn5=>?_⟩;cases dn5;refine⟨m,rfl,by lia,by lia,Aw (n:=m.toNat) (λi σ' H'=>∃am z9 z10,σ'=[y0,some v1,some v2,y3,y4,some (.ref b),some (.ref am),y7,some (.ref p8),z9,z10]/\LI Z.K Rel He G0 b (2+i) H' am) ⟨am,z9,y10,rfl,la _ _ g5⟩ (λi σ' H' hi hP=>?_) λσ' H' hP=>?_⟩
 ·obtain⟨am,z9,z10,rfl,G6,as6,T6,U6,bk6,ma6,r6,g06,he6,hb6,ha6⟩:=hP
  have hi9:i<9:=by omega
  obtain⟨dc,fl,edc,efl,res⟩:=good.call i (2+i) T6 U6 hi9 (by omega) (by omega) r6;refine⟨H',G6,[.un,.dat (.lst ns),.dat bs,.un,.un,.un,.dat (bZ U6),.un,.un,.un,.dat (.int (0+(i:Int)))],dc,bk6.gh,Slots.env (.un (.dat (n1.mono g06) (.dat (n2.mono g06) (.un (.un (.un (.dat ma6 (.un (.un (.un (.dat (.int _) .nil))))))))))),edc,λv7 G7 H7 g7 dn7=>?_⟩;have ma7:=ma6.mono g7.gg;refine⟨_,rfl,_,rfl,_,rfl,H7,G7,[.un,.un,.un,.un,.un,.un,.dat (bZ U6),.un,.un,.dat dc,.un],fl,g7.gh,Slots.env (.un (.un (.un (.un (.un (.un (.dat ma7 (.un (.un (.dat dn7 (.un .nil))))))))))),(by exact(nu rfl rfl).trans efl),λv8 G8 H8 g8 dn8=>?_⟩;have g68:=g7.trans g8;obtain⟨fT,fU⟩:=good.few _ _ _ (by omega) r6
  have stands:∀{am':Addr} {H9:Hp} {σ:L2.St} {Q:VK},σ[5]?=some (some (.ref b))->σ[6]?=some (some (.ref am'))->LI Z.K Rel He G0 b (2+(i+1)) H9 am'->(∀H',LI Z.K Rel He G0 b (2+(i+1)) H' am'->Q (.bl true) H')->Fp (spF Z.K fC) [] E0 (pM (yG 5) (pM (yG 6) ya)) σ H9 Q:=λ{am' H9 σ Q} h5 h6 li q=>by
   obtain⟨G,as,T,U,bk,ma,r,g0,he,hb,ha⟩:=li;refine⟨_,h5,_,h6,H9,[bw T,bZ U],.bl true,aT.refl _,.cons bk.den (.cons (ma.mono bk.gh) .nil),good.stands _ _ _ (by omega) r,λv G' H' g dn=>?_⟩;cases dn;exact q H' ⟨G,as,T,U,bk.look g.hh,ma,r,g0,he.trans g.hh,hb,ha⟩
  cases res with
  |ok dg st hl r'=>
   refine⟨G8,b,as6,am,v7,dc,v8,T6,_,U6,_,rfl,bk6.grow g68,ma6.mono g68.gg,fT,fU,dn7.mono g8.gg,dg,.inl ⟨⟨_,rfl⟩,dn8,_,st,hl,λam' G9 H9 as9 mv9 bk9 ma9=>?_⟩⟩;have li:=LI.move mv9 bk9 ma9 r' (g06.trans g68.gg) (he6.trans g68.hh) hb6 ha6;refine⟨_,rfl,_,rfl,gu (λc=>absurd (of_decide_eq_true c) (by simp)) λ_=>?_⟩;exact stands rfl rfl li λH15 li'=>⟨true,rfl,gu (λc=>by cases c) λ_=>⟨am',_,_,rfl,li'⟩⟩
  |no dg td=>
   refine⟨G8,b,as6,am,v7,dc,v8,T6,_,U6,_,rfl,bk6.grow g68,ma6.mono g68.gg,fT,fU,dn7.mono g8.gg,dg,.inr ⟨_,_,_,rfl,td,dn8,λG9 H9 g9=>?_⟩⟩;have li:LI Z.K Rel He G0 b (2+(i+1)) H9 am:=⟨G9,as6,T6,U6,(bk6.grow g68).grow g9,ma6.mono (g68.gg.trans g9.gg),good.up _ _ _ r6,g06.trans (g68.gg.trans g9.gg),he6.trans (g68.hh.trans g9.hh),hb6,ha6⟩;refine⟨_,rfl,_,rfl,gu (λc=>absurd (of_decide_eq_true c) (by simp)) λ_=>?_⟩;exact stands rfl rfl li λH15 li'=>⟨true,rfl,gu (λc=>by cases c) λ_=>⟨am,_,_,rfl,li'⟩⟩
 obtain⟨am,z9,z10,rfl,G6,as6,T6,U6,bk6,ma6,r6,g06,he6,hb6,ha6⟩:=hP;exact q H' he6 (g06.trans bk6.gh)
theorem Ia{Z:Wq}{fI:Addr}{fdI:QY}(R:FX Z "law" (top 113) vV)(M:Md Z)(mab:Z.mg "abs" = none)(h__law_numbers:lD Z)(h__law_base:pT Z)(h__law_opening:lr Z)(h__law_box:qX Z)(h__law_call:kO Z)(h__law_fault:kj Z)(HS:jE Z)(mb:Z.mg "Book" = some (.ref ar))(MK:Mk Z.K ar fI)(bI:gj Z.K fdI ["self","hills","cool"] [])
  (hI:∀base,FnOk Z.P Z.w Z.K Z.mg base CX0 6 fI fdI ["self","hills","cool"] (Gi Z)) (HO:OO Z CX0 "_law_opened" (top 94) z0 1 (wM Z)) (HJ:OO Z CX0 "_law_judged" (top 109) zS 9 (F9 Z)):OkD Z "law" (top 113) vV 10 vU:=by
 obtain⟨fO,fdO,FO,hO⟩:=HO;obtain⟨fJ,fdJ,FJ,hJ⟩:=HJ;obtain⟨fS,fdS,⟨FS,FS2⟩,hS⟩:=HS
 refine bdF R λd f base cdv A outer s H E hr=>(aw (q9 1 d (cO h__law_numbers hr (ae (ak 0) (ae ag aE)))) (aw (bJ 2 d (cF h__law_base hr (ae (DF.de (lP (ai 1) gN (bU KB))) aE))) (aw (bp (a8 (cT hr) (DE.db (ay a_ (DE.db (aO (ai 1) KB)) KB)) KB (aP _)) (aw (bJ 2 d (br (ae (aO (DE.db (DF.de (dI (ae ag (ae (jH KB) (ae ag aE)))))) (DE.db (ay a_ (DE.db (aO (ai 1) KB)) KB))) (ae (aO (DE.db (DF.de (dI (ae (jH KB) (ae ag aE))))) (DE.db (ay a_ (DE.db (aO (ai 1) KB)) KB))) aE)))) (aw (l9 1 ag KB) (au (l9 1 ag KB)))) aU)
  (aw (lE (cF h__law_opening hr (ae (DF.de (lP (ai 1) (bU KB) (bU KB))) (ae (ak 2) aE))) (kZ rfl (aK (aJ 3 d) (aK (aJ 4 d) cX))))
  ⟨_,Ex.sR,λHe Ge G H σ ε r W S e P pins s I=>?_⟩))))
 unfold zh at e;split at e
 case isFalse=>cases e
 rename_i hx;cases e;obtain⟨d0,ns,bs,hs,cs,Rel,rfl,good⟩:=hx;obtain⟨G0,S0⟩:=S.freeze 1;have ln:σ.length=11:=S.e.len;obtain⟨v1,q1,n1⟩:=S0.e.dat (i:=1) (d:=.lst ns) rfl;obtain⟨v2,q2,n2⟩:=S0.e.dat (i:=2) (d:=bs) rfl;obtain⟨v3,q3,n3⟩:=S0.e.dat (i:=3) (d:=.lst hs) rfl;obtain⟨v4,q4,n4⟩:=S0.e.dat (i:=4) (d:=.lst cs) rfl;obtain⟨y0,y1,y2,y3,y4,y5,y6,y7,y8,y9,y10,rfl⟩:=IV ln;obtain rfl:y1=some v1:=Option.some.inj q1;obtain rfl:y2=some v2:=Option.some.inj q2;obtain rfl:y3=some v3:=Option.some.inj q3;obtain rfl:y4=some v4:=Option.some.inj q4;have gHe:aT He H:=S0.g.hh;have gGe:aT Ge G0:=S0.g.gg;have gh:aT G0 H:=S0.g.gh
 clear q1 q2 q3 q4 S S0 ln
 obtain⟨bx,sd,eb,es,hsh⟩:=good.sh;obtain⟨dop,eop⟩:=good.op
 refine qG I (aH (bT (i:=5) d rfl (Qz rfl) (zp MK (hI base) (hr.mono KE) rfl mb bI .nil f7 (aC (cD cN (by rfl) M.b_list (by rfl) (aC (pv 3) aR)) (aC (cD cN (by rfl) M.b_list (by rfl) (aC (pv 4) aR)) aR))))
  (aH (bT (i:=6) d rfl (Qz rfl) (eP (hO base) (hr.mono KE) rfl FO.mgf FO.fu.kp FO.bi .nil f7 (aC (pv 3) (aC (pv 4) aR))))
  (aH (bT (i:=7) d rfl (Qz rfl) (kR (f:=Fo) (cF h__law_box hr (ae (DF.de (lP (ai 1) (bU KB) (bU KB))) (ae (aO (DE.db (DF.de (dI (ae (ak 2) (ae (br (ae ag (ae ag aE))) aE))))) (DE.db (Av Ht M.b_int (by rfl) (ae (fg (cT hr) (DE.db (gM Hh mab (by rfl) (ae (aO (ai 2) KB) aE))) KB (aP _)) aE)))) aE)))))
  (aH (bT (i:=8) d rfl (Qz rfl) (dM (aC (kR (f:=Bf) (br (ae aW (ae (ak 7) (ae ag (ae (ay bB KB (DE.db (ay a_ (DE.db (aO (ai 1) KB)) KB))) aE)))))) aR)))
  (aH (ia (Jj (f:=zx) (a8 (cT hr) (DE.db (ay a_ (DE.db (aO (ai 1) KB)) KB)) KB (aP _))) (bF (ko (tf Z7 Z4 Z5 iJ (pv 8) (aC (kR (br (ae aW (ae (DF.de (dI aE)) aE)))) aR)))) eQ)
  (C_ d hr M h__law_call h__law_fault ⟨fS,fdS,⟨FS,FS2⟩,hS⟩ ⟨fJ,fdJ,FJ,hJ⟩ good hsh))))))
  ?_
 obtain⟨l3,zs3,rfl,sq3,dl3⟩:=id n3.lstV;obtain⟨l4,zs4,rfl,sq4,dl4⟩:=id n4.lstV;refine⟨_,rfl,l3,zs3,rfl,.inl (gh.seq sq3),λp1 hp1=>?_⟩;have g1:=Grow.new (.lst zs3) gh hp1;refine⟨_,rfl,l4,zs4,rfl,.inl ((gh.trans g1.hh).seq sq4),λp2 hp2=>?_⟩;have g2:=Grow.new (.lst zs4) g1.gh hp2;have g12:=g1.trans g2;have e1:=g2.gg _ _ (upd_same:upd G0 p1 (.lst zs3) p1=_);have e2:upd (upd G0 p1 (.lst zs3)) p2 (.lst zs4) p2=some (.lst zs4):=upd_same
 clear g2
 generalize upd (upd H p1 (.lst zs3)) p2 (.lst zs4)=H2 at *;generalize upd (upd G0 p1 (.lst zs3)) p2 (.lst zs4)=G2 at *;intro x dx hx hdx ne;have gm:aT H2 (upd (upd H2 dx (.own x)) x (.ins ar dx [])):=(cB _ hdx).trans (cB _ (by rw[az (Ne.symm ne)];exact hx));have xm:upd (upd H2 dx (.own x)) x (.ins ar dx []) x=some (.ins ar dx []):=upd_same;show Gi Z [.ref x,.ref p1,.ref p2] _ _ _;generalize upd (upd H2 dx (.own x)) x (.ins ar dx [])=Hm at *;refine⟨x,dx,G2,p1,p2,zs3,zs4,hs,cs,dop,rfl,xm,g12.gh.free hx,g12.gh.trans gm,e1,e2,dl3.mono g12.gg,dl4.mono g12.gg,eop,λG3 H3 as sg k3 fo3 na bk3=>⟨rfl,?_⟩⟩;have hxe:He x=none:=(gHe.trans g12.hh).free hx;have he3:aT He H3:=λq o e=>k3 q o (λz=>by rw[z,hxe] at e;cases e) (gm _ _ (g12.hh _ _ (gHe _ _ e)));have ha3:∀a∈as,He a=none:=λa m=>(gHe.trans (g12.hh.trans gm)).free (na a m);have g03:aT G0 G3:=g12.gg.trans sg;refine⟨_,rfl,_,rfl,G3,.ref l3,.ref l4,hs,cs,rfl,bk3.gh,n3.mono g03,n4.mono g03,λam G4 H4 g4 ma4=>?_⟩;have bk4:=bk3.grow g4;have g04:=g03.trans g4.gg;refine⟨H4,G4,_,bx,bk4.gh,Slots.env (.un (.dat (n1.mono g04) (.dat (n2.mono g04) (.un (.un (.un (.un (.un (.un (.un (.un .nil))))))))))),eb,λv7 G5 H5 g5 dn7=>?_⟩;have g05:=g04.trans g5.gg;refine⟨H5,G5,_,sd,g5.gh,Slots.env (.un (.dat (n1.mono g05) (.un (.un (.un (.un (.un (.dat dn7 (.un (.un (.un .nil))))))))))),es,λv8 G6 H6 g6 dn8=>?_⟩;have g06:=g05.trans g6.gg;refine⟨(by show 1<=Qk;decide),λp8 hp8=>?_⟩;obtain⟨c,ec⟩:=good.dr;have gl:Grow G6 H6 G6 (upd H6 p8 (.lst [v8])):=Grow.lay _ g6.gh hp8;have e8:upd H6 p8 (.lst [v8]) p8=some (.lst [v8]):=upd_same;have g46:=g5.trans g6;have bk6:=bk4.grow g46
 have nb:p8≠x:=λz=>by
  obtain⟨_,_,_,_,_,_,_,_,e⟩:=bk6.ins;rw[<-z,hp8] at e;cases e
 have na8:∀a∈as,a≠p8:=λa m z=>by
  obtain⟨S,k,_⟩:=bk6.at_;obtain⟨_,e⟩:=k.has m;rw[z,hp8] at e;cases e
 have hn8:He p8=none:=(he3.trans (g4.hh.trans g46.hh)).free hp8;refine⟨H6,G6,[.un,.dat (.lst ns),.un,.un,.un,.un,.un,.un,.un,.un,.un],c,gl.gh,Slots.env (.un (.dat (n1.mono g06) (.un (.un (.un (.un (.un (.un (.un (.un (.un .nil))))))))))),ec,λH7 g7=>?_⟩;have g67:=gl.trans (kd gl.gh g7);refine gu (λ_=>?_) λ_=>?_
 ·refine⟨_,rfl,.inl ⟨rfl,_,SqL.of (g7 _ _ e8)⟩,H7,G6,_,lM,g67.gh,xI _,rfl,λv9 G8 H8 g8 dn9=>⟨p8,_,_,rfl,rfl,g8.hh _ _ (g7 _ _ e8),(by show 1<_;decide),?_⟩⟩
  have g68:=g67.trans g8;have n8:G8 p8=none:=g8.fo _ _ (g7 _ _ e8) (g6.gh.free hp8);have kp:∀q o,q≠p8->H8 q=some o->upd H8 p8 (.lst ([v8]++[v9])) q=some o:=λq o z e=>by rw[az z];exact e
  refine⟨upd He p8 (.lst [v8,v9]),G8,y0,v1,v2,some (.ref l3),some (.ref l4),x,am,some v7,p8,y9,y10,[v8,v9],[sd,lM],rfl,n1.mono (g06.trans g68.gg),n2.mono (g06.trans g68.gg),.cons (dn8.mono g68.gg) (.cons dn9 .nil),.inr rfl,upd_same,⟨G8,as,T0 hs cs,T0 hs cs,?_,(ma4.mono g46.gg).mono g68.gg,good.z,aT.refl _,λq o e=>?_,by rw[az (Ne.symm nb)];exact hxe,λa m=>by rw[az (na8 a m)];exact ha3 a m⟩,λH' s s2=>?_⟩
  ·have bk8:=bk6.grow g68
   obtain⟨S,k,v⟩:=bk8.at_;have mv:aT G8 (upd H8 p8 (.lst ([v8]++[v9]))):=λq o e=>kp q o (λz=>by rw[z,n8] at e;cases e) (g8.gh _ _ e);obtain⟨dx',a1,a2,a3,a4,a5,a6,a7,eas,m⟩:=k;subst eas;have nn:∀a∈[a1,a2,a3,a4,a5,a6,a7],a≠p8:=na8;exact⟨mv,bk8.gb,bk8.ga,S,⟨dx',a1,a2,a3,a4,a5,a6,a7,rfl,kp _ _ (Ne.symm nb) m.b,kp _ _ (nn _ (by simp)) m.e1,kp _ _ (nn _ (by simp)) m.e2,kp _ _ (nn _ (by simp)) m.e3,kp _ _ (nn _ (by simp)) m.e4,kp _ _ (nn _ (by simp)) m.e5,kp _ _ (nn _ (by simp)) m.e6,kp _ _ (nn _ (by simp)) m.e7,m.nd⟩,v⟩
  ·by_cases z:q=p8
   ·subst z;rw[upd_same] at e;cases e;exact upd_same
   ·rw[az z] at e;exact kp q o z (g68.hh _ _ (g46.hh _ _ (g4.hh _ _ (he3 _ _ e))))
  ·exact P (.bl true) Ge H' ⟨λq o e=>s q o (by rw[az (aB e hn8)];exact e),aT.refl _,gGe.trans ((g06.trans g68.gg).trans s2),λ_ _ _ e=>e⟩ (.bl true)
 ·have e7:=g7 _ _ e8
  refine⟨upd He p8 (.lst [v8]),G6,y0,v1,v2,some (.ref l3),some (.ref l4),x,am,some v7,p8,y9,y10,[v8],[sd],rfl,n1.mono g06,n2.mono g06,.cons dn8 .nil,.inl rfl,upd_same,⟨G6,as,T0 hs cs,T0 hs cs,bk6.grow g67,ma4.mono g46.gg,good.z,aT.refl _,λq o e=>?_,by rw[az (Ne.symm nb)];exact hxe,λa m=>by rw[az (na8 a m)];exact ha3 a m⟩,λH' s s2=>?_⟩
  ·by_cases z:q=p8
   ·subst z;rw[upd_same] at e;cases e;exact e7
   ·rw[az z] at e;exact g67.hh _ _ (g46.hh _ _ (g4.hh _ _ (he3 _ _ e)))
  ·exact P (.bl true) Ge H' ⟨λq o e=>s q o (by rw[az (aB e hn8)];exact e),aT.refl _,gGe.trans (g06.trans s2),λ_ _ _ e=>e⟩ (.bl true)
noncomputable abbrev T3:=Int×Int×Int
noncomputable def hD(t:T3):D:=.tup [.int t.1,.int t.2.1,.int t.2.2]
noncomputable def first{α:Type}(B:α->Option Str):List α->Option Str
 |[]=>none
 |x::r=>(B x).or (first B r)
theorem nj{α:Type}{g:D->Ev->Option Ev}{gb:Ev->Option Fl}(enc:α->D)(I:Ev->Prop)(B:α->Option Str)(out:Str->Fl)(ho:∀c ds ε ε1 (d:D),g d ε=some ε1->gb ε1=some (out c)->cz g gb (d::ds) ε=some (out c)):∀(xs:List α),
  (∀x∈xs,∀ε,I ε->∃ε1,g (enc x) ε=some ε1/\((∃c,B x=some c/\gb ε1=some (out c))\/(B x=none/\∃ε2,gb ε1=some (.nx ε2)/\I ε2)))->∀ε,I ε->
  (∃c,first B xs=some c/\cz g gb (xs.map enc) ε=some (out c))\/(first B xs=none/\∃ε',cz g gb (xs.map enc) ε=some (.nx ε')/\I ε')
 |[],_,ε,i=>.inr ⟨rfl,ε,rfl,i⟩
 |x::xs,st,ε,i=>by
  obtain⟨ε1,e1,z⟩:=st x QD ε i;rcases z with⟨c,b,e2⟩ | ⟨b,ε2,e2,i2⟩
  ·exact .inl ⟨c,by unfold first;rw[b];rfl,ho c _ ε ε1 _ e1 e2⟩
  ·have h:cz g gb ((x::xs).map enc) ε=cz g gb (xs.map enc) ε2:=by
    show(g (enc x) ε).bind _=_;rw[e1];show(gb ε1).bind _=_;rw[e2];rfl
   have f:first B (x::xs)=first B xs:=by show(B x).or _=_;rw[b];rfl
   rw[h,f];exact nj enc I B out ho xs (λy hy=>st y (Qv _ hy)) ε2 i2
theorem FE{g:D->Ev->Option Ev}{gb:Ev->Option Fl}(c:Str)(ds:List D)(ε ε1:Ev)(d:D)(e1:g d ε=some ε1)(e2:gb ε1=some (.xc c [])):cz g gb (d::ds) ε=some (.xc c []):=by
 show(g d ε).bind _=_;rw[e1];show(gb ε1).bind _=_;rw[e2];rfl
noncomputable def nT(x y:Int):Bool:=!(decide (-999<=x)&&decide (x<=999)&&(decide (-999<=y)&&decide (y<=999)))
noncomputable def xQ(z:Int):Bool:=!(decide (1<=z)&&decide (z<=5))
noncomputable def bH(t:T3):Option Str:=if nT t.1 t.2.1=true then some "BadPlace" else if xQ t.2.2=true then some "BadHeight" else none
noncomputable def zZ(c:Int):Bool:=!(decide (0<=c)&&decide (c<=23))
noncomputable def inK(cs:List Int)(h:Int):Bool:=inV (.int h) (cs.map V.int)
noncomputable def bC(cs:List Int)(i:Nat):Option Str:=if zZ (cs.getD i 0)=true then some "BadHour" else if inK (cs.take i) (cs.getD i 0)=true then some "Twice" else none
theorem HQ(x y:Int):iQ [.int x,.int y]=some (.bl (nT x y)):=by
 refine b9 rfl (fF ?_);have a1:e2 ltI (aL zO (aa (aj 0) (aa (aj 1) aF))) (kJ (eC (.int 999))) (bG nq [.int x,.int y])=some (.bl (decide ((if y<x then y else x) < -999))):=rfl;have a2:e2 gtI (aL zq (aa (aj 0) (aa (aj 1) aF))) (eC (.int 999)) (bG nq [.int x,.int y])=some (.bl (decide (999<(if y>x then y else x)))):=rfl;unfold eOr;rw[a1,a2];show(if decide ((if y<x then y else x) < -999)=true then some (D.bl true) else some (.bl (decide (999<(if y>x then y else x)))))=_;unfold nT
 by_cases c:(if y<x then y else x) < -999
 ·rw[if_pos (decide_eq_true c)]
  congr 2
  symm
  rw[K9,Zq,Zq,Zq];simp only[decide_eq_false_iff_not];split at c<;>lia
 ·rw[if_neg (by simpa using c)]
  congr 2;rw[ZX,decide_eq_true_iff,K9,Zq,Zq,Zq];simp only[decide_eq_false_iff_not];split at c<;>split<;>lia
theorem GE(cs:List Int)(h:Int):inD false (.int h) (.lst (iL cs))=some (.bl (inK cs h)):=by show(oY (iL cs)).bind _=_;rw[uF];rfl
theorem sC{N ps:List Str}{g:Ev->Option Fl}{ds:List D}{ε:Ev}(hl:ds.length=ps.length)(h:g (bG N ds)=some (.nx ε)):fnX N ps g ds=some (.inl .non):=by unfold fnX;rw[if_pos hl,h]
theorem lF{N ps:List Str}{g:Ev->Option Fl}{ds:List D}{c:Str}{fs:List (Str×D)}(hl:ds.length=ps.length)(h:g (bG N ds)=some (.xc c fs)):fnX N ps g ds=some (.inr (c,fs)):=by unfold fnX;rw[if_pos hl,h]
theorem vN(x y:Int):fq [.int x,.int y]=some (if nT x y=true then .inr ("BadPlace",[]) else .inl .non):=by
 have o:b_ (cI (gw leI leI (kJ (eC (.int 999))) (ah 0) (eC (.int 999))) (gw leI leI (kJ (eC (.int 999))) (ah 1) (eC (.int 999)))) (bG g_ [.int x,.int y])=some (nT x y):=by
  have c1:gw leI leI (kJ (eC (.int 999))) (ah 0) (eC (.int 999)) (bG g_ [.int x,.int y])=some (decide (-999<=x)&&decide (x<=999)):=by
   show asB (if decide (-999<=x)=true then some (D.bl (decide (x<=999))) else some (.bl false))=_;cases decide (-999<=x)<;>rfl
  have c2:gw leI leI (kJ (eC (.int 999))) (ah 1) (eC (.int 999)) (bG g_ [.int x,.int y])=some (decide (-999<=y)&&decide (y<=999)):=by
   show asB (if decide (-999<=y)=true then some (D.bl (decide (y<=999))) else some (.bl false))=_;cases decide (-999<=y)<;>rfl
  unfold b_ cI;rw[c1,c2];unfold nT;cases(decide (-999<=x)&&decide (x<=999))<;>rfl
 cases hp:nT x y with
 |true=>rw[hp] at o;exact lF rfl ((iq o).trans rfl)
 |false=>rw[hp] at o;exact sC rfl ((iS o).trans rfl)
theorem nh(c a b:Int):dE [.int c,.int a,.int b]=some (if !(decide (a<=c)&&decide (c<=b)) then .inr ("BadHour",[]) else .inl .non):=by
 have o:b_ (gw leI leI (ah 1) (ah 0) (ah 2)) (bG ij [.int c,.int a,.int b])=some (!(decide (a<=c)&&decide (c<=b))):=by
  have c1:gw leI leI (ah 1) (ah 0) (ah 2) (bG ij [.int c,.int a,.int b])=some (decide (a<=c)&&decide (c<=b)):=by
   show asB (if decide (a<=c)=true then some (D.bl (decide (c<=b))) else some (.bl false))=_;cases decide (a<=c)<;>rfl
  unfold b_;rw[c1];rfl
 cases hp:(!(decide (a<=c)&&decide (c<=b))) with
 |true=>rw[hp] at o;exact lF rfl ((iq o).trans rfl)
 |false=>rw[hp] at o;exact sC rfl ((iS o).trans rfl)
theorem e_{F:List D->Option Dn.Out}{g:Ev->Option (List D)}{ε:Ev}{ds:List D}{d:D}(h1:g ε=some ds)(h2:F ds=some (.inl d)):sXe F g ε=some (.nx ε):=by unfold sXe;rw[h1];show(F ds).bind _=_;rw[h2];rfl
theorem lQ{F:List D->Option Dn.Out}{g:Ev->Option (List D)}{ε:Ev}{ds:List D}{c:Str}(h1:g ε=some ds)(h2:F ds=some (.inr (c,[]))):sXe F g ε=some (.xc c []):=by unfold sXe;rw[h1];show(F ds).bind _=_;rw[h2];rfl
theorem dU{g g':Ev->Option Fl}{ε:Ev}{c:Str}{fs:List (Str×D)}(h:g ε=some (.xc c fs)):aQ g g' ε=some (.xc c fs):=by unfold aQ;rw[h];rfl
theorem EA(t:T3):kh [hD t]=some (match bH t with | some c=>.inr (c,[]) | none=>.inl .non):=by
 obtain⟨x,y,z⟩:=t;have s1:mV (aj 0) (ja 3 (aD (ao 1) (aD (ao 2) (aD (ao 3) bM)))) (bG oH [hD (x,y,z)])=some (.nx [.dat (hD (x,y,z)),.dat (.int x),.dat (.int y),.dat (.int z)]):=rfl;have a2:(aa (aj 1) (aa (aj 2) aF)) [.dat (hD (x,y,z)),.dat (.int x),.dat (.int y),.dat (.int z)]=some [.int x,.int y]:=rfl
 have o:b_ (gw leI leI Vy (ah 3) (eC (.int 5))) [.dat (hD (x,y,z)),.dat (.int x),.dat (.int y),.dat (.int z)]=some (xQ z):=by
  have c1:gw leI leI Vy (ah 3) (eC (.int 5)) [.dat (hD (x,y,z)),.dat (.int x),.dat (.int y),.dat (.int z)]=some (decide (1<=z)&&decide (z<=5)):=by
   show asB (if decide (1<=z)=true then some (D.bl (decide (z<=5))) else some (.bl false))=_;cases decide (1<=z)<;>rfl
  unfold b_;rw[c1];rfl
 unfold bH;have p:=vN x y;show _=some (match(if nT x y=true then some ("BadPlace" : Str) else if xQ z=true then some "BadHeight" else none) with | some c=>_ | none=>_);cases hp:nT x y with
 |true=>
  rw[hp] at p;exact lF rfl ((ax s1).trans (dU (lQ a2 p)))
 |false=>
  rw[hp] at p;cases ht:xQ z with
  |true=>rw[ht] at o;exact lF rfl ((ax s1).trans ((ax (e_ a2 p)).trans ((iq o).trans rfl)))
  |false=>rw[ht] at o;exact sC rfl ((ax s1).trans ((ax (e_ a2 p)).trans ((iS o).trans rfl)))
noncomputable abbrev eo(a b s2 s3 s4:Sl):Ev:=[a,b,s2,s3,s4]
theorem yK(H C:D)(xs:List T3)(s2 s3 s4:Sl):(∃c,first bH xs=some c/\cz (ao 2) c_ (xs.map hD) (eo (.dat H) (.dat C) s2 s3 s4)=some (.xc c []))\/
  (first bH xs=none/\∃ε',cz (ao 2) c_ (xs.map hD) (eo (.dat H) (.dat C) s2 s3 s4)=some (.nx ε')/\∃t2 t3 t4,ε'=eo (.dat H) (.dat C) t2 t3 t4):=by
 refine nj hD (λε=>∃t2 t3 t4,ε=eo (.dat H) (.dat C) t2 t3 t4) bH (λc=>.xc c []) FE xs (λt _ ε hI=>?_) _ ⟨s2,s3,s4,rfl⟩;obtain⟨t2,t3,t4,rfl⟩:=hI;refine⟨eo (.dat H) (.dat C) (.dat (hD t)) t3 t4,rfl,?_⟩;have h:=EA t;cases hb:bH t with
 |some c=>rw[hb] at h;exact .inl ⟨c,rfl,lQ rfl h⟩
 |none=>rw[hb] at h;exact .inr ⟨rfl,_,e_ rfl h,_,_,_,rfl⟩
theorem En(cs:List Int):iZ 0 (iL cs)=(QU cs.length).map (λi:Nat=>D.tup [.int (i:Int),.int (cs.getD i 0)]):=by
 have key:∀(l:List Int) (n:Nat),iZ n (iL l)=(QU l.length).map λi=>D.tup [.int ((n+i:Nat):Int),.int (l.getD i 0)]:=by
  intro l
  induction l with
  |nil=>intro n;rfl
  |cons c l ih=>
   intro n;show D.tup [.int (n:Int),.int c]::iZ (n+1) (iL l)=_;rw[ih (n+1),QM,List.range_succ_eq_map,Q3,List.map_map];congr 1;apply List.map_congr_left;intro i _;show _=D.tup [.int ((n+(i+1):Nat):Int),.int ((c::l).getD (i+1) 0)];rw[show n+(i+1)=n+1+i by lia];rfl
 rw[key cs 0];apply List.map_congr_left;intro i _;rw[Nat.zero_add]
theorem AK(H:D)(cs:List Int)(s2 s3 s4:Sl):(∃c,first (bC cs) (QU cs.length)=some c/\cz (eZ 2 (aD (ao 3) (aD (ao 4) bM))) dj (iZ 0 (iL cs)) (eo (.dat H) (.dat (.lst (iL cs))) s2 s3 s4)=some (.xc c []))\/
  (first (bC cs) (QU cs.length)=none/\∃ε',cz (eZ 2 (aD (ao 3) (aD (ao 4) bM))) dj (iZ 0 (iL cs)) (eo (.dat H) (.dat (.lst (iL cs))) s2 s3 s4)=some (.nx ε')/\∃t2 t3 t4,ε'=eo (.dat H) (.dat (.lst (iL cs))) t2 t3 t4):=by
 rw[En];refine nj (λi:Nat=>D.tup [.int (i:Int),.int (cs.getD i 0)]) (λε=>∃t2 t3 t4,ε=eo (.dat H) (.dat (.lst (iL cs))) t2 t3 t4) (bC cs) (λc=>.xc c []) FE (QU cs.length) (λi hi ε hI=>?_) _ ⟨s2,s3,s4,rfl⟩;obtain⟨t2,t3,t4,rfl⟩:=hI;generalize hc:cs.getD i 0=c;refine⟨eo (.dat H) (.dat (.lst (iL cs))) t2 (.dat (.int (i:Int))) (.dat (.int c)),rfl,?_⟩;have b:=nh c 0 23;have tk:kI (iL cs) none (some (i:Int))=iL (cs.take i):=by rw[qy];unfold iL;rw[Vl]
 have t:aG (inD false) (ah 4) (eF (eSl (ah 1) dC (bf (ah 3)))) (eo (.dat H) (.dat (.lst (iL cs))) t2 (.dat (.int (i:Int))) (.dat (.int c)))=some (inK (cs.take i) c):=
  kg (x:=.int c) (y:=.lst (iL (cs.take i))) rfl (jc (by show some (kI (iL cs) none (some (i:Int)))=_;rw[tk])) (GE _ _)
 have a:(aa (aj 4) (aa Vw (aa (e2 h9 (eC (.int 24)) Vy) aF))) (eo (.dat H) (.dat (.lst (iL cs))) t2 (.dat (.int (i:Int))) (.dat (.int c)))=some [.int c,.int 0,.int 23]:=rfl;unfold bC;rw[hc];cases hp:zZ c with
 |true=>
  unfold zZ at hp;rw[hp] at b;exact .inl ⟨"BadHour",rfl,dU (lQ a b)⟩
 |false=>
  unfold zZ at hp;rw[hp] at b;show(∃d,(if inK (cs.take i) c=true then _ else _)=some d/\_)\/((if inK (cs.take i) c=true then _ else _)=none/\_);cases ht:inK (cs.take i) c with
  |true=>
   rw[ht] at t;exact .inl ⟨"Twice",rfl,(ax (e_ a b)).trans ((iq t).trans rfl)⟩
  |false=>
   rw[ht] at t;exact .inr ⟨rfl,_,(ax (e_ a b)).trans ((iS t).trans rfl),_,_,_,rfl⟩
theorem Dm(xs:List T3)(cs:List Int):dB [.lst (xs.map hD),.lst (iL cs)]=some (match(if decide (20<xs.length) || decide (24<cs.length) then some ("Full" : Str) else(first bH xs).or (first (bC cs) (QU cs.length))) with | some c=>.inr (c,[]) | none=>.inl .non):=by
 have o:iY (aG gtI (aY dJ (ah 0)) (eC (.int 20))) (aG gtI (aY dJ (ah 1)) (eC (.int 24))) (bG fK [.lst (xs.map hD),.lst (iL cs)])=some (decide (20<xs.length) || decide (24<cs.length)):=by
  show(if decide ((20:Int)<((xs.map hD).length:Int))=true then some true else some (decide ((24:Int)<((iL cs).length:Int))))=_;rw[Qt,show(iL cs).length=cs.length by simp[iL]]
  by_cases c:20<xs.length
  ·rw[if_pos (by simp;lia),decide_eq_true c];rfl
  ·rw[if_neg (by simp;lia),decide_eq_false c,Bool.false_or]
   congr 1;rw[decide_eq_decide]
   lia
 cases hf:(decide (20<xs.length) || decide (24<cs.length)) with
 |true=>
  rw[hf] at o;exact lF rfl (dU ((iq o).trans rfl))
 |false=>
  rw[hf] at o;have f1:gW (aj 0) (bG fK [.lst (xs.map hD),.lst (iL cs)])=some (xs.map hD):=rfl;have step:∀{r:Fl},aQ (iX (gW (aj 0)) (ao 2) c_) (iX (qZ (aj 1)) (eZ 2 (aD (ao 3) (aD (ao 4) bM))) dj) (eo (.dat (.lst (xs.map hD))) (.dat (.lst (iL cs))) .un .un .un)=some r->kC (bG fK [.lst (xs.map hD),.lst (iL cs)])=some r:=λh=>(ax ((iS o).trans rfl)).trans h;rcases yK (.lst (xs.map hD)) (.lst (iL cs)) xs .un .un .un with⟨c,e1,e2⟩ | ⟨e1,ε',e2,t2,t3,t4,rfl⟩
  ·rw[e1]
   exact lF rfl (step (dU ((cq f1).trans e2)))
  ·rw[e1]
   have f2:qZ (aj 1) (eo (.dat (.lst (xs.map hD))) (.dat (.lst (iL cs))) t2 t3 t4)=some (iZ 0 (iL cs)):=rfl;rcases AK (.lst (xs.map hD)) cs t2 t3 t4 with⟨c,e3,e4⟩ | ⟨e3,ε',e4,u2,u3,u4,rfl⟩
   ·rw[e3]
    exact lF rfl (step ((ax ((cq f1).trans e2)).trans ((cq f2).trans e4)))
   ·rw[e3]
    exact sC rfl (step ((ax ((cq f1).trans e2)).trans ((cq f2).trans e4)))
theorem J8(ns:List Int)(hn:ns.length<=63)(m:Nat)(hm:m<=5000) :
  ∃row:List Int,gH [.dat (.lst (iL ns)),.dat (.int (m:Int)),.un,.un,.un,.un,.un]=some (.ro (iL row))/\row.length=m/\Low row:=by
 have hk:(iL ns).take 63=iL ns:=Kl (by simpa[iL] using hn);obtain⟨row1,seed1,c1,r1,k1,e1,l1,h1,z1⟩:=vK (.dat (.lst (iL ns))) (.dat (.int (m:Int))) ns .un .un .un [] 29 (by intro v hv;cases hv) KE (by simp;lia);obtain⟨row2,seed2,k2,e2',l2,h2,h3⟩:=sP (.dat (.lst (iL ns))) c1 r1 m (QU m) k1 row1 seed1 l1 h1 (by simp at z1 ⊢;lia) (by simp);refine⟨row2.take m,?_,by rw[KU];lia,λv hv=>l2 v (List.mem_of_mem_take hv)⟩;have s1:nF 2 (iI aF) [.dat (.lst (iL ns)),.dat (.int (m:Int)),.un,.un,.un,.un,.un]=some (.nx [.dat (.lst (iL ns)),.dat (.int (m:Int)),.own (iL []),.un,.un,.un,.un]):=rfl;have s2:bW 3 (eC (.int 29)) [.dat (.lst (iL ns)),.dat (.int (m:Int)),.own (iL []),.un,.un,.un,.un]=some (.nx [.dat (.lst (iL ns)),.dat (.int (m:Int)),.own (iL []),.dat (.int 29),.un,.un,.un]):=rfl
 have s3:gW (eF (eSl (ah 0) dC (bf (eC (.int 63))))) [.dat (.lst (iL ns)),.dat (.int (m:Int)),.own (iL []),.dat (.int 29),.un,.un,.un]=some (iL ns):=by
  show gW _ _=_;have:eSl (ah 0) dC (bf (eC (.int 63))) [.dat (.lst (iL ns)),.dat (.int (m:Int)),.own (iL []),.dat (.int 29),.un,.un,.un]=some (kI (iL ns) none (some ((63:Nat):Int))):=rfl;unfold gW eF;rw[this,qy,hk];rfl
 have s4:iG (aj 1) [.dat (.lst (iL ns)),.dat (.int (m:Int)),.own (iL row1),.dat (.int seed1),c1,r1,k1]=some (fX m):=by
  have:(m:Int)<1000000/\-1000000<(m:Int):=by lia
  unfold iG;show(if(m:Int)<1000000/\-1000000<(m:Int) then some (fX (m:Int).toNat) else none)=_;rw[if_pos this,KA]
 have s5:zG (eSl (ah 2) dC (bf (ah 1))) [.dat (.lst (iL ns)),.dat (.int (m:Int)),.own (iL row2),.dat (.int seed2),c1,r1,k2]=some (.ro (iL (row2.take m))):=by
  have:eSl (ah 2) dC (bf (ah 1)) [.dat (.lst (iL ns)),.dat (.int (m:Int)),.own (iL row2),.dat (.int seed2),c1,r1,k2]=some (kI (iL row2) none (some (m:Int))):=rfl;unfold zG;rw[this,qy];simp[iL,Vl]
 have e2'':cz (ao 6) lW (fX m) [.dat (.lst (iL ns)),.dat (.int (m:Int)),.own (iL row1),.dat (.int seed1),c1,r1,k1]=_:=e2';unfold gH;rw[show jg=oQ from rfl,show jC=lW from rfl];rw[ax s1,ax s2,ax (by rw[cq s3];exact e1),ax (by rw[cq s4];exact e2'')];exact s5
theorem Gy{N ps:List Str}{g:Ev->Option Fl}{ds rs:List D}(hl:ds.length=ps.length)(h:g (bG N ds)=some (.ro rs)):fnO N ps g ds=some rs:=by unfold fnO;rw[if_pos hl,h]
theorem Hi(ns:List Int)(hn:ns.length<=63)(m:Nat)(hm:m<=5000):∃f:Nat->Int,fE [.lst (iL ns),.int (m:Int)]=some (iL (bX f m))/\∀j,0<=f j/\f j<1000:=by
 obtain⟨row,e,h1,h2⟩:=J8 ns hn m hm;obtain⟨f,rfl,hf⟩:=Gn h1 h2;refine⟨f,?_,hf⟩;unfold fE;exact Gy rfl e
theorem qA{i:Nat}{fk g:Ev->Option D}{ε:Ev}{ds:List D}{m:Nat}{d:D}(h1:g ε=some d)(h2:fk ε=some (.int (m:Int)))(h3:ε[i]?=some (.own ds))(hm:m<ds.length):kG i fk g ε=some (.nx (ε.set i (.own (ds.set m d)))):=by
 unfold kG;rw[h1,h2,h3];show(ixN ds.length (m:Int)).map _=_;have:ixN ds.length (m:Int)=some m:=by unfold ixN;simp;lia
 rw[this];rfl
noncomputable def IB(o:Option Str):Dn.Out:=match o with | some c=>.inr (c,[]) | none=>.inl .non
noncomputable abbrev bx6(a b c d e g:Int):D:=.tup [.int a,.int b,.int c,.int d,.int e,.int g]
noncomputable def Hj(a b:Int):Int:=if b<a then b else a
noncomputable def Hy(a b:Int):Int:=if a<b then b else a
theorem yU:∀n,gG n=FrS n
 |0=>rfl
 |n+1=>by
  show fnD _ _ (pQ (gG n))=fnD _ _ (qa (FrS n));rw[yU n];rfl
theorem rD(d:D)(h:OkS 5 d):cu [d,d]=some (.bl true):=by
 unfold cu;rw[yU];exact uG 5 d h
noncomputable def yd(h:Int):Bool:=!(decide (0<=h)&&decide (h<=5))
theorem zg(a b x:Int):(decide (x<a) || decide (b<x)) = !(decide (a<=x)&&decide (x<=b)):=by
 rw[ZX];simp only[Bool.or_eq_true,decide_eq_true_iff,K9,Zq,decide_eq_false_iff_not]
 lia
theorem GA(a b x y:Int):(decide (Hj x y<a) || decide (b<Hy x y)) = !((decide (a<=x)&&decide (x<=b))&&(decide (a<=y)&&decide (y<=b))):=by
 rw[ZX];simp only[Bool.or_eq_true,decide_eq_true_iff,K9,Zq,decide_eq_false_iff_not];unfold Hj Hy;split<;>split<;>lia
theorem zQ{a b c:Int}{fa fb fc:Ev->Option D}{ε:Ev}(h1:fa ε=some (.int a))(h2:fb ε=some (.int b))(h3:fc ε=some (.int c)):gw leI leI fa fb fc ε=some (decide (a<=b)&&decide (b<=c)):=by
 unfold gw;rw[rX h1 h2 h3];rfl
theorem Aq(h:Int):gK [.int h]=some (if yd h then .inr ("BadHeight",[]) else .inl .non):=by
 have o:b_ (gw leI leI Vw (ah 0) (eC (.int 5))) (bG kS [.int h])=some (yd h):=by
  unfold b_;rw[zQ (a:=0) (b:=h) (c:=5) rfl rfl rfl];rfl
 cases hp:yd h with
 |true=>rw[hp] at o;exact lF rfl ((iq o).trans rfl)
 |false=>rw[hp] at o;exact sC rfl ((iS o).trans rfl)
noncomputable def pY(a b c d e g:Int):Bool:=(decide (-999<=a)&&(decide (a<=c)&&decide (c<=999)))&&((decide (-999<=b)&&(decide (b<=d)&&decide (d<=999)))&&(decide (0<=e)&&(decide (e<=g)&&decide (g<=5))))
theorem Hw{a b c d:Int}{fa fb fc fd:Ev->Option D}{ε:Ev}(h1:fa ε=some (.int a))(h2:fb ε=some (.int b))(h3:fc ε=some (.int c))(h4:fd ε=some (.int d)):Ad fa (mq leI fb (mq leI fc (tL leI fd))) ε=some (.bl (decide (a<=b)&&(decide (b<=c)&&decide (c<=d)))):=by
 unfold Ad mq tL;rw[h1,h2,h3,h4];show(if decide (a<=b)=true then(if decide (b<=c)=true then some (D.bl (decide (c<=d))) else some (.bl false)) else some (.bl false))=_;cases decide (a<=b)<;>cases decide (b<=c)<;>rfl
theorem EU(a b c d e g:Int):kc [bx6 a b c d e g]=some (.bl (pY a b c d e g)):=by
 refine b9 rfl ((ax (ε':=[.dat (bx6 a b c d e g),.dat (.int a),.dat (.int b),.dat (.int c),.dat (.int d),.dat (.int e),.dat (.int g)]) rfl).trans (fF ?_));exact hZ (Hw (a:=-999) (d:=999) rfl rfl rfl rfl) (hZ (Hw (a:=-999) (d:=999) rfl rfl rfl rfl) (Hw (a:=0) (d:=5) rfl rfl rfl rfl))
noncomputable def fS(bad:Bool)(n x y:Int):Option Str:=if bad=true then some "BadBox" else if(!(decide (0<=x)&&decide (x<=24)))=true then some "BadHour" else if(!(decide (x<=y)&&decide (y<=24)))=true then some "BadHour" else if decide (x<=n)=true then some "Past" else none
theorem uY(n x y a b c d e g:Int):eB [.int n,bx6 a b c d e g,.int x,.int y]=some (IB (fS (!pY a b c d e g) n x y)):=by
 have g1:=EU a b c d e g;generalize pY a b c d e g=gb at g1;let ε:Ev:=[.dat (.int n),.dat (bx6 a b c d e g),.dat (.int x),.dat (.int y)]
 have b0:k_ [bx6 a b c d e g]=some (if(!gb)=true then .inr ("BadBox",[]) else .inl .non):=by
  have o:b_ (cZ (aL kc (aa (aj 0) aF))) (bG pS [bx6 a b c d e g])=some (!gb):=Ac ((nC (x:=bx6 a b c d e g) rfl).trans g1);cases hp : !gb with
  |true=>rw[hp] at o;exact lF rfl ((iq o).trans rfl)
  |false=>rw[hp] at o;exact sC rfl ((iS o).trans rfl)
 have a0:(aa (aj 1) aF) ε=some [bx6 a b c d e g]:=rfl;have a1:(aa (aj 2) (aa Vw (aa (eC (.int 24)) aF))) ε=some [.int x,.int 0,.int 24]:=rfl;have a2:(aa (aj 3) (aa (aj 2) (aa (eC (.int 24)) aF))) ε=some [.int y,.int x,.int 24]:=rfl;have b1:=nh x 0 24;have b2:=nh y x 24;have p:aG leI (ah 2) (ah 0) ε=some (decide (x<=n)):=rfl;have st:bG oI [.int n,bx6 a b c d e g,.int x,.int y]=ε:=rfl
 clear_value ε
 subst st;unfold fS;cases hb : !gb with
 |true=>
  rw[hb] at b0;exact lF rfl (dU (lQ a0 b0))
 |false=>
  rw[hb] at b0;cases hp:(!(decide (0<=x)&&decide (x<=24))) with
  |true=>
   rw[hp] at b1;exact lF rfl ((ax (e_ a0 b0)).trans (dU (lQ a1 b1)))
  |false=>
   rw[hp] at b1;cases hq:(!(decide (x<=y)&&decide (y<=24))) with
   |true=>
    rw[hq] at b2;exact lF rfl ((ax (e_ a0 b0)).trans ((ax (e_ a1 b1)).trans (dU (lQ a2 b2))))
   |false=>
    rw[hq] at b2;cases hh:decide (x<=n) with
    |true=>
     rw[hh] at p;exact lF rfl ((ax (e_ a0 b0)).trans ((ax (e_ a1 b1)).trans ((ax (e_ a2 b2)).trans ((iq p).trans rfl))))
    |false=>
     rw[hh] at p;exact sC rfl ((ax (e_ a0 b0)).trans ((ax (e_ a1 b1)).trans ((ax (e_ a2 b2)).trans ((iS p).trans rfl))))
noncomputable def d6(b:Int):Prop:=-985<=b/\b<=985
theorem D9(a0 a1 a2:Int)(h1:0<=a1/\a1<1000)(h2:0<=a2/\a2<1000):∃b0 b1,kQ [.lst (iL [a0,a1,a2])]=some (.tup [.int b0,.int b1])/\d6 b0/\d6 b1:=by
 have key:∃b0 b1,lH [.dat (.lst (iL [a0,a1,a2]))]=some (.rt (.tup [.int b0,.int b1]))/\d6 b0/\d6 b1:=by
  unfold lH
  by_cases c1:a0%5=1
  ·exact⟨a1-500,a2-500,cC (by rw[lK (a0%5=1) rfl c1];rfl),by unfold d6;lia,by unfold d6;lia⟩
  ·by_cases c2:a0%5=2
   ·refine⟨(a1%3-1)*985,(a2%3-1)*985,(ax (by rw[gX (a0%5=1) rfl c1];rfl)).trans (cC ?_),by unfold d6;lia,by unfold d6;lia⟩
    rw[lK (a0%5=2) rfl c2];refine fF ?_;have c1:e2 cV (e2 h9 (e2 ba (e2 ixD (ah 0) Vy) (eC (.int 3))) Vy) (eC (.int 985)) [.dat (.lst (iL [a0,a1,a2]))]=some (.int ((a1%3-1)*985)):=(sZ (x:=.int (a1%3-1)) (y:=.int 985) rfl rfl).trans (Jd KE);have c2:e2 cV (e2 h9 (e2 ba (e2 ixD (ah 0) (eC (.int 2))) (eC (.int 3))) Vy) (eC (.int 985)) [.dat (.lst (iL [a0,a1,a2]))]=some (.int ((a2%3-1)*985)):=(sZ (x:=.int (a2%3-1)) (y:=.int 985) rfl rfl).trans (Jd KE);unfold cA aa;rw[c1,c2];rfl
   ·exact⟨0,0,(ax (by rw[gX (a0%5=1) rfl c1];rfl)).trans ((ax (by rw[gX (a0%5=2) rfl c2];rfl)).trans rfl),by unfold d6;lia,by unfold d6;lia⟩
 obtain⟨b0,b1,e,h⟩:=key;exact⟨b0,b1,b9 rfl e,h⟩
theorem Fe{x y z:Int}(hx:-999<=x/\x<=999)(hy:-999<=y/\y<=999)(hz:1<=z/\z<=5):bH (x,y,z)=none:=by
 unfold bH nT xQ;simp[hx.1,hx.2,hy.1,hy.2,hz.1,hz.2]
theorem nk{α:Type}{B:α->Option Str}:∀{xs:List α},(∀x∈xs,B x=none)->first B xs=none
 |[],_=>rfl
 |x::xs,h=>by
  show(B x).or (first B xs)=none;rw[h x QD,nk λy hy=>h y (Qv _ hy)];rfl
noncomputable def Cl(cs:List Int):Prop:=cs.Pairwise (·≠·)/\∀c∈cs,0<=c/\c<=23
theorem yR{cs:List Int}{h:Int}:inK cs h=true↔h∈cs:=by
 unfold inK inV;rw[List.any_eq_true];constructor
 ·rintro⟨v,hv,e⟩
  obtain⟨c,hc,rfl⟩:=ZF.mp hv
  have:c=h:=by
   have e':decide (c=h)=true:=e;exact of_decide_eq_true e'
  exact this▸hc
 ·intro hc
  refine⟨.int h,ZF.mpr ⟨h,hc,rfl⟩,?_⟩;show decide (h=h)=true;exact decide_eq_true rfl
theorem zU{cs:List Int}(h:Cl cs):first (bC cs) (QU cs.length)=none:=by
 refine nk λi hi=>?_;have lt:=List.mem_range.mp hi;have e:cs.getD i 0=cs[i]:=by simp[lt]
 unfold bC;rw[e];have b:=h.2 cs[i] (List.getElem_mem lt);have u:zZ cs[i]=false:=by unfold zZ;simp[b.1,b.2]
 have k:inK (cs.take i) cs[i]=false:=by
  cases z:inK (cs.take i) cs[i] with
  |false=>rfl
  |true=>
   have m:=yR.mp z;obtain⟨j,hj,ej⟩:=List.getElem_of_mem m
   have jl:j<i:=by
    have:=hj;rw[KU] at this
    lia
   have p:=KN.mp h.1 j i KM lt jl;rw[List.getElem_take] at ej;exact absurd ej p
 rw[u,k];rfl
theorem Cl.snoc{cs:List Int}{c:Int}(h:Cl cs)(n:inK cs c=false)(b:0<=c/\c<=23):Cl (cs++[c]):=by
 refine⟨List.pairwise_append.mpr ⟨h.1,List.pairwise_singleton _ _,λx hx y hy=>?_⟩,λx hx=>?_⟩
 ·rw[QL.mp hy]
  intro z;rw[z] at hx;rw[yR.mpr hx] at n;cases n
 ·rcases Q2.mp hx with z | z
  ·exact h.2 x z
  ·rw[QL.mp z];exact b
noncomputable def qj(d:Int):List Int:=(QU 24).map λj:Nat=>(7*(j:Int)+d)%24
theorem wq(d:Int):Cl (qj d)/\(qj d).length=24:=by
 refine⟨⟨?_,λc hc=>?_⟩,by simp[qj]⟩
 ·unfold qj
  rw[KN];intro i j hi hj lt;simp only[Qt,List.length_range] at hi hj;simp only[List.getElem_map,List.getElem_range,ne_eq]
  lia
 ·obtain⟨j,_,rfl⟩:=ZF.mp hc
  lia
section
variable(f:Nat->Int)(hf:∀j,0<=f j/\f j<1000)(b0 b1:Int)(hb0:d6 b0)(hb1:d6 b1)
noncomputable abbrev eo5(f:Nat->Int)(b0 b1:Int)(s2 s3 s4:Sl):Ev:=[.dat (.lst (iL (bX f 25))),.dat (.tup [.int b0,.int b1]),s2,s3,s4]
noncomputable def Hs(xs:List T3):Prop:=∀t∈xs,bH t=none
theorem Hs.snoc{xs:List T3}{t:T3}(h:Hs xs)(n:bH t=none):Hs (xs++[t]):=λu hu=>by
 rcases Q2.mp hu with z | z
 ·exact h u z
 ·rw[QL.mp z];exact n
include hf hb0 hb1 in
theorem op0(k:Nat)(hk:k<6)(xs:List T3)(hz:xs.length<1000)(s4:Sl):∃t:T3,bH t=none/\dX (eo5 f b0 b1 (.own (xs.map hD)) (.dat (.int (k:Int))) s4)=some (.nx (eo5 f b0 b1 (.own ((xs++[t]).map hD)) (.dat (.int (k:Int))) s4)):=by
 have m:e2 cV (eC (.int 3)) (ah 3) (eo5 f b0 b1 (.own (xs.map hD)) (.dat (.int (k:Int))) s4)=some (.int (3*(k:Int))):=bg (x:=.int 3) (y:=.int (k:Int)) rfl rfl (rP KE)
 have at_:∀j:Nat,j<4->e2 ixD (ah 0) (e2 bR (e2 cV (eC (.int 3)) (ah 3)) (eC (.int (j:Int)))) (eo5 f b0 b1 (.own (xs.map hD)) (.dat (.int (k:Int))) s4)=some (.int (f (3*k+j))):=λj hj=>by
  rw[sZ (x:=(.lst (iL (bX f 25)))) (y:=.int ((3*k+j:Nat):Int)) rfl ((sZ (x:=.int (3*(k:Int))) (y:=.int (j:Int)) m rfl).trans (by show some (D.int _)=_;rw[show(3*(k:Int)+(j:Int))=((3*k+j:Nat):Int) by lia]))];exact zB f 25 _ KM
 have a1:e2 ixD (ah 0) (e2 bR (e2 cV (eC (.int 3)) (ah 3)) Vy) _=some (.int (f (3*k+1))):=at_ 1 KE;have a2:e2 ixD (ah 0) (e2 bR (e2 cV (eC (.int 3)) (ah 3)) (eC (.int 2))) _=some (.int (f (3*k+2))):=at_ 2 KE;have a3:e2 ixD (ah 0) (e2 bR (e2 cV (eC (.int 3)) (ah 3)) (eC (.int 3))) _=some (.int (f (3*k+3))):=at_ 3 KE;unfold d6 at hb0 hb1;refine⟨(b0+f (3*k+1)%11-5,b1+f (3*k+2)%11-5,1+f (3*k+3)%5),Fe KM KM KM,?_⟩;unfold dX;refine(tR (ds:=xs.map hD) (d:=hD (b0+f (3*k+1)%11-5,b1+f (3*k+2)%11-5,1+f (3*k+3)%5)) ?_ rfl (by simp;lia)).trans ?_
 ·refine dO (aX (bg (bg rfl (bg a1 rfl rfl) rfl) rfl rfl) (aX (bg (bg rfl (bg a2 rfl rfl) rfl) rfl rfl) (aX (bg rfl (bg a3 rfl rfl) rfl) rfl))) (show 3<=1000 by decide)
 ·rw[K7]
  rfl
theorem op1(k:Nat)(hk:k<6)(cs:List Int)(hc:Cl cs)(hz:cs.length<1000)(s2:Sl):∃cs':List Int,Cl cs'/\cs'.length<=cs.length+1/\dW (eo5 f b0 b1 s2 (.dat (.int (k:Int))) (.own (iL cs)))=some (.nx (eo5 f b0 b1 s2 (.dat (.int (k:Int))) (.own (iL cs')))):=by
 have a1:e2 ba (e2 ixD (ah 0) (e2 bR (eC (.int 16)) (ah 3))) (eC (.int 24)) (eo5 f b0 b1 s2 (.dat (.int (k:Int))) (.own (iL cs)))=some (.int (f (16+k)%24)):=
  bg (bg (y:=.int ((16+k:Nat):Int)) rfl (bg rfl rfl (by show some (D.int (16+(k:Int)))=_;rw[show(16+(k:Int))=((16+k:Nat):Int) by lia])) (zB f 25 _ KM)) rfl rfl
 have ci:aG (inD true) (e2 ba (e2 ixD (ah 0) (e2 bR (eC (.int 16)) (ah 3))) (eC (.int 24))) (ah 4) (eo5 f b0 b1 s2 (.dat (.int (k:Int))) (.own (iL cs)))=some (!inK cs (f (16+k)%24)):=kg (y:=.lst (iL cs)) a1 rfl (by show(oY (iL cs)).bind _=_;rw[uF];rfl);unfold dW;cases hb:inK cs (f (16+k)%24) with
 |true=>
  rw[hb] at ci;exact⟨cs,hc,by lia,(iS ci).trans rfl⟩
 |false=>
  rw[hb] at ci;refine⟨cs++[f (16+k)%24],hc.snoc hb KM,by simp,(iq ci).trans ((tR (ds:=iL cs) (d:=.int (f (16+k)%24)) a1 rfl (by simp;lia)).trans ?_)⟩;rw[show iL (cs++[f (16+k)%24])=iL cs++[.int (f (16+k)%24)] by simp[iL]];rfl
include hf hb0 hb1 in
theorem op2(k:Nat)(hk:k<20)(xs:List T3)(hz:xs.length<1000)(s4:Sl):∃t:T3,bH t=none/\cQ (eo5 f b0 b1 (.own (xs.map hD)) (.dat (.int (k:Int))) s4)=some (.nx (eo5 f b0 b1 (.own ((xs++[t]).map hD)) (.dat (.int (k:Int))) s4)):=by
 have m1:e2 cV (eC (.int 10)) (ah 3) (eo5 f b0 b1 (.own (xs.map hD)) (.dat (.int (k:Int))) s4)=some (.int (10*(k:Int))):=bg (x:=.int 10) (y:=.int (k:Int)) rfl rfl (rP KE);have m2:e2 cV (eC (.int 11)) (ah 3) (eo5 f b0 b1 (.own (xs.map hD)) (.dat (.int (k:Int))) s4)=some (.int (11*(k:Int))):=bg (x:=.int 11) (y:=.int (k:Int)) rfl rfl (rP KE);unfold d6 at hb0 hb1;refine⟨(b0+(10*(k:Int)+f 22)%27-13,b1+(11*(k:Int)+f 23)%27-13,1+(k:Int)%5),Fe KM KM KM,?_⟩;unfold cQ;refine(tR (ds:=xs.map hD) (d:=hD (b0+(10*(k:Int)+f 22)%27-13,b1+(11*(k:Int)+f 23)%27-13,1+(k:Int)%5)) ?_ rfl (by simp;lia)).trans ?_
 ·refine dO (aX (bg (bg rfl (bg (bg m1 rfl rfl) rfl rfl) rfl) rfl rfl) (aX (bg (bg rfl (bg (bg m2 rfl rfl) rfl rfl) rfl) rfl rfl) (aX rfl rfl))) (show 3<=1000 by decide)
 ·rw[K7]
  rfl
include hf hb0 hb1 in
theorem yr:∃(xs:List T3) (cs:List Int),cE [.lst (iL (bX f 25)),.tup [.int b0,.int b1]]=some (.tup [.lst (xs.map hD),.lst (iL cs)])/\Hs xs/\xs.length<=20/\Cl cs/\cs.length<=24:=by
 have key:∃(xs:List T3) (cs:List Int),eg (eo5 f b0 b1 .un .un .un)=some (.rt (.tup [.lst (xs.map hD),.lst (iL cs)]))/\Hs xs/\xs.length<=20/\Cl cs/\cs.length<=24:=by
  unfold eg;have f0:=hf 0
  obtain⟨ε1,e1,xs1,t1,rfl,h1,l1⟩:=lJ (g:=ao 3) (gb:=dX) (λn ε=>∃(xs:List T3) (t:Sl),ε=eo5 f b0 b1 (.own (xs.map hD)) t .un/\Hs xs/\xs.length<=n) (fX (f 0%6).toNat) 0 (λi d hd ε hP=>by
   obtain⟨xs,t,rfl,hx,hl⟩:=hP;obtain⟨rfl,hi⟩:=nO hd;obtain⟨u,hu,eu⟩:=op0 f hf b0 b1 hb0 hb1 i KM xs KM .un
   exact⟨_,_,rfl,.inl eu,xs++[u],_,rfl,hx.snoc hu,by rw[QI,Zf];lia⟩) (eo5 f b0 b1 (.own []) .un .un) ⟨[],.un,rfl,λt ht=>(by cases ht),Qm _⟩
  have r1:(fX (f 0%6).toNat).length=(f 0%6).toNat:=by simp[fX]
  rw[r1] at l1
  obtain⟨ε2,e2',cs2,t2,rfl,h2,l2⟩:=lJ (g:=ao 3) (gb:=dW) (λn ε=>∃(cs:List Int) (t:Sl),ε=eo5 f b0 b1 (.own (xs1.map hD)) t (.own (iL cs))/\Cl cs/\cs.length<=n) (fX (f 0/6%6).toNat) 0 (λi d hd ε hP=>by
   obtain⟨cs,t,rfl,hc,hl⟩:=hP;obtain⟨rfl,hi⟩:=nO hd;obtain⟨cs',hc',hl',eu⟩:=op1 f b0 b1 i KM cs hc KM (.own (xs1.map hD))
   exact⟨_,_,rfl,.inl eu,cs',_,rfl,hc',by lia⟩) (eo5 f b0 b1 (.own (xs1.map hD)) t1 (.own [])) ⟨[],t1,rfl,⟨KC,λt ht=>(by cases ht)⟩,Qm _⟩
  have r2:(fX (f 0/6%6).toNat).length=(f 0/6%6).toNat:=by simp[fX]
  rw[r2] at l2
  obtain⟨cs3,e3,h3,l3⟩:∃cs:List Int,sIf (aG cH (e2 ba (e2 ixD (ah 0) (eC (.int 24))) (eC (.int 9))) Vy) (nF 4 (eLC (iG (eC (.int 24))) 1 [0] (ao 0) ig (e2 ba (e2 bR (e2 cV (eC (.int 7)) (ah 0)) (e2 ixD (ah 1) (eC (.int 23)))) (eC (.int 24))))) bj (eo5 f b0 b1 (.own (xs1.map hD)) t2 (.own (iL cs2)))=some (.nx (eo5 f b0 b1 (.own (xs1.map hD)) t2 (.own (iL cs))))/\Cl cs/\cs.length<=24:=by
   by_cases c:f 24%9=1
   ·refine⟨qj (f 23),?_,(wq _).1,Nat.le_of_eq (wq _).2⟩
    rw[lK (f 24%9=1) rfl c];refine(uN (ds:=iL (qj (f 23))) (rm (ds:=fX 24) rfl (by simp[fX]) ?_)).trans rfl
    have:=oj (α:=Nat) (g:=ao 0) (fe:=e2 ba (e2 bR (e2 cV (eC (.int 7)) (ah 0)) (e2 ixD (ah 1) (eC (.int 23)))) (eC (.int 24))) (λε=>∃t,ε=[t,.dat (.lst (iL (bX f 25)))]) (λi:Nat=>D.int (i:Int)) (λi:Nat=>D.int ((7*(i:Int)+f 23)%24)) (QU 24) (λi _ ε hP=>by
     obtain⟨t,rfl⟩:=hP
     exact⟨_,rfl,⟨_,rfl⟩,bg (bg (bg (x:=.int 7) (y:=.int (i:Int)) rfl rfl (rP KE)) rfl rfl) rfl rfl⟩) [.un,.dat (.lst (iL (bX f 25)))] ⟨_,rfl⟩
    have e24:iL (qj (f 23))=(QU 24).map (λi:Nat=>D.int ((7*(i:Int)+f 23)%24)):=by unfold qj iL;rw[List.map_map];rfl
    rw[e24];exact this
   ·refine⟨cs2,?_,h2,by lia⟩
    rw[gX (f 24%9=1) rfl c];rfl
  obtain⟨xs4,t4,e4,h4,l4⟩:∃(xs:List T3) (t:Sl),sIf (aG ltI (e2 ba (e2 ixD (ah 0) (eC (.int 24))) (eC (.int 9))) (eC (.int 2))) (iX (iG (e2 h9 (eC (.int 20)) (aY dJ (ah 2)))) (ao 3) cQ) bj (eo5 f b0 b1 (.own (xs1.map hD)) t2 (.own (iL cs3)))=some (.nx (eo5 f b0 b1 (.own (xs.map hD)) t (.own (iL cs3))))/\Hs xs/\xs.length<=20:=by
   by_cases c:f 24%9<2
   ·rw[lK (f 24%9<2) rfl c]
    have lx:xs1.length<=5:=by lia
    obtain⟨ε5,e5,xs5,t5,rfl,h5,l5⟩:=lJ (g:=ao 3) (gb:=cQ) (λn ε=>∃(xs:List T3) (t:Sl),ε=eo5 f b0 b1 (.own (xs.map hD)) t (.own (iL cs3))/\Hs xs/\xs.length<=xs1.length+n) (fX (20-(xs1.length:Int)).toNat) 0 (λi d hd ε hP=>by
     obtain⟨xs,t,rfl,hx,hl⟩:=hP;obtain⟨rfl,hi⟩:=nO hd;obtain⟨u,hu,eu⟩:=op2 f hf b0 b1 hb0 hb1 i KM xs KM (.own (iL cs3))
     exact⟨_,_,rfl,.inl eu,xs++[u],_,rfl,hx.snoc hu,by rw[QI,Zf];lia⟩) (eo5 f b0 b1 (.own (xs1.map hD)) t2 (.own (iL cs3))) ⟨xs1,t2,rfl,h1,Qm _⟩
    have r5:(fX (20-(xs1.length:Int)).toNat).length=(20-(xs1.length:Int)).toNat:=by simp[fX]
    rw[r5] at l5;refine⟨xs5,t5,(cq (j7 (j:=20-(xs1.length:Int)) ?_ KM KM)).trans e5,h5,by lia⟩;show some (D.int (20-(((xs1.map hD).length:Nat):Int)))=_;rw[Qt]
   ·exact⟨xs1,t2,by rw[gX (f 24%9<2) rfl c];rfl,h1,by lia⟩
  refine⟨xs4,cs3,?_,h4,l4,h3,l3⟩;refine(ax (ε':=eo5 f b0 b1 (.own []) .un .un) rfl).trans ?_;refine(ax ((cq (j7 (j:=f 0%6) rfl KM KM)).trans e1)).trans ?_;refine(ax (ε':=eo5 f b0 b1 (.own (xs1.map hD)) t1 (.own [])) rfl).trans ?_;refine(ax ((cq (j7 (j:=f 0/6%6) rfl KM KM)).trans e2')).trans ?_;refine(ax e3).trans ((ax e4).trans ?_);rfl
 obtain⟨xs,cs,e,h⟩:=key;exact⟨xs,cs,b9 rfl e,h⟩
end
theorem Ap{xs:List T3}{cs:List Int}(h1:Hs xs)(l1:xs.length<=20)(h2:Cl cs)(l2:cs.length<=24):dB [.lst (xs.map hD),.lst (iL cs)]=some (.inl .non):=by
 rw[Dm,decide_eq_false (by lia:¬ 20<xs.length),decide_eq_false (by lia:¬ 24<cs.length),nk h1,zU h2];rfl
theorem EV(T:BT)(h:T.deeds.length<60):b8 [bw T]=some (.inl .non):=by
 refine sC (ε:=[.dat (bw T)]) rfl ?_;show sIf _ _ _ _=_;rw[gX ((60:Int)<=(T.deeds.length:Int)) rfl KM];rfl
theorem jT{C:Addr}{m:Str}{F:List D->Option Dn.Out}{fa:Ev->Option D}{g:Ev->Option (List D)}{ε:Ev}{fs:List (Str×D)}{ds:List D}{r:Dn.Out}(h1:fa ε=some (.rcd (some C) fs))(h2:g ε=some ds)(h3:fs.lookup m=none)(h4:F (.rcd (some C) fs::ds)=some r):cv C m F fa g ε=some r:=by
 unfold cv;rw[h1,h2];show(if C=C/\fs.lookup m=none then F (.rcd (some C) fs::ds) else none)=_;rw[if_pos ⟨rfl,h3⟩];exact h4
theorem jU{C:Addr}{m:Str}{F:List D->Option D}{fa:Ev->Option D}{g:Ev->Option (List D)}{ε:Ev}{fs:List (Str×D)}{ds:List D}{r:D}(h1:fa ε=some (.rcd (some C) fs))(h2:g ε=some ds)(h3:fs.lookup m=none)(h4:F (.rcd (some C) fs::ds)=some r):gA C m F fa g ε=some r:=by
 unfold gA;rw[h1,h2];show(if C=C/\fs.lookup m=none then F (.rcd (some C) fs::ds) else none)=_;rw[if_pos ⟨rfl,h3⟩];exact h4
theorem yw{T:BT}{ε:Ev}(h0:aj 0 ε=some (bw T))(h:T.deeds.length<60):mW (cv ar "check_room" b8 (aj 0) aF) ε=some (.nx ε):=by
 have e:cv ar "check_room" b8 (aj 0) aF ε=some (.inl .non):=jT h0 rfl rfl (EV T h);unfold mW;rw[e];rfl
theorem Dp(T:BT)(h:T.deeds.length<60)(hh:T.hour<24):∃ε,qD [.dat (bw T),.un,.un,.un,.un,.un,.un]=some (.nx ε):=by
 refine⟨[.dat (bw T),.un,.un,.un,.un,.un,.un],?_⟩;unfold qD;refine(ax (yw rfl h)).trans ?_;rw[ax (ε':=[.dat (bw T),.un,.un,.un,.un,.un,.un]) (by rw[gX ((24:Int)<=T.hour) rfl KM];rfl)];rfl
theorem Gc(T:BT)(h:T.deeds.length<60)(a b c d e g x y:Int)(gb:pY a b c d e g=true)(h0:T.hour<x)(h1:0<=x/\x<=y/\y<=24):∃ε,vk [.dat (bw T),.dat (bx6 a b c d e g),.dat (.int x),.dat (.int y)]=some (.nx ε):=by
 refine⟨[.dat (bw T),.dat (bx6 a b c d e g),.dat (.int x),.dat (.int y)],?_⟩;unfold vk;refine(ax (yw rfl h)).trans ?_
 have e1:fS (!pY a b c d e g) T.hour x y=none:=by
  unfold fS;rw[gb];have c1:(!(decide (0<=x)&&decide (x<=24)))=false:=by simp;lia
  have c2:(!(decide (x<=y)&&decide (y<=24)))=false:=by simp;lia
  have c3:decide (x<=T.hour)=false:=decide_eq_false KM;simp[c1,c2,c3]
 have e2:mW (mh eB (aa (aY (eJ ar "hour") (aj 0)) (aa (aj 1) (aa (aj 2) (aa (aj 3) aF))))) [.dat (bw T),.dat (bx6 a b c d e g),.dat (.int x),.dat (.int y)]=some (.nx [.dat (bw T),.dat (bx6 a b c d e g),.dat (.int x),.dat (.int y)]):=by
  have:mh eB (aa (aY (eJ ar "hour") (aj 0)) (aa (aj 1) (aa (aj 2) (aa (aj 3) aF)))) [.dat (bw T),.dat (bx6 a b c d e g),.dat (.int x),.dat (.int y)]=some (.inl .non):=by
   show eB [.int T.hour,bx6 a b c d e g,.int x,.int y]=_;rw[uY,e1];rfl
  unfold mW;rw[this];rfl
 rw[ax e2];rfl
theorem wa(q:Bln):ki [.str q.n,.int q.h,stD q]=some (fj q):=by rfl
noncomputable def AY(s p:Int):Bool:=!((decide (0<=s)&&decide (s<=6))&&(decide (0<=p)&&decide (p<=6)))
noncomputable def fSt(x y z s p:Int):Option Str:=if nT x y=true then some "BadPlace" else if yd z=true then some "BadHeight" else if AY s p=true then some "BadLoad" else none
noncomputable abbrev st5(x y z s p:Int):D:=.tup [.int x,.int y,.int z,.int s,.int p]
theorem CH(x y z s p:Int):jF [st5 x y z s p]=some (IB (fSt x y z s p)):=by
 have st:∀{r:Fl},aQ (sXe fq (aa (aj 1) (aa (aj 2) aF))) (aQ (sXe gK (aa (aj 3) aF)) (sIf (b_ (cI (gw leI leI Vw (ah 4) (eC (.int 6))) (gw leI leI Vw (ah 5) (eC (.int 6))))) (cx "BadLoad") bj)) [.dat (st5 x y z s p),.dat (.int x),.dat (.int y),.dat (.int z),.dat (.int s),.dat (.int p)]=some r->mB (bG mn [st5 x y z s p])=some r:=λ{r} e=>(ax (ε':=[.dat (st5 x y z s p),.dat (.int x),.dat (.int y),.dat (.int z),.dat (.int s),.dat (.int p)]) rfl).trans e;unfold fSt;have hp:=vN x y;cases c1:nT x y with
 |true=>
  rw[c1] at hp;exact lF rfl (st (dU (lQ rfl hp)))
 |false=>
  rw[c1] at hp;have n1:=e_ (g:=aa (aj 1) (aa (aj 2) aF)) (ε:=[.dat (st5 x y z s p),.dat (.int x),.dat (.int y),.dat (.int z),.dat (.int s),.dat (.int p)]) rfl hp;have hh:=Aq z;cases c2:yd z with
  |true=>
   rw[c2] at hh;exact lF rfl (st ((ax n1).trans (dU (lQ rfl hh))))
  |false=>
   rw[c2] at hh;have n2:=e_ (g:=aa (aj 3) aF) (ε:=[.dat (st5 x y z s p),.dat (.int x),.dat (.int y),.dat (.int z),.dat (.int s),.dat (.int p)]) rfl hh
   have t:b_ (cI (gw leI leI Vw (ah 4) (eC (.int 6))) (gw leI leI Vw (ah 5) (eC (.int 6)))) [.dat (st5 x y z s p),.dat (.int x),.dat (.int y),.dat (.int z),.dat (.int s),.dat (.int p)]=some (AY s p):=by
    unfold b_ cI;rw[zQ (a:=0) (b:=s) (c:=6) rfl rfl rfl];unfold AY;cases(decide (0<=s)&&decide (s<=6)) with
    |true=>
     show((gw leI leI Vw (ah 5) (eC (.int 6))) _).map _=_;rw[zQ (a:=0) (b:=p) (c:=6) rfl rfl rfl];rfl
    |false=>rfl
   cases c3:AY s p with
   |true=>
    rw[c3] at t;refine lF rfl (st ((ax n1).trans ((ax n2).trans ?_)));unfold sIf;rw[t];rfl
   |false=>
    rw[c3] at t;refine sC (ε:=[.dat (st5 x y z s p),.dat (.int x),.dat (.int y),.dat (.int z),.dat (.int s),.dat (.int p)]) rfl (st ((ax n1).trans ((ax n2).trans ?_)));unfold sIf;rw[t];rfl
theorem bA{f:Ev->Option Bool}{g g':Ev->Option Fl}{ε:Ev}{b:Bool}(h:f ε=some b):sIf f g g' ε=if b=true then g ε else g' ε:=by unfold sIf;rw[h];rfl
theorem wt{f g:Ev->Option Bool}{ε:Ev}{a b:Bool}(h1:f ε=some a)(h2:g ε=some b):iY f g ε=some (a || b):=by
 unfold iY;rw[h1];cases a with
 |true=>rfl
 |false=>exact h2
theorem C5(x y z s p:Int):eE [st5 x y z s p]=some (.str ((fSt x y z s p).getD "")):=by
 refine b9 rfl ?_
 have t1:cZ (aL iQ (aa (e2 ixD (ah 0) Vw) (aa (e2 ixD (ah 0) Vy) aF))) [.dat (st5 x y z s p)]=some (nT x y):=by
  show((iQ [.int x,.int y]).bind _)=_;rw[HQ];rfl
 have t2:iY (aG ltI (e2 ixD (ah 0) (eC (.int 2))) Vw) (aG gtI (e2 ixD (ah 0) (eC (.int 2))) (eC (.int 5))) [.dat (st5 x y z s p)]=some (yd z):=by
  rw[wt (a:=decide (z<0)) (b:=decide (5<z)) rfl rfl,zg 0 5 z];rfl
 have t3:iY (aG ltI (aL (pZ mnI) (aa (mY (ah 0) (bf (eC (.int 3))) dC) aF)) Vw) (aG gtI (aL (pZ mxI) (aa (mY (ah 0) (bf (eC (.int 3))) dC) aF)) (eC (.int 6))) [.dat (st5 x y z s p)]=some (AY s p):=by
  rw[wt (a:=decide (Hj s p<0)) (b:=decide (6<Hy s p)) rfl rfl,GA 0 6 s p];rfl
 unfold fSt;show aQ _ _ _=_;cases c1:nT x y with
 |true=>
  rw[c1] at t1;exact cC ((bA t1).trans rfl)
 |false=>
  rw[c1] at t1;refine(ax (ε':=[.dat (st5 x y z s p)]) ((bA t1).trans rfl)).trans ?_;cases c2:yd z with
  |true=>
   rw[c2] at t2;exact cC ((bA t2).trans rfl)
  |false=>
   rw[c2] at t2;refine(ax (ε':=[.dat (st5 x y z s p)]) ((bA t2).trans rfl)).trans ?_;cases c3:AY s p with
   |true=>
    rw[c3] at t3;exact cC ((bA t3).trans rfl)
   |false=>
    rw[c3] at t3;refine(ax (ε':=[.dat (st5 x y z s p)]) ((bA t3).trans rfl)).trans ?_;rfl
noncomputable def okL(n:Str):Bool:=n.cps.toList.all λc=>!(ZJ ("abcdefghijklmnopqrstuvwxyz" : Str) ⟨#[c]⟩ 0 ("abcdefghijklmnopqrstuvwxyz" : Str).length 1).isEmpty
theorem zC{α:Type}(f:α->Bool):∀xs:List α,kH (xs.map λx=>D.bl (f x))=some (xs.map f)
 |[]=>rfl
 |x::xs=>by
  show kH (D.bl (f x)::xs.map λx=>D.bl (f x))=_;unfold kH;rw[zC f xs];rfl
theorem Cv{j:Nat}{ε:Ev}{n:Str}(h:aj j ε=some (.str n))(l:n.cps.toList.length<1000000):aL mz (aa (eF (eLC (rJ (aj j)) 1 [] (ao 0) ig (e2 (inS false) (ah 0) (eC (.str "abcdefghijklmnopqrstuvwxyz"))))) aF) ε=some (.bl (okL n)):=by
 have e1:rJ (aj j) ε=some (yC n):=by unfold rJ;rw[h]
 have e2':eLC (rJ (aj j)) 1 [] (ao 0) ig (e2 (inS false) (ah 0) (eC (.str "abcdefghijklmnopqrstuvwxyz"))) ε=some (n.cps.toList.map λc=>D.bl (!(ZJ ("abcdefghijklmnopqrstuvwxyz" : Str) ⟨#[c]⟩ 0 ("abcdefghijklmnopqrstuvwxyz" : Str).length 1).isEmpty)):=by
  refine rm e1 (by unfold yC;rw[Qt];exact l) ?_;unfold yC;exact oj (λε=>∃t,ε=[t]) (λc=>D.str ⟨#[c]⟩) _ _ (λc _ ε ⟨t,ht⟩=>by subst ht;exact⟨_,rfl,⟨_,rfl⟩,rfl⟩) _ ⟨_,rfl⟩
 have e3:aa (eF (eLC (rJ (aj j)) 1 [] (ao 0) ig (e2 (inS false) (ah 0) (eC (.str "abcdefghijklmnopqrstuvwxyz"))))) aF ε=some [.lst (n.cps.toList.map λc=>D.bl (!(ZJ ("abcdefghijklmnopqrstuvwxyz" : Str) ⟨#[c]⟩ 0 ("abcdefghijklmnopqrstuvwxyz" : Str).length 1).isEmpty))]:=aX (jc e2') rfl;unfold aL;rw[e3];show(kH _).bind _=_;rw[zC];unfold okL;show some (D.bl (List.all (List.map _ _) id))=_;rw[List.all_map];rfl
noncomputable def wx(n:Str):Bool:=!(decide ((1:Int)<=n.length)&&decide ((n.length:Int)<=6)) || !okL n
theorem ug{j:Nat}{ε:Ev}{n:Str}(h:aj j ε=some (.str n))(l:n.length<=1000):aY mx (aj j) ε=some (.int n.length):=by
 unfold aY;rw[h];show(if n.length<=1000 then some (D.int n.length) else none)=_;rw[if_pos l]
theorem IQ{n:Str}(l:n.length<=1000):n.cps.toList.length<1000000:=by
 rw[Zw];have:n.cps.size<=1000:=l;omega
theorem tX{f:Ev->Option D}{ε:Ev}{b:Bool}(h:f ε=some (.bl b)):b_ (cZ f) ε=some (!b):=by
 unfold b_ cZ;rw[h];rfl
theorem Es(n:Str)(l:n.length<=1000):ka [.str n]=some (if wx n=true then .inr ("BadName",[]) else .inl .non):=by
 have t:iY (b_ (gw leI leI Vy (aY mx (aj 0)) (eC (.int 6)))) (b_ (cZ (aL mz (aa (eF (eLC (rJ (aj 0)) 1 [] (ao 0) ig (e2 (inS false) (ah 0) (eC (.str "abcdefghijklmnopqrstuvwxyz"))))) aF)))) [.dat (.str n)]=some (wx n):=by
  refine wt ?_ (tX (Cv rfl (IQ l)));unfold b_;rw[zQ (a:=1) (b:=n.length) (c:=6) rfl (ug rfl l) rfl];rfl
 cases c:wx n with
 |true=>rw[c] at t;exact lF rfl ((bA t).trans rfl)
 |false=>rw[c] at t;exact sC (ε:=[.dat (.str n)]) rfl ((bA t).trans rfl)
theorem CP{j:Nat}{ε:Ev}{n:Str}(h:aj j ε=some (.str n))(l:n.length<=1000):iY (aG ltI (aY mx (aj j)) Vy) (iY (aG gtI (aY mx (aj j)) (eC (.int 6))) (b_ (cZ (aL mz (aa (eF (eLC (rJ (aj j)) 1 [] (ao 0) ig (e2 (inS false) (ah 0) (eC (.str "abcdefghijklmnopqrstuvwxyz"))))) aF))))) ε=some (wx n):=by
 have e1:aG ltI (aY mx (aj j)) Vy ε=some (decide ((n.length:Int)<1)):=by
  unfold aG;rw[Dn.bg (ug h l) rfl rfl];rfl
 have e2:aG gtI (aY mx (aj j)) (eC (.int 6)) ε=some (decide ((6:Int)<n.length)):=by
  unfold aG;rw[Dn.bg (ug h l) rfl rfl];rfl
 rw[wt e1 (wt e2 (tX (Cv h (IQ l)))),<-Bool.or_assoc,zg 1 6];rfl
noncomputable def nmD(ls:List Bln):List D:=ls.map λq=>D.str q.n
theorem vA(T:BT)(ls:List Bln)(h:T.bal=ls.map fj)(l:ls.length<1000):eI [bw T]=some (.lst (nmD ls)):=by
 refine b9 rfl ?_
 have e:eF (eLC (gW (aY (eJ ar "balloons") (aj 0))) 1 [] (ao 0) ig (aY (eJ aV "name") (aj 0))) [.dat (bw T)]=some (.lst (nmD ls)):=by
  refine jc (rm (ds:=ls.map fj) ?_ (by rw[Qt];lia) ?_)
  ·show some T.bal=_
   rw[h]
  ·exact oj (λε=>∃t,ε=[t]) fj (λq=>D.str q.n) ls (λq _ ε ⟨t,ht⟩=>by subst ht;exact⟨_,rfl,⟨_,rfl⟩,rfl⟩) _ ⟨_,rfl⟩
 unfold nK bo;show(eF _ [.dat (bw T)]).map _=_;rw[e];rfl
theorem zm:∀ls:List Bln,oY (nmD ls)=some (ls.map λq=>V.str q.n)
 |[]=>rfl
 |q::ls=>by show(oY (nmD ls)).bind _=_;rw[zm ls];rfl
noncomputable def eqN(n:Str)(q:Bln):Bool:=decide (q.n=n)
theorem D3(n:Str)(ls:List Bln):inV (.str n) (ls.map λq=>V.str q.n)=ls.any (eqN n):=by
 unfold inV;rw[List.any_map];rfl
theorem Ik(n:Str)(ls:List Bln):inD false (.str n) (.lst (nmD ls))=some (.bl (ls.any (eqN n))):=by
 show(oY (nmD ls)).bind _=_;rw[zm];show some (D.bl (inV (.str n) _))=_;rw[D3]
theorem xF{α:Type}(f:α->D)(xs:List α)(i:Nat)(x:α)(h:xs[i]?=some x):ixD (.lst (xs.map f)) (.int (i:Int))=some (f x):=by
 obtain⟨lt,e⟩:=QH.mp h;show atI (xs.map f) (i:Int)=_;unfold atI ixN;simp[lt,e]
theorem yZ(U:BT)(ls:List Bln)(n:Str)(h:U.bal=ls.map gv)(l:ls.length<1000):∃d,cM [bZ U,.str n]=some d/\((ls.any (eqN n)=true/\∃i:Int,d=.int i)\/(ls.any (eqN n)=false/\d=.non)):=by
 have key:∀(rest:List Bln) (k:Nat) (t:Sl),ls.drop k=rest->(rest.any (eqN n)=true/\∃i:Int,cz (ao 2) bK ((List.range' k rest.length).map λi:Nat=>D.int (i:Int)) [.dat (bZ U),.dat (.str n),t]=some (.rt (.int i)))\/(rest.any (eqN n)=false/\∃t',cz (ao 2) bK ((List.range' k rest.length).map λi:Nat=>D.int (i:Int)) [.dat (bZ U),.dat (.str n),t]=some (.nx [.dat (bZ U),.dat (.str n),t'])):=by
  intro rest
  induction rest with
  |nil=>intro k t _;exact .inr ⟨rfl,t,rfl⟩
  |cons q rest ih=>
   intro k t hd
   have hk:ls[k]?=some q:=by
    have:=congrArg (λl:List Bln=>l[0]?) hd;simpa using this
   have hd':ls.drop (k+1)=rest:=by
    have:=congrArg List.tail hd;simpa using this
   have tst:aG cH (e2 ixD (e2 ixD (aY (fR "fleet") (aj 0)) (ah 2)) Vw) (ah 1) [.dat (bZ U),.dat (.str n),.dat (.int (k:Int))]=some (decide (q.n=n)):=by
    have f1:aY (fR "fleet") (aj 0) [.dat (bZ U),.dat (.str n),.dat (.int (k:Int))]=some (.lst (ls.map gv)):=by show some (D.lst U.bal)=_;rw[h]
    unfold aG;rw[bg (bg (bg f1 rfl (xF gv ls k q hk)) rfl rfl) rfl rfl];rfl
   have b0:∀r,bK [.dat (bZ U),.dat (.str n),.dat (.int (k:Int))]=r->bK [.dat (bZ U),.dat (.str n),.dat (.int (k:Int))]=r:=λ_ z=>z
   by_cases z:q.n=n
   ·refine .inl ⟨by simp[eqN,z],(k:Int),?_⟩
    have e:bK [.dat (bZ U),.dat (.str n),.dat (.int (k:Int))]=some (.rt (.int (k:Int))):=(bA tst).trans (by rw[decide_eq_true z];rfl);show cz _ _ (D.int (k:Int)::_) _=_;unfold cz;show(bK [.dat (bZ U),.dat (.str n),.dat (.int (k:Int))]).bind _=_;rw[e];rfl
   ·have e:bK [.dat (bZ U),.dat (.str n),.dat (.int (k:Int))]=some (.nx [.dat (bZ U),.dat (.str n),.dat (.int (k:Int))]):=(bA tst).trans (by rw[decide_eq_false z];rfl)
    have st:cz (ao 2) bK ((List.range' k (q::rest).length).map λi:Nat=>D.int (i:Int)) [.dat (bZ U),.dat (.str n),t]=cz (ao 2) bK ((List.range' (k+1) rest.length).map λi:Nat=>D.int (i:Int)) [.dat (bZ U),.dat (.str n),.dat (.int (k:Int))]:=by
     show cz _ _ (D.int (k:Int)::_) _=_
     conv=>lhs;unfold cz
     show(bK [.dat (bZ U),.dat (.str n),.dat (.int (k:Int))]).bind _=_;rw[e];rfl
    rw[st];have a:(q::rest).any (eqN n)=rest.any (eqN n):=by simp[eqN,z]
    rw[a];exact ih (k+1) _ hd'
 have rg:iG (aY dJ (aY (fR "fleet") (aj 0))) [.dat (bZ U),.dat (.str n),.un]=some ((List.range' 0 ls.length).map λi:Nat=>D.int (i:Int)):=by
  rw[j7 (j:=(ls.length:Int)) (by show some (D.int ((U.bal.length:Nat):Int))=_;rw[h,Qt]) KM KM,KA,<-List.range_eq_range'];rfl
 rcases key ls 0 .un rfl with⟨a,i,e⟩ | ⟨a,t',e⟩
 ·exact⟨.int i,b9 rfl (cC ((cq rg).trans e)),.inl ⟨a,i,rfl⟩⟩
 ·exact⟨.non,b9 rfl ((ax ((cq rg).trans e)).trans rfl),.inr ⟨a,rfl⟩⟩
noncomputable def lf(ls:List Bln)(n:Str)(x y z s p:Int)(w:Str):Option (Str×List (Str×D)):=if ls.length=6 then some ("Full",[]) else if wx n=true then some ("BadName",[]) else if ls.any (eqN n)=true then some ("Taken",[]) else match fSt x y z s p with
 |some c=>some (c,[])
 |none=>if w = "" then none else some ("Stopped",[("at",.int 0),("why",.str w)])
noncomputable abbrev eL(T:BT)(n:Str)(x y z s p:Int)(t:Sl):Ev:=[.dat (bw T),.dat (.str n),.dat (st5 x y z s p),t]
theorem Fm{F:List D->Option Dn.Out}{g:Ev->Option (List D)}{ε:Ev}{ds:List D}{d:D}(h1:g ε=some ds)(h2:F ds=some (.inl d)):mW (mh F g) ε=some (.nx ε):=by
 unfold mW mh;rw[h1];show((F ds).bind _)=_;rw[h2];rfl
theorem E_{F:List D->Option Dn.Out}{g:Ev->Option (List D)}{ε:Ev}{ds:List D}{c:Str}{fs:List (Str×D)}(h1:g ε=some ds)(h2:F ds=some (.inr (c,fs))):mW (mh F g) ε=some (.xc c fs):=by
 unfold mW mh;rw[h1];show((F ds).bind _)=_;rw[h2];rfl
theorem BZ(T:BT)(ls:List Bln)(n:Str)(x y z s p:Int)(w:Str)(hb:T.bal=ls.map fj)(l6:ls.length<=6)(ld:T.deeds.length<60)(ln:n.length<=1000)(sm:oS w=true)(hw:cy [j6 T,.int T.hour,st5 x y z s p]=some (.str w)) :
  ∃ε,nZ (eL T n x y z s p .un)=some (match lf ls n x y z s p w with | some (c,fs)=>.xc c fs | none=>.nx ε):=by
 refine⟨eL T n x y z s p (.dat (.str w)),?_⟩;unfold nZ lf;refine(ax (yw rfl ld)).trans ?_
 have t2:aG geI (aY dJ (aY (eJ ar "balloons") (aj 0))) (eC (.int 6)) (eL T n x y z s p .un)=some (decide ((6:Int)<=(ls.length:Int))):=by
  show some (decide ((6:Int)<=(T.bal.length:Int)))=_;rw[hb,Qt]
 by_cases c0:ls.length=6
 ·rw[if_pos c0]
  exact dU ((bA t2).trans (by rw[decide_eq_true KM];rfl))
 rw[if_neg c0];refine(ax ((bA t2).trans (by rw[decide_eq_false KM];rfl))).trans ?_;have hn:=Es n ln;cases c1:wx n with
 |true=>
  rw[c1] at hn;exact dU (E_ rfl hn)
 |false=>
 rw[c1] at hn;refine(ax (Fm rfl hn)).trans ?_
 have t4:aG (inD false) (ah 1) (gA ar "names" eI (aj 0) aF) (eL T n x y z s p .un)=some (ls.any (eqN n)):=by
  unfold aG;rw[bg (x:=.str n) rfl (jU rfl rfl rfl (vA T ls hb KM)) (Ik n ls)];rfl
 cases c2:ls.any (eqN n) with
 |true=>
  rw[c2] at t4;exact dU ((bA t4).trans rfl)
 |false=>
 rw[c2] at t4;refine(ax ((bA t4).trans rfl)).trans ?_;have hs:=CH x y z s p;cases c3:fSt x y z s p with
 |some c=>
  rw[c3] at hs;exact dU (E_ rfl hs)
 |none=>
 rw[c3] at hs;refine(ax (Fm rfl hs)).trans ?_
 have e6:aL cy (aa (gA ar "sky" fY (aj 0) aF) (aa (aY (eJ ar "hour") (aj 0)) (aa (aj 2) aF))) (eL T n x y z s p .un)=some (.str w):=by
  have a:aa (gA ar "sky" fY (aj 0) aF) (aa (aY (eJ ar "hour") (aj 0)) (aa (aj 2) aF)) (eL T n x y z s p .un)=some [j6 T,.int T.hour,st5 x y z s p]:=aX (jU rfl rfl rfl (xB T)) rfl;unfold aL;rw[a];exact hw
 refine(ax (dR e6)).trans ?_;have t7:aG me (ah 3) (eC (.str "")) (eL T n x y z s p (.dat (.str w)))=some (!decide (w = "")):=rfl
 by_cases c4:w = ""
 ·rw[if_pos c4]
  exact(ax ((bA t7).trans (by rw[decide_eq_true c4];rfl))).trans rfl
 ·rw[if_neg c4]
  refine dU ((bA t7).trans ?_);rw[decide_eq_false c4];show uj "Stopped" jb (aa Vw (aa (aj 3) aF)) (eL T n x y z s p (.dat (.str w)))=_
  have:jb [.int 0,.str w]=some [(("at" : Str),D.int 0),(("why" : Str),D.str w)]:=by
   show(if(t9 0&&oS w)=true then _ else none)=_;rw[sm];rfl
  show(jb [.int 0,.str w]).map _=_;rw[this];rfl
noncomputable def FP(o:Option (Str×List (Str×D))):D:=match o with
 |none=>.tup []
 |some (c,[(_,a),(_,b)])=>.tup [.str "no",.str c,a,b]
 |some (c,_)=>.tup [.str "no",.str c]
noncomputable abbrev cL(n:Str)(x y z s p:Int):D:=.tup [.str "launch",.str n,st5 x y z s p]
noncomputable abbrev eV(U:BT)(n:Str)(x y z s p:Int)(t5 t6:Sl):Ev:=[.dat (bZ U),.dat (cL n x y z s p),.dat (.str "launch"),.dat (.str n),.dat (st5 x y z s p),t5,t6]
theorem BC(U:BT)(ls:List Bln)(n:Str)(x y z s p:Int)(w:Str)(hb:U.bal=ls.map gv)(l6:ls.length<=6)(ln:n.length<=1000)(hw:cP [j6 U,.int U.hour,st5 x y z s p]=some (.str w)) :
  gy [bZ U,cL n x y z s p]=some (FP (lf ls n x y z s p w)):=by
 refine b9 rfl ?_;unfold oJ lf;refine(ax (ε':=eV U n x y z s p .un .un) rfl).trans ?_
 have t2:aG cH (aY dJ (aY (fR "fleet") (aj 0))) (eC (.int 6)) (eV U n x y z s p .un .un)=some (decide ((ls.length:Int)=6)):=by
  show some (decide ((U.bal.length:Int)=6))=_;rw[hb,Qt]
 by_cases c0:ls.length=6
 ·rw[if_pos c0]
  exact cC ((bA t2).trans (by rw[decide_eq_true KM];rfl))
 rw[if_neg c0];refine(ax ((bA t2).trans (by rw[decide_eq_false KM];rfl))).trans ?_;have t3:=CP (j:=3) (ε:=eV U n x y z s p .un .un) (n:=n) rfl ln;cases c1:wx n with
 |true=>
  rw[c1] at t3;exact cC ((bA t3).trans rfl)
 |false=>
 rw[c1] at t3;refine(ax ((bA t3).trans rfl)).trans ?_;obtain⟨d,ed,hd⟩:=yZ U ls n hb KM
 have t4:aG (isD true) (aL cM (aa (aj 0) (aa (aj 3) aF))) (eC .non) (eV U n x y z s p .un .un)=some (ls.any (eqN n)):=by
  have a:aL cM (aa (aj 0) (aa (aj 3) aF)) (eV U n x y z s p .un .un)=some d:=(nu (x:=bZ U) (y:=.str n) rfl rfl).trans ed;unfold aG e2;rw[a];rcases hd with⟨b,i,rfl⟩ | ⟨b,rfl⟩<;>rw[b]<;>rfl
 cases c2:ls.any (eqN n) with
 |true=>
  rw[c2] at t4;exact cC ((bA t4).trans rfl)
 |false=>
 rw[c2] at t4;refine(ax ((bA t4).trans rfl)).trans ?_;have e5:aL eE (aa (aj 4) aF) (eV U n x y z s p .un .un)=some (.str ((fSt x y z s p).getD "")):=(nC (x:=st5 x y z s p) rfl).trans (C5 x y z s p);refine(ax (dR e5)).trans ?_;have t5:aG me (ah 5) (eC (.str "")) (eV U n x y z s p (.dat (.str ((fSt x y z s p).getD ""))) .un)=some (!decide ((fSt x y z s p).getD "" = "")):=rfl;cases c3:fSt x y z s p with
 |some c=>
  rw[c3] at t5
  have ne:c≠"":=by
   unfold fSt at c3;intro z;subst z;split at c3
   ·cases c3
   ·split at c3
    ·cases c3
    ·split at c3<;>cases c3
  exact cC ((bA t5).trans (by rw[show decide ((some c).getD "" = "")=false from decide_eq_false ne];rfl))
 |none=>
 rw[c3] at t5;refine(ax ((bA t5).trans rfl)).trans ?_
 have e6:aL cP (aa (aL dZ (aa (aj 0) aF)) (aa (aY (fR "hour") (aj 0)) (aa (aj 4) aF))) (eV U n x y z s p (.dat (.str "")) .un)=some (.str w):=by
  have a:aa (aL dZ (aa (aj 0) aF)) (aa (aY (fR "hour") (aj 0)) (aa (aj 4) aF)) (eV U n x y z s p (.dat (.str "")) .un)=some [j6 U,.int U.hour,st5 x y z s p]:=aX ((nC (x:=bZ U) rfl).trans (xE U)) rfl;show(aa (aL dZ (aa (aj 0) aF)) (aa (aY (fR "hour") (aj 0)) (aa (aj 4) aF)) (eV U n x y z s p (.dat (.str "")) .un)).bind cP=_;rw[a];exact hw
 refine(ax (dR e6)).trans ?_;have t7:aG me (ah 6) (eC (.str "")) (eV U n x y z s p (.dat (.str "")) (.dat (.str w)))=some (!decide (w = "")):=rfl
 by_cases c4:w = ""
 ·rw[if_pos c4]
  exact(ax ((bA t7).trans (by rw[decide_eq_true c4];rfl))).trans rfl
 ·rw[if_neg c4]
  exact cC ((bA t7).trans (by rw[decide_eq_false c4];rfl))
theorem Dq{ls:List Bln}{n:Str}{x y z s p:Int}{w c:Str}{fs:List (Str×D)}(h:lf ls n x y z s p w=some (c,fs)):Told c fs (FP (some (c,fs))):=by
 unfold lf at h;split at h
 ·cases h;exact Told.nm (j:=18) KE
 ·split at h
  ·cases h;exact Told.nm (j:=0) KE
  ·split at h
   ·cases h;exact Told.nm (j:=1) KE
   ·split at h
    ·rename_i c' e
     cases h;unfold fSt at e;split at e
     ·cases e;exact Told.nm (j:=6) KE
     ·split at e
      ·cases e;exact Told.nm (j:=7) KE
      ·split at e
       ·cases e;exact Told.nm (j:=8) KE
       ·cases e
    ·split at h
     ·cases h
     ·cases h;exact Told.st
theorem xT{Rel:Nat->BT->BT->Prop}{k:Nat}{T U:BT}{ls:List Bln}{n:Str}{x y z s p:Int}{w:Str}(hb:T.bal=ls.map fj)(hu:U.bal=ls.map gv)(hh:U.hour=T.hour)(hdd:U.deeds.length=T.deeds.length)(l6:ls.length<=6)(ld:T.deeds.length<60)(ln:n.length<=1000)(sm:oS w=true)
  (hw:cy [j6 T,.int T.hour,st5 x y z s p]=some (.str w)) (hw':cP [j6 U,.int U.hour,st5 x y z s p]=some (.str w))
  (ok:lf ls n x y z s p w=none->Rel (k+1) { T with bal:=T.bal++[fj ⟨n,T.hour,x,y,z,s,p⟩],deeds:=T.deeds++[.tup ([.str "launch",.str n]++[.int x,.int y,.int z,.int s,.int p])] } { U with bal:=U.bal++[gv ⟨n,U.hour,x,y,z,s,p⟩],deeds:=U.deeds++[.tup [.str "launch",.str n,.int x,.int y,.int z,.int s,.int p]] }) :
  ∃fl,gy [bZ U,cL n x y z s p]=some fl/\Res Rel k T U (cL n x y z s p) fl:=by
 refine⟨_,BC U ls n x y z s p w hu l6 ln hw',?_⟩;obtain⟨ε,e⟩:=BZ T ls n x y z s p w hb l6 ld ln sm hw;cases c:lf ls n x y z s p w with
 |none=>
  rw[c] at e;exact .ok (.launch (by simp) (by simp) e λ_=>wa ⟨n,T.hour,x,y,z,s,p⟩) .launch (by simp[hdd]) (ok c)
 |some r=>
  obtain⟨c',fs⟩:=r;rw[c] at e;exact .no (.launch (bd:=.non) (by simp) (by simp) e λ⟨_,z⟩=>by cases z) (Dq c)
noncomputable def lt(i:Int):Str:=match ixS (.str "abcdefghijklmnopqrstuvwxyz") (.int i) with | some (.str y)=>y | _=>""
theorem Bt(i:Int)(h0:0<=i)(h1:i<26):ixS (.str "abcdefghijklmnopqrstuvwxyz") (.int i)=some (.str (lt i))/\(lt i).length=1:=by
 have l:("abcdefghijklmnopqrstuvwxyz" : Str).cps.toList.length=26:=by decide +kernel
 obtain⟨c,_,e⟩:=kU ("abcdefghijklmnopqrstuvwxyz" : Str).cps.toList i h0 (by rw[l];exact h1)
 have k:ixS (.str "abcdefghijklmnopqrstuvwxyz") (.int i)=some (.str ⟨#[c]⟩):=by
  show(if("abcdefghijklmnopqrstuvwxyz" : Str).length<=1000 then(atI ("abcdefghijklmnopqrstuvwxyz" : Str).cps.toList i).map (λc=>D.str ⟨#[c]⟩) else none)=_;rw[if_pos (by decide +kernel),e];rfl
 have k2:lt i=⟨#[c]⟩:=by unfold lt;rw[k]
 rw[k2];exact⟨k,rfl⟩
theorem sr:∀ys:List Str,oW (ys.map D.str)=some ys
 |[]=>rfl
 |y::ys=>by show(oW (ys.map D.str)).map _=_;rw[sr ys];rfl
noncomputable def One(ys:List Str):Prop:=ys.length<=6/\∀y∈ys,y.length=1
theorem One.sum:∀{ys:List Str},(∀y∈ys,y.length=1)->(ys.map (·.length)).sum=ys.length
 |[],_=>rfl
 |y::ys,h=>by
  rw[Q3,List.sum_cons,h y QD,One.sum λz hz=>h z (Qv _ hz),QM]
  lia
theorem One.join{ys:List Str}(h:One ys):∃n:Str,lB "" (.lst (ys.map D.str))=some (.str n)/\n.length<=1000:=by
 have t:(ys.toArray.foldl (· + ·.length+("" : Str).length) 0)<=6:=by
  rw[StrLaws.joinTotal,One.sum h.2];have:("" : Str).length=0:=rfl;rw[this];have:=h.1
  lia
 have j:JoinOk "" ys=true:=by
  unfold JoinOk;rw[K9];have six:6<Qk:=by decide
  exact decide_eq_false KM
 refine⟨Txt.join "" ys,?_,?_⟩
 ·show(oW (ys.map D.str)).bind _=_
  rw[sr];show(if JoinOk "" ys=true then _ else _)=_;rw[if_pos j]
 ·show(Builtin.Str.glued "" ys).length<=_
  rw[StrLaws.glued_eq_join];have:=StrLaws.join_length_le "" ys;rw[One.sum h.2] at this;have z:("" : Str).length=0:=rfl;rw[z] at this;have:=h.1
  lia
theorem One.put{ys:List Str}{i:Nat}{y:Str}(h:One ys)(hy:y.length=1):One (ys.set i y):=⟨by rw[ZC];exact h.1,λz hz=>(List.mem_or_eq_of_mem_set hz).elim (h.2 z) λe=>by rw[e];exact hy⟩
theorem wI{g:D->Ev->Option Ev}{gb:Ev->Option Fl}(I:Ev->Prop)(R:D->Prop):∀(ds:List D),(∀d∈ds,∀ε,I ε->∃ε1,g d ε=some ε1/\((∃r,gb ε1=some (.rt r)/\R r)\/∃ε2,gb ε1=some (.nx ε2)/\I ε2))->
  ∀ε,I ε->(∃r,cz g gb ds ε=some (.rt r)/\R r)\/∃ε',cz g gb ds ε=some (.nx ε')/\I ε'
 |[],_,ε,i=>.inr ⟨ε,rfl,i⟩
 |d::ds,st,ε,i=>by
  obtain⟨ε1,e1,z⟩:=st d QD ε i;rcases z with⟨r,e2,hr⟩ | ⟨ε2,e2,i2⟩
  ·refine .inl ⟨r,?_,hr⟩
   show(g d ε).bind _=_;rw[e1];show(gb ε1).bind _=_;rw[e2];rfl
  ·have h:cz g gb (d::ds) ε=cz g gb ds ε2:=by
    show(g d ε).bind _=_;rw[e1];show(gb ε1).bind _=_;rw[e2];rfl
   rw[h];exact wI I R ds (λy hy=>st y (Qv _ hy)) ε2 i2
section
variable(U:BT)(ls:List Bln)(hb:U.bal=ls.map gv)(l:ls.length<1000)(f:Nat->Int)(hf:∀j,0<=f j)
noncomputable abbrev eN(f:Nat->Int)(U:BT)(m:Int)(a:Nat)(ys:List Str)(t:Sl):Ev:=[.dat (.lst (iL (bX f 5))),.dat (bZ U),.dat (.str "abcdefghijklmnopqrstuvwxyz"),.dat (.int m),.dat (.int (a:Int)),.own (ys.map D.str),t]
include hb l hf in
theorem Em(m:Int)(a:Nat)(k:Int)(hk:0<=k)(ys:List Str)(h1:One ys)(ha:a<ys.length):(∃r,d8 (eN f U m a ys (.dat (.int k)))=some (.rt r)/\∃n:Str,r=.str n/\n.length<=1000)\/∃ys',d8 (eN f U m a ys (.dat (.int k)))=some (.nx (eN f U m a ys' (.dat (.int k))))/\One ys'/\ys'.length=ys.length:=by
 have c:=Bt ((f 3+k)%26) KM KM;have v:e2 ixS (ah 2) (e2 ba (e2 bR (e2 ixD (ah 0) (eC (.int 3))) (ah 6)) (eC (.int 26))) (eN f U m a ys (.dat (.int k)))=some (.str (lt ((f 3+k)%26))):=bg (x:=.str "abcdefghijklmnopqrstuvwxyz") (y:=.int ((f 3+k)%26)) rfl rfl c.1
 have p:kG 5 (ah 4) (e2 ixS (ah 2) (e2 ba (e2 bR (e2 ixD (ah 0) (eC (.int 3))) (ah 6)) (eC (.int 26)))) (eN f U m a ys (.dat (.int k)))=some (.nx (eN f U m a (ys.set a (lt ((f 3+k)%26))) (.dat (.int k)))):=by
  rw[qA (m:=a) (ds:=ys.map D.str) v rfl rfl (by rw[Qt];exact ha),<-List.map_set];rfl
 have o:One (ys.set a (lt ((f 3+k)%26))):=h1.put c.2;obtain⟨n,en,ln⟩:=o.join;have j:aY (lB "") (ah 5) (eN f U m a (ys.set a (lt ((f 3+k)%26))) (.dat (.int k)))=some (.str n):=uB rfl en;obtain⟨d,ed,hd⟩:=yZ U ls n hb l;have sp:aL cM (aa (aj 1) (aa (aY (lB "") (ah 5)) aF)) (eN f U m a (ys.set a (lt ((f 3+k)%26))) (.dat (.int k)))=some d:=(nu (x:=bZ U) rfl j).trans ed;have ls':(ys.set a (lt ((f 3+k)%26))).length=ys.length:=ZC;generalize ys.set a (lt ((f 3+k)%26))=ys' at p o j sp ls';rcases hd with⟨_,i,rfl⟩ | ⟨_,rfl⟩
 ·refine .inr ⟨ys',(ax p).trans ?_,o,ls'⟩
  have t:aG (isD false) (aL cM (aa (aj 1) (aa (aY (lB "") (ah 5)) aF))) (eC .non) (eN f U m a ys' (.dat (.int k)))=some false:=kg sp rfl rfl;exact(bA t).trans rfl
 ·refine .inl ⟨.str n,(ax p).trans ?_,n,rfl,ln⟩
  have t:aG (isD false) (aL cM (aa (aj 1) (aa (aY (lB "") (ah 5)) aF))) (eC .non) (eN f U m a ys' (.dat (.int k)))=some true:=kg sp rfl rfl;exact(bA t).trans (fF j)
include hb l hf in
theorem Bn:∃n:Str,jk [.lst (iL (bX f 5)),bZ U]=some (.str n)/\n.length<=1000:=by
 have f0:=hf 0;have f1:=hf 1;have f2:=hf 2;have f4:=hf 4;obtain⟨m,em⟩:∃m:Nat,1+f 0%6=(m:Int):=⟨(1+f 0%6).toNat,by lia⟩;have m1:1<=m/\m<=6:=by lia
 have am:0<=f 1%(m:Int)/\f 1%(m:Int)<m:=⟨Int.emod_nonneg _ KM,Vv _ KM⟩;obtain⟨a,ea⟩:∃a:Nat,f 1%(m:Int)=(a:Int):=⟨(f 1%(m:Int)).toNat,by lia⟩
 have s2:bW 3 (e2 bR Vy (e2 ba (e2 ixD (ah 0) Vw) (eC (.int 6)))) [.dat (.lst (iL (bX f 5))),.dat (bZ U),.dat (.str "abcdefghijklmnopqrstuvwxyz"),.un,.un,.un,.un]=some (.nx [.dat (.lst (iL (bX f 5))),.dat (bZ U),.dat (.str "abcdefghijklmnopqrstuvwxyz"),.dat (.int (m:Int)),.un,.un,.un]):=by
  rw[<-em];rfl
 have s3:bW 4 (e2 ba (e2 ixD (ah 0) Vy) (ah 3)) [.dat (.lst (iL (bX f 5))),.dat (bZ U),.dat (.str "abcdefghijklmnopqrstuvwxyz"),.dat (.int (m:Int)),.un,.un,.un]=some (.nx [.dat (.lst (iL (bX f 5))),.dat (bZ U),.dat (.str "abcdefghijklmnopqrstuvwxyz"),.dat (.int (m:Int)),.dat (.int (a:Int)),.un,.un]):=by
  rw[dR (bg (x:=.int (f 1)) (y:=.int (m:Int)) rfl rfl (HX KM)),ea];rfl
 have hy:∀i:Nat,0<=(f 2+f 4%3*(i:Int))%26/\(f 2+f 4%3*(i:Int))%26<26:=λi=>⟨Int.emod_nonneg _ KM,Vv _ KM⟩
 have s4:nF 5 (eLC (iG (aj 3)) 1 [2,0] (ao 0) ig (e2 ixS (ah 1) (e2 ba (e2 bR (e2 ixD (ah 2) (eC (.int 2))) (e2 cV (e2 ba (e2 ixD (ah 2) (eC (.int 4))) (eC (.int 3))) (ah 0))) (eC (.int 26))))) [.dat (.lst (iL (bX f 5))),.dat (bZ U),.dat (.str "abcdefghijklmnopqrstuvwxyz"),.dat (.int (m:Int)),.dat (.int (a:Int)),.un,.un]=some (.nx (eN f U m a ((QU m).map λi:Nat=>lt ((f 2+f 4%3*(i:Int))%26)) .un)):=by
  refine(uN (ds:=(QU m).map λi:Nat=>D.str (lt ((f 2+f 4%3*(i:Int))%26))) (rm (ds:=fX m) ?_ (by simp[fX];lia) ?_)).trans ?_
  ·rw[j7 (j:=(m:Int)) rfl KM KM,KA]
  ·exact oj (α:=Nat) (λε=>∃t,ε=[t,.dat (.str "abcdefghijklmnopqrstuvwxyz"),.dat (.lst (iL (bX f 5)))]) (λi:Nat=>D.int (i:Int)) (λi:Nat=>D.str (lt ((f 2+f 4%3*(i:Int))%26))) (QU m) (λi _ ε ⟨t,ht⟩=>by
    subst ht
    refine⟨_,rfl,⟨_,rfl⟩,bg (x:=.str "abcdefghijklmnopqrstuvwxyz") (y:=.int ((f 2+f 4%3*(i:Int))%26)) rfl (bg (bg rfl (bg (x:=.int (f 4%3)) (y:=.int (i:Int)) rfl rfl (rP KM)) rfl) rfl rfl) (Bt _ (hy i).1 (hy i).2).1⟩) _ ⟨_,rfl⟩
  ·rw[show((QU m).map λi:Nat=>D.str (lt ((f 2+f 4%3*(i:Int))%26)))=((QU m).map λi:Nat=>lt ((f 2+f 4%3*(i:Int))%26)).map D.str by rw[List.map_map];rfl]
   rfl
 have o1:One ((QU m).map λi:Nat=>lt ((f 2+f 4%3*(i:Int))%26)):=⟨by rw[Qt,List.length_range];exact m1.2,λy my=>by
  obtain⟨i,_,rfl⟩:=ZF.mp my
  exact(Bt _ (hy i).1 (hy i).2).2⟩
 have l1:((QU m).map λi:Nat=>lt ((f 2+f 4%3*(i:Int))%26)).length=m:=by rw[Qt,List.length_range]
 generalize (QU m).map (λi:Nat=>lt ((f 2+f 4%3*(i:Int))%26))=ys at s4 o1 l1
 have lp:=wI (g:=ao 6) (gb:=d8) (λε=>∃ys t,ε=eN f U m a ys t/\One ys/\ys.length=m) (λr=>∃n:Str,r=.str n/\n.length<=1000) (fX 8) (λd hd ε ⟨ys,t,e,o,l'⟩=>by
  subst e;obtain⟨i,hi⟩:=List.getElem?_of_mem hd;obtain⟨rfl,_⟩:=nO hi;refine⟨eN f U m a ys (.dat (.int (i:Int))),rfl,?_⟩;rcases Em U ls hb l f hf m a (i:Int) KM ys o KM with z | ⟨ys',e,o',l''⟩
  ·exact .inl z
  ·exact .inr ⟨_,e,ys',_,rfl,o',by lia⟩) (eN f U m a ys .un) ⟨ys,.un,rfl,o1,l1⟩
 have st:∀{r:Fl},aQ (iX (iG (eC (.int 8))) (ao 6) (d8)) (bo (aY (lB "") (ah 5))) (eN f U m a ys .un)=some r->qo (bG pU [.lst (iL (bX f 5)),bZ U])=some r:=λe=>(ax rfl).trans ((ax s2).trans ((ax s3).trans ((ax s4).trans e)));rcases lp with⟨r,e,n,rfl,ln⟩ | ⟨ε',e,ys',t,rfl,o',_⟩
 ·exact⟨n,b9 rfl (st (cC ((cq rfl).trans e))),ln⟩
 ·obtain⟨n,en,ln⟩:=o'.join
  exact⟨n,b9 rfl (st ((ax ((cq rfl).trans e)).trans (fF (uB rfl en)))),ln⟩
end
theorem AF(f:Nat->Int)(b0 b1:Int):∃x y z s p,iB [.lst (iL (bX f 5)),.tup [.int b0,.int b1],.int 6]=some (st5 x y z s p):=⟨_,_,_,_,_,b9 rfl rfl⟩
noncomputable def rS:List D:=[.int (-1),.int 6,.int 7,.int 5,.int 24,.int 25,.int 1000,.int (-1000),.int 3,.int (-999),.int 999,.int 0]
theorem GZ(j:Int)(h0:0<=j)(h1:j<12):∃v,atI rS j=some (.int v):=by
 obtain⟨x,hx,e⟩:=kU rS j h0 (by show j<12;exact h1);unfold rS at hx;simp only[Ql,Qw,or_false] at hx;rcases hx with z | z | z | z | z | z | z | z | z | z | z | z<;>subst z<;>exact⟨_,e⟩
noncomputable abbrev eb(c:D)(d1 d2 d3 d4:Int)(ps:List D)(at_:Int)(s5 s6:Sl):Ev:=[.dat c,.dat (.lst (iL [1,d1,d2,d3,d4])),.own ps,.dat (.int at_),.dat (.lst rS),s5,s6]
theorem AD(c:D)(d1 d2 d3 d4:Int)(ps:List D)(m:Int)(s5 s6:Sl):∃v,e2 ixD (ah 4) (e2 ba (e2 ixD (ah 1) Vy) (eC (.int 12))) (eb c d1 d2 d3 d4 ps m s5 s6)=some (.int v):=by
 obtain⟨v,e⟩:=GZ (d1%12) KM KM;exact⟨v,bg (x:=.lst rS) (y:=.int (d1%12)) rfl rfl e⟩
theorem DL(d1 d2 d3 d4:Int)(n:Str)(x y z s p:Int):∃x' y' z' s' p',ic [cL n x y z s p,.lst (iL [1,d1,d2,d3,d4])]=some (cL n x' y' z' s' p'):=by
 have key:∃x' y' z' s' p',jh (bG jo [cL n x y z s p,.lst (iL [1,d1,d2,d3,d4])])=some (.rt (cL n x' y' z' s' p')):=by
  have st:∀{r:Fl},_=some r->jh (bG jo [cL n x y z s p,.lst (iL [1,d1,d2,d3,d4])])=some r:=λ{r} e'=>
   (ax (ε':=[.dat (cL n x y z s p),.dat (.lst (iL [1,d1,d2,d3,d4])),.own [.str "launch",.str n,st5 x y z s p],.un,.un,.un,.un]) rfl).trans ((ax (ε':=[.dat (cL n x y z s p),.dat (.lst (iL [1,d1,d2,d3,d4])),.own [.str "launch",.str n,st5 x y z s p],.dat (.int 2),.un,.un,.un]) rfl).trans
    ((ax (ε':=eb (cL n x y z s p) d1 d2 d3 d4 [.str "launch",.str n,st5 x y z s p] 2 .un .un) rfl).trans e'))
  have hk:d2%5=0\/d2%5=1\/d2%5=2\/d2%5=3\/d2%5=4:=by lia
  have T:∀(k x' y' z' s' p':Int),d2%5=k->e2 zX (e2 zX (mY (ah 5) dC (bf (ah 6))) (cA (aa (e2 ixD (ah 4) (e2 ba (e2 ixD (ah 1) Vy) (eC (.int 12)))) aF))) (mY (ah 5) (bf (e2 bR (ah 6) Vy)) dC) (eb (cL n x y z s p) d1 d2 d3 d4 [.str "launch",.str n,st5 x y z s p] 2 (.dat (st5 x y z s p)) (.dat (.int k)))=some (st5 x' y' z' s' p')->
    jh (bG jo [cL n x y z s p,.lst (iL [1,d1,d2,d3,d4])])=some (.rt (cL n x' y' z' s' p')):=λk x' y' z' s' p' hk put=>by
   subst hk;exact st ((ax (ε':=eb (cL n x y z s p) d1 d2 d3 d4 [.str "launch",.str n,st5 x y z s p] 2 (.dat (st5 x y z s p)) .un) rfl).trans ((ax rfl).trans ((ax rfl).trans ((ax ((iq rfl).trans ((ax (ε':=eb (cL n x y z s p) d1 d2 d3 d4 [.str "launch",.str n,st5 x y z s p] 2 (.dat (st5 x y z s p)) (.dat (.int (d2%5)))) rfl).trans (qA (m:=2) put rfl rfl (by simp))))).trans rfl))))
  have V:=AD (cL n x y z s p) d1 d2 d3 d4 [.str "launch",.str n,st5 x y z s p] 2 (.dat (st5 x y z s p));rcases hk with hk | hk | hk | hk | hk
  ·obtain⟨v,hv⟩:=V (.dat (.int 0))
   exact⟨v,y,z,s,p,T 0 v y z s p hk (bg (bg rfl (dO (aX hv rfl) (by simp)) rfl) rfl rfl)⟩
  ·obtain⟨v,hv⟩:=V (.dat (.int 1))
   exact⟨x,v,z,s,p,T 1 x v z s p hk (bg (bg rfl (dO (aX hv rfl) (by simp)) rfl) rfl rfl)⟩
  ·obtain⟨v,hv⟩:=V (.dat (.int 2))
   exact⟨x,y,v,s,p,T 2 x y v s p hk (bg (bg rfl (dO (aX hv rfl) (by simp)) rfl) rfl rfl)⟩
  ·obtain⟨v,hv⟩:=V (.dat (.int 3))
   exact⟨x,y,z,v,p,T 3 x y z v p hk (bg (bg rfl (dO (aX hv rfl) (by simp)) rfl) rfl rfl)⟩
  ·obtain⟨v,hv⟩:=V (.dat (.int 4))
   exact⟨x,y,z,s,v,T 4 x y z s v hk (bg (bg rfl (dO (aX hv rfl) (by simp)) rfl) rfl rfl)⟩
 obtain⟨x',y',z',s',p',w⟩:=key;exact⟨x',y',z',s',p',b9 rfl w⟩
noncomputable abbrev Dg:List D:=[.str "",.str "A",.str "abcdefg",.str "a b",.str "a1",.str "a-",.str "abcdef"]
theorem Iq(j:Int)(h0:0<=j)(h1:j<7):∃n:Str,atI Dg j=some (.str n)/\n.length<=1000:=by
 obtain⟨x,hx,e⟩:=kU Dg j h0 (by show j<7;exact h1);simp only[Ql,Qw,or_false] at hx;rcases hx with z | z | z | z | z | z | z<;>subst z<;>exact⟨_,e,by decide +kernel⟩
section
variable(U:BT)(ls:List Bln)(hb:U.bal=ls.map gv)(l:ls.length<1000)(hl:∀q∈ls,q.n.length<=1000)(f:Nat->Int)(hf:∀j,0<=f j)(b0 b1:Int)
noncomputable abbrev eC5(f:Nat->Int)(U:BT)(b0 b1:Int)(s3 s4:Sl):Ev:=[.dat (.lst (iL (bX f 25))),.dat (bZ U),.dat (.tup [.int b0,.int b1]),s3,s4]
theorem CD{s3 s4:Sl}(a n:Nat)(h:a+n<=25):eF (eSl (ah 0) (bf (eC (.int (a:Int)))) (bf (eC (.int ((a+n:Nat):Int))))) (eC5 f U b0 b1 s3 s4)=some (.lst (iL (bX (λj=>f (a+j)) n))):=by
 refine jc ?_;show some (Dn.kI (iL (bX f 25)) (some (a:Int)) (some ((a+n:Nat):Int)))=_;rw[oy f 25 a n h]
theorem FQ(a:Nat)(ha:a+4<=25)(t:Ev->Option Bool)(n:Str)(x y z s p:Int)(s3:Sl)(ht:∃b,t (eC5 f U b0 b1 s3 (.dat (cL n x y z s p)))=some b):∃x' y' z' s' p',sIf t (bW 4 (aL ic (aa (aj 4) (aa (eF (r8 (eF (iI (aa Vy aF))) (eF (eSl (ah 0) (bf (eC (.int (a:Int)))) (bf (eC (.int ((a+4:Nat):Int)))))))) aF)))) bj (eC5 f U b0 b1 s3 (.dat (cL n x y z s p)))=some (.nx (eC5 f U b0 b1 s3 (.dat (cL n x' y' z' s' p')))):=by
 obtain⟨b,eb⟩:=ht;cases b with
 |false=>exact⟨x,y,z,s,p,(bA eb).trans rfl⟩
 |true=>
  obtain⟨x',y',z',s',p',e⟩:=DL (f (a+0)) (f (a+1)) (f (a+2)) (f (a+3)) n x y z s p;refine⟨x',y',z',s',p',(bA eb).trans ?_⟩;show bW 4 _ _=_;have c:=CD U f b0 b1 (s3:=s3) (s4:=.dat (cL n x y z s p)) a 4 ha
  have k:eF (r8 (eF (iI (aa Vy aF))) (eF (eSl (ah 0) (bf (eC (.int (a:Int)))) (bf (eC (.int ((a+4:Nat):Int))))))) (eC5 f U b0 b1 s3 (.dat (cL n x y z s p)))=some (.lst (iL [1,f (a+0),f (a+1),f (a+2),f (a+3)])):=by
   refine jc ?_;unfold r8;rw[c];rfl
  exact(dR ((nu (x:=cL n x y z s p) rfl k).trans e)).trans rfl
include hb l hl hf in
theorem D_:∃n x y z s p,lq [.lst (iL (bX f 25)),bZ U,.tup [.int b0,.int b1]]=some (cL n x y z s p)/\n.length<=1000:=by
 obtain⟨n1,e1,l1⟩:=Bn U ls hb l (λj=>f (6+j)) λj=>hf (6+j);have s1:bW 3 (aL jk (aa (eF (eSl (ah 0) (bf (eC (.int 6))) (bf (eC (.int 11))))) (aa (aj 1) aF))) (eC5 f U b0 b1 .un .un)=some (.nx (eC5 f U b0 b1 (.dat (.str n1)) .un)):=(dR ((nu (y:=bZ U) (CD U f b0 b1 6 5 KE) rfl).trans e1)).trans rfl
 obtain⟨n2,s2,l2⟩:∃n2:Str,sIf (aG cH (e2 ba (e2 ixD (ah 0) Vw) (eC (.int 4))) Vy) (bW 3 (e2 ixD (eF (iI (aa (eC (.str "")) (aa (eC (.str "A")) (aa (eC (.str "abcdefg")) (aa (eC (.str "a b")) (aa (eC (.str "a1")) (aa (eC (.str "a-")) (aa (eC (.str "abcdef")) aF))))))))) (e2 ba (e2 ixD (ah 0) (eC (.int 11))) (eC (.int 7))))) bj (eC5 f U b0 b1 (.dat (.str n1)) .un)=some (.nx (eC5 f U b0 b1 (.dat (.str n2)) .un))/\n2.length<=1000:=by
  by_cases c:f 0%4=1
  ·obtain⟨n,e,ln⟩:=Iq (f 11%7) KM KM
   exact⟨n,(lK (f 0%4=1) rfl c).trans ((dR (bg (x:=.lst Dg) (y:=.int (f 11%7)) rfl rfl e)).trans rfl),ln⟩
  ·exact⟨n1,(gX (f 0%4=1) rfl c).trans rfl,l1⟩
 obtain⟨x,y,z,s,p,e3⟩:=AF (λj=>f (1+j)) b0 b1
 have s3:bW 4 (cA (aa (eC (.str "launch")) (aa (aj 3) (aa (aL iB (aa (eF (eSl (ah 0) (bf Vy) (bf (eC (.int 6))))) (aa (aj 2) (aa (eC (.int 6)) aF)))) aF)))) (eC5 f U b0 b1 (.dat (.str n2)) .un)=some (.nx (eC5 f U b0 b1 (.dat (.str n2)) (.dat (cL n2 x y z s p)))):=
  (dR (dO (ds:=[.str "launch",.str n2,st5 x y z s p]) (aX rfl (aX rfl (aX ((B9 (y:=.tup [.int b0,.int b1]) (z:=.int 6) (CD U f b0 b1 1 5 KE) rfl rfl).trans e3) rfl))) (show 3<=1000 by decide))).trans rfl
 obtain⟨x4,y4,z4,t4,p4,s4⟩:=FQ U f b0 b1 13 KE (aG cH (e2 ba (e2 ixD (ah 0) (eC (.int 12))) (eC (.int 3))) Vy) n2 x y z s p (.dat (.str n2)) ⟨_,rfl⟩;obtain⟨x5,y5,z5,t5,p5,s5⟩:=FQ U f b0 b1 17 KE (aG cH (e2 ba (e2 ixD (ah 0) (eC (.int 12))) (eC (.int 9))) (eC (.int 2))) n2 x4 y4 z4 t4 p4 (.dat (.str n2)) ⟨_,rfl⟩;have st:∀{r:Fl},_=some r->pP (bG pR [.lst (iL (bX f 25)),bZ U,.tup [.int b0,.int b1]])=some r:=λ{r} e=>(ax s1).trans ((ax s2).trans ((ax s3).trans ((ax s4).trans ((ax s5).trans e))));have fl:aY (fR "fleet") (aj 1) (eC5 f U b0 b1 (.dat (.str n2)) (.dat (cL n2 x5 y5 z5 t5 p5)))=some (.lst (ls.map gv)):=by show some (D.lst U.bal)=_;rw[hb]
 have ln:aY dJ (aY (fR "fleet") (aj 1)) (eC5 f U b0 b1 (.dat (.str n2)) (.dat (cL n2 x5 y5 z5 t5 p5)))=some (.int (ls.length:Int)):=by
  refine uB fl ?_;show some (D.int (((ls.map gv).length:Nat):Int))=_;rw[Qt]
 have tst:cI (aG cH (e2 ba (e2 ixD (ah 0) (eC (.int 22))) (eC (.int 7))) Vy) (aG gtI (aY dJ (aY (fR "fleet") (aj 1))) Vw) (eC5 f U b0 b1 (.dat (.str n2)) (.dat (cL n2 x5 y5 z5 t5 p5)))=some (decide (f 22%7=1)&&decide (0<(ls.length:Int))):=by
  have a:aG cH (e2 ba (e2 ixD (ah 0) (eC (.int 22))) (eC (.int 7))) Vy (eC5 f U b0 b1 (.dat (.str n2)) (.dat (cL n2 x5 y5 z5 t5 p5)))=some (decide (f 22%7=1)):=rfl;have b:aG gtI (aY dJ (aY (fR "fleet") (aj 1))) Vw (eC5 f U b0 b1 (.dat (.str n2)) (.dat (cL n2 x5 y5 z5 t5 p5)))=some (decide (0<(ls.length:Int))):=kg ln rfl rfl;unfold cI;rw[a,b];cases decide (f 22%7=1)<;>rfl
 by_cases c:0<ls.length
 ·have md:0<=f 23%(ls.length:Int)/\f 23%(ls.length:Int)<ls.length:=⟨Int.emod_nonneg _ KM,Vv _ KM⟩
  obtain⟨k,ek⟩:∃k:Nat,f 23%(ls.length:Int)=(k:Int):=⟨(f 23%(ls.length:Int)).toNat,by lia⟩;have hk:k<ls.length:=by lia
  have e6:bW 4 (cA (aa (e2 ixD (ah 4) Vw) (aa (e2 ixD (e2 ixD (aY (fR "fleet") (aj 1)) (e2 ba (e2 ixD (ah 0) (eC (.int 23))) (aY dJ (aY (fR "fleet") (aj 1))))) Vw) (aa (e2 ixD (ah 4) (eC (.int 2))) aF)))) (eC5 f U b0 b1 (.dat (.str n2)) (.dat (cL n2 x5 y5 z5 t5 p5)))=some (.nx (eC5 f U b0 b1 (.dat (.str n2)) (.dat (cL ls[k].n x5 y5 z5 t5 p5)))):=by
   have mi:e2 ba (e2 ixD (ah 0) (eC (.int 23))) (aY dJ (aY (fR "fleet") (aj 1))) (eC5 f U b0 b1 (.dat (.str n2)) (.dat (cL n2 x5 y5 z5 t5 p5)))=some (.int (k:Int)):=by
    rw[bg (x:=.int (f 23)) (y:=.int (ls.length:Int)) rfl ln (HX KM),ek]
   exact(dR (dO (ds:=[.str "launch",.str ls[k].n,st5 x5 y5 z5 t5 p5]) (aX rfl (aX (bg (x:=gv ls[k]) (y:=.int 0) (bg fl mi (xF gv ls k ls[k] (List.getElem?_eq_getElem hk))) rfl rfl) (aX rfl rfl))) (show 3<=1000 by decide))).trans rfl
  by_cases c7:f 22%7=1
  ·refine⟨ls[k].n,x5,y5,z5,t5,p5,b9 rfl (st ?_),hl _ (List.getElem_mem hk)⟩
   rw[decide_eq_true c7,decide_eq_true (by lia:0<(ls.length:Int))] at tst;exact(ax ((iq tst).trans e6)).trans rfl
  ·refine⟨n2,x5,y5,z5,t5,p5,b9 rfl (st ?_),l2⟩
   rw[decide_eq_false c7] at tst;exact(ax ((iS tst).trans rfl)).trans rfl
 ·refine⟨n2,x5,y5,z5,t5,p5,b9 rfl (st ?_),l2⟩
  rw[decide_eq_false (by lia:¬ 0<(ls.length:Int)),Bool.and_false] at tst;exact(ax ((iS tst).trans rfl)).trans rfl
end
noncomputable def vF(ls:List Bln):Prop:=ls.Pairwise λa b=>a.n≠b.n
theorem vF.uniq{ls:List Bln}(h:vF ls){a b:Bln}(ha:a∈ls)(hb:b∈ls)(e:a.n=b.n):a=b:=by
 induction ls with
 |nil=>cases ha
 |cons q ls ih=>
  obtain⟨h1,h2⟩:=List.pairwise_cons.mp h;rcases Ql.mp ha with za | za
  ·rcases Ql.mp hb with zb | zb
   ·rw[za,zb]
   ·exact absurd (by rw[<-za];exact e) (h1 b zb)
  ·rcases Ql.mp hb with zb | zb
   ·exact absurd (by rw[<-zb];exact e.symm) (h1 a za)
   ·exact ih h2 za zb
theorem Ca{N ps:List Str}{g:Ev->Option Fl}{ds:List D}{d:D}(hl:ds.length=ps.length)(h:g (bG N ds)=some (.rt d)):fnX N ps g ds=some (.inl d):=by unfold fnX;rw[if_pos hl,h]
theorem vj{fx:Ev->Option Dn.Out}{ε:Ev}{d:D}(h:fx ε=some (.inl d)):q_ fx ε=some (.rt d):=by
 unfold q_;rw[h];rfl
theorem zD{C:Addr}{f:Str}{fx:Ev->Option Dn.Out}{ε:Ev}{d r:D}(h:fx ε=some (.inl d))(h2:eJ C f d=some r):As C f fx ε=some (.inl r):=by
 unfold As;rw[h];show(eJ C f d).map _=_;rw[h2];rfl
theorem BB{fx:Ev->Option Dn.Out}{ε:Ev}{d r:D}(h:fx ε=some (.inl d))(h2:toL d=some r):vS fx ε=some (.inl r):=by
 unfold vS;rw[h];show(toL d).map _=_;rw[h2];rfl
theorem EG{i:Nat}{fx:Ev->Option Dn.Out}{ε:Ev}{d:D}(h:fx ε=some (.inl d)):tO i fx ε=some (.nx (ε.set i (.dat d))):=by
 unfold tO;rw[h];rfl
section
variable(T:BT)(ls:List Bln)(hb:T.bal=ls.map fj)(q:Bln)(hq:q∈ls)(ap:vF ls)
include hb hq in
theorem Ax:∃(i:Nat) (u:Bln),cY [bw T,.str q.n]=some (.inl (.int (i:Int)))/\ls[i]?=some u/\u.n=q.n:=by
 have key:∀(rest:List Bln) (k:Nat) (s2 s3:Sl),ls.drop k=rest->(∃u∈rest,u.n=q.n)->∃(i:Nat) (u:Bln),cz (eZ 2 (aD (ao 2) (aD (ao 3) bM))) bz (iZ k (rest.map fj)) [.dat (bw T),.dat (.str q.n),s2,s3]=some (.rt (.int (i:Int)))/\ls[i]?=some u/\u.n=q.n:=by
  intro rest
  induction rest with
  |nil=>intro k s2 s3 _ ⟨u,hu,_⟩;cases hu
  |cons v rest ih=>
   intro k s2 s3 hd ⟨u,hu,eu⟩
   have hk:ls[k]?=some v:=by
    have:=congrArg (λl:List Bln=>l[0]?) hd;simpa using this
   have hd':ls.drop (k+1)=rest:=by
    have:=congrArg List.tail hd;simpa using this
   have tst:aG cH (aY (eJ aV "name") (aj 3)) (ah 1) [.dat (bw T),.dat (.str q.n),.dat (.int (k:Int)),.dat (fj v)]=some (decide (v.n=q.n)):=rfl
   by_cases z:v.n=q.n
   ·refine⟨k,v,?_,hk,z⟩
    have e:bz [.dat (bw T),.dat (.str q.n),.dat (.int (k:Int)),.dat (fj v)]=some (.rt (.int (k:Int))):=(bA tst).trans (by rw[decide_eq_true z];rfl);show cz _ _ (D.tup [.int (k:Int),fj v]::_) _=_;unfold cz;show(bz [.dat (bw T),.dat (.str q.n),.dat (.int (k:Int)),.dat (fj v)]).bind _=_;rw[e];rfl
   ·have e:bz [.dat (bw T),.dat (.str q.n),.dat (.int (k:Int)),.dat (fj v)]=some (.nx [.dat (bw T),.dat (.str q.n),.dat (.int (k:Int)),.dat (fj v)]):=(bA tst).trans (by rw[decide_eq_false z];rfl)
    have st:cz (eZ 2 (aD (ao 2) (aD (ao 3) bM))) bz (iZ k ((v::rest).map fj)) [.dat (bw T),.dat (.str q.n),s2,s3]=cz (eZ 2 (aD (ao 2) (aD (ao 3) bM))) bz (iZ (k+1) (rest.map fj)) [.dat (bw T),.dat (.str q.n),.dat (.int (k:Int)),.dat (fj v)]:=by
     show cz _ _ (D.tup [.int (k:Int),fj v]::_) _=_
     conv=>lhs;unfold cz
     show(bz [.dat (bw T),.dat (.str q.n),.dat (.int (k:Int)),.dat (fj v)]).bind _=_;rw[e];rfl
    rw[st];refine ih (k+1) _ _ hd' ?_;rcases Ql.mp hu with y | y
    ·exact absurd (by rw[<-y];exact eu) z
    ·exact⟨u,y,eu⟩
 obtain⟨i,u,e,h⟩:=key ls 0 .un .un rfl ⟨q,hq,rfl⟩
 have en:qZ (aY (eJ ar "balloons") (aj 0)) [.dat (bw T),.dat (.str q.n),.un,.un]=some (iZ 0 (ls.map fj)):=by
  rw[<-hb];rfl
 exact⟨i,u,Ca rfl (cC ((cq en).trans e)),h⟩
include hb hq ap in
theorem CZ:cS [bw T,.str q.n]=some (.inl (fj q)):=by
 obtain⟨i,u,e,hi,eu⟩:=Ax T ls hb q hq;have uq:u=q:=ap.uniq (Z0 hi) hq eu;subst uq;refine Ca rfl ?_;have x:cv ar "number_of" cY (aj 0) (aa (aj 1) aF) [.dat (bw T),.dat (.str u.n)]=some (.inl (.int (i:Int))):=jT rfl rfl rfl e;have ix:ixD (.lst T.bal) (.int (i:Int))=some (fj u):=by rw[hb];exact xF fj ls i u hi
 have k:xIx (aY (eJ ar "balloons") (aj 0)) (cv ar "number_of" cY (aj 0) (aa (aj 1) aF)) [.dat (bw T),.dat (.str u.n)]=some (.inl (fj u)):=by
  unfold xIx;rw[x];show(ixD (.lst T.bal) (.int (i:Int))).map _=_;rw[ix];rfl
 exact vj k
include hb hq ap in
theorem xV{ε:Ev}{j:Nat}(h0:aj 0 ε=some (bw T))(h1:aj j ε=some (.str q.n)):cv ar "found" cS (aj 0) (aa (aj j) aF) ε=some (.inl (fj q)):=jT h0 (aX h1 rfl) rfl (CZ T ls hb q hq ap)
include hb hq ap in
theorem Az:dG [bw T,.str q.n]=some (.inl (.str "aloft")):=by
 exact Ca rfl (vj (zD (xV T ls hb q hq ap rfl rfl) rfl))
include hb hq ap in
theorem F3:gS [bw T,.str q.n]=some (.inl (.lst [.tup (.int q.h::stL q)])):=by
 exact Ca rfl (vj (BB (zD (xV T ls hb q hq ap rfl rfl) rfl) rfl))
include hb hq ap in
theorem Ak:eX [bw T,.str q.n]=some (.inl (stD q)):=by
 refine Ca rfl ?_;have s1:tO 2 (cv ar "found" cS (aj 0) (aa (aj 1) aF)) [.dat (bw T),.dat (.str q.n),.un]=some (.nx [.dat (bw T),.dat (.str q.n),.dat (fj q)]):=(EG (xV T ls hb q hq ap rfl rfl)).trans rfl;have t:aG (inD true) (aY (eJ aV "fate") (aj 2)) (cA (aa (eC (.str "aloft")) (aa (eC (.str "landed")) aF))) [.dat (bw T),.dat (.str q.n),.dat (fj q)]=some false:=rfl;exact(ax s1).trans ((ax ((bA t).trans rfl)).trans rfl)
end
section
variable(T U:BT)(ls:List Bln)(hb:T.bal=ls.map fj)(hu:U.bal=ls.map gv)(ap:vF ls)(l:ls.length<1000)(e1:U.hills=T.hills)(e2':U.cool=T.cool)(e3:U.hour=T.hour)(e4:U.winds=T.winds)(e5:U.shuts=T.shuts)(e6:U.deeds=T.deeds)(ok:OkS 5 (.tup [.int T.hour,j6 T,.lst T.deeds,.lst (nmD ls)]))
noncomputable abbrev eS(T U:BT)(s3 s4 s5 s6 s7 s8 s9 s10:Sl):Ev:=[.dat (bw T),.dat (bZ U),.dat (.lst U.bal),s3,s4,s5,s6,s7,s8,s9,s10]
theorem HI{F:List D->Option D}{g:Ev->Option (List D)}{ε:Ev}{ds:List D}(h1:g ε=some ds)(h2:F ds=some (.bl true)):b_ (cZ (aL F g)) ε=some false:=tX (kM h1 h2)
include hb ap in
theorem Cp(q:Bln)(hq:q∈ls)(s3 s4:Sl):gR (eS T U s3 s4 (.dat (.str q.n)) (.dat (.str "aloft")) (.dat (stD q)) (.dat (lg q)) (.dat (.int q.h)) (.dat (.tup [])))=some (.nx (eS T U s3 s4 (.dat (.str q.n)) (.dat (.str "aloft")) (.dat (stD q)) (.dat (lg q)) (.dat (.int q.h)) (.dat (.tup [])))):=by
 have ok1:OkS 5 (.tup [.str "aloft",.lst [.tup (.int q.h::stL q)]]):=by simp[OkS,stL]
 have ok2:OkS 5 (stD q):=by simp[OkS,stD,stL]
 have x1:(λε=>noX (cv ar "status" dG (aj 0) (aa (aj 5) aF) ε)) (eS T U s3 s4 (.dat (.str q.n)) (.dat (.str "aloft")) (.dat (stD q)) (.dat (lg q)) (.dat (.int q.h)) (.dat (.tup [])))=some (.str "aloft"):=by
  show noX (cv ar "status" dG (aj 0) (aa (aj 5) aF) _)=_;rw[jT (fs:=_) rfl rfl rfl (Az T ls hb q hq ap)];rfl
 have x2:(λε=>noX (cv ar "log" gS (aj 0) (aa (aj 5) aF) ε)) (eS T U s3 s4 (.dat (.str q.n)) (.dat (.str "aloft")) (.dat (stD q)) (.dat (lg q)) (.dat (.int q.h)) (.dat (.tup [])))=some (.lst [.tup (.int q.h::stL q)]):=by
  show noX (cv ar "log" gS (aj 0) (aa (aj 5) aF) _)=_;rw[jT (fs:=_) rfl rfl rfl (F3 T ls hb q hq ap)];rfl
 have x3:(λε=>noX (cv ar "state" eX (aj 0) (aa (aj 5) aF) ε)) (eS T U s3 s4 (.dat (.str q.n)) (.dat (.str "aloft")) (.dat (stD q)) (.dat (lg q)) (.dat (.int q.h)) (.dat (.tup [])))=some (stD q):=by
  show noX (cv ar "state" eX (aj 0) (aa (aj 5) aF) _)=_;rw[jT (fs:=_) rfl rfl rfl (Ak T ls hb q hq ap)];rfl
 have t1:b_ (cZ (aL cu (aa (cA (aa (λε=>noX (cv ar "status" dG (aj 0) (aa (aj 5) aF) ε)) (aa (λε=>noX (cv ar "log" gS (aj 0) (aa (aj 5) aF) ε)) aF))) (aa (cA (aa (aj 6) (aa (eF (kY (ah 8))) aF))) aF)))) (eS T U s3 s4 (.dat (.str q.n)) (.dat (.str "aloft")) (.dat (stD q)) (.dat (lg q)) (.dat (.int q.h)) (.dat (.tup [])))=some false:=
  HI (aX (dO (aX x1 (aX x2 rfl)) (show 2<=1000 by decide)) (aX (x:=.tup [.str "aloft",.lst [.tup (.int q.h::stL q)]]) rfl rfl)) (rD _ ok1)
 have t2:cI (aG (inD false) (ah 6) (cA (aa (eC (.str "aloft")) (aa (eC (.str "landed")) aF)))) (b_ (cZ (aL cu (aa (λε=>noX (cv ar "state" eX (aj 0) (aa (aj 5) aF) ε)) (aa (aj 7) aF))))) (eS T U s3 s4 (.dat (.str q.n)) (.dat (.str "aloft")) (.dat (stD q)) (.dat (lg q)) (.dat (.int q.h)) (.dat (.tup [])))=some false:=by
  have a:aG (inD false) (ah 6) (cA (aa (eC (.str "aloft")) (aa (eC (.str "landed")) aF))) (eS T U s3 s4 (.dat (.str q.n)) (.dat (.str "aloft")) (.dat (stD q)) (.dat (lg q)) (.dat (.int q.h)) (.dat (.tup [])))=some true:=rfl;unfold cI;rw[a];exact HI (aX x3 (aX (x:=stD q) rfl rfl)) (rD _ ok2)
 have t3:aG cH (ah 6) (eC (.str "lost")) (eS T U s3 s4 (.dat (.str q.n)) (.dat (.str "aloft")) (.dat (stD q)) (.dat (lg q)) (.dat (.int q.h)) (.dat (.tup [])))=some false:=rfl;refine(ax ((bA t1).trans rfl)).trans ((ax ((bA t2).trans rfl)).trans ?_);refine(bA (b:=false) ?_).trans rfl;unfold cI;rw[t3];rfl
include hb hu ap l e1 e2' e3 e4 e5 e6 ok in
theorem Af:fC [bw T,bZ U]=some (.bl true):=by
 refine b9 rfl ?_;have sk:j6 U=j6 T:=by unfold j6;rw[e1,e2',e4,e5]
 have f3:cA (aa (gA ar "now" nr (aj 0) aF) (aa (gA ar "sky" fY (aj 0) aF) (aa (gA ar "done" lz (aj 0) aF) (aa (gA ar "names" eI (aj 0) aF) aF)))) (eS T U .un .un .un .un .un .un .un .un)=some (.tup [.int T.hour,j6 T,.lst T.deeds,.lst (nmD ls)]):=
  dO (aX (jU rfl rfl rfl rfl) (aX (jU rfl rfl rfl (xB T)) (aX (jU rfl rfl rfl rfl) (aX (jU rfl rfl rfl (vA T ls hb l)) rfl)))) (show 4<=1000 by decide)
 have nm:eF (eLC (gW (aj 2)) 1 [] (ao 0) ig (e2 ixD (ah 0) Vw)) (eS T U (.dat (.tup [.int T.hour,j6 T,.lst T.deeds,.lst (nmD ls)])) .un .un .un .un .un .un .un)=some (.lst (nmD ls)):=by
  refine jc (rm (ds:=ls.map gv) (by show some U.bal=_;rw[hu]) (by rw[Qt];lia) ?_);exact oj (λε=>∃t,ε=[t]) gv (λq=>D.str q.n) ls (λq _ ε ⟨t,ht⟩=>by subst ht;exact⟨_,rfl,⟨_,rfl⟩,rfl⟩) _ ⟨_,rfl⟩
 have f4:cA (aa (aY (fR "hour") (aj 1)) (aa (aL dZ (aa (aj 1) aF)) (aa (aY (fR "deeds") (aj 1)) (aa (eF (eLC (gW (aj 2)) 1 [] (ao 0) ig (e2 ixD (ah 0) Vw))) aF)))) (eS T U (.dat (.tup [.int T.hour,j6 T,.lst T.deeds,.lst (nmD ls)])) .un .un .un .un .un .un .un)=some (.tup [.int T.hour,j6 T,.lst T.deeds,.lst (nmD ls)]):=
  dO (aX (by show some (D.int U.hour)=_;rw[e3]) (aX ((nC (x:=bZ U) rfl).trans ((xE U).trans (by rw[sk]))) (aX (by show some (D.lst U.deeds)=_;rw[e6]) (aX nm rfl)))) (show 4<=1000 by decide)
 refine(ax (ε':=eS T U .un .un .un .un .un .un .un .un) rfl).trans ((ax ((dR f3).trans rfl)).trans ((ax ((dR f4).trans rfl)).trans ?_));generalize hD':(D.tup [.int T.hour,j6 T,.lst T.deeds,.lst (nmD ls)])=dd at ok;refine(ax ((bA (HI (ds:=[dd,dd]) rfl (rD _ ok))).trans rfl)).trans ?_
 obtain⟨ε',e,s5,s6,s7,s8,s9,s10,rfl⟩:=Am (g:=eZ 6 (aD (ao 5) (aD (ao 6) (aD (ao 7) (aD (ao 8) (aD (ao 9) (aD (ao 10) bM))))))) (gb:=gR) (λε=>∃s5 s6 s7 s8 s9 s10,ε=eS T U (.dat dd) (.dat dd) s5 s6 s7 s8 s9 s10) (ds:=ls.map gv) (λd hd ε ⟨s5,s6,s7,s8,s9,s10,hε⟩=>by
  subst hε;obtain⟨q,hq,rfl⟩:=ZF.mp hd
  exact⟨_,_,rfl,.inl (Cp T U ls hb ap q hq _ _),_,_,_,_,_,_,rfl⟩) (ε:=eS T U (.dat dd) (.dat dd) .un .un .un .un .un .un) ⟨_,_,_,_,_,_,rfl⟩
 have it:gW (aj 2) (eS T U (.dat dd) (.dat dd) .un .un .un .un .un .un)=some (ls.map gv):=by
  rw[<-hu];rfl
 exact(ax ((cq it).trans e)).trans rfl
end
noncomputable def toH(t:T3):Hl:=⟨t.1,t.2.1,t.2.2⟩
theorem Cg(xs:List T3):xs.map hD=hL (xs.map toH):=by
 unfold hL;rw[List.map_map];rfl
noncomputable abbrev tB(hs:List Hl)(cs:List Int)(hr:Int)(ss:List Sh)(bl ds:List D):BT:=⟨hL hs,iL cs,hr,[],shL ss,bl,ds⟩
structure Rd(hs:List Hl)(cs:List Int)(n:Nat)(hr:Int)(ss:List Sh)(ls:List Bln)(ds:List D):Prop where
 h0:0<=hr
 h1:hr<=n
 s:ss.length<=n
 l2:ls.length<=n-2
 l6:ls.length<=6
 ap:vF ls
 nm:∀q∈ls,q.n.length<=1000
 dl:ds.length<=n
 ok:∀d∈ds,OkS 3 d
noncomputable def Rl(hs:List Hl)(cs:List Int)(n:Nat)(T U:BT):Prop:=∃hr ss ls ds,T=tB hs cs hr ss (ls.map fj) ds/\U=tB hs cs hr ss (ls.map gv) ds/\Rd hs cs n hr ss ls ds
section
variable{hs:List Hl}{cs:List Int}{n:Nat}{T U:BT}
theorem Rl.zero:Rl hs cs 0 (T0 (hL hs) (iL cs)) (T0 (hL hs) (iL cs)):=⟨0,[],[],[],rfl,rfl,by simp,by simp,by simp,by simp,by simp,KC,by simp,by simp,by simp⟩
theorem Rl.up(h:Rl hs cs n T U):Rl hs cs (n+1) T U:=by
 obtain⟨hr,ss,ls,ds,e1,e2,r⟩:=h;have:=r.h1;have:=r.s;have:=r.l2;have:=r.dl;exact⟨hr,ss,ls,ds,e1,e2,r.h0,by lia,by lia,by lia,r.l6,r.ap,r.nm,by lia,r.ok⟩
theorem Rl.few(h:Rl hs cs n T U)(hn:n<=11):Few T/\Few U:=by
 obtain⟨hr,ss,ls,ds,rfl,rfl,r⟩:=h;have:=r.s;have:=r.l6;have:=r.dl;exact⟨⟨by show ds.length<1000;lia,by show(shL ss).length<1000;rw[Qt];lia,by show(ls.map fj).length<1000;rw[Qt];lia⟩,⟨by show ds.length<1000;lia,by show(shL ss).length<1000;rw[Qt];lia,by show(ls.map gv).length<1000;rw[Qt];lia⟩⟩
theorem Rl.stands(h:Rl hs cs n T U)(hn:n<=11)(lh:hs.length<=20)(lc:cs.length<=24):fC [bw T,bZ U]=some (.bl true):=by
 obtain⟨hr,ss,ls,ds,rfl,rfl,r⟩:=h;have:=r.s;have:=r.l6;have:=r.dl;refine Af (tB hs cs hr ss (ls.map fj) ds) (tB hs cs hr ss (ls.map gv) ds) ls rfl rfl r.ap KM rfl rfl rfl rfl rfl rfl ?_;refine⟨by simp,λd hd=>?_⟩;simp only[Ql,Qw,or_false] at hd;rcases hd with z | z | z | z<;>subst z
 ·trivial
 ·refine⟨by simp,λd hd=>?_⟩
  simp only[Ql,Qw,or_false] at hd;rcases hd with z | z | z | z<;>subst z
  ·refine⟨by rw[Qt];lia,λd hd=>?_⟩
   obtain⟨a,_,rfl⟩:=ZF.mp hd;simp[OkS,Dn.hD]
  ·exact Ct cs KM
  ·exact⟨by simp,λd hd=>by cases hd⟩
  ·refine⟨by rw[Qt];lia,λd hd=>?_⟩
   obtain⟨a,_,rfl⟩:=ZF.mp hd;simp[OkS,shD]
 ·exact⟨by show ds.length<1000000;lia,λd hd=>r.ok d hd⟩
 ·refine⟨by unfold nmD;rw[Qt];lia,λd hd=>?_⟩
  obtain⟨a,_,rfl⟩:=ZF.mp hd
  trivial
theorem Rl.drift(h:Rl hs cs 1 T U):∃ε T' U',Doing T lM (.nx ε) T'/\Step U lM U'/\U'.deeds.length=T.deeds.length+1/\Rl hs cs 2 T' U':=by
 obtain⟨hr,ss,ls,ds,rfl,rfl,r⟩:=h;have z:ls=[]:=List.length_eq_zero_iff.mp (by have:=r.l2;lia);subst z;have:=r.h0;have:=r.h1;have:=r.s;have:=r.dl;obtain⟨ε,e⟩:=Dp (tB hs cs hr ss [] ds) (by show ds.length<60;lia) (by show hr<24;lia);refine⟨ε,_,_,.drift rfl e,.drift rfl,by show(ds++_).length=ds.length+1;simp,hr+1,ss,[],ds++[.tup [.str "drift",.tup []]],rfl,rfl,by lia,by lia,by lia,by simp,by simp,KC,by simp,by rw[QI,Zf];lia,λd hd=>?_⟩;rcases Q2.mp hd with y | y
 ·exact r.ok d y
 ·rw[QL.mp y]
  simp[OkS]
theorem Rl.shut(h:Rl hs cs 0 T U)(a b c d e g y:Int)(gb:pY a b c d e g=true)(hy:1<=y/\y<=24):∃ε T' U',Doing T (.tup [.str "shut",bx6 a b c d e g,.int 1,.int y]) (.nx ε) T'/\Step U (.tup [.str "shut",bx6 a b c d e g,.int 1,.int y]) U'/\U'.deeds.length=T.deeds.length+1/\Rl hs cs 1 T' U':=by
 obtain⟨hr,ss,ls,ds,rfl,rfl,r⟩:=h;have z:ls=[]:=List.length_eq_zero_iff.mp (by have:=r.l2;lia);subst z;have:=r.h0;have:=r.h1;have:=r.s;have:=r.dl;obtain⟨ε,e'⟩:=Gc (tB hs cs hr ss [] ds) (by show ds.length<60;lia) a b c d e g 1 y gb (by show hr<1;lia) KM;refine⟨ε,_,_,.shut (by simp) (by simp) e',.shut,by show(ds++_).length=ds.length+1;simp,hr,ss++[⟨a,b,c,d,e,g,1,y⟩],[],ds++[.tup [.str "shut",.int a,.int b,.int c,.int d,.int e,.int g,.int 1,.int y]],?_,?_,by lia,by lia,by rw[QI,Zf];lia,by simp,by simp,KC,by simp,by rw[QI,Zf];lia,λd hd=>?_⟩
 ·show BT.mk _ _ _ _ _ _ _=BT.mk _ _ _ _ (shL (ss++[_])) _ _
  rw[show shL (ss++[⟨a,b,c,d,e,g,1,y⟩])=shL ss++shL [⟨a,b,c,d,e,g,1,y⟩] from K7];rfl
 ·show BT.mk _ _ _ _ _ _ _=BT.mk _ _ _ _ (shL (ss++[_])) _ _
  rw[show shL (ss++[⟨a,b,c,d,e,g,1,y⟩])=shL ss++shL [⟨a,b,c,d,e,g,1,y⟩] from K7];rfl
 ·rcases Q2.mp hd with y | y
  ·exact r.ok d y
  ·rw[QL.mp y]
   simp[OkS]
theorem A2(hs:List Hl)(ss:List Sh)(h:Int)(q:Stt):oS (Fl.why hs ss h q)=true:=by
 unfold Fl.why;split
 ·decide +kernel
 ·split<;>decide +kernel
theorem Rl.launch(h:Rl hs cs n T U)(h2:2<=n)(hn:n<11)(lh:hs.length<=20)(ht:∀a∈hs,0<=a.t)(m:Str)(lm:m.length<=1000)(x y z s p:Int):∃fl,gy [bZ U,cL m x y z s p]=some fl/\Res (Rl hs cs) n T U (cL m x y z s p) fl:=by
 obtain⟨hr,ss,ls,ds,rfl,rfl,r⟩:=h;have:=r.h0;have:=r.h1;have:=r.s;have:=r.l2;have:=r.l6;have:=r.dl;refine xT (ls:=ls) (w:=Fl.why hs ss hr ⟨x,y,z,s,p⟩) rfl rfl rfl rfl r.l6 (by show ds.length<60;lia) lm (A2 _ _ _ _) ?_ ?_ λc=>?_
 ·exact Fl.F8 hs cs [] ss KM hr ⟨x,y,z,s,p⟩
 ·exact Fl.Bi hs cs [] ss KM ht KM hr ⟨x,y,z,s,p⟩
 ·have l5:ls.length≠6:=λe=>by unfold lf at c;rw[if_pos e] at c;cases c
  have an:ls.any (eqN m)=false:=by
   unfold lf at c;rw[if_neg l5] at c;cases b:wx m with
   |true=>rw[b] at c;cases c
   |false=>
    rw[b] at c;cases a:ls.any (eqN m) with
    |true=>rw[a] at c;cases c
    |false=>rfl
  refine⟨hr,ss,ls++[⟨m,hr,x,y,z,s,p⟩],ds++[.tup [.str "launch",.str m,.int x,.int y,.int z,.int s,.int p]],?_,?_,by lia,by lia,by lia,by rw[QI,Zf];lia,by rw[QI,Zf];lia,?_,?_,by rw[QI,Zf];lia,?_⟩
  ·show BT.mk _ _ _ _ _ _ _=BT.mk _ _ _ _ _ ((ls++[_]).map fj) _
   rw[K7];rfl
  ·show BT.mk _ _ _ _ _ _ _=BT.mk _ _ _ _ _ ((ls++[_]).map gv) _
   rw[K7];rfl
  ·refine List.pairwise_append.mpr ⟨r.ap,List.pairwise_singleton _ _,λu hu v hv=>?_⟩
   rw[QL.mp hv];intro e;have:ls.any (eqN m)=true:=List.any_eq_true.mpr ⟨u,hu,decide_eq_true e⟩;rw[an] at this;cases this
  ·intro q hq
   rcases Q2.mp hq with w | w
   ·exact r.nm q w
   ·rw[QL.mp w];exact lm
  ·intro d hd
   rcases Q2.mp hd with w | w
   ·exact r.ok d w
   ·rw[QL.mp w]
    simp[OkS]
end
theorem rf1{C:Addr}(self:Qa):refuseLoop self "__setattr__" (.ref C::gk)=pure ():=by rw[refuseLoop_ref];exact PySem.F.store_ValueError.passes self
theorem rf2{C B:Addr}(self:Qa):refuseLoop self "__setattr__" (.ref C :: .ref B::gk)=pure ():=by rw[refuseLoop_ref];exact rf1 self
theorem hb1:gk.contains (.type "ValueError")=true/\gk.contains (.type "BaseException")=true/\gk.contains (.type "AttributeError")=false/\gk.contains (.type "NameError")=false/\gk.contains (.type "object")=true:=by decide +kernel
theorem hb2{B:Addr}:(Qn B::gk).contains (.type "ValueError")=true/\(Qn B::gk).contains (.type "BaseException")=true/\(Qn B::gk).contains (.type "AttributeError")=false/\(Qn B::gk).contains (.type "NameError")=false/\(Qn B::gk).contains (.type "object")=true:=by
 obtain⟨h1,h2,h3,h4,h5⟩:=hb1;exact⟨by rw[QS,h1];rfl,by rw[QS,h2];rfl,by rw[QS,h3];rfl,by rw[QS,h4];rfl,by rw[QS,h5];rfl⟩
noncomputable def ExB(Z:Wq)(B:Addr)(c:Str)(C:Addr):Prop:=PySem.W.specialIn Z.K (.builtin "object.__class__") "__get__" = some (some (.builtin "getset_descriptor.__get__"))->PySem.W.takesIn Z.K (.builtin "object.__class__")=some true->ExA Z B c C
theorem GB{P:Qr}{w:Qx}{K:Qc}{mg:Str->Option Qa}{B C:Addr}{c:Str}(ok:OkE ⟨P,w,K,mg⟩ c C (.ref B::gk))(ga:Qi K (.ref C) "__getattribute__" = some (some (.builtin "BaseException.__getattribute__")))(gn:Qi K (.ref C) "__getattr__" = some none)
  (cl:Qi K (.ref C) "__class__" = some (some (.builtin "object.__class__"))):ExB ⟨P,w,K,mg⟩ B c C:=λgs tk=>⟨ok,⟨⟨ga,gn,ok.exc,ok.dict⟩,cl,gs,tk,ok.ob⟩⟩
theorem BO{P:Qr}{w:Qx}{K:Qc}{mg:Str->Option Qa}{h:Heap}{c qual nm q:Str}{C N fI T:Addr}{bs bm:List Qa}{sn:List Str}{sub:List Qa}{ab:Bool}{col:Option Bool}{dd:Option Addr}{k0 k1 k2 k3 k5:Option Qa}{od an:Option Addr}
  {osl:Array (Option Qa)} {kV doc pm cdv ct:Qa} {p1 p2 p3 p4:Pos} {x:Str} {tk:Tok} {tc:Qa} {td:Option Addr} {ts:Array (Option Qa)} {tn:Nat} (i:Nat) (hbm:bm.contains (.type "ValueError")=true/\bm.contains (.type "BaseException")=true/\bm.contains (.type "AttributeError")=false/\bm.contains (.type "NameError")=false/\bm.contains (.type "object")=true) (hrf:∀self,refuseLoop self "__setattr__" (.ref C::bm)=pure ()) (X:K.In h) (G:h.Ns Qs mg) (hb:bc (mth (top i))=[.Assign [.Attribute (.Name "self" p1) "said" p2] (.Name "said" p3) p4])
  (S:FnScope ["self","said"] ["self","said"] (aA (mth (top i)))) (v0:(aA (mth (top i))).names.lookup ("self" : Str)=some .local) (v1:(aA (mth (top i))).names.lookup ("said" : Str)=some .local)
  (a:QE K Qs c=some (some (.ref C))) (lk:K.lookup C=some (ZQ nm q C N bs bm true sn sub ab col dd k0 k1 k2 k3 k5 "ValueError.__new__")) (ci:Qi K (.ref C) "__init__" = some (some (.ref fI)))
  (l:K.lookup fI=some ⟨.type "function",od,.func (QQ "__init__" qual (cj (mth (top i))) (bc (mth (top i))) (aA (mth (top i))) (.ref T) kV doc pm an cdv ct),osl⟩) (lt:K.lookup T=some ⟨tc,td,.seq #[.str x tk] tn,ts⟩) (cc:Zt K cdv qual=true) (kp:QT K (.ref C)=true)
  (sa:Qi K (.ref C) "__setattr__" = some (some (.builtin "object.__setattr__"))) (f3:Qi K (.ref C) "said" = some none)
  (hbi:∀(s:Qd) (kV doc pm:Qa) (an:Option Addr) (cdv ct e:Qa),s.heap.get? T=some ⟨tc,td,.seq #[.str x tk] tn,ts⟩->BindsTo s (QQ "__init__" qual (cj (mth (top i))) (bc (mth (top i))) (aA (mth (top i))) (.ref T) kV doc pm an cdv ct) ⟨[e],[]⟩ [("self",e),("said",.str x tk)]):OkE ⟨P,w,K,mg⟩ c C bm:=
 DU X G hb hbi S v0 v1 a lk hbm hrf ci l lt cc kp sa f3
theorem dA{P:Qr}{w:Qx}{K:Qc}{mg:Str->Option Qa}{h:Heap}{c qual nm q:Str}{B C N fI T:Addr}{bs:List Qa}{sn:List Str}{sub:List Qa}{ab:Bool}{col:Option Bool}{dd:Option Addr}{k0 k1 k2 k3 k5:Option Qa}{od an:Option Addr}
  {osl:Array (Option Qa)} {kV doc pm cdv ct:Qa} {p1 p2 p3 p4:Pos} {x:Str} {tk:Tok} {tc:Qa} {td:Option Addr} {ts:Array (Option Qa)} {tn:Nat} (i:Nat) (X:K.In h) (G:h.Ns Qs mg) (hb:bc (mth (top i))=[.Assign [.Attribute (.Name "self" p1) "said" p2] (.Name "said" p3) p4])
  (S:FnScope ["self","said"] ["self","said"] (aA (mth (top i)))) (v0:(aA (mth (top i))).names.lookup ("self" : Str)=some .local) (v1:(aA (mth (top i))).names.lookup ("said" : Str)=some .local)
  (a:QE K Qs c=some (some (.ref C))) (lk:K.lookup C=some (ZQ nm q C N bs (.ref B::gk) true sn sub ab col dd k0 k1 k2 k3 k5 "ValueError.__new__")) (ci:Qi K (.ref C) "__init__" = some (some (.ref fI)))
  (l:K.lookup fI=some ⟨.type "function",od,.func (QQ "__init__" qual (cj (mth (top i))) (bc (mth (top i))) (aA (mth (top i))) (.ref T) kV doc pm an cdv ct),osl⟩) (lt:K.lookup T=some ⟨tc,td,.seq #[.str x tk] tn,ts⟩) (cc:Zt K cdv qual=true) (kp:QT K (.ref C)=true)
  (sa:Qi K (.ref C) "__setattr__" = some (some (.builtin "object.__setattr__"))) (f3:Qi K (.ref C) "said" = some none) (ga:Qi K (.ref C) "__getattribute__" = some (some (.builtin "BaseException.__getattribute__"))) (gn:Qi K (.ref C) "__getattr__" = some none)
  (cl:Qi K (.ref C) "__class__" = some (some (.builtin "object.__class__")))
  (hbi:∀(s:Qd) (kV doc pm:Qa) (an:Option Addr) (cdv ct e:Qa),s.heap.get? T=some ⟨tc,td,.seq #[.str x tk] tn,ts⟩->BindsTo s (QQ "__init__" qual (cj (mth (top i))) (bc (mth (top i))) (aA (mth (top i))) (.ref T) kV doc pm an cdv ct) ⟨[e],[]⟩ [("self",e),("said",.str x tk)]):ExB ⟨P,w,K,mg⟩ B c C:=
 GB (BO i hb2 rf2 X G hb S v0 v1 a lk ci l lt cc kp sa f3 hbi) ga gn cl
theorem Fc{K:Qc}{C B N:Addr}{nm q:Str}{bs:List Qa}{hd:Bool}{sn:List Str}{sub:List Qa}{ab:Bool}{col:Option Bool}{dd:Option Addr}{k0 k1 k2 k3 k5:Option Qa}(lk:K.lookup C=some (ZQ nm q C N bs (.ref B::gk) hd sn sub ab col dd k0 k1 k2 k3 k5 "ValueError.__new__")):Ex.XO K C (.ref B::gk):=
 ⟨⟨nm,q,N,bs,hd,sn,sub,ab,col,dd,k0,k1,k2,k3,k5,lk⟩,hb2.1,hb2.2.1,hb2.2.2.1,hb2.2.2.2.1⟩
theorem EE{K:Qc}(a:KR K ar Str.empty=true)(b:Zu K ar=true)(c:PySem.W.plainOver K ar=true)(d:Qi K (.ref ar) "__setattr__" = some (some (.builtin "object.__setattr__")))
  (n0:Qi K (.ref ar) "hills" = some none) (n1:Qi K (.ref ar) "cool" = some none) (n2:Qi K (.ref ar) "hour" = some none) (n3:Qi K (.ref ar) "winds" = some none) (n4:Qi K (.ref ar) "shuts" = some none) (n5:Qi K (.ref ar) "balloons" = some none) (n6:Qi K (.ref ar) "deeds" = some none) (n7:Qi K (.ref ar) "holds" = some none):ObK K ar vm:=⟨⟨a,b,c,d⟩,λm hm=>by
 simp only[Ql,Qw,or_false] at hm;rcases hm with z | z | z | z | z | z | z | z<;>rw[z]
 ·exact n0
 ·exact n1
 ·exact n2
 ·exact n3
 ·exact n4
 ·exact n5
 ·exact n6
 ·exact n7⟩
theorem yg{K:Qc}(a:KR K aV Str.empty=true)(b:Zu K aV=true)(c:PySem.W.plainOver K aV=true)(d:Qi K (.ref aV) "__setattr__" = some (some (.builtin "object.__setattr__")))
  (n0:Qi K (.ref aV) "name" = some none) (n1:Qi K (.ref aV) "fate" = some none) (n2:Qi K (.ref aV) "last" = some none) (n3:Qi K (.ref aV) "path" = some none) (n4:Qi K (.ref aV) "lost_at" = some none) (n5:Qi K (.ref aV) "reports" = some none):ObK K aV gi:=⟨⟨a,b,c,d⟩,λm hm=>by
 simp only[Ql,Qw,or_false] at hm;rcases hm with z | z | z | z | z | z<;>rw[z]
 ·exact n0
 ·exact n1
 ·exact n2
 ·exact n3
 ·exact n4
 ·exact n5⟩
noncomputable abbrev sE:Stmt:=cm (top 52) 0
noncomputable abbrev BD:List Str:=["self","name","fate","last","path","lost_at","reports"]
theorem Dr{a b c d e g:V}:dN "reports" g (dN "lost_at" e (dN "path" d (dN "last" c (dN "fate" b (dN "name" a [])))))=gi.zip [a,b,c,d,e,g]:=by rfl
theorem JX{α:Type}{l:List α}(h:l.length=6):∃a b c d e f,l=[a,b,c,d,e,f]:=match l,h with | [a,b,c,d,e,f],_=>⟨a,b,c,d,e,f,rfl⟩
theorem I_{α:Type}{l:List α}(h:l.length=5):∃a b c d e,l=[a,b,c,d,e]:=match l,h with | [a,b,c,d,e],_=>⟨a,b,c,d,e,rfl⟩
theorem Dk{P:Qr}{w:Qx}{K:Qc}{mg:Str->Option Qa}{h:Heap}{fI T E:Addr}{od an td ed:Option Addr}{osl ts es:Array (Option Qa)}{kV doc pm cdv ct tc:Qa}{tk:Tok}{tn en:Nat}(X:K.In h)(G:h.Ns Qs mg)
  (a:QE K Qs "Balloon" = some (some (.ref aV))) (mk:PySem.W.makesIn K aV=true) (kp:QT K (.ref aV)=true) (ci:Qi K (.ref aV) "__init__" = some (some (.ref fI)))
  (l:K.lookup fI=some ⟨.type "function",od,.func (QQ "__init__" "Balloon.__init__" (cj sE) (bc sE) (aA sE) (.ref T) kV doc pm an cdv ct),osl⟩) (lt:K.lookup T=some ⟨tc,td,.seq #[.int 0 tk,.ref E] tn,ts⟩) (le:K.lookup E=some ⟨.type "tuple",ed,.seq #[] en,es⟩) (cc:Zt K cdv "Balloon.__init__" = true)
  (hbi:∀(s:Qd) (kV doc pm:Qa) (an:Option Addr) (cdv ct a b c d e:Qa),s.heap.get? T=some ⟨tc,td,.seq #[.int 0 tk,.ref E] tn,ts⟩->BindsTo s (QQ "__init__" "Balloon.__init__" (cj sE) (bc sE) (aA sE) (.ref T) kV doc pm an cdv ct) ⟨[a,b,c,d,e],[]⟩ (BD.zip [a,b,c,d,e,.int 0 tk,.ref E])) (ob:ObK K aV gi):lA ⟨P,w,K,mg⟩:=by
 refine⟨Zc X G a,fI,QQ "__init__" "Balloon.__init__" (cj sE) (bc sE) (aA sE) (.ref T) kV doc pm an cdv ct,[.int 0 tk,.ref E],[.int 0,.ref E],⟨mk,ci,beq_iff_eq.mpr (by show Option.map _ (Q4 fI K)=_;rw[l];rfl),kp⟩,λs us ks hl=>?_,.cons ⟨tk,rfl⟩ (.cons rfl .nil),λG=>.cons (.int 0) (.cons (.tup (.inr ⟨_,#[],en,le,rfl,rfl,QV _,.nil⟩) .nil) .nil),λbase=>?_⟩
 ·obtain⟨u0,u1,u2,u3,u4,rfl⟩:=I_ (l:=us) (by simpa using hl)
  exact hbi s kV doc pm an cdv ct u0 u1 u2 u3 u4 (ks _ _ lt)
 ·have SC:FnScope BD BD (aA sE):=⟨rfl,rfl,rfl,by decide +kernel,rfl,by decide +kernel,by decide +kernel⟩
  have n:=ob.2;have cl:=ob.1;refine qk (CX:=CX0) (k:=0) l cc SC (λvs H Q E h=>?_) (λA outer s H vs Q E hr h=>?_)
  ·obtain⟨x,dx,ws,rfl,hl,_⟩:=h
   rw[QM,hl];rfl
  ·obtain⟨x,dx,ws,rfl,hl,hx,q⟩:=h
   obtain⟨a0,a1,a2,a3,a4,a5,rfl⟩:=JX hl;rw[<-Dr] at q;refine⟨_,aH (fV (pv 0) (pv 1) rfl) (aH (fV (pv 0) (pv 2) rfl) (aH (fV (pv 0) (pv 3) rfl) (aH (fV (pv 0) (pv 4) rfl) (aH (fV (pv 0) (pv 5) rfl) (bF (fV (pv 0) (pv 6) rfl)))))),?_⟩;refine⟨_,rfl,_,rfl,x,aV,dx,_,rfl,hx,cl,n _ KE,(by show 0<_;decide),?_⟩;refine⟨_,rfl,_,rfl,x,aV,dx,_,rfl,upd_same,cl,n _ KE,(by show 1<_;decide),?_⟩;rw[gZ];refine⟨_,rfl,_,rfl,x,aV,dx,_,rfl,upd_same,cl,n _ KE,(by show 2<_;decide),?_⟩;rw[gZ];refine⟨_,rfl,_,rfl,x,aV,dx,_,rfl,upd_same,cl,n _ KE,(by show 3<_;decide),?_⟩;rw[gZ];refine⟨_,rfl,_,rfl,x,aV,dx,_,rfl,upd_same,cl,n _ KE,(by show 4<_;decide),?_⟩;rw[gZ];refine⟨_,rfl,_,rfl,x,aV,dx,_,rfl,upd_same,cl,n _ KE,(by show 5<_;decide),?_⟩;rw[gZ];exact q
theorem EF{xs:List Addr}{i:Nat}(h:i<xs.length):xs.getD i 0∈xs:=by simp[h]
theorem Gx{B:Addr}{cs:List Addr}(h:(B::cs).Nodup):(∀i j,i<cs.length->j<cs.length->cs.getD i 0=cs.getD j 0->i=j)/\(∀i,i<cs.length->cs.getD i 0≠B)/\∀x∈cs,x≠B:=by
 obtain⟨h1,h2⟩:=Kv.mp h;have at_:∀i,i<cs.length->cs.getD i 0∈cs:=λi hi=>by simp[hi]
 refine⟨λi j hi hj e=>?_,λi hi z=>h1 (z▸at_ i hi),λx hx z=>h1 (z▸hx)⟩;have ei:cs.getD i 0=cs[i]:=by simp[hi]
 have ej:cs.getD j 0=cs[j]:=by simp[hj]
 rw[ei,ej] at e;rcases Nat.lt_trichotomy i j with l | l | l
 ·exact absurd e (KN.mp h2 i j hi hj l)
 ·exact l
 ·exact absurd e.symm (KN.mp h2 j i hj hi l)
noncomputable abbrev Ff(Z:Wq):Prop:=OkD Z "law" (top 113) vV 10 vU
theorem GO{P:Qr}{w:Qx}{K:Qc}{mg:Str->Option Qa}{B SA NA c0 c1 c2 c3 c4 c5 c6 c7 c8 c9 c10 c11 c12 c13 c14 c15 c16 c17 c18:Addr}(M:Md ⟨P,w,K,mg⟩)(mdict:mg "dict" = none)(mab:mg "abs" = none)(mb:mg "Book" = some (.ref ar))(mk:PySem.W.makesIn K ar=true)(kp:QT K (.ref ar)=true)
  (hn:PySem.W.specialIn K (.builtin "object.__class__") "__get__" = some (some (.builtin "getset_descriptor.__get__"))) (htk:PySem.W.takesIn K (.builtin "object.__class__")=some true)
  (mI:MT K ar "__init__" "Book.__init__" (cm (top 81) 0) ["self","hills","cool"]) (mR:MT K ar "check_room" "Book.check_room" (cm (top 81) 1) dQ) (mN:MT K ar "noted" "Book.noted" (cm (top 81) 2) ["self","deed"]) (mU:MT K ar "number_of" "Book.number_of" (cm (top 81) 3) eO) (mF:MT K ar "found" "Book.found" (cm (top 81) 4) iu) (mL:MT K ar "found_lost" "Book.found_lost" (cm (top 81) 6) dP) (mS:MT K ar "shut" "Book.shut" (cm (top 81) 9) pz) (mH:MT K ar "launch" "Book.launch" (cm (top 81) 10) lC) (mO:MT K ar "orders_given" "Book.orders_given" (cm (top 81) 11) ["self","pairs"]) (mD:MT K ar "drift" "Book.drift" (cm (top 81) 12) ["self","orders"]) (mw:MT K ar "now" "Book.now" (cm (top 81) 19) kr) (mK:MT K ar "sky" "Book.sky" (cm (top 81) 20) kq) (md:MT K ar "done" "Book.done" (cm (top 81) 21) jm) (mm:MT K ar "names" "Book.names" (cm (top 81) 22) iF) (ms:MT K ar "status" "Book.status" (cm (top 81) 23) hW) (ma:MT K ar "state" "Book.state" (cm (top 81) 24) ir) (ml:MT K ar "log" "Book.log" (cm (top 81) 25) jX) (mG:MT K ar "sightings" "Book.sightings" (cm (top 81) 33) eM)
  (bE:OkE ⟨P,w,K,mg⟩ "BookError" B gk) (E0:ExB ⟨P,w,K,mg⟩ B "BadName" c0) (E1:ExB ⟨P,w,K,mg⟩ B "Taken" c1) (E2:ExB ⟨P,w,K,mg⟩ B "NoBalloon" c2) (E3:ExB ⟨P,w,K,mg⟩ B "BadHour" c3) (E4:ExB ⟨P,w,K,mg⟩ B "Past" c4) (E5:ExB ⟨P,w,K,mg⟩ B "Late" c5) (E6:ExB ⟨P,w,K,mg⟩ B "BadPlace" c6) (E7:ExB ⟨P,w,K,mg⟩ B "BadHeight" c7) (E8:ExB ⟨P,w,K,mg⟩ B "BadLoad" c8) (E9:ExB ⟨P,w,K,mg⟩ B "BadWind" c9) (E10:ExB ⟨P,w,K,mg⟩ B "BadBox" c10) (E11:ExB ⟨P,w,K,mg⟩ B "BadOrder" c11) (E12:ExB ⟨P,w,K,mg⟩ B "Twice" c12) (E13:ExB ⟨P,w,K,mg⟩ B "NotAloft" c13) (E14:ExB ⟨P,w,K,mg⟩ B "NotLost" c14) (E15:ExB ⟨P,w,K,mg⟩ B "NotLow" c15) (E16:ExB ⟨P,w,K,mg⟩ B "OutOfSight" c16) (E17:ExB ⟨P,w,K,mg⟩ B "NoHold" c17) (E18:ExB ⟨P,w,K,mg⟩ B "Full" c18)
  (hcS:nE ⟨P,w,K,mg⟩) (hB4:ObK K aV gi->lA ⟨P,w,K,mg⟩) (mSt:mg "Stopped" = some (.ref SA)) (xSt:Ex.XO K SA (.ref B::gk)) (mNf:mg "NothingFits" = some (.ref NA)) (xNf:Ex.XO K NA (.ref B::gk)) (nd:[B,c0,c1,c2,c3,c4,c5,c6,c7,c8,c9,c10,c11,c12,c13,c14,c15,c16,c17,c18].Nodup) (ndS:SA∉[B,c0,c1,c2,c3,c4,c5,c6,c7,c8,c9,c10,c11,c12,c13,c14,c15,c16,c17,c18]) (ndN:NA∉[B,c0,c1,c2,c3,c4,c5,c6,c7,c8,c9,c10,c11,c12,c13,c14,c15,c16,c17,c18])
  (A__law_numbers:FX ⟨P,w,K,mg⟩ "_law_numbers" (top 83) dY) (A__law_same:FX ⟨P,w,K,mg⟩ "_law_same" (top 84) eA) (A__law_base:FX ⟨P,w,K,mg⟩ "_law_base" (top 85) jy) (A__law_box:FX ⟨P,w,K,mg⟩ "_law_box" (top 86) j9) (A__law_opening:FX ⟨P,w,K,mg⟩ "_law_opening" (top 99) gL) (A__law_spot:FX ⟨P,w,K,mg⟩ "_law_spot" (top 96) jq) (A__law_name:FX ⟨P,w,K,mg⟩ "_law_name" (top 106) jA) (A__law_state:FX ⟨P,w,K,mg⟩ "_law_state" (top 87) iH) (A__law_bent:FX ⟨P,w,K,mg⟩ "_law_bent" (top 110) jw) (A__law_call:FX ⟨P,w,K,mg⟩ "_law_call" (top 112) jr) (A__law_off:FX ⟨P,w,K,mg⟩ "_law_off" (top 97) jY) (A__law_bad_state:FX ⟨P,w,K,mg⟩ "_law_bad_state" (top 98) eG) (A__law_air:FX ⟨P,w,K,mg⟩ "_law_air" (top 95) kl) (A__law_ground:FX ⟨P,w,K,mg⟩ "_law_ground" (top 89) dF) (A__law_in:FX ⟨P,w,K,mg⟩ "_law_in" (top 90) iK) (A__law_shut:FX ⟨P,w,K,mg⟩ "_law_shut" (top 91) gf) (A__law_stand:FX ⟨P,w,K,mg⟩ "_law_stand" (top 92) eU) (A__law_fault:FX ⟨P,w,K,mg⟩ "_law_fault" (top 111) iy) (A__law_stands:FX ⟨P,w,K,mg⟩ "_law_stands" (top 105) hG) (A__law_only:FX ⟨P,w,K,mg⟩ "_law_only" (top 107) jv) (A__law_deed_of:FX ⟨P,w,K,mg⟩ "_law_deed_of" (top 100) gC) (A_check_place:FX ⟨P,w,K,mg⟩ "check_place" (top 67) h8) (A_check_hill:FX ⟨P,w,K,mg⟩ "check_hill" (top 76) iw) (A_check_between:FX ⟨P,w,K,mg⟩ "check_between" (top 73) fH) (A_check_opening:FX ⟨P,w,K,mg⟩ "check_opening" (top 77) fP) (A_good_box:FX ⟨P,w,K,mg⟩ "good_box" (top 4) j4) (A_check_box:FX ⟨P,w,K,mg⟩ "check_box" (top 70) ju) (A_check_shut:FX ⟨P,w,K,mg⟩ "check_shut" (top 75) iD) (A_check_name:FX ⟨P,w,K,mg⟩ "check_name" (top 71) iC) (A_check_height:FX ⟨P,w,K,mg⟩ "check_height" (top 68) gO) (A_check_state:FX ⟨P,w,K,mg⟩ "check_state" (top 69) hV) (A_ground_at:FX ⟨P,w,K,mg⟩ "ground_at" (top 7) fZ) (A_inside:FX ⟨P,w,K,mg⟩ "inside" (top 5) jV) (A_shut_at:FX ⟨P,w,K,mg⟩ "shut_at" (top 11) iN) (A_why_not_stand:FX ⟨P,w,K,mg⟩ "why_not_stand" (top 12) cJ) (A_launched:FX ⟨P,w,K,mg⟩ "launched" (top 53) j8)
  (A__law_do:FX ⟨P,w,K,mg⟩ "_law_do" (top 104) rn) (A__law_try:FX ⟨P,w,K,mg⟩ "_law_try" (top 108) rn) (A__law_opened:FX ⟨P,w,K,mg⟩ "_law_opened" (top 94) z0) (A__law_done_by:FX ⟨P,w,K,mg⟩ "_law_done_by" (top 103) B2) (A__law_judged:FX ⟨P,w,K,mg⟩ "_law_judged" (top 109) zS) (A_law:FX ⟨P,w,K,mg⟩ "law" (top 113) vV):Ff ⟨P,w,K,mg⟩:=by
 have e0:=E0 hn htk;have e1:=E1 hn htk;have e2:=E2 hn htk;have e3:=E3 hn htk;have e4:=E4 hn htk;have e5:=E5 hn htk;have e6:=E6 hn htk;have e7:=E7 hn htk;have e8:=E8 hn htk;have e9:=E9 hn htk;have e10:=E10 hn htk;have e11:=E11 hn htk;have e12:=E12 hn htk;have e13:=E13 hn htk;have e14:=E14 hn htk;have e15:=E15 hn htk;have e16:=E16 hn htk;have e17:=E17 hn htk;have e18:=E18 hn htk;obtain⟨inj,nb,_⟩:=Gx nd
 have cs:Cls19 ⟨P,w,K,mg⟩ B (λi=>([c0,c1,c2,c3,c4,c5,c6,c7,c8,c9,c10,c11,c12,c13,c14,c15,c16,c17,c18]:List Addr).getD i 0):=by
  refine⟨bE,λi hi=>?_,λi j hi hj=>inj i j hi hj,λi hi=>nb i hi⟩
  match i,hi with
  |0,_=>exact e0
  |1,_=>exact e1
  |2,_=>exact e2
  |3,_=>exact e3
  |4,_=>exact e4
  |5,_=>exact e5
  |6,_=>exact e6
  |7,_=>exact e7
  |8,_=>exact e8
  |9,_=>exact e9
  |10,_=>exact e10
  |11,_=>exact e11
  |12,_=>exact e12
  |13,_=>exact e13
  |14,_=>exact e14
  |15,_=>exact e15
  |16,_=>exact e16
  |17,_=>exact e17
  |18,_=>exact e18
  |n+19,h=>exact absurd h (by omega)
 have mem:∀i,i<19->([c0,c1,c2,c3,c4,c5,c6,c7,c8,c9,c10,c11,c12,c13,c14,c15,c16,c17,c18]:List Addr).getD i 0∈[B,c0,c1,c2,c3,c4,c5,c6,c7,c8,c9,c10,c11,c12,c13,c14,c15,c16,c17,c18]:=λi hi=>Qv _ (EF (xs:=[c0,c1,c2,c3,c4,c5,c6,c7,c8,c9,c10,c11,c12,c13,c14,c15,c16,c17,c18]) hi);have aS:Ahead ⟨P,w,K,mg⟩ B (λi=>([c0,c1,c2,c3,c4,c5,c6,c7,c8,c9,c10,c11,c12,c13,c14,c15,c16,c17,c18]:List Addr).getD i 0) "Stopped" SA (.ref B::gk):=⟨mSt,xSt,λz=>ndS (z▸QD),λi hi z=>ndS (z▸mem i hi)⟩;have aN:Ahead ⟨P,w,K,mg⟩ B (λi=>([c0,c1,c2,c3,c4,c5,c6,c7,c8,c9,c10,c11,c12,c13,c14,c15,c16,c17,c18]:List Addr).getD i 0) "NothingFits" NA (.ref B::gk):=⟨mNf,xNf,λz=>ndN (z▸QD),λi hi z=>ndN (z▸mem i hi)⟩;have h_law_numbers:=ra A__law_numbers M;have h_law_same:=wJ A__law_same M;have h_law_base:=vD A__law_base M;have h_law_box:=xD A__law_box M;have h_law_opening:=qV A__law_opening M;have h_law_spot:=v_ A__law_spot M;have h_law_name:=vO A__law_name M h_law_spot;have h_law_state:=ui A__law_state M;have h_law_bent:=vt A__law_bent M;have h_law_call:=wH A__law_call M h_law_name h_law_state h_law_bent;have h_law_off:=yJ A__law_off M;have h_law_bad_state:=oV A__law_bad_state M h_law_off;have h_law_air:=yj A__law_air M;have h_law_ground:=sL A__law_ground M;have h_law_in:=Ah A__law_in M;have h_law_shut:=vR A__law_shut M h_law_in;have h_law_stand:=ur A__law_stand M h_law_ground h_law_shut;have h_law_fault:=uW A__law_fault M h_law_spot h_law_bad_state h_law_air h_law_stand;have hBook_names:=ux mm M;have hBook_done:=wc md M;have hBook_sky:=yA mK M;have hBook_now:=xZ mw M;have hBook_number_of:=pD mU M ⟨_,_,e2.ok⟩;have hBook_found:=uf mF M hBook_number_of;have hBook_log:=x_ ml M hBook_found;have hBook_status:=sN ms M hBook_found;have hBook_state:=u_ ma M hBook_found ⟨_,_,e16.ok⟩;have hBook_found_lost:=nM mL M hBook_found ⟨_,_,e14.ok⟩;have hBook_sightings:=pk mG M hBook_found_lost;have h_law_stands:=sM A__law_stands M hBook_names hBook_done hBook_sky hBook_now h_law_air h_law_same hBook_log hBook_status hBook_state hBook_sightings;have h_law_only:=vB A__law_only M;have h_law_deed_of:=r9 A__law_deed_of M;have hcheck_place:=sx A_check_place M ⟨_,_,e6.ok⟩;have hcheck_hill:=tZ A_check_hill M hcheck_place ⟨_,_,e7.ok⟩;have hcheck_between:=qv A_check_between M ⟨_,_,e3.ok⟩;have hcheck_opening:=qr A_check_opening M hcheck_hill hcheck_between ⟨_,_,e18.ok⟩ ⟨_,_,e12.ok⟩;have hgood_box:=yc A_good_box M;have hcheck_box:=xa A_check_box M hgood_box ⟨_,_,e10.ok⟩;have hcheck_shut:=uR A_check_shut M hcheck_box hcheck_between ⟨_,_,e4.ok⟩;have hcheck_name:=uH A_check_name M ⟨_,_,e0.ok⟩;have hcheck_height:=rZ A_check_height M ⟨_,_,e7.ok⟩;have hcheck_state:=sO A_check_state M hcheck_place hcheck_height ⟨_,_,e8.ok⟩;have hground_at:=wz A_ground_at M;have hinside:=A8 A_inside M;have hshut_at:=Au A_shut_at M hinside;have hwhy_not_stand:=qu A_why_not_stand M hground_at hshut_at;have hlaunched:=yk A_launched M (hB4 M.o_Balloon);have hBook_check_room:=oE mR M ⟨_,_,e18.ok⟩;have HN:=Et mN M;have HS:=Hq mS M hBook_check_room hcheck_shut HN;have HL:=Bc mH M hBook_check_room hcheck_name hBook_names hcheck_state hBook_sky hwhy_not_stand hcS ⟨_,_,e18.ok⟩ ⟨_,_,e1.ok⟩ hlaunched HN;have HO:=Bb (Z:=⟨P,w,K,mg⟩) mO;have HD:=DV mD M hBook_check_room hBook_sky HO ⟨_,_,e5.ok⟩ HN;have Hdo:=Js A__law_do M HS HL HD;have Htry:=Ij A__law_try M Hdo h_law_only cs aS aN hcS;have Hdb:=J5 A__law_done_by M mdict h_law_deed_of h_law_air
 have Hjd:=JP A__law_judged M Hdb Htry h_law_same (λn=>rD (.int n) trivial) λx fs d' td=>by
  refine rD _ ?_;cases td
  ·exact⟨by simp,λd hd=>by
    simp only[Ql,Qw,or_false] at hd
    rcases hd with z | z<;>rw[z]<;>exact trivial⟩
  ·exact⟨by simp,λd hd=>by
    simp only[Ql,Qw,or_false] at hd
    rcases hd with z | z | z | z<;>rw[z]<;>exact trivial⟩
 have Hop:=CO (Z:=⟨P,w,K,mg⟩) A__law_opened;obtain⟨fI,fdI,aI,FI,bI⟩:=mI;exact Ia A_law M mab h_law_numbers h_law_base h_law_opening h_law_box h_law_call h_law_fault h_law_stands mb ⟨mk,aI.at_,aI.fn,kp⟩ bI (λbase=>Jp FI M hcheck_opening) Hop Hjd
theorem walk{l:PySem.W.OpenLaw}{q:Qr}{loose:List Str}{XP:(Str->Option Qa)->Heap->Prop}{YP:Qx->Heap->Prop}{d:DefRec}{K:Params->Qc}(hn:l.most=some 63)(hdf:d.params.defaults=[])(hnm:d.name = "law")
  (hY:∀(w:Qx) (h:Heap),YP w h->(K w.params).In h) (worth:∀ns:List Int,ns.length<=63->vU [.lst (ns.map D.int)]=some (.bl true))
  (F:∀(w:Qx) (mg:Str->Option Qa) (h:Heap),(K w.params).In h->h.Ns Qs mg->Ff ⟨l.prog,w,K w.params,mg⟩) :
  PySem.W.WalkO q loose XP YP l.row.toRowW d [] (λf vs=>PySem.call f vs):=
 L2.Eo (n:=63) (k:=10) (x:="_law_script") (CX:=λ_=>CX0) (sp:=λw=>spF (K w.params) vU) hn KE hdf ⟨rfl,by decide,by decide⟩ hY (λw mg fa h a b c=>F6 (F w mg h a b) (by rw[<-hnm];exact c))
  (λw H a ns hl _ hS=>⟨H,[.lst (ns.map D.int)],.bl true,aT.refl _,.one (.lst (.inr ⟨ns,rfl,hS⟩) (zL _ _ ns)),worth ns hl,λv G' H' g hd=>hd.blV⟩) λ_ _ _ _ _ z=>z
theorem GT(g:Nat->Int)(c0 c1:Int)(h0:d6 c0)(h1:d6 c1):∃a b c d e k,nA [.lst (iL (bX g 6)),.tup [.int c0,.int c1]]=some (bx6 a b c d e k)/\pY a b c d e k=true:=by
 unfold d6 at h0 h1;have m:e2 ba (e2 ixD (ah 0) (eC (.int 5))) (e2 h9 (eC (.int 6)) (ah 4)) [.dat (.lst (iL (bX g 6))),.dat (.tup [.int c0,.int c1]),.dat (.int (c0+g 0%9-4)),.dat (.int (c1+g 1%9-4)),.dat (.int (g 4%6))]=some (.int (g 5%(6-g 4%6))):=bg (x:=.int (g 5)) (y:=.int (6-g 4%6)) rfl rfl (HX KM);have k0:0<=g 5%(6-g 4%6)/\g 5%(6-g 4%6)<6-g 4%6:=⟨Int.emod_nonneg _ KM,Vv _ KM⟩;refine⟨_,_,_,_,_,_,b9 rfl ((ax (ε':=[.dat (.lst (iL (bX g 6))),.dat (.tup [.int c0,.int c1]),.dat (.int (c0+g 0%9-4)),.un,.un]) rfl).trans ((ax (ε':=[.dat (.lst (iL (bX g 6))),.dat (.tup [.int c0,.int c1]),.dat (.int (c0+g 0%9-4)),.dat (.int (c1+g 1%9-4)),.un]) rfl).trans ((ax (ε':=[.dat (.lst (iL (bX g 6))),.dat (.tup [.int c0,.int c1]),.dat (.int (c0+g 0%9-4)),.dat (.int (c1+g 1%9-4)),.dat (.int (g 4%6))]) rfl).trans (fF (dO (ds:=[.int (c0+g 0%9-4),.int (c1+g 1%9-4),.int (c0+g 0%9-4+g 2%4),.int (c1+g 1%9-4+g 3%4),.int (g 4%6),.int (g 4%6+g 5%(6-g 4%6))]) (aX rfl (aX rfl (aX rfl (aX rfl (aX rfl (aX (bg rfl m rfl) rfl)))))) (by simp)))))),?_⟩;generalize g 5%(6-g 4%6)=k at k0;unfold pY;simp only[Vf,decide_eq_true_iff]
 lia
noncomputable abbrev b2(b0 b1:Int):D:=.tup [.int b0,.int b1]
noncomputable def Bs(b0 b1:Int):Prop:=(d6 b0/\d6 b1)\/b1=996\/b1=-996
theorem DY(f:Nat->Int)(hf:∀j,0<=f j/\f j<1000)(b0 b1:Int)(hb:Bs b0 b1)(xs:List T3)(cs:List Int)(hx:Hs xs)(lx:xs.length<=20)(hc:Cl cs)(lc:cs.length<=24):Good (iL (bX f 280)) (b2 b0 b1) (xs.map hD) (iL cs) (Rl (xs.map toH) cs):=by
 have lh:(xs.map toH).length<=20:=by rw[Qt];exact lx
 have ht:∀a∈xs.map toH,0<=a.t:=λa ha=>by
  obtain⟨t,mt,rfl⟩:=ZF.mp ha;have:=hx t mt;unfold bH at this;split at this
  ·cases this
  ·split at this
   ·cases this
   ·rename_i z
    have z:xQ t.2.2=false:=by simpa using z
    unfold xQ at z;show 0<=t.2.2;simp at z
    lia
 refine⟨⟨_,Ap hx lx hc lc⟩,by rw[Cg];exact Rl.zero,λn T U h=>h.up,λn T U hn h=>h.few hn,?_,⟨_,rfl⟩,λT U h=>h.drift,⟨1+f 4%9,rfl,by lia,by lia⟩,λi n T U hi h2 hn h=>?_,λn T U hn h=>h.stands hn lh lc⟩
 ·have cut:eF (eSl (ah 1) (bf (eC (.int 35))) (bf (eC (.int 41)))) [.un,.dat (.lst (iL (bX f 280))),.dat (b2 b0 b1),.un,.un,.un,.un,.un,.un,.un,.un]=some (.lst (iL (bX (λj=>f (35+j)) 6))):=by
   refine jc ?_;show some (Dn.kI (iL (bX f 280)) (some ((35:Nat):Int)) (some ((35+6:Nat):Int)))=_;rw[oy f 280 35 6 KE]
  obtain⟨c0,c1,ec,h0,h1⟩:∃c0 c1,e2 ixD (eF (iI (aa (aj 2) (aa (cA (aa Vw (aa Vw aF))) aF)))) (aL vZ (aa (e2 cH (aL vL (aa (e2 ixD (ah 2) Vy) aF)) (eC (.int 996))) aF)) [.un,.dat (.lst (iL (bX f 280))),.dat (b2 b0 b1),.un,.un,.un,.un,.un,.un,.un,.un]=some (b2 c0 c1)/\d6 c0/\d6 c1:=by
   have ei:aL vZ (aa (e2 cH (aL vL (aa (e2 ixD (ah 2) Vy) aF)) (eC (.int 996))) aF) [.un,.dat (.lst (iL (bX f 280))),.dat (b2 b0 b1),.un,.un,.un,.un,.un,.un,.un,.un]=some (.int (if decide (C1 b1=996)=true then 1 else 0)):=rfl
   by_cases c:C1 b1=996
   ·rw[decide_eq_true c] at ei
    exact⟨0,0,bg (x:=.lst [b2 b0 b1,b2 0 0]) (y:=.int 1) rfl ei rfl,by unfold d6;lia,by unfold d6;lia⟩
   ·rw[decide_eq_false c] at ei
    refine⟨b0,b1,bg (x:=.lst [b2 b0 b1,b2 0 0]) (y:=.int 0) rfl ei rfl,?_⟩;rcases hb with z | rfl | rfl
    ·exact z
    ·exact absurd rfl c
    ·exact absurd rfl c
  obtain⟨a,b,c,d,e,k,eb,gb⟩:=GT (λj=>f (35+j)) c0 c1 h0 h1;refine⟨bx6 a b c d e k,.tup [.str "shut",bx6 a b c d e k,.int 1,.int (1+f 41%24)],(nu cut ec).trans eb,rfl,λT U h=>h.shut a b c d e k _ gb KM⟩
 ·have h':=h
  obtain⟨hr,ss,ls,ds,rfl,rfl,r⟩:=h';obtain⟨m,x,y,z,s,p,ec,lm⟩:=D_ (tB (xs.map toH) cs hr ss (ls.map gv) ds) ls rfl (by have:=r.l6;lia) r.nm (λj=>f (50+25*i+j)) (λj=>(hf _).1) b0 b1;obtain⟨fl,efl,res⟩:=h.launch h2 hn lh ht m lm x y z s p;refine⟨cL m x y z s p,fl,?_,efl,res⟩
  have m1:e2 bR (eC (.int 50)) (e2 cV (eC (.int 25)) (ah 10)) [.un,.dat (.lst (iL (bX f 280))),.dat (b2 b0 b1),.un,.un,.un,.dat (bZ (tB (xs.map toH) cs hr ss (ls.map gv) ds)),.un,.un,.un,.dat (.int (0+(i:Int)))]=some (.int ((50+25*i:Nat):Int)):=by
   rw[bg (x:=.int 50) (y:=.int (25*(0+(i:Int)))) rfl (bg (x:=.int 25) (y:=.int (0+(i:Int))) rfl rfl (rP KE)) rfl];congr 2
   lia
  have m2:e2 bR (eC (.int 75)) (e2 cV (eC (.int 25)) (ah 10)) [.un,.dat (.lst (iL (bX f 280))),.dat (b2 b0 b1),.un,.un,.un,.dat (bZ (tB (xs.map toH) cs hr ss (ls.map gv) ds)),.un,.un,.un,.dat (.int (0+(i:Int)))]=some (.int ((50+25*i+25:Nat):Int)):=by
   rw[bg (x:=.int 75) (y:=.int (25*(0+(i:Int)))) rfl (bg (x:=.int 25) (y:=.int (0+(i:Int))) rfl rfl (rP KE)) rfl];congr 2
   lia
  have cut:eF (eSl (ah 1) (bf (e2 bR (eC (.int 50)) (e2 cV (eC (.int 25)) (ah 10)))) (bf (e2 bR (eC (.int 75)) (e2 cV (eC (.int 25)) (ah 10))))) [.un,.dat (.lst (iL (bX f 280))),.dat (b2 b0 b1),.un,.un,.un,.dat (bZ (tB (xs.map toH) cs hr ss (ls.map gv) ds)),.un,.un,.un,.dat (.int (0+(i:Int)))]=some (.lst (iL (bX (λj=>f (50+25*i+j)) 25))):=by
   refine jc ?_;have o1:bf (e2 bR (eC (.int 50)) (e2 cV (eC (.int 25)) (ah 10))) [.un,.dat (.lst (iL (bX f 280))),.dat (b2 b0 b1),.un,.un,.un,.dat (bZ (tB (xs.map toH) cs hr ss (ls.map gv) ds)),.un,.un,.un,.dat (.int (0+(i:Int)))]=some (some ((50+25*i:Nat):Int)):=by unfold bf;rw[m1]
   have o2:bf (e2 bR (eC (.int 75)) (e2 cV (eC (.int 25)) (ah 10))) [.un,.dat (.lst (iL (bX f 280))),.dat (b2 b0 b1),.un,.un,.un,.dat (bZ (tB (xs.map toH) cs hr ss (ls.map gv) ds)),.un,.un,.un,.dat (.int (0+(i:Int)))]=some (some ((50+25*i+25:Nat):Int)):=by unfold bf;rw[m2]
   unfold eSl;rw[o1,o2];show some (Dn.kI (iL (bX f 280)) (some ((50+25*i:Nat):Int)) (some ((50+25*i+25:Nat):Int)))=_;rw[oy f 280 (50+25*i) 25 KM]
  exact(B9 cut rfl rfl).trans ec
theorem Dh(g:Nat->Int)(b0 b1:Int)(h0:g 0=0)(h24:g 24=8):cE [.lst (iL (bX g 25)),b2 b0 b1]=some (.tup [.lst [],.lst []]):=by
 refine b9 rfl ?_
 have r1:iG (e2 ba (e2 ixD (ah 0) Vw) (eC (.int 6))) (eo5 g b0 b1 (.own []) .un .un)=some []:=by
  rw[j7 (j:=g 0%6) rfl KM KM,h0];rfl
 have r2:iG (e2 ba (e2 nP (e2 ixD (ah 0) Vw) (eC (.int 6))) (eC (.int 6))) (eo5 g b0 b1 (.own []) .un (.own []))=some []:=by
  rw[j7 (j:=g 0/6%6) rfl KM KM,h0];rfl
 show eg (eo5 g b0 b1 .un .un .un)=_;unfold eg;refine(ax (ε':=eo5 g b0 b1 (.own []) .un .un) rfl).trans ?_;refine(ax (ε':=eo5 g b0 b1 (.own []) .un .un) ((cq r1).trans rfl)).trans ?_;refine(ax (ε':=eo5 g b0 b1 (.own []) .un (.own [])) rfl).trans ?_;refine(ax (ε':=eo5 g b0 b1 (.own []) .un (.own [])) ((cq r2).trans rfl)).trans ?_;refine(ax (ε':=eo5 g b0 b1 (.own []) .un (.own [])) ((gX (g 24%9=1) rfl KM).trans rfl)).trans ?_;refine(ax (ε':=eo5 g b0 b1 (.own []) .un (.own [])) ((gX (g 24%9<2) rfl KM).trans rfl)).trans rfl
theorem wX(f:Nat->Int)(n i:Nat)(v:Int):(iL (bX f n)).set i (.int v)=iL (bX (λj=>if j=i then v else f j) n):=by
 apply KD;intro j;unfold iL bX;rw[QN,QJ,QJ,QJ,QJ]
 by_cases e:i=j
 ·subst e
  by_cases l:i<n
  ·simp[l]
  ·simp[l]
 ·have e':¬ j=i:=λz=>e z.symm
  by_cases l:j<n
  ·simp[l,e,e']
  ·simp[l,e]
theorem zc{f:Nat->Int}(hf:∀j,0<=f j/\f j<1000){i:Nat}{v:Int}(hv:0<=v/\v<1000):∀j,0<=(λj=>if j=i then v else f j) j/\(λj=>if j=i then v else f j) j<1000:=λj=>by
 show 0<=(if j=i then v else f j)/\(if j=i then v else f j)<1000;split
 ·exact hv
 ·exact hf j
noncomputable abbrev eW(d0:D)(f:Nat->Int)(s2 s3 s4:Sl):Ev:=[.dat d0,.own (iL (bX f 280)),s2,s3,s4,.un,.un,.un,.un,.un,.un]
theorem worth(ns:List Int)(hn:ns.length<=63):vU [.lst (ns.map D.int)]=some (.bl true):=by
 obtain⟨f,en,hf⟩:=Hi ns hn 280 KE;obtain⟨b0,b1,eb,h0,h1⟩:=D9 (f 0) (f 1) (f 2) (hf 1) (hf 2);refine b9 rfl ?_;refine(ax ((uN (CJ (ds:=[.lst (ns.map D.int),.int ((280:Nat):Int)]) rfl en)).trans rfl)).trans ?_;generalize D.lst (ns.map D.int)=d0
 have c3:eF (eSl (ah 1) dC (bf (eC (.int 3)))) (eW d0 f .un .un .un)=some (.lst (iL [f 0,f 1,f 2])):=by
  refine jc ?_;show some (Dn.kI (iL (bX f 280)) none (some ((3:Nat):Int)))=_;rw[qy];unfold iL bX;rw[<-Vl,<-Vl,List.take_range];rfl
 refine(ax ((dR ((nC c3).trans eb)).trans rfl)).trans ?_
 have fin:∀(g:Nat->Int) (c0 c1:Int) (xs:List T3) (cs:List Int),(∀j,0<=g j/\g j<1000)->Bs c0 c1->cE [.lst (iL (bX (λj=>g (10+j)) 25)),b2 c0 c1]=some (.tup [.lst (xs.map hD),.lst (iL cs)])->Hs xs->xs.length<=20->Cl cs->cs.length<=24->
   aQ (mV (aL cE (aa (eF (eSl (ah 1) (bf (eC (.int 10))) (bf (eC (.int 35))))) (aa (aj 2) aF))) (ja 2 (aD (ao 3) (aD (ao 4) bM)))) zh (eW d0 g (.dat (b2 c0 c1)) .un .un)=some (.rt (.bl true)):=λg c0 c1 xs cs hg hb eo hx lx hc lc=>by
  have c25:eF (eSl (ah 1) (bf (eC (.int 10))) (bf (eC (.int 35)))) (eW d0 g (.dat (b2 c0 c1)) .un .un)=some (.lst (iL (bX (λj=>g (10+j)) 25))):=by
   refine jc ?_;show some (Dn.kI (iL (bX g 280)) (some ((10:Nat):Int)) (some ((10+25:Nat):Int)))=_;rw[oy g 280 10 25 KE]
  refine(ax (ε':=eW d0 g (.dat (b2 c0 c1)) (.dat (.lst (xs.map hD))) (.dat (.lst (iL cs)))) ?_).trans ?_
  ·have e:aL cE (aa (eF (eSl (ah 1) (bf (eC (.int 10))) (bf (eC (.int 35))))) (aa (aj 2) aF)) (eW d0 g (.dat (b2 c0 c1)) .un .un)=some (.tup [.lst (xs.map hD),.lst (iL cs)]):=(nu c25 rfl).trans eo
   unfold mV;rw[e];rfl
  ·unfold zh
   exact if_pos ⟨d0,iL (bX g 280),b2 c0 c1,xs.map hD,iL cs,Rl (xs.map toH) cs,rfl,DY g hg c0 c1 hb xs cs hx lx hc lc⟩
 by_cases c:f 0%7=6
 ·obtain⟨v,hv,ev⟩:=kU [D.int 996,.int (-996),.int 0] (f 1%3) KM (by show f 1%3<3;lia)
  obtain⟨c0,rfl⟩:∃c0,v=.int c0:=by
   simp only[Ql,Qw,or_false] at hv;rcases hv with z | z | z<;>exact⟨_,z⟩
  obtain⟨w,hw,ew⟩:=kU [D.int (-996),.int 996] (f 2%2) KM (by show f 2%2<2;lia)
  obtain⟨c1,rfl,hc1⟩:∃c1,w=.int c1/\(c1=996\/c1=-996):=by
   simp only[Ql,Qw,or_false] at hw;rcases hw with z | z
   ·exact⟨_,z,.inr rfl⟩
   ·exact⟨_,z,.inl rfl⟩
  have s1:bW 2 (cA (aa (e2 ixD (eF (iI (aa (eC (.int 996)) (aa (kJ (eC (.int 996))) (aa Vw aF))))) (e2 ba (e2 ixD (ah 1) Vy) (eC (.int 3)))) (aa (e2 ixD (eF (iI (aa (kJ (eC (.int 996))) (aa (eC (.int 996)) aF)))) (e2 ba (e2 ixD (ah 1) (eC (.int 2))) (eC (.int 2)))) aF))) (eW d0 f (.dat (b2 b0 b1)) .un .un)=some (.nx (eW d0 f (.dat (b2 c0 c1)) .un .un)):=
   (dR (dO (ds:=[.int c0,.int c1]) (aX (bg (x:=.lst [.int 996,.int (-996),.int 0]) (y:=.int (f 1%3)) rfl rfl ev) (aX (bg (x:=.lst [.int (-996),.int 996]) (y:=.int (f 2%2)) rfl rfl ew) rfl)) (by simp))).trans rfl
  have s2:kG 1 (eC (.int 10)) Vw (eW d0 f (.dat (b2 c0 c1)) .un .un)=some (.nx (eW d0 (λj=>if j=10 then 0 else f j) (.dat (b2 c0 c1)) .un .un)):=by
   rw[qA (m:=10) (ds:=iL (bX f 280)) (d:=.int 0) rfl rfl rfl (by simp[iL,bX]),wX];rfl
  have s3:kG 1 (eC (.int 34)) (eC (.int 8)) (eW d0 (λj=>if j=10 then 0 else f j) (.dat (b2 c0 c1)) .un .un)=some (.nx (eW d0 (λj=>if j=34 then 8 else if j=10 then 0 else f j) (.dat (b2 c0 c1)) .un .un)):=by
   rw[qA (m:=34) (ds:=iL (bX (λj=>if j=10 then 0 else f j) 280)) (d:=.int 8) rfl rfl rfl (by simp[iL,bX]),wX];rfl
  refine(ax ((lK (f 0%7=6) rfl c).trans ((ax s1).trans ((ax s2).trans s3)))).trans ?_;exact fin _ c0 c1 [] [] (zc (zc hf KE) KE) (.inr hc1) (Dh _ c0 c1 rfl rfl) (λt ht=>by cases ht) (by simp) ⟨KC,λt ht=>by cases ht⟩ (by simp)
 ·obtain⟨xs,cs,eo,hx,lx,hc,lc⟩:=yr (λj=>f (10+j)) (λj=>hf (10+j)) b0 b1 h0 h1
  refine(ax ((gX (f 0%7=6) rfl c).trans rfl)).trans ?_;exact fin f b0 b1 xs cs hf (.inl ⟨h0,h1⟩) eo hx lx hc lc
end Lw
open PySem PySem.W PyProof.Rows
set_option maxRecDepth 100000 in
set_option maxHeartbeats 0 in
theorem PySem.Challenge.cw_ballastbook_k43_balloons_launched_holds : PySem.Challenge.rw_ballastbook_k43_balloons_launched.Holds := by
 w_on; refine hd ?_
 k_fill
 refine Lw.walk (l:=PySem.Challenge.rw_ballastbook_k43_balloons_launched) rfl rfl rfl (λw h Y=>PySem.W.kIn_of Y) Lw.worth ?F
 case F=>
  intro w mg h KX G;apply Lw.GO
  ·apply Lw.HY KX G<;>first | k_is | (apply Lw.yg<;>k_is) | (apply Lw.EE<;>k_is)
  ·apply PySem.W.mg_none_of KX G;k_is
  ·apply PySem.W.mg_none_of KX G;k_is
  ·apply PySem.W.mg_of KX G;k_is
  ·k_is
  ·k_is
  ·k_is
  ·k_is
  ·apply Dn.gP;iterate 4 k_is
   intro _ _ _ _ _ _;exact Dn.Ef λ_ _ _=>rfl
  ·apply Dn.gP;iterate 4 k_is
   intro _ _ _ _ _ _;exact Dn.AX λ_=>rfl
  ·apply Dn.gP;iterate 4 k_is
   intro _ _ _ _ _ _;exact Dn.rM λ_ _=>rfl
  ·apply Dn.gP;iterate 4 k_is
   intro _ _ _ _ _ _;exact Dn.rM λ_ _=>rfl
  ·apply Dn.gP;iterate 4 k_is
   intro _ _ _ _ _ _;exact Dn.rM λ_ _=>rfl
  ·apply Dn.gP;iterate 4 k_is
   intro _ _ _ _ _ _;exact Dn.rM λ_ _=>rfl
  ·apply Dn.gP;iterate 4 k_is
   intro _ _ _ _ _ _;exact Dn.IY λ_ _ _ _=>rfl
  ·apply Dn.gP;iterate 4 k_is
   intro _ _ _ _ _ _;exact Dn.Ef λ_ _ _=>rfl
  ·apply Dn.gP;iterate 4 k_is
   intro _ _ _ _ _ _;exact Dn.rM λ_ _=>rfl
  ·apply Dn.gP;iterate 4 k_is
   intro _ _ _ _ _ _;exact Dn.rM λ_ _=>rfl
  ·apply Dn.gP;iterate 4 k_is
   intro _ _ _ _ _ _;exact Dn.AX λ_=>rfl
  ·apply Dn.gP;iterate 4 k_is
   intro _ _ _ _ _ _;exact Dn.AX λ_=>rfl
  ·apply Dn.gP;iterate 4 k_is
   intro _ _ _ _ _ _;exact Dn.AX λ_=>rfl
  ·apply Dn.gP;iterate 4 k_is
   intro _ _ _ _ _ _;exact Dn.AX λ_=>rfl
  ·apply Dn.gP;iterate 4 k_is
   intro _ _ _ _ _ _;exact Dn.rM λ_ _=>rfl
  ·apply Dn.gP;iterate 4 k_is
   intro _ _ _ _ _ _;exact Dn.rM λ_ _=>rfl
  ·apply Dn.gP;iterate 4 k_is
   intro _ _ _ _ _ _;exact Dn.rM λ_ _=>rfl
  ·apply Dn.gP;iterate 4 k_is
   intro _ _ _ _ _ _;exact Dn.rM λ_ _=>rfl
  ·apply Lw.BO 14 Lw.hb1 Lw.rf1 KX G rfl ⟨rfl,rfl,rfl,by decide +kernel,rfl,by decide +kernel,by decide +kernel⟩ rfl rfl;iterate 9 k_is
   intro _ _ _ _ _ _ _ _ hh;exact PySem.BindsTo.of_defaults rfl hh rfl rfl rfl
  ·apply Lw.dA 15 KX G rfl ⟨rfl,rfl,rfl,by decide +kernel,rfl,by decide +kernel,by decide +kernel⟩ rfl rfl;iterate 12 k_is
   intro _ _ _ _ _ _ _ _ hh;exact PySem.BindsTo.of_defaults rfl hh rfl rfl rfl
  ·apply Lw.dA 16 KX G rfl ⟨rfl,rfl,rfl,by decide +kernel,rfl,by decide +kernel,by decide +kernel⟩ rfl rfl;iterate 12 k_is
   intro _ _ _ _ _ _ _ _ hh;exact PySem.BindsTo.of_defaults rfl hh rfl rfl rfl
  ·apply Lw.dA 17 KX G rfl ⟨rfl,rfl,rfl,by decide +kernel,rfl,by decide +kernel,by decide +kernel⟩ rfl rfl;iterate 12 k_is
   intro _ _ _ _ _ _ _ _ hh;exact PySem.BindsTo.of_defaults rfl hh rfl rfl rfl
  ·apply Lw.dA 18 KX G rfl ⟨rfl,rfl,rfl,by decide +kernel,rfl,by decide +kernel,by decide +kernel⟩ rfl rfl;iterate 12 k_is
   intro _ _ _ _ _ _ _ _ hh;exact PySem.BindsTo.of_defaults rfl hh rfl rfl rfl
  ·apply Lw.dA 19 KX G rfl ⟨rfl,rfl,rfl,by decide +kernel,rfl,by decide +kernel,by decide +kernel⟩ rfl rfl;iterate 12 k_is
   intro _ _ _ _ _ _ _ _ hh;exact PySem.BindsTo.of_defaults rfl hh rfl rfl rfl
  ·apply Lw.dA 20 KX G rfl ⟨rfl,rfl,rfl,by decide +kernel,rfl,by decide +kernel,by decide +kernel⟩ rfl rfl;iterate 12 k_is
   intro _ _ _ _ _ _ _ _ hh;exact PySem.BindsTo.of_defaults rfl hh rfl rfl rfl
  ·apply Lw.dA 21 KX G rfl ⟨rfl,rfl,rfl,by decide +kernel,rfl,by decide +kernel,by decide +kernel⟩ rfl rfl;iterate 12 k_is
   intro _ _ _ _ _ _ _ _ hh;exact PySem.BindsTo.of_defaults rfl hh rfl rfl rfl
  ·apply Lw.dA 22 KX G rfl ⟨rfl,rfl,rfl,by decide +kernel,rfl,by decide +kernel,by decide +kernel⟩ rfl rfl;iterate 12 k_is
   intro _ _ _ _ _ _ _ _ hh;exact PySem.BindsTo.of_defaults rfl hh rfl rfl rfl
  ·apply Lw.dA 23 KX G rfl ⟨rfl,rfl,rfl,by decide +kernel,rfl,by decide +kernel,by decide +kernel⟩ rfl rfl;iterate 12 k_is
   intro _ _ _ _ _ _ _ _ hh;exact PySem.BindsTo.of_defaults rfl hh rfl rfl rfl
  ·apply Lw.dA 24 KX G rfl ⟨rfl,rfl,rfl,by decide +kernel,rfl,by decide +kernel,by decide +kernel⟩ rfl rfl;iterate 12 k_is
   intro _ _ _ _ _ _ _ _ hh;exact PySem.BindsTo.of_defaults rfl hh rfl rfl rfl
  ·apply Lw.dA 25 KX G rfl ⟨rfl,rfl,rfl,by decide +kernel,rfl,by decide +kernel,by decide +kernel⟩ rfl rfl;iterate 12 k_is
   intro _ _ _ _ _ _ _ _ hh;exact PySem.BindsTo.of_defaults rfl hh rfl rfl rfl
  ·apply Lw.dA 26 KX G rfl ⟨rfl,rfl,rfl,by decide +kernel,rfl,by decide +kernel,by decide +kernel⟩ rfl rfl;iterate 12 k_is
   intro _ _ _ _ _ _ _ _ hh;exact PySem.BindsTo.of_defaults rfl hh rfl rfl rfl
  ·apply Lw.dA 27 KX G rfl ⟨rfl,rfl,rfl,by decide +kernel,rfl,by decide +kernel,by decide +kernel⟩ rfl rfl;iterate 12 k_is
   intro _ _ _ _ _ _ _ _ hh;exact PySem.BindsTo.of_defaults rfl hh rfl rfl rfl
  ·apply Lw.dA 28 KX G rfl ⟨rfl,rfl,rfl,by decide +kernel,rfl,by decide +kernel,by decide +kernel⟩ rfl rfl;iterate 12 k_is
   intro _ _ _ _ _ _ _ _ hh;exact PySem.BindsTo.of_defaults rfl hh rfl rfl rfl
  ·apply Lw.dA 29 KX G rfl ⟨rfl,rfl,rfl,by decide +kernel,rfl,by decide +kernel,by decide +kernel⟩ rfl rfl;iterate 12 k_is
   intro _ _ _ _ _ _ _ _ hh;exact PySem.BindsTo.of_defaults rfl hh rfl rfl rfl
  ·apply Lw.dA 30 KX G rfl ⟨rfl,rfl,rfl,by decide +kernel,rfl,by decide +kernel,by decide +kernel⟩ rfl rfl;iterate 12 k_is
   intro _ _ _ _ _ _ _ _ hh;exact PySem.BindsTo.of_defaults rfl hh rfl rfl rfl
  ·apply Lw.dA 31 KX G rfl ⟨rfl,rfl,rfl,by decide +kernel,rfl,by decide +kernel,by decide +kernel⟩ rfl rfl;iterate 12 k_is
   intro _ _ _ _ _ _ _ _ hh;exact PySem.BindsTo.of_defaults rfl hh rfl rfl rfl
  ·apply Lw.dA 32 KX G rfl ⟨rfl,rfl,rfl,by decide +kernel,rfl,by decide +kernel,by decide +kernel⟩ rfl rfl;iterate 12 k_is
   intro _ _ _ _ _ _ _ _ hh;exact PySem.BindsTo.of_defaults rfl hh rfl rfl rfl
  ·apply Lw.dA 33 KX G rfl ⟨rfl,rfl,rfl,by decide +kernel,rfl,by decide +kernel,by decide +kernel⟩ rfl rfl;iterate 12 k_is
   intro _ _ _ _ _ _ _ _ hh;exact PySem.BindsTo.of_defaults rfl hh rfl rfl rfl
  ·apply Dn.Ek (st:=Dn.mth (Lw.top 34)) (qual:="Stopped.__init__") (S:=⟨rfl,rfl,rfl,by decide +kernel,rfl,by decide +kernel,by decide +kernel⟩) (sides:=⟨by decide,by decide,by decide,by decide,rfl,rfl,rfl,by decide,by decide,by decide,by decide⟩) KX G rfl<;>first | k_is | (intro _ _ _ _ _ _;exact Dn.Ef λ_ _ _=>rfl)
  ·apply Lw.Dk KX G;iterate 8 k_is
   intro _ _ _ _ _ _ _ _ _ _ _ _ hh;exact PySem.BindsTo.of_defaults rfl hh rfl rfl rfl
  ·apply PySem.W.mg_of KX G;k_is
  ·apply Lw.Fc;k_is
  ·apply PySem.W.mg_of KX G;k_is
  ·apply Lw.Fc;k_is
  ·decide
  ·decide
  ·decide
  all_goals
   apply Dn.IC KX G
   iterate 4 k_is
   intro _ _ _ _ _ _
   first | exact Dn.AX λ_=>rfl | exact Dn.rM λ_ _=>rfl | exact Dn.Ef λ_ _ _=>rfl | exact Dn.IY λ_ _ _ _=>rfl | exact Dn.JL λ_ _ _ _ _=>rfl
#print axioms PySem.Challenge.cw_ballastbook_k43_balloons_launched_holds
