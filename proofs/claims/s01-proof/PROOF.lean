import PyProof.Rows.All
import VbxoabSpec
import PyVbxoab
import Wide.All
import OpenK.AllK
import Wide.FinOn
import PyProof.EqAt
import PyProof.EqKinds
import PyProof.TupleCall
import KE.BitLaws
import KE.KLam
import KE.KSortTup
import PyProof.Rows.SortG.SortRunsSt
import KE.KDictList
import KE.KDictOf
import PyProof.Rows.FStr
import PyProof.Draws
import PyProof.ZipIter
import PyProof.TupleIter
import KE.KMinKey
import PyProof.Rows.SetFrom
import KE.KNestM
import PyProof.StrLawsChain
import Open.SpecLaws
import KE.OsHead
import KE.OsGo
import KE.IntTextLaws
import PySem.Challenge.RW_paperbank_s01_answers
set_option Elab.async false
set_option linter.all false
set_option maxRecDepth 100000
set_option maxHeartbeats 2000000
set_option bootstrap.genMatcherCode false
set_option compiler.extract_closed false
set_option genSizeOf false
namespace PySem.W.Fast
def tw11553677543776684414:=0
def tw8789138552582062326:=0
def tw10011867776175576146:=0
def tw672139958746320154:=0
def tw1782423145336522936:=0
def tw14027105606403604048:=0
def tw12532076430760351222:=0
def tw11300520606076368304:=0
def tw3950145846959375592:=0
def tw413836798607316121:=0
def tw8062915900947737162:=0
def tw11939628841271941757:=0
def tw4836549760579229682:=0
def tw2360938938786382485:=0
def tw15719591402537833240:=0
def tw4664771129273997583:=0
def tw8565009191468996469:=0
def tw13086363907991504165:=0
def tw10574028255496667436:=0
def tw9407822675210170018:=0
def tw13951767103136497205:=0
def tw3267557275732646487:=0
def tw7149783086983756110:=0
def tw13047354879290126329:=0
def tw11353432751671473515:=0
def tw8607249811002696454:=0
def tw16294230680819863860:=0
def tw3437130524186977788:=0
def tw1457018690302613521:=0
def tw13377452632303925895:=0
def tw16198094373954887024:=0
def tw3155220025199078371:=0
def tw4319603116755166470:=0
def tw3812794697979505370:=0
def tw7596364526533332965:=0
def tw5596726060905353372:=0
def tw42635769561789610:=0
def tw14078396995627030964:=0
def tw827362061362789242:=0
def tw8088985193154221911:=0
def tw10978136815051444834:=0
def tw1355462233443473782:=0
def tw4436254077912525925:=0
def tw2892566323113856730:=0
def tw4564356659115420111:=0
def tw12414013423026370231:=0
def tw5991343984916213433:=0
def tw7765498427313630666:=0
def tw9694732676806354703:=0
def tw4803767399169150557:=0
def tw9794976613484815116:=0
def tw7086551134240096438:=0
def tw5243714901355727576:=0
def tw11765704264927720149:=0
def tw10157420218021866585:=0
def tw9457342462985915523:=0
def tw6510674918627740201:=0
def tw10024162066282490698:=0
def tw6660866104280499886:=0
def tw6336850391797968514:=0
def tw2291516588884280538:=0
def tw11848087036854219420:=0
def tw12126149301411575057:=0
def tw18105788578829617236:=0
def tw9801520391278067222:=0
def tw11122890116701961053:=0
def tw5190408535606841340:=0
def tw10506643075793214491:=0
def tw1591387344062183659:=0
def tw2956379641906951549:=0
def tw2785122978730938816:=0
def tw11577059685043635631:=0
def tw4713132121686560367:=0
def tw15243717035562507468:=0
def tw16516272715220997612:=0
def tw16562637452334157828:=0
def tw15848865965973917225:=0
def tw595409392810124278:=0
def tw54954776300192111:=0
def tw12286445118231213709:=0
def tw8940639298384060933:=0
def tw543276965979866990:=0
def tw17843457941829338071:=0
def tw5304874942291313786:=0
def tw2073302758270990905:=0
def tw2949059814274434719:=0
def tw3470466836869413742:=0
def tw16503116058187632374:=0
def tw2496085723931848206:=0
def tw2854976008373801681:=0
def tw9340601442569218869:=0
def tw7802973566134989968:=0
def tw1458378131894379823:=0
def tw16451282006678944022:=0
def tw17447506075501167166:=0
def tw10170064190891351221:=0
def tw16303665706680450827:=0
def tw16306160818959816682:=0
def tw14967510669100089490:=0
def tw17475347228954896456:=0
def tw7993828171050969669:=0
def tw162430584146807209:=0
def tw17476269366284968397:=0
def tw4913566031425769297:=0
def tw16529984872533936948:=0
def tw18421380700956747449:=0
def tw1255815577985365360:=0
def tw10648892896033544196:=0
def tw6693128874361671805:=0
def tw8268049137868295675:=0
def tw1327409652695753709:=0
def tw18304893506668362829:=0
def tw10670471560630344010:=0
def tw18375379953121093984:=0
def tw8965896869612128190:=0
def tw4503257648227828048:=0
def tw17238221166914730979:=0
def tw15403353259738843311:=0
def tw12982788941021391409:=0
def tw18258354155085693650:=0
def tw3432930135786340185:=0
def tw1690969751092698795:=0
def tw633668634576002510:=0
def tw10277721163770988290:=0
def tw6521518813833562394:=0
def tw1556836088281617451:=0
def tw3501000129742529036:=0
def tw10179561631243481739:=0
def tw14070883251802409415:=0
def tw5586705354929676321:=0
def tw4548197567869790171:=0
def tw8939819503935766233:=0
def tw8389521962036613003:=0
def tw17320689177078181627:=0
def tw1184626027721919562:=0
def tw6632761888336068228:=0
def tw10519774701145124530:=0
def tw6322345674181732022:=0
def tw14090703053111615708:=0
def tw15398557141345147855:=0
def tw9241192271838187994:=0
def tw3292418544518303513:=0
def tw7885125519698716222:=0
def tw17970823186896186435:=0
def tw7158677197984911247:=0
def tw14861794329319850847:=0
def tw2566893332169558810:=0
def tw7217943788217610188:=0
def tw4681794004696997269:=0
def tw1423234051611898738:=0
def tw14346014841370160679:=0
def tw11085048612396270287:=0
def tw8106071849977598040:=0
def tw5212216285085999487:=0
def tw17160028598097456371:=0
def tw16524419220117526109:=0
def tw9267839273494609739:=0
def tw7220957441816758613:=0
def tw3366623618645512452:=0
def tw14875346097994823613:=0
def tw16322879141071955009:=0
def tw2683147641158543166:=0
def tw8022113267091543057:=0
def tw15996080128921317881:=0
def tw4326871970586213450:=0
def tw4049273862074368428:=0
def tw17587948586135999876:=0
def tw17480157529023168407:=0
def tw12260418917058398498:=0
def tw4588257569334758324:=0
def tw276047601704391325:=0
def tw9894495119813171654:=0
def tw18322069233310554296:=0
def tw12015904913223384203:=0
def tw5151190849525192844:=0
def tw14957604072779813160:=0
def tw7427568213126019402:=0
def tw9761741043147482403:=0
def tw6870403228064944610:=0
def tw12604611643103533889:=0
def tw2491982167180164371:=0
def tw6407119099253061183:=0
def tw17115631846209559600:=0
def tw8190522772363457859:=0
def tw13664689245521583624:=0
def tw9950635860554508391:=0
def tw16451357346700627551:=0
def tw11084848750775455645:=0
def tw17107196560899499133:=0
def tw10620909580227777963:=0
def tw8169146202109057448:=0
def tw10602939481498107912:=0
def tw7167180263253684762:=0
def tw17179533447595053045:=0
def tw11540975471804146169:=0
def tw12309054293051487268:=0
def tw9622356957239573713:=0
def tw7544294316847568707:=0
def tw8763673816793834171:=0
def tw17908653562959904317:=0
def tw5234959869847732845:=0
def tw8729710558003671181:=0
def tw11709290289648183549:=0
def tw5915389227917456581:=0
def tw2336988262874483985:=0
def tw1894525792112471910:=0
def tw17877483617546626659:=0
def tw11366184528894391549:=0
def tw4203000712427144848:=0
def tw16830490235572787093:=0
def tw11276022578365857301:=0
def tw5620977157109342512:=0
def tw1827280245657184270:=0
def tw18192002069931697903:=0
def tw12709679978151034414:=0
def tw7513303758035962024:=0
def tw14835146423801477335:=0
def tw1231069330518860197:=0
def tw5669117973171614424:=0
def tw7362568507260660308:=0
def tw599980367064218204:=0
def tw14794656030266004119:=0
def tw4712768201853242424:=0
def tw565626657983367792:=0
def tw8430585744639455473:=0
def tw11800066603539004559:=0
def tw11946615746292406016:=0
def tw3129280344017167193:=0
def tw6611341041863861923:=0
def tw17334548404167742818:=0
def tw1185326833281350342:=0
def tw8679357503345740171:=0
def tw8320315760849611553:=0
def tw2996815967515388486:=0
def tw5492377937459855764:=0
def tw12994843347875749744:=0
def tw9569504254853254746:=0
def tw510254827113461808:=0
def tw8580756321984684762:=0
def tw5986876011498747790:=0
def tw15474959379855090337:=0
def tw5539517678040461980:=0
def tw5445147850401773269:=0
def tw15704442482176250486:=0
def tw5798066479139284963:=0
def tw266211734199616654:=0
def tw6012121515124068773:=0
def tw8495737056251045399:=0
def tw12142930564034913166:=0
def tw14131915967268956817:=0
def tw679854677327459217:=0
def tw13441909054260431115:=0
def tw8566449441395016120:=0
def tw7444320044742819754:=0
def tw14718982097952054843:=0
def tw433451217959638117:=0
def tw4932761826639149210:=0
def tw6515655518349926844:=0
end PySem.W.Fast
section
open PySem PySem.W PyProof.Rows
set_option maxHeartbeats 0
theorem Ys:Challenge.rw_paperbank_s01_answers.wellSaid=true:=by decide+kernel
def Yw:OpenSpec:= .mk Challenge.pw_paperbank_s01_answers "as_number" [.unit] (.int 0 1) (λ_=>true) λ_=>0
theorem Yo:Yw.Holds:=by
 open_ks with [.none]
 decide+kernel
noncomputable def Yk (P:Params):Frag:=((Yo.heap_702 P).objs.toList.zipIdx.map λx=>(x.2,x.1)).filter (·.1!=455)
def Ym:List Addr:=(List.range 684).filter (·!=455)
theorem Yh (P:Params):Ym=(Yk P).map (·.1):=by kernel_rfl
theorem Yj (w:World):Ym.map (Yo.heap_702 w.params).get? =(Yk w.params).map λp=>some p.2:=by kernel_rfl
end
local macro_rules|`(tactic|simp)=>`(tactic|first|exact rfl|decide|exact .head _|exact .tail _<|.head _|exact .tail _<|.tail _<|.head _|simp[])
inductive B_{a b:Type}(P:a->b->Prop):Prop|mk x y(_:P x y)
inductive C_{a b c:Type}(P:a->b->c->Prop):Prop|mk x y z(_:P x y z)
inductive D_{a b c d:Type}(P:a->b->c->d->Prop):Prop|mk x y z u(_:P x y z u)
inductive E_{a b c d e:Type}(P:a->b->c->d->e->Prop):Prop|mk x y z u v(_:P x y z u v)
inductive F_{a b c d e f:Type}(P:a->b->c->d->e->f->Prop):Prop|mk x y z u v w(_:P x y z u v w)
inductive G_{a b c d e f g:Type}(P:a->b->c->d->e->f->g->Prop):Prop|mk x y z u v w p(_:P x y z u v w p)
inductive H_{a b c d e f g h:Type}(P:a->b->c->d->e->f->g->h->Prop):Prop|mk x y z u v w p q(_:P x y z u v w p q)
inductive I_{a b c d e f g h i:Type}(P:a->b->c->d->e->f->g->h->i->Prop):Prop|mk x y z u v w p q r(_:P x y z u v w p q r)
inductive J_{a b c d e f g h i j:Type}(P:a->b->c->d->e->f->g->h->i->j->Prop):Prop|mk x y z u v w p q r s(_:P x y z u v w p q r s)
inductive K_{a b c d e f g h i j k l:Type}(P:a->b->c->d->e->f->g->h->i->j->k->l->Prop):Prop|mk x y z u v w p q r s t o(_:P x y z u v w p q r s t o)
abbrev a0:=@PySem.wpAny_bind
abbrev ek:=@List.length_map
abbrev et:=@PySem.Heap.get?_push_of_some
abbrev gs:=@List.getElem?_eq_getElem
abbrev c0:=@if_neg
abbrev l4:=@List.getElem?_eq_some_iff
abbrev dt:=@if_pos
abbrev eH:=@List.mem_cons
abbrev er:=@PySem.wpAny_pure
abbrev kB:=@List.mem_cons_of_mem
abbrev ip:=@List.map_cons
abbrev kA:=@List.length_cons
abbrev kx:=@decide_eq_false
abbrev ez:=@Nat.le_refl
abbrev ki:=@decide_eq_true
abbrev lx:=@List.mem_cons_self
abbrev m8:=@PySem.Heap.get?_push_size
abbrev mq:=@List.getElem?_map
abbrev mu:=@List.length_append
abbrev oA:=@List.mem_of_getElem?
abbrev ky:=@PySem.Heap.lt_size
abbrev alV:=@List.set_cons_succ
abbrev alW:=@List.set_cons_zero
abbrev pd:=@List.size_toArray
abbrev nM:=@List.nodup_cons
abbrev mf:=@PySem.Paired.length
abbrev oI:=@List.mem_singleton
abbrev lp:=@Nat.le_trans
abbrev u7:=@List.not_mem_nil
abbrev p0:=@Bool.and_eq_true
abbrev rP:=@Bool.false_ne_true
abbrev sd:=@Nat.lt_of_lt_of_le
abbrev nP:=@Nat.ne_of_lt
abbrev iq:=@Ne.symm
abbrev n8:=@List.mem_map
abbrev q7:=@Bool.eq_iff_iff
abbrev t5:=@Int.toNat_natCast
abbrev ro:=@List.mem_append
abbrev ri:=@Option.some.inj
abbrev oW:=@List.map_map
abbrev tL:=@List.mem_filter
abbrev t4:=@List.map_append
abbrev xD:=@Array.length_toList
abbrev xn:=@PySem.mem_of_lookup
abbrev B1:=@List.length_filter_le
abbrev wh:=@List.length_nil
abbrev vu:=@PySem.PassesOwn.never
abbrev vr:=@PySem.Heap.size_push
abbrev wy:=@List.all_eq_true
abbrev F4:=@List.getD_eq_getElem?_getD
abbrev ti:=@Nat.zero_le
abbrev zD:=@List.map_congr_left
abbrev y1:=@of_decide_eq_true
abbrev t6:=@or_false
abbrev F3:=@List.getElem?_append_left
abbrev yI:=@List.sum_cons
abbrev B9:=@List.mem_append_right
abbrev HK:=@PyProof.Rows.callWith_type1
abbrev B3:=@decide_eq_true_iff
abbrev E7:=@PySem.Heap.get?_update_other
abbrev zd:=@List.length_take
abbrev yD:=@PySem.wpAny_seqItems
abbrev EA:=@List.filterMap_cons
abbrev B8:=@Nat.le_succ_of_le
abbrev F7:=@List.zip_cons_cons
abbrev Ey:=@PySem.wpAny_setField_rec
abbrev wx:=@PySem.wpAny_field
abbrev B5:=@List.append_nil
abbrev F1:=@List.nodup_nil
abbrev B7:=@List.take_length
abbrev Ep:=@List.foldl_append
abbrev Ed:=@List.append_assoc
abbrev J7:=@List.mem_iff_getElem?
abbrev Pa:=@List.getElem?_append_right
abbrev B4:=@List.all_cons
abbrev B2:=@Nat.ne_of_gt
abbrev F6:=@PySem.wpAny_truthy_bool
abbrev O3:=@PySem.wpAny_callSpecial?_slot
abbrev OF:=@PySem.F.plainAttrs_list
abbrev F5:=@List.filter_cons
abbrev Oc:=@List.take_of_length_le
abbrev Oa:=@decide_eq_true_eq
abbrev JW:=@List.filter_congr
abbrev y2:=@PySem.wpAny_mono
abbrev Ic:=@PySem.wpAny_pyIter_list
abbrev Dj:=@Nat.lt_irrefl
abbrev Cn:=@PySem.wpAny_holding
abbrev Pm:=@List.getElem?_eq_none
abbrev Pl:=@Array.getElem?_toList
abbrev F9:=@List.forIn_cons
abbrev K0:=@PySem.wpAny_Call_Name_kw
abbrev y3:=@not_or
abbrev Pd:=@Bool.false_eq_true
abbrev Ki:=@List.cons_append
abbrev am7:=@Option.bind_some
abbrev Ka:=@List.getElem_mem
abbrev F8:=@List.mem_range
abbrev B6:=@PySem.wpAny_letGo
abbrev Kd:=@PySem.wpAny_setState_of
abbrev Mi:=@List.getElem?_range
abbrev Mh:=@beq_eq_false_iff_ne
abbrev Mg:=@List.replicate_succ
abbrev Mf:=@PySem.Heap.SameBut.update
abbrev Me:=@Option.map_some
abbrev Hr:=@List.foldl_cons
abbrev Hd:=@List.length_zip
abbrev Kc:=@List.any_eq_true
abbrev F2:=@Bool.true_and
abbrev Qn:=@Nat.pow_le_pow_right
abbrev GS:=@List.forIn_nil
abbrev R1:=@PySem.F.slot_list_append
abbrev Md:=@List.length_range
abbrev Mc:=@Bool.not_eq_true'
abbrev ant:=@not_false_eq_true
abbrev anu:=@List.findIdx?_eq_some_iff_getElem
abbrev RG:=@PySem.F.plain_min_loop
abbrev GA:=@PySem.wpAny_onRaise
abbrev Mb:=@List.length_drop
abbrev Ma:=@PySem.wpAny_call_entry
abbrev R6:=@PySem.Heap.get?_update_self
abbrev HD:=@List.map_nil
abbrev R5:=@List.mem_append_left
abbrev NV:=@PySem.F.slot_zip_next
abbrev WA:=@PySem.F.type_list_append
abbrev Q4:=@List.nodup_append
abbrev Q3:=@List.flatMap_cons
abbrev Q2:=@List.ext_getElem?
abbrev Q1:=@Nat.lt_succ_of_lt
abbrev Kh:=@List.any_cons
abbrev QY:=@Nat.lt_succ_self
abbrev anL:=@List.lookup_cons
abbrev QN:=@Nat.le_add_right
abbrev M5:=@List.Perm.refl
abbrev Wx:=@Nat.testBit_lt_two_pow
abbrev Kg:=@PySem.codeAny_mono
abbrev Kf:=@List.all_map
abbrev Ke:=@PySem.Sem.wp_bind'
abbrev R4:=@Array.forIn_toList
abbrev Wc:=@List.contains_iff_mem
abbrev VI:=@List.length_replicate
abbrev QF:=@PySem.wpAny_passesOwn
abbrev Qs:=@Nat.min_eq_left
abbrev anY:=@PySem.F.slot_tuple_iterator_next
abbrev R3:=@PySem.Heap.SameBut.refl
abbrev WI:=@Nat.mul_le_mul_right
abbrev Q5:=@Bool.false_and
abbrev Sm:=@Nat.shiftLeft_eq
abbrev Si:=@PySem.wpAny_pyIter_zip
abbrev Sh:=@Nat.le_of_not_lt
abbrev R8:=@PySem.wpAny_isInstance
abbrev NX:=@PySem.F.called_set
abbrev R7:=@List.cons_ne_nil
abbrev an8:=@List.getElem?_cons_zero
abbrev an9:=@decide_eq_false_iff_not
abbrev PU:=@Bool.and_true
abbrev Pt:=@if_true
abbrev LM:=@beq_iff_eq
abbrev U0:=@Bool.or_eq_true
abbrev Q9:=@List.of_mem_zip
abbrev Q8:=@List.find?_cons
abbrev Kb:=@PySem.wpAny_rule
abbrev YC:=@List.range_succ_eq_map
abbrev LI:=@if_false
abbrev UG:=@List.flatten_cons
abbrev Uv:=@PySem.wpAny_dictEntries
abbrev Ur:=@PySem.wpAny_storeSet_of
abbrev Yy:=@List.singleton_append
abbrev Q7:=@PySem.Value.type.inj
abbrev Yq:=@Bool.not_eq_true
abbrev LC:=@PySem.call_meets
abbrev Ud:=@List.zipIdx_cons
abbrev X9:=@Bool.and_eq_true_iff
abbrev Q6:=@PySem.wpAny_attempt
abbrev Pr:=@PySem.sizeLine_eq
abbrev X8:=@Nat.testBit_two_pow
abbrev aov:=@List.toList_toArray
abbrev aow:=@Std.Legacy.Range.forIn_eq_forIn_range'
abbrev Uc:=@List.length_set
abbrev aoy:=@List.getElem?_eq_none_iff
abbrev T8:=@List.nil_append
abbrev aoA:=@List.findIdx?_eq_none_iff
abbrev aoB:=@List.mem_or_eq_of_mem_set
abbrev aoC:=@PySem.wpAny_letOwnedTupleGo_zip
abbrev aoD:=@Array.getElem?_eq_getElem
abbrev aoE:=@List.drop_eq_getElem_cons
abbrev Vf:=@Nat.zero_add
abbrev aoG:=@List.getElem?_take_of_lt
abbrev Ra:=@Nat.le_of_lt
abbrev Z9:=@PySem.wpAny_pyIter_tuple
abbrev aoJ:=@Option.isSome_iff_exists
abbrev aoK:=@PySem.F.args_tuple_add_2
abbrev Z5:=@PySem.tupleKind_room_in1
abbrev ZL:=@and_true
abbrev Zu:=@of_decide_eq_false
abbrev aoO:=@List.filterMap_map
abbrev Zp:=@List.filter_append
abbrev Qm:=@PySem.typeIs_str
abbrev aoR:=@PySem.F.entry_tuple_add
abbrev Zo:=@List.reverse_cons
abbrev aoT:=@List.getElem?_set
abbrev Zl:=@Bool.not_eq_false
abbrev Zb:=@List.any_eq_false
abbrev Za:=@Nat.le_of_succ_le
abbrev YL:=@PySem.wpAny_pyIter_enum
abbrev YK:=@List.take_add_one
abbrev YH:=@PySem.F.args_zip_next_1
abbrev ao0:=@List.getElem?_set_self
abbrev Rb:=@Nat.le_succ
abbrev ao2:=@PySem.F.slot_tuple_add
abbrev ao3:=@PySem.Calls.callWith_builtin
abbrev ao4:=@PySem.F.slot_list_extend
abbrev ao5:=@List.pairwise_lt_range
abbrev ao6:=@List.zipWith_cons_cons
abbrev Vr:=@List.map_take
abbrev Vj:=@List.map_drop
abbrev ao9:=@PySem.wpAny_forIn_list
abbrev Xv:=@PySem.F.slot_str_split
abbrev Xs:=@PySem.F.entry_zip_next
abbrev apc:=@List.getElem?_toArray
abbrev apd:=@List.mem_of_mem_head?
abbrev Xr:=@List.all_append
abbrev TJ:=@List.any_map
abbrev apg:=@Int.natCast_mul
abbrev aph:=@List.getElem?_of_mem
abbrev api:=@List.getElem?_set_ne
abbrev Xo:=@PySem.wpAny_execs_nil
abbrev SJ:=@Nat.le_of_eq
abbrev Xj:=@PySem.pushCells_keeps
abbrev apm:=@Array.toArray_toList
abbrev Xc:=@List.filter_map
abbrev W8:=@PySem.wpAny_updateSeq
abbrev WO:=@List.zipIdx_nil
abbrev WM:=@PyProof.Rows.get?_update_seq
abbrev SF:=@Int.zero_add
abbrev apt:=@List.mem_of_mem_take
abbrev apu:=@List.mem_of_mem_drop
abbrev apv:=@List.eq_nil_of_length_eq_zero
abbrev apw:=@List.flatMap_append
abbrev apx:=@Int.toNat_of_nonneg
abbrev apy:=@ne_true_of_eq_false
abbrev apz:=@List.filterMap_some
abbrev XW:=@Nat.testBit_or
abbrev XT:=@List.drop_zero
abbrev XQ:=@PySem.wpAny_tryCatch
abbrev apD:=@PySem.W.length_le_weightAllW
abbrev TN:=@Nat.one_mul
abbrev TK:=@Nat.mul_add
abbrev apG:=@List.pairwise_cons
abbrev apH:=@Int.mul_lt_mul_of_pos_right
abbrev apI:=@PySem.W.callWith_K
abbrev apJ:=@PySem.F.args_str_split_2
abbrev apK:=@Nat.lt_of_le_of_lt
abbrev apL:=@List.filter_filter
abbrev apM:=@PySem.StrLaws.glued_eq_join
abbrev apN:=@List.mem_eraseDups
abbrev apO:=@Nat.mul_lt_mul_of_pos_right
abbrev apP:=@Nat.mul_right_comm
abbrev apQ:=@Int.lt_of_mul_lt_mul_right
abbrev XM:=@PySem.wpAny_standAt
abbrev XB:=@PySem.plainId_quiet
abbrev XA:=@List.cons.inj
abbrev apU:=@List.perm_ext_iff_of_nodup
abbrev apV:=@Nat.lt_of_mul_lt_mul_right
abbrev apW:=@List.pairwise_map
abbrev apX:=@Option.isSome_map
abbrev apY:=@Option.some.injEq
abbrev Xw:=@Nat.pow_succ
abbrev X3:=@Int.le_of_lt
abbrev X0:=@Nat.succ_mul
abbrev XZ:=@Nat.lt_trans
abbrev XX:=@Nat.add_zero
abbrev ap4:=@List.range'_succ
abbrev ap5:=@List.range_succ
abbrev ap6:=@List.cons.injEq
abbrev ap7:=@StateT.run_bind
abbrev cn:=PySem.W.Frag
abbrev AU:=List Nat
abbrev Ba:=List PySem.Str
abbrev Bb:=List PySem.Value
abbrev Bc:=List Int
abbrev Bd:=PySem.Value->PySem.Shared->Prop
abbrev Be:=PySem.Str->Option PySem.Value
abbrev Bf:=List PySem.Addr
abbrev BA:=Array PySem.Value
abbrev BJ:=Option PySem.Value
namespace MA
open Vbxoab
def snocInd{j:Type}{P:List j->Prop}(h0:P [])(h1:∀l m,P l->P (l++[m]))(l:List j):P l:=by
 have h:∀r:List j,P r.reverse:=by
  intro r;induction r with
  |nil=>exact h0
  |cons a r z=>rw[Zo];exact h1 _ _ z
 have e:=h l.reverse;rwa[List.reverse_reverse]at e
def subs{j:Type}(l:List j):List<|List j:=l.foldl (λf m=>f++f.map (λs=>s++[m])) [[]]
def nE{j:Type}:subs ([]:List j)=[[]]:=rfl
def gF{j:Type}(l:List j)(m:j):subs (l++[m])=subs l++(subs l).map (λs=>s++[m]):=by unfold subs;rw[Ep];rfl
def eX{j:Type}(l:List j):(subs l).length=2^l.length:=by
 induction l using snocInd with
 |h0=>rfl
 |h1 l m z=>rw[gF,mu,ek,z,mu];simp[Xw];lia
def Np{j z:Type}(f:j->z)(l:List j):subs (l.map f)=(subs l).map (List.map f):=by
 induction l using snocInd with
 |h0=>rfl
 |h1 l m F=>
  rw[t4,ip,HD,gF,gF,F,t4,oW,oW]
  congr 1
  apply zD;intro s _;simp
def jx{z:Type}(l:List z):∀s,s∈subs l↔s.Sublist l:=by
 induction l using snocInd with
 |h0=>intro s;simp[nE]
 |h1 l m j=>
  intro s;rw[gF,ro,n8,j];constructor
  .rintro(h|⟨t,ht,rfl⟩)
   .exact h.trans<|List.sublist_append_left _ _
   .exact((j t).mp ht).append<|List.Sublist.refl _
  .intro h;rw[List.sublist_append_iff]at h;obtain⟨a,b,rfl,ha,hb⟩:=h;cases hb with
   |cons _ h'=>cases h';left;simpa using ha
   |cons_cons _ h'=>cases h';right;exact⟨a,(j a).mpr ha,rfl⟩
def vP{j:Type}(m:j):∀L:List<|List j,L.Nodup->(L.map λs=>s++[m]).Nodup:=by
 intro L h;induction L with
 |nil=>exact F1
 |cons a L z=>rw[nM]at h;rw[ip,nM];refine⟨λF=>?_,z h.2⟩;obtain⟨t,I,e⟩:=n8.mp F;have:t=a:=List.append_inj_left' e rfl;subst this;exact h.1 I
def vQ{z:Type}(l:List z):l.Nodup->(subs l).Nodup:=by
 induction l using snocInd with
 |h0=>intro _;simp[nE]
 |h1 l m j=>
  intro h;rw[Q4]at h;obtain⟨h1,_,F⟩:=h;rw[gF,Q4];refine⟨j h1,vP m _<|j h1,λa I b J e=>?_⟩;subst e;obtain⟨t,_,e⟩:=n8.mp J;have M:m∈a:=by rw[<-e];simp
  exact F m (((jx l a).mp I).subset M) m (by simp) rfl
def gM:List Nat->List Nat->Bool
 |[],[]=>false
 |[],_::_=>true
 |_::_,[]=>false
 |x::xs,y::ys=>if x=y then gM xs ys else decide (x<y)
def klt(a b:List Nat):Prop:=a.length<b.length\/(a.length=b.length/\gM a b=true)
theorem Au:∀a,gM a a=false
 |[]=>rfl
 |x::xs=>by simp[gM,Au xs]
theorem vR:∀a b,gM a b=true->gM b a=false
 |[],[]=>by simp[gM]
 |[],_::_=>by simp[gM]
 |_::_,[]=>by simp[gM]
 |x::xs,y::ys=>by
  unfold gM;by_cases e:x=y
  .subst e;simp;exact vR xs ys
  .have j:¬y=x:=λq=>e q.symm;simp[e,j];lia
theorem Av:∀a b,gM a b=false->gM b a=false->a=b
 |[],[]=>by simp
 |[],_::_=>by simp[gM]
 |_::_,[]=>by simp[gM]
 |x::xs,y::ys=>by
  unfold gM;by_cases e:x=y
  .subst e;simp;exact Av xs ys
  .have j:¬y=x:=λq=>e q.symm;simp[e,j];lia
def JF(a:List Nat):¬klt a a:=by
 rintro(h|⟨_,h⟩)
 .lia
 .rw[Au]at h;cases h
def Nq(h:klt a b):¬klt b a:=by
 rintro(g|⟨g,g'⟩)
 .rcases h with h|⟨h,_⟩<;>lia
 .rcases h with h|⟨h,h'⟩
  .lia
  .rw[vR _ _ h']at g';cases g'
def Ru(h:¬klt a b)(h':¬klt b a):a=b:=by
 unfold klt at h h';have e:a.length=b.length:=by lia
 apply Av
 .cases q:gM a b with
  |false=>rfl
  |true=>exact absurd (Or.inr ⟨e,q⟩) h
 .cases q:gM b a with
  |false=>rfl
  |true=>exact absurd (Or.inr ⟨e.symm,q⟩) h'
theorem vS{M:Type}{R:M->M->Prop}(J:∀a,¬R a a)(I:∀{a b},R a b->¬R b a):
  ∀{j F:List M},j.Pairwise R->F.Pairwise R->(∀x,x∈j↔x∈F)->j=F
 |[],[],_,_,_=>rfl
 |[],y::_,_,_,h=>absurd ((h y).mpr lx) (by simp)
 |x::_,[],_,_,h=>absurd ((h x).mp lx) (by simp)
 |x::ahA,y::ahB,Rv,Rw,h=>by
  rw[apG]at Rv Rw;have e:x=y:=by
   rcases eH.mp ((h x).mp lx)with e|S
   .exact e
   rcases eH.mp ((h y).mpr lx)with e|U
   .exact e.symm
   exact absurd (Rw.1 x S)<|I<|Rv.1 y U
  subst e
  congr 1
  refine vS J I Rv.2 Rw.2 λz=>⟨λhz=>?_,λhz=>?_⟩
  .rcases eH.mp ((h z).mp<|kB _ hz)with e|q
   .subst e;exact absurd (Rv.1 z hz)<|J z
   .exact q
  .rcases eH.mp ((h z).mpr<|kB _ hz)with e|q
   .subst e;exact absurd (Rw.1 z hz)<|J z
   .exact q
theorem ij:∀(l:List Nat)(k:Nat)(s:List Nat),s∈parts k l↔s.Sublist l/\s.length=k
 |l,0,s=>by simp[parts];rintro rfl;simp
 |[],k+1,s=>by simp[parts];rintro rfl;simp
 |x::r,k+1,s=>by
  simp only[parts,ro,n8,ij r];constructor
  .rintro(⟨t,⟨h1,h2⟩,rfl⟩|⟨h1,h2⟩)
   .exact⟨h1.cons_cons x,by simp[h2]⟩
   .exact⟨h1.cons x,h2⟩
  .rintro⟨h,j⟩;cases h with
   |cons _ h'=>exact .inr ⟨h',j⟩
   |@cons_cons t _ _ h'=>exact .inl ⟨t,⟨h',by simpa using j⟩,rfl⟩
def gG(l s:List Nat):s∈allOf l↔s.Sublist l:=by
 unfold allOf;rw[List.mem_flatMap];constructor
 .rintro⟨k,_,h⟩;exact((ij l k s).mp h).1
 .intro h;exact⟨s.length,by rw[F8];have:=h.length_le;lia,(ij l _ s).mpr ⟨h,rfl⟩⟩
theorem mi:∀(l:List Nat)(k:Nat),l.Pairwise (· < ·)->(parts k l).Pairwise (λa b=>gM a b=true)
 |l,0,_=>by simp[parts]
 |[],k+1,_=>by simp[parts]
 |x::r,k+1,h=>by
  rw[apG]at h;simp only[parts];rw[List.pairwise_append];refine⟨?_,mi r (k+1) h.2,?_⟩
  .rw[apW];exact(mi r k h.2).imp λq=>by simp[gM,q]
  .intro a j b z;obtain⟨t,_,rfl⟩:=n8.mp j;obtain⟨hs,F⟩:=(ij r _ b).mp z;cases b with
   |nil=>simp at F
   |cons y b=>
    have I:=h.1 y<|hs.subset lx;have e:¬x=y:=by lia
    simp[gM,e,I]
def mj(l:List Nat)(h:l.Pairwise (· < ·)):(allOf l).Pairwise klt:=by
 have j:∀n,((List.range n).flatMap λk=>parts k l).Pairwise klt/\∀s∈(List.range n).flatMap (λk=>parts k l),s.length<n:=by
  intro n;induction n with
  |zero=>simp
  |succ n z=>
   rw[ap5,apw];simp only[Q3,List.flatMap_nil,B5];constructor
   .rw[List.pairwise_append];refine⟨z.1,?_,λa F b I=>?_⟩
    .refine(List.Pairwise.and_mem.mp<|mi l n h).imp λ{a b} q=>?_;exact Or.inr ⟨by rw[((ij l n _).mp q.1).2,((ij l n _).mp q.2.1).2],q.2.2⟩
    .have:=z.2 a F;have e:=((ij l n b).mp I).2;exact Or.inl (by lia)
   .intro s hs;rw[ro]at hs;rcases hs with hs|hs
    .have:=z.2 s hs;lia
    .have e:=((ij l n s).mp hs).2;lia
 exact(j _).1
def uq(h:l.Pairwise (· < ·)){p:List Nat->Bool}(z:out.Perm<|(subs l).filter p)(hs:out.Pairwise λa b=>¬klt b a):out=(allOf l).filter p:=by
 have nd:l.Nodup:=h.imp λq e=>by lia
 have j:=z.nodup_iff.mpr<|(vQ l nd).filter _;refine vS JF Nq ?_ ((mj l h).filter _) λx=>?_
 .refine(hs.and j).imp λ{a b} q=>?_;by_cases k:klt a b
  .exact k
  .exact absurd (Ru k q.1) q.2
 .rw[z.mem_iff,tL,tL,jx,gG]
def sums(l:List Int):List Int:=l.foldl (λf v=>f++f.map (λt=>t+v)) [0]
def Aw(l:List Int)(m:Int):sums (l++[m])=sums l++(sums l).map (λs=>s+m):=by unfold sums;rw[Ep];rfl
theorem DT:∀(l:List Int)(z:Int),(l++[z]).sum=l.sum+z
 |[],z=>by simp
 |a::l,z=>by rw[Ki,yI,yI,DT l z];lia
def JG(l:List Int):sums l=(subs l).map List.sum:=by
 induction l using snocInd with
 |h0=>rfl
 |h1 l m j=>
  rw[Aw,gF,j,t4,oW,oW]
  congr 1
  apply zD;intro s _;exact(DT s m).symm
def sP{I:Type}(l:List I):∀(k:Nat)(s:List I),(subs l)[k]?=some s->∀p:I->Bool,s.all p=true↔∀(e:Nat)(x:I),l[e]?=some x->k.testBit e=true->p x=true:=by
 induction l using snocInd with
 |h0=>
  intro k s h p;cases k with
  |zero=>simp[nE]at h;subst h;simp
  |succ k=>simp[nE]at h
 |h1 l m W=>
  intro k s h p;have M:=eX l;rw[gF]at h;by_cases hk:k<2^l.length
  .rw[F3<|by rw[M];exact hk]at h;rw[W k s h p];constructor
   .intro q e x j F;by_cases z:e<l.length
    .rw[F3 z]at j;exact q e x j F
    .rw[Wx<|sd hk<|Qn (by decide)<|by lia]at F;cases F
   .intro q e x j F;have z:=(l4.mp j).1;exact q e x (by rw[F3 z];exact j) F
  .have S:2^l.length<=k:=by lia
   rw[Pa<|by rw[M];exact S,mq,M]at h;cases J:(subs l)[k-2^l.length]? with
   |none=>rw[J]at h;cases h
   |some t=>
    rw[J]at h;have es:=ri h;subst es;have U:k-2^l.length<2^l.length:=by have:=(l4.mp J).1;lia
    have Y:k=2^l.length+(k-2^l.length):=by lia
    have bl:k.testBit l.length=true:=by rw[Y,Nat.testBit_two_pow_add_eq,Wx U];rfl
    have blt:∀e,e<l.length->k.testBit e=(k-2^l.length).testBit e:=λe z=>by
     conv=>lhs;rw[Y]
     exact Nat.testBit_two_pow_add_gt z _
    rw[Xr,p0,W _ t J p];constructor
    .rintro⟨Z,q2⟩ e x j F;by_cases z:e<l.length
     .rw[F3 z]at j;exact Z e x j (by rw[<-blt e z];exact F)
     .rw[Pa<|by lia]at j;have:e-l.length=0:=by have:=(l4.mp j).1;simp at this;lia
      rw[this]at j;have:m=x:=by simpa using j
      subst this;simpa using q2
    .intro q;refine⟨λe x j F=>?_,?_⟩
     .have z:=(l4.mp j).1;exact q e x (by rw[F3 z];exact j) (by rw[blt e z];exact F)
     .have:=q l.length m (by rw[Pa<|ez _];simp) bl;simp[this]
def and_zero(a b:Nat):a&&&b=0↔∀e,¬(a.testBit e=true/\b.testBit e=true):=by
 constructor
 .intro h e⟨h1,h2⟩;have:=congrArg (λn=>n.testBit e) h;simp[Nat.testBit_and,h1,h2]at this
 .intro h;apply Nat.eq_of_testBit_eq;intro e;rw[Nat.testBit_and,Nat.zero_testBit];cases h1:a.testBit e with
  |false=>rfl
  |true=>
   cases h2:b.testBit e with
   |false=>rfl
   |true=>exact absurd ⟨h1,h2⟩<|h e
def eJ(p:Nat->Bool):Nat->Nat
 |0=>0
 |n+1=>if p n=true then eJ p n|||(1<<<n)else eJ p n
theorem i7(p:Nat->Bool):∀n e,(eJ p n).testBit e=(decide (e<n)&&p e)
 |0,e=>by simp[eJ]
 |n+1,e=>by
  have F:=i7 p n e;unfold eJ;have j:(if p n=true then eJ p n|||(1<<<n)else eJ p n).testBit e=(decide (e<n)&&p e||(p n&&decide (e=n))):=by
   by_cases h:p n=true
   .rw[dt h,XW,F,Sm,TN,X8,h];by_cases q:n=e
    .subst q;simp
    .have J:¬e=n:=λz=>q z.symm;simp[q,J]
   .rw[c0 h,F];simp at h;simp[h]
  rw[j];by_cases q:e=n
  .subst q;simp
  .by_cases I:e<n
   .have:e<n+1:=by lia
    simp[q,I,this]
   .have:¬e<n+1:=by lia
    simp[q,I,this]
def Ld(p:Nat->Bool)(n:Nat):eJ p n<2^n:=by
 apply Nat.lt_pow_two_of_testBit;intro e j;rw[i7];have:¬e<n:=by lia
 simp[this]
def calm{j:Type}(en:j->j->Bool):List j->Bool
 |[]=>true
 |x::r=>r.all (λy=>!en x y)&&calm en r
theorem sQ{j:Type}(en:j->j->Bool)(m:j):∀l:List j,calm en (l++[m])=(calm en l&&l.all λx=>!en x m)
 |[]=>by simp[calm]
 |x::r=>by simp only[Ki,calm,sQ en m r,Xr,B4,List.all_nil,PU];cases r.all (λy=>!en x y)<;>cases(!en x m)<;>cases calm en r<;>simp
def Hj(z:Nat)(j:List Bool):List Bool:=j++(j.zipIdx.map λx=>x.1&&(x.2&&&z==0))
def nF{j:Type}(en:j->j->Bool)(l:List j):Nat->List Bool
 |0=>[true]
 |n+1=>match l[n]? with
  |none=>nF en l n
  |some x=>Hj (eJ (λe=>(l[e]?).any λy=>en y x) n)<|nF en l n
theorem vV{I:Type}(en:I->I->Bool)(l:List I):∀n,n<=l.length->nF en l n=(subs<|l.take n).map (calm en)
 |0,_=>by simp[nF,nE,calm]
 |n+1,h=>by
  have M:=vV en l n (by lia)
  have S:l[n]?=some (l[n]'(by lia)):=gs (by lia)
  have U:l.take (n+1)=l.take n++[l[n]'(by lia)]:=by rw[List.take_succ,S];rfl
  unfold nF;rw[S,U,gF,t4,oW,<-M];show Hj _ _=_;unfold Hj
  congr 1
  apply Q2;intro k;rw[mq,mq,List.getElem?_zipIdx,M,mq];cases hs:(subs<|l.take n)[k]? with
  |none=>rfl
  |some s=>
   simp;rw[sQ]
   congr 1
   have z:=sP (l.take n) k s hs (λx=>!en x (l[n]'(by lia)))
   congr 1
   rw[q7,z,LM,and_zero];constructor
   .intro q e x j W;have F:e<n:=by have:=(l4.mp j).1;rw[zd]at this;lia
    have J:l[e]?=some x:=by rw[aoG F]at j;exact j
    have:=q e;rw[i7,J]at this;simpa[W,F]using this
   .rintro q e ⟨h1,h2⟩;rw[i7,p0,Oa]at h2;obtain⟨F,h2⟩:=h2
    have j:l[e]?=some (l[e]'(by lia)):=gs (by lia)
    have:=q e _ (by rw[aoG F];exact j) h1;rw[j]at h2;simp at this h2;rw[this]at h2;cases h2
def vW{l:List Bool}:(l.set k v).getD b false=if b=k/\k<l.length then v else l.getD b false:=by
 simp;by_cases e:k=b
 .subst e;by_cases h:k<l.length
  .simp[h]
  .simp[h]
 .have j:¬b=k:=λq=>e q.symm;simp[e,j]
def iA(bit:Nat)(j:List Bool):Nat->List Bool
 |0=>j
 |k+1=>if(iA bit j k).getD (k|||bit) false=true then(iA bit j k).set k true else iA bit j k
theorem iB(bit:Nat)(j:List Bool):∀k,(iA bit j k).length=j.length
 |0=>rfl
 |k+1=>by
  unfold iA;split
  .rw[Uc];exact iB bit j k
  .exact iB bit j k
theorem Ax(bit:Nat)(j:List Bool):∀k,k<=j.length->∀b,(iA bit j k).getD b false=if b<k then j.getD b false||j.getD (b|||bit) false else j.getD b false
 |0,_,b=>by simp[iA]
 |k+1,h,b=>by
  have F:=Ax bit j k (by lia);have J:=iB bit j k;have hk:(iA bit j k).getD (k|||bit) false=j.getD (k|||bit) false:=by rw[F,c0<|by have:=Nat.left_le_or (n:=k) (m:=bit);lia]
  unfold iA;rw[hk];by_cases q:b=k
  .subst q;rw[dt<|show b<b+1 by lia];by_cases c:j.getD (b|||bit) false=true
   .rw[dt c,vW,dt ⟨rfl,by lia⟩,c];simp
   .rw[c0 c,F,c0<|by lia];simp only[Yq]at c;rw[c];simp
  .have e:(if j.getD (k|||bit) false=true then(iA bit j k).set k true else iA bit j k).getD b false=(iA bit j k).getD b false:=by
    split
    .rw[vW,c0 λz=>q z.1]
    .rfl
   rw[e,F];by_cases I:b<k
   .rw[dt I,dt<|by lia]
   .rw[c0 I,c0<|by lia]
def passes(j:List Bool):Nat->List Bool
 |0=>j
 |p+1=>iA (1<<<p) (passes j p) j.length
theorem jl(j:List Bool):∀p,(passes j p).length=j.length
 |0=>rfl
 |p+1=>by unfold passes;rw[iB,jl j p]
theorem vX{met:List Nat}(W:z.length=2^n)(Z:∀m∈met,m<2^n)(h0:∀b,b<2^n->z.getD b false=met.contains b):
  ∀p,p<=n->∀b,b<2^n->((passes z p).getD b false=true↔∃m∈met,(∀e,b.testBit e=true->m.testBit e=true)/\∀e,p<=e->m.testBit e=b.testBit e)
 |0,_,b,hb=>by
  unfold passes;rw[h0 b hb,Wc];constructor
  .intro h;exact⟨b,h,λ_ q=>q,λ_ _=>rfl⟩
  .rintro⟨m,M,_,q⟩;have:m=b:=Nat.eq_of_testBit_eq λe=>q e<|ti _;rw[<-this];exact M
 |p+1,hp,b,hb=>by
  have Y:=vX W Z h0 p (by lia);have S:b|||1<<<p<2^n:=by apply Nat.or_lt_two_pow hb;rw[Sm,TN];exact Nat.pow_lt_pow_right (by decide) (by lia)
  have J:∀e,(b|||1<<<p).testBit e=(b.testBit e||decide (p=e)):=λe=>by rw[XW,Sm,TN,X8]
  unfold passes;rw[Ax _ _ _<|by rw[jl];exact ez _,dt<|by rw[W];exact hb,U0,Y b hb,Y _ S];constructor
  .rintro(⟨m,h1,h2,F⟩|⟨m,h1,h2,F⟩)
   .exact⟨m,h1,h2,λe j=>F e<|by lia⟩
   .refine⟨m,h1,λe j=>h2 e<|by rw[J,j];rfl,λe j=>?_⟩;rw[F e<|by lia,J];have:¬p=e:=by lia
    simp[this]
  .rintro⟨m,h1,h2,F⟩;by_cases c:m.testBit p=b.testBit p
   .refine .inl ⟨m,h1,h2,λe j=>?_⟩;by_cases q:e=p
    .rw[q];exact c
    .exact F e (by lia)
   .have U:b.testBit p=false:=by
     cases q:b.testBit p with
     |false=>rfl
     |true=>exact absurd ((h2 p q).trans q.symm) c
    have I:m.testBit p=true:=by
     cases q:m.testBit p with
     |true=>rfl
     |false=>exact absurd (q.trans U.symm) c
    refine .inr ⟨m,h1,λe j=>?_,λe j=>?_⟩
    .rw[J,U0,Oa]at j;rcases j with j|j
     .exact h2 e j
     .rw[<-j];exact I
    .rw[J];by_cases q:p=e
     .subst q;simp[I]
     .simp[q];exact F e (by lia)
def Hk{j:List Bool}{met:List Nat}(M:j.length=2^n)(I:∀m∈met,m<2^n)(h0:∀b,b<2^n->j.getD b false=met.contains b)
  {s:List Nat}(hs:(subs<|List.range n)[k]?=some s):(passes j n).getD k false=met.any λm=>s.all λd=>m.testBit d:=by
 have hk:k<2^n:=by have:=(l4.mp hs).1;rw[eX,Md]at this;exact this
 rw[q7,vX M I h0 n (ez _) k hk,Kc];constructor
 .rintro⟨m,h1,h2,_⟩;refine⟨m,h1,(sP _ k s hs _).mpr λe x S U=>?_⟩;have:=l4.mp S;obtain⟨q,J⟩:=this;rw[List.getElem_range]at J;subst J;exact h2 e U
 .rintro⟨m,h1,h2⟩;refine⟨m,h1,λe z=>?_,λe z=>?_⟩
  .have F:e<n:=by apply Nat.lt_of_not_le;intro q;rw[Wx<|sd hk<|Qn (by decide) q]at z;cases z
   exact((sP _ k s hs _).mp h2) e e (by rw[Mi F]) z
  .rw[Wx<|sd hk<|Qn (by decide) z,Wx<|sd (I m h1)<|Qn (by decide) z]
def marks(n:Nat)(met:List Nat):List Bool:=met.foldl (λc b=>c.set b true)<|List.replicate (2^n) false
theorem vY:∀(met:List Nat)(c:List Bool),(∀m∈met,m<c.length)->(met.foldl (λc b=>c.set b true) c).length=c.length/\∀b,(met.foldl (λc b=>c.set b true) c).getD b false=(c.getD b false||met.contains b)
 |[],c,_=>by simp
 |m::r,c,h=>by
  have j:=vY r (c.set m true) (λx z=>by rw[Uc];exact h x<|kB _ z);rw[Hr];refine⟨by rw[j.1,Uc],λb=>?_⟩;rw[j.2,vW];have F:=h m lx;by_cases e:b=m
  .subst e;simp[F]
  .simp[e]
def vZ(j:∀m∈met,m<2^n):(marks n met).length=2^n/\∀b,(marks n met).getD b false=met.contains b:=by
 have h:=vY met (List.replicate (2^n) false) (λm q=>by rw[VI];exact j m q);refine⟨by unfold marks;rw[h.1,VI],λb=>?_⟩;unfold marks;rw[h.2];have:(List.replicate (2^n) false).getD b false=false:=by rw[F4,List.getElem?_replicate];split<;>rfl
 rw[this];rfl
def ik(n:Nat)(met:List Nat):List Bool:=passes (marks n met) n
def DU{n:Nat}{met:List Nat}(j:∀m∈met,m<2^n):ik n met=(subs<|List.range n).map λs=>met.any λm=>s.all λd=>m.testBit d:=by
 have hs:=vZ j;have z:(ik n met).length=2^n:=by unfold ik;rw[jl,hs.1]
 apply Q2;intro k;rw[mq];cases h:(subs<|List.range n)[k]? with
 |none=>
  have:2^n<=k:=by have:=aoy.mp h;rw[eX,Md]at this;exact this
  rw[aoy.mpr<|by rw[z];exact this];rfl
 |some s=>
  have hk:k<2^n:=by have:=(l4.mp h).1;rw[eX,Md]at this;exact this
  have g:=Hk hs.1 j (λb _=>hs.2 b) h
  have e:(ik n met)[k]?=some ((ik n met)[k]'(by rw[z];exact hk)):=gs _
  rw[e,Me]
  congr 1
  unfold ik at g e|-;rw[F4,e]at g;exact g
theorem mem_eraseDups{j:Type}[BEq j][LawfulBEq j]:∀(n:Nat)(l:List j),l.length<=n->∀x,x∈l.eraseDups↔x∈l
 |_,[],_,x=>by simp
 |0,a::l,h,x=>by simp at h
 |n+1,a::l,h,x=>by
  rw[List.eraseDups_cons,eH,eH,mem_eraseDups n _ (by have:=B1 (λb=>!b==a) l;simp at h;lia),tL];by_cases e:x=a
  .simp[e]
  .simp[e]
def Nr(o:Office)(met:List Nat)(j:met=(candidates o).map λp=>eJ (λd=>(o.plan[d]?).any<|meets o p) o.plan.length):
  clash o=((allOf<|List.range o.plan.length).filter λs=>!(met.any λm=>s.all λd=>m.testBit d)).head?:=by
 unfold clash;rw[<-List.head?_filter]
 congr 1
 apply JW;intro s hs;rw[j,TJ,q7,wy,Mc,<-Yq,Kc];constructor
 .rintro h⟨p,J,U⟩;obtain⟨d,hd,M⟩:=Kc.mp<|h (missed o p)<|(mem_eraseDups _ _ (ez _) _).mpr<|n8.mpr ⟨p,J,rfl⟩;have F:=wy.mp U d<|Wc.mp M;rw[i7,p0]at F;have:=(tL.mp hd).2;rw[F.2]at this;cases this
 .intro h m W;obtain⟨p,J,rfl⟩:=n8.mp<|(mem_eraseDups _ _ (ez _) _).mp W;apply Classical.byContradiction;intro Y;apply h;refine⟨p,J,wy.mpr λd hd=>?_⟩;have I:=F8.mp<|((gG _ _).mp hs).subset hd;rw[i7,p0,Oa];refine⟨I,?_⟩;apply Classical.byContradiction;intro S;apply Y;refine Kc.mpr ⟨d,tL.mpr ⟨F8.mpr I,?_⟩,Wc.mpr hd⟩;simp at S;rw[S];rfl
theorem il{j:Type}(f:j->Nat):∀(l:List j)(y:j),leastBy f l=some y->y∈l
 |[],y,h=>by simp[leastBy]at h
 |a::r,y,q=>by
  unfold leastBy at q;cases z:leastBy f r with
  |none=>rw[z]at q;simp at q;simp[q]
  |some w=>
   rw[z]at q;simp only at q;split at q
   .simp at q;simp[q]
   .simp at q;subst q;exact kB _<|il f r _ z
def sgn(c:Nat):Nat:=if c=10 then 10 else if c=32 then 32 else if 48<=c/\c<=57 then c else if 97<=c/\c<=122 then c else 63
def jP(s:Nat):List Nat->List Nat->List (List Nat)
 |acc,[]=>[acc]
 |acc,c::r=>if c=s then acc::jP s [] r else jP s (acc++[c]) r
def Nt(c:Nat):sgn c=10↔c=10:=by unfold sgn;split<;>(try split)<;>(try split)<;>(try split)<;>lia
def Nu(c:Nat):sgn c=32↔c=32:=by unfold sgn;split<;>(try split)<;>(try split)<;>(try split)<;>lia
def Rx(c:Nat)(h:48<=c/\c<=57):sgn c=c:=by unfold sgn;split<;>(try split)<;>(try split)<;>(try split)<;>lia
def Lf(c:Nat):(48<=sgn c/\sgn c<=57)↔(48<=c/\c<=57):=by unfold sgn;split<;>(try split)<;>(try split)<;>(try split)<;>lia
def Ry(c x:Nat)(h:97<=x/\x<=122):sgn c=x↔c=x:=by unfold sgn;split<;>(try split)<;>(try split)<;>(try split)<;>lia
theorem wb:∀(l acc:List Nat),jP 10 (acc.map sgn) (l.map sgn)=(splitLines l acc).map (List.map sgn)
 |[],acc=>rfl
 |c::r,acc=>by
  rw[ip];unfold jP splitLines;by_cases h:c=10
  .rw[dt<|(Nt c).mpr h,dt h,ip]
   congr 1
   exact wb r []
  .rw[c0 λq=>h<|(Nt c).mp q,c0 h,<-wb r (acc++[c]),t4];rfl
theorem wc:∀(l acc:List Nat),(jP 32 (acc.map sgn)<|l.map sgn).filter (λw=>!w.isEmpty)=(wordsIn l acc).map (List.map sgn)
 |[],acc=>by
  unfold jP wordsIn;cases acc with
  |nil=>rfl
  |cons a acc=>simp
 |c::r,acc=>by
  rw[ip];unfold jP wordsIn;by_cases h:c=32
  .rw[dt<|(Nu c).mpr h,dt h];have j:=wc r [];cases acc with
   |nil=>simpa using j
   |cons a acc=>simp at j|-;exact j
  .rw[c0 λq=>h<|(Nu c).mp q,c0 h,<-wc r (acc++[c]),t4];rfl
def low(t:List Nat):Prop:=∀x∈t,97<=x/\x<=122
theorem cZ:∀{t w:List Nat},low t->(w.map sgn=t↔w=t)
 |[],[],_=>by simp
 |[],_::_,_=>by simp
 |_::_,[],_=>by simp
 |x::t,c::w,h=>by rw[ip,ap6,ap6,(Ry c x<|h x lx),(cZ (t:=t) (w:=w) λy j=>h y<|kB _ j)]
theorem wd:∀(w:List Nat),(w.map sgn).all digit=w.all digit
 |[]=>rfl
 |c::w=>by
  rw[ip,B4,B4,wd w]
  congr 1
  unfold digit;have:=Lf c;by_cases h:48<=c/\c<=57
  .rw[ki h,ki<|this.mpr h]
  .rw[kx h,kx λq=>h<|this.mp q]
theorem nG:∀(w:List Nat),w.all digit=true->w.map sgn=w
 |[],_=>rfl
 |c::w,h=>by rw[B4,p0]at h;rw[ip,nG w h.2,Rx c<|by simpa[digit]using h.1]
def sR(w:List Nat):natOf (w.map sgn)=natOf w:=by
 by_cases h:w.all digit=true
 .rw[nG w h]
 .have h':(w.map sgn).all digit=false:=by rw[wd];simpa using h
  unfold natOf;rw[dt (.inr (.inr (.inl h'))),dt (.inr (.inr (.inl<|by simpa using h)))]
abbrev g:List Nat->List Nat:=List.map sgn
def vt:low<|text "all":=by unfold low;decide
def Lg:low<|text "topic":=by unfold low;decide
def Nv:low<|text "kind":=by unfold low;decide
def Nw:low<|text "hard":=by unfold low;decide
def Hl:low<|text "harder":=by unfold low;decide
def By:low<|text "question":=by unfold low;decide
def Vk:low<|text "if":=by unfold low;decide
def Ny:low<|text "then":=by unfold low;decide
def Rz:low<|text "not":=by unfold low;decide
def Nz:low<|text "with":=by unfold low;decide
def Vl:low<|text "to":=by unfold low;decide
def Lh:low<|text "count":=by unfold low;decide
def Li:low<|text "marks":=by unfold low;decide
def DV:low<|text "minutes":=by unfold low;decide
def sS(n:Nat):∀j:List Bytes,selOf n (j.map g)=(selOf n j).map λp=>(p.1,p.2.map g)
 |[]=>rfl
 |[w]=>by
  simp only[ip,HD,selOf];by_cases h:w=text "all"
  .rw[dt h,dt<|(cZ vt).mpr h];rfl
  .rw[c0 h,c0 λq=>h<|(cZ vt).mp q];rfl
 |w::x::r=>by
  simp only[ip,selOf];by_cases h:w=text "all"
  .rw[dt h,dt<|(cZ vt).mpr h];rfl
  .rw[c0 h,c0 λq=>h<|(cZ vt).mp q];rw[sR];cases natOf x with
   |none=>rfl
   |some k=>
    simp only[am7];show(if List.map sgn w=_/\_ then _ else if List.map sgn w=_/\_ then _ else if List.map sgn w=_/\_ then _ else if List.map sgn w=_/\_ then _ else if List.map sgn w=_/\_ then _ else _)=_;simp only[cZ Lg,cZ Nv,cZ Nw,cZ Hl,cZ By]
    repeat(first|rfl|(split))
def Bz(w:Bytes):quantity (g w)=quantity w:=by unfold quantity;simp only[cZ Lh,cZ Li,cZ DV]
def gj(n:Nat)(j:List Bytes):Option Sel:=match selOf n j with
 |some (s,[])=>some s
 |_=>none
def lJ(n:Nat)(j:List Bytes):Option Demand:=if j.length<5 then none else
 match j.drop (j.length-4)with
 |[q,x,t,y]=>(match quantity q with
  |none=>none
  |some k=>if t=text "to" then(match gj n (j.take<|j.length-4),natOf x,natOf y with
   |some a,some lo,some hi=>if lo<=hi then some (.range a k lo hi)else none
   |_,_,_=>none)else none)
 |_=>none
def mU(n:Nat)(j:List Bytes)(z:Bytes)(mk:Sel->Sel->Demand):Option Demand:=match j.findIdx? (λw=>decide<|w=z)with
 |none=>none
 |some place=>match gj n ((j.take place).drop 1),gj n<|j.drop<|place+1 with
  |some a,some b=>some<|mk a b
  |_,_=>none
def JH(n:Nat)(j:List Bytes):Option Demand:=match j with
 |[]=>none
 |w::_=>if w=text "if" then mU n j (text "then") .whenever else if w=text "not" then mU n j (text "with") .apart else lJ n j
def i8(n:Nat)(r:List Bytes):selOf n (text "all"::r)=some (.all,r):=by simp[selOf]
def nH(n:Nat)(h:¬w=text "all"):selOf n [w]=none:=by simp[selOf,h]
def eO(n:Nat)(w x:Bytes):Option Sel:=(natOf x).bind λk=>
   if w=text "topic"/\k<=11 then some (.topic k)
   else if w=text "kind"/\k<=5 then some (.kind k)
   else if w=text "hard"/\k<=4 then some (.hard k)
   else if w=text "harder"/\k<=4 then some (.harder k)
   else if w=text "question"/\k<n then some (.question k)
   else none
def gv(n:Nat)(h:¬w=text "all")(x:Bytes)(s:List Bytes):selOf n (w::x::s)=(eO n w x).map λa=>(a,s):=by
 simp only[selOf,c0 h,eO];cases natOf x with
 |none=>rfl
 |some k=>
  simp
  repeat(first|rfl|split)
def rh(n:Nat):gj n [text "all"]=some .all:=by simp[gj,selOf]
def nI(n:Nat)(h:¬w=text "all")(x:Bytes):gj n [w,x]=eO n w x:=by unfold gj;rw[gv n h];cases eO n w x<;>rfl
def DW(n:Nat):gj n []=none:=rfl
def rj(n:Nat)(h:¬w=text "all"):gj n [w]=none:=by simp[gj,nH n h]
def gY(n:Nat)(x:Bytes)(s:List Bytes):gj n (text "all"::x::s)=none:=by simp[gj,selOf]
def oT(n:Nat)(w x y:Bytes)(s:List Bytes):gj n (w::x::y::s)=none:=by
 by_cases h:w=text "all"
 .subst h;exact gY n x _
 .unfold gj;rw[gv n h];cases eO n w x<;>rfl
def nJ(n:Nat)(j:List Bytes):selOf n j=none\/(∃r,j=text "all"::r/\selOf n j=some (.all,r))\/∃w x s a,¬w=text "all"/\j=w::x::s/\eO n w x=some a/\selOf n j=some (a,s):=by
 cases j with
 |nil=>exact .inl rfl
 |cons w r=>
  by_cases h:w=text "all"
  .subst h;exact .inr (.inl ⟨r,rfl,i8 n r⟩)
  .cases r with
   |nil=>exact .inl<|nH n h
   |cons x s=>
    rw[gv n h];cases q:eO n w x with
    |none=>exact .inl rfl
    |some a=>exact .inr (.inr ⟨w,x,s,a,h,rfl,q,rfl⟩)
def Hm(n:Nat)(j:List Bytes):gj n j=none\/(j=[text "all"]/\gj n j=some .all)\/∃w x a,¬w=text "all"/\j=[w,x]/\eO n w x=some a/\gj n j=some a:=by
 match j with
 |[]=>exact .inl rfl
 |[w]=>
  by_cases h:w=text "all"
  .subst h;exact .inr (.inl ⟨rfl,rh n⟩)
  .exact .inl<|rj n h
 |[w,x]=>
  by_cases h:w=text "all"
  .subst h;exact .inl<|gY n x []
  .rw[nI n h];cases q:eO n w x with
   |none=>exact .inl rfl
   |some a=>exact .inr (.inr ⟨w,x,a,h,rfl,q,rfl⟩)
 |w::x::y::s=>exact .inl<|oT n w x y s
def NA(n:Nat)(I:List Bytes):lJ n I=(selOf n I).bind λa=>match a.2 with
   |[q,x,t,y]=>(match quantity q,natOf x,natOf y with
    |some k,some lo,some hi=>if t=text "to"/\lo<=hi then some (.range a.1 k lo hi)else none
    |_,_,_=>none)
   |_=>none:=by
 have F:∀(a:Sel)(q x t y:Bytes),(match quantity q with
  |none=>none
  |some k=>if t=text "to" then(match some a,natOf x,natOf y with
   |some a,some lo,some hi=>if lo<=hi then some (Demand.range a k lo hi)else none
   |_,_,_=>none)else none)=(match quantity q,natOf x,natOf y with
    |some k,some lo,some hi=>if t=text "to"/\lo<=hi then some (.range a k lo hi)else none
    |_,_,_=>none):=by
  intro a q x t y;cases quantity q with
  |none=>rfl
  |some k=>
   cases natOf x with
   |none=>simp
   |some lo=>
    cases natOf y with
    |none=>simp
    |some hi=>
     by_cases e:t=text "to"
     .simp[e]
     .simp[e]
 have j:∀(q t:Bytes)(J o2:Option Nat),(match quantity q with
  |none=>none
  |some k=>if t=text "to" then(match(none:Option Sel),J,o2 with
   |some a,some lo,some hi=>if lo<=hi then some (Demand.range a k lo hi)else none
   |_,_,_=>none)else none)=none:=by
  intro q t J o2;cases quantity q with
  |none=>rfl
  |some k=>simp
 match I with
 |[]=>rfl
 |[_]|[_,_]|[_,_,_]|[_,_,_,_]=>
  unfold lJ;rw[dt<|by simp];rcases nJ n _ with h|⟨r,h1,h2⟩|⟨w,x,s,a,_,h1,_,h2⟩
  .rw[h];rfl
  .rw[h2];injection h1 with _ h1
   subst h1;rfl
  .rw[h2]
   first
    |(simp at h1;done)
    |(injection h1 with _ h1;injection h1 with _ h1;subst h1;rfl)
 |[w,q,x,t,y]=>
  unfold lJ;rw[c0<|by simp]
  show(match quantity q with
  |none=>none
  |some k=>if t=text "to" then(match gj n [w],natOf x,natOf y with
   |some a,some lo,some hi=>if lo<=hi then some (Demand.range a k lo hi)else none
   |_,_,_=>none)else none)=_
  by_cases h:w=text "all"
  .subst h;rw[rh,i8,F];rfl
  .rw[rj n h,gv n h,j q t (natOf x)<|natOf y];cases eO n w q<;>rfl
 |[w,z,q,x,t,y]=>
  unfold lJ;rw[c0<|by simp]
  show(match quantity q with
  |none=>none
  |some k=>if t=text "to" then(match gj n [w,z],natOf x,natOf y with
   |some a,some lo,some hi=>if lo<=hi then some (Demand.range a k lo hi)else none
   |_,_,_=>none)else none)=_
  by_cases h:w=text "all"
  .subst h;rw[gY,i8,j q t (natOf x)<|natOf y];rfl
  .rw[nI n h,gv n h];cases eO n w z with
   |none=>rw[j q t (natOf x)<|natOf y];rfl
   |some a=>rw[F];rfl
 |w::z::v::a::b::c::d::r=>
  have M:7<=(w::z::v::a::b::c::d::r).length:=by simp
  have hs:gj n ((w::z::v::a::b::c::d::r).take<|(w::z::v::a::b::c::d::r).length-4)=none:=by
   have e:(w::z::v::a::b::c::d::r).length-4=r.length+3:=by simp
   rw[e];exact oT n w z v _
  have right:((selOf n<|w::z::v::a::b::c::d::r).bind λa=>match a.2 with
   |[q,x,t,y]=>(match quantity q,natOf x,natOf y with
    |some k,some lo,some hi=>if t=text "to"/\lo<=hi then some (Demand.range a.1 k lo hi)else none
    |_,_,_=>none)
   |_=>none)=none:=by
   by_cases h:w=text "all"
   .subst h;rw[i8];rfl
   .rw[gv n h];cases eO n w z<;>rfl
  rw[right];unfold lJ;rw[c0<|by lia,hs];split
  .rename_i q x t y _;exact j q t (natOf x)<|natOf y
  .rfl
structure Mid(n:Nat)(mid:Bytes):Prop where
 all:¬mid=text "all"
 two:∀x,eO n mid x=none
 num:natOf mid=none
def NB(n:Nat):Mid n<|text "then":=⟨by decide,λx=>by
 unfold eO;cases natOf x<;>rfl,by decide⟩
def NC(n:Nat):Mid n<|text "with":=⟨by decide,λx=>by
 unfold eO;cases natOf x<;>rfl,by decide⟩
def Lj(n:Nat)(mk:Sel->Demand)(s:List Bytes):((selOf n s).bind λb=>if b.2.isEmpty=true then some (mk b.1)else none)=(gj n s).map mk:=by
 unfold gj;rcases nJ n s with h|⟨r,_,h⟩|⟨_,_,r,a,_,_,_,h⟩
 .rw[h];rfl
 .rw[h];cases r<;>rfl
 .rw[h];cases r<;>rfl
def RA(n:Nat)(M:Mid n j)(mk:Sel->Sel->Demand)(A B:List Bytes)(I:¬j∈A):
  (match gj n A,gj n B with
   |some a,some b=>some<|mk a b
   |_,_=>none)=(selOf n<|A++j::B).bind λa=>(match a.2 with
   |t::s=>if t=j then(selOf n s).bind λb=>if b.2.isEmpty=true then some (mk a.1 b.1)else none else none
   |[]=>none):=by
 have J:∀a:Sel,(match some a,gj n B with
   |some a,some b=>some<|mk a b
   |_,_=>none)=((some (a,j::B)).bind λ(a:Sel×List Bytes)=>(match a.2 with
   |t::s=>if t=j then(selOf n s).bind λb=>if b.2.isEmpty=true then some (mk a.1 b.1)else none else none
   |[]=>none)):=by
  intro a;simp only[am7,dt];rw[Lj n<|mk a];cases gj n B<;>rfl
 have z:(match(none:Option Sel),gj n B with
   |some a,some b=>some<|mk a b
   |_,_=>none)=none:=by cases gj n B<;>rfl
 match A,I with
 |[],_=>
  rw[DW,z];cases B with
  |nil=>rw[T8,nH n M.all];rfl
  |cons x s=>rw[T8,gv n M.all,M.two];rfl
 |[F],_=>
  by_cases h:F=text "all"
  .subst h;rw[rh,Yy,i8];exact J .all
  .rw[rj n h,z,Yy,gv n h];have:eO n F j=none:=by unfold eO;rw[M.num];rfl
   rw[this];rfl
 |[F,a1],I=>
  by_cases h:F=text "all"
  .subst h;have h1:¬a1=j:=λq=>I (by simp[q]);rw[gY,z];show none=(selOf n<|text "all"::a1::j::B).bind _;rw[i8];simp[h1]
  .rw[nI n h];show _=(selOf n<|F::a1::j::B).bind _;rw[gv n h];cases eO n F a1 with
   |none=>rw[z];rfl
   |some a=>exact J a
 |F::a1::a2::A,I=>
  rw[oT,z];show none=(selOf n<|F::a1::a2::(A++j::B)).bind _;by_cases h:F=text "all"
  .subst h;have h1:¬a1=j:=λq=>I (by simp[q]);rw[i8];simp[h1]
  .have h1:¬a2=j:=λq=>I (by simp[q]);rw[gv n h];cases eO n F a1 with
   |none=>rfl
   |some a=>simp[h1]
def DX(n:Nat)(M:Mid n j)(I:¬w=j)(mk:Sel->Sel->Demand)(r:List Bytes):
  mU n (w::r) j mk=(selOf n r).bind λa=>(match a.2 with
   |t::s=>if t=j then(selOf n s).bind λb=>if b.2.isEmpty=true then some (mk a.1 b.1)else none else none
   |[]=>none):=by
 unfold mU;rw[List.findIdx?_cons];simp only[Oa,c0 I];cases h:r.findIdx? λw=>decide<|w=j with
 |none=>
  simp;have F:∀x∈r,¬x=j:=λx J=>by have:=aoA.mp h x J;simpa using this
  rcases nJ n r with q|⟨s,e,q⟩|⟨x,y,s,a,_,e,_,q⟩
  .rw[q];rfl
  .rw[q];cases s with
   |nil=>rfl
   |cons t s=>simp[F t<|by rw[e];simp]
  .rw[q];cases s with
   |nil=>rfl
   |cons t s=>simp[F t<|by rw[e];simp]
 |some k=>
  simp only[Me];obtain⟨hk,h1,h2⟩:=anu.mp h;have S:r[k]=j:=by simpa using h1
  have U:¬j∈r.take k:=λz=>by obtain⟨i,hi,e⟩:=List.getElem_of_mem z;rw[zd]at hi;rw[List.getElem_take]at e;have:=h2 i (by lia);simp[e]at this
  have W:r=r.take k++j::r.drop (k+1):=by rw[<-S,List.getElem_cons_drop,List.take_append_drop]
  have:=RA n M mk (r.take k) (r.drop<|k+1) U;rw[<-W]at this;rw[<-this];rfl
def we(n:Nat)(j:List Bytes):JH n j=demandOf n j:=by
 cases j with
 |nil=>rfl
 |cons w r=>
  unfold JH demandOf;simp only;by_cases h1:w=text "if"
  .subst h1;rw[dt rfl,dt rfl];exact DX n (NB n) (by decide) _ r
  .rw[c0 h1,c0 h1];by_cases h2:w=text "not"
   .subst h2;rw[dt rfl,dt rfl];exact DX n (NC n) (by decide) _ r
   .rw[c0 h2,c0 h2];exact NA n<|w::r
def BB(n:Nat)(z:List Bytes):demandOf n (z.map g)=demandOf n z:=by
 have I:∀(j:Bytes)(F:low j)(mk:Sel->Sel->Demand)(r:List Bytes),((selOf n<|r.map g).bind λa=>(match a.2 with
   |t::s=>if t=j then(selOf n s).bind λb=>if b.2.isEmpty=true then some (mk a.1 b.1)else none else none
   |[]=>none))=(selOf n r).bind λa=>(match a.2 with
   |t::s=>if t=j then(selOf n s).bind λb=>if b.2.isEmpty=true then some (mk a.1 b.1)else none else none
   |[]=>none):=by
  intro j F mk r;rw[sS];cases selOf n r with
  |none=>rfl
  |some p=>
   obtain⟨a,s⟩:=p;cases s with
   |nil=>rfl
   |cons t s=>
    simp;by_cases h:t=j
    .rw[dt<|(cZ F).mpr h,dt h,sS];cases selOf n s with
     |none=>rfl
     |some q=>obtain⟨b,u⟩:=q;cases u<;>rfl
    .rw[c0 λq=>h<|(cZ F).mp q,c0 h]
 cases z with
 |nil=>rfl
 |cons w r=>
  unfold demandOf;simp only[ip];have J:(g w=text "if")=(w=text "if"):=propext<|cZ Vk;have M:(g w=text "not")=(w=text "not"):=propext<|cZ Rz;simp only[J,M];by_cases h1:w=text "if"
  .rw[dt h1,dt h1];exact I _ Ny _ r
  .rw[c0 h1,c0 h1];by_cases h2:w=text "not"
   .rw[dt h2,dt h2];exact I _ Nz _ r
   .rw[c0 h2,c0 h2,<-ip,sS];cases selOf n (w::r)with
    |none=>rfl
    |some p=>
     obtain⟨a,s⟩:=p
     match s with
     |[]=>rfl
     |[_]=>rfl
     |[_,_]=>rfl
     |[_,_,_]=>rfl
     |[q,x,t,y]=>simp only[Me,am7,ip,HD];have S:(g t=text "to")=(t=text "to"):=propext<|cZ Vl;rw[Bz,show natOf (g x)=natOf x from sR x,show natOf (g y)=natOf y from sR y];simp only[S]
     |_::_::_::_::_::_=>rfl
def Rp(x:Q)(a:Int)(b:Nat):Prop:=0<b/\0<x.d/\x.n*(b:Int)=a*(x.d:Int)
def Rp.mk(h:0<b):Rp (Vbxoab.mk a b) a b:=by
 unfold Vbxoab.mk;rw[c0<|by lia];simp only;have j:0<Nat.gcd a.natAbs b:=Nat.gcd_pos_of_pos_right _ h;have z:Nat.gcd a.natAbs b∣b:=Nat.gcd_dvd_right _ _;have I:((Nat.gcd a.natAbs b:Nat):Int)∣a:=Int.ofNat_dvd_left.mpr<|Nat.gcd_dvd_left _ _;refine⟨h,Nat.div_pos (Nat.le_of_dvd h z) j,?_⟩;show a/((Nat.gcd a.natAbs b:Nat):Int)*(b:Int)=a*((b/Nat.gcd a.natAbs b:Nat):Int);generalize Nat.gcd a.natAbs b=G at I z j;obtain⟨k,hk⟩:=I;obtain⟨m,J⟩:=z;subst hk J;have F:((G:Nat):Int)≠0:=by lia
 rw[Int.mul_ediv_cancel_left _ F,Nat.mul_div_cancel_left _ j];simp only[apg];rw[<-Int.mul_assoc,Int.mul_comm k]
def Rp.add(Y:Rp x a b)(Z:Rp y c d):Rp (Vbxoab.add x y) (a*d+c*b)<|b*d:=by
 obtain⟨b0,xd,ex⟩:=Y;obtain⟨d0,yd,ey⟩:=Z;have m:Rp (Vbxoab.add x y) (x.n*(y.d:Int)+y.n*(x.d:Int))<|x.d*y.d:=Rp.mk<|Nat.mul_pos xd yd;obtain⟨_,J,I⟩:=m;refine⟨Nat.mul_pos b0 d0,J,?_⟩;generalize Vbxoab.add x y=z at J I;obtain⟨M,j⟩:=x;obtain⟨yn,F⟩:=y;obtain⟨S,U⟩:=z;simp only at*;have pos:(0:Int)<(j:Int)*(F:Int):=by
  have:(0:Int)<j:=by lia
  have:(0:Int)<F:=by lia
  exact Int.mul_pos (by lia) (by lia)
 apply Int.eq_of_mul_eq_mul_right (a:=(j:Int)*(F:Int)) (by lia);simp at I|-;have k1:S*(b*d)*(j*F)=(S*(j*F))*(b*d):=by ac_rfl
 rw[k1,I];have k2:(M*F+yn*j)*U*((b:Int)*d)=((M*b)*(F*d)+(yn*d)*(j*b))*U:=by
  simp only[Int.add_mul]
  congr 1<;>ac_rfl
 rw[k2,ex,ey];simp only[Int.add_mul]
 congr 1<;>ac_rfl
def Rp.neg(j:Rp x a b):Rp (Vbxoab.neg x) (-a) b:=by obtain⟨z,xd,ex⟩:=j;refine⟨z,xd,?_⟩;show-x.n*(b:Int)=-a*(x.d:Int);rw[Int.neg_mul,Int.neg_mul,ex]
def Rp.sub(j:Rp x a b)(z:Rp y c d):Rp (Vbxoab.sub x y) (a*d-c*b)<|b*d:=by have h:=j.add z.neg;rw[Int.neg_mul,<-Int.sub_eq_add_neg]at h;exact h
def Rp.sign(F:Rp x a b):x.n<0↔a<0:=by
 obtain⟨I,xd,ex⟩:=F;have j:(0:Int)<b:=by lia
 have z:(0:Int)<x.d:=by lia
 constructor
 .intro h;have h1:=Int.mul_neg_of_neg_of_pos h j;rw[ex]at h1;apply Int.lt_of_not_ge;intro q;have:=Int.mul_nonneg q<|X3 z;lia
 .intro h;have h1:=Int.mul_neg_of_neg_of_pos h z;rw[<-ex]at h1;apply Int.lt_of_not_ge;intro q;have:=Int.mul_nonneg q<|X3 j;lia
def Rp.less(M:Rp x a b)(S:Rp y c d):Vbxoab.less x y=decide (a*(d:Int)<c*(b:Int)):=by
 obtain⟨Y,xd,ex⟩:=M;obtain⟨d0,Z,U⟩:=S;unfold Vbxoab.less;have z:(0:Int)<(b:Int)*d:=Int.mul_pos (by lia) (by lia);have F:(0:Int)<(x.d:Int)*y.d:=Int.mul_pos (by lia) (by lia);have j:(x.n*(y.d:Int)<y.n*(x.d:Int))↔(a*(d:Int)<c*(b:Int)):=by
  have I:x.n*(y.d:Int)*(b*d)=a*d*(x.d*y.d):=by
   have:x.n*(y.d:Int)*(b*d)=(x.n*b)*(y.d*d):=by ac_rfl
   rw[this,ex];ac_rfl
  have J:y.n*(x.d:Int)*(b*d)=c*b*(x.d*y.d):=by
   have:y.n*(x.d:Int)*(b*d)=(y.n*d)*(x.d*b):=by ac_rfl
   rw[this,U];ac_rfl
  constructor
  .intro h;have:=apH h z;rw[I,J]at this;exact apQ this<|X3 F
  .intro h;have:=apH h F;rw[<-I,<-J]at this;exact apQ this<|X3 z
 by_cases h:x.n*(y.d:Int)<y.n*(x.d:Int)
 .rw[ki h,ki<|j.mp h]
 .rw[kx h,kx λq=>h<|j.mpr q]
def ND(o:Office)(n:Int)(d:Nat)(p:Paper)(hd:0<d)(F:0<marksOf o p):Rp (off o (Vbxoab.mk n d) p) ((weight o p:Int)*d-n*(marksOf o p:Int)).natAbs<|marksOf o p*d:=by
 have h1:Rp (mean o p) (weight o p:Int)<|marksOf o p:=Rp.mk F;have h2:Rp (Vbxoab.mk n d) n d:=Rp.mk hd;have j:=h1.sub h2;unfold off;simp only;generalize Vbxoab.sub (mean o p) (Vbxoab.mk n d)=z at j;have hs:=j.sign;by_cases q:z.n<0
 .rw[dt q];have:=j.neg;have e:-((weight o p:Int)*d-n*(marksOf o p:Int))=(((weight o p:Int)*d-n*(marksOf o p:Int)).natAbs:Int):=by have:=hs.mp q;lia
  rw[e]at this;exact this
 .rw[c0 q];have e:((weight o p:Int)*d-n*(marksOf o p:Int))=(((weight o p:Int)*d-n*(marksOf o p:Int)).natAbs:Int):=by have:¬(weight o p:Int)*d-n*(marksOf o p:Int)<0:=λz=>q<|hs.mpr z;lia
  rw[e]at j;simpa using j
theorem mn(f:Paper->Q):∀(l:List Paper)(y:Paper),leastQ f l=some y->y∈l
 |[],y,h=>by simp[leastQ]at h
 |a::r,y,q=>by
  unfold leastQ at q;cases z:leastQ f r with
  |none=>rw[z]at q;simp at q;simp[q]
  |some w=>
   rw[z]at q;simp only at q;split at q
   .simp at q;simp[q]
   .simp at q;subst q;exact kB _<|mn f r _ z
theorem rl(f:Paper->Q):∀(l:List Paper)(j:Nat)(m:Paper),l[j]?=some m->(∀(i:Nat)(x:Paper),l[i]?=some x->less (f x) (f m)=false)->(∀(i:Nat)(x:Paper),i<j->l[i]?=some x->less (f m) (f x)=true)->leastQ f l=some m
 |[],j,m,h,_,_=>by simp at h
 |x::r,0,m,h,h1,_=>by
  have e:x=m:=by simpa using h
  subst e;unfold leastQ;cases q:leastQ f r with
  |none=>rfl
  |some y=>obtain⟨i,hi⟩:=aph<|mn f r y q;have:=h1 (i+1) y (by simpa using hi);simp[most,this]
 |x::r,j+1,m,h,h1,h2=>by unfold leastQ;rw[(rl f r j m (by simpa using h) (λi y z=>h1 (i+1) y<|by simpa using z) λi y hi z=>h2 (i+1) y (by lia)<|by simpa using z)];have:=h2 0 x (by lia) rfl;simp[most,this]
structure Wf(k:Nat)(o:Office):Prop where
 rp:o.items.length<=20
 it:∀x∈o.items,x.topic<=11/\x.kind<=5/\x.hard<=4/\1<=x.marks/\x.marks<=200/\1<=x.minutes/\x.minutes<=300/\x.used.length<=k
 en:∀e∈o.enemies,e.1<o.items.length/\e.2<o.items.length/\e.1≠e.2
 JI:o.enemies.length<=k
 pl:o.plan.length<=10
 yr:o.year<=200
 gap:o.gap<=50
 most:1<=o.most/\o.most<=99
def Wf.start:Wf 0 Vbxoab.start:=⟨by decide,(λx h=>by cases h),(λx h=>by cases h),ez _,ti _,ti _,ti _,by decide⟩
def Wf.more(h:Wf k o):Wf (k+1) o:=⟨h.rp,λx j=>let⟨a,b,c,d,e,f,g,i⟩:=h.it x j;⟨a,b,c,d,e,f,g,B8 i⟩,h.en,B8 h.JI,h.pl,h.yr,h.gap,h.most⟩
theorem jQ(n:Nat):∀(ls:List Bytes)(i:Nat)(l r:List Demand),l.length<=10->readPlan n i ls l=.ok r->r.length<=10
 |[],i,l,r,h,e=>by simp only[readPlan]at e;cases e;exact h
 |b::ls,i,l,r,h,e=>by
  unfold readPlan at e;cases q:wordsIn b []with
  |nil=>rw[q]at e;exact jQ n ls (i+1) l r h e
  |cons w ws=>
   rw[q]at e;simp only at e;cases z:demandOf n<|w::ws with
   |none=>rw[z]at e;cases e
   |some d=>
    rw[z]at e;simp only at e;split at e
    .cases e
    .rename_i hd;have:l.length<10:=by simpa[DEMANDS]using hd
     exact jQ n ls (i+1) (l++[d]) r (by simp;lia) e
def dw:inside x lo hi=true↔lo<=x/\x<=hi:=by simp[inside]
def ib:isItem s i=true↔0<=i/\i.toNat<s.items.length:=by
 simp only[isItem,dw,nat,Int.ofNat_eq_natCast];constructor
 .rintro⟨h1,h2⟩;exact⟨h1,by lia⟩
 .rintro⟨h1,h2⟩;exact⟨h1,by lia⟩
def Wf.items(h:Wf k o)(j:its.length=o.items.length)
  (hi:∀x∈its,x.topic<=11/\x.kind<=5/\x.hard<=4/\1<=x.marks/\x.marks<=200/\1<=x.minutes/\x.minutes<=300/\x.used.length<=k+1):Wf (k+1) {o with items:=its}:=
 ⟨by rw[j];exact h.rp,hi,λe z=>by rw[j];exact h.en e z,B8 h.JI,h.pl,h.yr,h.gap,h.most⟩
def qc(h:i<o.items.length):itemAt o i∈o.items:=by unfold itemAt;rw[F4,gs h];exact Ka h
def BC(o:Office)(p:Paper):(useAll o p).items.length=o.items.length:=by simp[useAll]
def Wf.useAll(h:Wf k o)(p:Paper):Wf (k+1)<|useAll o p:=by
 refine h.items (by simp) λx z=>?_;obtain⟨⟨y,i⟩,F,rfl⟩:=n8.mp z;have j:=(Q9 F).1;obtain⟨a,b,c,d,e,f,g,u⟩:=h.it y j;simp only;split
 .exact⟨a,b,c,d,e,f,g,by simp;lia⟩
 .exact⟨a,b,c,d,e,f,g,B8 u⟩
def Wf.search(h:Wf k o)(f:List Int):Wf (k+1) (search o f).1:=by unfold Vbxoab.search;split<;>exact h.more
def Wf.onPaper(h:Wf k o)(l:List Int)(f:Paper->State×List Int)(j:∀p,Wf (k+1) (f p).1):Wf (k+1) (onPaper o l f).1:=by
 unfold Vbxoab.onPaper;split
 .exact h.more
 .exact j _
def Wf.does(h:Wf k o)(c:Call):Wf (k+1) (does o c).1:=by
 cases c with
 |item t J h' m u=>
  unfold Vbxoab.does;simp only;split
  .exact h.more
  .rename_i q;simp only[Zl,p0,dw]at q;split
   .exact h.more
   .rename_i z;simp only[ITEMS]at z;refine⟨by simp;lia,λx F=>?_,λe I=>?_,B8 h.JI,h.pl,h.yr,h.gap,h.most⟩
    .rcases ro.mp F with F|F
     .obtain⟨a,b,c,d,e,f,g,i⟩:=h.it x F;exact⟨a,b,c,d,e,f,g,B8 i⟩
     .rw[oI]at F;subst F;simp only;refine⟨?_,?_,?_,?_,?_,?_,?_,ti _⟩<;>lia
    .obtain⟨a,b,c⟩:=h.en e I;simp only[mu,kA,wh];exact⟨by lia,by lia,c⟩
 |enemies i j=>
  unfold Vbxoab.does;simp only;split
  .exact h.more
  .rename_i q;simp only[Zl,p0,ib,bne_iff_ne,ne_eq]at q;split
   .exact h.more
   .refine⟨h.rp,λx F=>let⟨a,b,c,d,e,f,g,i⟩:=h.it x F;⟨a,b,c,d,e,f,g,B8 i⟩,λe I=>?_,by simp;exact h.JI,h.pl,h.yr,h.gap,h.most⟩;rcases ro.mp I with I|I
    .exact h.en e I
    .rw[oI]at I;subst I;exact⟨q.1.2,q.2.1.2,λz=>q.2.2<|by lia⟩
 |plan t=>
  unfold Vbxoab.does;simp only;split
  .exact h.more
  .split
   .exact h.more
   .rename_i l M;exact⟨h.rp,h.more.it,h.en,B8 h.JI,jQ _ _ _ _ _ (ti _) M,h.yr,h.gap,h.most⟩
 |leave g m=>
  unfold Vbxoab.does;simp only;split
  .exact h.more
  .rename_i q;simp only[Zl,p0,dw]at q;exact⟨h.rp,h.more.it,h.en,B8 h.JI,h.pl,h.yr,by simp only;lia,by simp only;lia⟩
 |year n=>
  unfold Vbxoab.does;simp only;split
  .exact h.more
  .split
   .exact h.more
   .rename_i q;simp only[LASTYEAR]at q;exact⟨h.rp,h.more.it,h.en,B8 h.JI,h.pl,by simp only;lia,h.gap,h.most⟩
 |meets l=>exact h.onPaper l _ λp=>h.more
 |count=>exact h.search _
 |first=>exact h.search _
 |clash=>exact h.search _
 |must=>exact h.search _
 |near l=>exact h.onPaper l _ λp=>h.search _
 |twins=>exact h.search _
 |use l=>
  refine h.onPaper l _ λp=>?_;split
  .exact h.more
  .exact h.useAll p
 |shown=>exact h.more
 |about i=>unfold Vbxoab.does;simp only;split<;>exact h.more
 |score l=>exact h.onPaper l _ λp=>h.more
 |hardest n d=>unfold Vbxoab.does;simp only;split;exact h.more;exact h.search _
 |withdraw i=>
  unfold Vbxoab.does;simp only;split
  .exact h.more
  .rename_i q;simp only[Zl,ib]at q;split
   .exact h.more
   .refine h.items (by simp) λx F=>?_;rcases aoB F with F|F
    .obtain⟨a,b,c,d,e,f,g,i⟩:=h.it x F;exact⟨a,b,c,d,e,f,g,B8 i⟩
    .subst F;obtain⟨a,b,c,d,e,f,g,i⟩:=h.it _<|qc q.2;exact⟨a,b,c,d,e,f,g,B8 i⟩
 |nth J=>unfold Vbxoab.does;simp only;split;exact h.more;exact h.search _
 |lasts n=>unfold Vbxoab.does;simp only;split;exact h.more;exact h.search _
 |told=>exact h.more
def Wf.step(h:Wf k o)(c:List<|List Int):Wf (k+1) (Vbxoab.step o c).1:=by
 unfold Vbxoab.step;split
 .exact h.more
 .exact h.does _
def NF(c:List<|List Int):PyVbxoab.whole c=c:=by
 obtain _|⟨_|⟨n|_,a⟩,b⟩:=c
 .rfl
 rotate_left
 iterate 21 (rcases n with _|n;rotate_left)
 all_goals repeat' first|rfl|(rcases b with _|⟨_,_|_⟩<;>rfl)|rcases a with _|⟨_,a⟩
def DZ(l:List Int):PyVbxoab.calls l=PyFlat.calls PyVbxoab.shape l.length l:=by
 unfold PyVbxoab.calls;cases PyFlat.calls PyVbxoab.shape l.length l with
 |none=>rfl
 |some cs=>
  show some (cs.map PyVbxoab.whole)=some cs
  congr 1
  rw[show PyVbxoab.whole=id from funext NF,List.map_id]
def kM:List<|Nat×Nat:=[(5,0),(2,0),(0,1),(2,0),(1,0),(0,1),(0,0),(0,0),(0,0),(0,0),(0,1),(0,0),(0,1),(0,0),(1,0),(0,1),(2,0),(1,0),(1,0),(1,0),(0,0)]
def NG(h:PyVbxoab.shape p=some x):∃j:Nat,p=(j:Int)/\kM[j]?=some x:=by
 obtain n|n:=p
 .exact⟨n,rfl,by
   iterate 21 (rcases n with _|n;exact h)
   cases show none=some x from h⟩
 .cases show none=some x from h
def Ay(h:kM[j]?=some (n,k)):j<=20/\n<=5/\(k=0\/(k=1/\n=0)):=by
 have F:j<21:=(l4.mp h).1;have z:∀j:Fin 21,∀x,kM[j.val]?=some x->x.1<=5/\(x.2=0\/(x.2=1/\x.1=0)):=by
  intro j x;revert x;have:∀j:Fin 21,(match kM[j.val]? with|some x=>decide<|x.1<=5/\(x.2=0\/(x.2=1/\x.1=0))|none=>true)=true:=by decide
  intro x I;have q:=this j;rw[I]at q;simpa using q
 have:=z ⟨j,F⟩ (n,k) h;exact⟨by lia,this⟩
def NH(h:PyFlat.call PyVbxoab.shape (p::r)=some (c,t)):
  ∃(j n k:Nat),p=(j:Int)/\kM[j]?=some (n,k)/\((k=0/\n<=r.length/\c=[p::r.take n]/\t=r.drop n)\/
   (k=1/\n=0/\∃(m:Nat)(r':List Int),r=(m:Int)::r'/\m<=r'.length/\c=[[p],r'.take m]/\t=r'.drop m)):=by
 simp only[PyFlat.call]at h;cases hs:PyVbxoab.shape p with
 |none=>rw[hs]at h;cases h
 |some x=>
  obtain⟨n,k⟩:=x;obtain⟨j,e,z⟩:=NG hs;rw[hs]at h;simp only at h;split at h
  .cases h
  .rename_i F;refine⟨j,n,k,e,z,?_⟩;rcases(Ay z).2.2 with rfl|⟨rfl,rfl⟩
   .simp only[PyFlat.rows]at h;cases h;exact .inl ⟨rfl,by lia,rfl,rfl⟩
   .simp only[PyFlat.rows,XT]at h;cases r with
    |nil=>simp[PyFlat.row]at h
    |cons m r'=>
     simp only[PyFlat.row]at h;by_cases q:0<=m/\m.toNat<=r'.length
     .rw[dt q]at h;simp only[List.take_zero]at h;cases h;exact .inr ⟨rfl,rfl,m.toNat,r',by rw[apx q.1],q.2,rfl,rfl⟩
     .rw[c0 q]at h;cases h
def Lk(h:PyFlat.calls PyVbxoab.shape f (p::r)=some F):
  ∃I c t j,f=I+1/\PyFlat.call PyVbxoab.shape (p::r)=some (c,t)/\PyFlat.calls PyVbxoab.shape I t=some j/\F=c::j:=by
 cases f with
 |zero=>simp[PyFlat.calls]at h
 |succ f=>
  simp only[PyFlat.calls]at h;cases J:PyFlat.call PyVbxoab.shape<|p::r with
  |none=>rw[J]at h;cases h
  |some x=>
   obtain⟨c,t⟩:=x;rw[J]at h;simp only at h;cases z:PyFlat.calls PyVbxoab.shape f t with
   |none=>rw[z]at h;cases h
   |some j=>rw[z]at h;cases h;exact⟨f,c,t,j,rfl,rfl,z,rfl⟩
def YE(s:State)(j:List<|List<|List Int):List Int:=PyFlat.told<|PyFlat.played Vbxoab.step s j
def RB(s:State):YE s []=[]:=rfl
def NI(s:State)(c:List<|List Int)(j:List<|List<|List Int):YE s (c::j)=(((Vbxoab.step s c).2.length:Int)::(Vbxoab.step s c).2)++YE (Vbxoab.step s c).1 j:=rfl
def D0(l:List Int)(j:List<|List<|List Int)(h:PyFlat.calls PyVbxoab.shape l.length l=some j):PyVbxoab.answers l=YE Vbxoab.start j:=by unfold PyVbxoab.answers;rw[DZ,h];rfl
def D6(h:PyVbxoab.answers_asked l=true):∃j,PyFlat.calls PyVbxoab.shape l.length l=some j/\j.length<=80/\j.all VbxoabNeutral.asked1=true:=by
 unfold PyVbxoab.answers_asked at h;rw[DZ]at h;cases q:PyFlat.calls PyVbxoab.shape l.length l with
 |none=>rw[q]at h;cases h
 |some j=>rw[q]at h;simp only[p0,VbxoabNeutral.asked,Oa]at h;exact⟨j,rfl,h.2.2,h.2.1⟩
def iY{j:Type}(f:j->Nat)(b:Option j)(x:j):Option j:=match b with
 |none=>some x
 |some y=>if f x<f y then some x else some y
theorem wg{j:Type}(f:j->Nat)(x:j):∀l:List j,leastBy f (l++[x])=iY f (leastBy f l) x
 |[]=>rfl
 |y::l=>by
  rw[Ki,leastBy,wg f x l,leastBy];cases h:leastBy f l with
  |none=>
   unfold iY;dsimp only;split
   .rw[c0<|by lia]
   .rw[dt<|by lia]
  |some z=>
   show(match iY f (some z) x with|none=>some y|some F=>if f y<=f F then some y else some F)=iY f (if f y<=f z then some y else some z) x;unfold iY;dsimp only;by_cases h1:f x<f z
   .rw[dt h1];dsimp only;by_cases h2:f y<=f z
    .rw[dt h2];dsimp only;by_cases I:f x<f y
     .rw[dt I,c0<|by lia]
     .rw[c0 I,dt<|by lia]
    .rw[c0 h2];dsimp only;rw[dt h1,c0<|by lia]
   .rw[c0 h1];dsimp only;by_cases h2:f y<=f z
    .rw[dt h2];dsimp only;rw[c0<|by lia]
    .rw[c0 h2];dsimp only;rw[c0 h1]
def wj{j:Type}(f:j->Nat)(l:List j):leastBy f l=l.foldl (iY f) none:=by refine snocInd (P:=λl=>leastBy f l=l.foldl (iY f) none) rfl (λl m z=>?_) l;rw[wg,Ep,z];rfl
def RC(d:Paper->Paper->Bool)(ls:List Paper)(i:Nat):List<|Paper×Paper:=match ls[i]? with
 |none=>[]
 |some p=>((ls.drop<|i+1).filter<|d p).map λq=>(p,q)
def mr(d:Paper->Paper->Bool)(ls:List Paper)(n:Nat):List<|Paper×Paper:=(List.range n).flatMap<|RC d ls
theorem D7:∀ls:List Paper,pairs ls=mr disjoint ls ls.length
 |[]=>rfl
 |p::ls=>by rw[pairs,D7 ls,mr,mr,kA,YC,Q3,List.flatMap_map];rfl
def bitsOf(l:List Nat):Nat:=l.foldl (λb n=>b|||1<<<n) 0
def ur(l:List Nat)(n:Nat):bitsOf (l++[n])=bitsOf l|||1<<<n:=by unfold bitsOf;rw[Ep];rfl
def qd(l:List Nat)(e:Nat):(bitsOf l).testBit e=l.contains e:=by
 refine snocInd (P:=λl=>(bitsOf l).testBit e=l.contains e) (by simp[bitsOf]) (λl m j=>?_) l;rw[ur,XW,j,Sm,TN,X8];rw[q7];simp;constructor
 .rintro(h|h)
  .exact .inl h
  .exact .inr h.symm
 .rintro(h|h)
  .exact .inl h
  .exact .inr h.symm
def yR(p q:List Nat):bitsOf p&&&bitsOf q=0↔disjoint p q=true:=by
 rw[and_zero];unfold disjoint;rw[wy];constructor
 .intro h x j;have:=h x;rw[qd,qd]at this;simp at this;simp;exact this j
 .rintro h e⟨h1,h2⟩;rw[qd]at h1 h2;simp at h1 h2;have:=h e h1;simp at this;exact this h2
theorem D8:∀(l:List Nat)(a:Nat),l.foldl (λa b=>a+b) a=a+l.sum
 |[],a=>by simp
 |x::l,a=>by rw[Hr,D8 l,yI];lia
def lK(l:List Nat):sumOf l=l.sum:=by unfold sumOf;rw[D8];lia
def NJ{l m:List Nat}(h:l.Perm m):l.sum=m.sum:=by
 induction h with
 |nil=>rfl
 |cons x _ j=>rw[yI,yI,j]
 |swap x y l=>simp;lia
 |trans _ _ a b=>rw[a,b]
theorem sum_filter(g:Nat->Nat)(p:Nat->Bool):∀l:List Nat,(∀x∈l,p x=false->g x=0)->(l.map g).sum=((l.filter p).map g).sum
 |[],_=>rfl
 |x::l,h=>by
  have j:=sum_filter g p l λy z=>h y<|kB _ z;rw[ip,yI,F5];cases q:p x with
  |true=>rw[dt rfl,ip,yI,j]
  |false=>rw[c0<|by simp,j,h x lx q];lia
end MA
namespace L2
open PySem PySem.Spec PyProof.Rows
abbrev Key:=Sum Int Str
def wk:Key->Value->Bool
 |.inl k,v=>Value.isInt k v
 |.inr x,v=>Value.isStrOf x v
def acX(w:World):Key->Int
 |.inl k=>hashInt k
 |.inr x=>hashStr w x
def eY:∀{k:Key}{v:Value},wk k v=true->(B_ λi t=>k=Sum.inl i/\v=Value.int i t)\/(B_ λx t=>k=Sum.inr x/\v=Value.str x t)
 |.inl i,v,h=>by obtain⟨t,e⟩:=Value.isInt_shape h;exact .inl ⟨i,t,rfl,e⟩
 |.inr x,v,h=>by obtain⟨t,e⟩:=Value.isStrOf_shape h;exact .inr ⟨x,t,rfl,e⟩
def Ll(i:Int)(t:Tok):wk (.inl i) (.int i t)=true:=by simp[wk,Value.isInt]
def Lm(x:Str)(t:Tok):wk (.inr x) (.str x t)=true:=by simp[wk,Value.isStrOf]
def Vm(a b:Int):decide ((Sum.inl a:Key)=Sum.inl b)=(a==b):=by
 by_cases e:a=b
 .subst e;simp
 .have h:¬(Sum.inl a:Key)=Sum.inl b:=λq=>e<|Sum.inl.inj q;rw[kx h];exact(Mh.mpr e).symm
def Vn(a b:Str):decide ((Sum.inr a:Key)=Sum.inr b)=decide (a=b):=by
 by_cases e:a=b
 .subst e;simp
 .have h:¬(Sum.inr a:Key)=Sum.inr b:=λq=>e<|Sum.inr.inj q;rw[kx h,kx e]
def Vo(a:Int)(b:Str):decide ((Sum.inl a:Key)=Sum.inr b)=false:=kx λq=>nomatch q
def Vp(a:Str)(b:Int):decide ((Sum.inr a:Key)=Sum.inl b)=false:=kx λq=>nomatch q
def eI(prog:Program)(w:World):PySem.KeyKind prog w Key where
 is:=wk
 hash:=acX w
 inj:=λv a b J I=>by
  rcases eY J with⟨i,t,rfl,rfl⟩|⟨x,t,rfl,rfl⟩
  .rcases eY I with⟨j,u,rfl,e⟩|⟨y,u,rfl,e⟩
   .injection e with z _;rw[z]
   .exact nomatch e
  .rcases eY I with⟨j,u,rfl,e⟩|⟨y,u,rfl,e⟩
   .exact nomatch e
   .injection e with z _;rw[z]
 byValue:=λk v h=>by rcases eY h with⟨i,t,rfl,rfl⟩|⟨x,t,rfl,rfl⟩<;>rfl
 pyHash:=λF h=>by
  rcases eY F with⟨i,t,rfl,rfl⟩|⟨x,t,rfl,rfl⟩
  .exact wpAny_pyHash_int h
  .exact wpAny_pyHash_str h
 eqBool:=λM F h=>by
  rcases eY M with⟨i,t,rfl,rfl⟩|⟨x,t,rfl,rfl⟩
  .rcases eY F with⟨j,u,rfl,rfl⟩|⟨y,u,rfl,rfl⟩
   .rw[Vm]at h;exact wpAny_eqBool_int h
   .rw[Vo]at h;exact SeqAt.EqAt.int_str i t y u _ _ _ _ h
  .rcases eY F with⟨j,u,rfl,rfl⟩|⟨y,u,rfl,rfl⟩
   .rw[Vp]at h;exact SeqAt.EqAt.str_int x t j u _ _ _ _ h
   .rw[Vn]at h;exact wpAny_eqBool_str h
 «strs»:=λk x t v h=>by
  rcases eY h with⟨i,u,rfl,e⟩|⟨y,u,rfl,e⟩
  .exact nomatch e
  .injection e with z _
   subst z;cases v<;>rfl
def D9(prog:Program)(w:World)(i:Int)(t:Tok):(eI prog w).is (.inl i) (.int i t)=true:=Ll i t
def Ea(prog:Program)(w:World)(x:Str)(t:Tok):(eI prog w).is (.inr x) (.str x t)=true:=Lm x t
inductive V where
 |eQ|bl (b:Bool)|int (i:Int)|str (x:Str)|Eb (b:Array UInt8)|YF (b:UInt64)|ref (a:Addr)|ty (n:String)
 deriving DecidableEq
def RelV:V->Value->Prop
 |.eQ,u=>u=Value.none
 |.bl b,u=>u=Value.bool b
 |.int i,u=>∃t,u=Value.int i t
 |.str x,u=>∃t,u=Value.str x t
 |.Eb b,u=>∃t,u=Value.bytes b t
 |.YF b,u=>∃t,u=Value.float b t
 |.ref a,u=>u=Value.ref a
 |.ty n,u=>u=Value.type n
abbrev Vals:List V->Bb->Prop:=Paired RelV
def Vals.length(r:Vals xs us):xs.length=us.length:=mf r
theorem Vals.get:∀{xs:List V}{us:Bb}{i:Nat}{x:V},Vals xs us->xs[i]?=some x->∃u,us[i]?=some u/\RelV x u
 |_,_,_,_,.nil,e=>by simp at e
 |_,_,0,_,.cons r _,e=>by simp at e;subst e;exact⟨_,rfl,r⟩
 |_,_,i+1,x,.cons _ t,e=>by obtain⟨u,h1,h2⟩:=Vals.get t (by simpa using e);exact⟨u,by simpa using h1,h2⟩
theorem Vals.set(r:RelV x u):∀{xs:List V}{us:Bb}(i:Nat),Vals xs us->Vals (xs.set i x) (us.set i u)
 |_,_,_,.nil=>.nil
 |_,_,0,.cons _ t=>.cons r t
 |_,_,i+1,.cons q t=>.cons q<|Vals.set r i t
theorem Vals.append{xs ys:List V}{us j:Bb}(h:Vals xs us)(s:Vals ys j):Vals (xs++ys) (us++j):=by induction h with|nil=>exact s|cons r _ i=>exact .cons r i
theorem Vals.take:∀{xs:List V}{us:Bb}(n:Nat),Vals xs us->Vals (xs.take n) (us.take n)
 |_,_,0,_=>.nil
 |_,_,_+1,.nil=>.nil
 |_,_,n+1,.cons r t=>.cons r<|Vals.take n t
theorem Vals.drop:∀{xs:List V}{us:Bb}(n:Nat),Vals xs us->Vals (xs.drop n) (us.drop n)
 |_,_,0,r=>r
 |_,_,_+1,.nil=>.nil
 |_,_,n+1,.cons _ t=>Vals.drop n t
def sT:Option V->BJ->Prop
 |some v,some u=>RelV v u
 |none,none=>True
 |_,_=>False
def KV{κ:Type}:List (κ×V)->List (κ×Value)->Prop:=Paired λ(p:κ×V)(q:κ×Value)=>p.1=q.1/\RelV p.2 q.2
def kV:Key->V
 |.inl i=>.int i
 |.inr x=>.str x
inductive HO where
 |lst (xs:List V)
 |tup (xs:List V)
 |dK (kvs:List<|Key×V)|dT (kvs:List<|List Key×V)
 |set (S:Int->Bool) (n:Nat)
 |ins (C dx:Addr) (fs:List<|Str×V)
 |own (x:Addr)
 |xd (fs:List<|Str×V)
 |met (f x:Addr)
 |RD (lo hi:Int)
 |yS (o:Obj) (u:HO)
 |uX (ps:BA)
 |ext (φ:Heap->Prop)
abbrev Hp:=Addr->Option HO
def upd(H:Hp)(a:Addr)(o:HO):Hp:=λb=>if b=a then some o else H b
def ah:upd H a o a=some o:=by unfold upd;rw[dt rfl]
def aL(h:b≠a):upd H a o b=H b:=by unfold upd;rw[c0 h]
def JJ{H:Hp}(h:H a=some o)(h':H b=some u)(d:o≠u):a≠b:=by intro e;subst e;rw[h]at h';exact d<|ri h'
def aX{H:Hp}(h:H a=some o)(h':H b=none):a≠b:=by intro e;subst e;rw[h]at h';cases h'
section
variable(P:Program)(w:World)
def eh(H:Hp)(h:Heap)(a:Addr):HO->Prop
 |.lst xs=>xs.length<=sizeLine/\B_ λ(its:Bb)(n:Nat)=>Vals xs its/\h.get? a=some {cls:=.type "list",data:=.seq its.toArray n}
 |.tup xs=>xs.length<=sizeLine/\∃its:Bb,Vals xs its/\IsTup h a its.toArray
 |.dK kvs=>kvs.length<=sizeLine/\(a==sysModules)=false/\∃vs,KV kvs vs/\h.DictOf (eI P w) a vs
 |.dT kvs=>kvs.length<=sizeLine/\(a==sysModules)=false/\∃xs:List<|List Key×Addr×Value,
  Paired (λ(p:List Key×V)(q:List Key×Addr×Value)=>p.1=q.1/\H q.2.1=some (.tup<|p.1.map kV)/\RelV p.2 q.2.2) kvs xs/\
  C_ λo es ep=>h.get? a=some o/\o.ExactDict/\o.data=.dict es ep/\es.toList=xs.map (entryOfKey<|tupleKind<|eI P w)/\(xs.map (·.1)).Nodup
 |.set S n=>h.SetOf (intKind P w) a S n
 |.ins C dx fs=>H dx=some (.own a)/\fs.length<=1000/\dx≠a/\h.get? a=some (PySem.W.instObj C dx)/\
  ∃mA,h.Ns1 dx mA/\(∀f,sT (fs.lookup f)<|mA f)/\PySem.Within mA (fs.map (·.1))
 |.own _=>∃o,h.get? a=some o
 |.xd fs=>∃mA,h.Ns1 a mA/\∀f,sT (fs.lookup f)<|mA f
 |.RD lo hi=>C_ λt u v=>h.get? a=some {cls:=.type "range",data:=.fields #[.int lo t,.int hi u,.int 1 v]}
 |.yS o u=>h.get? a=some o/\eh H h a u
 |.uX ps=>h.get? a=some {cls:=.none,data:=.fields ps}
 |.met f x=>h.get? a=some (PySem.W.methodObj (.ref f) (.ref x))
 |.ext φ=>φ h/\(∃o,h.get? a=some o)/\∀h1 h2:Heap,φ h1->(∀o,h1.get? a=some o->h2.get? a=some o)->φ h2
def mV(H:Hp)(h:Heap):Prop:=∀a o,H a=some o->eh P w H h a o
end
section
variable{P:Program}{w:World}{H H':Hp}{h h':Heap}{a:Addr}{o:HO}
def eh.lt(x:eh P w H h a o):a<h.objs.size:=by
 cases o with
 |lst xs=>obtain⟨_,_,_,_,e⟩:=x;exact ky e
 |tup xs=>obtain⟨_,_,_,p⟩:=x;exact p.lt
 |dK kvs=>obtain⟨_,_,_,_,o,_,_,e,_⟩:=x;exact ky e
 |dT kvs=>obtain⟨_,_,_,_,o,_,_,e,_⟩:=x;exact ky e
 |set S n=>obtain⟨o,_,_,_,e,_⟩:=x;exact ky e
 |ins C dx fs=>obtain⟨_,_,_,e,_⟩:=x;exact ky e
 |own y=>obtain⟨_,e⟩:=x;exact ky e
 |xd fs=>obtain⟨_,⟨_,_,_,e,_⟩,_⟩:=x;exact ky e
 |RD lo hi=>obtain⟨_,_,_,e⟩:=x;exact ky e
 |yS j u=>obtain⟨e,_⟩:=x;exact ky e
 |uX ps=>exact ky<|x
 |met f y=>exact ky<|x
 |ext z=>obtain⟨_,⟨_,e⟩,_⟩:=x;exact ky e
theorem Paired.Vq{I J:Type}{F G:I->J->Prop}{j:List I}{z:List J}(h:Paired F j z)(f:∀a b,F a b->G a b):Paired G j z:=by induction h with|nil=>exact .nil|cons r _ i=>exact .cons (f _ _ r) i
def eh.yT(x:eh P w H h a o)(k:∀b u,(b=a\/H b=some (.own a))->h.get? b=some u->h'.get? b=some u)
  (I:∀b,H b=some (.own a)->H' b=some (.own a))(J:∀b xs,H b=some (.tup xs)->H' b=some (.tup xs)):eh P w H' h' a o:=by
 induction o with
 |lst xs=>obtain⟨z,its,n,r,e⟩:=x;exact⟨z,its,n,r,k _ _ (.inl rfl) e⟩
 |tup xs=>obtain⟨z,its,r,j,e,c⟩:=x;exact⟨z,its,r,j,k _ _ (.inl rfl) e,c⟩
 |dK kvs=>obtain⟨z,y,vs,r,j,es,ep,e,c⟩:=x;exact⟨z,y,vs,r,j,es,ep,k _ _ (.inl rfl) e,c⟩
 |dT kvs=>obtain⟨z,y,xs,r,j,es,ep,e,c⟩:=x;exact⟨z,y,xs,Paired.Vq r λp q z=>⟨z.1,J _ _ z.2.1,z.2.2⟩,j,es,ep,k _ _ (.inl rfl) e,c⟩
 |set S n=>obtain⟨j,es,ep,t,e,c⟩:=x;exact⟨j,es,ep,t,k _ _ (.inl rfl) e,c⟩
 |ins C dx fs=>obtain⟨d,z,ne,e,mA,⟨F,es,ep,M,c⟩,r⟩:=x;exact⟨I _ d,z,ne,k _ _ (.inl rfl) e,mA,⟨F,es,ep,k _ _ (.inr d) M,c⟩,r⟩
 |own y=>obtain⟨j,e⟩:=x;exact⟨j,k _ _ (.inl rfl) e⟩
 |xd fs=>obtain⟨mA,⟨F,es,ep,e,c⟩,r⟩:=x;exact⟨mA,⟨F,es,ep,k _ _ (.inl rfl) e,c⟩,r⟩
 |RD lo hi=>obtain⟨t,u,v,e⟩:=x;exact⟨t,u,v,k _ _ (.inl rfl) e⟩
 |yS j u U=>obtain⟨e,q⟩:=x;exact⟨k _ _ (.inl rfl) e,U q⟩
 |uX ps=>have e:=x;exact k a _ (.inl rfl) e
 |met f y=>have e:=x;exact k a _ (.inl rfl) e
 |ext Y=>obtain⟨p,⟨o,e⟩,st⟩:=x;exact⟨st _ _ p λo q=>k _ _ (.inl rfl) q,⟨o,k _ _ (.inl rfl) e⟩,st⟩
def mV.lt(x:mV P w H h)(e:H a=some o):a<h.objs.size:=(x a o e).lt
def mV.fresh(x:mV P w H h)(e:h.objs.size<=a):H a=none:=by
 cases q:H a with
 |none=>rfl
 |some u=>exact absurd (sd (x.lt q) e)<|Dj _
def mV.kept(x:mV P w H h)(k:∀b u,h.get? b=some u->h'.get? b=some u):mV P w H h':=λa o e=>(x a o e).yT (λb u _ q=>k b u q) (λ_ q=>q) λ_ _ q=>q
def mV.laid(x:mV P w H h)(k:∀b u,h.get? b=some u->h'.get? b=some u)(F:h.objs.size<=a)(new:eh P w (upd H a o) h' a o):mV P w (upd H a o) h':=λb u e=>by
 have j:=x.fresh F;by_cases z:b=a
 .subst z;rw[ah]at e;cases e;exact new
 .rw[aL z]at e;exact(x b u e).yT (λc v _ q=>k c v q) (λc q=>by rw[aL<|aX q j];exact q) λc xs q=>by rw[aL<|aX q j];exact q
end
def Rd(H:Hp)(a:Addr)(u:HO):Prop:=H a=some u\/∃o,H a=some (.yS o u)
def Rd.ok(r:Rd H a u)(x:mV P w H h):eh P w H h a u:=by
 rcases r with r|⟨o,r⟩
 .exact x a u r
 .obtain⟨_,q⟩:=x a _ r;exact q
def YG:Option HO->Prop
 |some (.lst _)=>True
 |some (.dK _)=>True
 |some (.dT _)=>True
 |some (.set _ _)=>True
 |some (.ins _ _ _)=>True
 |some (.ext _)=>True
 |_=>False
section
variable{P:Program}{w:World}{H:Hp}{h h':Heap}{x e:Addr}{o':HO}
def mV.write(ok:mV P w H h)(J:YG<|H x)(Y:e=x\/H e=some (.own x))(k:∀b u,b≠e->h.get? b=some u->h'.get? b=some u)(U:∃u,h'.get? e=some u)
  (new:eh P w (upd H x o') h' x o'):mV P w (upd H x o') h':=λb u q=>by
 have F:∀c y,H c=some (.own y)->c≠x:=λc y r z=>by subst z;rw[r]at J;exact J
 have I:∀c xs,H c=some (.tup xs)->c≠x:=λc xs r z=>by subst z;rw[r]at J;exact J
 by_cases M:b=x
 .subst M;rw[ah]at q;cases q;exact new
 .rw[aL M]at q;by_cases j:b=e
  .have Z:H b=some (.own x):=by
    rcases Y with z|z
    .exact absurd (j.trans z) M
    .rw[j];exact z
   rw[q]at Z;cases Z;obtain⟨v,hv⟩:=U;exact⟨v,by rw[j];exact hv⟩
  .refine(ok b u q).yT (λc v S r=>k c v ?_ r) (λc r=>by rw[aL<|F c b r];exact r) λc xs r=>by rw[aL<|I c xs r];exact r
   rcases S with rfl|S
   .exact j
   .rintro rfl;rcases Y with z|z
    .exact F c b S z
    .rw[S]at z;cases z;exact M rfl
end
structure Un(fs ex:Bf)(H H':Hp)(h h':Heap):Prop where
 keep:∀b o,h.get? b=some o->H b=none->b∉fs->b∉ex->h'.get? b=some o
 slot:∀b o,h.get? b=some o->H b=none->b∈fs->b∉ex->∃sl,h'.get? b=some {o with slots:=sl}
 free:∀b o,h.get? b=some o->H b=none->b∉ex->H' b=none
 there:∀b o,h.get? b=some o->b∉ex->∃o',h'.get? b=some o'
 BD:∀b xs,H b=some (.tup xs)->H' b=some (.tup xs)
 wm:∀b o u,H b=some (.yS o u)->H' b=some (.yS o u)
 yU:∀b ps,H b=some (.uX ps)->∃more,H' b=some (.uX<|ps++more)
section
variable{fs fs' ex ex':Bf}{H H1 H2:Hp}{h h1 h2 h':Heap}{a x e:Addr}{o:HO}
def Un.any(u:Un fs ex H H1 h h1)(q:h.get? b=some j)(n:H b=none)(z:b∉ex):∃I,h1.get? b=some {j with slots:=I}:=by
 by_cases F:b∈fs
 .exact u.slot b j q n F z
 .exact⟨j.slots,u.keep b j q n F z⟩
def Un.kept(k:∀b u,h.get? b=some u->h'.get? b=some u):Un fs ex H H h h':=⟨λb j q _ _ _=>k b j q,λb j q _ _ _=>⟨j.slots,k b j q⟩,λ_ _ _ n _=>n,λb j q _=>⟨j,k b j q⟩,λ_ _ q=>q,λ_ _ _ q=>q,λ_ ps q=>⟨#[],by rw[q];simp⟩⟩
def Un.refl:Un fs ex H H h h:=Un.kept λ_ _ q=>q
def Un.laid(k:∀b u,h.get? b=some u->h'.get? b=some u)(z:h.objs.size<=a)(j:H a=none):Un fs ex H (upd H a o) h h' where
 keep:=λb u q _ _ _=>k b u q
 slot:=λb u q _ _ _=>⟨u.slots,k b u q⟩
 free:=λb u q n _=>by rw[aL<|nP<|sd (ky q) z];exact n
 there:=λb u q _=>⟨u,k b u q⟩
 BD:=λb xs q=>by rw[aL<|aX q j];exact q
 wm:=λb u xs q=>by rw[aL<|aX q j];exact q
 yU:=λb ps q=>⟨#[],by rw[aL<|aX q j,q];simp⟩
def Un.write(F:YG<|H x)(U:e=x\/H e=some (.own x))(k:∀b u,b≠e->h.get? b=some u->h'.get? b=some u)(I:∃u,h'.get? e=some u):Un fs ex H (upd H x o) h h':=by
 have M:∀b,H b=none->b≠x:=λb n z=>by subst z;rw[n]at F;exact F
 have S:∀b,H b=none->b≠e:=λb n z=>by
  subst z;rcases U with r|r
  .exact M b n r
  .rw[n]at r;cases r
 have J:∀b u,H b=some u->¬YG (some u)->b≠x:=λb u q nm z=>by subst z;rw[q]at F;exact nm F
 refine⟨λb u q n _ _=>k b u (S b n) q,λb u q n _ _=>⟨u.slots,k b u (S b n) q⟩,λb u q n _=>by rw[aL<|M b n];exact n,λb u q _=>?_,
  λb xs q=>by rw[aL<|J b _ q λz=>z];exact q,λb u xs q=>by rw[aL<|J b _ q λz=>z];exact q,λb ps q=>⟨#[],by rw[aL<|J b _ q λz=>z,q];simp⟩⟩
 by_cases j:b=e
 .subst j;exact I
 .exact⟨u,k b u j q⟩
end
def trk(h:Heap)(H:Hp):Bf:=(List.range h.objs.size).filter λa=>(H a).isSome
def pC(h:Heap)(H:Hp):Heap:=PySem.W.hideAll h<|trk h H
def Az(h:Heap)(H:Hp):(pC h H).objs.size=h.objs.size:=PySem.W.hideAll_size _ _
def Ec(e:h.get? b=some o)(n:H b=none):(pC h H).get? b=some o:=PySem.W.hideAll_get _ e λj=>by have q:=(tL.mp j).2;rw[n]at q;simp at q
def JK(e:(pC h H).get? b=some o):h.get? b=some o/\H b=none:=by
 have j:=PySem.W.of_hideAll (trk h H) e;refine⟨j,?_⟩;cases q:H b with
 |none=>rfl
 |some x=>have F:b∈trk h H:=tL.mpr ⟨F8.mpr<|ky j,by simp[q]⟩;have z:(pC h H).get? b=none:=PySem.W.hideAll_none (trk h H) F;rw[z]at e;cases e
def RE(g h:Heap)(L:Addr):List<|Addr×Obj:=(List.range h.objs.size).filterMap λa=>if a=L\/(g.get? a).isSome=true then none else(h.get? a).map λo=>(a,o)
def rest(g h:Heap)(L d:Addr):List<|Addr×Obj:=(RE g h L).filter λp=>decide<|p.1≠d
structure Mod(K:cn)(mg:Be)(base:Heap):Prop where
 RF:K.In base
 glob:base.Ns mainGlobals mg
 blt:∃mb,base.Ns builtinsNs mb/\∀x:Str,x≠"__name__"->mb x=bootBuiltins x
 nolimit:base.NoLimit
structure Cx where
 prog:Program
 w:World
 K:cn
 mg:Be
 base:Heap
 A:Around
 N:Ba
 yV:Shared
 XR:Hp
 env:Env
 outer:List Env
 stack:List Env
 ex:Bf
 fn:Str->Bool
 calm:Bool
 pn:List (Addr×Obj)
 xe:Bd
def Ln(l:List Env):Bf:=l.filterMap (·.frame)
abbrev Cx.fs(X:Cx):Bf:=Ln X.outer
def Vs(sc:Scope)(x:Str):Prop:=sc.names.lookup x=some .local\/sc.names.lookup x=some .cell\/sc.names.lookup x=some .free
def Loc(sc:Scope)(x:Str):Prop:=sc.names.lookup x=some .local\/sc.names.lookup x=some .cell
def Look(env:Env)(h:Heap)(m:Be)(x:Str)(u:Value):Prop:=(env.kindOf x=some .local/\m x=some u)\/((env.kindOf x=some .cell\/env.kindOf x=some .free)/\∃c,env.cells.lookup x=some c/\h.IsCell c (some u))
structure Cx.Ok(X:Cx):Prop where
 mod:Mod X.K X.mg X.base
 kind:X.env.scope.kind=.function
 glob:X.env.globals=mainGlobals
 blt:X.env.builtins=builtinsNs
 above:X.yV.heap.objs.size<=X.env.locals
 inj:∀x y c,X.env.cells.lookup x=some c->X.env.cells.lookup y=some c->x=y
 has:∀x,(X.env.kindOf x=some .cell\/X.env.kindOf x=some .free)->∃c,X.env.cells.lookup x=some c
 YI:∀x c,X.fn x=true->X.env.cells.lookup x=some c->X.yV.heap.objs.size<=c
 hd:X.calm=true->X.A.handled=none
 frames:X.A.frames=some X.stack
 Vt:X.stack=X.outer\/(X.stack=X.env::X.outer/\X.env.frame=some X.env.locals)
 exf:∀b∈X.ex,b≠X.env.locals/\∀x c,X.env.cells.lookup x=some c->c≠b
 bs:∀b o,X.base.get? b=some o->X.yV.heap.get? b=some o/\X.XR b=none
 Q0:X.base.objs.size<=X.yV.heap.objs.size
 NK:∀b o,X.base.get? b=some o->b∉X.ex
 NL:∀b∈X.ex,b∉X.fs
 uY:X.yV.heap.FunFrames X.base X.outer
 Vu:∀b∈X.fs,X.XR b=none
structure Inv(X:Cx)(pins:List<|Addr×Obj)(σ:List<|Option V)(H:Hp)(s:Shared):Prop where
 ok:X.Ok
 os:s.os=X.yV.os
 bare:AllBare s.gens
 base:Un X.fs X.ex X.XR H X.yV.heap s.heap
 loc:∃m,s.heap.Ns X.env.locals m/\∀(i:Nat)(x:Str)(v:V),X.N[i]?=some x->σ[i]?=some (some v)->Vs X.env.scope x->∃u,RelV v u/\Look X.env s.heap m x u
 cell:∀x c,X.env.cells.lookup x=some c->∃v,s.heap.IsCell c v
 free:H X.env.locals=none
 lL:∀x c,X.env.cells.lookup x=some c->H c=none
 pin:∀p∈X.pn++pins,s.heap.get? p.1=some p.2/\H p.1=none/\p.1≠X.env.locals/\p.1∉X.fs/\∀v,p.2.data≠.cell v
 c7:mV X.prog X.w H s.heap
 len:σ.length=X.N.length
section
variable{X:Cx}{pins:List<|Addr×Obj}{σ:List<|Option V}{H H':Hp}{s:Shared}{h':Heap}
def Cx.Ok.acZ(ok:X.Ok)(e:X.base.get? b=some o):b∉X.fs:=λj=>by have:=(ok.uY.mem j).1;rw[e]at this;cases this
def Inv.bs(I:Inv X pins σ H s):∀b o,X.base.get? b=some o->s.heap.get? b=some o/\H b=none:=λb o e=>⟨I.base.keep b o (I.ok.bs b o e).1 (I.ok.bs b o e).2 (I.ok.acZ e)<|I.ok.NK b o e,I.base.free b o (I.ok.bs b o e).1 (I.ok.bs b o e).2<|I.ok.NK b o e⟩
def Inv.bk(I:Inv X pins σ H s):∀b o,X.base.get? b=some o->s.heap.get? b=some o:=λb o e=>(I.bs b o e).1
def Inv.mod(I:Inv X pins σ H s):Mod X.K X.mg X.base:=I.ok.mod
def Inv.JL(I:Inv X pins σ H s):X.K.In s.heap:=I.ok.mod.RF.keeps I.bk
def Inv.nolimit(I:Inv X pins σ H s):s.heap.NoLimit:=I.ok.mod.nolimit.keeps I.bk
def Inv.lt(I:Inv X pins σ H s):X.env.locals<s.heap.objs.size:=let⟨_,j,_⟩:=I.loc;j.lt
def Inv.sz(I:Inv X pins σ H s):X.yV.heap.objs.size<=s.heap.objs.size:=lp I.ok.above<|Ra I.lt
def Inv.ac0(I:Inv X pins σ H s)(h:s.heap.objs.size<=a):a∉X.fs:=λj=>by obtain⟨_,o,z,_⟩:=I.ok.uY.mem j;exact absurd (sd (ky z)<|lp I.sz h)<|Dj _
def Inv.Vv(I:Inv X pins σ H s):∀x c,X.env.cells.lookup x=some c->c≠X.env.locals:=λx c e z=>by obtain⟨v,o,J,hd⟩:=I.cell x c e;obtain⟨m,⟨o',es,ep,j,F,_⟩,_⟩:=I.loc;rw[z,j]at J;cases J;rw[F]at hd;cases hd
def Inv.uY(I:Inv X pins σ H s):s.heap.FunFrames X.base X.outer:=by
 have all:∀(l:List Env),(∀b∈Ln l,b∈X.fs)->X.yV.heap.FunFrames X.base l->s.heap.FunFrames X.base l:=by
  intro l;induction l with
  |nil=>intro _ _;trivial
  |cons env r M=>intro hs S;obtain⟨hk,⟨L,o,j,U,Y,hd⟩,Z⟩:=S;have F:=hs L (by unfold Ln;rw[EA,j];exact lx);obtain⟨sl,e⟩:=I.base.slot L o Y (I.ok.Vu L F) F λz=>I.ok.NL L z F;exact⟨hk,⟨L,_,j,U,e,hd⟩,M (λb J=>hs b<|by unfold Ln;rw[EA,j];exact kB _ J) Z⟩
 exact all X.outer (λ_ J=>J) I.ok.uY
def Inv.stack(I:Inv X pins σ H s):s.heap.FunFrames X.base X.stack:=by
 rcases I.ok.Vt with e|⟨e,j⟩
 .rw[e];exact I.uY
 .rw[e];obtain⟨m,z,_⟩:=I.loc;refine .cons (by rw[I.ok.kind];decide) j z ?_ I.uY;exact Heap.get?_none_of_le<|lp I.ok.Q0 I.ok.above
def Inv.BE(I:Inv X pins σ H s):∀b∈Ln X.stack,b∈X.env.locals::X.fs:=λb j=>by
 rcases I.ok.Vt with e|⟨e,z⟩
 .rw[e]at j;exact kB _ j
 .rw[e]at j;unfold Ln at j;rw[EA,z]at j;exact j
def Inv.BF(I:Inv X pins σ H s):∀b∈Ln X.stack,H b=none:=λb j=>by
 rcases eH.mp (I.BE b j)with e|j
 .rw[e];exact I.free
 .obtain⟨_,o,F,_⟩:=I.ok.uY.mem j;exact I.base.free b o F (I.ok.Vu b j) λz=>I.ok.NL b z j
def Inv.step{ch:Bf}(I:Inv X pins σ H s)
  (F:∀b∈ch,(b∈X.ex\/X.yV.heap.objs.size<=b)/\b≠X.env.locals/\(∀x c,X.env.cells.lookup x=some c->c≠b)/\∀p∈X.pn++pins,p.1≠b)
  (keep:∀b o,b≠X.env.locals->b∉X.fs->b∉ch->s.heap.get? b=some o->H b=none->h'.get? b=some o)
  (slot:∀b o,b≠X.env.locals->b∈X.fs->b∉ch->s.heap.get? b=some o->H b=none->∃sl,h'.get? b=some {o with slots:=sl})(free:∀b o,b∉ch->s.heap.get? b=some o->H b=none->H' b=none)
  (there:∀b o,b∉ch->s.heap.get? b=some o->∃o',h'.get? b=some o')
  (BD:∀b xs,H b=some (.tup xs)->H' b=some (.tup xs))(wm:∀b o u,H b=some (.yS o u)->H' b=some (.yS o u))(yU:∀b ps,H b=some (.uX ps)->∃more,H' b=some (.uX<|ps++more))
  (ns:∀m,s.heap.Ns X.env.locals m->h'.Ns X.env.locals m)(c7:mV X.prog X.w H' h')(hg:AllBare g'):
  Inv X pins σ H' {s with heap:=h',gens:=g',drawn:=d',toks:=t'}:=by
 have YJ:∀b o,X.yV.heap.get? b=some o->b≠X.env.locals:=λb o e=>nP<|sd (ky e) I.ok.above;have S:∀b o,X.yV.heap.get? b=some o->b∉X.ex->b∉ch:=λb o e j Y=>by
  rcases(F b Y).1 with z|z
  .exact j z
  .exact absurd (sd (ky e) z)<|Dj _
 have J:∀x c,X.env.cells.lookup x=some c->∀v,s.heap.IsCell c v->h'.IsCell c v:=λx c e v⟨o,Z,hd⟩=>by
  have M:c∉ch:=λz=>(F c z).2.2.1 x c e rfl;by_cases hc:c∈X.fs
  .obtain⟨sl,q⟩:=slot c o (I.Vv x c e) hc M Z<|I.lL x c e;exact⟨_,q,hd⟩
  .exact⟨o,keep c o (I.Vv x c e) hc M Z<|I.lL x c e,hd⟩
 refine⟨I.ok,I.os,hg,⟨λb o e n Y j=>?_,λb o e n Y j=>?_,λb o e n j=>?_,λb o e j=>?_,λb xs e=>BD b xs<|I.base.BD b xs e,λb o xs e=>wm b o xs<|I.base.wm b o xs e,λb ps e=>?_⟩,?_,λx c e=>?_,?_,λx c e=>?_,λp hp=>?_,c7,I.len⟩
 .exact keep b o (YJ b o e) Y (S b o e j) (I.base.keep b o e n Y j)<|I.base.free b o e n j
 .obtain⟨sl,U⟩:=I.base.slot b o e n Y j;obtain⟨sl',e2⟩:=slot b _ (YJ b o e) Y (S b o e j) U<|I.base.free b o e n j;exact⟨sl',e2⟩
 .obtain⟨o',U⟩:=I.base.there b o e j;exact free b o' (S b o e j) U<|I.base.free b o e n j
 .obtain⟨o',U⟩:=I.base.there b o e j;exact there b o' (S b o e j) U
 .obtain⟨m1,U⟩:=I.base.yU b ps e;obtain⟨m2,e2⟩:=yU b _ U;exact⟨m1++m2,by rw[e2,Array.append_assoc]⟩
 .obtain⟨m,hn,hl⟩:=I.loc;refine⟨m,ns m hn,λi x v U e2 e3=>?_⟩;obtain⟨u,r,l⟩:=hl i x v U e2 e3;refine⟨u,r,?_⟩;rcases l with l|⟨k,c,e,z⟩
  .exact .inl l
  .exact .inr ⟨k,c,e,J x c e _ z⟩
 .obtain⟨v,z⟩:=I.cell x c e;exact⟨v,J x c e v z⟩
 .obtain⟨m,⟨o,_,_,Z,_⟩,_⟩:=I.loc;exact free _ o (λz=>(F _ z).2.1 rfl) Z I.free
 .obtain⟨v,o,Z,hd⟩:=I.cell x c e;exact free c o (λz=>(F c z).2.2.1 x c e rfl) Z<|I.lL x c e
 .obtain⟨e,n,ne,nf,d⟩:=I.pin p hp;have M:p.1∉ch:=λz=>(F p.1 z).2.2.2 p hp rfl;exact⟨keep p.1 p.2 ne nf M e n,free p.1 p.2 M e n,ne,nf,d⟩
def Inv.un{t':Nat}(I:Inv X pins σ H s)(u:Un X.fs [] H H' s.heap h')(c7:mV X.prog X.w H' h'):Inv X pins σ H' {s with heap:=h',toks:=t'}:=by
 obtain⟨m,⟨o,es,ep,M,r⟩,_⟩:=id I.loc;obtain⟨Y,S⟩:=u.any M I.free (by simp)
 exact I.step (ch:=[]) (λ_ z=>nomatch z) (λb o _ F _ e n=>u.keep b o e n F<|by simp) (λb o _ F _ e n=>u.slot b o e n F<|by simp) (λb o _ e n=>u.free b o e n<|by simp) (λb o _ e=>u.there b o e<|by simp) u.BD u.wm u.yU (λZ U=>by
  obtain⟨o',es',J,j,r'⟩:=U;rw[M]at j;cases j
  exact⟨_,es',J,S,r'⟩) c7 I.bare
def Inv.call{ch:Bf}(I:Inv X pins σ H s)(u:Un (Ln X.stack) ch H H' s.heap h')(c7:mV X.prog X.w H' h')(Y:AllBare g')
  (F:∀b∈ch,(b∈X.ex\/X.yV.heap.objs.size<=b)/\b≠X.env.locals/\(∀x c,X.env.cells.lookup x=some c->c≠b)/\∀p∈X.pn++pins,p.1≠b):
  Inv X pins σ H' {s with heap:=h',gens:=g',drawn:=d',toks:=t'}:=by
 obtain⟨m,⟨o,es,ep,U,r⟩,_⟩:=id I.loc;obtain⟨sl,M⟩:=u.any U I.free λz=>(F _ z).2.1 rfl
 exact I.step F (λb o M Z j e n=>u.keep b o e n (λz=>(eH.mp<|I.BE b z).elim M Z) j) (λb o _ _ j e n=>u.any e n j) (λb o j e n=>u.free b o e n j) (λb o j e=>u.there b o e j) u.BD u.wm u.yU (λm' hm=>by
  obtain⟨o',es',S,J,r'⟩:=hm;rw[U]at J;cases J
  exact⟨_,es',S,M,r'⟩) c7 Y
def Inv.turned{t':Nat}{it:Addr}(I:Inv X pins σ H s)(k:∀b o,b≠it->s.heap.get? b=some o->h'.get? b=some o)(M:H it=none)(J:it≠X.env.locals)
  (h1:it∈X.ex\/X.yV.heap.objs.size<=it)(h2:∀x c,X.env.cells.lookup x=some c->c≠it)(S:∀p∈X.pn++pins,p.1≠it):Inv X pins σ H {s with heap:=h',toks:=t'}:=by
 have F:∀b u,H b=some u->b≠it:=λb u e z=>by rw[z,M]at e;cases e
 refine I.step (ch:=[it]) (λb U=>?_) (λb o _ _ j e _=>k b o (λz=>j<|by simp[z]) e) (λb o _ _ j e _=>⟨o.slots,k b o (λz=>j<|by simp[z]) e⟩) (λ_ _ _ _ n=>n)
  (λb o j e=>⟨o,k b o (λz=>j<|by simp[z]) e⟩) (λ_ _ e=>e) (λ_ _ _ e=>e) (λb ps e=>⟨#[],by rw[e];simp⟩) (λm Y=>?_) (λb u e=>?_) I.bare
 .have e:b=it:=by simpa using U
  subst e;exact⟨h1,J,h2,S⟩
 .obtain⟨o,es,ep,Z,r⟩:=Y;exact⟨o,es,ep,k _ o (iq J) Z,r⟩
 .refine(I.c7 b u e).yT (λc v j q=>k c v ?_ q) (λ_ q=>q) λ_ _ q=>q;rcases j with z|z
  .rw[z];exact F b u e
  .exact F c _ z
def Inv.tok(I:Inv X pins σ H s)(t:Nat):Inv X pins σ H {s with toks:=t}:=I.un Un.refl I.c7
def Inv.kept(I:Inv X pins σ H s)(k:∀b u,s.heap.get? b=some u->h'.get? b=some u):Inv X pins σ H {s with heap:=h',toks:=t'}:=I.un (Un.kept k)<|I.c7.kept k
def Inv.laid(I:Inv X pins σ H s)(k:∀b u,s.heap.get? b=some u->h'.get? b=some u)(j:s.heap.objs.size<=a)(new:eh X.prog X.w (upd H a o) h' a o):
  Inv X pins σ (upd H a o) {s with heap:=h',toks:=t'}:=I.un (Un.laid k j<|I.c7.fresh j)<|I.c7.laid k j new
def Inv.write(I:Inv X pins σ H s)(z:YG<|H x)(F:e=x\/H e=some (.own x))(k:∀b u,b≠e->s.heap.get? b=some u->h'.get? b=some u)(j:∃u,h'.get? e=some u)
  (new:eh X.prog X.w (upd H x o) h' x o):Inv X pins σ (upd H x o) {s with heap:=h',toks:=t'}:=I.un (Un.write z F k j)<|I.c7.write z F k j new
def Inv.weak(I:Inv X pins σ H s)(z:σ'.length=σ.length)(w:∀(i:Nat) v,σ'[i]?=some (some v)->σ[i]?=some (some v)):Inv X pins σ' H s:=⟨I.ok,I.os,I.bare,I.base,let⟨m,F,j⟩:=I.loc;⟨m,F,λi x v J M S=>j i x v J (w i v M) S⟩,I.cell,I.free,I.lL,I.pin,I.c7,z.trans I.len⟩
def Inv.vv(I:Inv X pins σ H s)(h:∀p∈j,s.heap.get? p.1=some p.2/\H p.1=none/\p.1≠X.env.locals/\p.1∉X.fs/\∀v,p.2.data≠.cell v):Inv X j σ H s:=⟨I.ok,I.os,I.bare,I.base,I.loc,I.cell,I.free,I.lL,λp F=>(ro.mp F).elim (λz=>I.pin p<|R5 _ z)<|h p,I.c7,I.len⟩
def wo{N:Ba}(z:N.Nodup){i j:Nat}{x:Str}(a:N[i]?=some x)(b:N[j]?=some x):i=j:=by obtain⟨h1,F⟩:=l4.mp a;obtain⟨h2,I⟩:=l4.mp b;exact(List.getElem_inj z).mp<|F.trans I.symm
def AA{A:Around}{i:Nat}{v:V}{Q:Unit->Shared->Prop}(I:Inv X pins σ H s)(hN:X.N.Nodup)(hi:X.N[i]?=some x)(U:Loc X.env.scope x)(r:RelV v u)
  (h:∀s',Inv X pins (σ.set i<|some v) H s' ->(∃a,Heap.SameBut a s.heap s'.heap/\(a=X.env.locals\/X.env.cells.lookup x=some a))->Q () s')(hf:X.fn x=true\/X.env.scope.names.lookup x=some .local):wpAny M A (storeName X.env x u) Q E s:=by
 obtain⟨m,hn,hl⟩:=id I.loc;have ac2:(X.env.scope.kind==.class||(X.env.scope.kind==.module&&X.env.locals !=X.env.globals))=false:=by rw[I.ok.kind];rfl
 have Z:i<σ.length:=by rw[I.len];exact(l4.mp hi).1
 have Vv:=I.Vv;have F:∀{a:Addr}{h':Heap},(∃o,s.heap.get? a=some o/\H a=none)->Heap.SameBut a s.heap h' ->mV X.prog X.w H h':=λ{a h'} ha hs b ob e=>by
  obtain⟨_,_,W⟩:=ha;refine(I.c7 b ob e).yT (λc w' S q=>(hs.2 c ?_).trans q) (λ_ q=>q) λ_ _ q=>q;rintro rfl;rcases S with rfl|S
  .rw[W]at e;cases e
  .rw[W]at S;cases S
 rcases U with hk|hk
 .refine wpAny_storeName_local hk hn (λh' hn' hs=>?_) ac2;obtain⟨oL,_,_,XS,_⟩:=id hn;refine h _ ⟨I.ok,I.os,I.bare,⟨λb o e n hb U=>?_,λb o e n hb U=>?_,I.base.free,λb o e U=>?_,I.base.BD,I.base.wm,I.base.yU⟩,⟨_,hn',λj y v' J Y e3=>?_⟩,λy c e=>?_,I.free,I.lL,λp hp=>?_,F ⟨oL,XS,I.free⟩ hs,by simpa using I.len⟩ ⟨_,hs,.inl rfl⟩
  .exact(hs.2 b<|nP<|sd (ky e) I.ok.above).trans<|I.base.keep b o e n hb U
  .obtain⟨sl,J⟩:=I.base.slot b o e n hb U;exact⟨sl,(hs.2 b<|nP<|sd (ky e) I.ok.above).trans J⟩
  .obtain⟨o',J⟩:=I.base.there b o e U;exact⟨o',(hs.2 b<|nP<|sd (ky e) I.ok.above).trans J⟩
  .by_cases hj:j=i
   .subst hj;rw[hi]at J;cases J;rw[ao0 Z]at Y;cases Y;exact⟨u,r,.inl ⟨hk,by simp⟩⟩
   .rw[api<|iq hj]at Y;obtain⟨u',r',q⟩:=hl j y v' J Y e3;refine⟨u',r',?_⟩;rcases q with⟨k,e⟩|⟨k,c,e,z⟩
    .refine .inl ⟨k,?_⟩;have:y≠x:=λe=>hj<|wo hN J<|e▸hi;simp[this,e]
    .exact .inr ⟨k,c,e,z.sameBut hs<|Vv y c e⟩
  .obtain⟨w',z⟩:=I.cell y c e;exact⟨w',z.sameBut hs<|Vv y c e⟩
  .obtain⟨e,n,ne,nf,d⟩:=I.pin p hp;exact⟨(hs.2 p.1 ne).trans e,n,ne,nf,d⟩
 .have YM:X.fn x=true:=by
   rcases hf with z|z
   .exact z
   .rw[z]at hk;cases hk
  obtain⟨c,S⟩:=I.ok.has x (.inl hk);obtain⟨w',z⟩:=I.cell x c S;refine wpAny_storeName_cell I.ok.kind hk S z λh' NM hs=>?_;obtain⟨oc,YN,ac3⟩:=id z;refine h {s with heap:=h'} ⟨I.ok,I.os,I.bare,⟨λb o e n hb U=>?_,λb o e n hb U=>?_,I.base.free,λb o e U=>?_,I.base.BD,I.base.wm,I.base.yU⟩,⟨m,hn.sameBut hs<|iq<|Vv x c S,λj y v' J Y e3=>?_⟩,λy c' e=>?_,I.free,I.lL,λp hp=>?_,F ⟨oc,YN,I.lL x c S⟩ hs,by simpa using I.len⟩ ⟨c,hs,.inr S⟩
  .exact(hs.2 b<|nP<|sd (ky e)<|I.ok.YI x c YM S).trans<|I.base.keep b o e n hb U
  .obtain⟨sl,J⟩:=I.base.slot b o e n hb U;exact⟨sl,(hs.2 b<|nP<|sd (ky e)<|I.ok.YI x c YM S).trans J⟩
  .obtain⟨o',J⟩:=I.base.there b o e U;exact⟨o',(hs.2 b<|nP<|sd (ky e)<|I.ok.YI x c YM S).trans J⟩
  .by_cases hj:j=i
   .subst hj;rw[hi]at J;cases J;rw[ao0 Z]at Y;cases Y;exact⟨u,r,.inr ⟨.inl hk,c,S,NM⟩⟩
   .rw[api<|iq hj]at Y;obtain⟨u',r',q⟩:=hl j y v' J Y e3;refine⟨u',r',?_⟩;rcases q with q|⟨k,c',e,z'⟩
    .exact .inl q
    .refine .inr ⟨k,c',e,z'.sameBut hs ?_⟩;rintro rfl;exact hj<|wo hN J<|I.ok.inj _ _ _ e S▸hi
  .by_cases YO:c'=c
   .subst YO;exact⟨_,NM⟩
   .obtain⟨w2,z2⟩:=I.cell y c' e;exact⟨w2,z2.sameBut hs YO⟩
  .obtain⟨e,n,ne,nf,d⟩:=I.pin p hp;refine⟨(hs.2 p.1 ?_).trans e,n,ne,nf,d⟩;intro q;rw[q,YN]at e;have q':=ri e;exact d w' (by rw[<-q'];exact ac3)
def Ee(I:Inv X pins σ H s)(j:X.N.Nodup)(hi:X.N[i]?=some x)(z:Loc X.env.scope x)(r:RelV v u)
  (h:∀s',Inv X pins (σ.set i<|some v) H s' ->Q () s')(F:X.fn x=true\/X.env.scope.names.lookup x=some .local):wpAny M A (storeName X.env x u) Q E s:=
 AA I j hi z r (λs' J _=>h s' J) F
def Inv.YQ(I:Inv X pins σ H s)(z:s'.os=s.os)(u:Un (Ln X.stack) ch H H' s.heap s'.heap)(c7:mV X.prog X.w H' s'.heap)(F:AllBare s'.gens)
  (j:∀b∈ch,(b∈X.ex\/X.yV.heap.objs.size<=b)/\b≠X.env.locals/\(∀x c,X.env.cells.lookup x=some c->c≠b)/\∀p∈X.pn++pins,p.1≠b):Inv X pins σ H' s':=by
 obtain⟨h',g',d',t',o'⟩:=s';have e:=z;subst e;exact I.call u c7 F j
end
abbrev XK:=Value->Option Addr->Hp->Prop
abbrev St:=List<|Option V
abbrev VK:=V->Hp->Prop
abbrev TE:=St->Hp->VK->Prop
abbrev TT:=St->Hp->(Bool->Hp->Prop)->Prop
abbrev TA:=St->Hp->(List V->Hp->Prop)->Prop
structure Ends where
 nx:St->Hp->Prop
 rt:VK
 bk:St->Hp->Prop:=λ_ _=>False
 ct:St->Hp->Prop:=λ_ _=>False
abbrev Ends.n(D:Ends)(x:St->Hp->Prop):Ends:={D with nx:=x}
abbrev Ends.l(D:Ends)(x:St->Hp->Prop):Ends:={D with nx:=x,ct:=x,bk:=D.nx}
abbrev TS:=Ends->St->Hp->Prop
inductive EP(X:Cx)(pins:List<|Addr×Obj)(σ:St)(Q:VK)(u:Value)(s':Shared):Prop|mk v H'(_:Inv X pins σ H' s')(_:RelV v u)(_:Q v H')
def TP(X:Cx)(pins:List<|Addr×Obj)(σ:St)(Q:Bool->Hp->Prop)(b:Bool)(s':Shared):Prop:=∃H',Inv X pins σ H' s'/\Q b H'
inductive AP(X:Cx)(pins:List<|Addr×Obj)(σ:St)(Q:List V->Hp->Prop)(us:Bb)(s':Shared):Prop|mk vs H'(_:Inv X pins σ H' s')(_:Vals vs us)(_:Q vs H')
def SP(X:Cx)(pins:List<|Addr×Obj)(D:Ends)(f:Flow)(s':Shared):Prop:=
 match f with
 |.next=>B_ λσ' H'=>Inv X pins σ' H' s'/\D.nx σ' H'
 |.brk=>B_ λσ' H'=>Inv X pins σ' H' s'/\D.bk σ' H'
 |.cont=>B_ λσ' H'=>Inv X pins σ' H' s'/\D.ct σ' H'
 |.ret u=>C_ λv σ' H'=>Inv X pins σ' H' s'/\RelV v u/\D.rt v H'
def PE(X:Cx)(e:Expr)(t:TE):Prop:=∀(pins:List<|Addr×Obj)(s:Shared)(σ:St)(H:Hp)(Q:VK),Inv X pins σ H s->t σ H Q->wpAny (model X.prog X.w) X.A (eval e X.env) (EP X pins σ Q) X.xe s
def PT(X:Cx)(e:Expr)(t:TT):Prop:=∀(pins:List<|Addr×Obj)(s:Shared)(σ:St)(H:Hp)(Q:Bool->Hp->Prop),Inv X pins σ H s->t σ H Q->wpAny (model X.prog X.w) X.A (isTrue e X.env<|eval e X.env) (TP X pins σ Q) X.xe s
def PW(X:Cx)(e:Expr)(t:TT):Prop:=∀(j:Sem Value)(pins:List<|Addr×Obj)(s:Shared)(σ:St)(H:Hp)(Q:Bool->Hp->Prop),Inv X pins σ H s->t σ H Q->wpAny (model X.prog X.w) X.A (isTrue e X.env j) (TP X pins σ Q) X.xe s
def PW.pt(h:PW X e t):PT X e t:=h _
def PA(X:Cx)(es:List Expr)(t:TA):Prop:=∀(pos:Pos)(pins:List<|Addr×Obj)(s:Shared)(σ:St)(H:Hp)(Q:List V->Hp->Prop),Inv X pins σ H s->t σ H Q->wpAny (model X.prog X.w) X.A (spliced<|backTo pos<|starEach es X.env) (AP X pins σ Q) X.xe s
def PS(X:Cx)(st:Stmt)(t:TS):Prop:=∀(pins:List<|Addr×Obj)(s:Shared)(σ:St)(H:Hp)(D:Ends),Inv X pins σ H s->t D σ H->wpAny (model X.prog X.w) X.A (exec st X.env) (SP X pins D) X.xe s
def Ef(X:Cx)(st:List Stmt)(t:TS):Prop:=∀(pins:List<|Addr×Obj)(s:Shared)(σ:St)(H:Hp)(D:Ends),Inv X pins σ H s->t D σ H->wpAny (model X.prog X.w) X.A (execs st X.env) (SP X pins D) X.xe s
def eF{j:Type}{t:Sem j}{Q z:j->Shared->Prop}(h:wpAny M A t Q E s)(F:∀a s,Q a s->z a s):wpAny M A t z E s:=y2 h F λ_ _ x=>x
section
variable{X:Cx}
def RH(i:Nat):TE:=λσ H Q=>∃v,σ[i]?=some (some v)/\Q v H
def tC(v:V):TE:=λ_ H Q=>Q v H
def NN(M:X.N[i]?=some x)(S:Vs X.env.scope x)(hd:(x==("__debug__":Str))=false)(F:(x==("__classdict__":Str))=false):PE X (.Name x pos)<|RH i:=by
 intro pins s σ H Q I h;obtain⟨v,e,h⟩:=h;obtain⟨m,U,W⟩:=I.loc;obtain⟨u,r,l⟩:=W i x v M e S;have z:EP X pins σ Q u s:=⟨v,H,I,r,h⟩;rcases l with⟨hk,Y⟩|⟨hk,c,J,j⟩
 .exact wpAny_Name (wpAny_loadName_local I.ok.kind hk U Y z) hd
 .rcases hk with hk|hk
  .exact wpAny_Name (wpAny_loadName_cell I.ok.kind hk J j z) hd
  .exact wpAny_Name (wpAny_loadName_free I.ok.kind hk J j z F) hd
def aw:PE X (.Constant (.int i) j pos)<|tC (.int i):=λ_ _ _ H _ I h=>wpAny_Constant_int ⟨.int i,H,I.tok _,⟨_,rfl⟩,h⟩
def kO:PE X (.Constant (.bool b) j pos)<|tC (.bl b):=λ_ _ _ H _ I h=>Constant_bool ⟨.bl b,H,I,rfl,h⟩
def iC:PE X (.Constant .none j pos)<|tC .eQ:=λ_ _ _ H _ I h=>Constant_none ⟨.eQ,H,I,rfl,h⟩
def bS:PE X (.Constant (.str x) j pos)<|tC (.str x):=λ_ _ _ H _ I h=>Calls.Constant_str ⟨.str x,H,I.tok _,⟨_,rfl⟩,h⟩
def Gl(X:Cx)(x:Str):Prop:=X.env.kindOf x=some .globalImplicit
def vw(I:Inv X pins σ H s)(j:Gl X x)(z:X.mg x=some u)(h:Q u s)
  (hd:(x==("__debug__":Str))=false):wpAny (model X.prog X.w) X.A (eval (.Name x pos) X.env) Q E s:=
 Calls.Name_function_global I.ok.kind j (Calls.loadGlobal_global (by rw[I.ok.glob];exact I.mod.glob.keeps I.bk) z h) hd
def iD(I:Inv X pins σ H s)(j:Gl X x)(z:X.mg x=none)(F:bootBuiltins x=some u)(h:Q u s)
  (J:x≠"__name__":=by decide)(hd:(x==("__debug__":Str))=false:=by decide):wpAny (model X.prog X.w) X.A (eval (.Name x pos) X.env) Q E s:=by
 obtain⟨M,h1,h2⟩:=I.mod.blt;exact Calls.Name_function_global I.ok.kind j (Calls.loadGlobal_builtin (by rw[I.ok.glob];exact I.mod.glob.keeps I.bk) z (by rw[I.ok.blt];exact h1.keeps I.bk) ((h2 x J).trans F) h) hd
def rq(j:Gl X x)(z:X.mg x=some u)(r:RelV v u)(hd:(x==("__debug__":Str))=false):PE X (.Name x pos)<|tC v:=λ_ _ _ H _ I h=>vw I j z ⟨v,H,I,r,h⟩ hd
variable{a b:Expr}{ta tb:TE}{pos:Pos}
def PC(X:Cx)(op:CmpOp)(a b:Expr)(t:TE):Prop:=
 ∀(pins:List<|Addr×Obj)(s:Shared)(σ:St)(H:Hp)(Q:VK),Inv X pins σ H s->t σ H Q->
  wpAny (model X.prog X.w) X.A (eval a X.env) (λv j=>wpAny (model X.prog X.w) X.A (eval b X.env) (λu z=>wpAny (model X.prog X.w) X.A (compareOp op v u) (EP X pins σ Q) X.xe z) X.xe j) X.xe s
def Eg(b:Expr)(h:op≠.In)(h2:op≠.NotIn):behindInMarks op b=false:=by
 have j:(op==CmpOp.In)=false:=by cases op<;>first|rfl|exact absurd rfl h
 have z:(op==CmpOp.NotIn)=false:=by cases op<;>first|rfl|exact absurd rfl h2
 cases b<;>first|rfl|(show(_&&((op==.In)||(op==.NotIn))&&_)=false;rw[j,z];simp)
def YR(ta:TE):TE:=λσ H Q=>ta σ H λx H1=>Q (.bl<|decide<|x=.eQ) H1
def YS(ta:TE):TE:=λσ H Q=>ta σ H λx H1=>Q (.bl<|!decide (x=.eQ)) H1
def RelV.NO(r:RelV x v):(v==Value.none)=decide (x=.eQ):=by
 cases x with
 |eQ=>cases r;rfl
 |bl _=>cases r;rfl
 |int _=>obtain⟨t,rfl⟩:=r;rfl
 |str _=>obtain⟨t,rfl⟩:=r;rfl
 |Eb _=>obtain⟨t,rfl⟩:=r;rfl
 |YF _=>obtain⟨t,rfl⟩:=r;rfl
 |ref _=>cases r;rfl
 |ty _=>cases r;rfl
def gN(z:PE X a ta):PC X .Is a (.Constant .none j pos')<|YR ta:=by intro pins s σ H Q I h;refine eF (z pins s σ H _ I h) λv S⟨x,H1,F,J,M⟩=>?_;exact Constant_none<|is_none_gen ⟨.bl _,H1,F,by rw[J.NO];rfl,M⟩
def tB(t:TE):TT:=λσ H Q=>t σ H λx H1=>∃c,x=.bl c/\Q c H1
def Vx(h:PC X op a b t)(h1:behindInMarks op b=false):PE X (.Compare a [op] [b] pos) t:=λpins s σ H Q I j=>wpAny_Compare1 (h pins s σ H Q I j) h1
def gy(h:PC X op a b t)(h1:behindInMarks op b=false:=by first|exact Eg _ (by decide) (by decide)|rfl):PT X (.Compare a [op] [b] pos)<|tB t:=by intro pins s σ H Q I j;refine wpAny_isTrue_Compare1 (eF (h pins s σ H _ I j) λv M h1=>eF h1 λu S h2=>eF h2 λc U⟨x,H1,z,F,J⟩=>?_) h1;obtain⟨d,rfl,q⟩:=J;cases F;exact F6 ⟨H1,z,q⟩
def bU(h:PE X e t)(z:∀j,isTrue e X.env j=(do let v<-j;standAt e.pos;holding [v] (truthy v)):=by intro _;rfl):PT X e<|tB t:=by intro pins s σ H Q I F;refine isTrue_plain (eF (h pins s σ H _ I F) λv U⟨x,H1,J,M,S⟩=>?_)<|z _;obtain⟨d,rfl,q⟩:=S;cases M;exact F6 ⟨H1,J,q⟩
variable{tA tB':TT}{rest:List Expr}
def YT(t u:TT):TT:=λσ H Q=>t σ H λc H1=>if c=true then u σ H1 Q else Q false H1
def tOr(t u:TT):TT:=λσ H Q=>t σ H λc H1=>if c=true then Q true H1 else u σ H1 Q
def YU(t:TT):TT:=λσ H Q=>t σ H λc H1=>Q (!c) H1
def BG(j:PT X a tA):PW X (.BoolOp .And [a] pos) tA:=by
 intro z pins s σ H Q I h;refine isTrue_and<|eF (j pins s σ H Q I h) λc F e=>?_;cases c with
 |true=>exact isTrue_and_nil e
 |false=>exact e
def i9(j:PT X a tA):PW X (.BoolOp .Or [a] pos) tA:=by
 intro z pins s σ H Q I h;refine isTrue_or<|eF (j pins s σ H Q I h) λc F e=>?_;cases c with
 |false=>exact isTrue_or_nil e
 |true=>exact e
def Hn(F:PT X a tA)(J:PW X (.BoolOp .And (b::rest) pos) tB'):PW X (.BoolOp .And (a::b::rest) pos)<|YT tA tB':=by
 intro M pins s σ H Q I h;refine isTrue_and<|eF (F pins s σ H _ I h) λc S⟨H1,j,z⟩=>?_;cases c with
 |true=>exact J M pins S σ H1 Q j z
 |false=>exact⟨H1,j,z⟩
def jL(F:PT X a tA)(J:PW X (.BoolOp .Or (b::rest) pos) tB'):PW X (.BoolOp .Or (a::b::rest) pos)<|tOr tA tB':=by
 intro M pins s σ H Q I h;refine isTrue_or<|eF (F pins s σ H _ I h) λc S⟨H1,j,z⟩=>?_;cases c with
 |true=>exact⟨H1,j,z⟩
 |false=>exact J M pins S σ H1 Q j z
def gk(j:PT X a tA):PT X (.UnaryOp .Not a pos)<|YU tA:=by intro pins s σ H Q I h;exact isTrue_not<|j pins s σ H (λc H1=>Q (!c) H1) I h
def Ue(ta tb:TE):TE:=λσ H Q=>ta σ H λx H1=>∃c,x=.bl c/\if c=true then tb σ H1 Q else Q (.bl false) H1
def YV(ta tb:TE):TE:=λσ H Q=>ta σ H λx H1=>∃c,x=.bl c/\if c=true then Q (.bl true) H1 else tb σ H1 Q
def Ug(ta:TE):TE:=λσ H Q=>ta σ H λx H1=>∃c,x=.bl c/\Q (.bl<|!c) H1
def Ho(h:PE X a t):PE X (.BoolOp op [a] pos) t:=λpins s σ H Q I j=>BoolOp_one<|h pins s σ H Q I j
def NP(F:PE X a ta)(J:PE X (.BoolOp .And (b::rest) pos) tb):PE X (.BoolOp .And (a::b::rest) pos)<|Ue ta tb:=by
 intro pins s σ H Q I h;refine BoolOp_and<|eF (F pins s σ H _ I h) λv M⟨x,H1,z,S,j⟩=>?_;obtain⟨c,rfl,j⟩:=j;cases S;refine F6 ?_;cases c with
 |true=>exact J pins M σ H1 Q z j
 |false=>exact⟨.bl false,H1,z,rfl,j⟩
def YW(F:PE X a ta)(J:PE X (.BoolOp .Or (b::rest) pos) tb):PE X (.BoolOp .Or (a::b::rest) pos)<|YV ta tb:=by
 intro pins s σ H Q I h;refine BoolOp_or<|eF (F pins s σ H _ I h) λv M⟨x,H1,z,S,j⟩=>?_;obtain⟨c,rfl,j⟩:=j;cases S;refine F6 ?_;cases c with
 |false=>exact J pins M σ H1 Q z j
 |true=>exact⟨.bl true,H1,z,rfl,j⟩
def Vy(z:PE X a ta):PE X (.UnaryOp .Not a pos)<|Ug ta:=by intro pins s σ H Q I h;refine UnaryOp_<|eF (z pins s σ H _ I h) λv M⟨x,H1,F,J,j⟩=>?_;obtain⟨c,rfl,j⟩:=j;cases J;exact not_of<|F6 ⟨.bl<|!c,H1,F,rfl,j⟩
def tIf(t:TT)(ta tb:TE):TE:=λσ H Q=>t σ H λc H1=>if c=true then ta σ H1 Q else tb σ H1 Q
def lM(J:PT X c tA)(M:PE X a ta)(S:PE X b tb):PE X (.IfExp c a b pos)<|tIf tA ta tb:=by
 intro pins s σ H Q I h;refine wpAny_IfExp<|eF (J pins s σ H _ I h) λd j⟨H1,z,F⟩=>?_;cases d with
 |true=>exact M pins j σ H1 Q z F
 |false=>exact S pins j σ H1 Q z F
end
def az(K:cn)(H:Hp)(a:Addr)(xs:List V):Prop:=
 Rd H a (.lst xs)\/
  C_ λ(o:Obj)(its:BA)(n:Nat)=>K.lookup a=some o/\o.cls=.type "list"/\o.dict=none/\o.data=.seq its n/\its.size<=sizeLine/\Vals xs its.toList
def ee(K:cn)(H:Hp)(a:Addr)(xs:List V):Prop:=
 Rd H a (.tup xs)\/
  C_ λ(o:Obj)(its:BA)(n:Nat)=>K.lookup a=some o/\o.cls=.type "tuple"/\o.data=.seq its n/\its.size<=sizeLine/\Vals xs its.toList
def ac4:Value->Option V
 |.none=>some .eQ
 |.bool b=>some (.bl b)
 |.int i _=>some (.int i)
 |.str x _=>some (.str x)
 |.bytes b _=>some (.Eb b)
 |.float b _=>some (.YF b)
 |.ref a=>some (.ref a)
 |.type n=>some (.ty n)
 |_=>none
def RelV.abs(r:RelV x u):ac4 u=some x:=by
 cases x with
 |eQ=>cases r;rfl
 |bl _=>cases r;rfl
 |int _=>obtain⟨t,rfl⟩:=r;rfl
 |str _=>obtain⟨t,rfl⟩:=r;rfl
 |Eb _=>obtain⟨t,rfl⟩:=r;rfl
 |YF _=>obtain⟨t,rfl⟩:=r;rfl
 |ref _=>cases r;rfl
 |ty _=>cases r;rfl
def RelV.inj(r:RelV x u)(q:RelV y u):x=y:=ri<|r.abs.symm.trans q.abs
theorem Vals.inj{xs ys:List V}{us:Bb}(a:Vals xs us)(b:Vals ys us):xs=ys:=by induction a generalizing ys with|nil=>cases b;rfl|cons r _ i=>cases b with|cons s u=>rw[r.inj s,i u]
section
variable{X:Cx}{pins:List<|Addr×Obj}{σ:St}{H:Hp}{s:Shared}{a:Addr}{xs ys:List V}
def az.of{K:cn}(h:H a=some (.lst xs)):az K H a xs:=.inl (.inl h)
def ee.of{K:cn}(h:H a=some (.tup xs)):ee K H a xs:=.inl (.inl h)
def Inv.list(I:Inv X pins σ H s)(h:az X.K H a xs):∃its:Bb,Vals xs its/\PlainL s.heap a its.toArray/\xs.length<=sizeLine:=by
 rcases h with h|⟨o,its,n,hk,j,hd,hs,hz,r⟩
 .obtain⟨z,its,n,r,e⟩:=h.ok I.c7;exact⟨its,r,⟨_,n,e,rfl,rfl,rfl⟩,z⟩
 .refine⟨its.toList,r,⟨o,n,I.JL a o hk,j,hd,by simpa using hs⟩,?_⟩;have e:=r.length;simp at e;lia
def Inv.tuple(I:Inv X pins σ H s)(h:ee X.K H a xs):∃its:Bb,Vals xs its/\IsTup s.heap a its.toArray/\xs.length<=sizeLine:=by
 rcases h with h|⟨o,its,n,hk,j,hs,hz,r⟩
 .obtain⟨z,its,r,p⟩:=h.ok I.c7;exact⟨its,r,p,z⟩
 .refine⟨its.toList,r,⟨o,I.JL a o hk,j,n,by simpa using hs⟩,?_⟩;have e:=r.length;simp at e;lia
def Inv.iE(I:Inv X pins σ H s)(h:az X.K H a xs)(h':az X.K H a ys):xs=ys:=by
 obtain⟨its,r,⟨o,n,e,_,_,d⟩,_⟩:=I.list h;obtain⟨its',r',⟨o',F,j,_,_,d'⟩,_⟩:=I.list h';rw[e]at j;cases j;rw[d]at d';injection d' with z _;have:its=its':=by simpa using congrArg Array.toList z
 subst this;exact r.inj r'
def Inv.sU(I:Inv X pins σ H s)(h:ee X.K H a xs)(h':ee X.K H a ys):xs=ys:=by
 obtain⟨its,r,⟨o,e,_,n,d⟩,_⟩:=I.tuple h;obtain⟨its',r',⟨o',j,_,F,d'⟩,_⟩:=I.tuple h';rw[e]at j;cases j;rw[d]at d';injection d' with z _;have:its=its':=by simpa using congrArg Array.toList z
 subst this;exact r.inj r'
end
abbrev Cx.yW(X:Cx)(E:Bd):Cx:={X with xe:=E}
abbrev Cx.RI(X:Cx):Cx:=X.yW λ_ _=>False
def Cx.Ok.yW{X:Cx}(ok:X.Ok)(E:Bd):(X.yW E).Ok:=⟨ok.mod,ok.kind,ok.glob,ok.blt,ok.above,ok.inj,ok.has,ok.YI,ok.hd,ok.frames,ok.Vt,ok.exf,ok.bs,ok.Q0,ok.NK,ok.NL,ok.uY,ok.Vu⟩
def Cx.Ok.nL{X:Cx}(ok:(X.yW E).Ok):X.Ok:=⟨ok.mod,ok.kind,ok.glob,ok.blt,ok.above,ok.inj,ok.has,ok.YI,ok.hd,ok.frames,ok.Vt,ok.exf,ok.bs,ok.Q0,ok.NK,ok.NL,ok.uY,ok.Vu⟩
section
variable{X:Cx}{pins:List<|Addr×Obj}{σ:St}{H:Hp}{s:Shared}{E:Bd}
def Inv.yW(I:Inv X pins σ H s)(E:Bd):Inv (X.yW E) pins σ H s:=⟨I.ok.yW E,I.os,I.bare,I.base,I.loc,I.cell,I.free,I.lL,I.pin,I.c7,I.len⟩
def Inv.nL(I:Inv (X.yW E) pins σ H s):Inv X pins σ H s:=⟨I.ok.nL,I.os,I.bare,I.base,I.loc,I.cell,I.free,I.lL,I.pin,I.c7,I.len⟩
def SP.nL(h:SP (X.yW E) pins D f s'):SP X pins D f s':=by
 cases f with
 |next=>obtain⟨σ',H',I,q⟩:=h;exact⟨σ',H',I.nL,q⟩
 |brk=>obtain⟨σ',H',I,q⟩:=h;exact⟨σ',H',I.nL,q⟩
 |cont=>obtain⟨σ',H',I,q⟩:=h;exact⟨σ',H',I.nL,q⟩
 |ret u=>obtain⟨v,σ',H',I,r,q⟩:=h;exact⟨v,σ',H',I.nL,r,q⟩
def Ef.RI{st:List Stmt}(h:Ef X.RI st t):Ef X st t:=λpins s σ H D I j=>y2 (h pins s σ H D (I.yW _) j) (λ_ _ q=>q.nL) λ_ _ z=>False.elim z
end
section
variable{X:Cx}{st:Stmt}{rest:List Stmt}{t u:TS}{e:Expr}{te:TE}{pos:Pos}
def Uh:TS:=λD σ H=>D.nx σ H
def Vz(t u:TS):TS:=λD σ H=>t (D.n<|u D) σ H
def aF:Ef X [] Uh:=λ_ _ σ H _ I h=>Xo ⟨σ,H,I,h⟩
def af(h1:PS X st t)(h2:Ef X rest u):Ef X (st::rest)<|Vz t u:=by
 intro pins s σ H D I h;refine wpAny_execs_cons<|eF (h1 pins s σ H (D.n<|u D) I h) λf j q=>?_;cases f with
 |next=>obtain⟨σ',H',z,q⟩:=q;exact h2 pins j σ' H' D z q
 |ret v=>exact q
 |brk=>exact q
 |cont=>exact q
def ao(h1:PS X st t):Ef X [st] t:=by
 intro pins s σ H D I h;refine wpAny_execs_cons<|eF (h1 pins s σ H D I h) λf j q=>?_;cases f with
 |next=>exact Xo q
 |ret v=>exact q
 |brk=>exact q
 |cont=>exact q
def NQ:TS:=λD σ H=>D.bk σ H
def Ui:TS:=λD σ H=>D.ct σ H
def NR:PS X (.Break pos) NQ:=λ_ _ σ H _ I h=>wpAny_Break ⟨σ,H,I,h⟩
def uu:PS X (.Continue pos) Ui:=λ_ _ σ H _ I h=>wpAny_Continue ⟨σ,H,I,h⟩
def Inv.quiet(I:Inv X pins σ H s):interactive X.env=false:=by simp[interactive,I.ok.kind]
def Uj(te:TE):TS:=λD σ H=>te σ H λ_ H1=>D.nx σ H1
def jR(j:PE X e te)(hs:swapsWith e none pos.line X.env=pure false:=by rfl):PS X (.Expr e pos)<|Uj te:=by intro pins s σ H D I h;exact wpAny_Expr_any (eF (j pins s σ H _ I h) λv J⟨x,H1,z,M,F⟩=>⟨σ,H1,z,F⟩) I.quiet hs
def VA(te:TE):TS:=λD σ H=>te σ H D.rt
def au(j:PE X e te):PS X (.Return (some e) pos)<|VA te:=by intro pins s σ H D I h;exact wpAny_Return_some<|eF (j pins s σ H _ I h) λv M⟨x,H1,z,F,J⟩=>⟨x,σ,H1,z,F,J⟩
def YX:TS:=λD _ H=>D.rt .eQ H
def YY(c:TT)(t u:TS):TS:=λD σ H=>c σ H λb H1=>if b=true then t D σ H1 else u D σ H1
def bh(J:PT X c tc)(M:Ef X a t)(S:Ef X b u):PS X (.If c a b pos)<|YY tc t u:=by
 intro pins s σ H D I h;refine wpAny_If<|eF (J pins s σ H _ I h) λd j⟨H1,z,F⟩=>?_;cases d with
 |true=>exact M pins j σ H1 D z F
 |false=>exact S pins j σ H1 D z F
end
abbrev TG:=V->St->Hp->(St->Hp->Prop)->Prop
abbrev Uk:=List V->St->Hp->(St->Hp->Prop)->Prop
def PG(X:Cx)(j:Expr)(t:TG):Prop:=
 ∀(pins:List<|Addr×Obj)(s:Shared)(σ:St)(H:Hp)(v:V)(u:Value)(Q:St->Hp->Prop),Inv X pins σ H s->RelV v u->t v σ H Q->
  wpAny (model X.prog X.w) X.A (assign j X.env u) (λ_ s'=>B_ λσ' H'=>Inv X pins σ' H' s'/\Q σ' H') X.xe s
def YZ(X:Cx)(ts:List Expr)(t:Uk):Prop:=
 ∀(pins:List<|Addr×Obj)(s:Shared)(σ:St)(H:Hp)(vs:List V)(us:Bb)(Q:St->Hp->Prop),Inv X pins σ H s->Vals vs us->t vs σ H Q->
  wpAny (model X.prog X.w) X.A (assignInOrder ((assignEach ts X.env).map (·.2)) us) (λ_ s'=>B_ λσ' H'=>Inv X pins σ' H' s'/\Q σ' H') X.xe s
abbrev RJ:=V->V->V->Hp->(Hp->Prop)->Prop
def Y0(X:Cx)(t:RJ):Prop:=
 ∀(pins:List<|Addr×Obj)(s:Shared)(σ:St)(H:Hp)(o i v:V)(j z u:Value)(Q:Hp->Prop),Inv X pins σ H s->RelV o j->RelV i z->RelV v u->t o i v H Q->
  wpAny (model X.prog X.w) X.A (setItem j z u) (λ_ s'=>∃H',Inv X pins σ H' s'/\Q H') X.xe s
section
variable{X:Cx}{pos:Pos}
def eZ(i:Nat):TG:=λv σ H Q=>Q (σ.set i<|some v) H
def RK(j:X.N.Nodup)(hi:X.N[i]?=some x)(z:Loc X.env.scope x)(F:X.fn x=true\/X.env.scope.names.lookup x=some .local):PG X (.Name x pos)<|eZ i:=by intro pins s σ H v u Q I r h;exact wpAny_assign_Name<|Ee I j hi z r (λs' J=>⟨_,H,J,h⟩) F
def BH:Uk:=λvs σ H Q=>vs=[]/\Q σ H
def iF(t:TG)(u:Uk):Uk:=λvs σ H Q=>B_ λv r=>vs=v::r/\t v σ H λσ' H'=>u r σ' H' Q
def gH:YZ X [] BH:=by intro pins s σ H vs us Q I r h;obtain⟨e,h⟩:=h;subst e;cases r;exact assignInOrder_nil ⟨σ,H,I,h⟩
def bY(h1:PG X e t)(h2:YZ X es u)
  (hs:(assignEach (e::es) X.env).map (·.2)=assign e X.env::(assignEach es X.env).map (·.2):=by rfl):YZ X (e::es)<|iF t u:=by
 intro pins s σ H vs us Q I r h;obtain⟨v,U,z,h⟩:=h;subst z;cases r with
 |cons r F=>rw[hs];refine assignInOrder_cons<|eF (h1 pins s σ H _ _ _ I r h) λ_ J⟨j,H1,M,S⟩=>?_;exact h2 pins J j H1 _ _ Q M F S
def yX(K:cn)(n:Nat)(t:Uk):TG:=λv σ H Q=>B_ λa xs=>v=.ref a/\ee K H a xs/\xs.length=n/\t xs σ H Q
def VB(J:X.calm=true)(h:YZ X es t)
  (M:(assignEach es X.env).length=n:=by rfl)(j:(assignEach es X.env).findIdx? (·.1)=none:=by rfl):PG X (.Tuple es k pos)<|yX X.K n t:=by
 intro pins s σ H v u Q I r z;obtain⟨a,xs,S,U,W,z⟩:=z;subst S;cases r;obtain⟨its,F,Y,hz⟩:=I.tuple U;refine assign_Tuple_tuple (I.ok.hd J) Y (by simp[M,<-W,F.length]) j λh' Z=>?_;have I1:=I.kept (t':=s.toks) λb o e=>Z b o (nP<|ky e) e;exact h pins _ σ H xs _ Q I1 (by simpa using F) z
def Y1(to j:TE)(t:RJ):TG:=λv σ H Q=>to σ H λo H1=>j σ H1 λi H2=>t o i v H2 λH3=>Q σ H3
def NS(J:PE X o to)(hi:PE X i F)(hs:Y0 X t)
  (M:∀v,assign (.Subscript o i pos) X.env v=(do
   let j<-holding [v] (eval o X.env);let z<-holding [v,j] (eval i X.env)
   standAt pos
   holding [v,j,z] (setItem j z v)
   release [v,j,z] []):=by intro _;rfl):PG X (.Subscript o i pos)<|Y1 to F t:=by
 intro pins s σ H v u Q I r h;rw[M];refine a0<|Cn<|eF (J pins s σ H _ I h) λj S⟨x,H1,U,W,Y⟩=>?_;refine a0<|Cn<|eF (hi pins S σ H1 _ U Y) λz Z⟨y,H2,I2,r2,q2⟩=>?_;refine a0<|XM<|a0<|Cn<|eF (hs pins Z σ H2 x y v j z u _ I2 W r2 r q2) λ_ s3⟨H3,I3,q3⟩=>?_;exact wpAny_release ⟨σ,H3,I3,q3⟩
def Lo(te:TE)(g:TG):TS:=λD σ H=>te σ H λx H1=>g x σ H1 D.nx
def NT(j:PE X e te)(z:PG X tg g)(hs:swapsWithSole [tg] e pos.line X.env=pure false:=by rfl)(F:swappedStores [tg] e X.env=pure none:=by rfl)
  (h1:(assignEach [tg] X.env).map (·.2)=[assign tg X.env]:=by rfl):PS X (.Assign [tg] e pos)<|Lo te g:=by
 intro pins s σ H D I h;refine wpAny_Assign_stores (eF (j pins s σ H _ I h) λv J⟨x,H1,M,S,U⟩=>?_) hs F;rw[h1];exact eF (z pins J σ H1 x v _ M S U) λ_ W q=>q
def VC(j:X.N.Nodup)(hi:X.N[i]?=some x)(z:Loc X.env.scope x)(F:PE X e te)(hs:swapsWith e (some (.Name x pos')) pos.line X.env=pure false)(J:X.fn x=true\/X.env.scope.names.lookup x=some .local):
  PS X (.Assign [.Name x pos'] e pos) (Lo te<|eZ i):=by
 intro pins s σ H D I h;refine wpAny_Assign_Name (eF (F pins s σ H _ I h) λv Y⟨y,H1,M,S,U⟩=>?_) hs;exact Ee M j hi z S (λZ W=>⟨_,H1,W,U⟩) J
end
section
variable{X:Cx}{pos:Pos}
def NU(c:TT)(tb:TS):TS:=λD σ H=>∃W:Nat->St->Hp->Prop,(∃m,W m σ H)/\∀m σ H,W m σ H->
 c σ H λb H1=>if b=true then∃N:St->Hp->Prop,(∀σ' H',N σ' H' ->∃j,j<m/\W j σ' H')/\tb (D.l N) σ H1 else D.nx σ H1
def wu(hp:PassesOwn (model X.prog X.w) X.A X.env X.xe)(hc:PT X c tc)(hb:Ef X body tb):PS X (.While c body [] pos)<|NU tc tb:=by
 intro pins s σ H D I h;obtain⟨W,⟨m0,w0⟩,F⟩:=h;refine wpAny_While<|codeAny_whileLoop (λn s'=>B_ λσ' H'=>Inv X pins σ' H' s'/\W n σ' H') ?_ m0 ⟨σ,H,I,w0⟩;rintro n s1⟨z,H1,I1,w1⟩;refine QF hp<|eF (hc pins s1 z H1 _ I1<|F n z H1 w1) λb s2⟨H2,I2,J⟩=>?_;cases b with
 |true=>
  obtain⟨N,hN,J⟩:=J;rw[dt rfl];refine QF hp<|eF (hb pins s2 z H2 _ I2 J) λf s3 M=>?_;cases f with
  |next=>obtain⟨j,H3,S,U⟩:=M;obtain⟨Y,Z,w3⟩:=hN j H3 U;exact⟨Y,Z,j,H3,S,w3⟩
  |cont=>obtain⟨j,H3,S,U⟩:=M;obtain⟨Y,Z,w3⟩:=hN j H3 U;exact⟨Y,Z,j,H3,S,w3⟩
  |brk=>exact M
  |ret v=>exact M
 |false=>rw[c0 rP];exact Xo ⟨z,H2,I2,J⟩
end
structure It where
 go:Nat->Hp->Prop
 Nc:Nat->Hp->V->Hp->Prop
 stop:Nat->Hp->Prop
def gP(X:Cx)(pins:List<|Addr×Obj)(H:Hp)(b:Addr):Prop:=H b=none/\b≠X.env.locals/\b∉X.fs/\(b∈X.ex\/X.yV.heap.objs.size<=b)/\(∀x c,X.env.cells.lookup x=some c->c≠b)/\∀p∈X.pn++pins,p.1≠b
def Inv.qe(I:Inv X pins σ H s)(j:s.heap.objs.size<=b)(F:H' b=none):gP X pins H' b:=by
 refine⟨F,B2<|sd I.lt j,I.ac0 j,.inr<|lp I.sz j,λx c e z=>?_,λp J z=>?_⟩
 .obtain⟨v,q⟩:=I.cell x c e;exact absurd (sd q.lt<|by rw[z];exact j)<|Dj _
 .exact absurd (sd (ky (I.pin p J).1)<|by rw[z];exact j)<|Dj _
structure Turn(P:Program)(w:World)(K:cn)(tg:Expr)(J:It)(fp:Bf)(it:Addr)(tn:Nat->Heap->Prop):Prop where
 mem:it∈fp
 obj:∀i h,tn i h->∀b∈fp,∃o,h.get? b=some o/\∀v,o.data≠.cell v
 keep:∀i h h',tn i h->(∀b∈fp,∀o,h.get? b=some o->h'.get? b=some o)->tn i h'
 item:∀(X:Cx),X.prog=P->X.w=w->X.K=K->X.calm=true->∀(i:Nat)(pins:List<|Addr×Obj)(s:Shared)(σ:St)(H:Hp)(E:Bd),Inv X pins σ H s->(∀b∈fp,gP X pins H b)->tn i s.heap->J.go i H->
  wpAny (model P w) X.A (pyNext (.ref it)) (λr s1=>∃u,r=some u/\
   wpAny (model P w) X.A (letOwnedTupleGo tg (.ref it) u) (λ_ s2=>B_ λx H'=>Inv X pins σ H' s2/\RelV x u/\J.Nc i H x H'/\tn (i+1) s2.heap/\∀b∈fp,H' b=none) E s1) E s
 done:∀(X:Cx),X.prog=P->X.w=w->X.K=K->X.calm=true->∀(i:Nat)(pins:List<|Addr×Obj)(s:Shared)(σ:St)(H:Hp)(E:Bd),Inv X pins σ H s->(∀b∈fp,gP X pins H b)->tn i s.heap->J.stop i H->
  wpAny (model P w) X.A (pyNext (.ref it)) (λr s1=>r=none/\Inv X pins σ H s1) E s
 self:∀(A:Around)(i:Nat)(s:Shared)(Q:Bd)(E:Bd),tn i s.heap->Q (.ref it) s->wpAny (model P w) A (pyIter (.ref it)) Q E s
abbrev TI:=St->Hp->(It->Hp->Prop)->Prop
def PIE(X:Cx)(pins:List<|Addr×Obj)(σ:St)(tg:Expr)(R:It->Hp->Prop)(j:Value)(z:Shared):Prop:=E_ λ(it:Addr)(F:Bf)(tn:Nat->Heap->Prop)(J:It)(H':Hp)=>j=.ref it/\Inv X pins σ H' z/\Turn X.prog X.w X.K tg J F it tn/\tn 0 z.heap/\(∀b∈F,gP X pins H' b)/\R J H'
def PI(X:Cx)(tg iter:Expr)(wi:TI):Prop:=
 ∀(pins:List<|Addr×Obj)(s:Shared)(σ:St)(H:Hp)(R:It->Hp->Prop),Inv X pins σ H s->wi σ H R->
  wpAny (model X.prog X.w) X.A (eval iter X.env) (λv j=>wpAny (model X.prog X.w) X.A (pyIter v) (PIE X pins σ tg R) X.xe j) X.xe s
def JM(z:s.heap.get? it=some o)(F:o.cls=.type n)(hd:o.data=.fields vs)
  (I:["enumerate","zip","dict_itemiterator","dict_reverseitemiterator","odict_iterator","itertools.zip_longest","itertools.pairwise"].contains n=false)(j:Q () s):wpAny M A (letOwnedTupleGo tg (.ref it) u) Q E s:=by
 unfold letOwnedTupleGo
 cases tg<;>first
  |exact er j
  |(cases u<;>first
   |exact er j
   |(refine a0<|wpAny_load z ?_
     rw[F,hd];show wpAny M A (if(["enumerate","zip","dict_itemiterator","dict_reverseitemiterator","odict_iterator","itertools.zip_longest","itertools.pairwise"].contains n&&vs[0]?==some (rawInt _))=true then _ else _) Q E s;rw[c0<|by intro h;rw[I,Q5]at h;cases h]
     exact er j))
def Rc(K:cn)(a:Addr):It:=⟨λi H=>B_ λxs x=>az K H a xs/\xs[i]?=some x,λi H x H'=>H'=H/\∀xs,az K H a xs->xs[i]?=some x,λi H=>∃xs,az K H a xs/\xs.length<=i⟩
def RL(K:cn)(a:Addr):It:=⟨λi H=>B_ λxs x=>ee K H a xs/\xs[i]?=some x,λi H x H'=>H'=H/\∀xs,ee K H a xs->xs[i]?=some x,λi H=>∃xs,ee K H a xs/\xs.length<=i⟩
def Nd(lo:Int)(n:Nat):It:=⟨λi _=>i<n,λi H x H'=>H'=H/\x=.int (lo+i),λi _=>n<=i⟩
def AB{K:cn}(a it:Addr):Turn P w K tg (Rc K a) [it] it (λi h=>h.IsListIter it a i) where
 mem:=by simp
 obj:=λi h st b j=>by
  have e:b=it:=by simpa using j
  subst e;obtain⟨o,e,c,d⟩:=st;exact⟨o,e,λv z=>by rw[d]at z;cases z⟩
 keep:=λi h h' st k=>st.at λo e=>k it (by simp) o e
 item:=by intro X S U Y hc i pins s σ H E I J st Z;subst S U Y;obtain⟨xs,x,M,hx⟩:=Z;obtain⟨its,rv,p,hz⟩:=I.list M;obtain⟨u,hu,ru⟩:=rv.get hx;obtain⟨f0,f1,f2,f3,f4,f5⟩:=J it (by simp);refine wpAny_pyNext_list_item st p.isList (by simpa using hu) λh' F sb=>?_;have I1:=I.turned (t':=s.toks) (λb o j e=>(sb.2 b j).trans e) f0 f1 f3 f4 f5;obtain⟨o,e,c,d⟩:=id F;exact⟨u,rfl,JM (s:={s with heap:=h'}) e c d (by decide) ⟨x,H,I1,ru,⟨rfl,λys hy=>by rw[I.iE hy M];exact hx⟩,F,λb j=>(J b j).1⟩⟩
 done:=by intro X S U Y hc i pins s σ H E I J st Z;subst S U Y;obtain⟨xs,M,hx⟩:=Z;obtain⟨its,rv,p,hz⟩:=I.list M;obtain⟨f0,f1,f2,f3,f4,f5⟩:=J it (by simp);have hl:=rv.length;exact wpAny_pyNext_list_end (I.ok.hd hc) st p.isList (by simp;lia) λh' eb=>⟨rfl,I.turned (t':=s.toks) (λb o j e=>eb b o j e) f0 f1 f3 f4 f5⟩
 self:=λ_ _ _ _ _ st h=>wpAny_pyIter_listiter st h
def wz{K:cn}(a it:Addr):Turn P w K tg (RL K a) [it] it (λi h=>h.IsTupleIter it a i) where
 mem:=by simp
 obj:=λi h st b j=>by
  have e:b=it:=by simpa using j
  subst e;obtain⟨o,e,c,d⟩:=st;exact⟨o,e,λv z=>by rw[d]at z;cases z⟩
 keep:=λi h h' st k=>st.at λo e=>k it (by simp) o e
 item:=by intro X S U Y hc i pins s σ H E I J st Z;subst S U Y;obtain⟨xs,x,M,hx⟩:=Z;obtain⟨its,rv,p,hz⟩:=I.tuple M;obtain⟨u,hu,ru⟩:=rv.get hx;obtain⟨f0,f1,f2,f3,f4,f5⟩:=J it (by simp);refine wpAny_pyNext_tuple_item st (p) (by simpa using hu) λh' F sb=>?_;have I1:=I.turned (t':=s.toks) (λb o j e=>(sb.2 b j).trans e) f0 f1 f3 f4 f5;obtain⟨o,e,c,d⟩:=id F;exact⟨u,rfl,JM (s:={s with heap:=h'}) e c d (by decide) ⟨x,H,I1,ru,⟨rfl,λys hy=>by rw[I.sU hy M];exact hx⟩,F,λb j=>(J b j).1⟩⟩
 done:=by intro X S U Y hc i pins s σ H E I J st Z;subst S U Y;obtain⟨xs,M,hx⟩:=Z;obtain⟨its,rv,p,hz⟩:=I.tuple M;obtain⟨f0,f1,f2,f3,f4,f5⟩:=J it (by simp);have hl:=rv.length;exact wpAny_pyNext_tuple_end (I.ok.hd hc) st (show s.heap.IsTuple a its.toArray from p) (by simp;lia) λh' eb=>⟨rfl,I.turned (t':=s.toks) (λb o j e=>eb b o j e) f0 f1 f3 f4 f5⟩
 self:=λ_ _ _ _ _ st h=>wpAny_pyIter_tupleiter st h
def Hq{K:cn}(it:Addr)(lo:Int)(n:Nat):Turn P w K tg (Nd lo n) [it] it (λi h=>IsRangeIter h it (lo+(i:Nat)*1) ((n:Int)-(i:Nat)) 1) where
 mem:=by simp
 obj:=λi h st b j=>by
  have e:b=it:=by simpa using j
  subst e
  exact⟨_,st,λv z=>by
   have z':=z
   cases z'⟩
 keep:=λi h h' st k=>k it (by simp) _ st
 item:=by intro X M S U Y i pins s σ H E I J st Z;subst M S U;obtain⟨f0,f1,f2,f3,f4,f5⟩:=J it (by simp);refine(Walks.range (prog:=X.prog) (w:=X.w) (I.ok.hd Y) it lo 1 n).item i s _ _ Z st λv h' tk hv F kk=>?_;obtain⟨t,rfl⟩:=hv;have I1:Inv X pins σ H {s with heap:=h',toks:=tk}:=I.turned (λb o j e=>kk b o (by simpa using j) e) f0 f1 f3 f4 f5;refine⟨_,rfl,JM (s:={s with heap:=h',toks:=tk}) (n:="range_iterator") F rfl rfl (by decide) ⟨.int<|lo+i,H,I1,⟨t,?_⟩,⟨rfl,rfl⟩,F,λb j=>(J b j).1⟩⟩;rw[Int.mul_one]
 done:=by intro X M S U Y i pins s σ H E I J st Z;subst M S U;obtain⟨f0,f1,f2,f3,f4,f5⟩:=J it (by simp);exact wpAny_pyNext_range_end (I.ok.hd Y) st (by have:n<=i:=Z;lia) λh' eb=>⟨rfl,I.turned (t':=s.toks) (λb o j e=>eb b o j e) f0 f1 f3 f4 f5⟩
 self:=λ_ _ _ _ _ st h=>wpAny_pyIter_rangeiter st h
section
variable{X:Cx}{tg:Expr}
def NW(K:cn)(tl:TE):TI:=λσ H R=>tl σ H λx H1=>∃a,x=.ref a/\(∃xs,az K H1 a xs)/\R (Rc K a) H1
def VD(K:cn)(tl:TE):TI:=λσ H R=>tl σ H λx H1=>∃a,x=.ref a/\(∃xs,ee K H1 a xs)/\R (RL K a) H1
def RM{l:Expr}{tl:TE}(F:PE X l tl):PI X tg l<|NW X.K tl:=by
 intro pins s σ H R I h;refine eF (F pins s σ H _ I h) λv j⟨x,H1,z,J,M⟩=>?_;obtain⟨a,e,⟨xs,S⟩,q⟩:=M;subst e;cases J;obtain⟨its,W,p,hz⟩:=z.list S;refine Ic p.isList ?_;refine⟨j.heap.objs.size,[j.heap.objs.size],_,_,H1,rfl,z.kept λb o e=>et _ e,AB a _,⟨_,m8 _ rfl,rfl,rfl⟩,λb U=>?_,q⟩;have e:b=j.heap.objs.size:=by simpa using U
 subst e;exact z.qe (ez _)<|z.c7.fresh<|ez _
def VE{l:Expr}{tl:TE}(F:PE X l tl):PI X tg l<|VD X.K tl:=by
 intro pins s σ H R I h;refine eF (F pins s σ H _ I h) λv j⟨x,H1,z,J,M⟩=>?_;obtain⟨a,e,⟨xs,S⟩,q⟩:=M;subst e;cases J;obtain⟨its,W,p,hz⟩:=z.tuple S;refine Z9 (p) ?_;refine⟨j.heap.objs.size,[j.heap.objs.size],_,_,H1,rfl,z.kept λb o e=>et _ e,wz a _,⟨_,m8 _ rfl,rfl,rfl⟩,λb U=>?_,q⟩;have e:b=j.heap.objs.size:=by simpa using U
 subst e;exact z.qe (ez _)<|z.c7.fresh<|ez _
def Eh{pins:List<|Addr×Obj}{H:Hp}{R:It->Hp->Prop}{lo hi:Int}{tk:Nat}(I:Inv X pins σ H s)(h1:-(2^62)<=lo)(h2:lo<2^62)(z:-(2^62)<=hi)(F:hi<2^62)
  (q:R (Nd lo (hi-lo).toNat) H):wpAny (model X.prog X.w) X.A (pyIter (.ref s.heap.objs.size)) (PIE X pins σ tg R) E {s with heap:=s.heap.push {cls:=.type "range",data:=.fields #[.int lo t,.int hi u,.int 1 v]},toks:=tk}:=by
 refine wpAny_pyIter_range (IsRange.new ..) (small_one h1 h2 z F) ?_;have j:Inv X pins σ H {s with heap:=s.heap.push {cls:=.type "range",data:=.fields #[.int lo t,.int hi u,.int 1 v]},toks:=tk}:=I.kept λb o e=>et _ e
 refine⟨(s.heap.push {cls:=.type "range",data:=.fields #[.int lo t,.int hi u,.int 1 v]}).objs.size,[(s.heap.push {cls:=.type "range",data:=.fields #[.int lo t,.int hi u,.int 1 v]}).objs.size],_,_,H,rfl,
  j.kept λb o e=>et _ e,Hq _ lo (hi-lo).toNat,?_,λb J=>?_,q⟩
 .have M:lo+((0:Nat):Int)*1=lo:=by simp
  have S:(((hi-lo).toNat:Nat):Int)-((0:Nat):Int)=Builtin.Range.rangeSize lo hi 1:=by rw[rangeSize_one];split<;>lia
  rw[M,S];exact m8 _ rfl
 .have e:b=(s.heap.push {cls:=.type "range",data:=.fields #[.int lo t,.int hi u,.int 1 v]}).objs.size:=by simpa using J
  subst e;exact j.qe (ez _)<|j.c7.fresh<|ez _
def Um(ta:TA):TI:=λσ H R=>ta σ H λvs H1=>∃j:Int,vs=[.int j]/\-(2^62)<=j/\j<2^62/\R (Nd 0 j.toNat) H1
def Uo(ta:TA):TI:=λσ H R=>ta σ H λvs H1=>B_ λ(i j:Int)=>vs=[.int i,.int j]/\(-(2^62)<=i/\i<2^62/\-(2^62)<=j/\j<2^62)/\R (Nd i (j-i).toNat) H1
def ja{a:Expr}{ta:TA}{p pos:Pos}(F:Gl X "range")(J:X.mg "range"=none)(M:PA X [a] ta)(hs:starEach [a] X.env=[(false,eval a X.env)]:=by rfl):PI X tg (.Call (.Name "range" p) [a] [] pos)<|Um ta:=by
 intro pins s σ H R I h;refine Call_<|iD I F J boot_range<|HK (eF (M pos pins s σ H _ I h) λus Z⟨vs,H1,S,U,z⟩=>?_) hs rfl;obtain⟨j,e,z,W,q⟩:=z;subst e;cases U with
 |cons r Y=>cases Y;obtain⟨t,rfl⟩:=r;exact call_range_1<|Eh S (by lia) (by lia) z W (by simpa using q)
def Lp(M:Gl X "range")(S:X.mg "range"=none)(U:PA X [a,b] ta)(hs:starEach [a,b] X.env=[(false,eval a X.env),(false,eval b X.env)]:=by rfl)(z:starEach [b] X.env=[(false,eval b X.env)]:=by rfl):
  PI X tg (.Call (.Name "range" p) [a,b] [] pos) (Uo ta):=by
 intro pins s σ H R I h;refine Call_<|iD I M S boot_range<|HK (eF (U pos pins s σ H _ I h) λus s1⟨vs,H1,W,Y,F⟩=>?_) (by rw[hs,z]) (by rw[z];rfl);obtain⟨i,j,e,⟨F,Z,q3,q4⟩,q⟩:=F;subst e;cases Y with
 |cons r J=>
  cases J with
  |cons r' J=>cases J;obtain⟨t,rfl⟩:=r;obtain⟨t',rfl⟩:=r';exact call_range_2<|Eh W F Z q3 q4 q
def Y2(wi:TI)(g:TG)(tb:TS):TS:=λD σ H=>wi σ H λJ H1=>∃W:Nat->Nat->St->Hp->Prop,(∃m,W 0 m σ H1)/\∀i m σ H,W i m σ H->
 (J.stop i H/\D.nx σ H)\/(J.go i H/\∃N:St->Hp->Prop,(∀σ' H',N σ' H' ->∃z,z<m/\W (i+1) z σ' H')/\∀x H',J.Nc i H x H' ->g x σ H' λj H2=>tb (D.l N) j H2)
def wB(j:Bf)(h:Heap):List<|Addr×Obj:=j.filterMap λb=>(h.get? b).map λo=>(b,o)
def qg(z:b∈j)(e:h.get? b=some o):(b,o)∈wB j h:=List.mem_filterMap.mpr ⟨b,z,by rw[e];rfl⟩
def Lq(z:p∈wB j h):p.1∈j/\h.get? p.1=some p.2:=by
 obtain⟨b,F,e⟩:=List.mem_filterMap.mp z;cases q:h.get? b with
 |none=>rw[q]at e;cases e
 |some o=>rw[q]at e;have I:=ri e;subst I;exact⟨F,q⟩
def Inv.pinned(I:Inv X pins σ H s)(M:∀b∈j,gP X pins H b)(S:∀b∈j,∃o,s.heap.get? b=some o/\∀v,o.data≠.cell v):Inv X (pins++wB j s.heap) σ H s:=I.vv λp U=>(ro.mp U).elim (λz=>I.pin p<|B9 _ z) λz=>by obtain⟨F,e⟩:=Lq z;obtain⟨Y,Z,f2,_⟩:=M p.1 F;obtain⟨o,J,d⟩:=S p.1 F;rw[e]at J;cases J;exact⟨e,Y,Z,f2,d⟩
def Inv.rA(I:Inv X (pins++pl) σ H s):Inv X pins σ H s:=I.vv λp j=>I.pin p<|B9 _<|R5 _ j
def gm(hp:PassesOwn (model X.prog X.w) X.A X.env X.xe)(hc:X.calm=true)(hi:PI X tg iter wi)(hg:PG X tg g)(z:Ef X body tb)
  (hs:∀x,foldedSetIterable iter X.env x=pure x:=by intro _;rfl):PS X (.For tg iter body [] pos)<|Y2 wi g tb:=by
 intro pins s σ H D I h;refine wpAny_For (eF (hi pins s σ H _ I h) λv s1 h1=>eF h1 λitv s2 h2=>?_) hs;obtain⟨it,fp,tn,J,H2,e,I2,T,st2,f2,W,⟨m0,w0⟩,turn⟩:=h2;subst e;have F:∀{H':Hp},(∀b∈fp,H' b=none)->∀b∈fp,gP X pins H' b:=λhn b z=>⟨hn b z,(f2 b z).2⟩;refine codeAny_forLoop_any (λn s'=>C_ λi σ' H'=>Inv X pins σ' H' s'/\tn i s'.heap/\(∀b∈fp,H' b=none)/\W i n σ' H') ?_ m0 ⟨0,σ,H2,I2,st2,λb z=>(f2 b z).1,w0⟩;rintro n s3⟨i,M,H3,I3,st3,fr3,w3⟩;rcases turn i n M H3 w3 with⟨stop,qn⟩|⟨go,N,hN,step⟩
 .refine QF hp<|eF (T.done X rfl rfl rfl hc i pins s3 M H3 X.xe I3 (F fr3) st3 stop) λr s4⟨hr,I4⟩=>?_;subst hr;exact Xo ⟨M,H3,I4,qn⟩
 .refine QF hp<|eF (T.item X rfl rfl rfl hc i pins s3 M H3 X.xe I3 (F fr3) st3 go) λr s4⟨u,hr,h4⟩=>?_;subst hr;refine QF hp<|eF h4 λ_ s5⟨x,H5,I5,r5,y5,Z,fr5⟩=>?_;refine QF hp<|eF (hg _ s5 M H5 x u _ (I5.pinned (F fr5)<|T.obj _ _ Z) r5<|step x H5 y5) λ_ s6⟨σ6,H6,I6,q6⟩=>?_;refine QF hp<|eF (z _ s6 σ6 H6 _ I6 q6) λf s7 Y=>?_;have again:∀{j:St}{S:Hp},Inv X (pins++wB fp s5.heap) j S s7->N j S->∃m,m<n/\C_ λi σ' H'=>Inv X pins σ' H' s7/\tn i s7.heap/\(∀b∈fp,H' b=none)/\W i m σ' H':=λ{j S} U n7=>by obtain⟨m',hm,w7⟩:=hN j S n7;refine⟨m',hm,i+1,j,S,U.rA,T.keep _ _ _ Z λb z o e=>(U.pin (b,o)<|B9 _<|B9 _<|qg z e).1,λb z=>?_,w7⟩;obtain⟨o,e,d⟩:=T.obj _ _ Z b z;exact(U.pin (b,o)<|B9 _<|B9 _<|qg z e).2.1
  cases f with
  |next=>obtain⟨j,S,U,n7⟩:=Y;exact again U n7
  |cont=>obtain⟨j,S,U,n7⟩:=Y;exact again U n7
  |brk=>obtain⟨j,S,U,Y⟩:=Y;exact⟨j,S,U.rA,Y⟩
  |ret v=>obtain⟨x7,j,S,U,r7,Y⟩:=Y;exact⟨x7,j,S,U.rA,r7,Y⟩
end
def iG{K:cn}{a:Addr}{xs:List V}{g:TG}{tb:TS}{D:Ends}{σ:St}{H:Hp}(j:Nat->St->Hp->Prop)(h0:j 0 σ H)(J:∀i σ H,i<=xs.length->j i σ H->az K H a xs)
  (hs:∀i x σ H,xs[i]?=some x->j i σ H->g x σ H λz H2=>tb (D.l<|j<|i+1) z H2)(hd:∀σ H,j xs.length σ H->D.nx σ H):
  ∃W:Nat->Nat->St->Hp->Prop,(∃m,W 0 m σ H)/\∀i m σ H,W i m σ H->
   ((Rc K a).stop i H/\D.nx σ H)\/((Rc K a).go i H/\∃N:St->Hp->Prop,(∀σ' H',N σ' H' ->∃I,I<m/\W (i+1) I σ' H')/\∀x H',(Rc K a).Nc i H x H' ->g x σ H' λz H2=>tb (D.l N) z H2):=by
 refine⟨λi m σ H=>m=xs.length-i/\i<=xs.length/\j i σ H,⟨xs.length,by simp,ti _,h0⟩,?_⟩;rintro i m σ H⟨rfl,hi,p⟩;have q:=J i σ H hi p;by_cases F:i<xs.length
 .refine .inr ⟨⟨xs,xs[i],q,by simp[F]⟩,j<|i+1,λσ' H' M=>⟨xs.length-(i+1),by lia,rfl,F,M⟩,λx H' y=>?_⟩;obtain⟨e,y⟩:=y;subst e;exact hs i x σ _ (y xs q) p
 .have e:i=xs.length:=by lia
  subst e;exact .inl ⟨⟨xs,q,ez _⟩,hd σ H p⟩
def JN{K:cn}{a:Addr}{xs:List V}{g:TG}{tb:TS}{D:Ends}{σ:St}{H:Hp}(j:Nat->St->Hp->Prop)(h0:j 0 σ H)(J:∀i σ H,i<=xs.length->j i σ H->ee K H a xs)
  (hs:∀i x σ H,xs[i]?=some x->j i σ H->g x σ H λz H2=>tb (D.l<|j<|i+1) z H2)(hd:∀σ H,j xs.length σ H->D.nx σ H):
  ∃W:Nat->Nat->St->Hp->Prop,(∃m,W 0 m σ H)/\∀i m σ H,W i m σ H->
   ((RL K a).stop i H/\D.nx σ H)\/((RL K a).go i H/\∃N:St->Hp->Prop,(∀σ' H',N σ' H' ->∃I,I<m/\W (i+1) I σ' H')/\∀x H',(RL K a).Nc i H x H' ->g x σ H' λz H2=>tb (D.l N) z H2):=by
 refine⟨λi m σ H=>m=xs.length-i/\i<=xs.length/\j i σ H,⟨xs.length,by simp,ti _,h0⟩,?_⟩;rintro i m σ H⟨rfl,hi,p⟩;have q:=J i σ H hi p;by_cases F:i<xs.length
 .refine .inr ⟨⟨xs,xs[i],q,by simp[F]⟩,j<|i+1,λσ' H' M=>⟨xs.length-(i+1),by lia,rfl,F,M⟩,λx H' y=>?_⟩;obtain⟨e,y⟩:=y;subst e;exact hs i x σ _ (y xs q) p
 .have e:i=xs.length:=by lia
  subst e;exact .inl ⟨⟨xs,q,ez _⟩,hd σ H p⟩
def j4{lo:Int}{n:Nat}{g:TG}{tb:TS}{D:Ends}{σ:St}{H:Hp}(j:Nat->St->Hp->Prop)(h0:j 0 σ H)
  (hs:∀i σ H,i<n->j i σ H->g (.int<|lo+i) σ H λz H2=>tb (D.l<|j<|i+1) z H2)(hd:∀σ H,j n σ H->D.nx σ H):
  ∃W:Nat->Nat->St->Hp->Prop,(∃m,W 0 m σ H)/\∀i m σ H,W i m σ H->
   ((Nd lo n).stop i H/\D.nx σ H)\/((Nd lo n).go i H/\∃N:St->Hp->Prop,(∀σ' H',N σ' H' ->∃I,I<m/\W (i+1) I σ' H')/\∀x H',(Nd lo n).Nc i H x H' ->g x σ H' λz H2=>tb (D.l N) z H2):=by
 refine⟨λi m σ H=>m=n-i/\i<=n/\j i σ H,⟨n,by simp,ti _,h0⟩,?_⟩;rintro i m σ H⟨rfl,hi,p⟩;by_cases F:i<n
 .refine .inr ⟨F,j<|i+1,λσ' H' J=>⟨n-(i+1),by lia,rfl,F,J⟩,λx H' y=>?_⟩;obtain⟨e,y⟩:=y;subst e y;exact hs i σ _ F p
 .have e:i=n:=by lia
  subst e;exact .inl ⟨ez _,hd σ H p⟩
abbrev R2:=V->V->Hp->VK->Prop
def nu(X:Cx)(f:Value->Value->Sem Value)(r:R2):Prop:=
 ∀(pins:List<|Addr×Obj)(s:Shared)(σ:St)(H:Hp)(x y:V)(v u:Value)(Q:VK),Inv X pins σ H s->RelV x v->RelV y u->r x y H Q->
  wpAny (model X.prog X.w) X.A (f v u) (EP X pins σ Q) X.xe s
def UnR(X:Cx)(f:Value->Sem Value)(r:V->Hp->VK->Prop):Prop:=
 ∀(pins:List<|Addr×Obj)(s:Shared)(σ:St)(H:Hp)(x:V)(v:Value)(Q:VK),Inv X pins σ H s->RelV x v->r x H Q->
  wpAny (model X.prog X.w) X.A (f v) (EP X pins σ Q) X.xe s
def fb(X:Cx)(f:Value)(r:List V->Hp->VK->Prop):Prop:=
 ∀(pins:List<|Addr×Obj)(s:Shared)(σ:St)(H:Hp)(xs:List V)(us:Bb)(Q:VK),Inv X pins σ H s->Vals xs us->r xs H Q->
  wpAny (model X.prog X.w) X.A (call f us) (EP X pins σ Q) X.xe s
def Y3(r:R2)(ta tb:TE):TE:=λσ H Q=>ta σ H λx H1=>tb σ H1 λy H2=>r x y H2 Q
def tUn(r:V->Hp->VK->Prop)(ta:TE):TE:=λσ H Q=>ta σ H λx H1=>r x H1 Q
def rI(C:Int->Int->Prop)(g:Int->Int->V):R2:=λx y H Q=>B_ λi j=>x=.int i/\y=.int j/\C i j/\Q (g i j) H
def NY(g:Int->Int->V):R2:=λx y H Q=>B_ λi j=>x=.int i/\y=.int j/\Q (g i j) H
def rU(g:Int->V):V->Hp->VK->Prop:=λx H Q=>∃i,x=.int i/\Q (g i) H
section
variable{X:Cx}{a b c:Expr}{ta tb tc:TE}{pos:Pos}
def VF(J:PE X a ta)(M:PE X b tb){pins:List<|Addr×Obj}{σ:St}{R:V->V->Hp->Prop}(I:Inv X pins σ H s)
  (h:ta σ H λx H1=>tb σ H1 λy H2=>R x y H2){f:Value->Value->Sem Value}
  (S:∀v u F x y H2,Inv X pins σ H2 F->RelV x v->RelV y u->R x y H2->wpAny (model X.prog X.w) X.A (f v u) Q X.xe F):
  wpAny (model X.prog X.w) X.A (eval a X.env) (λv j=>wpAny (model X.prog X.w) X.A (eval b X.env) (λu z=>wpAny (model X.prog X.w) X.A (f v u) Q X.xe z) X.xe j) X.xe s:=by
 refine eF (J pins s σ H _ I h) λv U⟨x,H1,W,Y,Z⟩=>?_;refine eF (M pins U σ H1 _ W Z) λu F⟨y,H2,I2,r2,q2⟩=>?_;exact S v u F x y H2 I2 Y r2 q2
def br{op:Operator}{r:R2}(j:nu X (binaryOp op) r)(z:PE X a ta)(F:PE X b tb):PE X (.BinOp a op b pos)<|Y3 r ta tb:=by intro pins s σ H Q I h;exact wpAny_BinOp<|VF z F I h λv u J x y H2 M S U q=>j pins J σ H2 x y v u Q M S U q
def NZ(j:UnR X (unaryOp op) r)(z:PE X a ta):PE X (.UnaryOp op a pos)<|tUn r ta:=by intro pins s σ H Q I h;exact UnaryOp_<|eF (z pins s σ H _ I h) λv F⟨x,H1,J,M,S⟩=>j pins F σ H1 x v Q J M S
def opI{g:Int->Int->Int}
  (rule:∀(i j:Int)(t u:Tok)(s:Shared)(Q:Bd)(E:Bd),C i j->Q (.int (g i j) s.toks) {s with toks:=s.toks+1}->wpAny (model X.prog X.w) X.A (f (.int i t) (.int j u)) Q E s):
  nu X f (rI C λi j=>.int<|g i j):=by
 intro pins s σ H x y v u Q I z F h;obtain⟨i,j,rfl,rfl,hc,q⟩:=h;obtain⟨t,rfl⟩:=z;obtain⟨t',rfl⟩:=F;exact rule i j t t' s _ _ hc ⟨.int<|g i j,H,I.tok _,⟨_,rfl⟩,q⟩
def RO{g:Int->Int->Int}
  (rule:∀(i j:Int)(t u:Tok)(s:Shared)(Q:Bd)(E:Bd),Q (.int (g i j) s.toks) {s with toks:=s.toks+1}->wpAny (model X.prog X.w) X.A (f (.int i t) (.int j u)) Q E s):
  nu X f (NY λi j=>.int<|g i j):=by
 intro pins s σ H x y v u Q I z F h;obtain⟨i,j,rfl,rfl,q⟩:=h;obtain⟨t,rfl⟩:=z;obtain⟨t',rfl⟩:=F;exact rule i j t t' s _ _ ⟨.int<|g i j,H,I.tok _,⟨_,rfl⟩,q⟩
def RQ{g:Int->Int->Bool}
  (rule:∀(i j:Int)(t u:Tok)(s:Shared)(Q:Bd)(E:Bd),Q (.bool<|g i j) s->wpAny (model X.prog X.w) X.A (f (.int i t) (.int j u)) Q E s):
  nu X f (NY λi j=>.bl<|g i j):=by
 intro pins s σ H x y v u Q I z F h;obtain⟨i,j,rfl,rfl,q⟩:=h;obtain⟨t,rfl⟩:=z;obtain⟨t',rfl⟩:=F;exact rule i j t t' s _ _ ⟨.bl<|g i j,H,I,rfl,q⟩
def ac8(i j:Int):Prop:=0<j/\j<1073741824
def ac9(i j:Int):Prop:=0<=j/\j<=1000000/\i.natAbs<2^64
def VG(i j:Int):Prop:=(-(2^64)<i/\i<2^64)\/(-(2^64)<j/\j<2^64)
def VG.ok(h:VG i j):IntMulOk i j:=by
 rcases h with⟨h1,h2⟩|⟨h1,h2⟩
 .exact .of_left<|intBits_le_64 h1 h2
 .exact .of_right<|intBits_le_64 h1 h2
def iH:nu X (binaryOp .Add)<|NY λi j=>.int<|i+j:=RO λ_ _ _ _ _ _ _ q=>add_int q
def sV:nu X (binaryOp .Sub)<|NY λi j=>.int<|i-j:=RO λ_ _ _ _ _ _ _ q=>sub_int q
def qh:nu X (binaryOp .Mult)<|rI VG λi j=>.int<|i*j:=opI λ_ _ _ _ _ _ _ z q=>mul_int q z.ok
def JO:nu X (binaryOp .FloorDiv)<|rI ac8 λi j=>.int<|i/j:=opI λi j _ _ _ _ _ z q=>by have h1:(0:Int)<j:=z.1;have h2:j<1073741824:=z.2;exact floordiv_int (by lia) (by rw[Int.fdiv_eq_ediv_of_nonneg i<|by lia];exact q) (.inl<|PyProof.noPylong_small<|by lia)
def VH:nu X (binaryOp .Mod)<|rI (λ_ j=>0<j) λi j=>.int<|i%j:=opI λi j _ _ _ _ _ z q=>by exact mod_int' (by lia) (by rw[Int.fmod_eq_emod_of_nonneg i<|by lia];exact q)
def sW:nu X (binaryOp .LShift)<|rI ac9 λi j=>.int<|i*2^j.toNat:=opI λ_ _ _ _ _ _ _ z q=>lshift_int_small z.1 z.2.1 z.2.2 q
def N0:nu X (binaryOp .BitAnd)<|NY λi j=>.int<|Builtin.bitAnd i j:=RO λ_ _ _ _ _ _ _ q=>and_int q
def JP:nu X (binaryOp .BitOr)<|NY λi j=>.int<|Builtin.bitOr i j:=RO λ_ _ _ _ _ _ _ q=>or_int q
def unI{g:Int->Int}
  (rule:∀(i:Int)(t:Tok)(s:Shared)(Q:Bd)(E:Bd),Q (.int (g i) s.toks) {s with toks:=s.toks+1}->wpAny (model X.prog X.w) X.A (f (.int i t)) Q E s):
  UnR X f (rU λi=>.int<|g i):=by
 intro pins s σ H x v Q I j h;obtain⟨i,rfl,q⟩:=h;obtain⟨t,rfl⟩:=j;exact rule i t s _ _ ⟨.int<|g i,H,I.tok _,⟨_,rfl⟩,q⟩
def Hs:UnR X (unaryOp .USub)<|rU λi=>.int<|-i:=unI λ_ _ _ _ _ q=>neg_int q
end
def Y4:V->V->Bool
 |.eQ,.eQ=>true|.eQ,.int _=>true|.int _,.eQ=>true|.eQ,.bl _=>true|.bl _,.eQ=>true|.eQ,.str _=>true|.str _,.eQ=>true
 |.int _,.int _=>true|.bl _,.bl _=>true|.str _,.str _=>true|.Eb _,.Eb _=>true
 |.int _,.str _=>true|.str _,.int _=>true|.bl _,.str _=>true|.str _,.bl _=>true
 |_,_=>false
def rEq:R2:=λx y H Q=>Y4 x y=true/\Q (.bl<|decide<|x=y) H
def rNe:R2:=λx y H Q=>Y4 x y=true/\Q (.bl<|!decide (x=y)) H
def JQ:decide (V.int i=V.int j)=(i==j):=by rw[q7];simp
def N1:decide (V.bl i=V.bl j)=(i==j):=by rw[q7];simp
def JR:decide (V.str i=V.str j)=(i==j):=by rw[q7];simp
def JS:decide (V.Eb i=V.Eb j)=(i.toList==j.toList):=by rw[q7];cases i;cases j;simp
section
variable{X:Cx}{a b c:Expr}{ta tb tc:TE}{pos:Pos}
def d9(I:Inv X pins σ H s)(q:Q (.bl k) H)(e:k=j):EP X pins σ Q (.bool j) s:=by subst e;exact⟨.bl k,H,I,rfl,q⟩
def eS:nu X (compareOp .Eq) rEq:=by
 intro pins s σ H x y v u Q I F z h;obtain⟨hs,q⟩:=h;cases x with
 |eQ=>
  cases F;cases y with
  |eQ=>cases z;exact PySem.EqNone.eq_none_none<|d9 I q (by simp)
  |bl j=>cases z;exact PySem.EqNone.eq_none_bool<|d9 I q (by simp)
  |int j=>obtain⟨t',rfl⟩:=z;exact PySem.EqNone.eq_none_int<|d9 I q (by simp)
  |str j=>obtain⟨t',rfl⟩:=z;exact PySem.EqNone.eq_none_str<|d9 I q (by simp)
  |_=>exact absurd (hs) rP
 |bl i=>
  cases F;cases y with
  |eQ=>cases z;exact PySem.EqNone.eq_bool_none<|d9 I q (by simp)
  |bl j=>cases z;exact eq_bool<|d9 I q N1
  |str j=>obtain⟨t',rfl⟩:=z;exact PySem.EqMixed.eq_bool_str<|d9 I q (by simp)
  |_=>exact absurd (hs) rP
 |int i=>
  obtain⟨t,rfl⟩:=F;cases y with
  |eQ=>cases z;exact PySem.EqNone.eq_int_none<|d9 I q (by simp)
  |int j=>obtain⟨t',rfl⟩:=z;exact eq_int<|d9 I q JQ
  |str j=>obtain⟨t',rfl⟩:=z;exact PySem.EqMixed.eq_int_str<|d9 I q (by simp)
  |_=>exact absurd (hs) rP
 |str i=>
  obtain⟨t,rfl⟩:=F;cases y with
  |eQ=>cases z;exact PySem.EqNone.eq_str_none<|d9 I q (by simp)
  |bl j=>cases z;exact PySem.EqMixed.eq_str_bool<|d9 I q (by simp)
  |int j=>obtain⟨t',rfl⟩:=z;exact PySem.EqMixed.eq_str_int<|d9 I q (by simp)
  |str j=>obtain⟨t',rfl⟩:=z;exact eq_str<|d9 I q JR
  |_=>exact absurd (hs) rP
 |Eb i=>
  obtain⟨t,rfl⟩:=F;cases y with
  |Eb j=>obtain⟨t',rfl⟩:=z;exact PySem.W.eq_bytes<|d9 I q JS
  |_=>exact absurd (hs) rP
 |_=>cases y<;>exact absurd (hs) rP
def Ei:nu X (compareOp .NotEq) rNe:=by
 intro pins s σ H x y v u Q I F z h;obtain⟨hs,q⟩:=h;cases x with
 |eQ=>
  cases F;cases y with
  |eQ=>cases z;exact PySem.EqNone.ne_none_none<|d9 I q (by simp)
  |bl j=>cases z;exact PySem.EqNone.ne_none_bool<|d9 I q (by simp)
  |int j=>obtain⟨t',rfl⟩:=z;exact PySem.EqNone.ne_none_int<|d9 I q (by simp)
  |str j=>obtain⟨t',rfl⟩:=z;exact PySem.EqNone.ne_none_str<|d9 I q (by simp)
  |_=>exact absurd (hs) rP
 |bl i=>
  cases F;cases y with
  |eQ=>cases z;exact PySem.EqNone.ne_bool_none<|d9 I q (by simp)
  |bl j=>cases z;exact ne_bool<|d9 I q<|congrArg not N1
  |str j=>obtain⟨t',rfl⟩:=z;exact PySem.EqMixed.ne_bool_str<|d9 I q (by simp)
  |_=>exact absurd (hs) rP
 |int i=>
  obtain⟨t,rfl⟩:=F;cases y with
  |eQ=>cases z;exact PySem.EqNone.ne_int_none<|d9 I q (by simp)
  |int j=>obtain⟨t',rfl⟩:=z;exact ne_int<|d9 I q<|congrArg not JQ
  |str j=>obtain⟨t',rfl⟩:=z;exact PySem.EqMixed.ne_int_str<|d9 I q (by simp)
  |_=>exact absurd (hs) rP
 |str i=>
  obtain⟨t,rfl⟩:=F;cases y with
  |eQ=>cases z;exact PySem.EqNone.ne_str_none<|d9 I q (by simp)
  |bl j=>cases z;exact PySem.EqMixed.ne_str_bool<|d9 I q (by simp)
  |int j=>obtain⟨t',rfl⟩:=z;exact PySem.EqMixed.ne_str_int<|d9 I q (by simp)
  |str j=>obtain⟨t',rfl⟩:=z;exact ne_str<|d9 I q<|congrArg not JR
  |_=>exact absurd (hs) rP
 |Eb i=>
  obtain⟨t,rfl⟩:=F;cases y with
  |Eb j=>obtain⟨t',rfl⟩:=z;exact PySem.W.ne_bytes<|d9 I q<|congrArg not JS
  |_=>exact absurd (hs) rP
 |_=>cases y<;>exact absurd (hs) rP
def wC:nu X (compareOp .Lt)<|NY λi j=>.bl<|decide<|i<j:=RQ λ_ _ _ _ _ _ _ q=>lt_int q
def mW:nu X (compareOp .LtE)<|NY λi j=>.bl<|decide<|i<=j:=RQ λ_ _ _ _ _ _ _ q=>le_int q
def nN:nu X (compareOp .Gt)<|NY λi j=>.bl<|decide<|j<i:=RQ λ_ _ _ _ _ _ _ q=>gt_int q
def JT:nu X (compareOp .GtE)<|NY λi j=>.bl<|decide<|j<=i:=RQ λ_ _ _ _ _ _ _ q=>ge_int q
def bg(b:Expr)(h:op≠.In:=by decide)(h2:op≠.NotIn:=by decide):behindInMarks op b=false:=Eg b h h2
def gJ{op:CmpOp}{r:R2}(j:nu X (compareOp op) r)(z:PE X a ta)(F:PE X b tb)(J:behindInMarks op b=false):PE X (.Compare a [op] [b] pos)<|Y3 r ta tb:=by intro pins s σ H Q I h;exact wpAny_Compare1 (VF z F I h λv u M x y H2 S U W q=>j pins M σ H2 x y v u Q S U W q) J
def N2(t:TE):TT:=λσ H Q=>t σ H λx H'=>∃k,x=.bl k/\Q k H'
def aV(j:nu X (compareOp op) r)(F:PE X a ta)(J:PE X b tb)(M:behindInMarks op b=false):PT X (.Compare a [op] [b] pos)<|N2<|Y3 r ta tb:=by intro pins s σ H Q I h;refine wpAny_isTrue_Compare1 (eF (F pins s σ H _ I h) λv S⟨x,H1,U,W,Y⟩=>eF (J pins S σ H1 _ U Y) λu Z⟨y,H2,I2,r2,q2⟩=>eF (j pins Z σ H2 x y v u _ I2 W r2 q2) λc s3⟨z,H3,I3,r3,k,e,q3⟩=>?_) M;subst e;cases r3;exact F6 ⟨H3,I3,q3⟩
def Ht(r r':R2)(ta tb tc:TE):TE:=λσ H Q=>ta σ H λx H1=>tb σ H1 λy H2=>r x y H2 λz H3=>∃k,z=.bl k/\
 (if k=true then tc σ H3 λj F=>r' y j F Q else Q (.bl false) H3)
def rC(U:nu X (compareOp op) r)(F:nu X (compareOp j) r')(W:PE X a ta)(Y:PE X b tb)(Z:PE X c tc)
  (hm:lastMarks [op,j] [b,c]=false:=by with_unfolding_all rfl):PE X (.Compare a [op,j] [b,c] pos)<|Ht r r' ta tb tc:=by
 intro pins s σ H Q I h;refine Compare_chain (eF (W pins s σ H _ I h) λv s1⟨x,H1,I1,r1,q1⟩=>chain_link<|eF (Y pins s1 σ H1 _ I1 q1) λu s2⟨y,H2,I2,J,q2⟩=>eF (U pins s2 σ H2 x y v u _ I2 r1 J q2) λd s3⟨z,H3,M,r3,k,e,S⟩=>?_) hm;subst e;cases r3;refine F6 ?_;cases k with
 |false=>exact ite_ff ⟨.bl false,H3,M,rfl,S⟩
 |true=>exact ite_tt<|chain_last<|eF (Z pins s3 σ H3 _ M S) λw' s4⟨z',H4,I4,r4,q4⟩=>F pins s4 σ H4 y z' u w' Q I4 J r4 q4
def Ej(U:nu X (compareOp op) r)(F:nu X (compareOp j) r')(W:PE X a ta)(Y:PE X b tb)(Z:PE X c tc)
  (hm:lastMarks [op,j] [b,c]=false:=by with_unfolding_all rfl):PT X (.Compare a [op,j] [b,c] pos)<|N2<|Ht r r' ta tb tc:=by
 intro pins s σ H Q I h;refine isTrue_chain (eF (W pins s σ H _ I h) λv s1⟨x,H1,I1,r1,q1⟩=>test_link<|eF (Y pins s1 σ H1 _ I1 q1) λu s2⟨y,H2,I2,J,q2⟩=>eF (U pins s2 σ H2 x y v u _ I2 r1 J q2) λd s3⟨z,H3,M,r3,k,e,S⟩=>?_) hm;subst e;cases r3;refine F6 ?_;cases k with
 |false=>obtain⟨k',e',q'⟩:=S;cases e';exact ite_ff ⟨H3,M,q'⟩
 |true=>refine ite_tt<|test_last<|eF (Z pins s3 σ H3 _ M S) λw' s4⟨z',H4,I4,r4,q4⟩=>eF (F pins s4 σ H4 y z' u w' _ I4 J r4 q4) λd' s5⟨z2,H5,I5,r5,k2,e2,q5⟩=>?_;subst e2;cases r5;exact F6 ⟨H5,I5,q5⟩
def sX:(sizeLine:Nat)<2^63:=by rw[Pr];decide
def Hu:nu X (binaryOp .Add) λx y H Q=>B_ λi j=>x=.str i/\y=.str j/\i.length+j.length<=sizeLine/\Q (.str<|i++j) H:=by intro pins s σ H x y v u Q I z F h;obtain⟨i,j,rfl,rfl,hz,q⟩:=h;obtain⟨t,rfl⟩:=z;obtain⟨t',rfl⟩:=F;exact add_str (λt' tk=>⟨.str<|i++j,H,I.tok _,⟨_,rfl⟩,q⟩) hz
def vals1(r:Vals [x] us):∃u,us=[u]/\RelV x u:=by
 cases r with
 |cons j z=>cases z;exact⟨_,rfl,j⟩
def vals2(r:Vals [x,y] us):B_ λu j=>us=[u,j]/\RelV x u/\RelV y j:=by
 cases r with
 |cons z F=>
  cases F with
  |cons I J=>cases J;exact⟨_,_,rfl,z,I⟩
def N3:fb X (.builtin "abs") λxs H Q=>∃i,xs=[.int i]/\Q (.int<|if i<0 then-i else i) H:=by intro pins s σ H xs us Q I r h;obtain⟨i,rfl,q⟩:=h;obtain⟨u,rfl,t,rfl⟩:=vals1 r;exact call_abs_int λu tk=>⟨.int (if i<0 then-i else i),H,I.tok _,⟨_,rfl⟩,q⟩
def Lr(F:X.calm=true):fb X (.builtin "max") λxs H Q=>B_ λi j=>xs=[.int i,.int j]/\Q (.int<|if j>i then j else i) H:=by
 intro pins s σ H xs us Q I r h;obtain⟨i,j,rfl,q⟩:=h;obtain⟨u,J,rfl,⟨t,rfl⟩,⟨t',rfl⟩⟩:=vals2 r;refine max_two_ints (I.ok.hd F) λh' tk k=>⟨_,H,I.kept k,?_,q⟩;by_cases z:j>i
 .rw[dt z,dt z];exact⟨_,rfl⟩
 .rw[c0 z,c0 z];exact⟨_,rfl⟩
def Ls(F:X.calm=true):fb X (.builtin "min") λxs H Q=>B_ λi j=>xs=[.int i,.int j]/\Q (.int<|if j<i then j else i) H:=by
 intro pins s σ H xs us Q I r h;obtain⟨i,j,rfl,q⟩:=h;obtain⟨u,J,rfl,⟨t,rfl⟩,⟨t',rfl⟩⟩:=vals2 r;refine min_two_ints (I.ok.hd F) λh' tk k=>⟨_,H,I.kept k,?_,q⟩;by_cases z:j<i
 .rw[dt z,dt z];exact⟨_,rfl⟩
 .rw[c0 z,c0 z];exact⟨_,rfl⟩
def N4:fb X (.builtin "ord") λxs H Q=>∃x,xs=[.str x]/\x.length=1/\Q (.int (x.cps.getD 0 0:Nat)) H:=by intro pins s σ H xs us Q I r h;obtain⟨x,rfl,hz,q⟩:=h;obtain⟨u,rfl,t,rfl⟩:=vals1 r;exact ord_of_one hz ⟨.int _,H,I.tok _,⟨_,rfl⟩,q⟩
end
structure Lu(h:Heap)(x dx C:Addr)(mA:Be):Prop where
 obj:h.get? x=some (PySem.W.instObj C dx)
 ns:h.Ns1 dx mA
 ne:dx≠x
def Lv{h:Heap}(n:h.Ns1 dx mA):∃F,h.get? dx=some F/\∀name,PySem.W.lookIn name F=some (mA name):=by
 obtain⟨o,es,ep,I,hd,hk,_,J⟩:=n;refine⟨o,I,λname=>?_⟩;have e:=J name;unfold nsFind findBy at e;rw[<-Array.find?_toList]at e;unfold PySem.W.lookIn;rw[hd];dsimp only;split
 .rename_i y q;rw[q]at e;exact congrArg some e
 .rename_i q;rw[q]at e;have a:es.toList.any (·.refKey)=false:=by rw[Zb];intro y M;obtain⟨z,t,j⟩:=hk y<|Array.mem_toList_iff.mp M;simp[DictEntry.refKey,j]
  have S:¬es.toList.any (·.refKey)=true:=by rw[a];exact rP
  rw[c0 S];exact congrArg some e
def Lu.look(I:Lu h x dx C mA):∃j,PySem.W.InstAt h x (PySem.W.instObj C dx) C (some j)/\∀name,PySem.W.lookIn name j=some (mA name):=
 let⟨j,z,F⟩:=Lv I.ns
 ⟨j,⟨I.obj,rfl,rfl,z⟩,F⟩
section
variable{prog:Program}{w:World}{A:Around}{E:Bd}{s:Shared}{K:cn}{x dx C f:Addr}{mA:Be}{name:Str}{v:Value}
def get_map(X:K.In s.heap)(I:Lu s.heap x dx C mA)(F:PySem.W.plainGet K C name=true)(M:PySem.W.hasDictIn K C=true)
  (S:PySem.W.findIn K (.ref C) name=some none)(U:mA name=some v)(z:PySem.W.handedIn v=true)(h:Q v {s with toks:=s.toks+1}):
  wpAny (model prog w) A (getAttr (.ref x) name j) Q E s:=by
 obtain⟨Z,J,Y⟩:=I.look;exact PySem.W.get_value X J (PySem.W.plainGet_of F).1 (PySem.W.findObj_own M S rfl<|by rw[Y,U]) z h
def RR(X:K.In s.heap)(I:Lu s.heap x dx C mA)
  (hs:PySem.W.findIn K (.ref C) "__setattr__"=some (some (.builtin "object.__setattr__")))(Y:PySem.W.plainOver K C=true)(Z:PySem.W.takerIn K C name=some none)(hh:PySem.W.hasDictIn K C=true)
  (hw:PySem.Within mA ns)(hsz:ns.length<=sizeLine)
  (h:∀h',Lu h' x dx C (λy=>if y=name then some v else mA y)->Heap.SameBut dx s.heap h' ->Q () {s with heap:=h',toks:=s.toks+2}):
  wpAny (model prog w) A (setAttr (.ref x) name v) Q E s:=by
 obtain⟨od,J,hl⟩:=I.look;refine PySem.W.set_plain X J hs<|PySem.W.osa_open X J Y Z λb=>?_;obtain⟨cd,hc,F⟩:=PySem.W.any_some hh;have hx:=I.obj;refine a0<|er<|a0<|a0<|wpAny_loadPart hx<|a0<|PySem.W.Looks.here (PySem.W.looks_clsIn X hc) ?_;rw[F];refine er<|a0<|er<|a0 ?_;refine wpAny_nsSet1 I.ns λh' j z=>?_;obtain⟨oD,esD,epD,M,S,U⟩:=j.count<|PySem.Within.cons name v hw;refine a0<|wpAny_lookBehind M (by rw[S];exact pastItsLine_dict<|lp U<|by rw[kA];lia) ?_;exact er<|h _ ⟨(z.2 _<|iq I.ne).trans I.obj,j,I.ne⟩ z
def N5(X:K.In s.heap)(z:PySem.W.makesIn K C=true)
  (hi:PySem.W.findIn K (.ref C) "__init__"=some (some (.ref f)))(F:PySem.W.typeIn K (.ref f)=some (.type "function"))
  (h:codeAny (model prog w) (A.under (.builtin "type.__call__" ⟨.ref C::vs,j⟩)) (.call (.ref f) ⟨.ref (s.heap.objs.size+1)::vs,j⟩) (PySem.W.InitBack (s.heap.objs.size+1) R)
   {s with heap:=(s.heap.push PySem.W.emptyDict).push<|PySem.W.instObj C s.heap.objs.size}):
  codeAny (model prog w) A (.call (.ref C) ⟨vs,j⟩) R s:=by
 obtain⟨I,g,d,t,os⟩:=s;exact PySem.W.make_core (PySem.W.makes_of X z) (PySem.W.looks_findIn X hi) (λself=>PySem.W.bind_fn X self F) (.inl rfl) h
end
def c8(f:Str)(v:V):List (Str×V)->List (Str×V)
 |[]=>[(f,v)]
 |(g,x)::r=>if g=f then(g,v)::r else(g,x)::c8 f v r
theorem uw(f g:Str)(v:V):∀fs:List<|Str×V,(c8 f v fs).lookup g=if g=f then some v else fs.lookup g
 |[]=>by
  show List.lookup g [(f,v)]=_;by_cases h:g=f
  .have j:=LM.mpr h;simp only[List.lookup,j,dt h]
  .have j:(g==f)=false:=Mh.mpr h;simp only[List.lookup,j,c0 h]
 |(k,x)::r=>by
  have z:=uw f g v r;rw[show c8 f v ((k,x)::r)=(if k=f then(k,v)::r else(k,x)::c8 f v r)from rfl];by_cases hk:k=f
  .rw[dt hk];by_cases h:g=k
   .have j:(g==k)=true:=LM.mpr h;simp only[List.lookup,j,dt<|h.trans hk]
   .have j:(g==k)=false:=Mh.mpr h;simp only[List.lookup,j,c0 λe:g=f=>h<|e.trans hk.symm]
  .rw[c0 hk];by_cases h:g=k
   .have j:(g==k)=true:=LM.mpr h;simp only[List.lookup,j,c0 λe:g=f=>hk<|h.symm.trans e]
   .have j:(g==k)=false:=Mh.mpr h;simp only[List.lookup,j];exact z
theorem sY(f:Str)(v:V):∀fs:List<|Str×V,f∈(c8 f v fs).map (·.1)/\∀g,g∈fs.map (·.1)->g∈(c8 f v fs).map (·.1)
 |[]=>⟨by simp[c8],λg h=>by simp at h⟩
 |(k,x)::r=>by
  obtain⟨i1,j⟩:=sY f v r;rw[show c8 f v ((k,x)::r)=(if k=f then(k,v)::r else(k,x)::c8 f v r)from rfl];by_cases hk:k=f
  .rw[dt hk];subst hk;exact⟨by simp,λg h=>by simpa using h⟩
  .rw[c0 hk];refine⟨?_,λg h=>?_⟩
   .rw[ip];exact kB _ i1
   .rw[ip]at h|-;rcases eH.mp h with e|e
    .exact eH.mpr (.inl e)
    .exact kB _<|j g e
theorem ux(f:Str)(v:V):∀fs:List<|Str×V,(c8 f v fs).length<=fs.length+1
 |[]=>by simp[c8]
 |(k,x)::r=>by
  have j:=ux f v r;rw[show c8 f v ((k,x)::r)=(if k=f then(k,v)::r else(k,x)::c8 f v r)from rfl];by_cases hk:k=f
  .rw[dt hk,kA,kA];lia
  .rw[c0 hk,kA,kA];lia
def sT.some_of(r:sT (some v) o):∃u,o=some u/\RelV v u:=by
 cases o with
 |none=>exact(r).elim
 |some u=>exact⟨u,rfl,r⟩
def Lw(r:RelV v u):PySem.W.handedIn u=true:=by
 cases v with
 |eQ=>cases(r);rfl
 |bl b=>cases(r);rfl
 |int i=>obtain⟨t,e⟩:=(r);cases e;rfl
 |str x=>obtain⟨t,e⟩:=(r);cases e;rfl
 |Eb b=>obtain⟨t,e⟩:=(r);cases e;rfl
 |YF b=>obtain⟨t,e⟩:=(r);cases e;rfl
 |ref a=>cases(r);rfl
 |ty n=>cases(r);rfl
section
variable{P:Program}{w:World}{H H':Hp}{h h':Heap}{a C dx:Addr}{fs fs':List<|Str×V}
def JU(c7:mV P w H h)(e:H a=some (.ins C dx fs)):∃mA,Lu h a dx C mA/\(∀f,sT (fs.lookup f)<|mA f)/\PySem.Within mA (fs.map (·.1))/\fs.length<=1000/\H dx=some (.own a):=by obtain⟨d,z,ne,j,mA,n,r,q⟩:=(c7 a _ e);exact⟨mA,⟨j,n,ne⟩,r,q,z,d⟩
end
structure Nf(K:cn)(C:Addr):Prop where
 pg:PySem.W.plainGet K C Str.empty=true
 hd:PySem.W.hasDictIn K C=true
 po:PySem.W.plainOver K C=true
 sa:PySem.W.findIn K (.ref C) "__setattr__"=some (some (.builtin "object.__setattr__"))
def Nf.get{K:cn}(c:Nf K C)(f:Str):PySem.W.plainGet K C f=true:=c.pg
def eD(K:cn)(C:Addr)(f:Str):Prop:=PySem.W.findIn K (.ref C) f=some none
def eD.Y5{K:cn}(n:eD K C f):PySem.W.takerIn K C f=some none:=by unfold PySem.W.takerIn;rw[n];rfl
section
variable{X:Cx}{pins:List<|Addr×Obj}{σ:St}{H:Hp}{s:Shared}{a C dx:Addr}{fs:List<|Str×V}{f:Str}{v:V}{A:Around}{E:Bd}
def Hv(I:Inv X pins σ H s)(e:H a=some (.ins C dx fs))(c:Nf X.K C)(n:eD X.K C f)(l:fs.lookup f=some v)
  (h:∀u s',Inv X pins σ H s' ->RelV v u->Q u s'):wpAny (model X.prog X.w) A (getAttr (.ref a) f b) Q E s:=by
 obtain⟨mA,O,r,_,_,_⟩:=JU I.c7 e;obtain⟨u,j,ru⟩:=sT.some_of (by rw[<-l];exact r f);exact get_map I.JL O (c.get f) c.hd n j (Lw ru)<|h u _ (I.tok _) ru
def Hw(I:Inv X pins σ H s)(e:H a=some (.ins C dx fs))(c:Nf X.K C)(n:eD X.K C f)(Y:fs.length<1000)(J:RelV y u)
  (h:∀s',Inv X pins σ (upd H a (.ins C dx<|c8 f y fs)) s' ->Q () s'):wpAny (model X.prog X.w) A (setAttr (.ref a) f u) Q E s:=by
 obtain⟨mA,O,r,wi,_,F⟩:=JU I.c7 e;have hz:(fs.map (·.1)).length<=sizeLine:=by rw[ek,Pr];lia
 refine RR I.JL O c.sa c.po n.Y5 c.hd wi hz λh' j M=>h _ ?_;have hd:∃o,h'.get? dx=some o:=let⟨o,_,_,S,_⟩:=j.ns;⟨o,S⟩;refine I.write (by rw[e];exact True.intro) (.inr F) (λb q U z=>(M.2 b U).trans z) hd ?_;refine⟨by rw[aL O.ne];exact F,?_,O.ne,j.obj,_,j.ns,λg=>?_,λg W=>?_⟩
 .have:=ux f y fs;lia
 .show sT ((c8 f y fs).lookup g) (if g=f then some u else mA g);rw[uw];by_cases q:g=f
  .rw[dt q,dt q];exact J
  .rw[c0 q,c0 q];exact r g
 .by_cases q:g=f
  .rw[q];exact(sY f y fs).1
  .refine(sY f y fs).2 g<|wi g λz=>W ?_;show(if g=f then some u else mA g)=none;rw[c0 q];exact z
def Inv.made(I:Inv X pins σ H s):Inv X pins σ (upd (upd H s.heap.objs.size (.own<|s.heap.objs.size+1)) (s.heap.objs.size+1) (.ins C s.heap.objs.size []))
  {s with heap:=(s.heap.push PySem.W.emptyDict).push<|PySem.W.instObj C s.heap.objs.size}:=by
 have j:(s.heap.push PySem.W.emptyDict).get? s.heap.objs.size=some PySem.W.emptyDict:=m8 s.heap rfl;have z:((s.heap.push PySem.W.emptyDict).push<|PySem.W.instObj C s.heap.objs.size).get? (s.heap.objs.size+1)=some (PySem.W.instObj C s.heap.objs.size):=by have:=m8 (s.heap.push PySem.W.emptyDict) (o:=PySem.W.instObj C s.heap.objs.size) rfl;rwa[vr]at this
 have F:(s.heap.push PySem.W.emptyDict).Ns s.heap.objs.size λ_=>none:=⟨PySem.W.emptyDict,#[],_,j,rfl,(λe J=>absurd J<|by simp),λ_=>rfl⟩;have M:=I.laid (a:=s.heap.objs.size) (o:=.own<|s.heap.objs.size+1) (h':=s.heap.push PySem.W.emptyDict) (t':=s.toks) (λb u q=>et _ q) (ez _) ⟨_,j⟩;refine M.laid (a:=s.heap.objs.size+1) (o:=.ins C s.heap.objs.size []) (t':=s.toks) (λb u q=>et _ q) (SJ<|vr _ _) ?_;have ne:s.heap.objs.size≠s.heap.objs.size+1:=nP<|QY _;refine⟨by rw[aL ne,ah],ti _,ne,z,λ_=>none,(Heap.Ns1.of_empty F).at λo q=>et _ q,λ_=>True.intro,λy S=>absurd rfl S⟩
def RS(z:attributeBase e f env (eval e env)=eval e env)
  (h:wpAny (model prog w) A (eval e env) (λo j=>wpAny (model prog w) A (getAttr o f true) Q E j) E s):wpAny (model prog w) A (eval (.Attribute e f pos) env) Q E s:=
 Attribute_any_ h (by rw[arm_eval_Attribute,z])
end
def VJ(K:cn)(ta:TE)(f:Str):TE:=λσ H Q=>ta σ H λx H1=>E_ λa C dx fs v=>x=.ref a/\H1 a=some (.ins C dx fs)/\Nf K C/\eD K C f/\fs.lookup f=some v/\Q v H1
def VL(K:cn)(ta tv:TE)(f:Str):TS:=λD σ H=>tv σ H λy H1=>ta σ H1 λx H2=>D_ λa C dx fs=>x=.ref a/\H2 a=some (.ins C dx fs)/\Nf K C/\eD K C f/\fs.length<1000/\
 D.nx σ (upd H2 a (.ins C dx<|c8 f y fs))
section
variable{X:Cx}{o e value:Expr}{f:Str}{pos pos' jH:Pos}{ta tv:TE}
def VM(j:PE X e ta)(z:attributeBase e f X.env (eval e X.env)=eval e X.env):PE X (.Attribute e f pos)<|VJ X.K ta f:=by intro pins s σ H Q I h;refine RS z<|eF (j pins s σ H _ I h) λu U⟨x,H1,F,J,a,C,dx,fs,v,ex,M,c,n,l,q⟩=>?_;subst ex;obtain rfl:u=Value.ref a:=J;exact Hv F M c n l λW Y S ru=>⟨v,H1,S,ru,q⟩
def VN(j:PE X o ta)(z:PE X value tv)(hs:swapsWith value (some (.Attribute o f pos')) pos.line X.env=pure false):PS X (.Assign [.Attribute o f pos'] value pos)<|VL X.K ta tv f:=by intro pins s σ H D I h;refine plainObj_wpAny_Assign_Attribute (eF (z pins s σ H _ I h) λu F⟨y,H1,J,M,q⟩=>eF (j pins F σ H1 _ J q) λS s2⟨x,H2,U,W,a,C,dx,fs,ex,Y,c,n,l,Z⟩=>?_) hs;subst ex;obtain rfl:S=Value.ref a:=W;exact Hw U Y c n l M λs3 I3=>⟨σ,_,I3,Z⟩
end
structure eK(k:Nat)(A:Around):Prop where
 hd:A.handled=none
 dp:A.depth+3*k+5<recursionLimit
 un:A.units+16*k+200<cLine
def eK.mono(r:eK k A)(h:j<=k):eK j A:=⟨r.hd,by have:=r.dp;lia,by have:=r.un;lia⟩
def eK.deeper(r:eK (k+1) A)(env:Env):eK k<|A.deeper env:=⟨r.hd,by have:=r.dp;show A.depth+1+3*k+5<_;lia,by have:=r.un;show A.units+3+16*k+200<_;lia⟩
def eK.in1(r:eK (k+1) A):eK k A.in1:=⟨r.hd,by have:=r.dp;show A.depth+3*k+5<_;lia,by have:=r.un;show A.units+1+16*k+200<_;lia⟩
def Hx{A:Around}:(A.under (.builtin "type.__call__" ⟨.ref C::us,j⟩)).depth=A.depth+1:=by first|rfl|simp[Around.under,Code.weight,Code.isCreation,Code.isGuard,Code.isCaller,Code.frames,Code.isFrame,guardIds]
def Hy{A:Around}:(A.under (.builtin "type.__call__" ⟨.ref C::us,j⟩)).units=A.units+1:=by first|rfl|simp[Around.under,Code.cUnits,Code.frames,Code.isFrame]
def eK.make(r:eK (k+1) A)(C:Addr)(us:Bb)(j:List<|Str×Value):eK k<|A.under (.builtin "type.__call__" ⟨.ref C::us,j⟩):=⟨r.hd,by have:=r.dp;rw[Hx];lia,by have:=r.un;rw[Hy];lia⟩
def eK.depth(r:eK k A):A.depth<recursionLimit:=by have:=r.dp;lia
def eK.units(r:eK k A):A.units+64<cLine:=by have:=r.un;lia
def eK.VO(r:eK k A):A.units<cLine:=by have:=r.un;lia
def Ek:TA:=λ_ H Q=>Q [] H
def wD(ta:TE)(tr:TA):TA:=λσ H Q=>ta σ H λx H1=>tr σ H1 λxs H2=>Q (x::xs) H2
section
variable{X:Cx}{e:Expr}{es:List Expr}{te:TE}{t:TA}{pos:Pos}
def ag:PA X [] Ek:=λ_ _ _ _ H Q I h=>Calls.spliced_nil ⟨[],H,I,.nil,h⟩
def ab(j:PE X e te)(z:PA X es t)(hs:starEach (e::es) X.env=(false,eval e X.env)::starEach es X.env:=by rfl):PA X (e::es)<|wD te t:=by intro pos pins s σ H Q I h;rw[hs];refine Calls.spliced_cons<|eF (j pins s σ H _ I h) λu F⟨x,H1,J,M,S⟩=>?_;exact eF (z pos pins F σ H1 _ J S) λus Z⟨xs,H2,U,W,Y⟩=>⟨x::xs,H2,U,.cons M W,Y⟩
def Y6(t:TA):TE:=λσ H Q=>t σ H λxs H1=>xs.length<=sizeLine/\∀p,H1 p=none->Q (.ref p) (upd H1 p (.tup xs))
def Y7(t:TA):TE:=λσ H Q=>t σ H λxs H1=>xs.length<=sizeLine/\∀p,H1 p=none->Q (.ref p) (upd H1 p (.lst xs))
def jb(h:PA X es t):PE X (.Tuple es x1 pos)<|Y6 t:=by intro pins s σ H Q I J;refine wpAny_Tuple_spliced<|eF (h pos pins s σ H _ I J) λus j⟨xs,H1,F,r,z,q⟩=>⟨by rw[<-r.length];exact z,?_⟩;have M:=F.c7.fresh<|ez _;refine⟨.ref j.heap.objs.size,upd H1 j.heap.objs.size (.tup xs),F.laid (λb u e=>et _ e) (ez _) ?_,rfl,q _ M⟩;exact⟨z,us,r,⟨_,m8 _ rfl,rfl,_,rfl⟩⟩
def aO(h:PA X es t):PE X (.List es pos)<|Y7 t:=by intro pins s σ H Q I J;refine wpAny_List_spliced<|eF (h pos pins s σ H _ I J) λus j⟨xs,H1,F,r,z,q⟩=>⟨by rw[<-r.length];exact z,?_⟩;have M:=F.c7.fresh<|ez _;refine⟨.ref j.heap.objs.size,upd H1 j.heap.objs.size (.lst xs),F.laid (λb u e=>et _ e) (ez _) ?_,rfl,q _ M⟩;exact⟨z,us,0,r,m8 _ rfl⟩
end
abbrev Sp:=List V->Hp->VK->XK->Prop
abbrev N6:=List Env->Hp->Shared->XK->Bd
structure BI(P:Program)(w:World)(K:cn)(mg:Be)(base:Heap)(A:Around)(outer:List Env)(s:Shared)(H:Hp):Prop where
 frames:A.frames=some outer
 mod:Mod K mg base
 bs:∀b o,base.get? b=some o->s.heap.get? b=some o/\H b=none
 Q0:base.objs.size<=s.heap.objs.size
 uY:s.heap.FunFrames base outer
 Vu:∀b∈Ln outer,H b=none
 c7:mV P w H s.heap
 bare:AllBare s.gens
def CE(outer:List Env)(P:Program)(w:World)(H:Hp)(s:Shared)(Q:VK)(u:Value)(s':Shared):Prop:=B_ λv H'=>s'.os=s.os/\AllBare s'.gens/\Un (Ln outer) [] H H' s.heap s'.heap/\mV P w H' s'.heap/\RelV v u/\Q v H'
def CR(CX:N6)(outer:List Env)(P:Program)(w:World)(H:Hp)(s:Shared)(Q:VK)(E:XK)(r:Result)(s':Shared):Prop:=
 match r with
 |.ok (.ret u)=>CE outer P w H s Q u s'
 |.ok _=>False
 |.error e=>CX outer H s E e s'
structure nO(P:Program)(w:World)(K:cn)(mg:Be)(base:Heap)(CX:N6)(k:Nat)(f:Addr)(fd:FuncData)(ps:Ba)(sp:Sp):Prop where
 len:∀vs H Q E,sp vs H Q E->vs.length=ps.length
 run:∀(A:Around)(outer:List Env)(s:Shared)(H:Hp)(args:Args)(us:Bb)(vs:List V)(Q:VK)(E:XK),eK k A->BI P w K mg base A outer s H->BindsTo s fd args (ps.zip us)->Vals vs us->sp vs H Q E->
  codeAny (model P w) A (.call (.ref f) args) (CR CX outer P w H s Q E) s
def BI.make{P:Program}{K:cn}{base:Heap}{outer:List Env}{H:Hp}(e:BI P w K mg base A outer s H)(C:Addr)(us:Bb)(j:List<|Str×Value):
  BI P w K mg base (A.under (.builtin "type.__call__" ⟨.ref C::us,j⟩)) outer s H:=⟨by first|exact e.frames|(simpa[Around.under,Code.envs,Code.isFrame,pushEnvs]using e.frames),e.mod,e.bs,e.Q0,e.uY,e.Vu,e.c7,e.bare⟩
section
variable{X:Cx}{pins:List<|Addr×Obj}{σ:St}{H:Hp}{s s':Shared}
def Inv.VP(I:Inv X pins σ H s):BI X.prog X.w X.K X.mg X.base X.A X.stack s H:=⟨I.ok.frames,I.ok.mod,I.bs,lp I.ok.Q0 I.sz,I.stack,I.BF,I.c7,I.bare⟩
def Inv.after(I:Inv X pins σ H s)(h:CE X.stack X.prog X.w H s Q u s'):EP X pins σ Q u s':=by obtain⟨v,H',os,bare,un,c7,r,q⟩:=h;obtain⟨F,g,d,t,j⟩:=s';obtain rfl:j=s.os:=os;exact⟨v,H',I.call un c7 bare λb z=>absurd z<|by simp,r,q⟩
end
def JV(AD:List V)(E:XK)(sp:Sp)(t:TA):TE:=λσ H Q=>t σ H λvs H1=>sp (vs++AD) H1 Q E
def AE(C:Addr)(sp:Sp)(AD:List V)(E:XK)(t:TA):TE:=λσ H Q=>t σ H λvs H1=>∀x dx,H1 x=none->H1 dx=none->dx≠x->
 sp (.ref x::(vs++AD)) (upd (upd H1 dx (.own x)) x (.ins C dx [])) (λv H2=>v=.eQ/\Q (.ref x) H2) E
def Binds(K:cn)(fd:FuncData)(ps:Ba)(ds:Bb):Prop:=∀(s:Shared)(us:Bb),K.In s.heap->(us++ds).length=ps.length->BindsTo s fd ⟨us,[]⟩ (ps.zip<|us++ds)
def Binds.all{K:cn}(h:∀us:Bb,us.length=ps.length->bindArgs fd ⟨us,[]⟩=pure (ps.zip us)):Binds K fd ps []:=λs us _ j=>by rw[B5]at j|-;exact .of_eq<|h us j
def Passes(CX:N6)(X:Cx)(E:XK):Prop:=∀(pins:List<|Addr×Obj)(σ:St)(H:Hp)(s:Shared)(e:Value)(s':Shared),Inv X pins σ H s->CX X.stack H s E e s' ->X.xe e s'
section
variable{X:Cx}{CX:N6}{k:Nat}{f C:Addr}{fd:FuncData}{ps:Ba}{sp:Sp}{AD:List V}{ds:Bb}{E:XK}{x m:Str}{p pos apos:Pos}{e o:Expr}{es:List Expr}{ta:TE}{t:TA}
def N7(F:nO X.prog X.w X.K X.mg X.base CX k f fd ps sp)(J:eK k X.A)(M:Binds X.K fd ps ds)(hd:Vals AD ds)(S:Passes CX X E)
  (I:Inv X pins σ H s)(r:Vals vs us)(h:sp (vs++AD) H Q E):wpAny (model X.prog X.w) X.A (call (.ref f) us) (EP X pins σ Q) X.xe s:=by
 have z:=r.append hd;have U:(us++ds).length=ps.length:=by rw[<-z.length];exact F.len _ _ _ _ h
 refine wpAny_call<|Kg (F.run X.A X.stack s H ⟨us,[]⟩ (us++ds) (vs++AD) Q E J I.VP (M s us I.JL U) z h) λr s' j=>?_;cases r with
 |error e=>exact S pins σ H s e s' I j
 |ok W=>
  cases W with
  |ret u=>exact I.after j
  |next=>exact False.elim j
  |brk=>exact False.elim j
  |cont=>exact False.elim j
def RT(F:nO X.prog X.w X.K X.mg X.base CX k f fd ps sp)(M:eK k X.A)(S:Gl X x)(U:X.mg x=some (.ref f))(hk:PySem.W.keepIn X.K (.ref f)=true)(Y:Binds X.K fd ps ds)(hd:Vals AD ds)(Z:Passes CX X E)
  (ha:PA X (e::es) t)(j:(x==("__debug__":Str))=false)(he:starEach (e::es) X.env=(false,eval e X.env)::starEach es X.env)(z:(backTo pos<|starEach es X.env).any (·.1)=false):
  PE X (.Call (.Name x p) (e::es) [] pos) (JV AD E sp t):=by
 intro pins s σ H Q I h;refine K0<|vw I S U ?_ j;refine apI I.ok.mod.RF hk (eF (ha pos pins s σ H _ I h) λus s1⟨vs,H1,J,r,q⟩=>⟨J.JL,?_⟩) he z;exact N7 F M Y hd Z J r q
structure Mk(K:cn)(C f:Addr):Prop where
 makes:PySem.W.makesIn K C=true
 init:PySem.W.findIn K (.ref C) "__init__"=some (some (.ref f))
 fn:PySem.W.isFn K (.ref f)=true
 kp:PySem.W.keepIn K (.ref C)=true
def El(M:Mk X.K C f)(F:nO X.prog X.w X.K X.mg X.base CX k f fd ps sp)(U:eK (k+1) X.A)(W:Binds X.K fd ps ds)(hd:Vals AD ds)
  (Y:Passes CX X E)(I:Inv X pins σ H s)(r:Vals vs us)
  (h:∀x dx,H x=none->H dx=none->dx≠x->sp (.ref x::(vs++AD)) (upd (upd H dx (.own x)) x (.ins C dx [])) (λv H2=>v=.eQ/\Q (.ref x) H2) E):
  wpAny (model X.prog X.w) X.A (call (.ref C) us) (EP X pins σ Q) X.xe s:=by
 have J:=h (s.heap.objs.size+1) s.heap.objs.size (I.c7.fresh<|Rb _) (I.c7.fresh<|ez _)<|nP<|QY _;have z:=Inv.made (C:=C) I;have S:Vals (V.ref (s.heap.objs.size+1)::(vs++AD))<|Value.ref (s.heap.objs.size+1)::(us++ds):=.cons rfl<|r.append hd;have Z:(Value.ref (s.heap.objs.size+1)::us++ds).length=ps.length:=by have e:=S.length;rw[F.len _ _ _ _ J]at e;exact e.symm
 refine wpAny_call (N5 I.JL M.makes M.init (LM.mp M.fn) (Kg (F.run _ X.stack _ _ ⟨Value.ref (s.heap.objs.size+1)::us,[]⟩ (Value.ref (s.heap.objs.size+1)::(us++ds)) _ _ E (U.make C us [])
  (z.VP.make C us []) (W _ (Value.ref (s.heap.objs.size+1)::us) z.JL Z) S J) λr s' j=>?_))
 cases r with
 |error e=>exact Y pins σ _ _ e s' z j
 |ok fl=>
  cases fl with
  |ret u=>obtain⟨v,H',I3,rv,ev,q3⟩:=z.after j;subst ev;exact⟨rv,⟨V.ref<|s.heap.objs.size+1,H',I3,rfl,q3⟩⟩
  |next=>exact False.elim j
  |brk=>exact False.elim j
  |cont=>exact False.elim j
def RU(M:Mk X.K C f)(F:nO X.prog X.w X.K X.mg X.base CX k f fd ps sp)(S:eK (k+1) X.A)(U:Gl X x)(Y:X.mg x=some (.ref C))(Z:Binds X.K fd ps ds)(hd:Vals AD ds)(hx:Passes CX X E)
  (ha:PA X (e::es) t)(j:(x==("__debug__":Str))=false)(he:starEach (e::es) X.env=(false,eval e X.env)::starEach es X.env)(z:(backTo pos<|starEach es X.env).any (·.1)=false):
  PE X (.Call (.Name x p) (e::es) [] pos) (AE C sp AD E t):=by
 intro pins s σ H Q I h;refine K0<|vw I U Y ?_ j;refine apI I.ok.mod.RF M.kp (eF (ha pos pins s σ H _ I h) λus s1⟨vs,H1,J,r,q⟩=>⟨J.JL,?_⟩) he z;exact El M F S Z hd hx J r q
def N8(M:Mk X.K C f)(F:nO X.prog X.w X.K X.mg X.base CX k f fd ps sp)(z:eK (k+1) X.A)(J:Gl X x)(S:X.mg x=some (.ref C))(U:Binds X.K fd ps ds)(hd:Vals AD ds)(Y:Passes CX X E)
  (j:(x==("__debug__":Str))=false):PE X (.Call (.Name x p) [] [] pos)<|AE C sp AD E Ek:=by
 intro pins s σ H Q I h;refine K0<|vw I J S ?_ j;exact PySem.W.callWith_K0 I.JL M.kp<|El M F z U hd Y I .nil h
end
def PK(X:Cx)(Y9:List Keyword)(t:TA):Prop:=∀(pos:Pos)(pins:List<|Addr×Obj)(s:Shared)(σ:St)(H:Hp)(Q:List V->Hp->Prop),Inv X pins σ H s->t σ H Q->wpAny (model X.prog X.w) X.A (evalAll<|(backToKw pos<|keywordEach Y9 X.env).map (·.2)) (AP X pins σ Q) X.xe s
section
variable{X:Cx}{CX:N6}{k:Nat}{f C:Addr}{fd:FuncData}{ps ks:Ba}{sp:Sp}{E:XK}{x m:Str}{p pos apos adf:Pos}{e o:Expr}{es:List Expr}{Y9:List Keyword}{te ta:TE}{t tk:TA}{nm:Option Str}
def HA:PK X [] Ek:=λ_ _ _ _ H Q I h=>wpAny_evalAll_nil ⟨[],H,I,.nil,h⟩
def vx(j:PE X e te)(z:PK X Y9 t):PK X (⟨nm,e,adf⟩::Y9)<|wD te t:=by intro pos pins s σ H Q I h;refine wpAny_evalAll_cons<|a0<|eF (j pins s σ H _ I h) λu F⟨x,H1,J,M,S⟩=>a0<|XM<|er ?_;exact eF (z pos pins F σ H1 _ J S) λus Z⟨xs,H2,U,W,Y⟩=>⟨x::xs,H2,U,.cons M W,Y⟩
variable{g:Bb->Bb->Bb}{gV:List V->List V->List V}
end
structure aB(N P:Ba)(sc:Scope):Prop where
 kind:sc.kind=.function
 co:sc.isCoroutine=false
 gen:sc.isGenerator=false
 nd:N.Nodup
 pre:N.take P.length=P
 par:∀x∈P,sc.names.lookup x=some .local\/sc.names.lookup x=some .cell
 VQ:∀y∈sc.names,y.2≠.free
theorem AF{kindOf:Str->Option NameKind}:∀{binds:List<|Str×Value}{m:Be},(∀v,(x,v)∉binds)->bindL kindOf binds m x=m x
 |[],_,_=>rfl
 |(n,v)::r,m,h=>by
  unfold bindL;rw[AF λw j=>h w<|kB _ j];split
  .have:x≠n:=by rintro rfl;exact h v lx
   simp[this]
  .rfl
theorem AG{kindOf:Str->Option NameKind}:∀{binds:List<|Str×Value}{m:Be},(∀v,(x,v)∉binds)->bindC kindOf binds m x=m x
 |[],_,_=>rfl
 |(n,v)::r,m,h=>by
  unfold bindC;rw[AG λw j=>h w<|kB _ j];split
  .rfl
  .have:x≠n:=by rintro rfl;exact h v lx
   simp[this]
theorem AH{kindOf:Str->Option NameKind}:∀{P:Ba}{vs:Bb}{i:Nat}{m:Be},P.Nodup->P[i]?=some x->vs[i]?=some v->kindOf x=some .local->
  bindL kindOf (P.zip vs) m x=some v
 |[],_,_,_,_,h,_,_=>by simp at h
 |_::_,[],_,_,_,_,h,_=>by simp at h
 |p::P,w::vs,0,m,nd,h1,h2,hk=>by simp at h1 h2;subst h1;subst h2;show bindL kindOf ((p,w)::P.zip vs) m p=_;unfold bindL;rw[AF λv j=>(nM.mp nd).1 (Q9 j).1,dt hk];simp
 |p::P,w::vs,i+1,m,nd,h1,h2,hk=>by unfold bindL;exact AH (i:=i) (nM.mp nd).2 (by simpa using h1) (by simpa using h2) hk
theorem AI{kindOf:Str->Option NameKind}:∀{P:Ba}{vs:Bb}{i:Nat}{m:Be},P.Nodup->P[i]?=some x->vs[i]?=some v->kindOf x≠some .local->
  bindC kindOf (P.zip vs) m x=some v
 |[],_,_,_,_,h,_,_=>by simp at h
 |_::_,[],_,_,_,_,h,_=>by simp at h
 |p::P,w::vs,0,m,nd,h1,h2,hk=>by simp at h1 h2;subst h1;subst h2;show bindC kindOf ((p,w)::P.zip vs) m p=_;unfold bindC;rw[AG λv j=>(nM.mp nd).1 (Q9 j).1,c0 hk];simp
 |p::P,w::vs,i+1,m,nd,h1,h2,hk=>by unfold bindC;exact AI (i:=i) (nM.mp nd).2 (by simpa using h1) (by simpa using h2) hk
def start(N:Ba)(vs:List V):St:=vs.map some++List.replicate (N.length-vs.length) none
def yY(CX:N6)(N:Ba)(qual:Str)(scope:Scope)(P:Program)(w:World)(K:cn)(mg:Be)(base:Heap)(f:Addr)(z:Value)(A:Around)(outer:List Env)(s:Shared)(H:Hp)(E:XK):Cx where
 prog:=P
 w:=w
 K:=K
 mg:=mg
 base:=base
 A:=A.deeper (envOfC qual scope s.heap.objs.size f z)
 N:=N
 yV:=s
 XR:=H
 env:=envOfC qual scope s.heap.objs.size f z
 outer:=outer
 stack:=envOfC qual scope s.heap.objs.size f z::outer
 ex:=[]
 calm:=true
 fn:=λ_=>true
 pn:=[]
 xe:=λe s'=>wpAny (model P w) (A.deeper<|envOfC qual scope s.heap.objs.size f z) (leaving (envOfC qual scope s.heap.objs.size f z) e) (λ_ j=>CX outer H s E e j) (λF j=>CX outer H s E F j) s'
def Em{sc:Scope}(h:sc.names.lookup x=some .cell):∃c,(cellsFrom n sc.names []).lookup x=some c:=by exact aoJ.mp<|PySem.W.cellsFrom_some sc.names n [] (.inl h)
def Lx{P:Program}{K:cn}{base:Heap}{qual:Str}{f:Addr}{A:Around}{s Y:Shared}{E:XK}{vs:List V}
  (S:aB N ps scope)(hd:A.handled=none)(j:BI P w K mg base A outer s H)(hl:vs.length=ps.length)(r:Vals vs us)
  (x:InCallC s s.heap.objs.size (bindL (envOfC qual scope s.heap.objs.size f U).kindOf (ps.zip us) λ_=>none) (cellsFrom (s.heap.objs.size+1) scope.names []) (bindC (envOfC qual scope s.heap.objs.size f U).kindOf (ps.zip us) λ_=>none) Y):
  Inv (yY CX N qual scope P w K mg base f U A outer s H E) [] (start N vs) H Y:=by
 have jc:ps.length<=N.length:=by have:=congrArg List.length S.pre;rw[zd]at this;lia
 obtain⟨h1,tk,rfl,hk⟩:=x.done;have F:∀b:Addr,b∉(yY CX N qual scope P w K mg base f U A outer s H E).ex:=λb z=>absurd (show b∈([]:Bf)from z) (by simp)
 refine⟨⟨j.mod,S.kind,rfl,rfl,ez _,λy z c h1 h2=>?_,λy I=>?_,λy c _ h=>?_,λ_=>hd,Around.frames_deeper j.frames,.inr ⟨rfl,rfl⟩,λb z=>absurd z<|F b,j.bs,j.Q0,λb _ _=>F b,λb z=>absurd z<|F b,j.uY,j.Vu⟩,
  rfl,j.bare,Un.kept hk,⟨_,x.toInCall.ns,λi y v h1 h2 h3=>?_⟩,λy c h=>⟨_,x.cell y c h⟩,j.c7.fresh<|ez _,λy c h=>?_,λp J=>absurd (show p∈([]:List<|Addr×Obj)from J)<|by simp,j.c7.kept hk,?_⟩
 .exact name_of_addr x.apart (xn h1)<|xn h2
 .have I:scope.names.lookup y=some .cell\/scope.names.lookup y=some .free:=I;rcases I with I|I
  .exact Em I
  .exact absurd rfl<|S.VQ _<|xn I
 .exact Ra<|x.above y c<|xn h
 .have hi:i<vs.length:=by
   unfold start at h2;by_cases hi:i<vs.length
   .exact hi
   .rw[Pa<|by simpa using hi]at h2;rw[List.getElem?_replicate]at h2;split at h2<;>cases h2
  have ha:vs[i]?=some v:=by
   unfold start at h2;rw[F3<|by simpa using hi,mq]at h2;cases e:vs[i]? with
   |none=>rw[e]at h2;cases h2
   |some a=>rw[e]at h2;cases h2;rfl
  obtain⟨u,Z,rv⟩:=r.get ha;have J:ps[i]?=some y:=by rw[<-S.pre,aoG<|by lia];exact h1
  have M:ps.Nodup:=by rw[<-S.pre];exact S.nd.sublist<|List.take_sublist _ _
  refine⟨u,rv,?_⟩;rcases S.par y (oA J)with k|k
  .exact .inl ⟨k,AH M J Z k⟩
  .obtain⟨c,e⟩:=Em (n:=s.heap.objs.size+1) k;refine .inr ⟨.inl k,c,e,?_⟩;have q:=x.cell y c e;rw[AI M J Z<|by show scope.names.lookup y≠_;rw[k];decide]at q;exact q
 .exact j.c7.fresh<|Ra<|x.above y c<|xn h
 .unfold start;show _=N.length;rw[mu,ek,VI];lia
def Up{CX:N6}{P:Program}{w:World}{K:cn}{mg:Be}{base:Heap}{k:Nat}{f:Addr}{name qual:Str}{params:Arguments}{body:List Stmt}{scope:Scope}{dV kV M pm j ct oc:Value}{an od:Option Addr}
  {N9:Array BJ}{N ps:Ba}{sp:Sp}(lk:K.lookup f=some ⟨oc,od,.func<|PySem.W.fnOf name qual params body scope dV kV M pm an j ct,N9⟩)(G8:PySem.W.codeIn K j qual=true)(S:aB N ps scope)
  (len:∀vs H Q E,sp vs H Q E->vs.length=ps.length)
  (z:∀(A:Around)(outer:List Env)(s:Shared)(H:Hp)(vs:List V)(Q:VK)(E:XK),eK k (A.deeper<|envOfC qual scope s.heap.objs.size f j)->sp vs H Q E->
   ∃t,Ef (yY CX N qual scope P w K mg base f j A outer s H E) body t/\t {nx:=λ_ H'=>Q .eQ H',rt:=Q} (start N vs) H):
  nO P w K mg base CX (k+1) f (PySem.W.fnOf name qual params body scope dV kV M pm an j ct) ps sp:=by
 refine⟨len,λA outer s H args us vs Q E hr U hb r Y=>?_⟩;have KX:=U.mod.RF.keeps λb o e=>(U.bs b o e).1;have lim:=U.mod.nolimit.keeps λb o e=>(U.bs b o e).1;have F:∀y∈ps.zip us,scope.names.lookup y.1=some .local\/(scope.names.lookup y.1=some .cell/\((cellsFrom (s.heap.objs.size+1) scope.names []).lookup y.1).isSome=true):=λ⟨n,v⟩ hy=>by
  rcases S.par n (Q9 hy).1 with q|q
  .exact .inl q
  .exact .inr ⟨q,PySem.W.cellsFrom_some _ _ _ (.inl q)⟩
 refine codeAny_call_function hr.depth (KX _ _ lk) rfl S.co S.gen rfl (PySem.W.codeRec_of KX G8)<|hb _ _ _ _ ?_;refine wpAny_newFunctionEnv_cells S.kind F λenv he s1 x=>?_;subst he;refine⟨lim.keeps x.toInCall.keep,codeAny_func ?_⟩;obtain⟨t,ht,hq⟩:=z A outer s H vs Q E (hr.deeper _) Y;have I:Inv (yY CX N qual scope P w K mg base f j A outer s H E) [] (start N vs) H s1:=Lx S hr.hd U (len _ _ _ _ Y) r x;refine y2 (ht [] s1 (start N vs) H _ I hq) (λfl s' hs=>?_) λe s' hs=>hs;have Z:∀{σ':St}{H':Hp}{v:V}{u:Value},Inv (yY CX N qual scope P w K mg base f j A outer s H E) [] σ' H' s' ->RelV v u->Q v H' ->CE outer P w H s Q u s':=λ{σ' H' v u} J rv q=>⟨v,H',J.os,J.bare,J.base,J.c7,rv,q⟩;cases fl with
 |ret u=>obtain⟨v,σ',H',J,rv,q⟩:=hs;exact Z J rv q
 |next=>obtain⟨σ',H',J,q⟩:=hs;exact Z (v:=V.eQ) (u:=Value.none) J rfl q
 |brk=>obtain⟨_,_,_,q⟩:=hs;exact False.elim q
 |cont=>obtain⟨_,_,_,q⟩:=hs;exact False.elim q
section
variable{X:Cx}{x:Str}{p pos:Pos}{e:Expr}{es:List Expr}{t:TA}{id T:String}{r:List V->Hp->VK->Prop}
def tCB(r:List V->Hp->VK->Prop)(t:TA):TE:=λσ H Q=>t σ H λvs H1=>r vs H1 Q
def aE(F:fb X (.builtin id) r)(J:Gl X x)(M:X.mg x=none)(S:bootBuiltins x=some (.builtin id))(U:PA X (e::es) t)(W:x≠"__name__":=by decide)(j:(x==("__debug__":Str))=false:=by decide)
  (Y:starEach (e::es) X.env=(false,eval e X.env)::starEach es X.env:=by rfl)(z:(backTo pos<|starEach es X.env).any (·.1)=false:=by rfl):PE X (.Call (.Name x p) (e::es) [] pos)<|tCB r t:=by
 intro pins s σ H Q I h;refine K0<|iD I J M S ?_ W j;exact PyProof.Rows.callWith_builtin1 (eF (U pos pins s σ H _ I h) λus Z⟨vs,H1,I1,r1,q1⟩=>F pins Z σ H1 vs us Q I1 r1 q1) Y z
def fJ(F:fb X (.type T) r)(J:Gl X x)(M:X.mg x=none)(S:bootBuiltins x=some (.type T))(U:PA X (e::es) t)(W:x≠"__name__":=by decide)(j:(x==("__debug__":Str))=false:=by decide)
  (Y:starEach (e::es) X.env=(false,eval e X.env)::starEach es X.env:=by rfl)(z:(backTo pos<|starEach es X.env).any (·.1)=false:=by rfl):PE X (.Call (.Name x p) (e::es) [] pos)<|tCB r t:=by
 intro pins s σ H Q I h;refine K0<|iD I J M S ?_ W j;exact HK (eF (U pos pins s σ H _ I h) λus Z⟨vs,H1,I1,r1,q1⟩=>F pins Z σ H1 vs us Q I1 r1 q1) Y z
end
end L2
namespace HT
open PySem PyProof.Rows
def lexLt:Bc->Bc->Bool
 |[],[]=>false
 |[],_::_=>true
 |_::_,[]=>false
 |x::xs,y::ys=>if x=y then lexLt xs ys else decide (x<y)
def j8(x y:Int)(xs ys:Bc):lexLt (x::xs) (y::ys)=if x=y then lexLt xs ys else decide (x<y):=rfl
def yZ:lexLt [] []=false:=rfl
def wF(y:Int)(ys:Bc):lexLt [] (y::ys)=true:=rfl
def wG(x:Int)(xs:Bc):lexLt (x::xs) []=false:=rfl
def En(A:Around)(s:Shared)(a:Int)(t:Tok)(c:Int)(u:Tok):∃e,SeqAt.EqAt A s (.int a t) (.int c u) e/\(e=true↔a=c):=⟨(a==c),SeqAt.EqAt.int_int a t c u,by simp⟩
def Eo(A:Around)(s:Shared)(a:Int)(t:Tok)(c:Int)(u:Tok)(prog:Program)(w:World)(E:Bd)(Q:Bd)(h:Q (.bool<|decide<|a<c) s):
  wpAny (model prog w) A (richCompare .Lt (.int a t) (.int c u)) Q E s:=
 (PyProof.Rows.lt_int h:wpAny (model prog w) A (compareOp .Lt (.int a t) (.int c u)) Q E s)
section
open PySem.SeqAt
open PySem.AutoSeq1 (wpAny_loadPart')
open PySem.MeetsSeq PySem.MeetsSeq2 PySem.MeetsSeq3
def y4(l b:Addr)(items j:BA)(n n2:Nat)(dd Rf:Option Addr)(sl Rg:Array BJ)(ns ms:Bc)(hi:IntsAre items.toList ns)(hj:IntsAre j.toList ms):
  Meets (Builtin.«tuple.__lt__» ⟨[.ref l,.ref b],[]⟩)
   (λ_ R s=>s.heap.get? l=some {cls:=.type "tuple",dict:=dd,data:=.seq items n,slots:=sl}/\s.heap.get? b=some {cls:=.type "tuple",dict:=Rf,data:=.seq j n2,slots:=Rg}/\
    R (.ok (.ret (.bool<|lexLt ns ms))) s):=
 .of_wp λprog w A R s h=>by
  obtain⟨hp,g,d,tk,os⟩:=s;obtain⟨hl,hb,h⟩:=h;have f2:=AutoSeq1.sub_tuple_tuple;have z1:items.size=ns.length:=by rw[<-hi.length];simp
  have z2:j.size=ms.length:=by rw[<-hj.length];simp
  wp_walk using wpAny_loadPart' hl,wpAny_loadPart' hb,ao9 _ (λrest b s'=>b.1=none/\s'=⟨hp,g,d,tk,os⟩/\D_ λ(vs ws:Bb)(F I:Bc)=>rest=vs.zip ws/\
   IntsAre vs F/\IntsAre ws I/\F.length+j.size=I.length+items.size/\R (.ok (.ret (.bool<|lexLt F I))) ⟨hp,g,d,tk,os⟩) _
  case turn=>
   rintro⟨y,x⟩ rest b s'⟨U,rfl,vs,ws,F,I,hz,W,J,z,M⟩;cases W with
   |nil=>rw[List.zip_nil_left]at hz;cases hz
   |cons a t Z=>
    cases J with
    |nil=>rw[List.zip_nil_right]at hz;cases hz
    |cons c u adk=>
     rw[F7]at hz;injection hz with Zc Y
     injection Zc with hy hx
     subst hy hx;rw[j8]at M;simp only[kA]at z;obtain⟨e,he,S⟩:=En A.in1 ⟨hp,g,d,tk,os⟩ a t c u;refine a0<|he prog w _ _ ?_;cases e with
     |true=>
      rw[dt<|S.mp rfl]at M
      wp_walk
      exact⟨rfl,rfl,_,_,_,_,Y,Z,adk,by lia,M⟩
     |false=>
      rw[c0 λq=>absurd (S.mpr q) rP]at M;have hri:=Eo A.in1 ⟨hp,g,d,tk,os⟩ a t c u prog w
      wp_walk using hri
      exact⟨_,rfl,by simpa using M⟩
  case fin=>
   rintro⟨b1,b2⟩ s'⟨U,rfl,vs,ws,F,I,hz,W,J,z,M⟩;simp only at U;subst U;have hv:lexLt F I=decide (items.size<j.size):=by
    cases W with
    |nil=>
     cases J with
     |nil=>simp only[wh]at z;rw[yZ];exact(kx<|by lia).symm
     |cons c u hw=>simp only[wh,kA]at z;rw[wF];exact(ki<|by lia).symm
    |cons a t hv=>
     cases J with
     |nil=>simp only[wh,kA]at z;rw[wG];exact(kx<|by lia).symm
     |cons c u hw=>rw[F7]at hz;cases hz
   rw[hv]at M
   wp_walk
   exact⟨_,rfl,by simpa[Builtin.Tuple.tupleCompareSizes]using M⟩
  case h=>exact⟨rfl,rfl,items.toList,j.toList,ns,ms,rfl,hi,hj,by lia,h⟩
end
section
variable{prog:Program}{w:World}{A:Around}{E:Bd}{s:Shared}
def wH(hl:IsTup s.heap l items)(hb:IsTup s.heap b j)(hi:IntsAre items.toList ns)(hj:IntsAre j.toList ms)
  (hu:A.units<cLine)(h:Q (.bool<|lexLt ns ms) s):wpAny (model prog w) A (compareOp .Lt (.ref l) (.ref b)) Q E s:=by
 obtain⟨⟨cls,dd,U,sl⟩,W,Y,n,hd⟩:=id hl;obtain⟨⟨Z,M,data2,S⟩,z,I,n2,J⟩:=id hb;simp only at Y hd I J;subst Y hd I J
 exact richCompare_meets_room (op:=.Lt) ⟨_,W,rfl⟩ ⟨_,z,rfl⟩ PySem.F.slot_tuple_lt PySem.F.entry_tuple_lt (PySem.F.args_tuple_lt_2 _ _) (y4 l b items j n n2 dd M sl S ns ms hi hj)
  ⟨W,z,⟨(λx=>nomatch x),h⟩⟩ hu
def RV(ht:IsTup s.heap t vs.toArray)(hb:IsTup s.heap b j.toArray)(Y:vs≠[])
  (h1:j=[]->Q (.ref t) s)(h2:j≠[]->Q (.ref s.heap.objs.size) {s with heap:=s.heap.push {cls:=.type "tuple",data:=.seq (vs++j).toArray}})
  (hsz:vs.length+j.length<=sizeLine):wpAny (model prog w) A (binaryOp .Add (.ref t) (.ref b)) Q E s:=by
 obtain⟨⟨cls,Z,data,sl⟩,U,hc,n,hd⟩:=id ht;obtain⟨⟨Zd,I,data2,J⟩,z,M,n2,S⟩:=id hb;simp only at hc hd M S;subst hc hd M S;have e:vs.toArray++j.toArray=(vs++j).toArray:=by simp
 by_cases W:j=[]
 .exact concat_meets ⟨_,U,rfl⟩ ⟨_,z,rfl⟩ noFill_tuple_add seq_tuple_add ao2 aoR (aoK _ _)
   (tuple_addW1 t b vs.toArray j.toArray n n2 Z I sl J (by simpa using Y)<|by simp[W]) ⟨U,z,h1 W⟩
 .refine concat_meets ⟨_,U,rfl⟩ ⟨_,z,rfl⟩ noFill_tuple_add seq_tuple_add ao2 aoR (aoK _ _)
   (tuple_addW2 t b vs.toArray j.toArray n n2 Z I sl J (by simpa using Y) (by simpa using W)<|by rw[pd,pd];exact hsz) ⟨U,z,?_⟩
  rw[e];exact h2 W
def y6(n d:Nat):Option Int->Nat
 |none=>d
 |some v=>if v<0 then(v+(n:Int)).toNat else min v.toNat n
def rD(n d:Nat):y6 n d none=d:=rfl
def oU(n d k:Nat):y6 n d (some (k:Int))=min k n:=by show(if(k:Int)<0 then((k:Int)+(n:Int)).toNat else min (k:Int).toNat n)=min k n;rw[c0<|by lia,t5]
end
end HT
namespace L2
open PySem PySem.Spec PyProof.Rows
abbrev TO:=St->Hp->(Option Int->Hp->Prop)->Prop
def PO(X:Cx)(e:Option Expr)(t:TO):Prop:=
 ∀(pins:List<|Addr×Obj)(s:Shared)(σ:St)(H:Hp)(Q:Option Int->Hp->Prop),Inv X pins σ H s->t σ H Q->
  wpAny (model X.prog X.w) X.A (evalPart e X.env) (λu s'=>B_ λo H'=>Inv X pins σ H' s'/\IsPart u o/\Q o H') X.xe s
def JX:TO:=λ_ H Q=>Q none H
def Uq(t:TE):TO:=λσ H Q=>t σ H λx H1=>∃i,x=.int i/\Q (some i) H1
section
variable{X:Cx}{e:Expr}{te:TE}{lo hi:Option Expr}{tl th:TO}{pos p2:Pos}
def vy:PO X none JX:=by intro pins s σ H Q I h;rw[evalPart_none];exact er ⟨none,H,I,.none,h⟩
def jm(h:PE X e te):PO X (some e)<|Uq te:=by intro pins s σ H Q I j;rw[evalPart_some];refine eF (h pins s σ H _ I j) λu M⟨x,H1,z,F,J⟩=>?_;obtain⟨i,rfl,q⟩:=J;obtain⟨t,rfl⟩:=F;exact⟨some i,H1,z,.int i t,q⟩
def SlR(X:Cx)(r:V->Option Int->Option Int->Hp->VK->Prop):Prop:=
 ∀(pins:List<|Addr×Obj)(s:Shared)(σ:St)(H:Hp)(x:V)(v j z:Value)(lo hi:Option Int)(F:Addr)(Q:VK),Inv X pins σ H s->RelV x v->s.heap.IsSliceOf F j z .none->IsPart j lo->IsPart z hi->r x lo hi H Q->
  B_ λT id=>typeLookup (.type T) "__getitem__"=pure (some (.builtin id))/\s.TypeIs v T/\wpAny (model X.prog X.w) X.A (getItem v (.ref F)) (EP X pins σ Q) X.xe s
def tSl(r:V->Option Int->Option Int->Hp->VK->Prop)(te:TE)(tl th:TO):TE:=λσ H Q=>te σ H λx H1=>tl σ H1 λl H2=>th σ H2 λu H3=>r x l u H3 Q
def j9(J:SlR X r)(M:PE X e te)(S:PO X lo tl)(U:PO X hi th):PE X (.Subscript e (.Slice lo hi none p2) pos)<|tSl r te tl th:=by intro pins s σ H Q I h;refine Subscript_<|eF (M pins s σ H _ I h) λv W⟨x,H1,Y,Z,q1⟩=>?_;refine wpAny_Slice<|eF (S pins W σ H1 _ Y q1) λz s2⟨l,H2,I2,pl,q2⟩=>eF (U pins s2 σ H2 _ I2 q2) λF j⟨u,H3,I3,pu,q3⟩=>?_;rw[evalPart_none];refine er ?_;have I4:Inv X pins σ H3 {j with heap:=j.heap.push {cls:=.type "slice",data:=.fields #[z,F,.none]}}:=I3.kept λb ob q=>et _ q;obtain⟨T,id,hT,ht,hg⟩:=J pins {j with heap:=j.heap.push {cls:=.type "slice",data:=.fields #[z,F,.none]}} σ H3 x v z F l u j.heap.objs.size Q I4 Z (Heap.IsSliceOf.new ..) pl pu q3;exact tail_any ht hT hg (by with_unfolding_all rfl)
def kJ(xs:List V)(lo hi:Option Int):List V:=(xs.drop<|HT.y6 xs.length 0 lo).take<|HT.y6 xs.length xs.length hi-HT.y6 xs.length 0 lo
def Er(xs:List V)(lo hi:Option Int):(kJ xs lo hi).length<=xs.length:=by unfold kJ;rw[zd,Mb];lia
def Ze(K:cn):R2:=λx y H Q=>D_ λa b xs ys=>x=.ref a/\y=.ref b/\ee K H a xs/\ee K H b ys/\xs≠[]/\xs.length+ys.length<=sizeLine/\
 (ys=[]->Q (.ref a) H)/\(ys≠[]->∀p,H p=none->Q (.ref p) (upd H p (.tup<|xs++ys)))
def Vals.vz(r:Vals xs us):us=[]↔xs=[]:=by
 cases r with
 |nil=>simp
 |cons _ _=>simp
def RW:nu X (binaryOp .Add)<|Ze X.K:=by intro pins s σ H x y v u Q I M S h;obtain⟨a,b,xs,ys,rfl,rfl,ha,hb,hx,hz,q1,q2⟩:=h;cases M;cases S;obtain⟨its,F,U,_⟩:=I.tuple ha;obtain⟨J,j,p2,_⟩:=I.tuple hb;refine HT.RV U p2 (λz=>hx<|F.vz.mp z) (λz=>⟨.ref a,H,I,rfl,q1<|j.vz.mp z⟩) (λz=>?_) (by rw[<-F.length,<-j.length];exact hz);refine⟨.ref s.heap.objs.size,_,I.laid (λb W q=>et _ q) (ez _) ?_,rfl,q2 (λw=>z<|j.vz.mpr w) _<|I.c7.fresh<|ez _⟩;exact⟨by rw[mu];exact hz,_,F.append j,IsTup.new _ _⟩
end
def RX(n:Nat)(i:Int):Option Nat:=if 0<=i then(if i<n then some i.toNat else none)else if-(n:Int)<=i then some (i+n).toNat else none
def Ri{z:Type}(xs:List z)(i:Int):Option z:=(RX xs.length i).bind λj=>xs[j]?
def JY(h:RX n i=some j):seqIndex? i n=some j/\j<n/\-(n:Int)<=i/\i<n:=by
 unfold RX at h;by_cases h0:0<=i
 .rw[dt h0]at h;by_cases h1:i<n
  .rw[dt h1]at h;have e:i.toNat=j:=ri h;exact⟨by rw[seqIndex_of h0 h1,e],by lia,by lia,h1⟩
  .rw[c0 h1]at h;cases h
 .rw[c0 h0]at h;by_cases h1:-(n:Int)<=i
  .rw[dt h1]at h;have e:(i+n).toNat=j:=ri h;exact⟨by rw[seqIndex_neg (by lia) h1,e],by lia,h1,by lia⟩
  .rw[c0 h1]at h;cases h
def BL{z:Type}{xs:List z}{v:z}(h:Ri xs i=some v):∃j,seqIndex? i xs.length=some j/\xs[j]?=some v/\j<xs.length/\-(xs.length:Int)<=i/\i<xs.length:=by
 unfold Ri at h;cases e:RX xs.length i with
 |none=>rw[e]at h;cases h
 |some j=>rw[e]at h;obtain⟨h1,h2,F,I⟩:=JY e;exact⟨j,h1,h,h2,F,I⟩
def aP{z:Type}{xs:List z}{j:Nat}{v:z}(h:xs[j]?=some v):Ri xs (j:Int)=some v:=by
 have F:j<xs.length:=(l4.mp h).1;have e:RX xs.length (j:Int)=some j:=by unfold RX;rw[dt<|by lia,dt<|by lia];simp
 unfold Ri;rw[e];exact h
def RY(b:Expr):Prop:=∀o i,subscripted b false o i=operate [o,i] (getItem o i)
def XY(X:Cx)(r:R2):Prop:=
 ∀(value j:Expr)(pins:List<|Addr×Obj)(s:Shared)(σ:St)(H:Hp)(x y:V)(v u:Value)(Q:VK),Inv X pins σ H s->RelV x v->RelV y u->r x y H Q->
  subscripted j false v u=operate [v,u] (getItem v u)->wpAny (model X.prog X.w) X.A (subscriptTail value j v u) (EP X pins σ Q) X.xe s
def Rk(X:Cx)(id:String)(r:V->List V->Hp->VK->Prop):Prop:=
 ∀(pins:List<|Addr×Obj)(s:Shared)(σ:St)(H:Hp)(x:V)(xs:List V)(v:Value)(us:Bb)(Q:VK),Inv X pins σ H s->RelV x v->Vals xs us->r x xs H Q->
  wpAny (model X.prog X.w) X.A (call (.builtin id)<|v::us) (EP X pins σ Q) X.xe s
section
variable{X:Cx}{a b:Expr}{ta tb:TE}{pos:Pos}
def bp{r:R2}(j:XY X r)(z:PE X a ta)(F:PE X b tb)(hs:RY b):PE X (.Subscript a b pos)<|Y3 r ta tb:=by intro pins s σ H Q I h;exact Subscript_<|VF z F I h λv u J x y H2 M S U q=>j a b pins J σ H2 x y v u Q M S U q<|hs _ _
def VS(K:cn):R2:=λx y H Q=>D_ λp xs i v=>x=.ref p/\y=.int i/\az K H p xs/\Ri xs i=some v/\Q v H
def VT(K:cn):R2:=λx y H Q=>D_ λp xs i v=>x=.ref p/\y=.int i/\ee K H p xs/\Ri xs i=some v/\Q v H
def adn:R2:=λx y H Q=>C_ λz i c=>x=.str z/\y=.int i/\z.length<=sizeLine/\Ri z.cps.toList i=some c/\Q (.str ⟨#[c]⟩) H
def RZ:XY X<|VS X.K:=by
 intro value J pins s σ H x y v u Q I W Y h hs;obtain⟨p,xs,i,z,rfl,rfl,hq,he,q⟩:=h;cases W;obtain⟨t,rfl⟩:=Y;obtain⟨its,r,pl,hz⟩:=I.list hq;obtain⟨j,h1,h2,h3,Z,h5⟩:=BL he;obtain⟨w,U,M⟩:=r.get h2;have hl:=r.length;have hn:=sX;have F:EP X pins σ Q w s:=⟨z,H,I,M,q⟩;by_cases h0:0<=i
 .have S:i.toNat=j:=by rw[seqIndex_of h0 h5]at h1;exact ri h1
  exact item_listR pl.isList h0 (by lia) (by rw[S];simpa using U) F hs
 .have S:(i+(its.toArray.size:Int)).toNat=j:=by rw[seqIndex_neg (by lia) Z]at h1;rw[pd,<-hl];exact ri h1
  exact subscriptTail_builtinR (x:=w) pl.isList.typeIs slot_list_getitem.lookup
   (wpAny_getItem_list_neg (Q:=λr s'=>r=w/\EP X pins σ Q r s') pl.isList (by lia) (by rw[pd]<;>lia) (by lia) (by rw[S];simpa using U) ⟨rfl,F⟩) hs
def VU:XY X<|VT X.K:=by
 intro value F pins s σ H x y v u Q I S U h hs;obtain⟨p,xs,i,z,rfl,rfl,hq,he,q⟩:=h;cases S;obtain⟨t,rfl⟩:=U;obtain⟨its,r,pl,hz⟩:=I.tuple hq;obtain⟨j,h1,h2,Z,h4,h5⟩:=BL he;obtain⟨w,W,J⟩:=r.get h2;have Y:=r.length;have hn:=sX;have M:EP X pins σ Q w s:=⟨z,H,I,J,q⟩
 exact subscriptTail_builtinR (x:=w) pl.typeIs slot_tuple_getitem.lookup
  (getItem_tuple (j:=j) (Q:=λr s'=>r=w/\EP X pins σ Q r s') pl (by lia) (by lia) (by rw[pd,<-Y];exact h1) (by simpa using W) ⟨rfl,M⟩) hs
def HB:XY X adn:=by
 intro value F pins s σ H x y v u Q I J M h hs;obtain⟨z,i,c,rfl,rfl,hz,he,q⟩:=h;obtain⟨t,rfl⟩:=J;obtain⟨t',rfl⟩:=M;obtain⟨j,h1,h2,h3,S,U⟩:=BL he;have W:z.cps.toList.length=z.length:=by simp[Str.length]
 rw[W]at h1 S U;have hn:=sX
 exact tail_any (Qm s z t) slot_str_getitem.lookup (getItem_str (c:=c) (by
  have Y:decide (i< -(2^63:Int))=false:=kx (by lia);have Z:decide (i>=2^63)=false:=kx (by lia)
  rw[Y,Z,Bool.or_false]) (by rw[h1];simpa using h2) ⟨.str ⟨#[c]⟩,H,I.tok _,⟨_,rfl⟩,q⟩) hs
def HC(its:Bb)(n j:Nat)(u:Value):Obj.mapSeq (·.setIfInBounds j u) {cls:=.type "list",data:=.seq its.toArray n}={cls:=.type "list",data:=.seq (its.set j u).toArray n}:=by simp[Obj.mapSeq]
def Inv.lst(I:Inv X pins σ H s)(h:H p=some (.lst xs)):
  B_ λ(its:Bb)(n:Nat)=>Vals xs its/\s.heap.get? p=some {cls:=.type "list",data:=.seq its.toArray n}/\xs.length<=sizeLine:=by
 obtain⟨z,its,n,r,e⟩:=I.c7 p _ h;exact⟨its,n,r,e,z⟩
def Inv.VW{pins:List<|Addr×Obj}{H:Hp}{p:Addr}{its its':Bb}{f:Obj->Obj}(I:Inv X pins σ H s)(h:H p=some (.lst xs))
  (F:s.heap.get? p=some {cls:=.type "list",data:=.seq its.toArray n})(z:f {cls:=.type "list",data:=.seq its.toArray n}={cls:=.type "list",data:=.seq its'.toArray j})(r:Vals ys its')(hz:ys.length<=sizeLine)(t:Nat):
  Inv X pins σ (upd H p (.lst ys)) {s with heap:=s.heap.update p f,toks:=t}:=by
 have e:(s.heap.update p f).get? p=some {cls:=.type "list",data:=.seq its'.toArray j}:=by rw[R6 f F<|by rw[z]<;>rfl,z]
 refine I.write (by rw[h];trivial) (.inl rfl) (λb u J q=>(E7 _ _<|iq J).trans q) ⟨_,e⟩ ?_;exact⟨hz,its',j,r,e⟩
def Zf:V->V->V->Hp->(Hp->Prop)->Prop:=λo i v H Q=>D_ λp xs k j=>o=.ref p/\i=.int k/\H p=some (.lst xs)/\RX xs.length k=some j/\Q (upd H p (.lst<|xs.set j v))
def set_list:Y0 X Zf:=by
 intro pins s σ H o i v ov iv u Q I U Y Z h;obtain⟨p,xs,k,j,rfl,rfl,hp,hj,q⟩:=h;cases U;obtain⟨t,rfl⟩:=Y;obtain⟨its,n,r,z,hz⟩:=I.lst hp;obtain⟨h1,h2,J,M⟩:=JY hj;have F:=r.length;have hn:=sX;have S:Inv X pins σ (upd H p (.lst<|xs.set j v)) {s with heap:=s.heap.update p<|Obj.mapSeq (·.setIfInBounds j u)}:=I.VW hp z (HC its n j u) (r.set Z j) (by rw[Uc];exact hz) s.toks;by_cases h0:0<=k
 .have hk:k.toNat=j:=by rw[seqIndex_of h0 M]at h1;exact ri h1
  exact PySem.W.ki_setAt z h0 (by lia) (by rw[pd,<-F];exact M) (by rw[hk];exact⟨_,S,q⟩)
 .have hk:(k+(its.toArray.size:Int)).toNat=j:=by rw[seqIndex_neg (by lia) J]at h1;rw[pd,<-F];exact ri h1
  exact PySem.W.ki_setBack z (by lia) (by rw[pd,<-F];exact J) (by lia) (by rw[hk];exact⟨_,S,q⟩)
def BM(lo hi:Option Int)(n:Nat):(sliceBounds lo hi none n).1=((HT.y6 n 0 lo:Nat):Int)/\(sliceBounds lo hi none n).2.1=((HT.y6 n n hi:Nat):Int)/\(sliceBounds lo hi none n).2.2=1:=by
 refine⟨?_,?_,rfl⟩
 .cases lo with
  |none=>simp[sliceBounds,HT.y6]
  |some i=>
   simp only[sliceBounds,HT.y6,Option.getD_none,show(1:Int)>0 by decide,Pt];by_cases h:i<0
   .simp only[h,Pt]<;>lia
   .simp only[h,LI]<;>lia
 .cases hi with
  |none=>simp[sliceBounds,HT.y6]
  |some i=>
   simp only[sliceBounds,HT.y6,Option.getD_none,show(1:Int)>0 by decide,Pt];by_cases h:i<0
   .simp only[h,Pt]<;>lia
   .simp only[h,LI]<;>lia
def y8(its:Bb)(lo hi:Option Int):slicePick its.toArray lo hi none=((its.drop<|HT.y6 its.length 0 lo).take<|HT.y6 its.length its.length hi-HT.y6 its.length 0 lo).toArray:=by obtain⟨h1,h2,j⟩:=BM lo hi its.toArray.size;unfold slicePick;rw[h1,h2,j];simp only[sliceRange_one,pick_run,pd]<;>rfl
def Zg(K:cn):V->Option Int->Option Int->Hp->VK->Prop:=λx lo hi H Q=>B_ λa xs=>x=.ref a/\az K H a xs/\∀p,H p=none->Q (.ref p) (upd H p (.lst<|kJ xs lo hi))
def R9:SlR X<|Zg X.K:=by intro pins s σ H x v M S lo hi U Q I F hs pl J h;obtain⟨a,xs,rfl,hx,q⟩:=h;cases F;obtain⟨its,r,z,hz⟩:=I.list hx;have j:=r.length;refine⟨"list",_,slot_list_getitem.lookup,z.isList.typeIs,?_⟩;refine wpAny_getItem_list_slice z.isList hs pl J .none (by simp) ?_ (by rw[pd]<;>lia);rw[y8,<-j];refine⟨.ref s.heap.objs.size,_,I.laid (t':=s.toks) (o:=.lst<|kJ xs lo hi) (λb W q=>et _ q) (ez _) ?_,rfl,q _<|I.c7.fresh<|ez _⟩;exact⟨lp (Er xs lo hi) hz,_,0,(r.drop<|HT.y6 xs.length 0 lo).take<|HT.y6 xs.length xs.length hi-HT.y6 xs.length 0 lo,m8 _ rfl⟩
def kP:V->Bool
 |.eQ=>true
 |.bl _=>true
 |.int _=>true
 |.str _=>true
 |_=>false
def Ly:V->V->Bool
 |.eQ,.eQ=>true
 |.bl a,.bl b=>a==b
 |.bl a,.int b=>(if a then 1 else 0)==b
 |.int a,.bl b=>a==(if b then 1 else 0)
 |.int a,.int b=>a==b
 |.str a,.str b=>a==b
 |_,_=>false
def VX(z:RelV y u)(j:RelV x v)(I:kP y=true)(F:kP x=true):SeqAt.EqAt A s u v<|Ly y x:=by
 cases y with
 |eQ=>
  cases z;cases x with
  |eQ=>cases j;exact SeqAt.EqAt.same _
  |bl b=>cases j;exact SeqAt.EqAt.none_bool b
  |int b=>obtain⟨t,rfl⟩:=j;exact SeqAt.EqAt.none_int b t
  |str b=>obtain⟨t,rfl⟩:=j;exact SeqAt.EqAt.none_str b t
  |_=>exact absurd (F) rP
 |bl a=>
  cases z;cases x with
  |eQ=>cases j;exact SeqAt.EqAt.bool_none a
  |bl b=>cases j;exact SeqAt.EqAt.bool_bool a b
  |int b=>obtain⟨t,rfl⟩:=j;exact SeqAt.EqAt.bool_int a b t
  |str b=>obtain⟨t,rfl⟩:=j;exact SeqAt.EqAt.bool_str a b t
  |_=>exact absurd (F) rP
 |int a=>
  obtain⟨t',rfl⟩:=z;cases x with
  |eQ=>cases j;exact SeqAt.EqAt.int_none a t'
  |bl b=>cases j;exact SeqAt.EqAt.int_bool a t' b
  |int b=>obtain⟨t,rfl⟩:=j;exact SeqAt.EqAt.int_int a t' b t
  |str b=>obtain⟨t,rfl⟩:=j;exact SeqAt.EqAt.int_str a t' b t
  |_=>exact absurd (F) rP
 |str a=>
  obtain⟨t',rfl⟩:=z;cases x with
  |eQ=>cases j;exact SeqAt.EqAt.str_none a t'
  |bl b=>cases j;exact SeqAt.EqAt.str_bool a t' b
  |int b=>obtain⟨t,rfl⟩:=j;exact SeqAt.EqAt.str_int a t' b t
  |str b=>obtain⟨t,rfl⟩:=j;exact SeqAt.EqAt.str_str a t' b t
  |_=>exact absurd (F) rP
 |_=>exact absurd (I) rP
def G9(x:V)(u:Value):Bool:=match u with
 |.none=>Ly .eQ x
 |.bool b=>Ly (.bl b) x
 |.int i _=>Ly (.int i) x
 |.str z _=>Ly (.str z) x
 |_=>false
def BN(r:RelV y u)(f:kP y=true):G9 x u=Ly y x:=by
 cases y with
 |eQ=>cases r;rfl
 |bl b=>cases r;rfl
 |int i=>obtain⟨t,rfl⟩:=r;rfl
 |str z=>obtain⟨t,rfl⟩:=r;rfl
 |_=>exact absurd (f) rP
theorem rE:∀{xs:List V}{us:Bb},Vals xs us->xs.all kP=true->us.any (G9 x)=xs.any λy=>Ly y x
 |_,_,.nil,_=>rfl
 |y::xs,u::us,.cons r t,f=>by rw[B4,p0]at f;rw[Kh,Kh,BN r f.1,rE t f.2]
theorem lN(z:RelV x v)(F:kP x=true):∀{xs:List V}{us:Bb},Vals xs us->xs.all kP=true->∀u∈us,SeqAt.EqAt A s u v<|G9 x u
 |_,_,.nil,_=>λu j=>by cases j
 |y::xs,u::us,.cons r t,f=>λI j=>by
  rw[B4,p0]at f;rcases eH.mp j with rfl|j
  .rw[BN r f.1];exact VX r z f.1 F
  .exact lN z F t f.2 I j
def VY(x:V)(xs:List V):Bool:=xs.any λy=>Ly y x
def rIn(K:cn)(neg:Bool):R2:=λx y H Q=>B_ λp xs=>y=.ref p/\(az K H p xs\/ee K H p xs)/\kP x=true/\xs.all kP=true/\Q (.bl<|if neg then !VY x xs else VY x xs) H
def Lz:nu X (compareOp .In)<|rIn X.K false:=by
 intro pins s σ H x y v u Q I F J h;obtain⟨p,xs,rfl,j,fx,fs,q⟩:=h;cases J;rcases j with j|j
 .obtain⟨its,r,pl,hz⟩:=I.list j;refine SeqAt.in_listAt (G9 x) pl.isList (λw z=>lN F fx r fs w<|by simpa using z) ⟨.bl _,H,I,rfl,?_⟩;rw[show its.toArray.any (G9 x)=its.any (G9 x) by simp,rE r fs];exact q
 .obtain⟨its,r,pl,hz⟩:=I.tuple j;refine SeqAt.in_tupleAt (G9 x) pl (λw z=>lN F fx r fs w<|by simpa using z) ⟨.bl _,H,I,rfl,?_⟩;rw[show its.toArray.any (G9 x)=its.any (G9 x) by simp,rE r fs];exact q
def BO:nu X (compareOp .NotIn)<|rIn X.K true:=by
 intro pins s σ H x y v u Q I F J h;obtain⟨p,xs,rfl,j,fx,fs,q⟩:=h;cases J;rcases j with j|j
 .obtain⟨its,r,pl,hz⟩:=I.list j;refine SeqAt.notIn_listAt (G9 x) pl.isList (λw z=>lN F fx r fs w<|by simpa using z) ⟨.bl _,H,I,rfl,?_⟩;rw[show its.toArray.any (G9 x)=its.any (G9 x) by simp,rE r fs];exact q
 .obtain⟨its,r,pl,hz⟩:=I.tuple j;refine SeqAt.notIn_tupleAt (G9 x) pl (λw z=>lN F fx r fs w<|by simpa using z) ⟨.bl _,H,I,rfl,?_⟩;rw[show its.toArray.any (G9 x)=its.any (G9 x) by simp,rE r fs];exact q
def BP:fb X (.builtin "len") λxs H Q=>B_ λp ys=>xs=[.ref p]/\(az X.K H p ys\/ee X.K H p ys)/\Q (.int ys.length) H:=by
 intro pins s σ H xs us Q I r h;obtain⟨p,ys,rfl,z,q⟩:=h;obtain⟨u,rfl,rx⟩:=vals1 r;cases rx;have F:=sX;rcases z with z|z
 .obtain⟨its,r',pl,hz⟩:=I.list z;have j:=r'.length;exact Calls.call_len_list pl.isList (by simp only[pd]<;>lia) ⟨.int ys.length,H,I.tok _,⟨s.toks+1,by rw[pd,j]⟩,q⟩
 .obtain⟨its,r',pl,hz⟩:=I.tuple z;have j:=r'.length;exact len_tuple pl (by simp only[pd]<;>lia) ⟨.int ys.length,H,I.tok _,⟨s.toks+1,by rw[pd,j]⟩,q⟩
def BQ:fb X (.builtin "len") λxs H Q=>∃z,xs=[.str z]/\z.length<=sizeLine/\Q (.int z.length) H:=by intro pins s σ H xs us Q I r h;obtain⟨z,rfl,hz,q⟩:=h;obtain⟨u,rfl,t,rfl⟩:=vals1 r;have j:=sX;exact len_str (by lia) ⟨.int z.length,H,I.tok _,⟨_,rfl⟩,q⟩
def BR:fb X (.type "list") λxs H Q=>B_ λp ys=>xs=[.ref p]/\(az X.K H p ys\/ee X.K H p ys)/\∀l,H l=none->Q (.ref l) (upd H l (.lst ys)):=by
 intro pins s σ H xs us Q I r h;obtain⟨p,ys,rfl,z,q⟩:=h;obtain⟨u,rfl,rx⟩:=vals1 r;cases rx
 have F:∀(its:Bb),Vals ys its->ys.length<=sizeLine->∀(h':Heap)(j:Nat),(∀b o',s.heap.get? b=some o' ->h'.get? b=some o')->
   h'.get? s.heap.objs.size=some {cls:=.type "list",dict:=none,data:=.seq its.toArray j,slots:=#[]}->EP X pins σ Q (.ref s.heap.objs.size) {s with heap:=h'}:=λits r' hz h' j kp e=>
  ⟨.ref s.heap.objs.size,_,I.laid (t':=s.toks) kp (ez _) (show eh X.prog X.w _ h' _ (.lst ys)from⟨hz,its,j,r',e⟩),rfl,q _<|I.c7.fresh<|ez _⟩
 rcases z with z|z
 .obtain⟨its,r',pl,hz⟩:=I.list z;have J:=r'.length;obtain⟨o,M,S,n,hd⟩:=pl.isList;exact call_list_seq p (.inl rfl) M S hd (λh' j kp e=>F its r' hz h' j kp e) (by simp only[pd]<;>lia)
 .obtain⟨its,r',pl,hz⟩:=I.tuple z;have J:=r'.length;obtain⟨o,M,S,n,hd⟩:=pl;exact call_list_seq p (.inr rfl) M S hd (λh' j kp e=>F its r' hz h' j kp e) (by simp only[pd]<;>lia)
def y9:fb X (.type "tuple") λxs H Q=>B_ λp ys=>xs=[.ref p]/\((az X.K H p ys/\∀l,H l=none->Q (.ref l) (upd H l (.tup ys)))\/(ee X.K H p ys/\Q (.ref p) H)):=by
 intro pins s σ H xs us Q I r h;obtain⟨p,ys,rfl,h⟩:=h;obtain⟨u,rfl,rx⟩:=vals1 r;cases rx;rcases h with⟨j,q⟩|⟨j,q⟩
 .obtain⟨its,r',pl,hz⟩:=I.list j;have z:=r'.length;refine call_tuple_list pl.isList (λh' kp=>?_) (by simp only[pd]<;>lia);have F:Inv X pins σ H {s with heap:=h'}:=I.kept (t':=s.toks) kp;have J:Inv X pins σ (upd H h'.objs.size (.tup ys)) {s with heap:=h'.push {cls:=.type "tuple",data:=.seq its.toArray}}:=F.laid (t':=s.toks) (λb o e=>et _ e) (ez _) (show eh X.prog X.w _ _ _ (.tup ys)from⟨hz,its,r',IsTup.new _ _⟩);exact⟨.ref h'.objs.size,_,J,rfl,q _<|F.c7.fresh<|ez _⟩
 .obtain⟨its,r',pl,hz⟩:=I.tuple j;exact call_tuple_same pl ⟨.ref p,H,I,rfl,q⟩
def tyV(K:cn)(T:String)(x:V)(H:Hp):Prop:=match x with
 |.str _=>T="str"
 |.int _=>T="int"
 |.ref p=>(T="list"/\∃xs,az K H p xs)\/(T="tuple"/\∃o,K.lookup p=some o/\o.cls=.type "tuple"/\o.dict=none)\/
  (T="dict"/\((∃kvs,H p=some (.dK kvs))\/∃kvs,H p=some (.dT kvs)))\/(T="set"/\B_ λS n=>H p=some (.set S n))
 |_=>False
def VZ(I:Inv X pins σ H s)(r:RelV x v)(ty:tyV X.K T x H):
  s.TypeIs v T/\∀a,v=.ref a->∃F,s.heap.get? a=some F/\F.dict=none:=by
 cases x with
 |str z=>obtain⟨t,rfl⟩:=r;cases(ty);exact⟨Qm s z t,λ_ e=>nomatch e⟩
 |int i=>obtain⟨t,rfl⟩:=r;cases(ty);exact⟨typeIs_int s i t,λ_ e=>nomatch e⟩
 |ref p=>
  cases r;rcases ty with⟨rfl,xs,hq⟩|⟨rfl,o,hk,hc,hd⟩|⟨rfl,hk⟩|⟨rfl,S,n,hk⟩
  .obtain⟨its,_,pl,_⟩:=I.list hq;refine⟨pl.isList.typeIs,λa e=>?_⟩;cases e;obtain⟨o,n,e,c,hd,_⟩:=pl;exact⟨o,e,hd⟩
  .refine⟨⟨o,I.JL p o hk,hc⟩,λa e=>?_⟩;cases e;exact⟨o,I.JL _ o hk,hd⟩
  .have z:∃o,s.heap.get? p=some o/\o.ExactDict:=by
    rcases hk with⟨kvs,hk⟩|⟨kvs,hk⟩
    .obtain⟨_,_,_,_,o,_,_,e,ex,_⟩:=I.c7 p _ hk;exact⟨o,e,ex⟩
    .obtain⟨_,_,_,_,o,_,_,e,ex,_⟩:=I.c7 p _ hk;exact⟨o,e,ex⟩
   obtain⟨o,e,ex⟩:=z;refine⟨⟨o,e,ex.1⟩,λa j=>?_⟩;cases j;exact⟨o,e,ex.2.1⟩
  .obtain⟨o,_,_,_,e,ex,_⟩:=I.c7 p _ hk;refine⟨⟨o,e,ex.1⟩,λa j=>?_⟩;cases j;exact⟨o,e,ex.2.1⟩
 |_=>exact False.elim ty
def tBM(K:cn)(T:String)(r:V->List V->Hp->VK->Prop)(to:TE)(t:TA):TE:=λσ H Q=>to σ H λx H1=>tyV K T x H1/\t σ H1 λxs H2=>r x xs H2 Q
variable{o e:Expr}{es:List Expr}{to:TE}{t:TA}{name:Str}{apos pD:Pos}{T id:String}{r:V->List V->Hp->VK->Prop}
def Zh(Y:PlainAttrs T)(slot:Slot T name id)(M:typeOf (.builtin id)=pure (.type "method_descriptor"))(Z:Rk X id r)(ho:PE X o to)(ha:PA X (e::es) t)
  (z:attributeBase o name X.env (eval o X.env)=eval o X.env:=by rfl)
  (J:((backTo pD<|starEach (e::es) X.env).all (λx=>!x.1)&&(backToKw pD<|keywordEach [] X.env).all (λx=>x.1.isSome)
   &&decide ((e::es).length+([]:List Keyword).length+(if([]:List Keyword).isEmpty then 0 else 1)<30))=true:=by rfl)
  (F:(apos.endLine==pD.line)=true:=by rfl)(hs:starEach (e::es) X.env=(false,eval e X.env)::starEach es X.env:=by rfl)(j:(backTo pD<|starEach es X.env).any (·.1)=false:=by rfl):
  PE X (.Call (.Attribute o name apos) (e::es) [] pD) (tBM X.K T r to t):=by
 intro pins s σ H Q I h;refine wpAny_Call_method_late z J F rfl<|eF (ho pins s σ H _ I h) λv s1⟨x,H1,S,U,ty,q1⟩=>?_;obtain⟨h1,h2⟩:=VZ S U ty;refine⟨T,id,Y,slot,M,h1,h2,?_⟩;have W:=ha pD pins s1 σ H1 _ S q1;rw[hs]at W|-;refine ao3 (by show(false||(backTo pD<|starEach es X.env).any (·.1))=false;rw[j]<;>rfl)<|Calls.evalArgs_plain ?_;exact eF W λus s2⟨vs,H2,I2,r2,q2⟩=>Z pins s2 σ H2 x vs v us Q I2 U r2 q2
end
def MtM(X:Cx)(id:String)(r:V->List V->Hp->VK->Prop):Prop:=
 ∀(pins:List<|Addr×Obj)(s:Shared)(σ:St)(H:Hp)(x:V)(xs:List V)(v:Value)(us:Bb)(Q:VK),Inv X pins σ H s->RelV x v->Vals xs us->r x xs H Q->
  wpAny (model X.prog X.w) X.A (call (.builtin id)<|v::us) (EP X pins σ Q) X.xe s
def Vals.one{x:V}{us:Bb}(h:Vals [x] us):∃u,us=[u]/\RelV x u:=by cases h with|cons r t=>cases t;exact⟨_,rfl,r⟩
theorem Vals.rep(h:Vals xs us):∀k:Nat,Vals (List.replicate k xs).flatten (List.replicate k us).flatten
 |0=>.nil
 |k+1=>by rw[Mg,Mg,UG,UG];exact Vals.append h<|Vals.rep h k
theorem foldl_rep(its:Bb):∀(k:Nat)(acc:Bb),
  List.foldl (λj z=>j++z) acc.toArray (List.replicate k its.toArray)=(acc++(List.replicate k its).flatten).toArray
 |0,acc=>by simp
 |k+1,acc=>by
  have e:acc.toArray++its.toArray=(acc++its).toArray:=by simp
  have F:(acc++its)++(List.replicate k its).flatten=acc++(List.replicate (k+1) its).flatten:=by rw[Mg,UG,Ed]
  rw[<-F,<-foldl_rep its k (acc++its),<-e,Mg,Hr]
section
variable{X:Cx}{pins:List<|Addr×Obj}{σ:St}{H:Hp}{s:Shared}{l b:Addr}{xs ys zs:List V}
def Inv.Zi{its its':Bb}(I:Inv X pins σ H s)(j:H l=some (.lst xs))
  (e:s.heap.get? l=some {cls:=.type "list",data:=.seq its.toArray n})(z:f its.toArray=its'.toArray)(F:Vals ys its')(hz:ys.length<=sizeLine):
  Inv X pins σ (upd H l (.lst ys)) {s with heap:=s.heap.update l<|Obj.mapSeq f,toks:=t'}:=by
 have q:=PySem.IsL.update e f;rw[z]at q;refine I.write (by rw[j];exact trivial) (.inl rfl) (λS u J M=>(E7 s.heap (Obj.mapSeq f)<|iq J).trans M) ⟨_,q⟩ ?_;exact⟨hz,its',_,F,q⟩
def Inv.Zj(I:Inv X pins σ H s)(j:Vals ys its)(hz:ys.length<=sizeLine):
  Inv X pins σ (upd H s.heap.objs.size (.lst ys)) {s with heap:=s.heap.push {cls:=.type "list",data:=.seq its.toArray},toks:=t'}:=
 I.laid (λ_ _ q=>et _ q) (ez _) ⟨hz,its,0,j,m8 _ rfl⟩
def Inv.fresh(I:Inv X pins σ H s):H s.heap.objs.size=none:=I.c7.fresh<|ez _
def Inv.LA(I:Inv X pins σ H s)(j:H l=some (.lst xs)):xs.length<=sizeLine/\B_ λ(its:Bb)(n:Nat)=>Vals xs its/\xs.length=its.length/\s.heap.get? l=some {cls:=.type "list",data:=.seq its.toArray n}:=by obtain⟨z,its,n,r,e⟩:=I.c7 l _ j;exact⟨z,its,n,r,r.length,e⟩
def Es(h:n<=sizeLine):Builtin.List.listTooLong n=false:=by exact kx (by lia)
end
section
variable{X:Cx}
def Sa:V->List V->Hp->VK->Prop:=λx vs H Q=>C_ λl xs y=>x=.ref l/\vs=[y]/\H l=some (.lst xs)/\xs.length<sizeLine/\Q .eQ (upd H l (.lst<|xs++[y]))
def lO:MtM X "list.append" Sa:=by intro pins s σ H x vs v us Q I j J h;obtain⟨l,xs,y,rfl,rfl,hH,hz,q⟩:=h;cases j;obtain⟨u,rfl,ru⟩:=J.one;obtain⟨z,its,n,r,M,e⟩:=I.LA hH;refine LC R1 ⟨_,e,rfl⟩ F.entry_list_append (F.args_list_append_2 _ _) (PySem.list_append l its.toArray n u<|by rw[pd];lia) ⟨e,?_⟩;refine⟨.eQ,_,I.Zi hH e (by simp) (r.append (.cons ru .nil)) ?_,rfl,q⟩;rw[mu,List.length_singleton];lia
def Sb:V->List V->Hp->VK->Prop:=λx vs H Q=>D_ λl b xs zs=>x=.ref l/\vs=[.ref b]/\H l=some (.lst xs)/\H b=some (.lst zs)/\xs.length+zs.length<=sizeLine/\Q .eQ (upd H l (.lst<|xs++zs))
def AJ:MtM X "list.extend" Sb:=by
 intro pins s σ H x vs v us Q I M S h;obtain⟨l,b,xs,zs,rfl,rfl,hH,hB,hz,q⟩:=h;cases M;obtain⟨u,rfl,ru⟩:=S.one;cases ru;obtain⟨z,its,n,r,hl,e⟩:=I.LA hH;obtain⟨z2,j,U,W,Y,Z⟩:=I.LA hB;have hsz:its.toArray.size+j.toArray.size<=sizeLine:=by rw[pd,pd];lia
 have J:¬(!its.toArray.isEmpty&&Builtin.List.listTooLong (its.toArray.size+j.toArray.size))=true:=by rw[Es hsz,Bool.and_false];exact rP
 refine LC ao4 ⟨_,e,rfl⟩ F.entry_list_extend (F.args_list_extend_2 _ _)
  (AutoSeq1.list_extend_list_list_0 l its.toArray n b j.toArray U J (by rw[pd];lia)<|by lia) ⟨e,Z,?_⟩
 refine⟨.eQ,_,I.Zi hH e (by simp) (r.append W) ?_,rfl,q⟩;rw[mu];lia
def Zk:R2:=λx y H Q=>D_ λl b xs zs=>x=.ref l/\y=.ref b/\H l=some (.lst xs)/\H b=some (.lst zs)/\xs.length+zs.length<=sizeLine/\∀p,H p=none->Q (.ref p) (upd H p (.lst<|xs++zs))
def eL:nu X (binaryOp .Add) Zk:=by
 intro pins s σ H x y v u Q I F J h;obtain⟨l,b,xs,zs,rfl,rfl,hH,hB,hz,q⟩:=h;cases F;cases J;obtain⟨z,its,n,r,Y,e⟩:=I.LA hH;obtain⟨Z,j,n2,M,S,U⟩:=I.LA hB;refine PySem.P.add_list e U ?_ (by rw[pd,pd];lia);have W:its.toArray++j.toArray=(its++j).toArray:=by simp
 rw[W];exact⟨.ref _,_,I.Zj (r.append M)<|by rw[mu];lia,rfl,q _ I.fresh⟩
def adq:R2:=λx y H Q=>C_ λl k xs=>x=.ref l/\y=.int k/\H l=some (.lst xs)/\-(2^63)<=k/\k<2^63/\xs.length*k.toNat<=sizeLine/\
 ∀p,H p=none->Q (.ref p) (upd H p (.lst (List.replicate k.toNat xs).flatten))
def len_rep{j:Type}(xs:List j)(k:Nat):(List.replicate k xs).flatten.length=k*xs.length:=by
 induction k with
 |zero=>simp
 |succ k z=>rw[Mg,UG,mu,z,X0,Nat.add_comm]
def V0:nu X (binaryOp .Mult) adq:=by
 intro pins s σ H x y v u Q I rx ry h;obtain⟨l,k,xs,rfl,rfl,hH,h1,h2,hz,q⟩:=h;cases rx;obtain⟨t,rfl⟩:=ry;obtain⟨z,its,n,r,hl,e⟩:=I.LA hH;have J:its.toArray.size*k.toNat<=sizeLine:=by rw[pd,<-hl];exact hz
 have M:¬its.toArray.size*k.toNat>(2^63-1)/8:=by
  have:(sizeLine:Nat)<=(2^63-1)/8:=by decide
  lia
 have S:¬(!Builtin.List.listFitsIndex k)=true:=by rw[fitsIndex_both h1 h2];exact rP
 have j:¬Builtin.List.listTooLong (its.toArray.size*k.toNat)=true:=by rw[Es J];exact rP
 have W:List.foldl (λY Z=>Y++Z) #[] (List.replicate (if its.toArray.isEmpty=true then 0 else k.toNat) its.toArray)=(List.replicate k.toNat its).flatten.toArray:=by
  have f0:=λm=>by have:=foldl_rep its m [];rw[T8]at this;exact this
  rw[f0];cases its with
  |nil=>simp
  |cons a r'=>rw[c0<|by simp]
 refine wpAny_binaryOp_repeat_ref (by decide) ⟨_,e,rfl⟩ (λs'=>typeIs_int s' k t) noFill_list_mul F.fills_int_mul F.slot_int_rmul repeat_list F.slot_int_index.lookup
  (LC F.slot_int_rmul (typeIs_int s k t) F.entry_int_rmul (F.args_int_rmul_2 _ _) (int___rmul___int_list k t l its.toArray n)
   ⟨e,rfl,⟨_,e,rfl⟩,LC F.slot_list_mul ⟨_,e,rfl⟩ F.entry_list_mul (F.args_list_mul_2 _ _) (AutoListH.list___mul___list_int_3 l its.toArray n k t S M j) ⟨e,?_⟩⟩)
 rw[W];exact⟨.ref _,_,I.Zj (r.rep k.toNat)<|by rw[len_rep,Nat.mul_comm];exact hz,rfl,q _ I.fresh⟩
end
theorem Vals.ints:∀{ns:Bc}{us:Bb},Vals (ns.map V.int) us->IntsAre us ns
 |[],us,h=>by rw[HD]at h;cases h;exact IntsAre.nil
 |n::ns,us,h=>by
  rw[ip]at h;cases h with
  |cons r t=>obtain⟨k,rfl⟩:=r;exact IntsAre.cons n k<|Vals.ints t
theorem Vals.bls:∀{bs:List Bool}{us:Bb},Vals (bs.map V.bl) us->us=bs.map Value.bool
 |[],us,h=>by rw[HD]at h;cases h;rfl
 |b::bs,us,h=>by
  rw[ip]at h;cases h with
  |cons r t=>cases r;rw[Vals.bls t,ip]
def Vals.V1(r:Vals [V.ref a] us):us=[Value.ref a]:=by
 cases r with
 |cons r t=>cases t;cases r;rfl
section
variable{prog:Program}{w:World}{A:Around}{E:Bd}{s:Shared}{l:Addr}{its:Bb}{ns:Bc}{Q:Bd}
def Sd(F:A.handled=none)(j:s.heap.IsList l its.toArray)(hi:IntsAre its ns)
  (h:∀h' tk t',(∀b o,s.heap.get? b=some o->h'.get? b=some o)->Q (.int ns.sum t') {s with heap:=h',toks:=tk}):wpAny (model prog w) A (call (.builtin "sum") [.ref l]) Q E s:=by
 obtain⟨xs,e⟩:=hi.allInts.items;have z:numsOf (intItems xs).toList=ns:=by rw[<-e];exact hi.numsOf
 rw[nums_intItems]at z;rw[e]at j;refine PySem.sum_intListG F j λh' tk t' hk=>?_;have:=h h' tk t' hk;rw[preSum_eq,Oc<|by simp,z];exact this
end
section
variable{X:Cx}
def Se(K:cn):List V->Hp->VK->Prop:=λvs H Q=>B_ λ(a:Addr)(ns:Bc)=>vs=[V.ref a]/\az K H a (ns.map V.int)/\Q (.int ns.sum) H
def V2(j:X.calm=true):fb X (.builtin "sum")<|Se X.K:=by intro pins s σ H vs us Q I r h;obtain⟨a,ns,rfl,hs,q⟩:=h;obtain⟨its,z,F,_⟩:=I.list hs;rw[Vals.V1 r];exact Sd (I.ok.hd j) F.isList z.ints λh' tk t' hk=>⟨.int _,H,I.kept hk,⟨_,rfl⟩,q⟩
end
section
variable{X:Cx}
def Od(K:cn):V->List V->Hp->VK->Prop:=λx xs H Q=>E_ λ(a:Addr)(ys:List V)(y:V)(j:Nat)(z:V)=>x=V.ref a/\xs=[y]/\az K H a ys/\kP y=true/\ys.all kP=true/\ys[j]?=some z/\Ly z y=true/\
 (∀(m:Nat)(F:V),m<j->ys[m]?=some F->Ly F y=false)/\Q (.int (j:Nat)) H
def JZ{ys:List V}(f:ys.all kP=true){j:Nat}{z:V}(h:ys[j]?=some z):kP z=true:=wy.mp f z<|oA h
def Oe:Rk X "list.index"<|Od X.K:=by
 intro pins s σ H x xs v us Q I rx S h;obtain⟨a,ys,y,j,z,rfl,rfl,hs,fy,fys,hz,hzj,Rl,q⟩:=h;cases rx;cases S with
 |cons ry rt=>
  rename_i uy ut;cases rt;obtain⟨its,M,⟨⟨cls,dd,data,sl⟩,n,ho,hc,YD,hd⟩,hlen⟩:=I.list hs;simp only at hc hd;subst hc hd;obtain⟨u,hu,ru⟩:=M.get hz;obtain⟨U,W⟩:=l4.mp hu;have hvl:=M.length;have hj:j<its.toArray.size:=by simpa using U
  have Ut:=Pr
  refine LC PySem.F.slot_list_index ⟨_,ho,rfl⟩ PySem.F.entry_list_index (PySem.F.args_list_index_2 _ _)
   (SeqAt.list_indexAt a its.toArray n dd sl uy (G9 y) j hj (by lia) ?_ ?_) ⟨ho,λu' Y=>lN ry fy M fys u'<|by simpa using Y,?_⟩
  .have Z:its.toArray[j]=u:=by simpa using W
   rw[Z,BN ru<|JZ fys hz];exact hzj
  .intro m hm hmj;have HE:m<its.length:=by simpa using hm
   have hmy:m<ys.length:=by lia
   have J:ys[m]?=some ys[m]:=gs hmy;obtain⟨u2,Et,V3⟩:=M.get J;obtain⟨_,hme⟩:=l4.mp Et;have Z:its.toArray[m]=u2:=by simpa using hme
   rw[Z,BN V3<|JZ fys J];exact Rl m _ hmj J
  .exact⟨.int (j:Nat),H,I.tok _,⟨_,rfl⟩,q⟩
end
def Eu(z:s.heap.IsList l items)
  (h:∀j:Shared,j={s with heap:=s.heap.push {cls:=.type "list_iterator",data:=.fields #[.ref l,.int 0 0]}}->
   (j.heap.IsListIter s.heap.objs.size l 0/\j.heap.IsList l items)->l≠s.heap.objs.size->Q (.ref s.heap.objs.size) j):wpAny (model prog w) A (pyIter (.ref l)) Q E s:=by
 have F:l<s.heap.objs.size:=by obtain⟨_,e,_⟩:=z;exact ky e
 exact Ic z<|h _ rfl ⟨⟨_,m8 _ rfl,rfl,rfl⟩,z.push _⟩<|nP F
def uz{w:World}{bs:List Bool}(e:its=bs.map Value.bool):
  TruthOf prog w A (λi v=>its.toArray[i]?=some v) (λi=>bs.getD i false):=λi v s Q E F I=>by
 have j:its[i]?=some v:=by simpa using F
 rw[e,mq]at j;obtain⟨b,J,rfl⟩:=Option.map_eq_some_iff.mp j;have M:bs.getD i false=b:=by rw[F4,J]<;>rfl
 have z:Q (bs.getD i false) s:=I;rw[M]at z;exact F6 z
theorem any_range:∀bs:List Bool,(List.range bs.length).any (λi=>bs.getD i false)=bs.any id
 |[]=>rfl
 |b::bs=>by
  rw[kA,YC,Kh,TJ,Kh,<-any_range bs]
  all_goals rfl
theorem all_range:∀bs:List Bool,(List.range bs.length).all (λi=>bs.getD i false)=bs.all id
 |[]=>rfl
 |b::bs=>by
  rw[kA,YC,B4,Kf,B4,<-all_range bs]
  all_goals rfl
section
variable{X:Cx}
def V4(K:cn):List V->Hp->VK->Prop:=λvs H Q=>B_ λ(a:Addr)(bs:List Bool)=>vs=[V.ref a]/\az K H a (bs.map V.bl)/\Q (.bl<|bs.any id) H
def V5(K:cn):List V->Hp->VK->Prop:=λvs H Q=>B_ λ(a:Addr)(bs:List Bool)=>vs=[V.ref a]/\az K H a (bs.map V.bl)/\Q (.bl<|bs.all id) H
def V6(S:X.calm=true):fb X (.builtin "any")<|V4 X.K:=by
 intro pins s σ H vs us Q I r h;obtain⟨a,bs,rfl,hs,q⟩:=h;obtain⟨its,U,W,_⟩:=I.list hs;rw[Vals.V1 r];have F:=U.bls;refine call_any_walk<|Eu W.isList λJ Y st z=>?_;subst Y;refine⟨_,_,_,_,_,_,_,rfl,Walks.list (A:=X.A.in1) (I.ok.hd S) _ a z its.toArray,st,uz F,λh' tk hk=>?_⟩;refine⟨.bl _,H,I.kept λb o M=>hk b o (λj=>?_)<|et _ M,?_,q⟩
 .rcases eH.mp j with Z|j
  .exact absurd (Z▸ky M)<|Dj _
  .cases j
 .show Value.bool _=Value.bool _;rw[<-any_range,F,pd,ek]
def V7(S:X.calm=true):fb X (.builtin "all")<|V5 X.K:=by
 intro pins s σ H vs us Q I r h;obtain⟨a,bs,rfl,hs,q⟩:=h;obtain⟨its,U,W,_⟩:=I.list hs;rw[Vals.V1 r];have F:=U.bls;refine call_all_walk<|Eu W.isList λJ Y st z=>?_;subst Y;refine⟨_,_,_,_,_,_,_,rfl,Walks.list (A:=X.A.in1) (I.ok.hd S) _ a z its.toArray,st,uz F,λh' tk hk=>?_⟩;refine⟨.bl _,H,I.kept λb o M=>hk b o (λj=>?_)<|et _ M,?_,q⟩
 .rcases eH.mp j with Z|j
  .exact absurd (Z▸ky M)<|Dj _
  .cases j
 .show Value.bool _=Value.bool _;rw[<-all_range,F,pd,ek]
end
mutual
inductive Dp(K:cn)(H:Hp):V->PyData->Prop
 |eQ:Dp K H .eQ .none
 |bl (b:Bool):Dp K H (.bl b) (.bool b)
 |int (i:Int):Dp K H (.int i) (.int i)
 |str (x:Str):Dp K H (.str x) (.str x)
 |lst {a:Addr} {xs:List V} {ds:List PyData}:az K H a xs->wI K H xs ds->Dp K H (.ref a) (.list ds)
 |tup {a:Addr} {xs:List V} {ds:List PyData}:ee K H a xs->wI K H xs ds->Dp K H (.ref a) (.tuple ds)
inductive wI(K:cn)(H:Hp):List V->List PyData->Prop
 |nil:wI K H [] []
 |cons {v:V} {vs:List V} {d:PyData} {ds:List PyData}:Dp K H v d->wI K H vs ds->wI K H (v::vs) (d::ds)
end
section
variable{X:Cx}{pins:List<|Addr×Obj}{σ:St}{H:Hp}{s:Shared}
mutual
theorem Dp.reads(I:Inv X pins σ H s):∀(d:PyData)(v:V)(u:Value),Dp X.K H v d->RelV v u->∃j,Reads s.heap u d j
 |.none,_,_,h,r=>by cases h;cases r;exact⟨_,Reads.none⟩
 |.bool b,_,_,h,r=>by cases h;cases r;exact⟨_,Reads.bool b⟩
 |.int i,_,_,h,r=>by cases h;obtain⟨t,rfl⟩:=r;exact⟨_,Reads.int i t⟩
 |.str x,_,_,h,r=>by cases h;obtain⟨t,rfl⟩:=r;exact⟨_,Reads.str x t⟩
 |.list ds,_,_,h,r=>by
  cases h with
  |lst hs z=>cases r;obtain⟨its,F,⟨o,n,J,M,_,hd⟩,_⟩:=I.list hs;obtain⟨j,S⟩:=Dp.readsAll I ds _ its z F;exact⟨_,Reads.list J M hd S⟩
 |.tuple ds,_,_,h,r=>by
  cases h with
  |tup hs z=>cases r;obtain⟨its,F,⟨o,J,M,n,hd⟩,_⟩:=I.tuple hs;obtain⟨j,S⟩:=Dp.readsAll I ds _ its z F;exact⟨_,Reads.tuple J M hd S⟩
 |.dict _,_,_,h,_=>by cases h
theorem Dp.readsAll(I:Inv X pins σ H s):∀(ds:List PyData)(vs:List V)(us:Bb),wI X.K H vs ds->Vals vs us->∃j,ReadsAll s.heap us ds j
 |[],_,_,h,r=>by cases h;cases r;exact⟨_,ReadsAll.nil⟩
 |d::ds,_,_,h,r=>by
  cases h with
  |cons h1 h2=>
   cases r with
   |cons z F=>obtain⟨j,J⟩:=Dp.reads I d _ _ h1 z;obtain⟨bs,M⟩:=Dp.readsAll I ds _ _ h2 F;exact⟨_,ReadsAll.cons J M⟩
end
end
section
variable{X:Cx}
def Zm(K:cn):R2:=λx y H Q=>B_ λd e=>Dp K H x d/\Dp K H y e/\SeqAt.shaped d=true/\SeqAt.shaped e=true/\Q (.bl<|PyData.eqv d e) H
def V8(j:X.A.units+64<cLine):nu X (compareOp .Eq)<|Zm X.K:=by intro pins s σ H x y v u Q I z F h;obtain⟨d,e,hd,J,M,S,q⟩:=h;obtain⟨Y,U⟩:=Dp.reads I d x v hd z;obtain⟨bs,W⟩:=Dp.reads I e y u J F;exact SeqAt.compareEq_shaped U W M S j ⟨.bl _,H,I,rfl,q⟩
end
abbrev Of(h:Heap)(c:Addr)(v:BJ):Prop:=h.IsCell c v
def ady(scope sc:Scope):Scope:={scope with names:=scope.names.map λ(n,k)=>if(k==.free&&sc.kind==.function&&sc.names.lookup n==some .cell)then(n,.cell)else(n,k)}
def bQ(cells:List<|Str×Addr):List (Str×NameKind)->List (Str×Addr)->List (Str×Addr)
 |[],acc=>acc
 |(n,k)::r,acc=>if k==.free then bQ cells r ((n,(cells.lookup n).getD 0)::acc)else bQ cells r acc
theorem rF(env:Env)(f:Str×NameKind->List (Str×Addr)->Sem (ForInStep<|List<|Str×Addr))
  (j:∀n k c,f (n,k) c=if k==.free then(do let a<-cellOf env n;pure (.yield<|(n,a)::c))else pure (.yield c)):
  ∀(names:List<|Str×NameKind)(acc:List<|Str×Addr),(∀y∈names,y.2=.free->∃c,env.cells.lookup y.1=some c)->forIn names acc f=pure (bQ env.cells names acc)
 |[],acc,_=>by rw[GS];rfl
 |(n,k)::r,acc,h=>by
  rw[F9,j];have z:=λacc=>rF env f j r acc λy I=>h y<|kB _ I;unfold bQ;by_cases hk:(k==NameKind.free)=true
  .rw[dt hk,dt hk];obtain⟨c,F⟩:=h (n,k) lx (by simpa using hk);have e:cellOf env n=pure c:=by unfold cellOf;rw[F]
   rw[e];have J:(env.cells.lookup n).getD 0=c:=by rw[F];rfl
   rw[J];exact z _
  .rw[c0 hk,c0 hk];exact z _
def wJ(h:∀y∈scope.names,y.2=.free->∃c,env.cells.lookup y.1=some c):closureFor scope env=pure (bQ env.cells scope.names []):=by simp only[closureFor];rw[rF env _ (λn k c=>rfl) scope.names [] h];rfl
theorem mem_lookup{j:Type}:∀{l:List<|Str×j}{n:Str}{c:j},(n,c)∈l->∃z,l.lookup n=some z
 |(k,v)::r,n,c,h=>by
  rw[anL];cases F:n==k with
  |true=>exact⟨_,rfl⟩
  |false=>
   rcases eH.mp h with e|h
   .cases e;simp at F
   .exact mem_lookup h
theorem jy:∀{names:List<|Str×NameKind}{acc:List<|Str×Addr}{n:Str}{c:Addr},(n,c)∈bQ cells names acc->(n,c)∈acc\/((n,.free)∈names/\c=(cells.lookup n).getD 0)
 |[],_,_,_,h=>.inl h
 |(m,k)::r,acc,n,c,h=>by
  unfold bQ at h;split at h
  .rename_i hk;have hk:k=.free:=by simpa using hk
   rcases jy h with h|⟨h1,h2⟩
   .rcases eH.mp h with e|h
    .cases e;exact .inr ⟨hk▸lx,rfl⟩
    .exact .inl h
   .exact .inr ⟨kB _ h1,h2⟩
  .rcases jy h with h|⟨h1,h2⟩
   .exact .inl h
   .exact .inr ⟨kB _ h1,h2⟩
theorem nQ:∀{names:List<|Str×NameKind}{acc:List<|Str×Addr}{p:Str×Addr},p∈acc->p∈bQ cells names acc
 |[],_,_,h=>h
 |(m,k)::r,acc,p,h=>by
  unfold bQ;split
  .exact nQ<|kB _ h
  .exact nQ h
theorem jz:∀{names:List<|Str×NameKind}{acc:List<|Str×Addr}{n:Str},(n,.free)∈names->(n,(cells.lookup n).getD 0)∈bQ cells names acc
 |(m,k)::r,acc,n,h=>by
  unfold bQ;rcases eH.mp h with e|h
  .cases e;exact nQ lx
  .split
   .exact jz h
   .exact jz h
theorem lP:∀{names:List<|Str×NameKind}{h:Heap}{acc:List<|Str×Addr}{x:Str}{c:Addr},(x,c)∈cellsFrom h.objs.size names acc->
  (x,c)∈acc\/((x,.cell)∈names/\h.objs.size<=c/\Of (pushCells h names) c none)
 |[],_,_,_,_,h=>.inl h
 |(n,k)::r,h,acc,x,c,j=>by
  unfold cellsFrom at j;unfold pushCells;split at j
  .rename_i hk;rw[dt hk];have hk:k=.cell:=by simpa using hk
   rw[<-vr h {cls:=.type "cell",data:=.cell none}]at j;rcases lP j with j|⟨h1,h2,z⟩
   .rcases eH.mp j with e|j
    .cases e;exact .inr ⟨hk▸lx,ez _,_,Xj r _ _ _<|m8 _ rfl,rfl⟩
    .exact .inl j
   .rw[vr]at h2;exact .inr ⟨kB _ h1,Za h2,z⟩
  .rename_i hk;rw[c0 hk];rcases lP j with j|⟨h1,h2,z⟩
   .exact .inl j
   .exact .inr ⟨kB _ h1,h2,z⟩
theorem oV:∀{names:List<|Str×NameKind}{n:Nat}{acc:List<|Str×Addr}{p:Str×Addr},p∈acc->p∈cellsFrom n names acc
 |[],_,_,_,h=>h
 |(m,k)::r,n,acc,p,h=>by
  unfold cellsFrom;split
  .exact oV<|kB _ h
  .exact oV h
theorem sZ:∀{names:List<|Str×NameKind}{n:Nat}{acc:List<|Str×Addr}{x:Str},(x,.cell)∈names->∃c,(x,c)∈cellsFrom n names acc
 |(m,k)::r,n,acc,x,h=>by
  unfold cellsFrom;rcases eH.mp h with e|h
  .cases e;exact⟨n,oV lx⟩
  .split
   .exact sZ h
   .exact sZ h
theorem tj:∀{names:List<|Str×NameKind}{h:Heap}{acc:List<|Str×Addr}{x y:Str}{c:Addr},(∀p∈acc,p.2<h.objs.size)->(∀x y c,(x,c)∈acc->(y,c)∈acc->x=y)->
  (x,c)∈cellsFrom h.objs.size names acc->(y,c)∈cellsFrom h.objs.size names acc->x=y
 |[],_,_,_,_,_,_,hi,h1,h2=>hi _ _ _ h1 h2
 |(n,k)::r,h,acc,x,y,c,hl,hi,h1,h2=>by
  unfold cellsFrom at h1 h2;split at h1
  .rename_i hk;rw[dt hk]at h2;rw[<-vr h {cls:=.type "cell",data:=.cell none}]at h1 h2;refine tj (h:=h.push _) (λp j=>?_) (λx y c a b=>?_) h1 h2
   .rw[vr];rcases eH.mp j with rfl|j
    .exact QY _
    .exact Q1<|hl p j
   .rcases eH.mp a with e|a<;>rcases eH.mp b with z|b
    .cases e;cases z;rfl
    .cases e;exact absurd (hl _ b)<|Dj _
    .cases z;exact absurd (hl _ a)<|Dj _
    .exact hi _ _ _ a b
  .rename_i hk;rw[c0 hk]at h2;exact tj hl hi h1 h2
def Ew{A:Around}{s:Shared}{globals:Addr}{qual:Str}{code:Value}{z:Addr}
  (h:Q (newEnv scope s.heap.objs.size globals (cellsFrom (s.heap.objs.size+1) scope.names j) qual I code (some F) z)
   {s with heap:=pushCells (s.heap.push {cls:=.type "dict",data:=.dict #[]}) scope.names}):
  wpAny M A (newFunctionEnv scope globals j [] qual I code (some F) z) Q E s:=by
 simp only[newFunctionEnv,Option.isSome_some,Pt];refine a0<|wpAny_alloc ?_;refine a0<|wpAny_layCells _ (λn k c=>rfl) scope.names j _ _ ?_;rw[show({s with heap:=s.heap.push {cls:=.type "dict",data:=.dict #[]}}:Shared).heap.objs.size=s.heap.objs.size+1 from vr ..];rw[GS];exact a0<|er<|er h
theorem nR{sc:Scope}:∀{names:List<|Str×NameKind}{x:Str}{k:NameKind},
  (names.map λ(n,k)=>if(k==NameKind.free&&sc.kind==.function&&sc.names.lookup n==some .cell)then(n,NameKind.cell)else(n,k)).lookup x=some k->
  ∃F,names.lookup x=some F/\(k=F\/(F=.free/\k=.cell))
 |[],_,_,h=>by simp at h
 |(n,Og)::r,x,k,h=>by
  have I:=@nR sc r x k;have h':List.lookup x ((if(Og==NameKind.free&&sc.kind==.function&&sc.names.lookup n==some .cell)=true then(n,NameKind.cell)else(n,Og))::(r.map _))=some k:=h;cases z:x==n with
  |true=>
   simp only[anL,z];by_cases j:(Og==NameKind.free&&sc.kind==.function&&sc.names.lookup n==some .cell)=true
   .rw[dt j]at h';simp only[anL,z]at h';cases h';simp only[p0,LM]at j;exact⟨Og,rfl,.inr ⟨j.1.1,rfl⟩⟩
   .rw[c0 j]at h';simp only[anL,z]at h';cases h';exact⟨_,rfl,.inl rfl⟩
  |false=>
   simp only[anL,z];by_cases j:(Og==NameKind.free&&sc.kind==.function&&sc.names.lookup n==some .cell)=true
   .rw[dt j]at h';simp only[anL,z]at h';exact I h'
   .rw[c0 j]at h';simp only[anL,z]at h';exact I h'
structure Ex(N:Ba)(sc scope:Scope)(own:List<|Str×Nat):Prop where
 kind:scope.kind=.function
 uniq:∀y∈scope.names,scope.names.lookup y.1=some y.2
 ix:∀p∈own,N[p.2]?=some p.1
 free:∀y∈scope.names,y.2=.free->sc.names.lookup y.1=some .cell\/sc.names.lookup y.1=some .free
 own:∀y∈scope.names,y.2=.local\/y.2=.cell->y.1∈own.map (·.1)\/y.1∉N
def wipe(σ:St):AU->St
 |[]=>σ
 |v::vs=>(wipe σ vs).set v none
theorem nS(σ:St):∀vs:AU,(wipe σ vs).length=σ.length
 |[]=>rfl
 |v::vs=>by unfold wipe;rw[Uc,nS σ vs]
theorem tm:∀{vs:AU},(wipe σ vs)[i]?=some (some x)->σ[i]?=some (some x)/\i∉vs
 |[],h=>⟨h,by simp⟩
 |v::vs,h=>by
  unfold wipe at h;by_cases hi:v=i
  .subst hi;by_cases j:v<(wipe σ vs).length
   .rw[ao0 j]at h;cases h
   .rw[Pm<|by simpa using j]at h;cases h
  .rw[api hi]at h;obtain⟨h1,h2⟩:=tm h;exact⟨h1,by simp only[eH,y3];exact⟨λe=>hi e.symm,h2⟩⟩
abbrev Cx.BS(X:Cx)(s:Shared)(H:Hp)(scope:Scope)(j:Env)(z:Bf):Cx:={X with yV:=s,XR:=H,env:=j,outer:=X.stack,ex:=z,fn:=λx=>scope.names.lookup x==some .cell,pn:=[],xe:=λ_ _=>False}
section
variable{X:Cx}{pins:List<|Addr×Obj}{σ:St}{H:Hp}{s:Shared}
def Ez{scope:Scope}(I:Inv X pins σ H s)(ok:Ex X.N X.env.scope scope own)(hN:X.N.Nodup)(J:∀b∈fp,gP X pins H b/\b<s.heap.objs.size):
  Inv (X.BS s H scope (compEnvC scope (cellsFrom (s.heap.objs.size+1) scope.names<|bQ X.env.cells scope.names []) s.heap.objs.size X.env) fp) [] (wipe σ<|own.map (·.2)) H {s with heap:=pushCells (s.heap.push {cls:=.type "dict",data:=.dict #[]}) scope.names}:=by
 have pQ:∀y∈scope.names,y.2=.free->∃c,X.env.cells.lookup y.1=some c:=λy Y e=>by
  rcases ok.free y Y e with k|k
  .exact I.ok.has _ (.inl k)
  .exact I.ok.has _ (.inr k)
 generalize j:compEnvC scope (cellsFrom (s.heap.objs.size+1) scope.names<|bQ X.env.cells scope.names []) s.heap.objs.size X.env=iy;have kp:∀b o,s.heap.get? b=some o->(pushCells (s.heap.push {cls:=.type "dict",data:=.dict #[]}) scope.names).get? b=some o:=λb o e=>Xj _ _ _ _<|et _ e;have hL:iy.locals=s.heap.objs.size:=by rw[<-j];rfl
 have F:iy.cells=cellsFrom (s.heap.objs.size+1) scope.names (bQ X.env.cells scope.names []):=by rw[<-j];rfl
 have Uu:iy.scope=ady scope X.env.scope:=by rw[<-j];rfl
 rw[<-vr s.heap {cls:=.type "dict",data:=.dict #[]}]at F;have cm:∀{y c},(y,c)∈bQ X.env.cells scope.names []->X.env.cells.lookup y=some c/\c<s.heap.objs.size:=λ{y c} M=>by
  rcases jy M with M|⟨h1,rfl⟩
  .cases M
  .obtain⟨c,hc⟩:=pQ _ h1 rfl;rw[hc];obtain⟨w,z⟩:=I.cell _ _ hc;exact⟨rfl,z.lt⟩
 have mem:∀{y c},iy.cells.lookup y=some c->(X.env.cells.lookup y=some c/\c<s.heap.objs.size)\/(s.heap.objs.size+1<=c/\Of (pushCells (s.heap.push {cls:=.type "dict",data:=.dict #[]}) scope.names) c none):=λ{y c} e=>by
  rw[F]at e;rcases lP (xn e)with M|⟨_,h2,h3⟩
  .exact .inl<|cm M
  .rw[vr]at h2;exact .inr ⟨h2,h3⟩
 have look:∀{y},scope.names.lookup y=some .free->∃c,iy.cells.lookup y=some c/\X.env.cells.lookup y=some c:=λ{y} hl=>by
  have Y:(y,NameKind.free)∈scope.names:=xn hl;obtain⟨c',S⟩:=mem_lookup<|oV (names:=scope.names) (n:=(s.heap.push {cls:=.type "dict",data:=.dict #[]}).objs.size)<|jz (cells:=X.env.cells) (acc:=[]) Y;rw[<-F]at S;refine⟨c',S,?_⟩;rw[F]at S;rcases lP (xn S)with M|⟨h1,_,_⟩
  .exact(cm M).1
  .have:=ok.uniq _ h1;rw[hl]at this;cases this
 have okB:(X.BS s H scope iy fp).Ok:=by
  refine⟨I.ok.mod,by show iy.scope.kind=_;rw[Uu];exact ok.kind,by show iy.globals=_;rw[<-j];exact I.ok.glob,by show iy.builtins=_;rw[<-j];exact I.ok.blt,by show s.heap.objs.size<=iy.locals;rw[hL];exact ez _,
   λy z c e1 e2=>?_,λy Y=>?_,λy c z e=>?_,I.ok.hd,I.ok.frames,.inl rfl,λb hb=>⟨?_,λy c e z=>?_⟩,I.bs,lp I.ok.Q0 I.sz,λb o e hb=>?_,λb hb z=>?_,I.stack,I.BF⟩
  .have e1:iy.cells.lookup y=some c:=e1;have e2:iy.cells.lookup z=some c:=e2;rw[F]at e1 e2;refine tj (λp hp=>?_) (λy z c a b=>I.ok.inj y z c (cm a).1 (cm b).1) (xn e1)<|xn e2;rw[vr];exact Q1 (cm (y:=p.1) (c:=p.2) hp).2
  .show∃c,iy.cells.lookup y=some c;have U:∀k,iy.kindOf y=some k->(k=.cell\/k=.free)->∃c,iy.cells.lookup y=some c:=λk hk Bx=>by
    unfold Env.kindOf at hk;rw[Uu]at hk;obtain⟨k',e,r⟩:=nR hk;have:k'=.cell\/k'=.free:=by
     rcases r with rfl|⟨rfl,_⟩
     .exact Bx
     .exact .inr rfl
    rcases this with rfl|rfl
    .obtain⟨c,M⟩:=sZ (n:=(s.heap.push {cls:=.type "dict",data:=.dict #[]}).objs.size) (acc:=bQ X.env.cells scope.names [])<|xn e;obtain⟨c',S⟩:=mem_lookup M;exact⟨c',by rw[F];exact S⟩
    .obtain⟨c,h1,_⟩:=look e;exact⟨c,h1⟩
   rcases Y with Y|Y
   .exact U _ Y (.inl rfl)
   .exact U _ Y (.inr rfl)
  .have z:(scope.names.lookup y==some NameKind.cell)=true:=z;have z:scope.names.lookup y=some .cell:=by simpa using z
   have e:iy.cells.lookup y=some c:=e;rw[F]at e;rcases lP (xn e)with M|⟨_,h2,_⟩
   .rcases jy M with M|⟨h1,_⟩
    .cases M
    .have q:=ok.uniq _ h1;rw[z]at q;cases q
   .rw[vr]at h2;exact Za h2
  .show b≠iy.locals;rw[hL];exact nP (J b hb).2
  .have e:iy.cells.lookup y=some c:=e;rcases mem e with⟨h1,_⟩|⟨h1,_⟩
   .exact(J b hb).1.2.2.2.2.1 y c h1 z
   .have h2:s.heap.objs.size+1<=b:=by rw[<-z];exact h1
    exact absurd (sd (J b hb).2<|Za h2)<|Dj _
  .rcases(J b hb).1.2.2.2.1 with z|z
   .exact I.ok.NK b o e z
   .exact absurd (sd (ky e)<|lp I.ok.Q0 z)<|Dj _
  .rcases eH.mp (I.BE b z)with z|z
   .exact(J b hb).1.2.1 z
   .exact(J b hb).1.2.2.1 z
 refine⟨okB,rfl,I.bare,Un.kept kp,⟨λ_=>none,?_,λi y av e1 e2 W=>?_⟩,λy c e=>?_,?_,λy c e=>?_,λp hp=>?_,I.c7.kept kp,by rw[nS];exact I.len⟩
 .show Heap.Ns _ iy.locals _;rw[hL];exact Heap.Ns.keeps (Heap.Ns.new ..) λb o e=>Xj _ _ _ _ e
 .obtain⟨e2,iw⟩:=tm e2;have Z:scope.names.lookup y=some .free/\(iy.kindOf y=some .cell\/iy.kindOf y=some .free):=by
   have U:∀k,iy.scope.names.lookup y=some k->k=.local\/k=.cell\/k=.free->scope.names.lookup y=some .free/\(iy.kindOf y=some .cell\/iy.kindOf y=some .free):=λk hk Bx=>by
    have V9:=hk;rw[Uu]at hk;obtain⟨k',e,r⟩:=nR hk;have no:¬(k'=.local\/k'=.cell):=λhh=>by
     rcases ok.own _ (xn e) hh with S|S
     .obtain⟨p,hp,hpy⟩:=n8.mp S;have W:=ok.ix p hp;have:p.1=y:=hpy;rw[this]at W;exact iw<|n8.mpr ⟨p,hp,wo hN W e1⟩
     .exact S<|oA e1
    rcases r with rfl|⟨rfl,rfl⟩
    .rcases Bx with rfl|rfl|rfl
     .exact absurd (.inl rfl) no
     .exact absurd (.inr rfl) no
     .exact⟨e,.inr V9⟩
    .exact⟨e,.inl V9⟩
   have W:Vs iy.scope y:=W;rcases W with W|W|W
   .exact U _ W (.inl rfl)
   .exact U _ W (.inr (.inl rfl))
   .exact U _ W (.inr (.inr rfl))
  obtain⟨m,hn,hl⟩:=I.loc;have adz:Vs X.env.scope y:=(ok.free _ (xn Z.1) rfl).elim (λk=>.inr (.inl k)) λk=>.inr (.inr k);obtain⟨w,r,q⟩:=hl i y av e1 e2 adz;refine⟨w,r,.inr ⟨Z.2,?_⟩⟩;obtain⟨c,h1,h2⟩:=look Z.1;rcases q with⟨k,_⟩|⟨_,c',S,z⟩
  .have k:X.env.scope.names.lookup y=some .local:=k;rcases ok.free _ (xn Z.1) rfl with k' |k'<;>rw[show X.env.scope.names.lookup y=_ from k']at k<;>cases k
  .rw[h2]at S;cases S;exact⟨c,h1,z.keeps kp⟩
 .have e:iy.cells.lookup y=some c:=e;rcases mem e with⟨h1,_⟩|⟨_,z⟩
  .obtain⟨w,z⟩:=I.cell y c h1;exact⟨w,z.keeps kp⟩
  .exact⟨_,z⟩
 .show H iy.locals=none;rw[hL];exact I.c7.fresh<|ez _
 .have e:iy.cells.lookup y=some c:=e;rcases mem e with⟨h1,_⟩|⟨h1,_⟩
  .exact I.lL y c h1
  .exact I.c7.fresh<|Za h1
 .exact absurd (show p∈([]:List<|Addr×Obj)++[]from hp) (by simp)
def Wa(I:Inv X pins σ H s)(z:H D=some (.lst xs))(hz:xs.length<sizeLine)(r:RelV y v)
  (h:∀s',Inv X pins σ (upd H D (.lst<|xs++[y])) s' ->Q .none s'):wpAny (model X.prog X.w) X.A (call (.builtin "list.append") [.ref D,v]) Q E s:=by
 obtain⟨J,its,n,F,e⟩:=I.c7 D _ z;have U:=F.length;refine append_at (hsz:=by rw[pd];lia) e λh' M j=>?_;refine h {s with heap:=h'}<|I.write (t':=s.toks) (by rw[z];trivial) (.inl rfl) (λb u S q=>(M.2 b S).trans q) ⟨_,j⟩ ⟨by rw[mu];exact hz,its++[v],n+1,F.append (.cons r .nil),?_⟩;rw[j];simp
def Zn(X:Cx)(j:List Expr)(t:TT):Prop:=
 ∀(pins:List<|Addr×Obj)(s:Shared)(σ:St)(H:Hp)(Q:Bool->Hp->Prop),Inv X pins σ H s->t σ H Q->
  wpAny (model X.prog X.w) X.A (forIn j true λc r=>if r=true then do let ok<-isTrue c X.env (eval c X.env);pure (ForInStep.yield ok)else pure (ForInStep.yield r)) (TP X pins σ Q) X.xe s
def Sf:TT:=λ_ H Q=>Q true H
def bR:Zn X [] Sf:=λ_ _ _ H _ I h=>wpAny_tests_nil ⟨H,I,h⟩
def jS(h:PT X c t):Zn X [c] t:=λpins s σ H Q I j=>wpAny_tests_one<|h pins s σ H Q I j
end
def LB{j:Type}{t:Sem j}{Q F:j->Shared->Prop}(h:wpAny M A t Q (λ_ _=>False) s)(I:∀a s,Q a s->F a s):wpAny M A t F E s:=y2 h I λ_ _ z=>False.elim z
def BU(I:Nat->Shared->Prop)
  (turn:∀n s,I n s->wpAny (model prog w) A (pyNext it) (λr z=>match r with
   |none=>R (.ok .next) z
   |some v=>wpAny (model prog w) A (letOwnedTupleGo j it v) (λ_ F=>wpAny (model prog w) A (assign j env v) (λ_ M=>
    wpAny (model prog w) A (forIn Z true λc r=>if r=true then do let ok<-isTrue c env (eval c env);pure (ForInStep.yield ok)else pure (ForInStep.yield r)) (λok J=>
     if ok=true then wpAny (model prog w) A (eval elt env) (λx S=>wpAny (model prog w) A (call (.builtin "list.append") [acc,x]) (λ_ U=>∃m,m<n/\I m U) (notedBy (model prog w) A env λe s'=>R (.error e) s') S) (notedBy (model prog w) A env λe s'=>R (.error e) s') J
     else∃m,m<n/\I m J) (notedBy (model prog w) A env λe s'=>R (.error e) s') M) (notedBy (model prog w) A env λe s'=>R (.error e) s') F) (notedBy (model prog w) A env λe s'=>R (.error e) s') z) (notedBy (model prog w) A env λe s'=>R (.error e) s') s)
  (n:Nat)(h:I n s):
  codeAny (model prog w) A (.compLoop (.ListComp elt [⟨j,iter,Z,0⟩] scope pos) 0 it acc env) R s:=by
 refine codeAny_loop rfl I (λn s hI=>?_) n h;refine wpAny_noted ?_;rw[compTurn_list];refine a0<|XM<|a0<|y2 (turn n s hI) (λr z W=>?_) λ_ _ h'=>h';cases r with
 |none=>exact er W
 |some v=>
  refine a0<|y2 W (λ_ F Zq=>?_) λ_ _ h'=>h';refine a0<|y2 Zq (λ_ M Oh=>a0<|y2 Oh (λok J Y=>?_) λ_ _ h'=>h') λ_ _ h'=>h';cases ok with
  |false=>exact er ⟨rfl,Y⟩
  |true=>exact a0<|a0<|y2 Y (λx S adB=>a0<|y2 adB (λ_ U adC=>er<|er ⟨rfl,adC⟩) λ_ _ h'=>h') λ_ _ h'=>h'
section
variable{X:Cx}
def Zr(wi:TI)(g:TG)(tt:TT)(te:TE)(vs:AU):TE:=λσ H Q=>wi σ H λJ H1=>∀D,H1 D=none->∃W:Nat->Nat->Hp->Prop,(∃m,W 0 m<|upd H1 D (.lst []))/\∀i m H,W i m H->
 (J.stop i H/\Q (.ref D) H)\/(J.go i H/\∃z:Hp->Prop,(∀H',z H' ->∃F,F<m/\W (i+1) F H')/\∀x H',J.Nc i H x H' ->g x (wipe σ vs) H' λj H2=>wipe j vs=wipe σ vs/\tt j H2 λb H3=>if b=true then te j H3 λy I=>∃acc,I D=some (.lst acc)/\acc.length<sizeLine/\z (upd I D (.lst<|acc++[y]))else z H3)
def J0{s:Shared}{H:Hp}{elt tg iter:Expr}{scope:Scope}{pos pos':Pos}{g:TG}{te:TE}{Qf:Bd}
  (hc:X.calm=true)(hN:X.N.Nodup)(I:Inv X pins σ H s)(hi:PI X tg iter wi)(ok:Ex X.N X.env.scope scope own)
  (hg:∀(s:Shared)(H:Hp)(C:Addr)(cl:List<|Str×Addr)(F:Bf),PG (X.BS s H scope (compEnvC scope cl C X.env) F) tg g)(ht:∀(s:Shared)(H:Hp)(C:Addr)(cl:List<|Str×Addr)(F:Bf),Zn (X.BS s H scope (compEnvC scope cl C X.env) F) U tt)
  (he:∀(s:Shared)(H:Hp)(C:Addr)(cl:List<|Str×Addr)(F:Bf),PE (X.BS s H scope (compEnvC scope cl C X.env) F) elt te)(hs:∀x,foldedSetIterable iter X.env x=pure x)
  (h:Zr wi g tt te (own.map (·.2)) σ H Q)
  (hRR:∀D C s' m H',Inv X pins σ H' s' ->Q (.ref D) H' ->s'.heap.Ns C m->gP X pins H' C->compPost (model X.prog X.w) X.A X.xe use Qf (.ref D) C (.ok .next) s'):
  wpAny (model X.prog X.w) X.A (comprehension (.ListComp elt [⟨tg,iter,U,0⟩] scope pos) scope X.env pos' (newList []) false (eval iter X.env) use) Qf X.xe s:=by
 have pQ:∀y∈scope.names,y.2=.free->∃c,X.env.cells.lookup y.1=some c:=λy hy e=>by
  rcases ok.free y hy e with k|k
  .exact I.ok.has _ (.inl k)
  .exact I.ok.has _ (.inr k)
 refine wpAny_comprehension_free (use:=use) rfl hs (wJ pQ) ok.kind (λy hy e=>by rw[ok.uniq y hy,e])
  (eF (hi pins s σ H _ I h) λxv s1 hx=>eF hx λitv s2 h2=>?_)
 obtain⟨it,F,tn,J,H2,e,I2,T,st2,f2,q⟩:=h2;subst e;refine wpAny_newObj_type (Ew ?_) (by show 0<=sizeLine;decide);generalize hD:s2.heap.objs.size=D;have Zs:H2 D=none:=I2.c7.fresh<|SJ hD;obtain⟨W,⟨m0,w0⟩,turn⟩:=q D Zs;generalize hs3:({s2 with heap:=s2.heap.push {cls:=.type "list",data:=.seq ([]:Bb).toArray}}:Shared)=s3;have I3:Inv X pins σ (upd H2 D (.lst [])) s3:=by rw[<-hs3];refine I2.laid (t':=s2.toks) (λb o e=>et _ e) (SJ hD) ⟨ti _,[],0,.nil,?_⟩;rw[<-hD];exact m8 _ rfl
 have h3:s3.heap=s2.heap.push {cls:=.type "list",data:=.seq ([]:Bb).toArray}:=by rw[<-hs3]
 have sz:∀b∈F,b<s2.heap.objs.size:=λb M=>by obtain⟨o,e,_⟩:=T.obj _ _ st2 b M;exact ky e
 have f3:∀b∈F,gP X pins (upd H2 D (.lst [])) b/\b<s3.heap.objs.size:=λb M=>by have iW:=sz b M;refine⟨⟨?_,(f2 b M).2⟩,by rw[h3,vr];exact Q1 iW⟩;rw[aL<|by rw[<-hD];exact nP iW];exact(f2 b M).1
 have st3:tn 0 s3.heap:=T.keep _ _ _ st2 λb _ o e=>by rw[h3];exact et _ e
 have I4:=Ez I3 ok hN f3;have pg:=hg s3 (upd H2 D (.lst [])) s3.heap.objs.size (cellsFrom (s3.heap.objs.size+1) scope.names<|bQ X.env.cells scope.names []) F;have pt:=ht s3 (upd H2 D (.lst [])) s3.heap.objs.size (cellsFrom (s3.heap.objs.size+1) scope.names<|bQ X.env.cells scope.names []) F;have pe:=he s3 (upd H2 D (.lst [])) s3.heap.objs.size (cellsFrom (s3.heap.objs.size+1) scope.names<|bQ X.env.cells scope.names []) F;show codeAny _ _ (.compStart (.ListComp elt [⟨tg,iter,U,0⟩] scope pos) 0 (.ref it) (.ref D)<|compEnvC scope (cellsFrom (s3.heap.objs.size+1) scope.names<|bQ X.env.cells scope.names []) s3.heap.objs.size X.env) (compPost (model X.prog X.w) X.A X.xe use Qf (.ref D) s3.heap.objs.size) {s3 with heap:=pushCells (s3.heap.push {cls:=.type "dict",data:=.dict #[]}) scope.names};have nfp:∀b∈F,(upd H2 D (.lst [])) b=none:=λb M=>(f3 b M).1.1;generalize yL:compEnvC scope (cellsFrom (s3.heap.objs.size+1) scope.names<|bQ X.env.cells scope.names []) s3.heap.objs.size X.env=ce at I4 pg pt pe|-;have cL:ce.locals=s3.heap.objs.size:=by subst yL;rfl
 generalize hH3:upd H2 D (.lst [])=H3 at I3 I4 pg pt pe w0 nfp f3;generalize hs4:({s3 with heap:=pushCells (s3.heap.push {cls:=.type "dict",data:=.dict #[]}) scope.names}:Shared)=s4 at I4|-;have st4:tn 0 s4.heap:=T.keep _ _ _ st3 λb _ o e=>by rw[<-hs4];exact Xj _ _ _ _<|et _ e
 have S:∀{σ':St}{H':Hp}{s':Shared},Inv (X.BS s3 H3 scope ce F) [] σ' H' s' ->(∀b∈F,H' b=none)->∀b∈F,gP (X.BS s3 H3 scope ce F) [] H' b:=λ{σ' H' s'} I' hn b M=>⟨hn b M,(I'.ok.exf b M).1,I'.ok.NL b M,.inl M,λx c e=>(I'.ok.exf b M).2 x c e,λp hp=>absurd (show p∈([]:List<|Addr×Obj)++[]from hp)<|by simp⟩;have Z:codeAny (model X.prog X.w) X.A (.compLoop (.ListComp elt [⟨tg,iter,U,0⟩] scope pos) 0 (.ref it) (.ref D) ce) (compPost (model X.prog X.w) X.A X.xe use Qf (.ref D) s3.heap.objs.size) s4:=by
  refine BU (λn s'=>B_ λi H'=>Inv (X.BS s3 H3 scope ce F) [] (wipe σ<|own.map (·.2)) H' s'/\tn i s'.heap/\(∀b∈F,H' b=none)/\W i n H') ?_ m0 ⟨0,H3,I4,st4,nfp,w0⟩;rintro n s5⟨i,H5,I5,XU,n5,w5⟩;rcases turn i n H5 w5 with⟨stop,qq⟩|⟨go,Nx,hNx,step⟩
  .have td:=T.done (X.BS s3 H3 scope ce F) rfl rfl rfl hc i [] s5 _ H5 (λ_ _=>False) I5 (S I5 n5) XU stop;refine LB td λr s6⟨hr,I6⟩=>?_;subst hr;have I7:Inv X pins σ H5 s6:=I3.YQ (ch:=F) I6.os I6.base I6.c7 I6.bare λb M=>⟨(f3 b M).1.2.2.2.1,(f3 b M).1.2.1,(f3 b M).1.2.2.2.2.1,(f3 b M).1.2.2.2.2.2⟩;have nC:H5 s3.heap.objs.size=none:=by have z:H5 ce.locals=none:=I6.free;rw[cL]at z;exact z
   obtain⟨m,hn,_⟩:=I6.loc;have hn:s6.heap.Ns ce.locals m:=hn;rw[cL]at hn;exact hRR D s3.heap.objs.size s6 m H5 I7 qq hn<|I3.qe (ez _) nC
  .have ti:=T.item (X.BS s3 H3 scope ce F) rfl rfl rfl hc i [] s5 _ H5 (λ_ _=>False) I5 (S I5 n5) XU go;refine LB ti λr s6⟨u,hr,h6⟩=>?_;subst hr;refine LB h6 λ_ s7⟨x,H7,I7,r7,y7,st7,n7⟩=>?_;have I7':=I7.pinned (S I7 n7)<|T.obj _ _ st7;refine LB (pg _ s7 _ H7 x u _ I7' r7<|step x H7 y7) λ_ s8⟨Y,H8,I8,hw8,q8⟩=>?_;refine LB (pt _ s8 Y H8 _ I8 q8) λb s9⟨H9,I9,q9⟩=>?_;have fin:∀{s':Shared}{H':Hp},Inv (X.BS s3 H3 scope ce F) ([]++wB F s7.heap) Y H' s' ->Nx H' ->∃m,m<n/\B_ λi H'=>Inv (X.BS s3 H3 scope ce F) [] (wipe σ<|own.map (·.2)) H' s'/\tn i s'.heap/\(∀b∈F,H' b=none)/\W i m H':=λ{s' H'} I' nx=>by
    obtain⟨m',hm,w'⟩:=hNx H' nx;have Zt:∀b∈F,∀o,s7.heap.get? b=some o->s'.heap.get? b=some o/\H' b=none:=λb M o e=>
     let z:=I'.pin (b,o) (B9 _<|B9 _<|qg M e)
     ⟨z.1,z.2.1⟩
    have hl:(wipe σ<|own.map (·.2)).length=Y.length:=by rw[<-hw8,nS]
    refine⟨m',hm,i+1,H',(I'.rA (pins:=[])).weak hl λj v e=>?_,T.keep _ _ _ st7 λb M o e=>(Zt b M o e).1,λb M=>?_,w'⟩
    .rw[<-hw8]at e;exact(tm e).1
    .obtain⟨o,e,_⟩:=T.obj _ _ st7 b M;exact(Zt b M o e).2
   cases b with
   |false=>simp only[Pd,LI]at q9|-;exact fin I9 q9
   |true=>simp only[Pt]at q9|-;refine LB (pe _ s9 Y H9 _ I9 q9) λz s10⟨yv,H10,I10,r10,acc,adE,adF,nx⟩=>?_;exact Wa (X:=X.BS s3 H3 scope ce F) I10 adE adF r10 λs11 I11=>fin I11 nx
 exact codeAny_compStart_list Z<|T.self X.A 0 _ _ _ st4 Z
def eM(F:X.calm=true)(J:X.N.Nodup)(hi:PI X tg iter wi)(ok:Ex X.N X.env.scope scope own)
  (M:∀(s:Shared)(H:Hp)(C:Addr)(cl:List<|Str×Addr)(z:Bf),PG (X.BS s H scope (compEnvC scope cl C X.env) z) tg g)(S:∀(s:Shared)(H:Hp)(C:Addr)(cl:List<|Str×Addr)(z:Bf),Zn (X.BS s H scope (compEnvC scope cl C X.env) z) j tt)
  (U:∀(s:Shared)(H:Hp)(C:Addr)(cl:List<|Str×Addr)(z:Bf),PE (X.BS s H scope (compEnvC scope cl C X.env) z) elt te)(hs:∀x,foldedSetIterable iter X.env x=pure x:=by intro _;rfl):
  PE X (.ListComp elt [⟨tg,iter,j,0⟩] scope pos) (Zr wi g tt te<|own.map (·.2)):=by
 intro pins s σ H Q I h;rw[eval_ListComp];refine J0 F J I hi ok M S U hs h λD C s' m H' W q Y f=>⟨m,Y,λZ sb=>?_⟩;obtain⟨f0,f1,f2,f3,f4,f5⟩:=f;exact⟨.ref D,H',W.turned (λb o hb e=>(sb.2 b hb).trans e) f0 f1 f3 f4 f5,rfl,q⟩
def gA(hc:X.calm=true)(Z:X.N.Nodup)(hy:X.N[i]?=some y)(J:X.env.scope.names.lookup y=some .local)
  (U:swapsWith (.ListComp elt [⟨tg,iter,j,0⟩] scope pos) (some (.Name y S)) F.line X.env=pure true)(hi:PI X tg iter wi)(ok:Ex X.N X.env.scope scope own)
  (hg:∀(s:Shared)(H:Hp)(C:Addr)(cl:List<|Str×Addr)(M:Bf),PG (X.BS s H scope (compEnvC scope cl C X.env) M) tg g)(ht:∀(s:Shared)(H:Hp)(C:Addr)(cl:List<|Str×Addr)(M:Bf),Zn (X.BS s H scope (compEnvC scope cl C X.env) M) j tt)
  (he:∀(s:Shared)(H:Hp)(C:Addr)(cl:List<|Str×Addr)(M:Bf),PE (X.BS s H scope (compEnvC scope cl C X.env) M) elt te)(hs:∀x,foldedSetIterable iter X.env x=pure x:=by intro _;rfl):
  PS X (.Assign [.Name y S] (.ListComp elt [⟨tg,iter,j,0⟩] scope pos) F) (Lo (Zr wi g tt te<|own.map (·.2))<|eZ i):=by
 intro pins s σ H D I h;rw[exec_Assign_Name_used _ _ _ _ U];refine a0<|XM<|a0 ?_;show wpAny _ X.A (do let _<-comprehension (.ListComp elt [⟨tg,iter,j,0⟩] scope pos) scope X.env (firstIterPos [⟨tg,iter,j,0⟩] pos) (newList []) false (eval iter X.env) (some<|assign (.Name y S) X.env)) _ _ s;have h:Zr wi g tt te (own.map (·.2)) σ H λx H1=>eZ i x σ H1 D.nx:=h;refine a0<|eF (J0 (Qf:=λ_ s'=>SP X pins D .next s') hc Z I hi ok hg ht he hs h λL C s' m H' I' q hn f=>?_) λ_ s' hq=>er<|er hq;show wpAny _ _ (assign (.Name y S) X.env (.ref L)) _ _ _;refine wpAny_assign_Name<|AA (v:=V.ref L) I' Z hy (.inl J) rfl (λs2 I2⟨a,sb,ha⟩=>?_) (.inr J);obtain⟨f0,f1,f2,f3,f4,f5⟩:=f;have W:C≠a:=by
  rcases ha with z|z
  .rw[z];exact f1
  .exact λe=>f4 y a z e.symm
 refine⟨m,hn.sameBut sb W,λh3 Y=>?_⟩;exact⟨_,H',I2.turned (t':=s2.toks) (λb o hb e=>(Y.2 b hb).trans e) f0 f1 f3 f4 f5,q⟩
def iI(hk:env.scope.kind=.function)(F:env.scope.names.lookup y=some .local)(I:(j.line==pos.line)=true)
  (J:(scope.names.any λ(n,k)=>n==y&&(k==.local||k==.cell))=false):swapsWith (.ListComp elt z scope pos) (some (.Name y j)) l env=pure true:=by
 have M:env.kindOf y=some .local:=F;have S:env.blockKind=.function:=by unfold Env.blockKind;rw[hk];rfl
 unfold swapsWith;simp only[S,M,J];erw[I];rfl
end
def Zv(N:Ba)(sc scope:Scope)(own:List<|Str×Nat):Bool:=
 (match scope.kind with|.function=>true|_=>false)&&(scope.names.all λy=>decide<|scope.names.lookup y.1=some y.2)&&(own.all λp=>decide<|N[p.2]?=some p.1)&&
  (scope.names.all λy=>match y.2 with
   |.free=>(match sc.names.lookup y.1 with|some .cell=>true|some .free=>true|_=>false)
   |.local=>decide (y.1∈own.map (·.1))||decide (y.1∉N)
   |.cell=>decide (y.1∈own.map (·.1))||decide (y.1∉N)
   |_=>true)
def aU(h:Zv N sc scope own=true):Ex N sc scope own:=by
 unfold Zv at h;simp only[p0,wy,Oa]at h;obtain⟨⟨⟨h1,h2⟩,F⟩,z⟩:=h;refine⟨?_,h2,F,λy j e=>?_,λy j e=>?_⟩
 .split at h1
  .assumption
  .cases h1
 .have q:=z y j;simp only[e]at q;split at q<;>first|exact .inl (by assumption)|exact .inr (by assumption)|cases q
 .have q:=z y j;rcases e with e|e<;>(simp only[e,U0,Oa]at q;exact q)
section
variable{κ:Type}[DecidableEq κ]
def gz(kvs:List<|κ×V)(k:κ):Option V:=(kvs.find? λj=>decide<|j.1=k).map (·.2)
def putK(kvs:List<|κ×V)(k:κ)(v:V):List<|κ×V:=if(kvs.any λj=>decide<|j.1=k)=true then kvs.map (λj=>if j.1=k then(j.1,v)else j)else kvs++[(k,v)]
def Oi:gz ([]:List<|κ×V) k=none:=rfl
def fK{p:κ×V}(e:p.1=k):gz (p::r) k=some p.2:=by simp[gz,Q8,e]
def fL{p:κ×V}(e:¬p.1=k):gz (p::r) k=gz r k:=by simp[gz,Q8,e]
theorem jA(k:κ):∀kvs:List<|κ×V,(kvs.any λj=>decide<|j.1=k)=(gz kvs k).isSome
 |[]=>rfl
 |p::r=>by
  rw[Kh];by_cases e:p.1=k
  .simp only[fK e,ki e,Bool.true_or,Option.isSome_some]
  .rw[fL e,kx e,Bool.false_or];exact jA k r
theorem EC(k j:κ)(y:V):∀kvs:List<|κ×V,gz (kvs.map λF=>if F.1=k then(F.1,y)else F) j=(gz kvs j).map λx=>if j=k then y else x
 |[]=>rfl
 |p::r=>by
  have I:=EC k j y r;rw[ip];by_cases h:p.1=k
  .rw[dt h];by_cases e:p.1=j
   .rw[fK (p:=(p.1,y)) e,fK e,Me,dt<|e.symm.trans h]
   .rw[fL (p:=(p.1,y)) e,fL e,I]
  .rw[c0 h];by_cases e:p.1=j
   .rw[fK (p:=p) e,fK e,Me,c0 λz=>h<|e.trans z]
   .rw[fL (p:=p) e,fL e,I]
theorem AL(k j:κ)(y:V):∀kvs:List<|κ×V,gz kvs k=none->gz (kvs++[(k,y)]) j=if j=k then some y else gz kvs j
 |[],_=>by
  by_cases e:k=j
  .rw[dt e.symm];exact fK (p:=(k,y)) e
  .rw[c0 λz=>e z.symm];exact fL (p:=(k,y)) e
 |p::r,hn=>by
  rw[Ki];have hk:¬p.1=k:=λz=>by rw[fK z]at hn;cases hn
  rw[fL hk]at hn;have F:=AL k j y r hn;by_cases e:p.1=j
  .rw[fK e,fK e,c0 λz=>hk<|e.trans z]
  .rw[fL e,fL e,F]
def ED(kvs:List<|κ×V)(k j:κ)(y:V):gz (putK kvs k y) j=if j=k then some y else gz kvs j:=by
 unfold putK;by_cases a:(kvs.any λz=>decide<|z.1=k)=true
 .rw[dt a,EC];rw[jA]at a;by_cases e:j=k
  .obtain⟨x,F⟩:=aoJ.mp a;rw[dt e,e,F,Me,dt rfl]
  .rw[c0 e];cases gz kvs j with
   |none=>rfl
   |some x=>rw[Me,c0 e]
 .rw[c0 a];refine AL k j y kvs ?_;rw[jA]at a;cases q:gz kvs k with
  |none=>rfl
  |some x=>rw[q]at a;exact(a rfl).elim
def kQ(kvs:List<|κ×V)(k:κ)(v:V):(putK kvs k v).length<=kvs.length+1:=by
 unfold putK;split
 .rw[ek];lia
 .rw[mu,kA,wh];lia
def wK{kvs:List<|κ×V}(v:V)(h:gz kvs k=none):putK kvs k v=kvs++[(k,v)]:=by unfold putK;rw[jA,h];exact c0 (by decide)
def sT.lQ(r:sT o u):o.isSome=u.isSome:=by
 cases o with
 |none=>cases u with
  |none=>rfl
  |some _=>exact(r).elim
 |some _=>cases u with
  |none=>exact(r).elim
  |some _=>rfl
def KV.val{kvs:List<|κ×V}(r:KV kvs vs)(k:κ):sT (gz kvs k)<|valueAt vs k:=by
 unfold KV at r;induction r with
 |nil=>exact True.intro
 |@cons p q ps qs h t ih=>
  obtain⟨h1,h2⟩:=h;by_cases e:p.1=k
  .have j:q.1=k:=h1.symm.trans e;have b:valueAt (q::qs) k=some q.2:=by simp[valueAt,Q8,j]
   rw[fK e,b];exact h2
  .have j:¬q.1=k:=λz=>e<|h1.trans z;have b:valueAt (q::qs) k=valueAt qs k:=by simp[valueAt,Q8,j]
   rw[fL e,b];exact ih
def KV.any(r:KV kvs vs)(k:κ):(kvs.any λj=>decide<|j.1=k)=vs.any λj=>decide<|j.1=k:=by
 induction r with
 |nil=>rfl
 |cons h t z=>rw[Kh,Kh,z,h.1]
def KV.Wb(r:KV kvs vs)(k:κ)(F:RelV y u):
  KV (kvs.map λj=>if j.1=k then(j.1,y)else j) (vs.map λj=>if j.1=k then(j.1,u)else j):=by
 induction r with
 |nil=>exact .nil
 |@cons p q ps qs h t ih=>
  rw[ip,ip];refine .cons ?_ ih;obtain⟨h1,h2⟩:=h;by_cases e:p.1=k
  .rw[dt e,dt<|h1.symm.trans e];exact⟨h1,F⟩
  .rw[c0 e,c0 λz=>e<|h1.trans z];exact⟨h1,h2⟩
def KV.put(r:KV kvs vs)(k:κ)(j:RelV y u):KV (putK kvs k y)<|stored vs k u:=by
 unfold putK stored;rw[r.any k];by_cases e:(vs.any λz=>decide<|z.1=k)=true
 .rw[dt e,dt e];exact r.Wb k j
 .rw[c0 e,c0 e];exact Paired.snoc r ⟨rfl,j⟩
def KV.length(r:KV kvs vs):kvs.length=vs.length:=mf r
end
def AM(r:RelV (kV k) u):(eI P w).is k u=true:=by
 cases k with
 |inl i=>obtain⟨t,e⟩:=(r);subst e;exact D9 P w i t
 |inr x=>obtain⟨t,e⟩:=(r);subst e;exact Ea P w x t
theorem AN:∀{ks:List Key}{us:Bb},Vals (ks.map kV) us->ItemsAre (eI P w) ks us
 |[],_,r=>by rw[HD]at r;cases r;exact .nil
 |k::ks,_,r=>by
  rw[ip]at r;cases r with
  |cons h t=>exact .cons (AM h)<|AN t
abbrev KT(H:Hp):List (List Key×V)->List (List Key×Addr×Value)->Prop:=Paired λp q=>p.1=q.1/\H q.2.1=some (.tup<|p.1.map kV)/\RelV p.2 q.2.2
def KT.val{H:Hp}(r:KT H kvs xs)(k:List Key):sT (gz kvs k)<|(atKey xs k).map (·.2):=by
 induction r with
 |nil=>exact True.intro
 |@cons p q ps qs h t ih=>
  obtain⟨h1,_,h2⟩:=h;by_cases e:p.1=k
  .have j:q.1=k:=h1.symm.trans e;have b:atKey (q::qs) k=some q.2:=by simp[atKey,Q8,j]
   rw[fK e,b];exact h2
  .have j:¬q.1=k:=λz=>e<|h1.trans z;have b:atKey (q::qs) k=atKey qs k:=by simp[atKey,Q8,j]
   rw[fL e,b];exact ih
def KT.Wb(r:KT H kvs xs)(k:List Key)(F:RelV y u):
  KT H (kvs.map λj=>if j.1=k then(j.1,y)else j) (xs.map<|putAt k u):=by
 induction r with
 |nil=>exact .nil
 |@cons p q ps qs h t ih=>
  rw[ip,ip];refine .cons ?_ ih;obtain⟨h1,h2,I⟩:=h;unfold putAt;by_cases e:p.1=k
  .rw[dt e,dt<|h1.symm.trans e];exact⟨h1,h2,F⟩
  .rw[c0 e,c0 λz=>e<|h1.trans z];exact⟨h1,h2,I⟩
def KT.put(r:KT H kvs xs)(k:List Key)(z:H b=some (.tup<|k.map kV))(j:RelV y u):
  KT H (putK kvs k y) (storedH xs k b u):=by
 have e:(kvs.any λF=>decide<|F.1=k)=(atKey xs k).isSome:=by rw[jA,(r.val k).lQ,apX]
 unfold putK storedH;rw[e];by_cases q:(atKey xs k).isSome=true
 .rw[dt q,dt q];exact r.Wb k j
 .rw[c0 q,c0 q];exact Paired.snoc r ⟨rfl,z,j⟩
def KT.keeps(r:KT H kvs xs)(j:∀b ys,H b=some (.tup ys)->H' b=some (.tup ys)):KT H' kvs xs:=Paired.Vq r λ_ _ z=>⟨z.1,j _ _ z.2.1,z.2.2⟩
section
variable{P:Program}{w:World}{H:Hp}{h:Heap}{a:Addr}
def Uw(ok:mV P w H h)(e:Rd H a u):eh P w H h a u:=e.ok ok
def EE(ok:mV P w H h)(e:Rd H a (.dK kvs)):kvs.length<=sizeLine/\(a==sysModules)=false/\∃vs,KV kvs vs/\h.DictOf (eI P w) a vs:=Uw ok e
def Oj(ok:mV P w H h)(e:H a=some (.dK kvs)):kvs.length<=sizeLine/\(a==sysModules)=false/\∃vs,KV kvs vs/\h.DictOf (eI P w) a vs:=EE ok (.inl e)
def wL(ok:mV P w H h)(e:H a=some (.tup<|ks.map kV)):(tupleKind<|eI P w).is h ks a:=by obtain⟨_,its,r,o,h1,h2,n,j⟩:=(ok a _ e);exact⟨o,its.toArray,n,h1,h2,j,by simpa using AN r⟩
def EF(ok:mV P w H h)(e:Rd H a (.dT kvs)):kvs.length<=sizeLine/\(a==sysModules)=false/\
  ∃xs,KT H kvs xs/\h.DictOfH (tupleKind<|eI P w) a xs:=by
 obtain⟨z,y,xs,r,o,es,ep,h1,h2,F,I,J⟩:=(Uw ok e);refine⟨z,y,xs,r,o,es,ep,h1,h2,F,I,λx j=>?_,J⟩;have all:∀{l:List<|List Key×V}{m:List<|List Key×Addr×Value},KT H l m->∀x∈m,(tupleKind<|eI P w).is h x.1 x.2.1:=by
  intro l m q;induction q with
  |nil=>intro x j;exact nomatch j
  |@cons p q ps qs hq t ih=>
   intro x j;rcases eH.mp j with e|j
   .subst e;exact wL ok (by rw[<-hq.1];exact hq.2.1)
   .exact ih x j
 exact all r x j
def Zw(ok:mV P w H h)(e:H a=some (.dT kvs)):kvs.length<=sizeLine/\(a==sysModules)=false/\
  ∃xs,KT H kvs xs/\h.DictOfH (tupleKind<|eI P w) a xs:=EF ok (.inl e)
end
def mv(H:Hp)(a:Addr)(y:V)(r:Option V):Prop:=(B_ λkvs k=>Rd H a (.dK kvs)/\y=kV k/\r=gz kvs k)\/C_ λkvs k b=>Rd H a (.dT kvs)/\y=.ref b/\H b=some (.tup<|k.map kV)/\r=gz kvs k
def za(H:Hp)(a:Addr)(y v:V)(H':Hp):Prop:=
 (B_ λkvs k=>H a=some (.dK kvs)/\y=kV k/\kvs.length<sizeLine/\H'=upd H a (.dK<|putK kvs k v))\/
 C_ λkvs k b=>H a=some (.dT kvs)/\y=.ref b/\H b=some (.tup<|k.map kV)/\kvs.length<sizeLine/\H'=upd H a (.dT<|putK kvs k v)
def mv.k{k:Key}(e:H a=some (.dK kvs)):mv H a (kV k)<|gz kvs k:=.inl ⟨kvs,k,.inl e,rfl,rfl⟩
def mv.t{k:List Key}(e:H a=some (.dT kvs))(j:H b=some (.tup<|k.map kV)):mv H a (.ref b)<|gz kvs k:=.inr ⟨kvs,k,b,.inl e,rfl,j,rfl⟩
def za.k{a:Addr}{k:Key}(e:H a=some (.dK kvs))(j:kvs.length<sizeLine):za H a (kV k) v<|upd H a (.dK<|putK kvs k v):=.inl ⟨kvs,k,e,rfl,j,rfl⟩
def za.t{a b:Addr}{k:List Key}(e:H a=some (.dT kvs))(j:H b=some (.tup<|k.map kV))(z:kvs.length<sizeLine):
  za H a (.ref b) v (upd H a (.dT<|putK kvs k v)):=.inr ⟨kvs,k,b,e,rfl,j,z,rfl⟩
section
variable{X:Cx}{pins:List<|Addr×Obj}{σ:St}{H:Hp}{s:Shared}{a:Addr}{y v:V}{u r:Value}{o:Option V}{A:Around}{E:Bd}
def Inv.big(I:Inv X pins σ H s):sysModules<s.heap.objs.size:=by have h:=(I.mod.glob.keeps I.bk).lt;exact XZ (by decide) h
def LD(Y:A.units+1<cLine)(I:Inv X pins σ H s)(g:mv H a y<|some v)(W:RelV y u)(h:∀F s',Inv X pins σ H s' ->RelV v F->Q F s'):
  wpAny (model X.prog X.w) A (getItem (.ref a) u) Q E s:=by
 rcases g with⟨kvs,k,e,J,l⟩|⟨kvs,k,b,e,J,Z,l⟩
 .subst J;obtain⟨z,hd,vs,rel,M⟩:=EE I.c7 e;obtain⟨F,S,j⟩:=sT.some_of (by rw[l];exact rel.val k);exact wpAny_getItem_of (AM W) M.mapOf S<|h F _ (I.tok _) j
 .subst J;cases(W);obtain⟨z,hd,xs,rel,M⟩:=EF I.c7 e;obtain⟨F,S,j⟩:=sT.some_of (by rw[l];exact rel.val k);obtain⟨p,hp,U⟩:=Option.map_eq_some_iff.mp S;refine wpAny_getItem_heap (Z5 Y) (wL I.c7 Z) M hp ?_;rw[U];exact h F _ (I.tok _) j
def adG(M:A.units+1<cLine)(I:Inv X pins σ H s)(g:mv H a y o)(J:RelV y u)(h:∀s',Inv X pins σ H s' ->Q (.bool o.isSome) s'):
  wpAny (model X.prog X.w) A (compareOp .In u (.ref a)) Q E s:=by
 rcases g with⟨kvs,k,e,j,l⟩|⟨kvs,k,b,e,j,S,l⟩
 .subst j;obtain⟨z,hd,vs,rel,F⟩:=EE I.c7 e;refine wpAny_in_of (AM J) hd F.mapOf ?_;rw[<-(rel.val k).lQ,<-l];exact h _<|I.tok _
 .subst j;cases(J);obtain⟨z,hd,xs,rel,F⟩:=EF I.c7 e;refine wpAny_in_heap (Z5 M) (wL I.c7 S) hd F ?_;have q:=(rel.val k).lQ;rw[apX]at q;rw[<-q,<-l];exact h _<|I.tok _
def Sk(M:A.units+1<cLine)(I:Inv X pins σ H s)(g:mv H a y o)(J:RelV y u)(h:∀s',Inv X pins σ H s' ->Q (.bool<|!o.isSome) s'):
  wpAny (model X.prog X.w) A (compareOp .NotIn u (.ref a)) Q E s:=by
 rcases g with⟨kvs,k,e,j,l⟩|⟨kvs,k,b,e,j,S,l⟩
 .subst j;obtain⟨z,hd,vs,rel,F⟩:=EE I.c7 e;refine wpAny_notIn_of (AM J) hd F.mapOf ?_;rw[<-(rel.val k).lQ,<-l];exact h _<|I.tok _
 .subst j;cases(J);obtain⟨z,hd,xs,rel,F⟩:=EF I.c7 e;refine wpAny_notIn_heap (Z5 M) (wL I.c7 S) hd F ?_;have q:=(rel.val k).lQ;rw[apX]at q;rw[<-q,<-l];exact h _<|I.tok _
def BV(I:Inv X pins σ H s)(F:YG<|H a)(hs:Heap.SameBut a s.heap h')(J:∃q,h'.get? a=some q)(new:eh X.prog X.w (upd H a j) h' a j):
  Inv X pins σ (upd H a j) {s with heap:=h',toks:=t'}:=
 I.write F (.inl rfl) (λb q M z=>(hs.2 b M).trans z) J new
def Ol(z:kvs.length<=sizeLine)(hd:(a==sysModules)=false)(rel:KV kvs vs)(j:h'.DictOf (eI P w) a vs):
  eh P w H' h' a (.dK kvs):=⟨z,hd,vs,rel,j⟩
def LF(hu:A.units+1<cLine)(I:Inv X pins σ H s)(g:za H a y v H')(W:RelV y u)(Y:RelV v r)(h:∀s',Inv X pins σ H' s' ->Q () s'):
  wpAny (model X.prog X.w) A (setItem (.ref a) u r) Q E s:=by
 rcases g with⟨kvs,k,e,J,l,M⟩|⟨kvs,k,b,e,J,Z,l,M⟩
 .subst J M;obtain⟨z,hd,vs,rel,S⟩:=Oj I.c7 e;have hz:vs.length<=sizeLine:=by rw[<-rel.length];exact z
  have U:(putK kvs k v).length<=sizeLine:=by have:=kQ kvs k v;lia
  refine wpAny_setItem_pairs (hsz:=hz) (AM W) S λh' j hs=>h _ ?_;have he:∃q,h'.get? a=some q:=let⟨q,_,_,F,_⟩:=j;⟨q,F⟩;exact BV I (by rw[e];exact True.intro) hs he<|Ol U hd (rel.put k Y) j
 .subst J M;cases(show u=Value.ref b from W);obtain⟨z,hd,xs,rel,S⟩:=Zw I.c7 e;have hz:xs.length<=sizeLine:=by rw[<-mf rel];exact z
  have U:(putK kvs k v).length<=sizeLine:=by have:=kQ kvs k v;lia
  refine wpAny_setItem_heap (hsz:=hz) (Z5 hu) (wL I.c7 Z) S λh' j hs=>h _ ?_;obtain⟨q,es,ep,F,h2,h3,h4,_,h5⟩:=j;refine BV I (by rw[e];exact True.intro) hs ⟨q,F⟩ ⟨U,hd,_,(rel.put k Z Y).keeps λc ys ec=>?_,q,es,ep,F,h2,h3,h4,h5⟩;rw[aL<|JJ ec e λz=>nomatch z];exact ec
end
def Zx(i:Expr):Prop:=∀j z,subscripted i false j z=operate [j,z] (getItem j z)
def Sl{prog:Program}{A:Around}{s:Shared}{value j:Expr}{T id:String}
  (Y:typeLookup (.type T) "__getitem__"=pure (some (.builtin id)))(hs:Zx j)
  (h:wpAny (model prog w) A (eval value env) (λo I=>wpAny (model prog w) A (eval j env) (λi z=>z.TypeIs o T/\wpAny (model prog w) A (getItem o i) Q E z) E I) E s):
  wpAny (model prog w) A (eval (.Subscript value j pos) env) Q E s:=by
 refine Subscript_<|y2 h (λo I S=>y2 S (λi z F=>?_) λ_ _ x=>x) λ_ _ x=>x;obtain⟨W,F⟩:=F;refine a0 ?_;rw[getitemInPython_of_ne W.not_modules];refine a0<|wpAny_specialOf W Y ?_;have M:wpAny (model prog w) A (subscripted j false o i) (λr J=>wpAny (model prog w) A (letTemporaryGo value o r>>=λ_=>pure r) Q E J) E z:=by rw[hs o i];exact wpAny_operating<|y2 F (λr J U=>a0<|wpAny_letTemporaryGo<|er U) λ_ _ x=>x
 first
  |exact er<|a0 M
  |exact a0<|er<|a0 M
  |exact a0 M
def EG(I:Inv X pins σ H s)(g:mv H a y o):s.TypeIs (.ref a) "dict":=by
 rcases g with⟨kvs,k,e,_,_⟩|⟨kvs,k,b,e,_,_,_⟩
 .obtain⟨_,_,vs,_,j⟩:=EE I.c7 e;exact j.typeIs
 .obtain⟨_,_,xs,_,j⟩:=EF I.c7 e;exact j.typeIs
def Ux(td ty:TE):TE:=λσ H Q=>td σ H λx H1=>ty σ H1 λy H2=>B_ λa v=>x=.ref a/\mv H2 a y (some v)/\Q v H2
def Zy(ty td:TE):TE:=λσ H Q=>ty σ H λy H1=>td σ H1 λx H2=>B_ λa o=>x=.ref a/\mv H2 a y o/\Q (.bl o.isSome) H2
def J1(ty td:TE):TE:=λσ H Q=>ty σ H λy H1=>td σ H1 λx H2=>B_ λa o=>x=.ref a/\mv H2 a y o/\Q (.bl<|!o.isSome) H2
def Uy(td ty tv:TE):TS:=λD σ H=>tv σ H λv H1=>td σ H1 λx H2=>ty σ H2 λy H3=>B_ λa j=>x=.ref a/\za H3 a y v j/\D.nx σ j
section
variable{X:Cx}{o i e value:Expr}{pos pos' jH:Pos}{td ty tv:TE}
def J2(J:X.A.units+1<cLine)(M:PE X o td)(hi:PE X i ty)(hs:Zx i):PE X (.Subscript o i pos)<|Ux td ty:=by intro pins s σ H Q I h;refine Sl PySem.F.slot_dict_getitem.lookup hs<|eF (M pins s σ H _ I h) λu S⟨x,H1,U,W,Y⟩=>eF (hi pins S σ H1 _ U Y) λiv s2⟨y,H2,z,Z,a,v,ex,g,q2⟩=>?_;subst ex;obtain rfl:u=Value.ref a:=W;exact⟨EG z g,LD J z g Z λw' s3 I3 j=>⟨v,H2,I3,j,q2⟩⟩
def Wd(j:X.A.units+1<cLine)(hi:PE X i ty)(z:PE X o td):PC X .In i o<|Zy ty td:=by intro pins s σ H Q I h;refine eF (hi pins s σ H _ I h) λiv F⟨y,H1,J,M,S⟩=>eF (z pins F σ H1 _ J S) λu s2⟨x,H2,U,W,a,Y,ex,g,Z⟩=>?_;subst ex;obtain rfl:u=Value.ref a:=W;exact adG j U g M λs3 I3=>⟨.bl Y.isSome,H2,I3,rfl,Z⟩
def AO(j:X.A.units+1<cLine)(hi:PE X i ty)(z:PE X o td):PC X .NotIn i o<|J1 ty td:=by intro pins s σ H Q I h;refine eF (hi pins s σ H _ I h) λiv F⟨y,H1,J,M,S⟩=>eF (z pins F σ H1 _ J S) λu s2⟨x,H2,U,W,a,Y,ex,g,Z⟩=>?_;subst ex;obtain rfl:u=Value.ref a:=W;exact Sk j U g M λs3 I3=>⟨.bl<|!Y.isSome,H2,I3,rfl,Z⟩
def BW(j:X.A.units+1<cLine)(z:PE X o td)(hi:PE X i ty)(F:PE X value tv)(hs:swapsWith value (some (.Subscript o i pos')) pos.line X.env=pure false):
  PS X (.Assign [.Subscript o i pos'] value pos) (Uy td ty tv):=by
 intro pins s σ H D I h;refine wpAny_Assign_Subscript (eF (F pins s σ H _ I h) λr J⟨v,H1,M,S,U⟩=>eF (z pins J σ H1 _ M U) λu W⟨x,H2,Y,Z,q2⟩=>eF (hi pins W σ H2 _ Y q2) λiv s3⟨y,H3,I3,ry,a,H4,ex,g,q3⟩=>?_) hs;subst ex;obtain rfl:u=Value.ref a:=Z;exact LF j I3 g ry S λs4 I4=>⟨σ,H4,I4,q3⟩
end
def EH(h:Heap)(j:sysModules<h.objs.size):eh P w H (h.push {cls:=.type "dict",data:=.dict #[]}) h.objs.size (.dK []):=⟨ti _,Mh.mpr<|iq<|nP j,[],.nil,Heap.DictOf.new h⟩
def Om(h:Heap)(j:sysModules<h.objs.size):eh P w H (h.push {cls:=.type "dict",data:=.dict #[]}) h.objs.size (.dT []):=⟨ti _,Mh.mpr<|iq<|nP j,[],.nil,_,#[],0,m8 _ rfl,⟨rfl,rfl,rfl⟩,rfl,rfl,F1⟩
def Oo:TE:=λ_ H Q=>∀p,H p=none->Q (.ref p) (upd H p (.dK []))
def Oq:TE:=λ_ H Q=>∀p,H p=none->Q (.ref p) (upd H p (.dT []))
section
variable{X:Cx}{pos:Pos}
def Ot:PE X (.Dict [] [] pos) Oo:=λpins s σ H Q I h=>wpAny_Dict_empty ⟨.ref s.heap.objs.size,_,I.laid (λ_ _ q=>et _ q) (ez _)<|EH s.heap I.big,rfl,h _<|I.c7.fresh<|ez _⟩
def EI:PE X (.Dict [] [] pos) Oq:=λpins s σ H Q I h=>wpAny_Dict_empty ⟨.ref s.heap.objs.size,_,I.laid (λ_ _ q=>et _ q) (ez _)<|Om s.heap I.big,rfl,h _<|I.c7.fresh<|ez _⟩
end
def HF:List (TE×TE)->St->Hp->(List (V×V)->Hp->Prop)->Prop
 |[],_,H,Q=>Q [] H
 |(tk,tv)::r,σ,H,Q=>tk σ H λx H1=>tv σ H1 λy H2=>HF r σ H2 λps H3=>Q ((x,y)::ps) H3
abbrev VV:List (V×V)->List (Value×Value)->Prop:=Paired λp q=>RelV p.1 q.1/\RelV p.2 q.2
def PPs(X:Cx)(pos:Pos)(keys:List<|Option Expr)(values:List Expr)(j:List<|TE×TE):Prop:=
 ∀(pins:List<|Addr×Obj)(s:Shared)(σ:St)(H:Hp)(Q:List (V×V)->Hp->Prop),Inv X pins σ H s->HF j σ H Q->
  wpAny (model X.prog X.w) X.A (evalPairs<|pairTrees keys values X.env pos) (λvs s'=>B_ λps H'=>Inv X pins σ H' s'/\VV ps vs/\Q ps H') X.xe s
def Sn:PPs X pos [] [] []:=λpins s σ H Q I h=>pairTrees_nil_walk ⟨[],H,I,.nil,h⟩
def nT(hk:PE X k tk)(z:PE X v tv)(F:PPs X pos ks vs j):
  PPs X pos (some k::ks) (v::vs) ((tk,tv)::j):=λpins s σ H Q I h=>
 pairTrees_cons_walk (eF (hk pins s σ H _ I h) λu J⟨x,H1,M,S,U⟩=>eF (z pins J σ H1 _ M U) λw2 W⟨y,H2,Y,Z,q2⟩=>eF (F pins W σ H2 _ Y q2) λws s3⟨ps,H3,I3,rel,q3⟩=>⟨(x,y)::ps,H3,I3,.cons ⟨S,Z⟩ rel,q3⟩)
def wM(kvs more:List<|Key×V):List<|Key×V:=more.foldl (λacc j=>putK acc j.1 j.2) kvs
def KV.merge:∀{more:List<|Key×V}{rs:List<|Key×Value}{kvs:List<|Key×V}{vs:List<|Key×Value},KV more rs->KV kvs vs->KV (wM kvs more) (merged vs rs):=by
 intro more rs kvs vs r;induction r generalizing kvs vs with
 |nil=>intro q;exact q
 |@cons p q ps qs h t ih=>
  intro j;have e:KV (putK kvs p.1 p.2)<|stored vs q.1 q.2:=by have:=j.put p.1 h.2;rw[<-h.1];exact this
  exact ih e
theorem pT:∀(more kvs:List<|Key×V),(wM kvs more).length<=kvs.length+more.length
 |[],kvs=>by show kvs.length<=kvs.length+0;lia
 |p::r,kvs=>by have h1:=pT r<|putK kvs p.1 p.2;have h2:=kQ kvs p.1 p.2;show(wM (putK kvs p.1 p.2) r).length<=_;rw[kA];lia
theorem wN:∀{kvs:List<|Key×V}{j:List<|Value×Value},VV (kvs.map λz=>(kV z.1,z.2)) j->∃rs,Carries (eI P w) j rs/\KV kvs rs
 |[],_,r=>by rw[HD]at r;cases r;exact⟨[],True.intro,.nil⟩
 |p::kvs,_,r=>by
  rw[ip]at r;cases r with
  |@cons a b as bs h t=>obtain⟨rs,c,q⟩:=wN t;obtain⟨I,F⟩:=b;exact⟨(p.1,F)::rs,⟨AM h.1,rfl,c⟩,.cons ⟨rfl,h.2⟩ q⟩
def Uz(j:List<|TE×TE):TE:=λσ H Q=>∀p,H p=none->HF j σ (upd H p (.dK [])) λps H2=>H2 p=some (.dK [])/\∃kvs:List<|Key×V,ps=kvs.map (λz=>(kV z.1,z.2))/\kvs.length<=15/\Q (.ref p) (upd H2 p (.dK<|wM [] kvs))
def So(h:PPs X pos keys values j)(F:keys.all (·.isSome)=true)(U:keys.length=values.length)(h0:keys≠[])
  (M:keys.length<=15):PE X (.Dict keys values pos)<|Uz j:=by
 intro pins s σ H Q I q;have W:=I.c7.fresh<|ez s.heap.objs.size;have Y:=I.laid (a:=s.heap.objs.size) (o:=.dK []) (h':=s.heap.push {cls:=.type "dict",data:=.dict #[]}) (t':=s.toks) (λ_ _ q=>et _ q) (ez _)<|EH s.heap I.big;refine wpAny_Dict_walk (knd:=eI X.prog X.w) F U h0 M<|eF (h pins _ σ _ _ Y<|q _ W) λws s2⟨ps,H2,S,rel,e,kvs,ep,lk,Z⟩=>?_;subst ep;obtain⟨rs,c,rk⟩:=wN (P:=X.prog) (w:=X.w) rel;obtain⟨z,hd,vs0,r0,dd⟩:=Oj S.c7 e;cases r0;refine⟨rs,c,dd,λh' J hs=>⟨.ref s.heap.objs.size,_,?_,rfl,Z⟩⟩;have hz:(wM [] kvs).length<=sizeLine:=by have h1:=pT kvs [];rw[wh]at h1;rw[Pr];lia
 have he:∃q,h'.get? s.heap.objs.size=some q:=let⟨q,_,_,hq,_⟩:=J;⟨q,hq⟩;exact BV S (by rw[e];exact True.intro) hs he<|Ol hz hd (rk.merge .nil) J
section
variable{X:Cx}{pins:List<|Addr×Obj}{σ:St}{H:Hp}{s:Shared}{h':Heap}
def Inv.iJ{ch:Bf}(I:Inv X pins σ H s)(k:∀b o,b∉ch->s.heap.get? b=some o->h'.get? b=some o)(F:∀b∈ch,gP X pins H b):Inv X pins σ H {s with heap:=h',toks:=t'}:=by
 have J:∀b u,H b=some u->b∉ch:=λb u e z=>by have q:=(F b z).1;rw[q]at e;cases e
 refine I.step (g':=s.gens) (d':=s.drawn) (ch:=ch) (λb M=>⟨(F b M).2.2.2.1,(F b M).2.1,(F b M).2.2.2.2.1,(F b M).2.2.2.2.2⟩) (λb o _ _ j e _=>k b o j e) (λb o _ _ j e _=>⟨o.slots,k b o j e⟩)
  (λ_ _ _ _ n=>n) (λb o j e=>⟨o,k b o j e⟩) (λ_ _ e=>e) (λ_ _ _ e=>e) (λb ps e=>⟨#[],by rw[e];simp⟩) (λm S=>?_) (λb u e=>?_) I.bare
 .obtain⟨o,es,ep,U,r⟩:=S;exact⟨o,es,ep,k _ o (λz=>(F _ z).2.1 rfl) U,r⟩
 .refine(I.c7 b u e).yT (λc v j q=>k c v ?_ q) (λ_ q=>q) λ_ _ q=>q;rcases j with z|z
  .rw[z];exact J b u e
  .exact J c _ z
def Inv.lS{ch:Bf}(I:Inv X pins σ H s)(k:∀b o,b∉ch->s.heap.get? b=some o->h'.get? b=some o)(J:∀b∈ch,gP X pins H b)(Y:s.heap.objs.size<=T)
  (new:eh X.prog X.w (upd H T U) h' T U):Inv X pins σ (upd H T U) {s with heap:=h',toks:=t'}:=by
 have M:H T=none:=I.c7.fresh Y;have S:∀b u,H b=some u->b∉ch:=λb u e z=>by have q:=(J b z).1;rw[q]at e;cases e
 refine I.step (g':=s.gens) (d':=s.drawn) (ch:=ch) (λb j=>⟨(J b j).2.2.2.1,(J b j).2.1,(J b j).2.2.2.2.1,(J b j).2.2.2.2.2⟩) (λb o _ _ F e _=>k b o F e) (λb o _ _ F e _=>⟨o.slots,k b o F e⟩)
  (λb o _ e n=>?_) (λb o F e=>⟨o,k b o F e⟩) (λb xs e=>?_) (λb o u e=>?_) (λb ps e=>⟨#[],?_⟩) (λm Z=>?_) (λb u e=>?_) I.bare
 .rw[aL<|nP<|sd (ky e) Y];exact n
 .rw[aL<|aX e M];exact e
 .rw[aL<|aX e M];exact e
 .rw[aL<|aX e M,e];simp
 .obtain⟨o,es,ep,ho,r⟩:=Z;exact⟨o,es,ep,k _ o (λz=>(J _ z).2.1 rfl) ho,r⟩
 .by_cases j:b=T
  .subst j;rw[ah]at e;cases e;exact new
  .rw[aL j]at e;refine(I.c7 b u e).yT (λc v F q=>k c v ?_ q) (λc q=>by rw[aL<|aX q M];exact q) λc xs q=>by rw[aL<|aX q M];exact q
   rcases F with z|z
   .rw[z];exact S b u e
   .exact S c _ z
end
section
variable{X:Cx}
def Ou(I:Inv X pins σ H s)(o:Obj)
  (T:Turn X.prog X.w X.K tg J [s.heap.objs.size] s.heap.objs.size tn)(st:tn 0<|s.heap.push o)(q:R J H):PIE X pins σ tg R (.ref s.heap.objs.size) {s with heap:=s.heap.push o,toks:=tk}:=by
 refine⟨s.heap.objs.size,[s.heap.objs.size],tn,J,H,rfl,I.kept λb z e=>et _ e,T,st,λb j=>?_,q⟩;have e:b=s.heap.objs.size:=by simpa using j
 subst e;exact I.qe (ez _)<|I.c7.fresh<|ez _
end
def Zz(x:Str):It:=⟨λi _=>i<x.cps.size,λi H v H'=>H'=H/\∃c,x.cps[i]?=some c/\v=.str ⟨#[c]⟩,λi _=>x.cps.size<=i⟩
def EJ{K:cn}(it:Addr)(x:Str)(t:Tok)(ty:String)(j:ty="str_ascii_iterator"\/ty="str_iterator"):
  Turn P w K tg (Zz x) [it] it (λi h=>h.IsStrIter it ty x t i) where
 mem:=by simp
 obj:=λi h st b F=>by
  have e:b=it:=by simpa using F
  subst e;obtain⟨o,e,c,d⟩:=st;exact⟨o,e,λv z=>by rw[d]at z;cases z⟩
 keep:=λi h h' st k=>let⟨o,ho,r⟩:=st;⟨o,k it (by simp) o ho,r⟩
 item:=by
  intro X hP hw hK J i pins s σ H E I S st hg;subst hP hw hK;obtain⟨U,Y,f2,Z,f4,f5⟩:=S it (by simp);have W:Walks X.prog X.w X.A it [it] [it] x.cps.size (SignAt x) λi h=>h.IsStrIter it ty x t i:=by
   rcases j with e|e
   .rw[e];exact Walks.strAscii (I.ok.hd J) it x t
   .rw[e];exact Walks.strWide (I.ok.hd J) it x t
  have Rl:["enumerate","zip","dict_itemiterator","dict_reverseitemiterator","odict_iterator","itertools.zip_longest","itertools.pairwise"].contains ty=false:=by
   rcases j with e|e
   .rw[e];decide
   .rw[e];decide
  refine W.item i s _ _ hg st λv h' tk hv M kk=>?_;obtain⟨c,u,hcx,rfl⟩:=hv;have I1:Inv X pins σ H {s with heap:=h',toks:=tk}:=I.turned (λb o F e=>kk b o (by simpa using F) e) U Y Z f4 f5;obtain⟨oi,e,cc,dd⟩:=id M;exact⟨_,rfl,JM (s:={s with heap:=h',toks:=tk}) e cc dd Rl ⟨.str ⟨#[c]⟩,H,I1,⟨u,rfl⟩,⟨rfl,c,hcx,rfl⟩,M,λb F=>(S b F).1⟩⟩
 done:=by
  intro X hP hw hK J i pins s σ H E I S st hg;subst hP hw hK;obtain⟨U,Y,f2,Z,f4,f5⟩:=S it (by simp);have hx:x.cps[i]?=none:=Array.getElem?_eq_none hg;rcases j with e|e
  .rw[e]at st;exact wpAny_pyNext_ascii_end (I.ok.hd J) st hx λh' eb=>⟨rfl,I.turned (t':=s.toks) (λb o F e=>eb b o F e) U Y Z f4 f5⟩
  .rw[e]at st;exact wpAny_pyNext_wide_end (I.ok.hd J) st hx λh' eb=>⟨rfl,I.turned (t':=s.toks) (λb o F e=>eb b o F e) U Y Z f4 f5⟩
 self:=λA i s Q E st h=>by
  rcases j with e|e
  .rw[e]at st;exact wpAny_pyIter_striter_ascii st h
  .rw[e]at st;exact wpAny_pyIter_striter_wide st h
def ZA(te:TE):TI:=λσ H R=>te σ H λv H1=>∃x,v=.str x/\R (Zz x) H1
def We{te:TE}(J:PE X e te):PI X tg e<|ZA te:=by
 intro pins s σ H R I h;refine eF (J pins s σ H _ I h) λv j⟨y,H1,z,M,x,ex,q⟩=>?_;subst ex;obtain⟨t,rfl⟩:=M;cases F:x.cps.all (· <128)
 .exact wpAny_pyIter_wide F<|Ou z _ (EJ _ x t "str_iterator" (.inr rfl)) ⟨_,m8 _ rfl,rfl,rfl⟩ q
 .exact wpAny_pyIter_ascii F<|Ou z _ (EJ _ x t "str_ascii_iterator" (.inl rfl)) ⟨_,m8 _ rfl,rfl,rfl⟩ q
def Wg{κ:Type}{kvs:List<|κ×V}{vs:List<|κ×Value}(h:KV kvs vs):∀{i:Nat}{k:κ}{v:V},kvs[i]?=some (k,v)->∃u,vs[i]?=some (k,u)/\RelV v u:=by
 unfold KV at h;induction h with
 |nil=>intro i k v e;simp at e
 |@cons a b vT vU r t ih=>
  intro i k v e;cases i with
  |zero=>simp only[an8,apY]at e;subst e;refine⟨b.2,?_,r.2⟩;simp only[an8];exact congrArg some<|Prod.ext r.1.symm rfl
  |succ j=>simp only[List.getElem?_cons_succ]at e|-;exact ih e
def kc{I J:Type}{G:I->J->Prop}{z:List I}{F:List J}(h:Paired G z F):∀{i:Nat}{a:I},z[i]?=some a->∃b,F[i]?=some b/\G a b:=by
 induction h with
 |nil=>intro i a e;simp at e
 |@cons a b z F r t ih=>
  intro i M e;cases i with
  |zero=>simp at e;subst e;exact⟨b,rfl,r⟩
  |succ j=>simp at e|-;exact ih e
def Ov(h:wk k u=true):RelV (kV k) u:=by
 rcases eY h with⟨i,t,rfl,rfl⟩|⟨x,t,rfl,rfl⟩
 .exact⟨t,rfl⟩
 .exact⟨t,rfl⟩
def UA(K:cn)(a:Addr):It:=⟨λi H=>B_ λ(xs:List V)(x:V)=>az K H a xs/\xs[i]?=some x,λi H v H'=>B_ λT x=>v=.ref T/\H T=none/\H'=upd H T (.tup [.int (i:Nat),x])/\∀xs,az K H a xs->xs[i]?=some x,λi H=>∃xs:List V,az K H a xs/\xs.length<=i⟩
def LG{P:Program}{K:cn}{kk:Nat}(a e it:Addr):
  Turn P w K (.Tuple Y kk jH) (UA K a) [e,it] e (λi h=>(∃j,IsEnum h e it ((i:Nat):Int) j)/\h.IsListIter it a i/\e≠it) where
 mem:=by simp
 obj:=λi h st b J=>by
  obtain⟨⟨j,M⟩,⟨o,ho,hc,hd⟩,_⟩:=st;have e':b=e\/b=it:=by simpa using J
  rcases e' with z|z
  .rw[z];exact⟨_,M,λv q=>nomatch q⟩
  .rw[z];exact⟨o,ho,λv q=>by rw[hd]at q;cases q⟩
 keep:=λi h h' st k=>let⟨⟨j,M⟩,hi,F⟩:=st;⟨⟨j,k e (by simp) _ M⟩,hi.at λo q=>k it (by simp) o q,F⟩
 item:=by
  intro X hP hw hK hc i pins s σ H E I hf st hg;subst hP hw hK;obtain⟨⟨j,M⟩,S,F⟩:=st;obtain⟨xs,x,hq,hx⟩:=hg;obtain⟨its,rv,p,hz⟩:=I.list hq;obtain⟨u,hu,ru⟩:=rv.get hx;have Z:e<s.heap.objs.size:=ky M;have Ng:it<s.heap.objs.size:=by obtain⟨_,q,_⟩:=S;exact ky q
  refine wpAny_pyNext_enum_item M S p.isList (x:=u) (by simpa using hu) F λh' ho Wh hT hsz hk=>?_;refine⟨_,rfl,wpAny_letOwnedTupleGo_enum (s:={s with heap:=h',toks:=s.toks+1}) ho λU He sb=>?_⟩;have AQ:U.get? s.heap.objs.size=some {cls:=.type "tuple",data:=.seq #[.int i s.toks,u]}:=(sb.2 _<|B2 Z).trans hT;have new:eh X.prog X.w (upd H s.heap.objs.size (.tup [.int (i:Nat),x])) U s.heap.objs.size (.tup [.int (i:Nat),x]):=⟨by show 2<=sizeLine;decide,[.int i s.toks,u],.cons ⟨_,rfl⟩ (.cons ru .nil),⟨_,AQ,rfl,_,rfl⟩⟩;have I1:Inv X pins σ (upd H s.heap.objs.size (.tup [.int (i:Nat),x])) {s with heap:=U,toks:=s.toks+1}:=I.lS (ch:=[e,it]) (λb ob J q=>(sb.2 b λz=>J<|by simp[z]).trans<|hk b ob (λz=>J<|by simp[z]) (λz=>J<|by simp[z]) q) hf (ez _) new;refine⟨.ref s.heap.objs.size,_,I1,rfl,⟨_,x,rfl,I.c7.fresh<|ez _,rfl,λys hy=>by rw[I.iE hy hq];exact hx⟩,⟨⟨u,?_⟩,Wh.at λo q=>(sb.2 it<|iq F).trans q,F⟩,λb J=>?_⟩
  .have e1:((i+1:Nat):Int)=(i:Int)+1:=by lia
   rw[e1];exact He
  .have uZ:b<s.heap.objs.size:=by
    have e':b=e\/b=it:=by simpa using J
    rcases e' with z|z
    .rw[z];exact Z
    .rw[z];exact Ng
   rw[aL<|nP uZ];exact(hf b J).1
 done:=by intro X hP hw hK hc i pins s σ H E I hf st hg;subst hP hw hK;obtain⟨⟨j,M⟩,S,F⟩:=st;obtain⟨xs,hq,hx⟩:=hg;obtain⟨its,rv,p,hz⟩:=I.list hq;obtain⟨f0,f1,f2,f3,f4,f5⟩:=hf it (by simp);have hl:=rv.length;exact wpAny_pyNext_enum_end (I.ok.hd hc) M S p.isList (by simp;lia) λh' eb=>⟨rfl,I.turned (t':=s.toks) (λb o J q=>eb b o J q) f0 f1 f3 f4 f5⟩
 self:=λA i s Q E st h=>let⟨⟨_,M⟩,_⟩:=st;YL M h
def Ow(K:cn)(ta:TA):TI:=λσ H R=>ta σ H λvs H1=>B_ λa xs=>vs=[.ref a]/\az K H1 a xs/\R (UA K a) H1
def Sr{X:Cx}{ta:TA}{F:List Expr}(Y:Gl X "enumerate")(Z:X.mg "enumerate"=none)(ha:PA X [e] ta)(hs:starEach [e] X.env=[(false,eval e X.env)]:=by rfl):
  PI X (.Tuple F W jH) (.Call (.Name "enumerate" p) [e] [] pos) (Ow X.K ta):=by
 intro pins s σ H R I h;refine Call_<|iD I Y Z boot_enumerate<|HK (eF (ha pos pins s σ H _ I h) λus j⟨vs,H1,M,r1,q1⟩=>?_) hs rfl;obtain⟨a,xs,ex,hq,q⟩:=q1;subst ex;cases r1 with
 |cons r rr=>
  cases rr;cases r;obtain⟨its,rv,p',hz⟩:=M.list hq;refine call_enumerate_list p'.isList λh' U S hsz hk=>YL U ?_;have I2:Inv X pins σ H1 {j with heap:=h'}:=M.kept (t':=j.toks) hk;refine⟨j.heap.objs.size+1,[j.heap.objs.size+1,j.heap.objs.size],_,_,H1,rfl,I2,LG a (j.heap.objs.size+1) j.heap.objs.size,⟨⟨.none,U⟩,S,Nat.succ_ne_self _⟩,λb hb=>?_,q⟩;have e':b=j.heap.objs.size+1\/b=j.heap.objs.size:=by simpa using hb
  have J:j.heap.objs.size<=b:=by
   rcases e' with z|z
   .rw[z];exact QN _ _
   .rw[z];exact ez _
  exact M.qe J<|M.c7.fresh J
def tD:bootBuiltins "zip"=some (.type "zip"):=by decide+kernel
def ZC(K:cn)(a b:Addr):It:=
 ⟨λi H=>D_ λ(xs ys:List V)(x y:V)=>az K H a xs/\az K H b ys/\xs[i]?=some x/\ys[i]?=some y,
  λi H v H'=>C_ λT x y=>v=.ref T/\H T=none/\H'=upd H T (.tup [x,y])/\(∀xs,az K H a xs->xs[i]?=some x)/\∀ys,az K H b ys->ys[i]?=some y,
  λi H=>B_ λ(xs ys:List V)=>az K H a xs/\az K H b ys/\(xs.length<=i\/ys.length<=i)⟩
def Ox{P:Program}{K:cn}{kk:Nat}{a b z TI TO i1 S:Addr}(D:ZipApart z TI TO i1 S a b):
  Turn P w K (.Tuple elts kk jH) (ZC K a b) [z,TI,TO,i1,S] z (λi h=>IsZip h z TI TO .none/\IsPair h TI (.ref i1) (.ref S)/\(B_ λx y=>IsPair h TO x y)/\h.IsListIter i1 a i/\h.IsListIter S b i) where
 mem:=by simp
 obj:=λi h st c hc=>by
  obtain⟨hz,j,⟨x,y,F⟩,⟨o1,e1,_,d1⟩,⟨o2,e2,_,d2⟩⟩:=st;have e':c=z\/c=TI\/c=TO\/c=i1\/c=S:=by simpa using hc
  rcases e' with q|q|q|q|q
  .rw[q];exact⟨_,hz,λv q=>nomatch q⟩
  .rw[q];exact⟨_,j,λv q=>nomatch q⟩
  .rw[q];exact⟨_,F,λv q=>nomatch q⟩
  .rw[q];exact⟨o1,e1,λv q=>by rw[d1]at q;cases q⟩
  .rw[q];exact⟨o2,e2,λv q=>by rw[d2]at q;cases q⟩
 keep:=λi h h' st k=>by obtain⟨hz,j,⟨x,y,F⟩,h1,h2⟩:=st;exact⟨k z (by simp) _ hz,k TI (by simp) _ j,⟨x,y,k TO (by simp) _ F⟩,h1.at λo q=>k i1 (by simp) o q,h2.at λo q=>k S (by simp) o q⟩
 item:=by
  intro X hP hw hK hc i pins s σ H E I hf st hg;subst hP hw hK;obtain⟨hz,j,⟨x0,y0,F⟩,h1,h2⟩:=st;obtain⟨xs,ys,x,y,U,Y,hx,hy⟩:=hg;obtain⟨its,rv,p,_⟩:=I.list U;obtain⟨Z,J3,p2,_⟩:=I.list Y;obtain⟨u,hu,ru⟩:=rv.get hx;obtain⟨u2,Et,V3⟩:=J3.get hy;have UB:z<s.heap.objs.size:=ky hz;refine wpAny_pyNext_zip_item D hz j F h1 h2 p.isList p2.isList (x:=u) (y:=u2) (by simpa using hu) (by simpa using Et) λh' z' ZD UC Wj hT hsz hk=>?_;refine⟨_,rfl,aoC (s:={s with heap:=h'}) z' λAK ZE sb=>?_⟩;have AQ:AK.get? s.heap.objs.size=some {cls:=.type "tuple",data:=.seq #[u,u2]}:=(sb.2 _<|B2 UB).trans hT;have new:eh X.prog X.w (upd H s.heap.objs.size (.tup [x,y])) AK s.heap.objs.size (.tup [x,y]):=⟨by show 2<=sizeLine;decide,[u,u2],.cons ru (.cons V3 .nil),⟨_,AQ,rfl,_,rfl⟩⟩;have I1:Inv X pins σ (upd H s.heap.objs.size (.tup [x,y])) {s with heap:=AK}:=I.lS (t':=s.toks) (ch:=[z,TI,TO,i1,S]) (λc o M q=>(sb.2 c λJ=>M<|by simp[J]).trans<|hk c o (λJ=>M<|by simp[J]) (λJ=>M<|by simp[J]) (λJ=>M<|by simp[J]) (λJ=>M<|by simp[J]) q) hf (ez _) new;refine⟨.ref s.heap.objs.size,_,I1,rfl,⟨_,x,y,rfl,I.c7.fresh<|ez _,rfl,λl hl=>by rw[I.iE hl U];exact hx,λl hl=>by rw[I.iE hl Y];exact hy⟩,⟨ZE,?_,⟨u,u2,?_⟩,?_,?_⟩,λc Hf=>?_⟩
  .exact(sb.2 _ D.TIz).trans<|hk _ _ D.TIz D.TITO D.TIi1 D.TIi2 j
  .exact(sb.2 _ D.TOz).trans ZD
  .exact UC.at λo q=>(sb.2 _ D.i1z).trans q
  .exact Wj.at λo q=>(sb.2 _ D.i2z).trans q
  .have iW:c<s.heap.objs.size:=by
    have e':c=z\/c=TI\/c=TO\/c=i1\/c=S:=by simpa using Hf
    rcases e' with q|q|q|q|q
    .rw[q];exact UB
    .rw[q];exact ky j
    .rw[q];exact ky F
    .rw[q];obtain⟨_,e1,_⟩:=h1;exact ky e1
    .rw[q];obtain⟨_,e2,_⟩:=h2;exact ky e2
   rw[aL<|nP iW];exact(hf c Hf).1
 done:=by
  intro X hP hw hK hc i pins s σ H E I hf st hg;subst hP hw hK;obtain⟨hz,j,⟨x0,y0,F⟩,h1,h2⟩:=st;obtain⟨xs,ys,U,Y,BX⟩:=hg;obtain⟨its,rv,p,_⟩:=I.list U;obtain⟨Z,J3,p2,_⟩:=I.list Y;have l1:=rv.length;have l2:=J3.length;have he:its.toArray[i]?=none\/Z.toArray[i]?=none:=by
   rcases BX with q|q
   .exact .inl (by simp;lia)
   .exact .inr (by simp;lia)
  exact wpAny_pyNext_zip_end (I.ok.hd hc) D hz j F h1 h2 p.isList p2.isList he λh' hk=>⟨rfl,I.iJ (t':=s.toks) (ch:=[z,TI,TO,i1,S]) (λc o M q=>hk c o (λJ=>M<|by simp[J]) (λJ=>M<|by simp[J]) (λJ=>M<|by simp[J]) (λJ=>M<|by simp[J]) q) hf⟩
 self:=λA i s Q E st h=>Si st.1 h
def Wk(K:cn)(ta:TA):TI:=λσ H R=>ta σ H λvs H1=>D_ λa b xs ys=>vs=[.ref a,.ref b]/\az K H1 a xs/\az K H1 b ys/\R (ZC K a b) H1
def Wl{X:Cx}{ta:TA}{J:List Expr}(hg:Gl X "zip")(hm:X.mg "zip"=none)(ha:PA X [e,F] ta)
  (hs:starEach [e,F] X.env=(false,eval e X.env)::starEach [F] X.env:=by rfl)(U:(backTo pos<|starEach [F] X.env).any (·.1)=false:=by rfl):
  PI X (.Tuple J kk jH) (.Call (.Name "zip" p) [e,F] [] pos) (Wk X.K ta):=by
 intro pins s σ H R I h;refine Call_<|iD I hg hm tD<|HK (eF (ha pos pins s σ H _ I h) λus j⟨vs,H1,M,r1,q1⟩=>?_) hs U;obtain⟨a,b,xs,ys,ex,Y,Z,q⟩:=q1;subst ex;cases r1 with
 |cons r rr=>
  cases rr with
  |cons r' rr=>
   cases rr;cases r;cases r';obtain⟨its,rv,p1,_⟩:=M.list Y;obtain⟨g5,J3,p2,_⟩:=M.list Z;have la:a<j.heap.objs.size:=p1.lt;have lb:b<j.heap.objs.size:=p2.lt;refine call_zip_2 p1.isList p2.isList λh' hz lz mh h1 h2 hsz hk=>Si hz ?_;have I2:Inv X pins σ H1 {j with heap:=h'}:=M.kept (t':=j.toks) hk;refine⟨j.heap.objs.size+4,[j.heap.objs.size+4,j.heap.objs.size+2,j.heap.objs.size+3,j.heap.objs.size,j.heap.objs.size+1],_,_,H1,rfl,I2,Ox<|PySem.W.ktu_apart j.heap.objs.size a b la lb,⟨hz,lz,⟨_,_,mh⟩,h1,h2⟩,λc Hf=>?_,q⟩;have e':c=j.heap.objs.size+4\/c=j.heap.objs.size+2\/c=j.heap.objs.size+3\/c=j.heap.objs.size\/c=j.heap.objs.size+1:=by simpa using Hf
   have S:j.heap.objs.size<=c:=by
    rcases e' with z|z|z|z|z
    .rw[z];exact QN _ _
    .rw[z];exact QN _ _
    .rw[z];exact QN _ _
    .rw[z];exact ez _
    .rw[z];exact QN _ _
   exact M.qe S<|M.c7.fresh S
end L2
namespace TL
open PySem PySem.Builtin PySem.Builtin.Str PySem.StrLaws
abbrev tl(x:Str):AU:=x.cps.toList
def pre(S l:AU):Bool:=l.take S.length==S
def spl(S:AU):Nat->AU->AU->List AU
 |_,acc,[]=>[acc]
 |0,acc,c::r=>if pre S (c::r)=true then acc::spl S (S.length-1) [] r else spl S 0 (acc++[c]) r
 |k+1,acc,_::r=>spl S k acc r
def par(S:AU):AU->AU->Option (AU×AU)
 |_,[]=>none
 |acc,c::r=>if pre S (c::r)=true then some (acc,(c::r).drop S.length)else par S (acc++[c]) r
end TL
namespace L2
open PySem PySem.Spec PyProof.Rows
theorem AR:∀l:List<|Str×Tok,Vals ((l.map (·.1)).map V.str)<|strValues l
 |[]=>.nil
 |p::r=>.cons ⟨p.2,rfl⟩<|AR r
theorem mw:∀{ys:Ba}{us:Bb},Vals (ys.map V.str) us->StrsAre us ys
 |[],_,.nil=>.nil
 |y::ys,_,.cons r t=>by obtain⟨k,rfl⟩:=r;exact .cons y k<|mw t
def rG(ys:Ba):Hp->VK->Prop:=λH Q=>∀p,H p=none->Q (.ref p) (upd H p (.lst<|ys.map V.str))
section
variable{X:Cx}{pins:List<|Addr×Obj}{σ:St}{H:Hp}{s:Shared}{Q:VK}
def tE(I:Inv X pins σ H s)(e:l.map (·.1)=ys)(hz:ys.length<=sizeLine)(h:rG ys H Q):
  EP X pins σ Q (.ref s.heap.objs.size) {s with toks:=k,heap:=s.heap.push {cls:=.type "list",data:=.seq (strValues l).toArray}}:=by
 refine⟨.ref s.heap.objs.size,upd H s.heap.objs.size (.lst<|ys.map V.str),I.laid (λb u q=>et _ q) (ez _) ⟨by rw[ek];exact hz,strValues l,_,?_,m8 _ rfl⟩,rfl,h _<|I.c7.fresh<|ez _⟩;rw[<-e];exact AR l
end
section
variable{X:Cx}
def Oy:Rk X "str.split" λx xs H Q=>B_ λa b=>x=.str a/\xs=[.str b]/\(b.length==0)=false/\a.length+2<=sizeLine/\rG (Txt.split a b) H Q:=by
 intro pins s σ H x xs v us Q I J rs h;obtain⟨a,b,rfl,rfl,hb,hz,h⟩:=h;obtain⟨t,rfl⟩:=J;cases rs with
 |cons M rs=>
  cases rs;obtain⟨u,rfl⟩:=M;have z:(Txt.split a b).length<=sizeLine:=lp (PyProof.Rows.split_le a b) hz;have S:(Builtin.Str.partsBetween a (Builtin.Str.occurrences a b 0 a.length<|a.length+1) b.length).length<=sizeLine:=by have U:=StrLaws.occ_length_le a b 0 a.length<|a.length+1;rw[length_partsBetween];lia
  cases h1:(decide (a.length<b.length)||decide (Builtin.Str.strKind a<Builtin.Str.strKind b))
  .cases j:(Builtin.Str.occurrences a b 0 a.length<|a.length+1).isEmpty
   .refine LC Xv (Qm _ _ _) F.entry_str_split (apJ _ _) (meets_str_split_sep a b t u h1 hb j (by lia) S) ?_;show EP X pins σ Q (.ref s.heap.objs.size) {s with toks:=_,heap:=s.heap.push {cls:=.type "list",data:=.seq (strsFrom s.toks<|Builtin.Str.partsBetween a (Builtin.Str.occurrences a b 0 a.length<|a.length+1) b.length).toArray}};rw[strsFrom_eq];exact tE (ys:=Txt.split a b) I ((numbered_texts _ _).trans ((c0<|apy h1).trans<|c0<|apy j).symm) z h
   .refine LC Xv (Qm _ _ _) F.entry_str_split (apJ _ _) (meets_str_split_not_found a b t u h1 hb j) ?_;exact tE (l:=[(a,t)]) (ys:=Txt.split a b) (k:=s.toks) I ((c0<|apy h1).trans<|dt j).symm z h
  .refine LC Xv (Qm _ _ _) F.entry_str_split (apJ _ _) (meets_str_split_cannot_occur a b t u h1) ?_;exact tE (l:=[(a,t)]) (ys:=Txt.split a b) (k:=s.toks) I (dt h1).symm z h
def Ss:Rk X "str.join" (λx xs H Q=>B_ λa p=>∃ys:Ba,x=.str a/\xs=[.ref p]/\(az X.K H p (ys.map V.str)\/ee X.K H p (ys.map V.str))/\
  (ys.map (·.length)).sum+ys.length*a.length<=16777216/\Q (.str<|Txt.join a ys) H):=by
 intro pins s σ H x xs v us Q I z rs h;obtain⟨a,p,ys,rfl,rfl,j,hz,h⟩:=h;obtain⟨t,rfl⟩:=z;cases rs with
 |cons F rs=>
  cases rs;cases F;rcases j with j|j
  .obtain⟨its,r,⟨o,n,J,M,_,hd⟩,_⟩:=I.list j;exact PyProof.Rows.join_list ⟨o,J,M,n,hd⟩ (by rw[aov];exact mw r) hz λt' k=>⟨.str _,H,I.tok k,⟨t',rfl⟩,h⟩
  .obtain⟨its,r,S,_⟩:=I.tuple j;exact PyProof.Rows.join_tuple S (by rw[aov];exact mw r) hz λt' k=>⟨.str _,H,I.tok k,⟨t',rfl⟩,h⟩
def mt0{id:String}{C:Str->Prop}{g:Str->V}(rule:∀(a:Str)(t:Tok)(s:Shared)(Q:Bd),C a->(∀(u:Value)(k:Nat),RelV (g a) u->Q u {s with toks:=k})->
  wpAny (model X.prog X.w) X.A (call (.builtin id) [.str a t]) Q X.xe s):Rk X id λx xs H Q=>∃a,x=.str a/\xs=[]/\C a/\Q (g a) H:=by
 intro pins s σ H x xs v us Q I j rs h;obtain⟨a,rfl,rfl,hc,h⟩:=h;obtain⟨t,rfl⟩:=j;cases rs;exact rule a t s _ hc λu k r=>⟨g a,H,I.tok k,r,h⟩
def HG:Rk X "str.isdigit" λx xs H Q=>∃a,x=.str a/\xs=[]/\True/\Q (.bl<|Txt.isdigit a) H:=mt0 λ_ _ s _ _ h=>PySem.SC.isdigit<|h _ s.toks rfl
def BY:fb X (.type "int") λxs H Q=>B_ λa n=>xs=[.str a]/\PySem.intText? a=some n/\a.length<=640/\Q (.int n) H:=by
 intro pins s σ H xs us Q I rs h;obtain⟨a,n,rfl,hn,hl,h⟩:=h;cases rs with
 |cons j rs=>cases rs;obtain⟨t,rfl⟩:=j;exact PySem.W.KIN.call_text hn hl ⟨.int n,H,I.tok _,⟨_,rfl⟩,h⟩
end
section
variable{X:Cx}{o e:Expr}{to te:TE}
def tM0(r:V->List V->Hp->VK->Prop)(to:TE):TE:=λσ H Q=>to σ H λx H1=>(∃a,x=.str a)/\r x [] H1 Q
def X1(r:V->List V->Hp->VK->Prop)(to te:TE):TE:=λσ H Q=>to σ H λx H1=>(∃a,x=.str a)/\te σ H1 λy H2=>r x [y] H2 Q
def ZF{id:String}(slot:Slot "str" name id)(ty:typeOf (.builtin id)=pure (.type "method_descriptor"))(rule:Rk X id r)(S:PE X o to)
  (j:attributeBase o name X.env (eval o X.env)=eval o X.env:=by rfl)(z:(apos.endLine==pos.line)=true:=by rfl):PE X (.Call (.Attribute o name apos) [] [] pos)<|tM0 r to:=by
 intro pins s σ H Q I h;refine PySem.Call_method0 j z<|eF (S pins s σ H _ I h) λv U⟨x,H1,W,M,J⟩=>?_;obtain⟨⟨a,rfl⟩,J⟩:=J;obtain⟨t,rfl⟩:=_root_.id M;exact⟨"str",_,F.plainAttrs_str,slot,ty,Qm _ _ _,(λ_ e=>nomatch e),ao3 rfl<|PySem.evalArgs_none<|rule pins U σ H1 _ [] _ [] Q W M .nil J⟩
def UD{id:String}(slot:Slot "str" name id)(ty:typeOf (.builtin id)=pure (.type "method_descriptor"))(rule:Rk X id r)(S:PE X o to)(U:PE X e te)
  (hs:starEach [e] X.env=[(false,eval e X.env)]:=by rfl)(j:attributeBase o name X.env (eval o X.env)=eval o X.env:=by rfl)(z:(apos.endLine==pos.line)=true:=by rfl):
  PE X (.Call (.Attribute o name apos) [e] [] pos) (X1 r to te):=by
 intro pins s σ H Q I h;refine PySem.Call_method1 j hs z<|eF (S pins s σ H _ I h) λv W⟨x,H1,Y,M,J⟩=>?_;obtain⟨⟨a,rfl⟩,J⟩:=J;obtain⟨t,rfl⟩:=_root_.id M;refine⟨"str",_,F.plainAttrs_str,slot,ty,Qm _ _ _,(λ_ e=>nomatch e),ao3 rfl<|Calls.evalArgs_plain<|Calls.spliced_cons ?_⟩;exact eF (U pins W σ H1 _ Y J) λu Z⟨y,H2,I2,r2,q2⟩=>Calls.spliced_nil<|rule pins Z σ H2 _ [y] _ [u] Q I2 M (.cons r2 .nil) q2
def Oz(I:PE X o to)(J:PE X e te)(hs:starEach [e] X.env=[(false,eval e X.env)]:=by rfl)(j:attributeBase o "split" X.env (eval o X.env)=eval o X.env:=by rfl)(z:(apos.endLine==pos.line)=true:=by rfl):
  PE X (.Call (.Attribute o "split" apos) [e] [] pos) (X1 (λx xs H Q=>B_ λa b=>x=.str a/\xs=[.str b]/\(b.length==0)=false/\a.length+2<=sizeLine/\rG (Txt.split a b) H Q) to te):=
 UD Xv F.type_str_split Oy I J hs j z
def Su(I:PE X o to)(J:PE X e te)(hs:starEach [e] X.env=[(false,eval e X.env)]:=by rfl)(j:attributeBase o "join" X.env (eval o X.env)=eval o X.env:=by rfl)(z:(apos.endLine==pos.line)=true:=by rfl):
  PE X (.Call (.Attribute o "join" apos) [e] [] pos) (X1 (λx xs H Q=>B_ λa p=>∃ys:Ba,x=.str a/\xs=[.ref p]/\(az X.K H p (ys.map V.str)\/ee X.K H p (ys.map V.str))/\
   (ys.map (·.length)).sum+ys.length*a.length<=16777216/\Q (.str<|Txt.join a ys) H) to te):=
 UD F.slot_str_join F.type_str_join Ss I J hs j z
end
end L2
namespace Att
open PySem PySem.W PySem.Calls PyProof.Rows
def u0:∀(ns:Bc)(vs:Bb),WellAll P h vs (ns.map WData.int)->IntsAre vs ns:=by
 intro ns;induction ns with
 |nil=>intro vs w;rw[HD]at w;cases w;exact .nil
 |cons n ns j=>
  intro vs w;rw[ip]at w;cases w with
  |cons a b=>cases a;exact .cons _ _<|j _ b
def LH{l:OpenLaw}(Y:l.most=some n)
  (z:l.row.toRowW.claim.pre args=true)(S:WellAll P h j args):
  C_ λa vs ns=>j=[Value.ref a]/\args=[WData.list<|ns.map WData.int]/\h.get? a=some {cls:=.type "list",data:=.seq vs.toArray}/\IntsAre vs ns/\ns.length<=n:=by
 have U:=(pre_splitW z).1;have W:=(pre_splitW z).2;obtain⟨d,r,rfl,h1,h2⟩:=hasAllW_cons U;obtain rfl:=hasAllW_nil h2;obtain⟨xs,rfl,h3⟩:=hasW_list h1;obtain⟨ns,rfl⟩:=items_int h3;have F:ns.length<=n:=by
  have J:(WTm.not (.lt (.lit (.int (n:Int))) (.len (.arg 0)))).holds [] {args:=[.list<|ns.map .int]}=true:=by have J:=(holds_andW W).1;rw[Y]at J;exact J
  have M:=condW_of J<|w_not<|w_lt w_lit<|w_len_list<|w_arg rfl;rw[ek]at M;refine Sh λq=>?_;have Z:(n:Int)<((ns.length:Nat):Int):=by lia
  first
   |(rw[ki Z]at M;exact absurd M<|by decide)
   |(simp at M;lia)
 cases S with
 |cons w1 w2=>
  cases w2;cases w1 with
  |list ho I=>exact⟨_,_,ns,rfl,rfl,ho,u0 ns _ I,F⟩
def LJ(l:OpenLaw)(args:List WData):l.row.toRowW.claim.post args (.bool true) args=true:=
 postW_of (X:=(true==true))
  (show WShape.has [] (.bool true) .bool=true by first|rfl|decide|simp[WShape.has,WShape.arms,WShape.armsAll])
  (w_eq_bool (w_res rfl) w_lit) rfl
def EK{l:OpenLaw}
  (hn:l.most=some n)(S:d.params.defaults=[])
  (call:∀(w:World)(z j:Shared)(mg U:Be)(I:Addr)(o:Obj)(pm M F:Value)(a:Addr)(vs:Bb)(ns:Bc),
   Ground q loose [] XP w z mg U j.heap->YP w j.heap->
   j.heap.get? I=some o->o.data=.func (docDef d.name d.params d.body d.scope pm M F)->j.heap.CodeRec M d.name->mg d.name=some (.ref I)->
   j.heap.get? a=some {cls:=.type "list",data:=.seq vs.toArray}->IntsAre vs ns->ns.length<=n->j.gens=#[]->
   codeAny (model l.prog w) callerA (.call (.ref I) ⟨[.ref a],[]⟩) (λr s'=>r=.ok (.ret (.bool true))/\OldK j.heap s'.heap/\s'.os=j.os/\AllBare s'.gens) j):
  WalkO q loose XP YP l.row.toRowW d [] (λf vs=>PySem.call f vs):=by
 intro w z j mg U G Y I o pm M F dV kV ho hd W hD Z hg args vals as J HH Hg Sv ZG;obtain rfl:dV=.none:=Dflts.none hD S;obtain rfl:kV=.none:=Dflts.noKw hD;obtain⟨a,vs,ns,rfl,rfl,EL,hints,hlen⟩:=LH hn J Sv;refine enter_call<|Kg (call w z j mg U I o pm M F a vs ns G Y ho (fd_plain hd) W Z EL hints hlen hg) λr s' hq=>?_;obtain⟨rfl,h2,h3,h4⟩:=hq;exact⟨.inl ⟨.bool true,.bool true,[],rfl,λ_=>rfl,.bool true,LJ l _,λ_=>⟨List.Pairwise.nil,λ_ hm=>(nomatch hm)⟩⟩,h2,h3,h4⟩
section
variable{prog:Program}{w:World}{A:Around}{E:Bd}{s:Shared}{K:Frag}
def ledger(h:Heap)(L d:Addr):List<|Addr×Obj:=(List.range h.objs.size).filterMap λa=>if a=L\/a=d then none else(h.get? a).map λo=>(a,o)
end
end Att
namespace L2
open PySem PySem.Spec PyProof.Rows
theorem AS{vs:Bb}{ns:Bc}(h:IntsAre vs ns):Vals (ns.map V.int) vs:=by induction h with|nil=>exact .nil|cons n t _ i=>exact .cons ⟨t,rfl⟩ i
def Wm(H:Hp):Prop:=∀b,H b=none\/B_ λo xs=>H b=some (.yS o (.lst xs))
def OA{P:Program}{K:cn}{CX:N6}{fa a:Addr}{x:Str}{j:Shared}{ns:Bc}
  (KX:K.In j.heap)(Y:j.heap.Ns mainGlobals mg)(J:j.heap.Ns builtinsNs mb)(hbb:∀x:Str,x≠"__name__"->mb x=bootBuiltins x)(Z:j.heap.NoLimit)(hg:j.gens=#[])
  (ha:j.heap.get? a=some {cls:=.type "list",data:=.seq vs.toArray})(hi:IntsAre vs ns)(hl:ns.length<=sizeLine)(hr:eK k callerA)
  (F:∀base:Heap,K.In base->base.Ns mainGlobals mg->nO P w K mg base CX k fa fd [x] sp)(U:∀(s:Shared)(u:Value),BindsTo s fd ⟨[u],[]⟩ [(x,u)])
  (DS:∀H:Hp,Wm H->az K H a (ns.map V.int)->sp [.ref a] H (λv _=>v=.bl true) λ_ _ _=>False)
  (hCX:∀H e s',CX [] H j (λ_ _ _=>False) e s' ->False):
  codeAny (model P w) callerA (.call (.ref fa) ⟨[.ref a],[]⟩) (λr s'=>r=.ok (.ret (.bool true))/\OldK j.heap s'.heap/\s'.os=j.os/\AllBare s'.gens) j:=by
 have rv:=AS hi;have adM:=hi.length
 have S:∀H:Hp,Wm H->az K H a (ns.map V.int)->mV P w H j.heap->(∀b,H b≠none->b=a)->(H a≠none->K.lookup a=none)->
   codeAny (model P w) callerA (.call (.ref fa) ⟨[.ref a],[]⟩) (λr s'=>r=.ok (.ret (.bool true))/\OldK j.heap s'.heap/\s'.os=j.os/\AllBare s'.gens) j:=by
  intro H hO hS c7 hA hK;have I:∀{b:Addr}{o:Obj},j.heap.get? b=some o->H b=none->(pC j.heap H).get? b=some o:=λe n=>Ec e n;have VR:∀{b:Addr}{o:Obj}{es:Array DictEntry}{ep:Nat},j.heap.get? b=some o->o.data=.dict es ep->H b=none:=λ{b o es ep} e d=>by
   cases q:H b with
   |none=>rfl
   |some u=>have e':b=a:=hA b (by rw[q];simp);subst e';rw[ha]at e;cases e;have d':Data.seq vs.toArray _=Data.dict es ep:=d;cases d'
  have M:∀{b:Addr}{m:Be},j.heap.Ns b m->(pC j.heap H).Ns b m:=λ{b m}⟨o,es,ep,e,d,r⟩=>⟨o,es,ep,I e<|VR e d,d,r⟩
  have hKb:K.In<|pC j.heap H:=λb o e=>I (KX b o e) (by
   cases q:H b with
   |none=>rfl
   |some u=>
    have e':b=a:=hA b (by rw[q];simp);subst e'
    rw[hK<|by rw[q];simp]at e;cases e)
  have hM:Mod K mg<|pC j.heap H:=⟨hKb,M Y,⟨mb,M J,hbb⟩,let⟨mc,h1,h2⟩:=Z;⟨mc,M h1,h2⟩⟩;have e0:BI P w K mg (pC j.heap H) callerA [] j H:=⟨rfl,hM,λb o e=>JK e,SJ<|Az _ _,trivial,λb J=>absurd (show b∈([]:Bf)from J)<|by simp,c7,.of_eq hg⟩;refine Kg ((F _ hKb<|M Y).run callerA [] j H ⟨[.ref a],[]⟩ [.ref a] [.ref a] _ _ hr e0 (U j (.ref a)) (.cons rfl .nil)<|DS H hO hS) λr s' h=>?_;cases r with
  |error e=>exact(hCX H e s' h).elim
  |ok fl=>
   cases fl with
   |next=>exact False.elim h
   |brk=>exact False.elim h
   |cont=>exact False.elim h
   |ret u=>
    obtain⟨v,H',os,bare,un,HI,r',q⟩:=h;have q':v=.bl true:=q;subst q';obtain rfl:u=Value.bool true:=r';refine⟨rfl,OldK.of_keep λb o e=>?_,os,bare⟩;cases q:H b with
    |none=>exact un.keep b o e q (by intro z;exact absurd (show b∈([]:Bf)from z)<|by simp) (by simp)
    |some u=>
     rcases hO b with z|⟨ob,xs,z⟩
     .rw[q]at z;cases z
     .have z2:=un.wm b ob _ z;obtain⟨e1,_⟩:=c7 b _ z;obtain⟨e2,_⟩:=HI b _ z2;rw[e]at e1;cases e1;exact e2
 cases hk:K.lookup a with
 |some o=>have e:=KX a o hk;rw[ha]at e;cases e;refine S (λ_=>none) (λ_=>.inl rfl) (.inr ⟨_,vs.toArray,_,hk,rfl,rfl,rfl,by rw[pd,adM];exact hl,by simpa using rv⟩) (λb u z=>by have z':(none:Option HO)=some u:=z;cases z') (λb z=>absurd rfl z) λz=>absurd rfl z
 |none=>
  refine S (λb=>if b=a then some (.yS {cls:=.type "list",data:=.seq vs.toArray} (.lst<|ns.map V.int))else none) (λb=>?_) (.inl (.inr ⟨{cls:=.type "list",data:=.seq vs.toArray},dt rfl⟩)) (λb u z=>?_) (λb z=>?_) λ_=>hk
  .by_cases J:b=a
   .exact .inr ⟨_,_,dt J⟩
   .exact .inl<|c0 J
  .by_cases J:b=a
   .have z':=(dt J).symm.trans z;cases z';subst J;exact⟨ha,by rw[ek];exact hl,vs,_,rv,ha⟩
   .have z':=(c0 J).symm.trans z;cases z'
  .by_cases J:b=a
   .exact J
   .exact absurd (c0 J) z
abbrev KOf{K:cn}(_:K.In h):cn:=K
def aca{l:PySem.W.OpenLaw}{n k:Nat}{q:Program}{loose:Ba}{XP:Be->Heap->Prop}{YP:World->Heap->Prop}{d:DefRec}{K:Params->cn}{CX:World->N6}{sp:World->Sp}{x:Str}
  (hn:l.most=some n)(S:n<=sizeLine)(U:d.params.defaults=[])(hr:eK k callerA)
  (hY:∀(w:World)(h:Heap),YP w h->(K w.params).In h)
  (F:∀(w:World)(mg:Be)(M:Addr)(h:Heap),(K w.params).In h->h.Ns mainGlobals mg->mg d.name=some (.ref M)->
   ∃fd:FuncData,(∀(s:Shared)(u:Value),BindsTo s fd ⟨[u],[]⟩ [(x,u)])/\
    ∀base:Heap,(K w.params).In base->base.Ns mainGlobals mg->nO l.prog w (K w.params) mg base (CX w) k M fd [x] (sp w))
  (Z:∀(w:World)(H:Hp)(a:Addr)(ns:Bc),ns.length<=n->Wm H->az (K w.params) H a (ns.map V.int)->sp w [.ref a] H (λv _=>v=.bl true) λ_ _ _=>False)
  (hCX:∀(w:World)(H:Hp)(s:Shared)(e:Value)(s':Shared),CX w [] H s (λ_ _ _=>False) e s' ->False):
  PySem.W.WalkO q loose XP YP l.row.toRowW d [] (λf vs=>PySem.call f vs):=by
 refine Att.EK hn U λw Sw I mg mb M o pm cd doc a vs ns G Y ho hd G8 LK J z j hg=>?_;have KX:=hY w _ Y;obtain⟨fd,hb,hF⟩:=F w mg M _ KX G.T.g LK;exact OA KX G.T.g G.T.b G.T.builtins G.T.nolimit hg J z (lp j S) hr hF hb (λH hO hS=>Z w H a ns j hO hS) λH e s'=>hCX w H I e s'
def inClass(s:Stmt)(j:Nat):Stmt:=match s with
 |.ClassDef _ _ _ body _ _ _ _ _ _ _=>body.getD j (.Pass ⟨0,0,0,0⟩)
 |_=>.Pass ⟨0,0,0,0⟩
def iK(s:Stmt):Arguments:=match s with
 |.FunctionDef _ a _ _ _ _ _ _ _ _=>a
 |_=>{posonlyargs:=[],args:=[],vararg:=none,kwonlyargs:=[],kw_defaults:=[],kwarg:=none,defaults:=[]}
def fF(s:Stmt):List Stmt:=match s with
 |.FunctionDef _ _ b _ _ _ _ _ _ _=>b
 |_=>[]
def ai(s:Stmt):Scope:=match s with
 |.FunctionDef _ _ _ _ _ _ sc _ _ _=>sc
 |_=>{kind:=.function,names:=[],isGenerator:=false,isCoroutine:=false}
abbrev HJ:N6:=λ_ _ _ _ _ _=>False
abbrev E0:XK:=λ_ _ _=>False
def J4:Passes HJ X E0:=λ_ _ _ _ _ _ _ h=>h.elim
structure Wo(K:cn)(x qual:Str)(st:Stmt)(f:Addr)(fd:FuncData):Prop where
 ex:I_ λ(oc:Value)(od:Option Addr)(kV doc pm:Value)(an:Option Addr)(dg ct:Value)(N9:Array BJ)=>
  fd=PySem.W.fnOf x qual (iK st) (fF st) (ai st) .none kV doc pm an dg ct/\K.lookup f=some ⟨oc,od,.func fd,N9⟩/\PySem.W.codeIn K dg qual=true
 kp:PySem.W.keepIn K (.ref f)=true
section
variable{P:Program}{w:World}{K:cn}{mg:Be}{base:Heap}
def Wo.ok{x qual:Str}{st:Stmt}(F:Wo K x qual st f fd)(S:aB N ps<|ai st)(len:∀vs H Q E,sp vs H Q E->vs.length=ps.length)
  (z:∀(j:Value)(A:Around)(outer:List Env)(s:Shared)(H:Hp)(vs:List V)(Q:VK)(E:XK),eK k (A.deeper<|envOfC qual (ai st) s.heap.objs.size f j)->sp vs H Q E->
   ∃t,Ef (yY HJ N qual (ai st) P w K mg base f j A outer s H E).RI (fF st) t/\t {nx:=λ_ H'=>Q .eQ H',rt:=Q} (start N vs) H):nO P w K mg base HJ (k+1) f fd ps sp:=by
 obtain⟨Y,Z,kV,J,pm,an,j,ct,M,rfl,lk,G8⟩:=F.ex;refine Up lk G8 S len λA outer s H vs Q E U I=>?_;obtain⟨t,h,q⟩:=z j A outer s H vs Q E U I;exact⟨t,h.RI,q⟩
def Wo.binds{x qual:Str}{st:Stmt}(F:Wo K x qual st f fd)
  (h:∀(kV j pm:Value)(I:Option Addr)(z ct:Value)(us:Bb),us.length=ps.length->bindArgs (PySem.W.fnOf x qual (iK st) (fF st) (ai st) .none kV j pm I z ct) ⟨us,[]⟩=pure (ps.zip us)):Binds K fd ps []:=by
 obtain⟨M,S,kV,j,pm,I,z,ct,J,rfl,lk,G8⟩:=F.ex;exact .all<|h kV j pm I z ct
def OB{x qual:Str}{st:Stmt}{f:Addr}{J:Value}{M I:Option Addr}{F:Array BJ}{kV z pm j ct:Value}(l:K.lookup f=some ⟨J,M,.func<|PySem.W.fnOf x qual (iK st) (fF st) (ai st) .none kV z pm I j ct,F⟩)
  (c:PySem.W.codeIn K j qual=true)(k:PySem.W.keepIn K (.ref f)=true):Wo K x qual st f<|PySem.W.fnOf x qual (iK st) (fF st) (ai st) .none kV z pm I j ct:=⟨⟨J,M,kV,z,pm,I,j,ct,F,rfl,l,c⟩,k⟩
end
def uA(j:eK k A):A.units+1<cLine:=apK (Nat.add_le_add_left (by decide:1<=64) _) j.units
section
variable{X:Cx}
def pv(i:Nat)(z:X.N[i]?=some x:=by rfl)(F:Vs X.env.scope x:=by first|exact Or.inl rfl|exact Or.inr<|Or.inl rfl|exact Or.inr<|Or.inr rfl)(hd:(x==("__debug__":Str))=false:=by decide)
  (j:(x==("__classdict__":Str))=false:=by decide):PE X (.Name x pos)<|RH i:=NN z F hd j
end
def ft{A B:Prop}(h:B):if false=true then A else B:=by rw[c0 rP];exact h
def fo{A B:Prop}(h:A):if true=true then A else B:=by rw[dt rfl];exact h
def jT{c A B:Prop}[Decidable c](h1:c->A)(h2:¬c->B):if c then A else B:=by
 by_cases h:c
 .rw[dt h];exact h1 h
 .rw[c0 h];exact h2 h
def aq(H H':Hp):Prop:=∀b o,H b=some o->H' b=some o
def aq.refl(H:Hp):aq H H:=λ_ _ h=>h
def aq.trans(a:aq H H1)(b:aq H1 H2):aq H H2:=λc o h=>b c o<|a c o h
def aq.free(e:aq H H')(h:H' l=Option.none):H l=Option.none:=by
 cases q:H l with
 |none=>rfl
 |some o=>rw[e l o q]at h;cases h
def aq.seq{K:cn}(e:aq H H')(h:az K H a xs):az K H' a xs:=by
 rcases h with(h|⟨o,h⟩)|h
 .exact .inl (.inl<|e _ _ h)
 .exact .inl (.inr ⟨o,e _ _ h⟩)
 .exact .inr h
section
variable{κ:Type}[DecidableEq κ]
def OC{kvs:List<|κ×V}(h:gz kvs k=none):¬k∈kvs.map (·.1):=by intro m;obtain⟨p,j,e⟩:=n8.mp m;have q:(kvs.any λz=>decide<|z.1=k)=true:=Kc.mpr ⟨p,j,ki e⟩;rw[jA,h]at q;exact absurd q (by simp)
theorem mx:∀{l:List κ}{k:κ},l.Nodup->¬k∈l->(l++[k]).Nodup
 |[],k,_,_=>by simp
 |a::r,k,h,hk=>by
  obtain⟨h1,h2⟩:=nM.mp h;refine nM.mpr ⟨λm=>?_,mx h2 λm=>hk<|eH.mpr<|Or.inr m⟩;rcases ro.mp m with q|q
  .exact h1 q
  .exact hk<|eH.mpr<|Or.inl (oI.mp q).symm
def Sx{kvs:List<|κ×V}(v:V)(j:(kvs.map (·.1)).Nodup)(h:gz kvs k=none):((putK kvs k v).map (·.1)).Nodup:=by rw[wK v h,t4];exact mx j<|OC h
end
def aq.made(nx:H x=Option.none)(nd:H dx=Option.none)(k:∀b o,(upd (upd H dx (.own x)) x (.ins C dx [])) b=some o->b≠x->H1 b=some o):aq H H1:=λb o e=>k b o (by rw[aL<|aX e nx,aL<|aX e nd];exact e)<|aX e nx
def iZ(c:Addr)(q:Str):HO:=.ext λh=>h.CodeRec (.ref c) q
def EM:HO->Bool
 |.uX _=>true
 |_=>false
structure Tab where
 P:Addr
 qual:Str
inductive kg(H:Hp)(q:Str):Bb->Prop
 |nil:kg H q []
 |cons {line col:Int} {t u:Tok} {c:Addr} {r:Bb} (h:H c=some (iZ c q)) (hr:kg H q r):kg H q (.int line t::.int col u::.ref c::r)
def ZH(H:Hp)(t:Tab):Prop:=∃ps,H t.P=some (.uX ps)/\kg H t.qual ps.toList
def TabsOk(tabs:List Tab)(H:Hp):Prop:=∀t∈tabs,ZH H t
theorem kg.mono(k:∀c,H c=some (iZ c q)->H' c=some (iZ c q)){l:Bb}(h:kg H q l):kg H' q l:=by induction h with|nil=>exact .nil|cons h _ i=>exact .cons (k _ h) i
def TabsOk.same(k:aq H H')(h:TabsOk tabs H):TabsOk tabs H':=λt j=>let⟨ps,e,r⟩:=h t j;⟨ps,k _ _ e,r.mono λ_ z=>k _ _ z⟩
def TabsOk.upd(h1:∀ps,H D≠some (.uX ps))(h2:∀c q,H D≠some (iZ c q))(h:TabsOk tabs H):TabsOk tabs<|upd H D o:=λt j=>by obtain⟨ps,e,r⟩:=h t j;have F:t.P≠D:=λz=>h1 ps (by rw[<-z];exact e);exact⟨ps,by rw[aL F];exact e,r.mono λc z=>by rw[aL λw=>h2 c t.qual<|by rw[<-w];exact z];exact z⟩
structure Kp(tabs:List Tab)(H H':Hp):Prop where
 nt:∀b o,H b=some o->EM o=false->H' b=some o
 tb:TabsOk tabs H->TabsOk tabs H'
section
variable{tabs:List Tab}{H H1 H2 H3:Hp}
def Kp.trans(a:Kp tabs H1 H2)(b:Kp tabs H2 H3):Kp tabs H1 H3:=⟨λc o h n=>b.nt c o (a.nt c o h n) n,λh=>b.tb<|a.tb h⟩
def Kp.of(k:aq H1 H2):Kp tabs H1 H2:=⟨λc o h _=>k c o h,λh=>h.same k⟩
def aq.new(h:H D=none):aq H<|upd H D o:=λb u e=>by rw[aL<|aX e h];exact e
def Kp.new(h:H D=none):Kp tabs H<|upd H D o:=.of<|aq.new h
def Kp.seq{K:cn}(e:Kp tabs H H1)(h:az K H a xs):az K H1 a xs:=by
 rcases h with(h|⟨o,h⟩)|h
 .exact .inl (.inl<|e.nt _ _ h rfl)
 .exact .inl (.inr ⟨o,e.nt _ _ h rfl⟩)
 .exact .inr h
def Kp.gh{K:cn}(e:Kp tabs H H1)(h:ee K H a xs):ee K H1 a xs:=by
 rcases h with(h|⟨o,h⟩)|h
 .exact .inl (.inl<|e.nt _ _ h rfl)
 .exact .inl (.inr ⟨o,e.nt _ _ h rfl⟩)
 .exact .inr h
end
theorem Paired.snoc{j z:Type}{R:j->z->Prop}{l:List j}{m:List z}{a:j}{b:z}(h:Paired R l m)(r:R a b):Paired R (l++[a]) (m++[b]):=by induction h with|nil=>exact .cons r .nil|cons p _ i=>exact .cons p i
theorem Paired.at_{z j:Type}{R:z->j->Prop}:∀{l:List z}{m:List j}{i:Nat}{b:j},Paired R l m->m[i]?=some b->∃a,l[i]?=some a/\R a b
 |_,_,_,_,.nil,h=>by simp at h
 |_,_,0,_,.cons p _,h=>⟨_,rfl,by simp at h;subst h;exact p⟩
 |_,_,i+1,_,.cons _ q,h=>Paired.at_ (i:=i) q (by simpa using h)
def J5{j z:Type}(f:j->Option z){l:List j}{a:j}(h:l[i]?=some a):(l.take<|i+1).filterMap f=(l.take i).filterMap f++(match f a with|none=>[]|some b=>[b]):=by
 rw[YK,h,List.filterMap_append];cases e:f a with
 |none=>simp[e]
 |some b=>simp[e]
def ZI{j z:Type}(f:j->Option z)(l:List j):(l.filterMap f).length<=l.length:=List.length_filterMap_le f l
section
variable{tabs:List Tab}{K:cn}{a D:Addr}{xs:List V}{g:TG}{tt:TT}{te:TE}{vs:AU}{σ:St}{H1:Hp}{Qd:Hp->Prop}{ε δ:Type}
theorem Paired.mono{j z:Type}{R F:j->z->Prop}(f:∀a b,R a b->F a b){l:List j}{m:List z}(h:Paired R l m):Paired F l m:=by induction h with|nil=>exact .nil|cons p _ i=>exact .cons (f _ _ p) i
end
def wO(f:Addr)(fd:FuncData):HO:=.ext λh=>h.get? f=some {cls:=.type "function",data:=.func fd}
abbrev BZ(q:Str)(params:Arguments)(body:Expr)(scope:Scope)(cl:List<|Str×Addr)(pm:Value)(c:Addr)(ct:Value):FuncData:=PySem.W.kla_fn "<lambda>" (q++"<lambda>") params body scope cl pm (.ref c) ct
theorem kg.ok:∀{l:Bb},kg H q l->TriplesOk l
 |_,.nil=>True.intro
 |_,.cons _ r=>by exact r.ok
theorem kg.among:∀{l:Bb},kg H q l->codeAmong pos l=some cv->∃c,cv=.ref c/\H c=some (iZ c q)
 |_,.nil,h=>by simp[codeAmong]at h
 |_,.cons (c:=c) hc r,h=>by
  unfold codeAmong at h;split at h
  .cases h;exact⟨c,rfl,hc⟩
  .exact r.among h
theorem kg.snoc(h:H c=some (iZ c q)):∀{l:Bb},kg H q l->kg H q (l++[.int line t,.int j u,.ref c])
 |_,.nil=>.cons h .nil
 |_,.cons hc r=>.cons hc<|r.snoc h
def OD(x:h.CodeRec (.ref c) q):eh P w H h c<|iZ c q:=by
 refine⟨x,?_,λh1 h2 y k=>?_⟩
 .obtain⟨F,z,vs,t,e,j,_⟩:=x;cases e;exact⟨_,j⟩
 .obtain⟨F,z,vs,t,e,j,r⟩:=y;cases e;exact⟨_,z,vs,t,rfl,k _ j,r⟩
def J6(x:h.get? f=some {cls:=.type "function",data:=.func fd}):eh P w H h f<|wO f fd:=⟨x,⟨_,x⟩,λ_ _ y k=>k _ y⟩
structure OE(X:Cx)(c:Addr)(t:Tab):Prop where
 code:X.env.code=.ref c
 hd:PySem.W.CodeHd X.base c t.P
 qual:t.qual=X.env.qual++"<lambda>"
 bm:B_ λbm ob=>X.mg "__builtins__"=some (.ref bm)/\bm≠builtinsNs/\X.base.get? bm=some ob/\ob.cls=.type "module"/\ob.dict=some builtinsNs/\ob.data=.plain
def ZJ(tabs:List Tab)(t:Tab)(fdOf:Addr->Value->Value->FuncData):TE:=λ_ H Q=>t∈tabs/\TabsOk tabs H/\(∀u∈tabs,u.P=t.P->u=t)/\∀f c pm ct H',Kp tabs H H' ->H f=none->H' f=some (wO f<|fdOf c pm ct)->H' c=some (iZ c t.qual)->Q (.ref f) H'
section
variable{X:Cx}{params:Arguments}{body:Expr}{scope:Scope}{pos:Pos}{tabs:List Tab}{t:Tab}{c:Addr}
def Wq(L:OE X c t)(Wr:defaultsOf params X.env=([],[]))(pQ:∀y∈scope.names,y.2=.free->(X.env.kindOf y.1=some .cell\/X.env.kindOf y.1=some .free)):
  PE X (.Lambda params body scope pos) (ZJ tabs t λc pm ct=>BZ X.env.qual params body scope (bQ X.env.cells scope.names []) pm c ct):=by
 intro pins s σ H Q I h;obtain⟨ht,hT,hu,h⟩:=h;refine PySem.W.kla_eval Wr ?_;have tw:closureFor scope X.env=pure (bQ X.env.cells scope.names []):=wJ λy hy e=>I.ok.has _<|pQ y hy e;obtain⟨ps,M,hI⟩:=hT t ht;have EL:s.heap.get? t.P=some (PySem.W.tabObj ps):=I.c7 _ _ M;have hg:=I.mod.glob.keeps I.bk;have C:=L.hd.keeps I.bk;obtain⟨bm,ob,b1,b2,b3,b4,b5,b6⟩:=L.bm;have ZK:∀b o,X.base.get? b=some o->b≠t.P:=λb o e z=>by have:=(I.bs b o e).2;rw[z,M]at this;cases this
 have hgP:mainGlobals≠t.P:=by obtain⟨o,_,_,e,_⟩:=I.mod.glob;exact ZK _ _ e
 have hbG:bm≠mainGlobals:=λz=>by obtain⟨o,es,ep,e,d,_⟩:=I.mod.glob;rw[<-z,b3]at e;cases e;rw[b6]at d;cases d
 have hb:s.heap.BuiltinsAt X.mg t.P:=⟨bm,ob,b1,b2,hbG,ZK _ _ b3,I.bk _ _ b3,b4,b5,b6⟩;have lt:∀(b:Nat)(o:HO),H b=some o->b<s.heap.objs.size:=λb o e=>(I.c7 b o e).lt;cases hq:codeAmong pos ps.toList with
 |some cv=>obtain⟨j,rfl,NM⟩:=hI.among hq;refine PySem.W.kla_makeFunctionHit (mg:=X.mg) tw I.ok.glob hg L.code C EL hI.ok hq hb λU h' tk hk hsz=>?_;have hn:H h'.objs.size=none:=I.c7.fresh hsz;refine⟨.ref h'.objs.size,_,I.laid (o:=wO h'.objs.size<|BZ X.env.qual params body scope (bQ X.env.cells scope.names []) ((X.mg "__name__").getD .none) j U) (λb u e=>et _<|hk b u e) hsz<|J6<|m8 _ rfl,rfl,?_⟩;exact h _ j _ U _ (Kp.new hn) hn ah (by rw[aL<|aX NM hn];exact NM)
 |none=>
  refine PySem.W.kla_makeFunction (mg:=X.mg) tw I.ok.glob hg L.code C EL hI.ok hq hgP hb λj U h' tk hx J S adN htb=>?_;generalize hf:h'.objs.size=f at S|-;generalize Ws:BZ X.env.qual params body scope (bQ X.env.cells scope.names []) ((X.mg "__name__").getD .none) j U=fd;generalize hps:ps++#[rawInt pos.line,rawInt pos.col,.ref j]=UH at htb;have ZM:∃more,UH=ps++more:=⟨_,hps.symm⟩;have adP:h'.CodeRec (.ref j) t.qual:=by rw[L.qual];exact adN
  have ZN:=lt _ _ M;have ncP:j≠t.P:=B2<|sd ZN J;have nfP:f≠t.P:=B2<|XZ (sd ZN J) S;have ncf:j≠f:=nP S;have hc0:H j=none:=I.c7.fresh J;have hf0:H f=none:=I.c7.fresh<|lp J<|Ra S;have hH:∀b,b≠t.P->b≠j->b≠f->upd (upd (upd H t.P (.uX UH)) j<|iZ j t.qual) f (wO f fd) b=H b:=λb n1 n2 n3=>by rw[aL n3,aL n2,aL n1]
  have Y:upd (upd (upd H t.P (.uX UH)) j<|iZ j t.qual) f (wO f fd) t.P=some (.uX UH):=by rw[aL<|iq nfP,aL<|iq ncP,ah]
  have Z:upd (upd (upd H t.P (.uX UH)) j<|iZ j t.qual) f (wO f fd) j=some (iZ j t.qual):=by rw[aL ncf,ah]
  have hHf:upd (upd (upd H t.P (.uX UH)) j<|iZ j t.qual) f (wO f fd) f=some (wO f fd):=ah;generalize upd (upd (upd H t.P (.uX UH)) j<|iZ j t.qual) f (wO f fd)=H' at hH Y Z hHf;have F:∀b o,H b=some o->b≠t.P->H' b=some o:=λb o e n=>by have z:=lt b o e;rw[hH b n (nP<|sd z J)<|nP<|XZ (sd z J) S];exact e
  have kept:∀b o,b≠t.P->s.heap.get? b=some o->(h'.push {cls:=.type "function",data:=.func fd}).get? b=some o:=λb o n e=>et _<|hx b o n e;have un:Un X.fs [] H H' s.heap<|h'.push {cls:=.type "function",data:=.func fd}:=by
   refine⟨λb o e n _ _=>kept b o (λz=>by rw[z,M]at n;cases n) e,λb o e n _ _=>⟨o.slots,kept b o (λz=>by rw[z,M]at n;cases n) e⟩,λb o e n _=>?_,λb o e _=>?_,λb xs e=>?_,λb o u e=>?_,λb qs e=>?_⟩
   .have q:=ky e;rw[hH b (λz=>by rw[z,M]at n;cases n) (nP<|sd q J)<|nP<|XZ (sd q J) S];exact n
   .by_cases z:b=t.P
    .rw[z];exact⟨_,et _ htb⟩
    .exact⟨o,kept b o z e⟩
   .exact F b _ e (λz=>by rw[z,M]at e;cases e)
   .exact F b _ e (λz=>by rw[z,M]at e;cases e)
   .by_cases z:b=t.P
    .rw[z,M]at e;cases e;obtain⟨more,e2⟩:=ZM;exact⟨more,by rw[z,Y,e2]⟩
    .exact⟨#[],by rw[F b _ e z];simp⟩
  have HI:mV X.prog X.w H'<|h'.push {cls:=.type "function",data:=.func fd}:=by
   intro b o e;by_cases z1:b=f
   .subst z1;rw[hHf]at e;cases e;exact J6 (by rw[<-hf];exact m8 _ rfl)
   .by_cases z2:b=j
    .subst z2;rw[Z]at e;cases e;obtain⟨c2,oc,vs,tq,e2,ho,r⟩:=adP;cases e2;exact OD ⟨_,oc,vs,tq,rfl,et _ ho,r⟩
    .by_cases z3:b=t.P
     .subst z3;rw[Y]at e;cases e;exact et _ htb
     .rw[hH b z3 z2 z1]at e;refine(I.c7 b o e).yT (λd v hd q=>kept d v ?_ q) (λd hd=>F d _ hd λz=>by rw[z,M]at hd;cases hd) λd xs hd=>F d _ hd (λz=>by rw[z,M]at hd;cases hd);rcases hd with z|z
      .rw[z];exact z3
      .intro w;rw[w,M]at z;cases z
  subst Ws;refine⟨.ref f,H',I.un (t':=tk) un HI,rfl,?_⟩;refine h f j _ U H' ⟨λb o e n=>F b o e (λz=>by rw[z,M]at e;cases e;cases n),λ_ u hu'=>?_⟩ hf0 hHf Z;by_cases z:u.P=t.P
  .have e:=hu u hu' z;subst e;refine⟨UH,Y,?_⟩;rw[<-hps];have e3:(ps++#[rawInt pos.line,rawInt pos.col,Value.ref j]).toList=ps.toList++[rawInt pos.line,rawInt pos.col,.ref j]:=by simp
   rw[e3];exact kg.snoc Z<|hI.mono λd hd=>F d _ hd (λz=>by rw[z,M]at hd;cases hd)
  .obtain⟨qs,e1,e2⟩:=hT u hu';exact⟨qs,F _ _ e1 z,e2.mono λd hd=>F d _ hd λz=>by rw[z,M]at hd;cases hd⟩
end
theorem qi:∀{l m:List<|Str×Value},l.lookup x=none->(l++m).lookup x=m.lookup x
 |[],m,_=>rfl
 |(y,v)::l,m,h=>by
  by_cases e:(x==y)=true
  .simp only[List.lookup,e]at h;cases h
  .have j:(x==y)=false:=by simpa using e
   simp only[List.lookup,j]at h;simp only[Ki,List.lookup,j];exact qi h
theorem mX:∀{l m:List<|Str×Value},l.lookup x=some u->(l++m).lookup x=some u
 |[],m,h=>by cases h
 |(y,v)::l,m,h=>by
  by_cases e:(x==y)=true
  .simp only[List.lookup,e]at h;simp only[Ki,List.lookup,e];exact h
  .have j:(x==y)=false:=by simpa using e
   simp only[List.lookup,j]at h;simp only[Ki,List.lookup,j];exact mX h
theorem mY:∀{ps:Ba}{us:Bb},x∉ps->(ps.zip us).reverse.lookup x=none
 |[],us,_=>by simp
 |p::ps,[],_=>by simp
 |p::ps,u::us,h=>by have h1:¬x=p:=λz=>h (by simp[z]);rw[F7,Zo,qi<|mY λz=>h<|kB _ z];have e:=Mh.mpr h1;simp only[List.lookup,e]
theorem nU:∀{ps:Ba}{us:Bb}{i:Nat},ps.Nodup->ps[i]?=some x->us[i]?=some u->(ps.zip us).reverse.lookup x=some u
 |[],us,i,_,h,_=>by simp at h
 |p::ps,[],i,_,_,h=>by simp at h
 |p::ps,v::us,0,nd,h,h'=>by
  have j:p=x:=by simpa using h
  have z:v=u:=by simpa using h'
  subst j z;rw[nM]at nd;rw[F7,Zo,qi<|mY nd.1];simp[List.lookup]
 |p::ps,v::us,i+1,nd,h,h'=>by rw[nM]at nd;rw[F7,Zo];exact mX<|nU nd.2 (by simpa using h) (by simpa using h')
def OG(X:Cx)(A:Around)(s:Shared)(H:Hp)(N:Ba)(env:Env):Cx where
 prog:=X.prog
 w:=X.w
 K:=X.K
 mg:=X.mg
 base:=X.base
 A:=A.deeper env
 N:=N
 yV:=s
 XR:=H
 env:=env
 outer:=X.stack
 stack:=env::X.stack
 ex:=[]
 fn:=λ_=>false
 calm:=true
 pn:=[]
 xe:=λ_ _=>False
structure UI(X:Cx)(scope:Scope)(ps fr:Ba)(js:AU):Prop where
 kind:scope.kind=.function
 co:scope.isCoroutine=false
 gen:scope.isGenerator=false
 OH:∀y∈scope.names,y.2≠.cell
 par:∀x∈ps,scope.names.lookup x=some .local
 nd:(ps++fr).Nodup
 free:∀(i:Nat)(x:Str),fr[i]?=some x->scope.names.lookup x=some .free/\∃j,js[i]?=some j/\X.N[j]?=some x/\(X.env.kindOf x=some .cell\/X.env.kindOf x=some .free)
 all:∀y∈scope.names,y.2=.free->(X.env.kindOf y.1=some .cell\/X.env.kindOf y.1=some .free)
 one:∀x k,(x,k)∈scope.names->scope.names.lookup x=some k
def AV(vs:List V)(σ:St)(js:AU):St:=vs.map some++js.map λj=>(σ[j]?).join
section
variable{X:Cx}{params:Arguments}{body:Expr}{scope:Scope}{ps fr:Ba}{js:AU}{q:Str}{pm ct:Value}{c f:Addr}{k:Nat}{A:Around}{pins:List<|Addr×Obj}{σ:St}{H:Hp}{s:Shared}{us:Bb}{vs:List V}{Q:VK}{te:TE}{E:Bd}
def OI(h:(bQ cells names []).lookup x=some c)(j:∀y∈names,y.2=.free->∃d,cells.lookup y.1=some d):cells.lookup x=some c:=by
 rcases jy (xn h)with z|⟨h1,rfl⟩
 .cases z
 .obtain⟨d,e⟩:=j _ h1 rfl;rw[e];rfl
def Sy(I:Inv X pins σ H s)(hA:A.frames=some X.stack)(hr:eK (k+1) A)(S:UI X scope ps fr js)
  (hf:H f=some (wO f<|BZ q params body scope (bQ X.env.cells scope.names []) pm c ct))(hc:H c=some (iZ c<|q++"<lambda>"))
  (Y:∀us:Bb,us.length=ps.length->bindArgs (BZ q params body scope (bQ X.env.cells scope.names []) pm c ct) ⟨us,[]⟩=pure (ps.zip us))
  (r:Vals vs us)(hl:vs.length=ps.length)
  (he:∀L:Addr,eK k (A.deeper<|PySem.W.envX (q++"<lambda>") scope L f (.ref c)<|bQ X.env.cells scope.names [])->PE (OG X A s H (ps++fr)<|PySem.W.envX (q++"<lambda>") scope L f (.ref c)<|bQ X.env.cells scope.names []) body te)
  (h:te (AV vs σ js) H Q)(Us:js.length=fr.length):wpAny (model X.prog X.w) A (call (.ref f) us) (EP X pins σ Q) E s:=by
 have pQ:=λy hy e=>I.ok.has _<|S.all y hy e;generalize tw:bQ X.env.cells scope.names []=OJ at hf Y he;have look:∀{x c},OJ.lookup x=some c->X.env.cells.lookup x=some c:=λ{x c} e=>by rw[<-tw]at e;exact OI e pQ
 have hul:us.length=ps.length:=by rw[<-r.length];exact hl
 have ho:s.heap.get? f=some {cls:=.type "function",data:=.func<|BZ q params body scope OJ pm c ct}:=(I.c7 f _ hf).1;have hcr:s.heap.CodeRec (.ref c)<|q++"<lambda>":=(I.c7 c _ hc).1;refine wpAny_call<|PySem.W.kla_callFunE hr.depth ho rfl S.co S.gen rfl hcr ?_;rw[Y us hul];have hz:∀y∈ps.zip us,scope.names.lookup y.1=some .local:=λy hy=>S.par _ (Q9 (a:=y.1) (b:=y.2) hy).1;refine er<|wpAny_newFunctionEnv S.OH hz (λh1 X2 hsb=>⟨I.nolimit.fresh _ hsb,?_⟩) S.kind;show codeAny _ _ (.expr body<|PySem.W.envX (q++"<lambda>") scope s.heap.objs.size f (.ref c) OJ) _ _;have Z:∀b o,s.heap.get? b=some o->h1.get? b=some o:=λb o e=>hsb.extBut b o (nP<|ky e)<|et _ e;have pe:=he s.heap.objs.size<|hr.deeper _;generalize F:PySem.W.envX (q++"<lambda>") scope s.heap.objs.size f (.ref c) OJ=env at pe;have hL:env.locals=s.heap.objs.size:=by rw[<-F]
 have yL:env.cells=OJ:=by rw[<-F]
 have Uu:env.scope=scope:=by rw[<-F]
 have EB:env.frame=some env.locals:=by rw[<-F]
 have M:∀x c,env.cells.lookup x=some c->X.env.cells.lookup x=some c:=λx c e=>look (by rw[<-yL];exact e);have J:Inv (OG X A s H (ps++fr) env) [] (AV vs σ js) H {s with heap:=h1,toks:=s.toks+(ps.zip us).length}:=by
  refine⟨⟨I.ok.mod,by show env.scope.kind=_;rw[Uu];exact S.kind,by show env.globals=_;rw[<-F],by show env.builtins=_;rw[<-F],by show s.heap.objs.size<=env.locals;rw[hL];exact ez _,
   λx y c e1 U=>I.ok.inj x y c (M x c e1)<|M y c U,λx hx=>?_,(λx c z _=>nomatch z),λ_=>hr.hd,Around.frames_deeper hA,.inr ⟨rfl,EB⟩,(λb z=>nomatch z),I.bs,lp I.ok.Q0 I.sz,(λb _ _ z=>nomatch z),(λb z=>nomatch z),I.stack,I.BF⟩,
   rfl,I.bare,Un.kept Z,⟨_,by show h1.Ns env.locals _;rw[hL];exact X2,λi x v e1 U e3=>?_⟩,λx c e=>?_,?_,λx c e=>I.lL x c<|M x c e,λp hp=>absurd (show p∈([]:List<|Addr×Obj)from hp)<|by simp,I.c7.kept Z,?_⟩
  .show∃c,env.cells.lookup x=some c;have hx:scope.names.lookup x=some .cell\/scope.names.lookup x=some .free:=by rw[<-Uu];exact hx
   rcases hx with hx|hx
   .exact absurd rfl<|S.OH _<|xn hx
   .obtain⟨c',e'⟩:=mem_lookup<|jz (cells:=X.env.cells) (acc:=[])<|xn hx;rw[tw]at e';exact⟨c',by rw[yL];exact e'⟩
  .have e1:(ps++fr)[i]?=some x:=e1;unfold AV at U;by_cases hi:i<ps.length
   .rw[F3 hi]at e1;rw[F3<|by rw[ek,hl];exact hi,mq]at U;cases ev:vs[i]? with
    |none=>rw[ev]at U;cases U
    |some v'=>rw[ev]at U;cases U;obtain⟨u,hu,ru⟩:=r.get ev;refine⟨u,ru,.inl ⟨by show env.kindOf x=_;unfold Env.kindOf;rw[Uu];exact S.par x<|oA e1,?_⟩⟩;have ndP:ps.Nodup:=(Q4.mp S.nd).1;show(ps.zip us).reverse.lookup x=some u;exact nU ndP e1 hu
   .rw[Pa<|by lia]at e1;rw[Pa<|by rw[ek,hl];lia,ek,hl,mq]at U;obtain⟨hfx,j,hj,hjN,hkx⟩:=S.free _ _ e1;rw[hj]at U;have e4:σ[j]?=some (some v):=by
     have U:some ((σ[j]?).join)=some (some v):=U;have:=ri U;cases q:σ[j]? with
     |none=>rw[q]at this;cases this
     |some z=>rw[q]at this;simp at this;rw[this]
    obtain⟨m,hn,hlk⟩:=I.loc;have vis:Vs X.env.scope x:=by rcases hkx with z|z;exact .inr (.inl z);exact .inr (.inr z)
    obtain⟨u,ru,lk⟩:=hlk j x v hjN e4 vis;refine⟨u,ru,.inr ⟨.inr (by show env.kindOf x=_;unfold Env.kindOf;rw[Uu];exact hfx),?_⟩⟩;obtain⟨c',e'⟩:=mem_lookup<|jz (cells:=X.env.cells) (acc:=[])<|xn hfx;rw[tw]at e';refine⟨c',by show env.cells.lookup x=_;rw[yL];exact e',?_⟩;have ex:=look e';rcases lk with⟨z,_⟩|⟨_,d,hd,o,BK,hd2⟩
    .rcases hkx with w|w
     .rw[w]at z;cases z
     .rw[w]at z;cases z
    .rw[ex]at hd;cases hd;exact⟨o,Z _ _ BK,hd2⟩
  .obtain⟨v,o,BK,hd2⟩:=I.cell x c<|M x c e;exact⟨v,o,Z _ _ BK,hd2⟩
  .show H env.locals=none;rw[hL];exact I.c7.fresh<|ez _
  .show(AV vs σ js).length=(ps++fr).length;unfold AV;rw[mu,mu,ek,ek,hl,Us]
 refine PySem.W.kla_codeExpr<|y2 (pe [] _ _ H Q J h) (λv s' hq=>?_) λ_ _ z=>False.elim z;obtain⟨v',H',J',rv,qv⟩:=hq;show EP X pins σ Q v s';exact I.after ⟨v',H',J'.os,J'.bare,J'.base,J'.c7,rv,qv⟩
end
end L2
namespace Sim
open PySem PyProof.Rows
def Calm{j:Type}(s:Shared):Sem j->j->Prop
 |.pure a,b=>a=b
 |.rule _ k,b=>Calm s (k ()) b
 |.load a _ k,b=>∃o,s.heap.get? a=some o/\Calm s (k o) b
 |_,_=>False
def Calm.wp{F:Type}:∀{t:Sem F}{b:F}{K:F->Pos->Shared->Prop}{E:Value->Pos->Shared->Prop}{p:Pos},Calm s t b->(Sem.wp M Γ t K E p s↔K b p s):=by
 intro t;induction t with
 |pure a=>intro b K E p h;cases h;simp[Sem.wp]
 |rule g k j=>intro b K E p h;rw[Sem.wp];exact j () h
 |load a q k j=>
  intro b K E p h;obtain⟨o,e,h⟩:=h;rw[Sem.wp];constructor
  .rintro⟨o',I,z⟩;rw[e]at I;cases I;exact(j o h).mp z
  .intro z;exact⟨o,e,(j o h).mpr z⟩
 |_=>intro b K E p h;exact h.elim
def Calm.bind{j I:Type}{f:j->Sem I}:∀{t:Sem j}{a:j}{b:I},Calm s t a->Calm s (f a) b->Calm s (t.bind f) b:=by
 intro t;induction t with
 |pure a=>intro z b h h';cases h;exact h'
 |rule g k F=>intro z b h h';exact F () h h'
 |load a q k F=>intro z b h h';obtain⟨o,e,h⟩:=h;exact⟨o,e,F o h h'⟩
 |_=>intro z b h;exact h.elim
def Calm.any{j:Type}{t:Sem j}{a:j}(h:Calm s t a){Q:j->Shared->Prop}(q:Q a s):wpAny M A t Q E s:=λΓ p _=>h.wp.mpr q
def qj(h:s.heap.get? a=some ⟨c,d,.seq its n,j⟩):Calm s (Builtin.List.listItems (.ref a)) its:=by
 unfold Builtin.List.listItems
 first
  |exact⟨_,h,rfl⟩
  |(refine Calm.bind (a:=some its) ?_ ?_
    .exact⟨_,h,rfl⟩
    .rfl)
theorem AW:∀(l:List<|(Value×Value)×Nat),(∀x∈l,x.1=(Value.none,Value.none))->
  Calm s (forIn l ((none:Option Bool),()) λ(x:(Value×Value)×Nat)(r:Option Bool×Unit)=>(do
   if !(<-eqBool x.1.1 x.1.2)then pure (ForInStep.done (some<|<-oneLt' (b&&x.2==0) x.1.1 x.1.2,()))else pure (ForInStep.yield (none,())):Sem<|ForInStep<|Option Bool×Unit)) (none,())
 |[],_=>by rw[GS];rfl
 |x::l,h=>by rw[F9];have e:=h x lx;obtain⟨⟨p,q⟩,i⟩:=x;cases e;refine Calm.bind (a:=ForInStep.yield (none,())) ?_<|AW l λy j=>h y<|kB _ j;rfl
def OK(i j:Nat):∀x∈((List.replicate i Value.none).toArray.toList.zip (List.replicate j Value.none).toArray.toList).zipIdx,x.1=(Value.none,Value.none):=by rintro⟨⟨p,q⟩,k⟩ h;have h1:=List.fst_mem_of_mem_zipIdx h;have h2:=Q9 h1;have z:=(List.mem_replicate.mp<|by simpa using h2.1).2;have F:=(List.mem_replicate.mp<|by simpa using h2.2).2;simp[z,F]
section
variable(prog:Program)(w:World)(Γ:Ctx)(E:Value->Pos->Shared->Prop)(s s':Shared)(kd:SortKind)
def Good{j:Type}(m:StateT SortSt Sem j):Prop:=
 ∀(st:SortSt)(p F:Pos)(K:j->SortSt->Pos->Shared->Prop)(Q:j->SortSt->Prop),kindOf st=kd->
  Sem.wp (model prog w) Γ (m.run st) (λr p2 z=>K r.1 r.2 p2 z) (λ_ _ _=>False) F s' ->
  (∀a t p2,kindOf t=kd->K a t p2 s' ->Q a t)->
  Sem.wp (model prog w) Γ (m.run st) (λr _ z=>z=s/\Q r.1 r.2) E p s
variable{prog w Γ E s s' kd}
def j5{I:Type}{a:I}:Good prog w Γ E s s' kd<|pure a:=by
 intro st p z K Q hk F J;rw[StateT.run_pure]at F|-;have j:K a st z s':=by simpa using F
 have:Q a st:=J a st z hk j;simpa using this
def j6{S U:Type}{m:StateT SortSt Sem S}{f:S->StateT SortSt Sem U}(h1:Good prog w Γ E s s' kd m)(h2:∀a,Good prog w Γ E s s' kd<|f a):Good prog w Γ E s s' kd<|m>>=f:=by
 intro st p W K Q hk z Y;rw[ap7]at z|-;rw[Ke]at z|-
 have:=h1 st p W (λa t p2 j=>Sem.wp (model prog w) Γ ((f a).run t) (λr F Z=>K r.1 r.2 F Z) (λ_ _ _=>False) p2 j) (λa t=>∀p2,Sem.wp (model prog w) Γ ((f a).run t) (λr _ j=>j=s/\Q r.1 r.2) E p2 s) hk z
  (λa t p2 I J F=>h2 a t F p2 _ Q I J Y)
 exact Sem.wp_mono _ Γ _ (λr p2 j M=>by obtain⟨rfl,M⟩:=M;exact M p2) (λ_ _ _ e=>e) _ _ this
def nV{I:Type}{f:SortSt->StateT SortSt Sem I}(h2:∀a,kindOf a=kd->Good prog w Γ E s s' kd (f a)):Good prog w Γ E s s' kd<|get>>=f:=by
 intro st p z K Q hk F J;rw[ap7,StateT.run_get]at F|-;have j:Sem.wp (model prog w) Γ ((f st).run st) (λr M S=>K r.1 r.2 M S) (λ_ _ _=>False) z s':=by simpa using F
 have:=h2 st hk st p z K Q hk j J;simpa using this
def ir{f:SortSt->SortSt}(h:∀t,kindOf t=kd->kindOf (f t)=kd):Good prog w Γ E s s' kd (modify f:StateT SortSt Sem Unit):=by
 intro st p z K Q hk F I;rw[StateT.run_modify]at F|-;have j:K ⟨⟩ (f st) z s':=by simpa using F
 have:Q ⟨⟩<|f st:=I ⟨⟩ _ z (h _ hk) j;simpa using this
def OL{t:SortSt}(h:kindOf t=kd):Good prog w Γ E s s' kd (set t:StateT SortSt Sem PUnit):=by
 intro st p z K Q hk F I;rw[StateT.run_set]at F|-;have j:K ⟨⟩ t z s':=by simpa using F
 have:Q ⟨⟩ t:=I ⟨⟩ _ z h j;simpa using this
def tF:Good prog w Γ E s s' kd (liftM<|rule x:StateT SortSt Sem Unit):=by
 intro st p j K Q hk F I;have z:K () st j s':=by
  have e:Sem.wp (model prog w) Γ ((liftM<|rule x:StateT SortSt Sem Unit).run st) (λr p2 J=>K r.1 r.2 p2 J) (λ_ _ _=>False) j s'=K () st j s':=by rfl
  rw[<-e];exact F
 have:Q () st:=I () st j hk z;exact⟨rfl,this⟩
def my{j:Type}:Good prog w Γ E s s' kd<|liftM (unsupported x:Sem j):=by
 intro st p z K Q hk F J;have e:Sem.wp (model prog w) Γ ((liftM (unsupported x:Sem j):StateT SortSt Sem j).run st) (λr p2 I=>K r.1 r.2 p2 I) (λ_ _ _=>False) z s'=False:=by rfl
 rw[e]at F;exact F.elim
def wQ{j:Type}[Decidable c]{t u:StateT SortSt Sem j}(h1:Good prog w Γ E s s' kd t)(h2:Good prog w Γ E s s' kd u):Good prog w Γ E s s' kd (if c then t else u):=by
 by_cases h:c
 .rw[dt h];exact h1
 .rw[c0 h];exact h2
theorem rH{j:Type}{f:Nat->j->StateT SortSt Sem (ForInStep j)}(h:∀x b,Good prog w Γ E s s' kd<|f x b):∀(l:AU)(b:j),Good prog w Γ E s s' kd<|forIn l b f
 |[],b=>by rw[GS];exact j5
 |x::l,b=>by
  rw[F9];refine j6 (h x b) λa=>?_;cases a with
  |done y=>exact j5
  |yield y=>exact rH h l y
def wR{j:Type}{x y:Nat}{b:j}{f:Nat->j->StateT SortSt Sem (ForInStep j)}(h:∀x b,Good prog w Γ E s s' kd<|f x b):Good prog w Γ E s s' kd<|forIn [x:y] b f:=by rw[aow];exact rH h _ _
def OM(prog:Program)(w:World)(Γ:Ctx)(E:Value->Pos->Shared->Prop)(s s':Shared)(kd:SortKind):Prop:=∀x y:Value,
 (∃b,Calm s' (keyLt' kd x y) b/\∀(Q:Bool->Shared->Prop)(j:Value->Pos->Shared->Prop)(p:Pos),Q b s->Sem.wp (model prog w) Γ (keyLt' kd x y) (λr _ z=>Q r z) j p s)\/
 ∀(K:Bool->Pos->Shared->Prop)(j:Value->Pos->Shared->Prop)(F:Pos),¬Sem.wp (model prog w) Γ (keyLt' kd x y) K j F s'
def B0(S:OM prog w Γ E s s' kd)(x y:Keyed):Good prog w Γ E s s' kd<|lt' x y:=by
 rw[lt'_eq];refine nV λa U=>?_;rw[U];intro st p W K Q hk F Y
 have e:∀(I:Shared)(J:Pos)(z:Option Bool×SortSt->Pos->Shared->Prop)(E0:Value->Pos->Shared->Prop),Sem.wp (model prog w) Γ (((do
   let r<-(keyLt' kd x.1 y.1).attempt
   match r with
    |.ok b=>return some b
    |.error e=>modify λs=>SortSt.mk' (kindOf s) (arrOf s) (pendingOf s) (gallopOf s)<|some e;return none):StateT SortSt Sem<|Option Bool).run st) z E0 J I=
   Sem.wp (model prog w) Γ (keyLt' kd x.1 y.1) (λb p2 j=>z (some b,st) p2 j) (λe p2 j=>z (none,SortSt.mk' (kindOf st) (arrOf st) (pendingOf st) (gallopOf st)<|some e) p2 j) J I:=by
  intro I J z E0;rw[ap7];show Sem.wp (model prog w) Γ (((keyLt' kd x.1 y.1).attempt>>=λa=>pure (a,st))>>=_) z E0 J I=_;rw[Ke,Ke,Sem.wp_attempt];rfl
 replace F:=Eq.mp (e s' W (λr p2 j=>K r.1 r.2 p2 j) λ_ _ _=>False) F;refine Eq.mpr (e s p (λr _ j=>j=s/\Q r.1 r.2) E) ?_;rcases S x.1 y.1 with⟨b,h1,h2⟩|h
 .exact h2 (λr j=>j=s/\Q (some r) st) _ p ⟨rfl,Y _ _ _ hk<|h1.wp.mp F⟩
 .exact absurd F<|h _ _ _
def lT(a:Array Keyed)(i:Nat):Good prog w Γ E s s' kd<|elem' a i:=by
 rw[elem'_eq];split
 .exact j5
 .exact my
def AX(z:OM prog w Γ E s s' kd)(i j:Nat):Good prog w Γ E s s' kd<|ltAt' i j:=by rw[ltAt'_eq];exact nV λa _=>j6 (lT _ _) λx=>j6 (lT _ _) λy=>B0 z x y
def EN(i j:Nat):Good prog w Γ E s s' kd<|reverseSlice' i j:=by rw[reverseSlice'_eq];exact ir λt h=>h
def AY(i j:Nat):Good prog w Γ E s s' kd<|moveDown' i j:=by rw[moveDown'_eq];exact ir λt h=>h
end
section
variable{prog:Program}{w:World}{Γ:Ctx}{E:Value->Pos->Shared->Prop}{s s':Shared}{kd:SortKind}
local macro_rules | `(tactic| array_get_dec)=> `(tactic| first|(with_reducible first|exact j5|exact my|exact tF|exact AX ‹_› _ _|exact EN _ _|exact AY _ _|exact lT _ _|exact B0 ‹_› _ _|refine nV λ_ _=>?_|refine j6 ?_ λ_=>?_|refine wR λ_ _=>?_|refine wQ ?_ ?_|exact ir λ_ h=>h)|split)
def pU(j:OM prog w Γ E s s' kd)(lo n:Nat):Good prog w Γ E s s' kd<|countRun' lo n:=by
 rw[countRun'_eq];dsimp only
 repeat' array_get_dec
def mZ(j:OM prog w Γ E s s' kd)(lo n ok:Nat):Good prog w Γ E s s' kd<|binarySort' lo n ok:=by
 rw[binarySort'_eq];dsimp only
 repeat' array_get_dec
def EO(z:OM prog w Γ E s s' kd)(left:Bool)(j:Keyed)(arr:Array Keyed)(base i:Nat):Good prog w Γ E s s' kd<|beyond' left j arr base i:=by
 unfold beyond'
 repeat' array_get_dec
def uB(F:OM prog w Γ E s s' kd)(left:Bool)(z:Keyed)(arr:Array Keyed)(base n j:Nat):Good prog w Γ E s s' kd<|gallop' left z arr base n j:=by
 rw[gallop'_eq];dsimp only
 repeat' (first|with_reducible exact EO (by assumption) _ _ _ _ _|array_get_dec)
def LO(g:Nat):Good prog w Γ E s s' kd<|setMinGallop' g:=by rw[setMinGallop'_eq];exact ir λt h=>h
def Ca(j:OM prog w Γ E s s' kd)(a b:Array Keyed):Good prog w Γ E s s' kd<|mergeLo' a b:=by
 rw[mergeLo'_eq];dsimp only
 repeat' first|(with_reducible first|exact uB j _ _ _ _ _ _|exact LO _|exact pU j _ _|exact mZ j _ _ _)|array_get_dec
def Cb(j:OM prog w Γ E s s' kd)(a b:Array Keyed):Good prog w Γ E s s' kd<|mergeHi' a b:=by
 rw[mergeHi'_eq];dsimp only
 repeat' first|(with_reducible first|exact uB j _ _ _ _ _ _|exact LO _|exact pU j _ _|exact mZ j _ _ _)|array_get_dec
def Cc(j:OM prog w Γ E s s' kd)(i:Nat):Good prog w Γ E s s' kd<|mergeAt' i:=by
 rw[mergeAt'_eq];dsimp only
 repeat' first|(with_reducible first|exact uB j _ _ _ _ _ _|exact pU j _ _|exact mZ j _ _ _|exact Ca j _ _|exact Cb j _ _|exact OL ‹_›)|array_get_dec
def zb(j:OM prog w Γ E s s' kd):Good prog w Γ E s s' kd sortRuns':=by
 rw[sortRuns'_eq];dsimp only
 repeat' first|(with_reducible first|exact Cc j _|exact uB j _ _ _ _ _ _|exact pU j _ _|exact mZ j _ _ _|exact Ca j _ _|exact Cb j _ _|exact OL ‹_›)|array_get_dec
end
def kR(r:Nat):Obj:={cls:=.type "tuple",data:=.seq (List.replicate r Value.none).toArray}
def lU(N:Nat)(j:Addr->Option Nat)(h:Heap):Heap:={h with objs:=((List.range N).map λa=>match j a with|some r=>kR r|none=>⟨.none,none,.freed,#[]⟩).toArray}
def nW(z:a<N)(e:j a=some r):(lU N j h).get? a=some (kR r):=by
 unfold lU Heap.get?;have:(((List.range N).map λa=>match j a with|some r=>kR r|none=>⟨.none,none,.freed,#[]⟩).toArray)[a]?=some (kR r):=by rw[apc,mq,Mi z];simp[e]
 simp only[this];rfl
def LP(e:j a=none):(lU N j h).get? a=none:=by
 unfold lU Heap.get?;by_cases z:a<N
 .have:(((List.range N).map λa=>match j a with|some r=>kR r|none=>⟨.none,none,.freed,#[]⟩).toArray)[a]?=some ⟨.none,none,.freed,#[]⟩:=by rw[apc,mq,Mi z];simp[e]
  simp only[this]
 .have:(((List.range N).map λa=>match j a with|some r=>kR r|none=>⟨.none,none,.freed,#[]⟩).toArray)[a]?=none:=by rw[apc,mq,Pm<|by simp;exact Sh z];rfl
  simp only[this]
def AZ(F:s.heap.get? x=some (kR j))(I:s.heap.get? y=some (kR z))(b:Bool):Calm s (keyLt' (tuples' b) (.ref x) (.ref y))<|decide<|j<z:=by rw[kat_lt_eq];refine Calm.bind (qj F)<|Calm.bind (qj I)<|Calm.bind (AW _<|OK j z) ?_;show decide ((List.replicate j Value.none).toArray.size<(List.replicate z Value.none).toArray.size)=decide (j<z);simp
def ER{w:World}{s:Shared}(h:∀a,v=.ref a->s.heap.get? a=none){K:BA->Pos->Shared->Prop}{p:Pos}:¬Sem.wp (model prog w) Γ (Builtin.List.listItems v) K E p s:=by
 intro j;unfold Builtin.List.listItems at j;rw[Ke]at j;cases v with
 |ref a=>have j:Sem.wp (model prog w) Γ (load a>>=_) _ _ p s:=j;rw[Ke]at j;obtain⟨o,z,_⟩:=j;rw[(h a rfl)]at z;cases z
 |builtin id=>
  unfold seqItems? at j;rw[Ke]at j;unfold notAStandIn at j
  first|exact j|(dsimp only at j;split at j<;>exact j)|(simp only[]at j;split at j<;>exact j)
 |_=>exact j
def kh(N:Nat)(j:Addr->Option Nat):KeyKind where
 α:=Nat
 blt:=λa b=>decide (a<b)
 irrefl:=by simp
 trans:=by intro a b c h1 h2;simp at*;omega
 negTrans:=by intro a b c h;simp at*;omega
 total:=by intro a b h1 h2;simp at*;omega
 keyOf:=λv=>match v with
  |.ref a=>j a
  |_=>none
 dflt:=0
def ES(N:Nat)(F:Addr->Option Nat)(M:∀a r,F a=some r->a<N)
  (hk:∀p∈J.toList,B_ λa r=>p.1=.ref a/\F a=some r)
  (cmp:∀x y rx ry,F x=some rx->F y=some ry->∀(Q:Bool->Shared->Prop)(E:Bd),Q (decide<|rx<ry) s->wpAny (model prog w) A (keyLt' (tuples' b) (.ref x) (.ref y)) Q E s)(h2:2<=J.size)
  (h:∀j:SortSt,(arrOf j).Perm J->failedOf j=none->SortedToK (kh N F) (arrOf j) J.size->Q ((),j) s):
  wpAny (model prog w) A (sortRuns'.run<|SortSt.mk' (tuples' b) J #[] 7 none) Q E s:=by
 intro Γ p S;have s'e:∃s':Shared,s'.heap=lU N F s.heap:=⟨{s with heap:=lU N F s.heap},rfl⟩;obtain⟨s',I⟩:=s'e;have hO:G.LtAt prog w s' (kh N F)<|tuples' b:=by
  intro A' E' x y rx ry Q' U W q;cases x with
  |ref x=>
   cases y with
   |ref y=>have c:=AZ (by rw[I];exact nW (M _ _ U) U) (by rw[I];exact nW (M _ _ W) W) b;exact c.any q
   |_=>cases W
  |_=>cases U
 have h0:KeysOf (kh N F) J:=λq hq=>by obtain⟨a,r,e1,e2⟩:=hk q hq;exact⟨r,by rw[e1];exact e2⟩
 have run:=G.wpS_sortRunsSt (A:=A) (E:=λ_ _=>False) (st:=SortSt.mk' (tuples' b) J #[] 7 none) hO h0 ⟨Array.Perm.refl _,rfl,rfl⟩ rfl (Stable.refl _) h2 (Q:=λ_ j=>(arrOf j).Perm J/\failedOf j=none/\SortedToK (kh N F) (arrOf j) J.size) λj c1 c2 c3 c4=>⟨c1,c2,c3⟩;have run:=run Γ p S;have hC:OM prog w Γ (λe _ s2=>E e s2) s s'<|tuples' b:=by
  intro x y;have no:∀v:Value,(∀a,v=.ref a->F a=none)->∀a,v=.ref a->s'.heap.get? a=none:=λv hv a e=>by rw[I];exact LP<|hv a e
  have Y:∀v:Value,(B_ λa r=>v=.ref a/\F a=some r)\/∀a,v=.ref a->F a=none:=by
   intro v;cases v with
   |ref a=>
    cases e:F a with
    |some r=>exact .inl ⟨a,r,rfl,e⟩
    |none=>exact .inr λa' e'=>by cases e';exact e
   |_=>exact .inr λa e=>nomatch e
  rcases Y x with⟨a,ra,rfl,ea⟩|U
  .rcases Y y with⟨c,rc,rfl,ec⟩|W
   .left;refine⟨decide<|ra<rc,AZ (by rw[I];exact nW (M _ _ ea) ea) (by rw[I];exact nW (M _ _ ec) ec) b,λQ E' p' q=>?_⟩;exact Sem.wp_mono _ Γ _ (λ_ _ _ z=>z) (λ_ _ _ z=>z.elim) _ _<|cmp a c ra rc ea ec Q (λ_ _=>False) q Γ p' S
   .right;intro K E' p' Z;rw[kat_lt_eq,Ke]at Z;have c:=(qj (s:=s') (its:=(List.replicate ra Value.none).toArray)<|by rw[I];exact nW (M _ _ ea) ea).wp.mp Z;rw[Ke]at c;exact ER (no y W) c
  .right;intro K E' p' Z;rw[kat_lt_eq,Ke]at Z;exact ER (no x U) Z
 have:=zb hC (SortSt.mk' (tuples' b) J #[] 7 none) p p (λ_ t _ s2=>s2=s'/\(arrOf t).Perm J/\failedOf t=none/\SortedToK (kh N F) (arrOf t) J.size) (λu t=>Q (u,t) s) rfl run λa t p2 _ hK=>h t hK.2.1 hK.2.2.1 hK.2.2.2;exact Sem.wp_mono _ Γ _ (λr _ s2 hr=>by obtain⟨rfl,hr⟩:=hr;exact hr) (λ_ _ _ z=>z) _ _ this
end Sim
namespace L2
open PySem PySem.Spec PyProof.Rows
def aG(K:cn)(mg:Be)(x:Str)(st:Stmt):Prop:=B_ λf fd=>Wo K x x st f fd/\mg x=some (.ref f)
structure Fn(P:Program)(w:World)(K:cn)(mg:Be)(base:Heap)(x:Str)(k:Nat)(ps:Ba)(sp:Sp):Prop where
 ex:B_ λf fd=>mg x=some (.ref f)/\PySem.W.keepIn K (.ref f)=true/\Binds K fd ps []/\nO P w K mg base HJ k f fd ps sp
section
variable{X:Cx}{k:Nat}{ps:Ba}{sp:Sp}{x:Str}{p pos:Pos}{e:Expr}{es:List Expr}{t:TA}
def UK(F:Fn X.prog X.w X.K X.mg X.base x k ps sp)(I:eK k X.A)(J:PA X (e::es) t)(M:Gl X x)(j:(x==("__debug__":Str))=false)
  (S:starEach (e::es) X.env=(false,eval e X.env)::starEach es X.env)(z:(backTo pos<|starEach es X.env).any (·.1)=false):PE X (.Call (.Name x p) (e::es) [] pos)<|JV [] E0 sp t:=by
 obtain⟨f,fd,h1,h2,U,W⟩:=F.ex;exact RT W I M h1 h2 U .nil J4 J j S z
end
section
variable{P:Program}{w:World}{K:cn}{mg:Be}{base:Heap}
def aG.fn{x:Str}{st:Stmt}(T:aG K mg x st)(S:aB N ps<|ai st)
  (J:∀(kV I pm:Value)(M:Option Addr)(j ct:Value)(us:Bb),us.length=ps.length->bindArgs (PySem.W.fnOf x x (iK st) (fF st) (ai st) .none kV I pm M j ct) ⟨us,[]⟩=pure (ps.zip us))
  (len:∀vs H Q E,sp vs H Q E->vs.length=ps.length)
  (z:∀(f:Addr)(j:Value)(A:Around)(outer:List Env)(s:Shared)(H:Hp)(vs:List V)(Q:VK)(E:XK),eK k (A.deeper<|envOfC x (ai st) s.heap.objs.size f j)->sp vs H Q E->
   ∃t,Ef (yY HJ N x (ai st) P w K mg base f j A outer s H E).RI (fF st) t/\t {nx:=λ_ H'=>Q .eQ H',rt:=Q} (start N vs) H):Fn P w K mg base x (k+1) ps sp:=by
 obtain⟨f,fd,F,U⟩:=T;exact⟨f,fd,U,F.kp,F.binds J,F.ok S len λj A outer s H vs Q E Y h=>z f j A outer s H vs Q E Y h⟩
end
end L2
namespace Pb
open PySem PySem.Spec PyProof.Rows L2
def top(i:Nat):Stmt:=PySem.Challenge.pw_paperbank_s01_answers.main.body.getD i (.Pass ⟨0,0,0,0⟩)
end Pb
namespace L2
open PySem PySem.Spec PyProof.Rows
section
variable(K:cn){X:Cx}{a b o e:Expr}{es:List Expr}{ta tb tl to:TE}{t:TA}{f name:Str}{pos apos pD p:Pos}{T id:String}{r:V->List V->Hp->VK->Prop}
def bT(j:PE X e ta)(z:X.K=K:=by rfl)(F:attributeBase e f X.env (eval e X.env)=eval e X.env:=by rfl):PE X (.Attribute e f pos)<|VJ K ta f:=z▸VM j F
def aN(j:X.K=K:=by rfl):XY X<|VS K:=j▸RZ
def ei(j:X.K=K:=by rfl):XY X<|VT K:=j▸VU
def kj(j:X.K=K:=by rfl):SlR X<|Zg K:=j▸R9
def RF(j:X.K=K:=by rfl):nu X (compareOp .In)<|rIn K false:=j▸Lz
def ON(j:X.K=K:=by rfl):nu X (compareOp .NotIn)<|rIn K true:=j▸BO
def ZO:List V->Hp->VK->Prop:=λxs H Q=>B_ λp ys=>xs=[.ref p]/\(az K H p ys\/ee K H p ys)/\Q (.int ys.length) H
def gQ(j:X.K=K:=by rfl):fb X (.builtin "len")<|ZO K:=by subst j;exact BP
def Sz:List V->Hp->VK->Prop:=λxs H Q=>B_ λp ys=>xs=[.ref p]/\(az K H p ys\/ee K H p ys)/\∀l,H l=none->Q (.ref l) (upd H l (.lst ys))
def nX(j:X.K=K:=by rfl):fb X (.type "list")<|Sz K:=by subst j;exact BR
def OO:List V->Hp->VK->Prop:=λxs H Q=>B_ λp ys=>xs=[.ref p]/\((az K H p ys/\∀l,H l=none->Q (.ref l) (upd H l (.tup ys)))\/(ee K H p ys/\Q (.ref p) H))
def LQ(j:X.K=K:=by rfl):fb X (.type "tuple")<|OO K:=by subst j;exact y9
def Cd(j:X.calm=true:=by rfl)(z:X.K=K:=by rfl):fb X (.builtin "all")<|V5 K:=z▸V7 j
def ZP(j:X.calm=true:=by rfl)(z:X.K=K:=by rfl):fb X (.builtin "any")<|V4 K:=z▸V6 j
def wU(j:X.calm=true:=by rfl)(z:X.K=K:=by rfl):fb X (.builtin "sum")<|Se K:=z▸V2 j
def Wt(j:X.K=K:=by rfl):Rk X "list.index"<|Od K:=j▸Oe
def adR(j:X.A.units+64<cLine)(z:X.K=K:=by rfl):nu X (compareOp .Eq)<|Zm K:=z▸V8 j
def bj(j:PE X l tl)(z:X.K=K:=by rfl):PI X tg l<|NW K tl:=z▸RM j
def SA(j:PE X l tl)(z:X.K=K:=by rfl):PI X tg l<|VD K tl:=z▸VE j
def rJ{ta:TA}(F:X.mg "enumerate"=none)(I:PA X [e] ta)(J:X.K=K:=by rfl)(M:Gl X "enumerate":=by rfl)(hs:starEach [e] X.env=[(false,eval e X.env)]:=by rfl):
  PI X (.Tuple j z jH) (.Call (.Name "enumerate" p) [e] [] pos) (Ow K ta):=J▸Sr M F I hs
def oX{j:Expr}{ta:TA}(J:X.mg "zip"=none)(M:PA X [e,j] ta)(S:X.K=K:=by rfl)(U:Gl X "zip":=by rfl)
  (hs:starEach [e,j] X.env=(false,eval e X.env)::starEach [j] X.env:=by rfl)(F:(backTo pos<|starEach [j] X.env).any (·.1)=false:=by rfl):
  PI X (.Tuple z I jH) (.Call (.Name "zip" p) [e,j] [] pos) (Wk K ta):=S▸Wl U J M hs F
def gK{t:Uk}(h:YZ X es t)(z:X.calm=true:=by rfl)(F:X.K=K:=by rfl)(I:(assignEach es X.env).length=n:=by rfl)(j:(assignEach es X.env).findIdx? (·.1)=none:=by rfl):PG X (.Tuple es k pos)<|yX K n t:=F▸VB z h I j
def UL(M:PlainAttrs T)(slot:Slot T name id)(J:typeOf (.builtin id)=pure (.type "method_descriptor"))(S:Rk X id r)(U:PE X o to)(W:PA X (e::es) t)(Y:X.K=K:=by rfl)
  (z:attributeBase o name X.env (eval o X.env)=eval o X.env:=by rfl)
  (I:((backTo pD<|starEach (e::es) X.env).all (λx=>!x.1)&&(backToKw pD<|keywordEach [] X.env).all (λx=>x.1.isSome)
   &&decide ((e::es).length+([]:List Keyword).length+(if([]:List Keyword).isEmpty then 0 else 1)<30))=true:=by rfl)
  (F:(apos.endLine==pD.line)=true:=by rfl)(hs:starEach (e::es) X.env=(false,eval e X.env)::starEach es X.env:=by rfl)(j:(backTo pD<|starEach es X.env).any (·.1)=false:=by rfl):
  PE X (.Call (.Attribute o name apos) (e::es) [] pD) (tBM K T r to t):=Y▸Zh M slot J S U W z I F hs j
def rJoin:V->List V->Hp->VK->Prop:=λx xs H Q=>B_ λa p=>∃ys:Ba,x=.str a/\xs=[.ref p]/\(az K H p (ys.map V.str)\/ee K H p (ys.map V.str))/\
   (ys.map (·.length)).sum+ys.length*a.length<=16777216/\Q (.str<|Txt.join a ys) H
def UM(F:PE X o to)(I:PE X e ta)(J:X.K=K:=by rfl)(hs:starEach [e] X.env=[(false,eval e X.env)]:=by rfl)(j:attributeBase o "join" X.env (eval o X.env)=eval o X.env:=by rfl)(z:(apos.endLine==pos.line)=true:=by rfl):
  PE X (.Call (.Attribute o "join" apos) [e] [] pos) (X1 (rJoin K) to ta):=by subst J;exact Su F I hs j z
end
section
variable{X:Cx}{x:Str}{p:Pos}
def m9(mg:Be)(x:Str)(i:Int):Prop:=∃t,mg x=some (.int i t)
def SD(mg:Be)(x:Str)(z:Str):Prop:=∃t,mg x=some (.str z t)
def Ce(mg:Be)(x:Str)(a:Addr):Prop:=mg x=some (.ref a)
def lA(h:m9 X.mg x i)(j:Gl X x:=by rfl)(hd:(x==("__debug__":Str))=false:=by decide):PE X (.Name x p)<|tC (.int i):=by obtain⟨t,h⟩:=h;exact rq j h ⟨t,rfl⟩ hd
def kgs(h:SD X.mg x z)(j:Gl X x:=by rfl)(hd:(x==("__debug__":Str))=false:=by decide):PE X (.Name x p)<|tC (.str z):=by obtain⟨t,h⟩:=h;exact rq j h ⟨t,rfl⟩ hd
def UN(h:Ce X.mg x a)(j:Gl X x:=by rfl)(hd:(x==("__debug__":Str))=false:=by decide):PE X (.Name x p)<|tC (.ref a):=rq j h rfl hd
end
section
variable{X:Cx}{o e:Expr}{to te:TE}{apos pos:Pos}
def ZQ:List V->Hp->VK->Prop:=λxs H Q=>∃x,xs=[.str x]/\x.length=1/\Q (.int (x.cps.getD 0 0:Nat)) H
def Cf:fb X (.builtin "ord") ZQ:=N4
def adS:List V->Hp->VK->Prop:=λxs H Q=>∃i,xs=[.int i]/\Q (.int<|if i<0 then-i else i) H
def ZR:fb X (.builtin "abs") adS:=N3
def ZS:List V->Hp->VK->Prop:=λxs H Q=>B_ λi j=>xs=[.int i,.int j]/\Q (.int<|if j>i then j else i) H
def ZT(j:X.calm=true:=by rfl):fb X (.builtin "max") ZS:=Lr j
def ZU:List V->Hp->VK->Prop:=λxs H Q=>B_ λi j=>xs=[.int i,.int j]/\Q (.int<|if j<i then j else i) H
def ZV(j:X.calm=true:=by rfl):fb X (.builtin "min") ZU:=Ls j
def ZW:List V->Hp->VK->Prop:=λxs H Q=>∃z,xs=[.str z]/\z.length<=sizeLine/\Q (.int z.length) H
def ZX:fb X (.builtin "len") ZW:=BQ
def UO:List V->Hp->VK->Prop:=λxs H Q=>B_ λa n=>xs=[.str a]/\PySem.intText? a=some n/\a.length<=640/\Q (.int n) H
def ZY:fb X (.type "int") UO:=BY
def Wu:V->List V->Hp->VK->Prop:=λx xs H Q=>B_ λa b=>x=.str a/\xs=[.str b]/\(b.length==0)=false/\a.length+2<=sizeLine/\rG (Txt.split a b) H Q
def OP(F:PE X o to)(I:PE X e te)(hs:starEach [e] X.env=[(false,eval e X.env)]:=by rfl)(j:attributeBase o "split" X.env (eval o X.env)=eval o X.env:=by rfl)(z:(apos.endLine==pos.line)=true:=by rfl):
  PE X (.Call (.Attribute o "split" apos) [e] [] pos) (X1 Wu to te):=Oz F I hs j z
def OQ:V->List V->Hp->VK->Prop:=λx xs H Q=>∃a,x=.str a/\xs=[]/\True/\Q (.bl<|Txt.isdigit a) H
def OR(I:PE X o to)(j:attributeBase o "isdigit" X.env (eval o X.env)=eval o X.env:=by rfl)(z:(apos.endLine==pos.line)=true:=by rfl):
  PE X (.Call (.Attribute o "isdigit" apos) [] [] pos) (tM0 OQ to):=ZF PySem.F.slot_str_isdigit PySem.F.type_str_isdigit HG I j z
end
def iL(K:cn)(H:Hp)(x:V)(f:Str)(v:V):Prop:=D_ λa C dx fs=>x=.ref a/\H a=some (.ins C dx fs)/\Nf K C/\eD K C f/\fs.lookup f=some v
def ZZ(K:cn)(f:Str)(x:V)(H:Hp)(Q:VK):Prop:=E_ λa C dx fs v=>x=.ref a/\H a=some (.ins C dx fs)/\Nf K C/\eD K C f/\fs.lookup f=some v/\Q v H
section
variable{K:cn}{σ:L2.St}{H:Hp}{Q:VK}{Qb:Bool->Hp->Prop}{Ql:List V->Hp->Prop}{Qo:Option Int->Hp->Prop}{D:Ends}{i:Nat}{v x y:V}{t u ta tb tc:TE}{tt tu:TT}{tr:TA}{ts us:TS}{r r':R2}{ru:V->Hp->VK->Prop}{rc:List V->Hp->VK->Prop}{rm:V->List V->Hp->VK->Prop}{f:Str}{sp:Sp}{AD:List V}{E:XK}{m n:Int}{xs:List V}{C T:String}
def dy(h:σ[i]?=some (some v))(q:Q v H):RH i σ H Q:=⟨v,h,q⟩
def lV(q:Q v H):tC v σ H Q:=q
def fM(q:ta σ H λx H1=>tb σ H1 λy H2=>r x y H2 Q):Y3 r ta tb σ H Q:=q
def fN(q:ta σ H λx H1=>ru x H1 Q):tUn ru ta σ H Q:=q
def bZ(q:t σ H λx H'=>∃k,x=.bl k/\Qb k H'):N2 t σ H Qb:=q
def fO(q:t σ H λx H'=>∃k,x=.bl k/\Qb k H'):tB t σ H Qb:=q
def dA(q:tt σ H λc H1=>if c=true then tu σ H1 Qb else Qb false H1):YT tt tu σ H Qb:=q
def fP(q:tt σ H λc H1=>if c=true then Qb true H1 else tu σ H1 Qb):tOr tt tu σ H Qb:=q
def dC(q:tt σ H λc H1=>Qb (!c) H1):YU tt σ H Qb:=q
def b7(q:ta σ H λx H1=>∃c,x=.bl c/\if c=true then tb σ H1 Q else Q (.bl false) H1):Ue ta tb σ H Q:=q
def dD(q:ta σ H λx H1=>∃c,x=.bl c/\if c=true then Q (.bl true) H1 else tb σ H1 Q):YV ta tb σ H Q:=q
def b8(q:ta σ H λx H1=>∃c,x=.bl c/\Q (.bl<|!c) H1):Ug ta σ H Q:=q
def b9{A:Bool->Prop}(q:A b):∃k,V.bl b=.bl k/\A k:=⟨b,rfl,q⟩
def fQ(q:tt σ H λc H1=>if c=true then ta σ H1 Q else tb σ H1 Q):tIf tt ta tb σ H Q:=q
def bx(q:ta σ H λx H1=>tb σ H1 λy H2=>r x y H2 λz H3=>∃k,z=.bl k/\(if k=true then tc σ H3 λj F=>r' y j F Q else Q (.bl false) H3)):Ht r r' ta tb tc σ H Q:=q
def dE(q:ta σ H λx H1=>ZZ K f x H1 Q):VJ K ta f σ H Q:=q
def aa(h:iL K H x f v)(q:Q v H):ZZ K f x H Q:=by obtain⟨a,C,dx,fs,h1,h2,j,z,F⟩:=h;exact⟨a,C,dx,fs,v,h1,h2,j,z,F,q⟩
def fT(q:tr σ H λvs H1=>rc vs H1 Q):tCB rc tr σ H Q:=q
def dG(q:Ql [] H):Ek σ H Ql:=q
def cb(q:ta σ H λx H1=>tr σ H1 λxs H2=>Ql (x::xs) H2):wD ta tr σ H Ql:=q
def dH(q:tr σ H λxs H1=>xs.length<=sizeLine/\∀p,H1 p=none->Q (.ref p) (upd H1 p (.tup xs))):Y6 tr σ H Q:=q
def dI(q:tr σ H λxs H1=>xs.length<=sizeLine/\∀p,H1 p=none->Q (.ref p) (upd H1 p (.lst xs))):Y7 tr σ H Q:=q
def cf(q:tr σ H λvs H1=>sp (vs++AD) H1 Q E):JV AD E sp tr σ H Q:=q
def fU(q:Q (g m n) H):NY g (.int m) (.int n) H Q:=⟨m,n,rfl,rfl,q⟩
def Hh{C:Int->Int->Prop}(h:C m n)(q:Q (g m n) H):rI C g (.int m) (.int n) H Q:=⟨m,n,rfl,rfl,h,q⟩
def lW(q:Q (g m) H):rU g (.int m) H Q:=⟨m,rfl,q⟩
def dJ(q:Q (.bl<|decide<|m=n) H):rEq (.int m) (.int n) H Q:=⟨rfl,by rw[show decide (V.int m=V.int n)=decide (m=n) by simp];exact q⟩
def dM(q:Q (.bl<|!decide (m=n)) H):rNe (.int m) (.int n) H Q:=⟨rfl,by rw[show decide (V.int m=V.int n)=decide (m=n) by simp];exact q⟩
def dO(q:Q (.bl<|decide<|a=b) H):rEq (.str a) (.str b) H Q:=⟨rfl,by rw[show decide (V.str a=V.str b)=decide (a=b) by simp];exact q⟩
def dP(q:Q (.bl<|!decide (a=b)) H):rNe (.str a) (.str b) H Q:=⟨rfl,by rw[show decide (V.str a=V.str b)=decide (a=b) by simp];exact q⟩
def dQ(q:ta σ H λx H1=>Q (.bl<|decide<|x=.eQ) H1):YR ta σ H Q:=q
def cT(h:az K H p xs)(h2:Ri xs m=some v)(q:Q v H):VS K (.ref p) (.int m) H Q:=⟨p,xs,m,v,rfl,rfl,h,h2,q⟩
def gB(h:ee K H p xs)(h2:Ri xs m=some v)(q:Q v H):VT K (.ref p) (.int m) H Q:=⟨p,xs,m,v,rfl,rfl,h,h2,q⟩
def aD(h:az K H p xs\/ee K H p xs)(q:Q (.int xs.length) H):ZO K [.ref p] H Q:=⟨p,xs,rfl,h,q⟩
def km{bs:List Bool}(h:az K H p<|bs.map V.bl)(q:Q (.bl<|bs.all id) H):V5 K [.ref p] H Q:=⟨p,bs,rfl,h,q⟩
def ET{bs:List Bool}(h:az K H p<|bs.map V.bl)(q:Q (.bl<|bs.any id) H):V4 K [.ref p] H Q:=⟨p,bs,rfl,h,q⟩
def pV{ns:Bc}(h:az K H p<|ns.map V.int)(q:Q (.int ns.sum) H):Se K [.ref p] H Q:=⟨p,ns,rfl,h,q⟩
def fV{r:V->Option Int->Option Int->Hp->VK->Prop}(q:t σ H λx H1=>tl σ H1 λl H2=>th σ H2 λu H3=>r x l u H3 Q):tSl r t tl th σ H Q:=q
def aY(q:Qo none H):JX σ H Qo:=q
def cj(q:t σ H λx H1=>∃i,x=.int i/\Qo (some i) H1):Uq t σ H Qo:=q
def fW(q:ta σ H λx H1=>tyV K p x H1/\tr σ H1 λxs H2=>rm x xs H2 Q):tBM K p rm ta tr σ H Q:=q
def fX(q:ta σ H λx H1=>(∃a,x=.str a)/\rm x [] H1 Q):tM0 rm ta σ H Q:=q
def fY(q:ta σ H λx H1=>(∃a,x=.str a)/\tb σ H1 λy H2=>rm x [y] H2 Q):X1 rm ta tb σ H Q:=q
def ck(q:ta σ H λx H1=>tb σ H1 λy H2=>B_ λa v=>x=.ref a/\mv H2 a y (some v)/\Q v H2):Ux ta tb σ H Q:=q
def dS(q:ta σ H λy H1=>tb σ H1 λx H2=>B_ λa o=>x=.ref a/\mv H2 a y o/\Q (.bl o.isSome) H2):Zy ta tb σ H Q:=q
def aZ(q:ta σ H λy H1=>tb σ H1 λx H2=>B_ λa o=>x=.ref a/\mv H2 a y o/\Q (.bl<|!o.isSome) H2):J1 ta tb σ H Q:=q
def Z0(q:ts (D.n<|us D) σ H):Vz ts us D σ H:=q
def bV(q:D.nx σ H):Uh D σ H:=q
def dn(q:t σ H D.rt):VA t D σ H:=q
def dU(q:tt σ H λb H1=>if b=true then ts D σ H1 else us D σ H1):YY tt ts us D σ H:=q
def di(q:t σ H λx H1=>D.nx (σ.set i<|some x) H1):Lo t (eZ i) D σ H:=q
def dW(q:t σ H λx H1=>g x σ H1 D.nx):Lo t g D σ H:=q
def cq(q:t σ H λ_ H1=>D.nx σ H1):Uj t D σ H:=q
def bz(q:D.bk σ H):NQ D σ H:=q
def cu(q:D.ct σ H):Ui D σ H:=q
def dX(q:wi σ H λJ H1=>∃W:Nat->Nat->L2.St->Hp->Prop,(∃m,W 0 m σ H1)/\∀i m σ H,W i m σ H->
 (J.stop i H/\D.nx σ H)\/(J.go i H/\∃N:L2.St->Hp->Prop,(∀σ' H',N σ' H' ->∃z,z<m/\W (i+1) z σ' H')/\∀x H',J.Nc i H x H' ->g x σ H' λj H2=>ts (D.l N) j H2)):Y2 wi g ts D σ H:=q
end
def eE:bootBuiltins "len"=some (.builtin "len"):=by decide+kernel
def wV:bootBuiltins "all"=some (.builtin "all"):=by decide+kernel
def UP:bootBuiltins "any"=some (.builtin "any"):=by decide+kernel
def uC:bootBuiltins "sum"=some (.builtin "sum"):=by decide+kernel
def rK:bootBuiltins "ord"=some (.builtin "ord"):=by decide+kernel
def UQ:bootBuiltins "abs"=some (.builtin "abs"):=by decide+kernel
def OS:bootBuiltins "min"=some (.builtin "min"):=by decide+kernel
def Z1:bootBuiltins "max"=some (.builtin "max"):=by decide+kernel
def Z2:bootBuiltins "int"=some (.type "int"):=by decide+kernel
def tG:bootBuiltins "list"=some (.type "list"):=by decide+kernel
def SE:bootBuiltins "tuple"=some (.type "tuple"):=by decide+kernel
def Wv:bootBuiltins "dict"=some (.type "dict"):=by decide+kernel
def UR:bootBuiltins "set"=some (.type "set"):=by decide+kernel
def tH(K:cn)(mg:Be)(x q:Str)(C:Addr)(st:Stmt):Prop:=B_ λf fd=>Wo K "__init__" q st f fd/\Mk K C f/\mg x=some (.ref C)
structure Ww(P:Program)(w:World)(K:cn)(mg:Be)(base:Heap)(x:Str)(C:Addr)(k:Nat)(ps:Ba)(sp:Sp):Prop where
 ex:B_ λf fd=>mg x=some (.ref C)/\Mk K C f/\Binds K fd ps []/\nO P w K mg base HJ k f fd ps sp
section
variable{X:Cx}{k:Nat}{C:Addr}{ps:Ba}{sp:Sp}{x:Str}{p pos:Pos}{e:Expr}{es:List Expr}{t:TA}
def Z3(F:Ww X.prog X.w X.K X.mg X.base x C k ps sp)(I:eK (k+1) X.A)(J:PA X (e::es) t)(M:Gl X x)(j:(x==("__debug__":Str))=false)
  (S:starEach (e::es) X.env=(false,eval e X.env)::starEach es X.env)(z:(backTo pos<|starEach es X.env).any (·.1)=false):PE X (.Call (.Name x p) (e::es) [] pos)<|AE C sp [] E0 t:=by
 obtain⟨f,fd,h1,h2,U,W⟩:=F.ex;exact RU h2 W I M h1 U .nil J4 J j S z
def OT(F:Ww X.prog X.w X.K X.mg X.base x C k ps sp)(z:eK (k+1) X.A)(I:Gl X x:=by rfl)(j:(x==("__debug__":Str))=false:=by decide):PE X (.Call (.Name x p) [] [] pos)<|AE C sp [] E0 Ek:=by obtain⟨f,fd,h1,h2,J,M⟩:=F.ex;exact N8 h2 M z I h1 J .nil J4 j
end
section
variable(K:cn){X:Cx}{a b o e value:Expr}{es:List Expr}{ta tb tl to tv:TE}{t:TA}{f name:Str}{pos pos' apos pD p p2:Pos}{T id:String}{r:V->List V->Hp->VK->Prop}
def cU(j:PE X o ta)(z:PE X value tv)(F:X.K=K:=by rfl)(hs:swapsWith value (some (.Attribute o f pos')) pos.line X.env=pure false:=by rfl):PS X (.Assign [.Attribute o f pos'] value pos)<|VL K ta tv f:=F▸VN j z hs
end
section
variable{P:Program}{w:World}{K:cn}{mg:Be}{base:Heap}
def tH.fn{x I:Str}{st:Stmt}{k:Nat}(T:tH K mg x I C st)(S:aB N ps<|ai st)
  (U:∀(kV J pm:Value)(Y:Option Addr)(j ct:Value)(us:Bb),us.length=ps.length->bindArgs (PySem.W.fnOf "__init__" I (iK st) (fF st) (ai st) .none kV J pm Y j ct) ⟨us,[]⟩=pure (ps.zip us))
  (len:∀vs H Q E,sp vs H Q E->vs.length=ps.length)
  (z:∀(f:Addr)(j:Value)(A:Around)(outer:List Env)(s:Shared)(H:Hp)(vs:List V)(Q:VK)(E:XK),eK k (A.deeper<|envOfC I (ai st) s.heap.objs.size f j)->sp vs H Q E->
   ∃t,Ef (yY HJ N I (ai st) P w K mg base f j A outer s H E).RI (fF st) t/\t {nx:=λ_ H'=>Q .eQ H',rt:=Q} (start N vs) H):Ww P w K mg base x C (k+1) ps sp:=by
 obtain⟨f,fd,F,M,Z⟩:=T;exact⟨f,fd,Z,M,F.binds U,F.ok S len λj A outer s H vs Q E hr h=>z f j A outer s H vs Q E hr h⟩
end
def ay(D:Addr)(H H':Hp):Prop:=∀b o,b≠D->H b=some o->H' b=some o
def ay.upd:ay D H<|upd H D o:=λb u n e=>by rw[aL n];exact e
def ay.trans(a:ay D H1 H2)(b:ay D H2 H3):ay D H1 H3:=λc o n h=>b c o n<|a c o n h
def aq.but(a:aq H1 H2):ay D H1 H2:=λc o _ h=>a c o h
def aq.gh{K:cn}(e:aq H H1)(h:ee K H a xs):ee K H1 a xs:=by
 rcases h with(h|⟨o,h⟩)|h
 .exact .inl (.inl<|e _ _ h)
 .exact .inl (.inr ⟨o,e _ _ h⟩)
 .exact .inr h
def ay.gh{K:cn}(e:ay D H H1)(j:H D=some (.lst ys))(h:ee K H a xs):ee K H1 a xs:=by
 rcases h with(h|⟨o,h⟩)|h
 .exact .inl (.inl<|e _ _ (JJ h j<|by intro z;cases z) h)
 .exact .inl (.inr ⟨o,e _ _ (JJ h j<|by intro z;cases z) h⟩)
 .exact .inr h
def bA(q:Q (σ.set i<|some v) H):eZ i v σ H Q:=q
def dq(q:Q true H):Sf σ H Q:=q
structure OU(H1:Hp)(D:Addr){δ:Type}(R:δ->V->Hp->Prop)(ds:List δ)(H:Hp):Prop where
 kp:aq H1 H
 ex:∃ys,H D=some (.lst ys)/\Paired (λd v=>∀H5,ay D H H5->R d v H5) ds ys
section
variable{δ:Type}{R:δ->V->Hp->Prop}{H1 H H':Hp}{D:Addr}{ds:List δ}
def OU.start(j:H1 D=none):OU H1 D R []<|upd H1 D (.lst []):=⟨aq.new j,[],ah,.nil⟩
def OU.skip(I:OU H1 D R ds H)(k:aq H H'):OU H1 D R ds H':=by obtain⟨kp,ys,e,p⟩:=I;exact⟨kp.trans k,ys,k _ _ e,Paired.mono (λd v r j z=>r j<|k.but.trans z) p⟩
def OU.push(F:H1 D=none)(I:OU H1 D R ds H)(k:aq H H')(r:∀j,ay D H' j->R d y j)(hz:ds.length<sizeLine):
  ∃acc,H' D=some (.lst acc)/\acc.length<sizeLine/\OU H1 D R (ds++[d]) (upd H' D (.lst<|acc++[y])):=by
 obtain⟨kp,ys,e,p⟩:=I.skip k;refine⟨ys,e,by rw[<-mf p];exact hz,λb o h=>by rw[aL<|aX h F];exact kp b o h,_,ah,?_⟩;exact Paired.snoc (Paired.mono (λd v r j z=>r j<|ay.upd.trans z) p) λj z=>r j<|ay.upd.trans z
end
def qL(K:cn)(x:V)(H:Hp)(R:It->Hp->Prop):Prop:=∃a,x=.ref a/\(∃xs,az K H a xs)/\R (Rc K a) H
def qT(K:cn)(x:V)(H:Hp)(R:It->Hp->Prop):Prop:=∃a,x=.ref a/\(∃xs,ee K H a xs)/\R (RL K a) H
def qE(K:cn)(vs:List V)(H:Hp)(R:It->Hp->Prop):Prop:=B_ λa xs=>vs=[.ref a]/\az K H a xs/\R (UA K a) H
def qZ(K:cn)(vs:List V)(H:Hp)(R:It->Hp->Prop):Prop:=D_ λa b xs ys=>vs=[.ref a,.ref b]/\az K H a xs/\az K H b ys/\R (ZC K a b) H
def qR1(vs:List V)(H:Hp)(R:It->Hp->Prop):Prop:=∃j:Int,vs=[.int j]/\-(2^62)<=j/\j<2^62/\R (Nd 0 j.toNat) H
def qR2(vs:List V)(H:Hp)(R:It->Hp->Prop):Prop:=B_ λ(i j:Int)=>vs=[.int i,.int j]/\(-(2^62)<=i/\i<2^62/\-(2^62)<=j/\j<2^62)/\R (Nd i (j-i).toNat) H
def qS(x:V)(H:Hp)(R:It->Hp->Prop):Prop:=∃y,x=.str y/\R (Zz y) H
def Nh(J:It)(g:TG)(tt:TT)(te:TE)(vs:AU)(σ:L2.St)(H1:Hp)(Q:VK):Prop:=∀D,H1 D=none->∃W:Nat->Nat->Hp->Prop,(∃m,W 0 m<|upd H1 D (.lst []))/\∀i m H,W i m H->
 (J.stop i H/\Q (.ref D) H)\/(J.go i H/\∃z:Hp->Prop,(∀H',z H' ->∃F,F<m/\W (i+1) F H')/\∀x H',J.Nc i H x H' ->g x (wipe σ vs) H' λj H2=>wipe j vs=wipe σ vs/\tt j H2 λb H3=>if b=true then te j H3 λy I=>∃acc,I D=some (.lst acc)/\acc.length<sizeLine/\z (upd I D (.lst<|acc++[y]))else z H3)
section
variable{K:cn}{g:TG}{tt:TT}{te:TE}{vs:AU}{σ:L2.St}{H1:Hp}{Q:VK}{tl:TE}{ta:TA}{wi:TI}{R:It->Hp->Prop}
def fZ(q:wi σ H1 λJ H2=>Nh J g tt te vs σ H2 Q):Zr wi g tt te vs σ H1 Q:=q
def bB(q:tl σ H1 λx H2=>qL K x H2 R):NW K tl σ H1 R:=q
def cw(q:tl σ H1 λx H2=>qT K x H2 R):VD K tl σ H1 R:=q
def cR(h:az K H1 a xs)(q:R (Rc K a) H1):qL K (.ref a) H1 R:=⟨a,rfl,⟨xs,h⟩,q⟩
def f6(h:ee K H1 a xs)(q:R (RL K a) H1):qT K (.ref a) H1 R:=⟨a,rfl,⟨xs,h⟩,q⟩
def bC(q:ta σ H1 λvs H2=>qE K vs H2 R):Ow K ta σ H1 R:=q
def cS(h:az K H1 a xs)(q:R (UA K a) H1):qE K [.ref a] H1 R:=⟨a,xs,rfl,h,q⟩
def cx(q:ta σ H1 λvs H2=>qZ K vs H2 R):Wk K ta σ H1 R:=q
def fE(h:az K H1 a xs)(h2:az K H1 b ys)(q:R (ZC K a b) H1):qZ K [.ref a,.ref b] H1 R:=⟨a,b,xs,ys,rfl,h,h2,q⟩
def bD(q:ta σ H1 λvs H2=>qR1 vs H2 R):Um ta σ H1 R:=q
def wW(h:n<2^62)(q:R (Nd 0 n) H1):qR1 [.int (n:Int)] H1 R:=⟨n,rfl,by lia,by lia,q⟩
def bE(q:ta σ H1 λvs H2=>qR2 vs H2 R):Uo ta σ H1 R:=q
def Z4{n m:Nat}(h:n<2^62)(h2:m<2^62)(q:R (Nd n<|m-n) H1):qR2 [.int (n:Int),.int (m:Int)] H1 R:=⟨n,m,rfl,by lia,by
 have e:((m:Int)-(n:Int)).toNat=m-n:=by lia
 rw[e];exact q⟩
def cy(q:tl σ H1 λv H2=>qS v H2 R):ZA tl σ H1 R:=q
def f7(q:R (Zz x) H1):qS (.str x) H1 R:=⟨x,rfl,q⟩
def nY{ε δ:Type}(es:List ε)(f:ε->Option δ)(Rd:δ->V->Hp->Prop)(hz:es.length<=sizeLine)
  (z:∀H,aq H1 H->J.stop es.length H)
  (hs:∀D,H1 D=none->∀(i:Nat)(e:ε) H acc(Nx:VK)(Ns:Hp->Prop),es[i]?=some e->aq H1 H->H D=some (.lst acc)->
   (∀d,f e=some d->∀y j,aq H j->(∀H5,ay D j H5->Rd d y H5)->Nx y j)->(f e=none->∀j,aq H j->Ns j)->
   J.go i H/\∀x H',J.Nc i H x H' ->g x (wipe σ vs) H' λF H2=>wipe F vs=wipe σ vs/\tt F H2 λb H3=>if b=true then te F H3 Nx else Ns H3)
  (hd:∀D ys H,aq H1 H->H1 D=none->H D=some (.lst ys)->Paired (λd v=>Rd d v H) (es.filterMap f) ys->Q (.ref D) H):Nh J g tt te vs σ H1 Q:=by
 intro D M;refine⟨λi m H=>i+m=es.length/\OU H1 D Rd ((es.take i).filterMap f) H,⟨es.length,by lia,OU.start M⟩,λi m H⟨him,I⟩=>?_⟩;by_cases hi:i<es.length
 .right;have U:=gs hi;obtain⟨ys,S,pr⟩:=I.ex;refine⟨?_,λH'=>OU H1 D Rd ((es.take<|i+1).filterMap f) H',λH' h'=>⟨m-1,by lia,by lia,h'⟩,?_⟩
  .exact(hs D M i _ H ys (λ_ _=>True) (λ_=>True) U I.kp S (λ_ _ _ _ _ _=>trivial) λ_ _ _=>trivial).1
  .refine(hs D M i _ H ys _ _ U I.kp S (λd W y j k r=>?_) λY j k=>?_).2
   .have Z:((es.take i).filterMap f).length<sizeLine:=by have h1:=ZI f<|es.take i;rw[zd]at h1;lia
    obtain⟨acc,h1,h2,h3⟩:=I.push M k r Z;refine⟨acc,h1,h2,?_⟩;rw[J5 f U,W];exact h3
   .rw[J5 f U,Y,B5];exact I.skip k
 .left;have EU:i=es.length:=by lia
  subst EU;obtain⟨kp,ys,e,p⟩:=I;rw[B7]at p;exact⟨z H kp,hd D ys H kp M e<|Paired.mono (λd v r=>r H λ_ _ _ h=>h) p⟩
def ic{ε δ:Type}(es:List ε)(S:ε->V->Prop)(f:ε->Option δ)(Rd:δ->V->Hp->Prop)(W:az K H1 a xs)(Z:Paired S es xs)(hz:xs.length<=sizeLine)
  (hs:∀D,H1 D=none->∀(i:Nat)(e:ε) x H acc(M:VK)(U:Hp->Prop),es[i]?=some e->S e x->aq H1 H->H D=some (.lst acc)->
   (∀d,f e=some d->∀y z,aq H z->(∀H5,ay D z H5->Rd d y H5)->M y z)->(f e=none->∀z,aq H z->U z)->
   tt ((wipe σ vs).set j<|some x) H λb H3=>if b=true then te ((wipe σ vs).set j<|some x) H3 M else U H3)
  (hw:∀x:V,wipe ((wipe σ vs).set j<|some x) vs=wipe σ vs)
  (hd:∀D ys H,aq H1 H->H1 D=none->H D=some (.lst ys)->Paired (λd v=>Rd d v H) (es.filterMap f) ys->Q (.ref D) H):Nh (Rc K a) (eZ j) tt te vs σ H1 Q:=by
 have F:=mf Z;refine nY es f Rd (by lia) (λH k=>⟨xs,k.seq W,by lia⟩) (λD hD i e H acc M U Y k I n1 n2=>?_) hd;have hi:i<xs.length:=by rw[<-F];exact(l4.mp Y).1
 refine⟨⟨xs,xs[i],k.seq W,gs hi⟩,?_⟩;rintro x H'⟨rfl,hy⟩;obtain⟨e',J,se⟩:=Paired.at_ Z<|hy xs<|k.seq W;rw[Y]at J;cases J;exact⟨hw x,hs D hD i e x H' acc M U Y se k I n1 n2⟩
def adU{ε δ:Type}(es:List ε)(S:ε->V->Prop)(f:ε->Option δ)(Rd:δ->V->Hp->Prop)(W:ee K H1 a xs)(Z:Paired S es xs)(hz:xs.length<=sizeLine)
  (hs:∀D,H1 D=none->∀(i:Nat)(e:ε) x H acc(M:VK)(U:Hp->Prop),es[i]?=some e->S e x->aq H1 H->H D=some (.lst acc)->
   (∀d,f e=some d->∀y z,aq H z->(∀H5,ay D z H5->Rd d y H5)->M y z)->(f e=none->∀z,aq H z->U z)->
   tt ((wipe σ vs).set j<|some x) H λb H3=>if b=true then te ((wipe σ vs).set j<|some x) H3 M else U H3)
  (hw:∀x:V,wipe ((wipe σ vs).set j<|some x) vs=wipe σ vs)
  (hd:∀D ys H,aq H1 H->H1 D=none->H D=some (.lst ys)->Paired (λd v=>Rd d v H) (es.filterMap f) ys->Q (.ref D) H):Nh (RL K a) (eZ j) tt te vs σ H1 Q:=by
 have F:=mf Z;refine nY es f Rd (by lia) (λH k=>⟨xs,k.gh W,by lia⟩) (λD hD i e H acc M U Y k I n1 n2=>?_) hd;have hi:i<xs.length:=by rw[<-F];exact(l4.mp Y).1
 refine⟨⟨xs,xs[i],k.gh W,gs hi⟩,?_⟩;rintro x H'⟨rfl,hy⟩;obtain⟨e',J,se⟩:=Paired.at_ Z<|hy xs<|k.gh W;rw[Y]at J;cases J;exact⟨hw x,hs D hD i e x H' acc M U Y se k I n1 n2⟩
def Z6{δ:Type}(f:Nat->Option δ)(Rd:δ->V->Hp->Prop)(hz:n<=sizeLine)
  (hs:∀D,H1 D=none->∀(i:Nat) H acc(J:VK)(M:Hp->Prop),i<n->aq H1 H->H D=some (.lst acc)->
   (∀d,f i=some d->∀y F,aq H F->(∀S,ay D F S->Rd d y S)->J y F)->(f i=none->∀F,aq H F->M F)->
   tt ((wipe σ vs).set j<|some (.int (i:Int))) H λb H3=>if b=true then te ((wipe σ vs).set j<|some (.int (i:Int))) H3 J else M H3)
  (U:∀x:V,wipe ((wipe σ vs).set j<|some x) vs=wipe σ vs)
  (hd:∀D ys H,aq H1 H->H1 D=none->H D=some (.lst ys)->Paired (λd v=>Rd d v H) ((List.range n).filterMap f) ys->Q (.ref D) H):Nh (Nd 0 n) (eZ j) tt te vs σ H1 Q:=by
 refine nY (List.range n) f Rd (by simpa using hz) (λH k=>by show n<=(List.range n).length;simp) (λD W i e H acc J M Y k I Z n2=>?_) hd;obtain⟨hi,rfl⟩:i<n/\i=e:=by obtain⟨h1,h2⟩:=l4.mp Y;simp at h1 h2;exact⟨h1,h2⟩
 refine⟨hi,?_⟩;rintro x H'⟨rfl,rfl⟩;refine⟨U _,?_⟩;have e0:(0:Int)+(i:Int)=(i:Int):=by lia
 rw[e0];exact(hs D W i H' acc J M hi k I Z n2)
def adV{δ:Type}(f:Nat->Option δ)(Rd:δ->V->Hp->Prop)(hz:x.cps.size<=sizeLine)
  (hs:∀D,H1 D=none->∀(i:Nat)(c:Nat) H acc(I:VK)(J:Hp->Prop),x.cps.toList[i]?=some c->aq H1 H->H D=some (.lst acc)->
   (∀d,f c=some d->∀y z,aq H z->(∀S,ay D z S->Rd d y S)->I y z)->(f c=none->∀z,aq H z->J z)->
   tt ((wipe σ vs).set j<|some (.str ⟨#[c]⟩)) H λb H3=>if b=true then te ((wipe σ vs).set j<|some (.str ⟨#[c]⟩)) H3 I else J H3)
  (U:∀x:V,wipe ((wipe σ vs).set j<|some x) vs=wipe σ vs)
  (hd:∀D ys H,aq H1 H->H1 D=none->H D=some (.lst ys)->Paired (λd v=>Rd d v H) (x.cps.toList.filterMap f) ys->Q (.ref D) H):Nh (Zz x) (eZ j) tt te vs σ H1 Q:=by
 refine nY x.cps.toList f Rd (by simpa using hz) (λH k=>by show x.cps.size<=x.cps.toList.length;simp) (λD W i e H acc I J M k F Y Z=>?_) hd;have hi:i<x.cps.size:=by have:=(l4.mp M).1;simpa using this
 refine⟨hi,?_⟩;rintro y H'⟨rfl,c,hc,rfl⟩;have:x.cps.toList[i]?=some c:=by rw[Pl];exact hc
 rw[M]at this;cases this;exact⟨U _,hs D W i e H' acc I J M k F Y Z⟩
def wX(h:H T=some (.tup [x,y]))(q:z ((σ.set i<|some x).set j<|some y) H):yX K 2 (iF (eZ i)<|iF (eZ j) BH) (.ref T) σ H z:=⟨T,[x,y],rfl,ee.of h,rfl,x,[y],rfl,y,[],rfl,rfl,q⟩
def Z7{ε δ:Type}(es:List ε)(S:ε->V->Prop)(f:Nat->ε->Option δ)(Rd:δ->V->Hp->Prop)(Y:az K H1 a xs)(hx:Paired S es xs)(hz:xs.length<=sizeLine)
  (hs:∀D,H1 D=none->∀(i:Nat)(e:ε) x H acc(M:VK)(U:Hp->Prop),es[i]?=some e->S e x->aq H1 H->H D=some (.lst acc)->
   (∀d,f i e=some d->∀y j,aq H j->(∀H5,ay D j H5->Rd d y H5)->M y j)->(f i e=none->∀j,aq H j->U j)->
   tt (((wipe σ vs).set j1<|some (.int (i:Int))).set j2<|some x) H λb H3=>if b=true then te (((wipe σ vs).set j1<|some (.int (i:Int))).set j2<|some x) H3 M else U H3)
  (hw:∀x y:V,wipe (((wipe σ vs).set j1<|some x).set j2<|some y) vs=wipe σ vs)
  (hd:∀D ys H,aq H1 H->H1 D=none->H D=some (.lst ys)->Paired (λd v=>Rd d v H) (es.zipIdx.filterMap λp=>f p.2 p.1) ys->Q (.ref D) H):Nh (UA K a) (yX K 2<|iF (eZ j1)<|iF (eZ j2) BH) tt te vs σ H1 Q:=by
 have z:=mf hx;refine nY es.zipIdx (λp=>f p.2 p.1) Rd (by simp;lia) (λH k=>⟨xs,k.seq Y,by simp;lia⟩) (λD hD i e H acc M U he k F n1 n2=>?_) hd;have hi:i<xs.length:=by rw[<-z];have:=(l4.mp he).1;simpa using this
 have I:i<es.length:=by lia
 have e0:e=(es[i],i):=by have:=(l4.mp he).2;simp at this;exact this.symm
 subst e0;refine⟨⟨xs,xs[i],k.seq Y,gs hi⟩,?_⟩;rintro v H'⟨T,x,rfl,hT,rfl,hy⟩;obtain⟨e',J,se⟩:=Paired.at_ hx<|hy xs<|k.seq Y;rw[gs I]at J;cases J;have W:aq H<|upd H T (.tup [.int (i:Nat),x]):=aq.new hT;exact wX ah ⟨hw _ _,hs D hD i _ x _ acc M U (gs I) se (k.trans W) (W _ _ F) (λd hd y j Z r=>n1 d hd y j (W.trans Z) r) λhn j Z=>n2 hn j<|W.trans Z⟩
def LR{ε z δ:Type}(es:List ε)(es':List z)(S:ε->V->Prop)(S':z->V->Prop)(f:ε->z->Option δ)(Rd:δ->V->Hp->Prop)(hl:az K H1 a xs)(F:az K H1 b ys)(hx:Paired S es xs)(hy:Paired S' es' ys)(hz:xs.length<=sizeLine)
  (hs:∀D,H1 D=none->∀(i:Nat)(e:ε)(Y:z) x y H acc(Z:VK)(Ns:Hp->Prop),es[i]?=some e->es'[i]?=some Y->S e x->S' Y y->aq H1 H->H D=some (.lst acc)->
   (∀d,f e Y=some d->∀y j,aq H j->(∀H5,ay D j H5->Rd d y H5)->Z y j)->(f e Y=none->∀j,aq H j->Ns j)->
   tt (((wipe σ vs).set j1<|some x).set j2<|some y) H λb H3=>if b=true then te (((wipe σ vs).set j1<|some x).set j2<|some y) H3 Z else Ns H3)
  (hw:∀x y:V,wipe (((wipe σ vs).set j1<|some x).set j2<|some y) vs=wipe σ vs)
  (hd:∀D ys H,aq H1 H->H1 D=none->H D=some (.lst ys)->Paired (λd v=>Rd d v H) ((es.zip es').filterMap λp=>f p.1 p.2) ys->Q (.ref D) H):Nh (ZC K a b) (yX K 2<|iF (eZ j1)<|iF (eZ j2) BH) tt te vs σ H1 Q:=by
 have hlen:es.length=xs.length:=mf hx;have Z8:es'.length=ys.length:=mf hy;refine nY (es.zip es') (λp=>f p.1 p.2) Rd (by rw[Hd];lia) (λH k=>⟨xs,ys,k.seq hl,k.seq F,by rw[Hd];lia⟩) (λD hD i e H acc Z Ns he k I n1 n2=>?_) hd;have hi:=(l4.mp he).1;rw[Hd]at hi;have h1:i<xs.length:=by lia
 have h2:i<ys.length:=by lia
 have J:i<es.length:=by lia
 have M:i<es'.length:=by lia
 have e0:e=(es[i],es'[i]):=by have:=(l4.mp he).2;simp at this;exact this.symm
 subst e0;refine⟨⟨xs,ys,xs[i],ys[i],k.seq hl,k.seq F,gs h1,gs h2⟩,?_⟩;rintro v H'⟨T,x,y,rfl,hT,rfl,hy1,hy2⟩;obtain⟨e1,U,se1⟩:=Paired.at_ hx<|hy1 xs<|k.seq hl;obtain⟨e2,W,se2⟩:=Paired.at_ hy<|hy2 ys<|k.seq F;rw[gs J]at U;rw[gs M]at W;cases U;cases W;have kT:aq H<|upd H T (.tup [x,y]):=aq.new hT;exact wX ah ⟨hw _ _,hs D hD i _ _ x y _ acc Z Ns (gs J) (gs M) se1 se2 (k.trans kT) (kT _ _ I) (λd hd y j k4 r=>n1 d hd y j (kT.trans k4) r) λhn j k4=>n2 hn j<|kT.trans k4⟩
end
theorem pmap{j:Type}(g:j->V):∀l:List j,Paired (λe v=>v=g e) l<|l.map g
 |[]=>.nil
 |x::l=>.cons rfl<|pmap g l
theorem bq{j:Type}{g:j->V}{l:List j}{m:List V}(h:Paired (λe v=>v=g e) l m):m=l.map g:=by induction h with|nil=>rfl|cons h _ i=>rw[h,i];rfl
theorem bX{j z:Type}(g:j->z):∀l:List j,(l.filterMap λe=>some<|g e)=l.map g
 |[]=>rfl
 |x::l=>by rw[EA,bX g l];rfl
theorem uD{j:Type}(p:j->Bool):∀l:List j,(l.filterMap λe=>if p e=true then some e else none)=l.filter p
 |[]=>rfl
 |x::l=>by rw[EA,F5,uD p l];cases p x<;>rfl
theorem rM{j z:Type}{f g:j->Option z}:∀{l:List j},(∀x∈l,f x=g x)->l.filterMap f=l.filterMap g
 |[],_=>rfl
 |x::l,h=>by rw[EA,EA,h x lx,rM λy F=>h y<|kB _ F]
def US{K:cn}{a:Addr}{xs:List V}{tb:TS}{D:Ends}{σ:L2.St}{H:Hp}{j1 j2:Nat}(j:Nat->L2.St->Hp->Prop)(h0:j 0 σ H)(z:∀i σ H,i<=xs.length->j i σ H->az K H a xs)
  (hs:∀i x σ H T,xs[i]?=some x->j i σ H->H T=none->tb (D.l<|j<|i+1) ((σ.set j1<|some (.int (i:Int))).set j2<|some x) (upd H T (.tup [.int (i:Int),x])))(hd:∀σ H,j xs.length σ H->D.nx σ H):
  ∃W:Nat->Nat->L2.St->Hp->Prop,(∃m,W 0 m σ H)/\∀i m σ H,W i m σ H->
   ((UA K a).stop i H/\D.nx σ H)\/((UA K a).go i H/\∃N:L2.St->Hp->Prop,(∀σ' H',N σ' H' ->∃I,I<m/\W (i+1) I σ' H')/\∀x H',(UA K a).Nc i H x H' ->yX K 2 (iF (eZ j1)<|iF (eZ j2) BH) x σ H' λF H2=>tb (D.l N) F H2):=by
 refine⟨λi m σ H=>i+m=xs.length/\j i σ H,⟨xs.length,by lia,h0⟩,λi m σ H⟨J,p⟩=>?_⟩;by_cases hi:i<xs.length
 .right;refine⟨⟨xs,xs[i],z i σ H (by lia) p,gs hi⟩,j<|i+1,λσ' H' h'=>⟨m-1,by lia,by lia,h'⟩,?_⟩;rintro v H'⟨T,x,rfl,M,rfl,S⟩;exact wX ah<|hs i x σ H T (S xs<|z i σ H (by lia) p) p M
 .left;have e:i=xs.length:=by lia
  subst e;exact⟨⟨xs,z _ σ H (by lia) p,by lia⟩,hd σ H p⟩
section
variable(K:cn){X:Cx}
def Wy:R2:=λx y H Q=>D_ λa b xs ys=>x=.ref a/\y=.ref b/\ee K H a xs/\ee K H b ys/\xs.length+ys.length<=sizeLine/\∀p H',aq H H' ->ee K H' p (xs++ys)->Q (.ref p) H'
def aae(hK:X.K=K:=by rfl):nu X (binaryOp .Add)<|Wy K:=by
 subst hK;intro pins s σ H x y v u Q I z J h;obtain⟨a,b,xs,ys,rfl,rfl,ha,hb,hz,q⟩:=h;by_cases M:xs=[]
 .cases z;cases J;subst M;obtain⟨its,r1,⟨⟨c1,d1,dt1,s1⟩,S,U,n1,W⟩,_⟩:=I.tuple ha;obtain⟨j,r2,⟨⟨c2,d2,dt2,s2⟩,o2,Y,n2,Z⟩,_⟩:=I.tuple hb;simp only at U W Y Z;subst U W Y Z;have hi:=r1.vz.mpr rfl;subst hi
  exact concat_meets ⟨_,S,rfl⟩ ⟨_,o2,rfl⟩ noFill_tuple_add seq_tuple_add ao2 aoR (aoK _ _)
   (tuple_addW0 a b [].toArray j.toArray n1 n2 d1 d2 s1 s2 rfl) ⟨S,o2,.ref b,H,I,rfl,q b H (aq.refl H) hb⟩
 .exact RW pins s σ H (.ref a) (.ref b) v u Q I z J ⟨a,b,xs,ys,rfl,rfl,ha,hb,M,hz,λe=>q a H (aq.refl H)<|by rw[e,B5];exact ha,λ_ p hp=>q p _ (aq.new hp)<|ee.of ah⟩
end
section
variable{X:Cx}{x:Str}{p pos p2 apos:Pos}{e:Expr}{es:List Expr}{t:TA}{i:Nat}
structure FnA(P:Program)(w:World)(K:cn)(mg:Be)(base:Heap)(f:Addr)(k:Nat)(sp:Sp):Prop where
 ex:B_ λfd ps=>PySem.W.keepIn K (.ref f)=true/\Binds K fd ps []/\nO P w K mg base HJ k f fd ps sp
def Wz(X:Cx)(i:Nat)(t:TA):TE:=λσ H Q=>C_ λf k sp=>σ[i]?=some (some (.ref f))/\FnA X.prog X.w X.K X.mg X.base f k sp/\eK k X.A/\t σ H λvs H1=>sp vs H1 Q E0
def OW(U:X.N[i]?=some x)(Y:Vs X.env.scope x)(Z:PA X (e::es) t)(hd:(x==("__debug__":Str))=false)(j:(x==("__classdict__":Str))=false)
  (he:starEach (e::es) X.env=(false,eval e X.env)::starEach es X.env)(J:(backTo pos<|starEach es X.env).any (·.1)=false):PE X (.Call (.Name x p) (e::es) [] pos)<|Wz X i t:=by
 intro pins s σ H Q I h;obtain⟨f,k,sp,hs,⟨fd,ps,hk,hb,F⟩,hr,h⟩:=h;refine K0<|eF (NN U Y hd j pins s σ H (λv H1=>v=.ref f/\H1=H) I ⟨.ref f,hs,rfl,rfl⟩) λu s1 z=>?_;obtain⟨v,H1,M,r,rfl,rfl⟩:=z;cases r;refine apI M.ok.mod.RF hk (eF (Z pos pins s1 σ H1 _ M h) λus s2⟨vs,H2,S,r2,q⟩=>⟨S.JL,?_⟩) he J;exact N7 F hr hb .nil J4 S r2 (by rw[B5];exact q)
def aaf:List V->Hp->VK->Prop:=λxs H Q=>B_ λa kvs=>xs=[.ref a]/\H a=some (.dT kvs)/\Q (.int kvs.length) H
def UT:fb X (.builtin "len") aaf:=by
 intro pins s σ H xs us Q I r h;obtain⟨a,kvs,rfl,ha,q⟩:=h;obtain⟨u,rfl,ru⟩:=vals1 r;cases ru;obtain⟨hz,z,ys,pr,o,es,ep,M,U,j,J,W⟩:=I.c7 a _ ha;have Y:es.size=kvs.length:=by have:=congrArg List.length J;simp at this;rw[this,mf pr]
 have S:s.TypeIs (.ref a) "dict":=⟨o,M,U.1⟩;have ms:MeetsIn X.prog X.w (Builtin.«dict.__len__» ⟨[.ref a],[]⟩) λ_ R s'=>s'.heap.get? a=some o/\R (.ok (.ret (.int kvs.length s'.toks))) {s' with toks:=s'.toks+1}:=.of_wp λA R s'⟨h1,h2⟩=>by show wpAny _ _ (dictSize a>>=_) _ _ s';unfold dictSize;refine a0<|a0<|Uv h1 j<|er ?_;show wpAny _ _ (Builtin.Dict.pendingCount a>>=_) _ _ s';refine a0<|wpAny_pendingCount_other z<|wpAny_ret_mkInt ?_;rw[XX,Y];exact h2
 refine Calls.call_function_entry kind_len plain_len entry_len (args_len1 _) ?_;unfold Builtin.«len»
 refine a0 (m:=oneArg "len" _) (er (a0 (m:=callSpecial? (.ref a)<|Str.ofString "__len__") (O3 (name:=Str.ofString "__len__") S F.slot_dict_len
  (call_meetsIn F.slot_dict_len S F.entry_dict_len (F.args_dict_len_1 _) ms ⟨M,?_⟩))))
 show wpAny _ _ _ _ _ {s with toks:=s.toks+1};refine a0<|Cn<|er<|a0<|B6 ?_;have Z:kvs.length<2^62:=apK hz (by decide);show wpAny _ _ (if((kvs.length:Nat):Int)<0 then _ else _) _ _ _;rw[c0<|show¬((kvs.length:Nat):Int)<0 by lia];show wpAny _ _ (if((kvs.length:Nat):Int)>=2^63 then _ else _) _ _ _;rw[c0<|show¬((kvs.length:Nat):Int)>=2^63 by lia];exact a0<|wpAny_mkInt<|er ⟨_,rfl,.int kvs.length,H,I.tok _,⟨_,rfl⟩,q⟩
def LS:List V->Hp->VK->Prop:=λxs H Q=>B_ λa kvs=>xs=[.ref a]/\H a=some (.dK kvs)/\∀l,H l=none->Q (.ref l) (upd H l (.lst<|kvs.map λj=>kV j.1))
theorem Paired.J8{j z:Type}{R:j->z->Prop}:∀{l:List j}{m:List z},l.length=m.length->(∀(i:Nat) a b,l[i]?=some a->m[i]?=some b->R a b)->Paired R l m
 |[],[],_,_=>.nil
 |[],_::_,h,_=>by simp at h
 |_::_,[],h,_=>by simp at h
 |a::l,b::m,h,r=>.cons (r 0 a b rfl rfl)<|Paired.J8 (by simpa using h) λi x y h1 h2=>r (i+1) x y (by simpa using h1) (by simpa using h2)
def wY(h:ItemsOf P acc n)(j:∀i v,i<n->P i v->RelV (g i) v):Vals ((List.range n).map g) acc.toList:=by
 refine Paired.J8 (by simp[h.1]) λi a b h1 h2=>?_;have hi:i<n:=by have:=(l4.mp h1).1;simpa using this
 have e:a=g i:=by rw[mq,Mi hi]at h1;exact(ri h1).symm
 rw[e];exact j i b hi<|h.2 i b (by rw[<-Pl];exact h2)
def HL(Y:X.calm=true:=by rfl):fb X (.type "list") LS:=by
 intro pins s σ H xs us Q I r h;obtain⟨a,kvs,rfl,ha,q⟩:=h;obtain⟨u,rfl,ru⟩:=vals1 r;cases ru;obtain⟨hz,J,vs,rel,Z⟩:=Oj I.c7 ha;obtain⟨o,es,ep,h1,h2,h3,h4,h5,h6⟩:=Z;have hl:=rel.length;have at_:s.heap.DictAt (eI X.prog X.w) a vs ep:=⟨o,es,h1,h2,h3,h4,h5,h6⟩
 refine PySem.W.kdl_call (PySem.W.kdl_dict J) (I.ok.hd Y) at_ (by rw[<-hl];exact hz) λh' tk acc c' hk hS z=>?_
 have hv:Vals ((kvs.map λj=>kV j.1)) acc.toList:=by
  have e:(kvs.map λj=>kV j.1)=(List.range vs.length).map λi=>((kvs[i]?).map λj=>kV j.1).getD .eQ:=by
   apply Q2;intro i;rw[mq,mq];by_cases hi:i<kvs.length
   .rw[gs hi,Mi<|by lia];simp[gs hi]
   .rw[Pm<|by lia,Pm<|by simp;lia];rfl
  rw[e];refine wY z λi v hi hp=>?_;obtain⟨k,x,M,S⟩:=hp;have F:i<kvs.length:=by lia
  obtain⟨u,U,ru⟩:=Wg rel<|gs F;rw[M]at U;have e2:k=(kvs[i]).1:=congrArg Prod.fst<|ri U;rw[gs F];show RelV (kV (kvs[i]).1) v;rw[<-e2];exact Ov S
 have I2:Inv X pins σ (upd H s.heap.objs.size (.lst<|kvs.map λj=>kV j.1)) {s with heap:=h',toks:=tk}:=I.laid (t':=tk) hk (ez _) (show eh X.prog X.w _ h' _ (.lst _)from⟨by rw[ek];exact hz,acc.toList,c',hv,by rw[apm];exact hS⟩);exact⟨.ref s.heap.objs.size,_,I2,rfl,q _<|I.c7.fresh<|ez _⟩
def lrQ(Q:VK)(vs:List V)(H2:Hp):Prop:=B_ λ(n:Nat)(r:Addr)=>vs=[.ref r]/\H2 r=some (.RD 0 n)/\n<=1000000/\∀l,H2 l=none->Q (.ref l) (upd H2 l (.lst ((List.range n).map λi:Nat=>.int (i:Int))))
def lrR(Q:VK)(vs:List V)(H1:Hp):Prop:=∃n:Nat,vs=[.int n]/\n<=1000000/\∀r,H1 r=none->lrQ Q [.ref r] (upd H1 r (.RD 0 n))
def wZ(t:TA):TE:=λσ H Q=>t σ H λvs H1=>lrR Q vs H1
def aH(q:t σ H λvs H1=>lrR Q vs H1):wZ t σ H Q:=q
def adZ(j:n<=1000000)(q:∀l H',aq H H' ->H l=none->H' l=some (.lst ((List.range n).map λi:Nat=>.int (i:Int)))->Q (.ref l) H'):lrR Q [.int (n:Int)] H:=by refine⟨n,rfl,j,λr I=>⟨n,r,rfl,ah,j,λl z=>?_⟩⟩;have F:aq H<|upd H r (.RD 0 n):=aq.new I;exact q l _ (F.trans<|aq.new z) (F.free z) ah
def Cg(hm:X.mg "list"=none)(S:X.mg "range"=none)(ha:PA X [e] t)(hc:X.calm=true:=by rfl)(hg:Gl X "list":=by rfl)(U:Gl X "range":=by rfl)
  (hs:starEach [Expr.Call (.Name "range" p2) [e] [] apos] X.env=[(false,eval (.Call (.Name "range" p2) [e] [] apos) X.env)]:=by rfl)(W:starEach [e] X.env=[(false,eval e X.env)]:=by rfl):
  PE X (.Call (.Name "list" p) [.Call (.Name "range" p2) [e] [] apos] [] pos) (wZ t):=by
 have z:PE X (.Call (.Name "range" p2) [e] [] apos) λσ H Q=>t σ H λvs H1=>∃n:Nat,vs=[.int n]/\n<=1000000/\∀l,H1 l=none->Q (.ref l) (upd H1 l (.RD 0 n)):=by
  intro pins s σ H Q I h;refine Call_<|iD I U S boot_range<|HK (eF (ha apos pins s σ H _ I h) λus j⟨vs,H1,F,Y,Z⟩=>?_) W rfl;obtain⟨n,rfl,hn,q⟩:=Z;cases Y with
  |cons r rr=>cases rr;obtain⟨t',rfl⟩:=r;refine call_range_1 ?_;have I2:Inv X pins σ (upd H1 j.heap.objs.size (.RD 0 n)) {j with heap:=j.heap.push {cls:=.type "range",data:=.fields #[.int 0 j.toks,.int n t',.int 1<|j.toks+1]},toks:=j.toks+1+1}:=F.laid (λb o x=>et _ x) (ez _)<|⟨_,_,_,m8 _ rfl⟩;exact⟨.ref j.heap.objs.size,_,I2,rfl,q _<|F.c7.fresh<|ez _⟩
 intro pins s σ H Q I h;refine Call_<|iD I hg hm boot_list<|HK (eF (ab z ag hs pos pins s σ H (λvs H1=>lrQ Q vs H1) I h) λus j⟨vs,H1,F,Y,Z⟩=>?_) hs rfl
 .obtain⟨n,r,rfl,hr,hn,q⟩:=Z;cases Y with
  |cons r rr=>
   cases rr;cases r;obtain⟨t1,t2,t3,J⟩:=F.c7 r _ hr;refine call_list_range (n:=n) (F.ok.hd hc) J (small_one (by lia) (by lia) (by lia)<|by lia) (by rw[rangeSize_one];split<;>lia) (by lia) λh' tk acc c' hk hS M=>?_;have hv:Vals ((List.range n).map λi:Nat=>V.int (i:Int)) acc.toList:=wY M λi v hi hp=>by obtain⟨t',e⟩:=hp;rw[e];exact⟨t',by congr 1;lia⟩
   have I2:Inv X pins σ (upd H1 j.heap.objs.size (.lst ((List.range n).map λi:Nat=>V.int (i:Int)))) {j with heap:=h',toks:=tk}:=F.laid (t':=tk) hk (ez _) (show eh X.prog X.w _ h' _ (.lst _)from⟨by simp;exact lp hn<|by decide,acc.toList,c',hv,by rw[apm];exact hS⟩);exact⟨.ref j.heap.objs.size,_,I2,rfl,q _<|F.c7.fresh<|ez _⟩
end
section
variable{X:Cx}{A:Around}{E:Bd}{s:Shared}
def zc(j:s.heap.get? a=some o)(z:o.cls=.type "tuple")(h:Q false s):
  wpAny (model M w) A (Builtin.Dict.quietEq (.ref a)) Q E s:=by
 exact a0<|wpAny_specialOf ⟨o,j,z⟩ F.slot_tuple_eq.lookup<|er h
def OX{l:Bc}(j:l.Nodup)(x:Int):(l.filter (· ==x)).length<=1:=by
 induction l with
 |nil=>simp
 |cons y l I=>
  rw[nM]at j;rw[F5];split
  .rename_i J;have e:y=x:=by simpa using J
   subst e;have:l.filter (· ==y)=[]:=by
    rw[List.filter_eq_nil_iff];intro z hz F;have:z=y:=by simpa using F
    exact j.1<|this▸hz
   rw[this];simp
  .exact I j.2
def SG(X:Cx):List V->Hp->VK->Prop:=λxs H Q=>B_ λa kvs=>xs=[.ref a]/\H a=some (.dT kvs)/\(kvs.map λj=>tupleKeyHash (eI X.prog X.w) j.1).Nodup/\∀l,H l=none->Q (.ref l) (upd H l (.dT kvs))
def OY:fb X (.type "dict")<|SG X:=by
 intro pins s σ H xs us Q I r h;obtain⟨a,kvs,rfl,ha,EV,q⟩:=h;obtain⟨u,rfl,ru⟩:=vals1 r;cases ru;obtain⟨hz,hsm,ys,pr,o,es,ep,ho,hc,j,M,hnk⟩:=I.c7 a _ ha;have U:es.toList.length=kvs.length:=by rw[M,ek,mf pr]
 have hsz:es.size=kvs.length:=by simpa using U
 have iW:=ky ho;have iw:s.heap.objs.size≠a:=B2 iW;have hash_eq:es.toList.map (·.hash)=kvs.map λkv=>tupleKeyHash (eI X.prog X.w) kv.1:=by
  rw[M,oW];clear U hsz M hnk EV ha q j;induction pr with
  |nil=>rfl
  |cons p _ ih=>
   rw[ip,ip];refine congr (congrArg List.cons ?_)<|ih ?_
   .show tupleKeyHash _ _=tupleKeyHash _ _;rw[p.1]
   .have:=hz;simp at this;lia
 have keys:∀e∈es.toList,B_ λb J=>e.key=.ref b/\s.heap.get? b=some J/\J.cls=.type "tuple":=by intro e Z;rw[M]at Z;obtain⟨y,hy,rfl⟩:=n8.mp Z;obtain⟨i,hi⟩:=aph hy;obtain⟨kv,_,_,S,_⟩:=Paired.at_ pr hi;obtain⟨_,its,_,J,h1,h2,_⟩:=I.c7 _ _ S;exact⟨y.2.1,J,rfl,h1,h2⟩
 have fin:∀h':Heap,(∀b J,s.heap.get? b=some J->h'.get? b=some J)->(B_ λo' Vw=>h'.get? s.heap.objs.size=some o'/\o'.ExactDict/\o'.data=.dict es Vw)->EP X pins σ Q (.ref s.heap.objs.size) {s with heap:=h'}:=by rintro h' hk⟨o',Vw,e1,e2,e3⟩;have new:eh X.prog X.w (upd H s.heap.objs.size (.dT kvs)) h' s.heap.objs.size (.dT kvs):=⟨hz,Mh.mpr<|iq<|nP I.big,ys,KT.keeps pr λb zs S=>by rw[aL<|aX S<|I.c7.fresh<|ez _];exact S,o',es,Vw,e1,e2,e3,M,hnk⟩;exact⟨.ref s.heap.objs.size,_,I.laid (t':=s.toks) hk (ez _) new,rfl,q _<|I.c7.fresh<|ez _⟩
 refine callType_codes (Q₁:=λobj W=>obj=.ref s.heap.objs.size/\W={s with heap:=s.heap.push {cls:=.type "dict",data:=.dict #[]}}) F.kt_called_dict (F.kt_typeCall_dict_1 _) F.entry_dict_init (kt_code_dict_new _ ⟨rfl,rfl⟩) ?_;rintro obj W⟨rfl,rfl⟩;generalize hh1:s.heap.push {cls:=.type "dict",data:=.dict #[]}=h1;have n1:h1.get? s.heap.objs.size=some {cls:=.type "dict",data:=.dict #[]}:=by rw[<-hh1];exact m8 _ rfl
 have Y:∀b J,s.heap.get? b=some J->h1.get? b=some J:=λb J e=>by rw[<-hh1];exact et _ e
 have t1:Shared.TypeIs {s with heap:=h1} (.ref s.heap.objs.size) "dict":=⟨_,n1,rfl⟩;have t2:Shared.TypeIs {s with heap:=h1} (.ref a) "dict":=⟨o,Y _ _ ho,hc.1⟩;refine⟨t1,F.args_dict_init_2 _ _,?_⟩;unfold Builtin.«dict.__init__»;refine a0 ?_;unfold Builtin.Dict.selfAndRest;refine a0<|wpAny_notOrdered_dict t1 ?_;show wpAny _ _ (pure (s.heap.objs.size,[Value.ref a])) _ _ _;refine er ?_;show wpAny _ _ (Builtin.Dict.updateFrom "dict.__init__" s.heap.objs.size (.ref a) [] .none) _ _ _;unfold Builtin.Dict.updateFrom;refine a0<|wpAny_typeOf t2 ?_;rw[c0<|by decide];refine a0 ?_;unfold Builtin.Dict.merge;refine a0 ?_;unfold Builtin.Dict.readDirectly;refine a0<|R8 t2 isSubtype_dict_dict ?_;simp only[Bool.not_true,Pd,LI];refine a0<|wpAny_specialOf t2 F.slot_dict_iter.lookup<|er ?_;simp only[beq_self_eq_true,Pt];refine a0<|er ?_;show wpAny _ _ (Builtin.Dict.mergeDict _ s.heap.objs.size a) _ _ _;unfold Builtin.Dict.mergeDict Builtin.Dict.showsAll;rw[c0<|by simpa using iw,c0<|by rw[hsm];exact rP];refine a0<|er<|a0<|Uv (Y _ _ ho) j ?_;dsimp only;by_cases h0:es=#[]
 .subst h0;rw[c0<|by simp];refine a0<|wpAny_dictEpoch (Y _ _ ho) j<|a0<|Uv (Y _ _ ho) j<|a0 ?_;rw[aow];exact er<|er<|a0<|er<|er ⟨rfl,fin h1 Y ⟨_,_,n1,⟨rfl,rfl,rfl⟩,rfl⟩⟩
 .have Ob:(!(decide (es.size<=8)&&es.all λe=>(keyPart e.key).isSome))=true:=by
   have:(es.all λe=>(keyPart e.key).isSome)=false:=by rw[Array.all_eq_false'];obtain⟨e,Z⟩:=Array.exists_mem_of_ne_empty es h0;obtain⟨b,J,S,_⟩:=keys e (by simpa using Z);exact⟨e,Z,by rw[S];exact rP⟩
   rw[this];simp
  rw[dt Ob];refine a0<|Uv n1 rfl ?_;rw[dt<|show(#[]:Array DictEntry).isEmpty=true from rfl];refine a0 ?_;unfold Builtin.Dict.entriesForEmpty;refine a0<|Uv (Y _ _ ho) j<|a0 ?_;rw[<-R4];refine ao9 _ (λrest _ s'=>s'={s with heap:=h1}/\∀e∈rest,e∈es.toList) _ ?_ ?_ _ _ ⟨rfl,λe Z=>Z⟩
  .rintro e rest b s'⟨rfl,hm⟩;obtain⟨c,J,S,h2,h3⟩:=keys e<|hm e lx;rw[S];refine a0<|zc (Y _ _ h2) h3 ?_;have one:(es.filter λx=>x.hash==e.hash).size<=1:=by
    have z:=OX (l:=es.toList.map (·.hash)) (by rw[hash_eq];exact EV) e.hash;rw[Xc,ek]at z;have e2:(es.filter λx=>x.hash==e.hash).size=(es.toList.filter<|(λx=>x==e.hash)∘λx=>x.hash).length:=by rw[<-xD,Array.toList_filter];rfl
    rw[e2];exact z
   rw[dt (show(!false)=true from rfl),c0<|by lia];exact er ⟨rfl,λx hx=>hm x<|kB _ hx⟩
  .rintro b s'⟨rfl,_⟩;refine er ?_;rw[dt<|by simpa using h0];refine a0<|wpAny_updateDictKeysTo n1 rfl (er<|a0<|er<|er ⟨rfl,fin _ (λb J S=>?_) ⟨_,_,R6 _ n1 rfl,⟨rfl,rfl,rfl⟩,rfl⟩⟩) ?_
   .rw[E7 _ _<|iq<|nP<|ky S];exact Y b J S
   .rw[hsz];lia
end
section
variable{X:Cx}{e v1 v2:Expr}{es:List Expr}{te:TE}{u:Str->TE}{pos:Pos}
def UU(X:Cx)(es:List Expr)(u:Str->TE):Prop:=∀(acc:Str)(pins:List<|Addr×Obj)(s:Shared)(σ:L2.St)(H:Hp)(Q:VK),Inv X pins σ H s->u acc σ H Q->wpAny (model X.prog X.w) X.A (joinParts acc<|evalEach es X.env) (EP X pins σ Q) X.xe s
def aah:Str->TE:=λacc _ H Q=>acc.length<=sizeLine/\Q (.str acc) H
def aai(z:Str)(u:Str->TE):Str->TE:=λacc σ H Q=>(acc++z).length<=sizeLine/\u (acc++z) σ H Q
def aaj(te:TE)(u:Str->TE):Str->TE:=λacc σ H Q=>te σ H λv H1=>∃y,v=.str y/\y.length<=sizeLine/\(acc++y).length<=sizeLine/\u (acc++y) σ H1 Q
def aak(te:TE)(u:Str->TE):Str->TE:=λacc σ H Q=>te σ H λv H1=>∃i:Int,v=.int i/\i.natAbs.log2<1920/\(acc++Str.ofString (toString i)).length<=sizeLine/\u (acc++Str.ofString (toString i)) σ H1 Q
def HM:UU X [] aah:=λacc pins s σ H Q I h=>joinParts_nil ⟨.str acc,H,I.tok _,⟨_,rfl⟩,h.2⟩ h.1
def qk(F:UU X es u):UU X (.Constant (.str z) j pos::es)<|aai z u:=by intro acc pins s σ H Q I h;refine joinParts_cons<|eF (bS pins s σ H (λv H1=>v=.str z/\H1=H) I ⟨rfl,rfl⟩) λw J q=>?_;obtain⟨v,H1,M,r,rfl,rfl⟩:=q;obtain⟨t,rfl⟩:=r;exact⟨h.1,F (acc++z) pins J σ H1 Q M h.2⟩
def qm(j:PE X e te)(z:UU X es u):UU X (.FormattedValue e (-1) none pos::es)<|aaj te u:=by intro acc pins s σ H Q I h;refine joinParts_cons<|FormattedValue_plain<|eF (j pins s σ H _ I h) λw S⟨v,H1,F,r,y,J,M,hz,q⟩=>?_;subst J;obtain⟨t,rfl⟩:=r;exact formatField_str (λt' tk=>⟨hz,z (acc++y) pins _ σ H1 Q (F.tok tk) q⟩) M
def HN(j:PE X e te)(z:UU X es u):UU X (.FormattedValue e (-1) none pos::es)<|aak te u:=by intro acc pins s σ H Q I h;refine joinParts_cons<|FormattedValue_plain<|eF (j pins s σ H _ I h) λw M⟨v,H1,F,r,i,J,hi,hz,q⟩=>?_;subst J;obtain⟨t,rfl⟩:=r;exact formatField_int_small hi ⟨hz,z _ pins _ σ H1 Q (F.tok _) q⟩
def UW(u:Str->TE):TE:=u Str.empty
def Ci(h:UU X (v1::v2::es) u):PE X (.JoinedStr (v1::v2::es) pos)<|UW u:=λpins s σ H Q I q=>JoinedStr_many<|h Str.empty pins s σ H Q I q
def cz(q:u Str.empty σ H Q):UW u σ H Q:=q
def Cj(h:acc.length<=sizeLine)(q:Q (.str acc) H):aah acc σ H Q:=⟨h,q⟩
def lB(h:(acc++z).length<=sizeLine)(q:u (acc++z) σ H Q):aai z u acc σ H Q:=⟨h,q⟩
def qFS(acc:Str)(u:Str->TE)(σ:L2.St)(v:V)(H1:Hp)(Q:VK):Prop:=∃y,v=.str y/\y.length<=sizeLine/\(acc++y).length<=sizeLine/\u (acc++y) σ H1 Q
def qFI(acc:Str)(u:Str->TE)(σ:L2.St)(v:V)(H1:Hp)(Q:VK):Prop:=∃i:Int,v=.int i/\i.natAbs.log2<1920/\(acc++Str.ofString (toString i)).length<=sizeLine/\u (acc++Str.ofString (toString i)) σ H1 Q
def cA(q:te σ H λv H1=>qFS acc u σ v H1 Q):aaj te u acc σ H Q:=q
def cB(q:te σ H λv H1=>qFI acc u σ v H1 Q):aak te u acc σ H Q:=q
def nZ(h:y.length<=sizeLine)(h2:(acc++y).length<=sizeLine)(q:u (acc++y) σ H Q):qFS acc u σ (.str y) H Q:=⟨y,rfl,h,h2,q⟩
def O0(h:i.natAbs.log2<1920)(h2:(acc++Str.ofString (toString i)).length<=sizeLine)(q:u (acc++Str.ofString (toString i)) σ H Q):qFI acc u σ (.int i) H Q:=⟨i,rfl,h,h2,q⟩
end
end L2
namespace L2
open PySem PySem.Spec PyProof.Rows
open AutoSeq1 (wpAny_loadPart')
def O1(a b:Value):checkTypeCall "enumerate" ⟨[a,b],[]⟩=pure ():=by kernel_rfl
def O2(a b:Value):checkBuiltinCall "enumerate.__new__" ⟨[.type "enumerate",a,b],[]⟩=pure ():=by kernel_rfl
def LU(l:Addr)(its:BA)(n:Nat)(z:Option Addr)(J:Array BJ)(t:Tok):
  Meets (Builtin.«enumerate.__new__» ⟨[.type "enumerate",.ref l,.int 1 t],[]⟩) (λ_ R s=>s.heap.get? l=some {cls:=.type "list",dict:=z,data:=.seq its n,slots:=J}/\
   R (.ok (.ret (.ref (s.heap.push {cls:=.type "list_iterator",data:=.fields #[.ref l,.int 0 0]}).objs.size)))
     {s with heap:=(s.heap.push {cls:=.type "list_iterator",data:=.fields #[.ref l,.int 0 0]}).push {cls:=.type "enumerate",data:=.fields #[.none,.bool false,.ref s.heap.objs.size,rawInt 1,.none,.none]}}):=
 .of_wp λprog w A R s h=>by
  obtain⟨M,g,d,tk,os⟩:=s;obtain⟨j,h⟩:=h;have F:=sub_enumerate;have I:Heap.IsList (Shared.heap ⟨M,g,d,tk,os⟩) l its:=⟨_,j,rfl,n,rfl⟩
  wp_walk using wpAny_loadPart' j
  refine wpAny_stack_any λst=>er ?_;split
  .rename_i c _ _ _ _ _;cases(c==Value.type "enumerate")<;>(wp_walk using wpAny_loadPart' j,Ic I;exact⟨_,rfl,h⟩)
  .wp_walk using wpAny_loadPart' j,Ic I
   exact⟨_,rfl,h⟩
section
variable{prog:Program}{w:World}{A:Around}{E:Bd}{s:Shared}
def HP(S:s.heap.IsList l its)
  (h:∀h',IsEnum h' (s.heap.objs.size+1) s.heap.objs.size 1 .none->h'.IsListIter s.heap.objs.size l 0->(∀b o,s.heap.get? b=some o->h'.get? b=some o)->Q (.ref<|s.heap.objs.size+1) {s with heap:=h'}):
  wpAny (model prog w) A (call (.type "enumerate") [.ref l,.int 1 t]) Q E s:=by
 obtain⟨⟨c,j,Z,U⟩,W,I,n,hd⟩:=S;simp only at I hd;subst I hd;refine callType_new F.called_enumerate (by decide) (O1 _ _) (O2 _ _) (λobj=>F.args_object_init_3 obj _ _) F.entry_enumerate_new (LU l its n j U t) ⟨W,?_⟩;generalize z:s.heap.push {cls:=.type "list_iterator",data:=.fields #[.ref l,.int 0 0]}=g;have J:g.objs.size=s.heap.objs.size+1:=by rw[<-z];exact vr ..
 have i1:g.get? s.heap.objs.size=some {cls:=.type "list_iterator",data:=.fields #[.ref l,.int 0 0]}:=by rw[<-z];exact m8 _ rfl
 have Y:∀b o,s.heap.get? b=some o->g.get? b=some o:=λb o e=>by rw[<-z];exact et _ e
 have M:IsEnum (g.push {cls:=.type "enumerate",data:=.fields #[.none,.bool false,.ref s.heap.objs.size,rawInt 1,.none,.none]}) (s.heap.objs.size+1) s.heap.objs.size 1 .none:=by rw[<-J];exact m8 _ rfl
 rw[J];exact⟨⟨_,M,rfl⟩,h _ M ⟨_,et _ i1,rfl,rfl⟩ λb o x=>et _<|Y b o x⟩
def WB(F:A.handled=none)(it l:Addr)(z:l≠it)(its:BA):
  Draws prog w A it [it,l] (its.size+1) (λi v=>1<=i/\its[i-1]?=some v) (λi h=>1<=i/\h.IsListIter it l (i-1)/\h.IsList l its):=by
 have D:=Draws.list (prog:=prog) (w:=w) F it l z its;refine⟨λi h st=>D.live (i-1) h st.2,λi h h' st k=>⟨st.1,D.frame (i-1) h h' st.2 k⟩,λi s Q E hi st I=>?_,λs Q E st J=>?_⟩
 .refine D.item (i-1) s Q E (by lia) st.2 λx h' tk M j S=>I x h' tk ⟨(st.1),M⟩ ?_ S;have e:i-1+1=i+1-1:=by lia
  rw[e]at j;exact⟨by lia,j⟩
 .exact D.done s Q E st.2 J
end
def LV(K:cn)(a:Addr):It:=⟨λi H=>B_ λ(xs:List V)(x:V)=>az K H a xs/\xs[i]?=some x,λi H v H'=>B_ λT x=>v=.ref T/\H T=none/\H'=upd H T (.tup [.int ((i+1:Nat):Int),x])/\∀xs,az K H a xs->xs[i]?=some x,λi H=>∃xs:List V,az K H a xs/\xs.length<=i⟩
def HQ{P:Program}{K:cn}{kk:Nat}(a e it:Addr):
  Turn P w K (.Tuple elts kk jH) (LV K a) [e,it] e (λi h=>(∃J,IsEnum h e it ((i+1:Nat):Int) J)/\h.IsListIter it a i/\e≠it) where
 mem:=by simp
 obj:=λi h st b U=>by
  obtain⟨⟨J,Y⟩,⟨o,ho,_,hd⟩,_⟩:=st;rcases(show b=e\/b=it by simpa using U)with z|z
  .rw[z];exact⟨_,Y,(λv q=>nomatch q)⟩
  .rw[z];exact⟨o,ho,(λv q=>by rw[hd]at q;cases q)⟩
 keep:=λi h h' st k=>⟨st.1.imp λJ q=>k e (by simp) _ q,st.2.1.at λo q=>k it (by simp) o q,st.2.2⟩
 item:=by
  intro X hP hw hK hc i pins s σ H E I hf st hg;subst hP hw hK;obtain⟨⟨J,Y⟩,M,S⟩:=st;obtain⟨xs,x,hq,hx⟩:=hg;obtain⟨its,rv,p,hz⟩:=I.list hq;obtain⟨u,hu,ru⟩:=rv.get hx;have rg:=ky Y;have Ng:it<s.heap.objs.size:=by obtain⟨_,q,_⟩:=M;exact ky q
  have j:=p.isList;have nai:a≠it:=by intro z;obtain⟨o1,q1,q2,_⟩:=M;obtain⟨o2,q3,q4,_⟩:=j;rw[z,q1]at q3;cases q3;rw[q2]at q4;exact absurd (Q7 q4) (by decide)
  have nea:e≠a:=by intro z;obtain⟨o2,q3,q4,_⟩:=j;rw[<-z,Y]at q3;cases q3;exact absurd (Q7 q4) (by decide)
  have hi:i<its.toArray.size:=by simpa using(l4.mp hu).1
  refine wpAny_pyNext_enum_itemD (i:=i+1) (WB (A:=X.A.in1) (I.ok.hd hc) it a nai its.toArray) Y ⟨by lia,by simpa using M,j⟩ (by lia) S (by simp[S,nea]) λx' h' tk hp ho Wh hT hsz hk=>?_;have ex:x'=u:=by have:=hp.2;simp at this;rw[hu]at this;exact(ri this).symm
  subst ex;refine⟨_,rfl,wpAny_letOwnedTupleGo_enum (s:={s with heap:=h',toks:=tk+1}) ho λZ He sb=>?_⟩;have AQ:Z.get? s.heap.objs.size=some {cls:=.type "tuple",data:=.seq #[.int ((i+1:Nat):Int) tk,x']}:=(sb.2 _<|B2 rg).trans hT;have new:eh X.prog X.w (upd H s.heap.objs.size (.tup [.int ((i+1:Nat):Int),x])) Z s.heap.objs.size (.tup [.int ((i+1:Nat):Int),x]):=⟨by show 2<=sizeLine;decide,[.int ((i+1:Nat):Int) tk,x'],.cons ⟨_,rfl⟩ (.cons ru .nil),⟨_,AQ,rfl,_,rfl⟩⟩;have I1:Inv X pins σ (upd H s.heap.objs.size (.tup [.int ((i+1:Nat):Int),x])) {s with heap:=Z,toks:=tk+1}:=I.lS (ch:=[e,it]) (λb ob U q=>(sb.2 b λz=>U<|by simp[z]).trans<|hk b ob (λz=>U<|by simp[z]) (λz=>U<|by simp[z]) q) hf (ez _) new;refine⟨.ref s.heap.objs.size,_,I1,rfl,⟨_,x,rfl,I.c7.fresh<|ez _,rfl,λys hy=>by rw[I.iE hy hq];exact hx⟩,⟨⟨x',?_⟩,?_,S⟩,λb U=>?_⟩
  .have e1:((i+1+1:Nat):Int)=((i+1:Nat):Int)+1:=by lia
   rw[e1];exact He
  .have:=Wh.2.1;simp at this;exact this.at λo q=>(sb.2 it<|iq S).trans q
  .have uZ:b<s.heap.objs.size:=by rcases(show b=e\/b=it by simpa using U)with z|z<;>rw[z]<;>assumption
   rw[aL<|nP uZ];exact(hf b U).1
 done:=by intro X hP hw hK hc i pins s σ H E I hf st hg;subst hP hw hK;obtain⟨⟨J,Y⟩,M,S⟩:=st;obtain⟨xs,hq,hx⟩:=hg;obtain⟨its,rv,p,hz⟩:=I.list hq;obtain⟨f0,f1,f2,f3,f4,f5⟩:=hf it (by simp);have hl:=rv.length;have hT:s.TypeIs (.ref e) "enumerate":=⟨_,Y,rfl⟩;unfold pyNext;refine a0<|Q6<|O3 (name:=Str.ofString "__next__") hT F.slot_enumerate_next<|Ma F.slot_enumerate_next hT F.entry_enumerate_next ?_<|F.args_enumerate_next_1 _;show wpAny _ _ (field (.ref e) 2>>=_) _ _ _;refine a0<|wx Y rfl (x:=.ref it) rfl<|a0<|wpAny_nextOf_list_end (I.ok.hd hc) M p.isList (by simp;lia) λh' y eb hy=>?_;obtain⟨o,ho,NM⟩:=hy;exact a0 (R8 (T:="StopIteration") (b:=true) ⟨o,ho,NM⟩ isSubtype_stop<|er ⟨rfl,I.turned (t':=s.toks) (λb o U q=>eb b o U q) f0 f1 f3 f4 f5⟩)
 self:=λA i s Q E st h=>let⟨⟨_,Y⟩,_⟩:=st;YL Y h
def qE1(K:cn)(vs:List V)(H:Hp)(R:It->Hp->Prop):Prop:=B_ λa xs=>vs=[.ref a,.int 1]/\az K H a xs/\R (LV K a) H
def O4(K:cn)(ta:TA):TI:=λσ H R=>ta σ H λvs H1=>qE1 K vs H1 R
def LW(K:cn){X:Cx}{ta:TA}{J:List Expr}(hm:X.mg "enumerate"=none)(ha:PA X [e,F] ta)(hK:X.K=K)(hg:Gl X "enumerate")
  (hs:starEach [e,F] X.env=(false,eval e X.env)::starEach [F] X.env)(U:(backTo pos<|starEach [F] X.env).any (·.1)=false):
  PI X (.Tuple J kk jH) (.Call (.Name "enumerate" p) [e,F] [] pos) (O4 K ta):=by
 subst hK;intro pins s σ H R I h;refine Call_<|iD I hg hm boot_enumerate<|HK (eF (ha pos pins s σ H _ I h) λus j⟨vs,H1,S,r1,q1⟩=>?_) hs U;obtain⟨a,xs,ex,hq,q⟩:=q1;subst ex;cases r1 with
 |cons r Y=>
  cases Y with
  |cons r' Y=>
   cases Y;cases r;obtain⟨t',rfl⟩:=r';obtain⟨its,rv,p',hz⟩:=S.list hq;refine HP p'.isList λh' he Z hk=>YL he ?_;have I2:=S.kept (t':=j.toks) hk;refine⟨j.heap.objs.size+1,[j.heap.objs.size+1,j.heap.objs.size],_,_,H1,rfl,I2,HQ a (j.heap.objs.size+1) j.heap.objs.size,⟨⟨.none,he⟩,Z,Nat.succ_ne_self _⟩,λb hb=>?_,q⟩;have M:j.heap.objs.size<=b:=by
    rcases(show b=j.heap.objs.size+1\/b=j.heap.objs.size by simpa using hb)with z|z
    .rw[z];exact Rb _
    .rw[z];exact ez _
   exact S.qe M<|S.c7.fresh M
def a9{K:cn}(q:ta σ H λvs H1=>qE1 K vs H1 R):O4 K ta σ H R:=q
def bf{K:cn}(h:az K H a xs)(q:R (LV K a) H):qE1 K [.ref a,.int 1] H R:=⟨a,xs,rfl,h,q⟩
end L2
namespace L2
open PySem PySem.Spec PyProof.Rows
def e9(b:Bool)(h:Heap)(it l:Addr)(i:Nat):Prop:=if b=true then h.IsListIter it l i else h.IsTupleIter it l i
def pE(b:Bool)(h:Heap)(l:Addr)(items:BA):Prop:=if b=true then h.IsList l items else h.IsTuple l items
def e9.up(x:e9 b h it l i)(k:∀o,h.get? it=some o->h'.get? it=some o):e9 b h' it l i:=by
 cases b with
 |true=>obtain⟨o,j,r⟩:=x;exact⟨o,k o j,r⟩
 |false=>obtain⟨o,j,r⟩:=x;exact⟨o,k o j,r⟩
def pE.up(x:pE b h l items)(k:∀o,h.get? l=some o->h'.get? l=some o):pE b h' l items:=by
 cases b with
 |true=>obtain⟨o,j,r⟩:=x;exact⟨o,k o j,r⟩
 |false=>obtain⟨o,j,r⟩:=x;exact⟨o,k o j,r⟩
def e9.obj(x:e9 b h it l i):∃o,h.get? it=some o/\∀v,o.data≠.cell v:=by
 cases b with
 |true=>obtain⟨o,j,_,hd⟩:=x;exact⟨o,j,λv q=>by rw[hd]at q;cases q⟩
 |false=>obtain⟨o,j,_,hd⟩:=x;exact⟨o,j,λv q=>by rw[hd]at q;cases q⟩
section
variable{prog:Program}{w:World}{A:Around}{E:Bd}{s:Shared}
def u4(j:s.heap.IsTupleIter it t i)(M:s.heap.IsTuple t items)(S:items[i]?=some x)
  (U:∀h',h'.IsTupleIter it t (i+1)->Heap.SameBut it s.heap h' ->Q x {s with heap:=h'}):wpAny (model prog w) A (Builtin.SmallTypes.nextOf (.ref it)) Q E s:=by
 obtain⟨o,z,W,hd⟩:=id j;obtain⟨Y,I,_,Z,J⟩:=M;refine a0<|O3 j.typeIs anY<|Ma anY j.typeIs F.entry_tuple_iterator_next ?_<|F.args_tuple_iterator_next_1 _;show wpAny _ _ (field (.ref it) 0>>=_) _ _ s;refine a0<|wx z hd (x:=.ref t) rfl ?_;show wpAny _ _ (if(Value.ref t==Value.none)=true then _ else _) _ _ s;rw[c0<|show¬((Value.ref t==Value.none)=true)from rP];show wpAny _ _ (field (.ref it) 1>>=_) _ _ s;refine a0<|wx z hd (x:=.int i 0) rfl ?_;show wpAny _ _ (seqItems? (.ref t)>>=_) _ _ s;refine a0<|yD I J ?_;simp only[t5,S];refine a0<|wpAny_setField z hd (by simp)<|er ⟨x,rfl,er<|U _ ⟨_,R6 _ z<|Obj.isFreed_of_fields<|Obj.data_mapFields hd _,(Obj.cls_mapFields ..).trans W,?_⟩<|Mf ..⟩;rw[Obj.data_mapFields hd];simp[rawInt]
def w4(M:A.handled=none)(j:s.heap.IsTupleIter it t i)(S:s.heap.IsTuple t items)(U:items[i]?=none)
  (W:∀h' e,Heap.ExtBut it s.heap h' ->(∃o,h'.get? e=some o/\o.cls=.type "StopIteration")->E (.ref e) {s with heap:=h'}):wpAny (model prog w) A (Builtin.SmallTypes.nextOf (.ref it)) Q E s:=by
 obtain⟨o,z,Y,hd⟩:=id j;obtain⟨Z,I,_,nl,J⟩:=S;refine a0<|O3 j.typeIs anY<|Ma anY j.typeIs F.entry_tuple_iterator_next ?_<|F.args_tuple_iterator_next_1 _;show wpAny _ _ (field (.ref it) 0>>=_) _ _ s;refine a0<|wx z hd (x:=.ref t) rfl ?_;show wpAny _ _ (if(Value.ref t==Value.none)=true then _ else _) _ _ s;rw[c0<|show¬((Value.ref t==Value.none)=true)from rP];show wpAny _ _ (field (.ref it) 1>>=_) _ _ s;refine a0<|wx z hd (x:=.int i 0) rfl ?_;show wpAny _ _ (seqItems? (.ref t)>>=_) _ _ s;refine a0<|yD I J ?_;simp only[t5,U];refine a0<|Kb<|a0<|wpAny_setField z hd (by simp) ?_;show wpAny _ _ (newExc (.type "StopIteration") []>>=_) _ _ _;refine a0 ?_;simp only[newExc,newTuple];refine a0<|wpAny_newObj_type (a0 (m:=firstArgMember _ _)<|wpAny_of_eq (a:=Value.none) (by first|rfl|(simp only[firstArgMember];rfl))<|wpAny_newObj_type ?_<|by size_fits) (by size_fits);simp only[raiseNew];refine a0<|wpAny_handled ?_;first|rw[show A.in1.handled=none from M]|rw[M]
 exact a0<|er<|wpAny_throw<|W _ _ (((Mf ..).extBut.push _).push _) ⟨_,m8 _ rfl,rfl⟩
def jB(j:e9 b s.heap it l i)(z:pE b s.heap l items)(F:items[i]?=some x)
  (I:∀h',e9 b h' it l (i+1)->Heap.SameBut it s.heap h' ->Q x {s with heap:=h'}):wpAny (model prog w) A (Builtin.SmallTypes.nextOf (.ref it)) Q E s:=by
 cases b with
 |true=>exact wpAny_nextOf_list_item j z F λh' a c=>I h' a c
 |false=>exact u4 j z F λh' a c=>I h' a c
def rO(z:A.handled=none)(j:e9 b s.heap it l i)(F:pE b s.heap l items)(I:items[i]?=none)
  (J:∀h' e,Heap.ExtBut it s.heap h' ->(∃o,h'.get? e=some o/\o.cls=.type "StopIteration")->E (.ref e) {s with heap:=h'}):wpAny (model prog w) A (Builtin.SmallTypes.nextOf (.ref it)) Q E s:=by
 cases b with
 |true=>exact wpAny_nextOf_list_end z j F I J
 |false=>exact w4 z j F I J
def kU(j:s.heap.get? T=some {cls:=.type "tuple",data:=.seq arr})(hz:arr.size<=10)
  (h:∀h',h'.get? T=some {cls:=.type "tuple",data:=.seq<|arr.setIfInBounds k x}->Heap.SameBut T s.heap h' ->Q () {s with heap:=h'}):wpAny (model prog w) A (updateSeq T (·.setIfInBounds k x)) Q E s:=by
 have z:arr.size<=sizeLine:=lp hz (by decide);have F:(arr.setIfInBounds k x).size<=sizeLine+1:=by rw[Array.size_setIfInBounds];exact B8 z
 refine W8 j rfl (h _ ?_<|Mf ..) (_hz':=F);rw[R6 _ j rfl];simp[Obj.mapSeq]
structure Cm(z TI TO i1 i2 l1 l2:Addr):Prop where
 nd:[z,TI,TO,i1,i2].Nodup
 ls:∀l∈[l1,l2],l∉[z,TO,i1,i2]
abbrev iM(h:Heap)(T:Addr)(j z:Value):Prop:=h.get? T=some {cls:=.type "tuple",data:=.seq #[j,z]}
def LX{z TI TO i1 U l1 l2:Addr}{u5 u6:BA}{Q:Bd}(D:Cm z TI TO i1 U l1 l2)(hz:IsZip s.heap z TI TO .none)(lz:iM s.heap TI (.ref i1) (.ref U))(mh:iM s.heap TO a1 a2)(h1:e9 b1 s.heap i1 l1 k)(h2:e9 b2 s.heap U l2 k)(EW:pE b1 s.heap l1 u5)(Hc:pE b2 s.heap l2 u6)(X5:u5[k]?=some W)(hx2:u6[k]?=some x2)
  (hQ:∀h',IsZip h' z TI TO (rawInt s.heap.objs.size)->iM h' TO W x2->e9 b1 h' i1 l1 (k+1)->e9 b2 h' U l2 (k+1)->iM h' s.heap.objs.size W x2->(∀d o,d∉[z,TO,i1,U]->s.heap.get? d=some o->h'.get? d=some o)->Q (.ref s.heap.objs.size) {s with heap:=h'}):
  wpAny (model prog w) A (Builtin.«zip.__next__» ⟨[.ref z],[]⟩) (λfin s'=>∃v,fin=.done (.ret v)/\Q v s') E s:=by
 have nd:=D.nd;simp at nd;obtain⟨⟨WC,j,EX,HR⟩,⟨nTT,nT1,nT2⟩,⟨Ni,J9⟩,Rm⟩:=nd;have c1:=D.ls l1 (by simp);have c2:=D.ls l2 (by simp);simp at c1 c2;show wpAny _ _ (field (.ref z) 2>>=_) _ _ _;refine a0<|wx hz rfl (x:=.bool false) rfl ?_;show wpAny _ _ (field (.ref z) 3>>=_) _ _ _;refine a0<|wx hz rfl (x:=.ref TI) rfl<|a0<|yD lz rfl ?_;show wpAny _ _ (Builtin.SmallTypes.ownedTupleIsFree (.ref z)>>=_) _ _ _;refine a0 ?_;unfold Builtin.SmallTypes.ownedTupleIsFree;refine a0<|wx hz rfl (x:=.none) rfl<|er ?_;simp only[Pt];refine a0<|Kb<|a0<|wx hz rfl (x:=.ref TO) rfl<|a0<|Ey hz (by simp) λg0 EY s0=>?_;replace EY:IsZip g0 z TI TO .ellipsis:=EY;have M:∀d o,d≠z->s.heap.get? d=some o->g0.get? d=some o:=λd o n e=>s0.extBut d o n e;have HS:iM g0 TO a1 a2:=M _ _ (iq j) mh;refine a0 ?_;simp only[Ud,WO,F9,GS];refine a0<|a0<|GA ?_;show wpAny _ _ (Builtin.SmallTypes.nextOf (.ref i1)>>=_) _ _ _;refine a0<|jB (h1.up λo e=>M _ o (iq EX) e) (EW.up λo e=>M _ o c1.1 e) X5 λf1 q1 t1=>er ?_;have Y:iM f1 TO a1 a2:=t1.extBut _ _ Ni HS;refine a0<|yD Y rfl<|a0<|kU Y (by simp) λg1 J s1=>?_;replace J:iM g1 TO W a2:=J;have Rn:IsZip g1 z TI TO .ellipsis:=s1.extBut _ _ j<|t1.extBut _ _ EX EY;have up1:∀d o,d≠z->d≠TO->d≠i1->s.heap.get? d=some o->g1.get? d=some o:=λd o n0 nt m1 e=>s1.extBut d o nt<|t1.extBut d o m1<|M d o n0 e;refine a0<|B6<|er ?_;refine a0<|a0<|GA ?_;show wpAny _ _ (Builtin.SmallTypes.nextOf (.ref U)>>=_) _ _ _;refine a0<|jB (h2.up λo e=>up1 _ o (iq HR) (iq J9) (iq Rm) e) (Hc.up λo e=>up1 _ o c2.1 c2.2.1 c2.2.2.1 e) hx2 λf2 q2 t2=>er ?_;have Z:iM f2 TO W a2:=t2.extBut _ _ J9 J;refine a0<|yD Z rfl<|a0<|kU Z (by simp) λF I s2=>?_;replace I:iM F TO W x2:=I;have UY:IsZip F z TI TO .ellipsis:=s2.extBut _ _ j<|t2.extBut _ _ HR Rn;have SH:∀d o,d≠z->d≠TO->d≠i1->d≠U->s.heap.get? d=some o->F.get? d=some o:=λd o n0 nt m1 m2 e=>s2.extBut d o nt<|t2.extBut d o m2<|up1 d o n0 nt m1 e;refine a0<|B6<|er<|er ?_;refine a0<|yD I rfl<|a0<|wpAny_newTuple ?_;have hsz:F.objs.size=s.heap.objs.size:=by rw[s2.1,t2.1,s1.1,t1.1,s0.1]
 have r1:e9 b1 F i1 l1<|k+1:=q1.up λo e=>s2.extBut _ _ (iq Ni)<|t2.extBut _ _ (Rm)<|s1.extBut _ _ (iq Ni) e;have r2:e9 b2 F U l2<|k+1:=q2.up λo e=>s2.extBut _ _ (iq J9) e;have zlt:z<F.objs.size:=ky UY;show wpAny _ _ (Builtin.SmallTypes.ownedTupleHandOut (.ref z) (.ref F.objs.size)>>=_) _ _ _;refine a0 ?_;unfold Builtin.SmallTypes.ownedTupleHandOut;have hzp:IsZip (F.push {cls:=.type "tuple",data:=.seq #[W,x2]}) z TI TO .ellipsis:=et _ UY;refine a0<|Ey hzp (by simp) λu1 O5 v1=>?_;replace O5:IsZip u1 z TI TO<|rawInt F.objs.size:=O5;refine Ey O5 (by simp) λu2 S v2=>?_;replace S:IsZip u2 z TI TO<|rawInt F.objs.size:=S;have up:∀d o,d≠z->F.get? d=some o->u2.get? d=some o:=λd o n e=>v2.extBut _ _ n<|v1.extBut _ _ n<|et _ e;have AQ:iM u2 F.objs.size W x2:=v2.extBut _ _ (B2 zlt)<|v1.extBut _ _ (B2 zlt)<|m8 _ rfl;rw[hsz]at S AQ;refine er ⟨_,rfl,?_⟩;show Q (.ref F.objs.size) _;rw[hsz];refine hQ u2 S (up _ _ (iq j) I) (r1.up λo e=>up _ o (iq EX) e) (r2.up λo e=>up _ o (iq HR) e) AQ λd o n e=>?_;simp only[eH,u7,t6,y3]at n;exact up d o n.1<|SH d o n.1 n.2.1 n.2.2.1 n.2.2.2 e
def O6{b1 b2:Bool}{z TI TO i1 i2 l1 l2:Addr}(hh:A.handled=none)(D:Cm z TI TO i1 i2 l1 l2)(hz:IsZip s.heap z TI TO .none)(lz:iM s.heap TI (.ref i1) (.ref i2))(mh:iM s.heap TO a1 a2)(h1:e9 b1 s.heap i1 l1 k)(h2:e9 b2 s.heap i2 l2 k)(EW:pE b1 s.heap l1 u5)(Hc:pE b2 s.heap l2 u6)(BX:u5[k]?=none\/u6[k]?=none)
  (hE:∀h' e,(∀d o,d∉[z,TO,i1,i2]->s.heap.get? d=some o->h'.get? d=some o)->(∃o,h'.get? e=some o/\o.cls=.type "StopIteration")->E (.ref e) {s with heap:=h'}):wpAny (model prog w) A (Builtin.«zip.__next__» ⟨[.ref z],[]⟩) Q E s:=by
 have nd:=D.nd;simp at nd;obtain⟨⟨WC,W,S,HR⟩,⟨nTT,nT1,nT2⟩,⟨Ni,J9⟩,Rm⟩:=nd;have c1:=D.ls l1 (by simp);have c2:=D.ls l2 (by simp);simp only[eH,u7,t6,y3]at c1 c2;show wpAny _ _ (field (.ref z) 2>>=_) _ _ _;refine a0<|wx hz rfl (x:=.bool false) rfl ?_;show wpAny _ _ (field (.ref z) 3>>=_) _ _ _;refine a0<|wx hz rfl (x:=.ref TI) rfl<|a0<|yD lz rfl ?_;show wpAny _ _ (Builtin.SmallTypes.ownedTupleIsFree (.ref z)>>=_) _ _ _;refine a0 ?_;unfold Builtin.SmallTypes.ownedTupleIsFree;refine a0<|wx hz rfl (x:=.none) rfl<|er ?_;simp only[Pt];refine a0<|Kb<|a0<|wx hz rfl (x:=.ref TO) rfl<|a0<|Ey hz (by simp) λg0 U s0=>?_;replace U:IsZip g0 z TI TO .ellipsis:=U;have j:∀d o,d≠z->s.heap.get? d=some o->g0.get? d=some o:=λd o n e=>s0.extBut d o n e;have HS:iM g0 TO a1 a2:=j _ _ (iq W) mh;refine a0 ?_;simp only[Ud,WO,F9,GS];refine a0<|a0<|GA ?_;show wpAny _ _ (Builtin.SmallTypes.nextOf (.ref i1)>>=_) _ _ _;rcases e1:u5[k]? with _|x1
 .refine a0<|rO hh (h1.up λo e=>j _ o (iq S) e) (EW.up λo e=>j _ o c1.1 e) e1 λf x sf hx=>?_;obtain⟨oe,F,I⟩:=hx;have J:IsZip f z TI TO .ellipsis:=sf _ _ S U;have SI:x≠z:=λq=>by subst q;rw[J]at F;cases F;simp at I
  refine Ey J (by simp) λf2 _ M=>hE f2 x (λd o n e=>?_) ⟨oe,M.extBut _ _ SI F,I⟩;simp only[eH,u7,t6,y3]at n;exact M.extBut _ _ n.1<|sf _ _ (n.2.2.1)<|j d o n.1 e
 refine a0<|jB (h1.up λo e=>j _ o (iq S) e) (EW.up λo e=>j _ o c1.1 e) e1 λf1 q1 t1=>er ?_;have Y:iM f1 TO a1 a2:=t1.extBut _ _ Ni HS;refine a0<|yD Y rfl<|a0<|kU Y (by simp) λg1 Z s1=>?_;replace Z:iM g1 TO x1 a2:=Z;have Rn:IsZip g1 z TI TO .ellipsis:=s1.extBut _ _ W<|t1.extBut _ _ S U;have up1:∀d o,d≠z->d≠TO->d≠i1->s.heap.get? d=some o->g1.get? d=some o:=λd o n0 nt m1 e=>s1.extBut d o nt<|t1.extBut d o m1<|j d o n0 e;refine a0<|B6<|er ?_;refine a0<|a0<|GA ?_;show wpAny _ _ (Builtin.SmallTypes.nextOf (.ref i2)>>=_) _ _ _;rcases e2:u6[k]? with _|x2
 .refine a0<|rO hh (h2.up λo e=>up1 _ o (iq HR) (iq J9) (iq Rm) e) (Hc.up λo e=>up1 _ o c2.1 c2.2.1 c2.2.2.1 e) e2 λf x sf hx=>?_;obtain⟨oe,F,I⟩:=hx;have J:IsZip f z TI TO .ellipsis:=sf _ _ HR Rn;have SI:x≠z:=λq=>by subst q;rw[J]at F;cases F;simp at I
  refine Ey J (by simp) λf2 _ M=>hE f2 x (λd o n e=>?_) ⟨oe,M.extBut _ _ SI F,I⟩;simp only[eH,u7,t6,y3]at n;exact M.extBut _ _ n.1<|sf _ _ (n.2.2.2)<|up1 d o n.1 n.2.1 n.2.2.1 e
 .exfalso;rcases BX with q|q
  .rw[e1]at q;cases q
  .rw[e2]at q;cases q
structure Co(z TI TO i1 i2 i3 l1 l2 l3:Addr):Prop where
 nd:[z,TI,TO,i1,i2,i3].Nodup
 ls:∀l∈[l1,l2,l3],l∉[z,TO,i1,i2,i3]
abbrev gC(h:Heap)(T:Addr)(j z F:Value):Prop:=h.get? T=some {cls:=.type "tuple",data:=.seq #[j,z,F]}
def LY{z TI TO i1 U i3 l1 l2 l3:Addr}{u5 u6 Nj:BA}{Q:Bd}(D:Co z TI TO i1 U i3 l1 l2 l3)(hz:IsZip s.heap z TI TO .none)(lz:gC s.heap TI (.ref i1) (.ref U) (.ref i3))(mh:gC s.heap TO a1 a2 a3)(h1:e9 b1 s.heap i1 l1 k)(h2:e9 b2 s.heap U l2 k)(h3:e9 b3 s.heap i3 l3 k)(EW:pE b1 s.heap l1 u5)(Hc:pE b2 s.heap l2 u6)(Ro:pE b3 s.heap l3 Nj)(X5:u5[k]?=some S)(hx2:u6[k]?=some x2)(hx3:Nj[k]?=some x3)
  (hQ:∀h',IsZip h' z TI TO (rawInt s.heap.objs.size)->gC h' TO S x2 x3->e9 b1 h' i1 l1 (k+1)->e9 b2 h' U l2 (k+1)->e9 b3 h' i3 l3 (k+1)->gC h' s.heap.objs.size S x2 x3->(∀d o,d∉[z,TO,i1,U,i3]->s.heap.get? d=some o->h'.get? d=some o)->Q (.ref s.heap.objs.size) {s with heap:=h'}):
  wpAny (model prog w) A (Builtin.«zip.__next__» ⟨[.ref z],[]⟩) (λfin s'=>∃v,fin=.done (.ret v)/\Q v s') E s:=by
 have nd:=D.nd;simp at nd;obtain⟨⟨WC,j,EX,HR,X6⟩,⟨nTT,nT1,nT2,nT3⟩,⟨W,Y,nO3⟩,⟨Rm,n13⟩,n23⟩:=nd;have c1:=D.ls l1 (by simp);have c2:=D.ls l2 (by simp);have c3:=D.ls l3 (by simp);simp at c1 c2 c3;show wpAny _ _ (field (.ref z) 2>>=_) _ _ _;refine a0<|wx hz rfl (x:=.bool false) rfl ?_;show wpAny _ _ (field (.ref z) 3>>=_) _ _ _;refine a0<|wx hz rfl (x:=.ref TI) rfl<|a0<|yD lz rfl ?_;show wpAny _ _ (Builtin.SmallTypes.ownedTupleIsFree (.ref z)>>=_) _ _ _;refine a0 ?_;unfold Builtin.SmallTypes.ownedTupleIsFree;refine a0<|wx hz rfl (x:=.none) rfl<|er ?_;simp only[Pt];refine a0<|Kb<|a0<|wx hz rfl (x:=.ref TO) rfl<|a0<|Ey hz (by simp) λg0 EY s0=>?_;replace EY:IsZip g0 z TI TO .ellipsis:=EY;have Z:∀d o,d≠z->s.heap.get? d=some o->g0.get? d=some o:=λd o n e=>s0.extBut d o n e;have HS:gC g0 TO a1 a2 a3:=Z _ _ (iq j) mh;refine a0 ?_;simp only[Ud,WO,F9,GS];refine a0<|a0<|GA ?_;show wpAny _ _ (Builtin.SmallTypes.nextOf (.ref i1)>>=_) _ _ _;refine a0<|jB (h1.up λo e=>Z _ o (iq EX) e) (EW.up λo e=>Z _ o c1.1 e) X5 λf1 q1 t1=>er ?_;have w6:gC f1 TO a1 a2 a3:=t1.extBut _ _ W HS;refine a0<|yD w6 rfl<|a0<|kU w6 (by simp) λg1 J s1=>?_;replace J:gC g1 TO S a2 a3:=J;have Rn:IsZip g1 z TI TO .ellipsis:=s1.extBut _ _ j<|t1.extBut _ _ EX EY;have up1:∀d o,d≠z->d≠TO->d≠i1->s.heap.get? d=some o->g1.get? d=some o:=λd o n0 nt m1 e=>s1.extBut d o nt<|t1.extBut d o m1<|Z d o n0 e;refine a0<|B6<|er ?_;refine a0<|a0<|GA ?_;show wpAny _ _ (Builtin.SmallTypes.nextOf (.ref U)>>=_) _ _ _;refine a0<|jB (h2.up λo e=>up1 _ o (iq HR) (iq Y) (iq Rm) e) (Hc.up λo e=>up1 _ o c2.1 c2.2.1 c2.2.2.1 e) hx2 λf2 q2 t2=>er ?_;have EZ:gC f2 TO S a2 a3:=t2.extBut _ _ Y J;refine a0<|yD EZ rfl<|a0<|kU EZ (by simp) λg2 M s2=>?_;replace M:gC g2 TO S x2 a3:=M;have UY:IsZip g2 z TI TO .ellipsis:=s2.extBut _ _ j<|t2.extBut _ _ HR Rn;have SH:∀d o,d≠z->d≠TO->d≠i1->d≠U->s.heap.get? d=some o->g2.get? d=some o:=λd o n0 nt m1 m2 e=>s2.extBut d o nt<|t2.extBut d o m2<|up1 d o n0 nt m1 e;refine a0<|B6<|er ?_;refine a0<|a0<|GA ?_;show wpAny _ _ (Builtin.SmallTypes.nextOf (.ref i3)>>=_) _ _ _;refine a0<|jB (h3.up λo e=>SH _ o (iq X6) (iq nO3) (iq n13) (iq n23) e) (Ro.up λo e=>SH _ o c3.1 c3.2.1 c3.2.2.1 c3.2.2.2.1 e) hx3 λf3 q3 t3=>er ?_;have aan:gC f3 TO S x2 a3:=t3.extBut _ _ nO3 M;refine a0<|yD aan rfl<|a0<|kU aan (by simp) λF I s3=>?_;replace I:gC F TO S x2 x3:=I;have hz3:IsZip F z TI TO .ellipsis:=s3.extBut _ _ j<|t3.extBut _ _ X6 UY;have up3:∀d o,d≠z->d≠TO->d≠i1->d≠U->d≠i3->s.heap.get? d=some o->F.get? d=some o:=λd o n0 nt m1 m2 m3 e=>s3.extBut d o nt<|t3.extBut d o m3<|SH d o n0 nt m1 m2 e;refine a0<|B6<|er<|er ?_;refine a0<|yD I rfl<|a0<|wpAny_newTuple ?_;have hsz:F.objs.size=s.heap.objs.size:=by rw[s3.1,t3.1,s2.1,t2.1,s1.1,t1.1,s0.1]
 have r1:e9 b1 F i1 l1<|k+1:=q1.up λo e=>s3.extBut _ _ (iq W)<|t3.extBut _ _ (n13)<|s2.extBut _ _ (iq W)<|t2.extBut _ _ (Rm)<|s1.extBut _ _ (iq W) e;have r2:e9 b2 F U l2<|k+1:=q2.up λo e=>s3.extBut _ _ (iq Y)<|t3.extBut _ _ (n23)<|s2.extBut _ _ (iq Y) e;have r3:e9 b3 F i3 l3<|k+1:=q3.up λo e=>s3.extBut _ _ (iq nO3) e;have zlt:z<F.objs.size:=ky hz3;show wpAny _ _ (Builtin.SmallTypes.ownedTupleHandOut (.ref z) (.ref F.objs.size)>>=_) _ _ _;refine a0 ?_;unfold Builtin.SmallTypes.ownedTupleHandOut;have hzp:IsZip (F.push {cls:=.type "tuple",data:=.seq #[S,x2,x3]}) z TI TO .ellipsis:=et _ hz3;refine a0<|Ey hzp (by simp) λu1 O5 v1=>?_;replace O5:IsZip u1 z TI TO<|rawInt F.objs.size:=O5;refine Ey O5 (by simp) λu2 Et v2=>?_;replace Et:IsZip u2 z TI TO<|rawInt F.objs.size:=Et;have up:∀d o,d≠z->F.get? d=some o->u2.get? d=some o:=λd o n e=>v2.extBut _ _ n<|v1.extBut _ _ n<|et _ e;have AQ:gC u2 F.objs.size S x2 x3:=v2.extBut _ _ (B2 zlt)<|v1.extBut _ _ (B2 zlt)<|m8 _ rfl;rw[hsz]at Et AQ;refine er ⟨_,rfl,?_⟩;show Q (.ref F.objs.size) _;rw[hsz];refine hQ u2 Et (up _ _ (iq j) I) (r1.up λo e=>up _ o (iq EX) e) (r2.up λo e=>up _ o (iq HR) e) (r3.up λo e=>up _ o (iq X6) e) AQ λd o n e=>?_;simp only[eH,u7,t6,y3]at n;exact up d o n.1<|up3 d o n.1 n.2.1 n.2.2.1 n.2.2.2.1 n.2.2.2.2 e
def O7{b1 b2 b3:Bool}{z TI TO i1 i2 i3 l1 l2 l3:Addr}(hh:A.handled=none)(D:Co z TI TO i1 i2 i3 l1 l2 l3)(hz:IsZip s.heap z TI TO .none)(lz:gC s.heap TI (.ref i1) (.ref i2) (.ref i3))(mh:gC s.heap TO a1 a2 a3)(h1:e9 b1 s.heap i1 l1 k)(h2:e9 b2 s.heap i2 l2 k)(h3:e9 b3 s.heap i3 l3 k)(EW:pE b1 s.heap l1 u5)(Hc:pE b2 s.heap l2 u6)(Ro:pE b3 s.heap l3 Nj)(BX:u5[k]?=none\/u6[k]?=none\/Nj[k]?=none)
  (hE:∀h' e,(∀d o,d∉[z,TO,i1,i2,i3]->s.heap.get? d=some o->h'.get? d=some o)->(∃o,h'.get? e=some o/\o.cls=.type "StopIteration")->E (.ref e) {s with heap:=h'}):wpAny (model prog w) A (Builtin.«zip.__next__» ⟨[.ref z],[]⟩) Q E s:=by
 have nd:=D.nd;simp at nd;obtain⟨⟨WC,S,Y,Z,X6⟩,⟨nTT,nT1,nT2,nT3⟩,⟨Ni,J9,nO3⟩,⟨Rm,n13⟩,n23⟩:=nd;have c1:=D.ls l1 (by simp);have c2:=D.ls l2 (by simp);have c3:=D.ls l3 (by simp);simp at c1 c2 c3;show wpAny _ _ (field (.ref z) 2>>=_) _ _ _;refine a0<|wx hz rfl (x:=.bool false) rfl ?_;show wpAny _ _ (field (.ref z) 3>>=_) _ _ _;refine a0<|wx hz rfl (x:=.ref TI) rfl<|a0<|yD lz rfl ?_;show wpAny _ _ (Builtin.SmallTypes.ownedTupleIsFree (.ref z)>>=_) _ _ _;refine a0 ?_;unfold Builtin.SmallTypes.ownedTupleIsFree;refine a0<|wx hz rfl (x:=.none) rfl<|er ?_;simp only[Pt];refine a0<|Kb<|a0<|wx hz rfl (x:=.ref TO) rfl<|a0<|Ey hz (by simp) λg0 EY s0=>?_;replace EY:IsZip g0 z TI TO .ellipsis:=EY;have M:∀d o,d≠z->s.heap.get? d=some o->g0.get? d=some o:=λd o n e=>s0.extBut d o n e;have HS:gC g0 TO a1 a2 a3:=M _ _ (iq S) mh;refine a0 ?_;simp only[Ud,WO,F9,GS];refine a0<|a0<|GA ?_;show wpAny _ _ (Builtin.SmallTypes.nextOf (.ref i1)>>=_) _ _ _;rcases e1:u5[k]? with _|x1
 .refine a0<|rO hh (h1.up λo e=>M _ o (iq Y) e) (EW.up λo e=>M _ o c1.1 e) e1 λf x sf hx=>?_;obtain⟨oe,j,F⟩:=hx;have I:IsZip f z TI TO .ellipsis:=sf _ _ Y EY;have U:x≠z:=λq=>by subst q;rw[I]at j;cases j;simp at F
  refine Ey I (by simp) λf2 _ J=>hE f2 x (λd o n e=>?_) ⟨oe,J.extBut _ _ U j,F⟩;simp only[eH,u7,t6,y3]at n;exact J.extBut _ _ n.1<|sf _ _ (n.2.2.1)<|M d o n.1 e
 refine a0<|jB (h1.up λo e=>M _ o (iq Y) e) (EW.up λo e=>M _ o c1.1 e) e1 λf1 q1 t1=>er ?_;have w6:gC f1 TO a1 a2 a3:=t1.extBut _ _ Ni HS;refine a0<|yD w6 rfl<|a0<|kU w6 (by simp) λg1 W s1=>?_;replace W:gC g1 TO x1 a2 a3:=W;have Rn:IsZip g1 z TI TO .ellipsis:=s1.extBut _ _ S<|t1.extBut _ _ Y EY;have up1:∀d o,d≠z->d≠TO->d≠i1->s.heap.get? d=some o->g1.get? d=some o:=λd o n0 nt m1 e=>s1.extBut d o nt<|t1.extBut d o m1<|M d o n0 e;refine a0<|B6<|er ?_;refine a0<|a0<|GA ?_;show wpAny _ _ (Builtin.SmallTypes.nextOf (.ref i2)>>=_) _ _ _;rcases e2:u6[k]? with _|x2
 .refine a0<|rO hh (h2.up λo e=>up1 _ o (iq Z) (iq J9) (iq Rm) e) (Hc.up λo e=>up1 _ o c2.1 c2.2.1 c2.2.2.1 e) e2 λf x sf hx=>?_;obtain⟨oe,j,F⟩:=hx;have I:IsZip f z TI TO .ellipsis:=sf _ _ Z Rn;have U:x≠z:=λq=>by subst q;rw[I]at j;cases j;simp at F
  refine Ey I (by simp) λf2 _ J=>hE f2 x (λd o n e=>?_) ⟨oe,J.extBut _ _ U j,F⟩;simp only[eH,u7,t6,y3]at n;exact J.extBut _ _ n.1<|sf _ _ (n.2.2.2.1)<|up1 d o n.1 n.2.1 n.2.2.1 e
 refine a0<|jB (h2.up λo e=>up1 _ o (iq Z) (iq J9) (iq Rm) e) (Hc.up λo e=>up1 _ o c2.1 c2.2.1 c2.2.2.1 e) e2 λf2 q2 t2=>er ?_;have EZ:gC f2 TO x1 a2 a3:=t2.extBut _ _ J9 W;refine a0<|yD EZ rfl<|a0<|kU EZ (by simp) λg2 w8 s2=>?_;replace w8:gC g2 TO x1 x2 a3:=w8;have UY:IsZip g2 z TI TO .ellipsis:=s2.extBut _ _ S<|t2.extBut _ _ Z Rn;have SH:∀d o,d≠z->d≠TO->d≠i1->d≠i2->s.heap.get? d=some o->g2.get? d=some o:=λd o n0 nt m1 m2 e=>s2.extBut d o nt<|t2.extBut d o m2<|up1 d o n0 nt m1 e;refine a0<|B6<|er ?_;refine a0<|a0<|GA ?_;show wpAny _ _ (Builtin.SmallTypes.nextOf (.ref i3)>>=_) _ _ _;rcases e3:Nj[k]? with _|x3
 .refine a0<|rO hh (h3.up λo e=>SH _ o (iq X6) (iq nO3) (iq n13) (iq n23) e) (Ro.up λo e=>SH _ o c3.1 c3.2.1 c3.2.2.1 c3.2.2.2.1 e) e3 λf x sf hx=>?_;obtain⟨oe,j,F⟩:=hx;have I:IsZip f z TI TO .ellipsis:=sf _ _ X6 UY;have U:x≠z:=λq=>by subst q;rw[I]at j;cases j;simp at F
  refine Ey I (by simp) λf2 _ J=>hE f2 x (λd o n e=>?_) ⟨oe,J.extBut _ _ U j,F⟩;simp only[eH,u7,t6,y3]at n;exact J.extBut _ _ n.1<|sf _ _ (n.2.2.2.2)<|SH d o n.1 n.2.1 n.2.2.1 n.2.2.2.1 e
 .exfalso;rcases BX with q|q|q
  .rw[e1]at q;cases q
  .rw[e2]at q;cases q
  .rw[e3]at q;cases q
end
def SK(a b c:Value):checkTypeCall "zip" ⟨[a,b,c],[]⟩=pure ():=by kernel_rfl
def SM(a b c:Value):checkBuiltinCall "zip.__new__" ⟨[.type "zip",a,b,c],[]⟩=pure ():=by kernel_rfl
def SN(a b c d:Value):argsOk "object.__init__" ⟨[a,b,c,d],[]⟩:=by unfold argsOk;rw[signature?_of (n:=['_', '_', 't', 'i', 'n', 'i', '_', '_']) (o:=['t', 'c', 'e', 'j', 'b', 'o']) (by kernel_rfl) F.owner_object];kernel_rfl
abbrev X7(b:Bool)(l:Addr):Obj:={cls:=.type (if b=true then"list_iterator" else"tuple_iterator"),data:=.fields #[.ref l,.int 0 0]}
def e9.new(e:h.get? it=some (X7 b l)):e9 b h it l 0:=by
 cases b with
 |true=>exact⟨_,e,rfl,rfl⟩
 |false=>exact⟨_,e,rfl,rfl⟩
def qo(x:IsTup h a items):h.IsTuple a items:=let⟨o,e,c,n,d⟩:=x;⟨o,e,c,n,d⟩
abbrev SO(h:Heap)(j z:Addr):Heap:=(h).push {cls:=.type "list_iterator",data:=.fields #[.ref j,.int 0 0]}
abbrev SQ(h:Heap)(z j:Addr):Heap:=(SO h z j).push {cls:=.type "tuple_iterator",data:=.fields #[.ref j,.int 0 0]}
abbrev SR(h:Heap)(j z:Addr):Heap:=(SQ h j z).push {cls:=.type "tuple",data:=.seq #[.ref h.objs.size,.ref (SO h j z).objs.size]}
abbrev SS(h:Heap)(j z:Addr):Heap:=(SR h j z).push {cls:=.type "tuple",data:=.seq #[.none,.none]}
abbrev LZ(h:Heap)(j z:Addr):Heap:=(SS h j z).push {cls:=.type "zip",data:=.fields #[.none,.bool false,.bool false,.ref (SQ h j z).objs.size,.ref (SR h j z).objs.size]}
def L0(j z:Addr)(F I:BA):Meets (Builtin.«zip.__new__» ⟨[.type "zip",.ref j,.ref z],[]⟩) λ_ R s=>s.heap.IsList j F/\s.heap.IsTuple z I/\R (.ok (.ret (.ref (SS s.heap j z).objs.size))) {s with heap:=LZ s.heap j z}:=
 .of_wp λprog w A R s h=>by
  obtain⟨J,g,d,tk,os⟩:=s;obtain⟨S,U,h⟩:=h;have M:=sub_zip;have W:Heap.IsList (Shared.heap ⟨J,g,d,tk,os⟩) j F:=let⟨o,e,r⟩:=S;⟨o,(e),r⟩;have L2:Heap.IsTuple (Shared.heap ⟨J.push {cls:=.type "list_iterator",data:=.fields #[.ref j,.int 0 0]},g,d,tk,os⟩) z I:=let⟨o,e,r⟩:=U;⟨o,(et _<|e),r⟩
  wp_walk using Ic W,Z9 L2
  exact⟨_,rfl,h⟩
section
variable{prog:Program}{w:World}{A:Around}{E:Bd}{s:Shared}
def HU(q1:s.heap.IsList j I)(q2:s.heap.IsTuple z J)
  (h:∀h',IsZip h' (s.heap.objs.size+4) (s.heap.objs.size+2) (s.heap.objs.size+3) .none->iM h' (s.heap.objs.size+2) (.ref s.heap.objs.size) (.ref<|s.heap.objs.size+1)->iM h' (s.heap.objs.size+3) .none .none->e9 true h' s.heap.objs.size j 0->e9 false h' (s.heap.objs.size+1) z 0->(∀c o,s.heap.get? c=some o->h'.get? c=some o)->Q (.ref<|s.heap.objs.size+4) {s with heap:=h'}):
  wpAny (model prog w) A (call (.type "zip") [.ref j,.ref z]) Q E s:=by
 refine callType_new F.called_zip (by decide) (F.typeCall_zip_2 _ _) (F.newCall_zip_2 _ _) (λobj=>F.args_object_init_3 obj _ _) F.entry_zip_new (L0 j z I J) ⟨q1,q2,?_⟩;have M:(SO s.heap j z).objs.size=s.heap.objs.size+1:=by rw[vr]
 have S:(SQ s.heap j z).objs.size=s.heap.objs.size+2:=by rw[vr,M]
 have U:(SR s.heap j z).objs.size=s.heap.objs.size+3:=by rw[vr,S]
 have Y:(SS s.heap j z).objs.size=s.heap.objs.size+4:=by rw[vr,U]
 have W:(LZ s.heap j z).get? (SS s.heap j z).objs.size=some _:=m8 _ rfl;have Z:(LZ s.heap j z).get? (SR s.heap j z).objs.size=some _:=et _<|m8 _ rfl;have gI:(LZ s.heap j z).get? (SQ s.heap j z).objs.size=some _:=et _<|et _<|m8 _ rfl;have g1:(LZ s.heap j z).get? s.heap.objs.size=some (X7 true j):=et _<|et _<|et _<|et _<|m8 _ rfl;have g2:(LZ s.heap j z).get? (SO s.heap j z).objs.size=some (X7 false z):=et _<|et _<|et _<|m8 _ rfl;show _/\_;rw[U,S,Y]at W;rw[U]at Z;rw[M,S]at gI;rw[M]at g2;rw[Y];exact⟨⟨_,W,rfl⟩,h _ W gI Z (e9.new g1) (e9.new g2) λc o x=>et _<|et _<|et _<|et _<|et _<|x⟩
end
def O8(K:cn)(a b:Addr):It:=
 ⟨λi H=>D_ λ(xs ys:List V)(x y:V)=>az K H a xs/\ee K H b ys/\xs[i]?=some x/\ys[i]?=some y,
  λi H q H'=>C_ λT x y=>q=.ref T/\H T=none/\H'=upd H T (.tup [x,y])/\(∀xs,az K H a xs->xs[i]?=some x)/\(∀ys,ee K H b ys->ys[i]?=some y),
  λi H=>B_ λ(xs ys:List V)=>az K H a xs/\ee K H b ys/\(xs.length<=i\/ys.length<=i)⟩
def HV{P:Program}{K:cn}{kk:Nat}{z TI TO i1 S a b:Addr}(D:Cm z TI TO i1 S a b):
  Turn P w K (.Tuple elts kk jH) (O8 K a b) [z,TI,TO,i1,S] z (λi h=>IsZip h z TI TO .none/\iM h TI (.ref i1) (.ref S)/\(B_ λp1 p2=>iM h TO p1 p2)/\e9 true h i1 a i/\e9 false h S b i) where
 mem:=by simp
 obj:=λi h st c hc=>by
  obtain⟨hz,j,⟨p1,p2,J⟩,h1,h2⟩:=st;rcases(show c=z\/c=TI\/c=TO\/c=i1\/c=S by simpa using hc)with q|q|q|q|q
  .rw[q];exact⟨_,hz,(λv q=>nomatch q)⟩
  .rw[q];exact⟨_,j,(λv q=>nomatch q)⟩
  .rw[q];exact⟨_,J,(λv q=>nomatch q)⟩
  .rw[q];exact h1.obj
  .rw[q];exact h2.obj
 keep:=λi h h' st k=>by obtain⟨hz,j,⟨p1,p2,J⟩,h1,h2⟩:=st;exact⟨k z (by simp) _ hz,k TI (by simp) _ j,⟨p1,p2,k TO (by simp) _ J⟩,h1.up λo q=>k i1 (by simp) o q,h2.up λo q=>k S (by simp) o q⟩
 item:=by
  intro X hP hw hK hc i pins s σ H E I hf st hg;subst hP hw hK;obtain⟨hz,j,⟨p1,p2,J⟩,h1,h2⟩:=st;obtain⟨xs,ys,x,y,s1,s2,e1,e2⟩:=hg;obtain⟨U,Z,w1,_⟩:=I.list s1;obtain⟨u1,O5,ru1⟩:=Z.get e1;obtain⟨Y,J3,w2,_⟩:=I.tuple s2;obtain⟨u2,Et,V3⟩:=J3.get e2;have UB:=ky hz;have hT:s.TypeIs (.ref z) "zip":=⟨_,hz,rfl⟩;unfold pyNext;refine a0<|Q6<|O3 (name:=Str.ofString "__next__") hT NV<|Ma NV hT Xs (LX D hz j J h1 h2 w1.isList (qo w2) (by simpa using O5) (by simpa using Et) λh' z' ZD UC Wj hT1 hk=>er ?_)<|YH _;refine⟨_,rfl,aoC (s:={s with heap:=h'}) z' λAK ZE sb=>?_⟩;have AQ:AK.get? s.heap.objs.size=some {cls:=.type "tuple",data:=.seq #[u1,u2]}:=(sb.2 _<|B2 UB).trans hT1;have new:eh X.prog X.w (upd H s.heap.objs.size (.tup [x,y])) AK s.heap.objs.size (.tup [x,y]):=⟨by show 2<=sizeLine;decide,[u1,u2],.cons ru1 (.cons V3 (.nil)),⟨_,AQ,rfl,_,rfl⟩⟩;have nd:=D.nd;simp only[nM,eH,u7,t6,y3,F1,ZL,ant]at nd;have I1:Inv X pins σ (upd H s.heap.objs.size (.tup [x,y])) {s with heap:=AK}:=I.lS (t':=s.toks) (ch:=[z,TI,TO,i1,S]) (λc o hb q=>(sb.2 c λM=>hb<|by simp[M]).trans<|hk c o (λM=>hb<|by simp only[eH,u7,t6]at M|-;rcases M with M|M|M|M<;>simp[M]) q) hf (ez _) new;refine⟨.ref s.heap.objs.size,_,I1,rfl,⟨_,x,y,rfl,I.c7.fresh<|ez _,rfl,λl hl=>by rw[I.iE hl s1];exact e1,λl hl=>by rw[I.sU hl s2];exact e2⟩,⟨ZE,?_,⟨u1,u2,?_⟩,UC.up λo q=>(sb.2 _ λq2=>nd.1.2.2.1 q2.symm).trans q,Wj.up λo q=>(sb.2 _ λq2=>nd.1.2.2.2 q2.symm).trans q⟩,λc Hf=>?_⟩
  .exact(sb.2 _ λq=>nd.1.1 q.symm).trans<|hk _ _ (by simp only[eH,u7,t6,y3];exact⟨λq=>nd.1.1 q.symm,nd.2.1.1,nd.2.1.2.1,nd.2.1.2.2⟩) j
  .exact(sb.2 _ λq=>nd.1.2.1 q.symm).trans ZD
  .have iW:c<s.heap.objs.size:=by
    rcases(show c=z\/c=TI\/c=TO\/c=i1\/c=S by simpa using Hf)with q|q|q|q|q
    .rw[q];exact UB
    .rw[q];exact ky j
    .rw[q];exact ky J
    .rw[q];obtain⟨_,e,_⟩:=h1.obj;exact ky e
    .rw[q];obtain⟨_,e,_⟩:=h2.obj;exact ky e
   rw[aL<|nP iW];exact(hf c Hf).1
 done:=by
  intro X hP hw hK hc i pins s σ H E I hf st hg;subst hP hw hK;obtain⟨hz,j,⟨p1,p2,J⟩,h1,h2⟩:=st;obtain⟨xs,ys,s1,s2,BX⟩:=hg;obtain⟨U,Z,w1,_⟩:=I.list s1;have m1:=Z.length;obtain⟨Y,J3,w2,_⟩:=I.tuple s2;have m2:=J3.length;have he:U.toArray[i]?=none\/Y.toArray[i]?=none:=by
   rcases BX with q|q
   .exact .inl (by simp;lia)
   .exact .inr<|(by simp;lia)
  have hT:s.TypeIs (.ref z) "zip":=⟨_,hz,rfl⟩;unfold pyNext;refine a0<|Q6<|O3 (name:=Str.ofString "__next__") hT NV<|Ma NV hT Xs (O6 (I.ok.hd hc) D hz j J h1 h2 w1.isList (qo w2) he λh' e hk He=>?_)<|YH _;obtain⟨o,ho,NM⟩:=He;refine a0<|R8 (T:="StopIteration") (b:=true) ⟨o,ho,NM⟩ isSubtype_stop<|er ⟨rfl,I.iJ (t':=s.toks) (ch:=[z,TI,TO,i1,S]) (λc o hb q=>hk c o (λM=>hb ?_) q) hf⟩;simp only[eH,u7,t6]at M|-;rcases M with M|M|M|M<;>simp[M]
 self:=λA i s Q E st h=>Si st.1 h
def HX(N a b:Nat)(t1:a<N)(z:b<N):Cm (N+4) (N+2) (N+3) (N) (N+1) a b:=by
 have nd:([N+4,N+2,N+3,N,N+1]:AU).Nodup:=by simp only[nM,eH,u7,t6,y3,F1,ZL,ant];lia
 have ls:∀l∈([a,b]:AU),l∉([N+4,N+3,N,N+1]:AU):=by intro l j;simp at j;simp;lia
 exact⟨nd,ls⟩
def aao(K:cn)(vs:List V)(H:Hp)(R:It->Hp->Prop):Prop:=D_ λa b xs ys=>vs=[.ref a,.ref b]/\az K H a xs/\ee K H b ys/\R (O8 K a b) H
def O9(K:cn)(ta:TA):TI:=λσ H R=>ta σ H λvs H1=>aao K vs H1 R
def L4(K:cn){X:Cx}{ta:TA}{J:List Expr}(hm:X.mg "zip"=none)(ha:PA X [e,F] ta)(hK:X.K=K:=by rfl)(hg:Gl X "zip":=by rfl)
  (hs:starEach [e,F] X.env=(false,eval e X.env)::starEach [F] X.env:=by rfl)(Y:(backTo pos<|starEach [F] X.env).any (·.1)=false:=by rfl):PI X (.Tuple J kk jH) (.Call (.Name "zip" p) [e,F] [] pos)<|O9 K ta:=by
 subst hK;intro pins s σ H R I h;refine Call_<|iD I hg hm tD<|HK (eF (ha pos pins s σ H _ I h) λus j⟨vs,H1,M,r1,q1⟩=>?_) hs Y;obtain⟨a,b,xs,ys,ex,d1,d2,q⟩:=q1;subst ex;obtain rfl:us=[Value.ref a,Value.ref b]:=by
  cases r1 with
  |cons ra Z=>cases Z with
   |cons rb Z=>cases Z;cases ra;cases rb;rfl
 obtain⟨HW,SU,w1,_⟩:=M.list d1;obtain⟨g5,J3,w2,_⟩:=M.tuple d2;have t1:=w1.lt;have t2:=(let⟨_,e,_⟩:=w2;ky e);refine HU w1.isList (qo w2) λh' hz lz mh h1 h2 hk=>Si hz ?_;have I2:=M.kept (t':=j.toks) hk;refine⟨_,_,_,_,H1,rfl,I2,HV<|HX j.heap.objs.size a b t1 t2,⟨hz,lz,⟨_,_,mh⟩,h1,h2⟩,λc S=>?_,q⟩;have U:j.heap.objs.size<=c:=by simp at S;rcases S with z|z|z|z|z<;>rw[z]<;>first|exact QN _ _|exact ez _
 exact M.qe U<|M.c7.fresh U
def bb{K:cn}(q:ta σ H λvs H1=>aao K vs H1 R):O9 K ta σ H R:=q
abbrev Kj(h:Heap)(j z F:Addr):Heap:=(h).push {cls:=.type "list_iterator",data:=.fields #[.ref j,.int 0 0]}
abbrev Kk(h:Heap)(z j F:Addr):Heap:=(Kj h z j F).push {cls:=.type "list_iterator",data:=.fields #[.ref j,.int 0 0]}
abbrev Kl(h:Heap)(z F j:Addr):Heap:=(Kk h z F j).push {cls:=.type "list_iterator",data:=.fields #[.ref j,.int 0 0]}
abbrev Km(h:Heap)(j z F:Addr):Heap:=(Kl h j z F).push {cls:=.type "tuple",data:=.seq #[.ref h.objs.size,.ref (Kj h j z F).objs.size,.ref (Kk h j z F).objs.size]}
abbrev Kn(h:Heap)(j z F:Addr):Heap:=(Km h j z F).push {cls:=.type "tuple",data:=.seq #[.none,.none,.none]}
abbrev w9(h:Heap)(j z F:Addr):Heap:=(Kn h j z F).push {cls:=.type "zip",data:=.fields #[.none,.bool false,.bool false,.ref (Kl h j z F).objs.size,.ref (Km h j z F).objs.size]}
def HY(j z F:Addr)(I J M:BA):Meets (Builtin.«zip.__new__» ⟨[.type "zip",.ref j,.ref z,.ref F],[]⟩) λ_ R s=>s.heap.IsList j I/\s.heap.IsList z J/\s.heap.IsList F M/\R (.ok (.ret (.ref (Kn s.heap j z F).objs.size))) {s with heap:=w9 s.heap j z F}:=
 .of_wp λprog w A R s h=>by
  obtain⟨S,g,d,tk,os⟩:=s;obtain⟨W,Y,Z,h⟩:=h;have U:=sub_zip;have L1:Heap.IsList (Shared.heap ⟨S,g,d,tk,os⟩) j I:=let⟨o,e,r⟩:=W;⟨o,(e),r⟩;have L2:Heap.IsList (Shared.heap ⟨S.push {cls:=.type "list_iterator",data:=.fields #[.ref j,.int 0 0]},g,d,tk,os⟩) z J:=let⟨o,e,r⟩:=Y;⟨o,(et _<|e),r⟩;have L3:Heap.IsList (Shared.heap ⟨(S.push {cls:=.type "list_iterator",data:=.fields #[.ref j,.int 0 0]}).push {cls:=.type "list_iterator",data:=.fields #[.ref z,.int 0 0]},g,d,tk,os⟩) F M:=let⟨o,e,r⟩:=Z;⟨o,(et _<|et _<|e),r⟩
  wp_walk using Ic L1,Ic L2,Ic L3
  exact⟨_,rfl,h⟩
section
variable{prog:Program}{w:World}{A:Around}{E:Bd}{s:Shared}
def E1(q1:s.heap.IsList j J)(q2:s.heap.IsList z M)(q3:s.heap.IsList I S)
  (h:∀h',IsZip h' (s.heap.objs.size+5) (s.heap.objs.size+3) (s.heap.objs.size+4) .none->gC h' (s.heap.objs.size+3) (.ref s.heap.objs.size) (.ref<|s.heap.objs.size+1) (.ref<|s.heap.objs.size+2)->gC h' (s.heap.objs.size+4) .none .none .none->e9 true h' s.heap.objs.size j 0->e9 true h' (s.heap.objs.size+1) z 0->e9 true h' (s.heap.objs.size+2) I 0->(∀c o,s.heap.get? c=some o->h'.get? c=some o)->Q (.ref<|s.heap.objs.size+5) {s with heap:=h'}):
  wpAny (model prog w) A (call (.type "zip") [.ref j,.ref z,.ref I]) Q E s:=by
 refine callType_new F.called_zip (by decide) (SK _ _ _) (SM _ _ _) (λobj=>SN obj _ _ _) F.entry_zip_new (HY j z I J M S) ⟨q1,q2,q3,?_⟩;have U:(Kj s.heap j z I).objs.size=s.heap.objs.size+1:=by rw[vr]
 have W:(Kk s.heap j z I).objs.size=s.heap.objs.size+2:=by rw[vr,U]
 have Y:(Kl s.heap j z I).objs.size=s.heap.objs.size+3:=by rw[vr,W]
 have Z:(Km s.heap j z I).objs.size=s.heap.objs.size+4:=by rw[vr,Y]
 have yO:(Kn s.heap j z I).objs.size=s.heap.objs.size+5:=by rw[vr,Z]
 have gZ:(w9 s.heap j z I).get? (Kn s.heap j z I).objs.size=some _:=m8 _ rfl;have gO:(w9 s.heap j z I).get? (Km s.heap j z I).objs.size=some _:=et _<|m8 _ rfl;have gI:(w9 s.heap j z I).get? (Kl s.heap j z I).objs.size=some _:=et _<|et _<|m8 _ rfl;have g1:(w9 s.heap j z I).get? s.heap.objs.size=some (X7 true j):=et _<|et _<|et _<|et _<|et _<|m8 _ rfl;have g2:(w9 s.heap j z I).get? (Kj s.heap j z I).objs.size=some (X7 true z):=et _<|et _<|et _<|et _<|m8 _ rfl;have g3:(w9 s.heap j z I).get? (Kk s.heap j z I).objs.size=some (X7 true I):=et _<|et _<|et _<|m8 _ rfl;show _/\_;rw[Z,Y,yO]at gZ;rw[Z]at gO;rw[U,W,Y]at gI;rw[U]at g2;rw[W]at g3;rw[yO];exact⟨⟨_,gZ,rfl⟩,h _ gZ gI gO (e9.new g1) (e9.new g2) (e9.new g3) λc o x=>et _<|et _<|et _<|et _<|et _<|et _<|x⟩
end
def Cp(K:cn)(a b c:Addr):It:=
 ⟨λi H=>F_ λ(xs ys zs:List V)(x y v:V)=>az K H a xs/\az K H b ys/\az K H c zs/\xs[i]?=some x/\ys[i]?=some y/\zs[i]?=some v,
  λi H q H'=>D_ λT x y v=>q=.ref T/\H T=none/\H'=upd H T (.tup [x,y,v])/\(∀xs,az K H a xs->xs[i]?=some x)/\(∀ys,az K H b ys->ys[i]?=some y)/\(∀zs,az K H c zs->zs[i]?=some v),
  λi H=>C_ λ(xs ys zs:List V)=>az K H a xs/\az K H b ys/\az K H c zs/\(xs.length<=i\/ys.length<=i\/zs.length<=i)⟩
def E2{P:Program}{K:cn}{kk:Nat}{z TI TO i1 S U a b c:Addr}(D:Co z TI TO i1 S U a b c):
  Turn P w K (.Tuple elts kk jH) (Cp K a b c) [z,TI,TO,i1,S,U] z (λi h=>IsZip h z TI TO .none/\gC h TI (.ref i1) (.ref S) (.ref U)/\(C_ λp1 p2 p3=>gC h TO p1 p2 p3)/\e9 true h i1 a i/\e9 true h S b i/\e9 true h U c i) where
 mem:=by simp
 obj:=λi h st c hc=>by
  obtain⟨hz,j,⟨p1,p2,p3,M⟩,h1,h2,Y⟩:=st;rcases(show c=z\/c=TI\/c=TO\/c=i1\/c=S\/c=U by simpa using hc)with q|q|q|q|q|q
  .rw[q];exact⟨_,hz,(λv q=>nomatch q)⟩
  .rw[q];exact⟨_,j,(λv q=>nomatch q)⟩
  .rw[q];exact⟨_,M,(λv q=>nomatch q)⟩
  .rw[q];exact h1.obj
  .rw[q];exact h2.obj
  .rw[q];exact Y.obj
 keep:=λi h h' st k=>by obtain⟨hz,j,⟨p1,p2,p3,M⟩,h1,h2,Y⟩:=st;exact⟨k z (by simp) _ hz,k TI (by simp) _ j,⟨p1,p2,p3,k TO (by simp) _ M⟩,h1.up λo q=>k i1 (by simp) o q,h2.up λo q=>k S (by simp) o q,Y.up λo q=>k U (by simp) o q⟩
 item:=by
  intro X hP hw hK hc i pins s σ H E I hf st hg;subst hP hw hK;obtain⟨hz,j,⟨p1,p2,p3,M⟩,h1,h2,Y⟩:=st;obtain⟨xs,ys,zs,x,y,v,s1,s2,s3,e1,e2,e3⟩:=hg;obtain⟨Z,SU,w1,_⟩:=I.list s1;obtain⟨u1,O5,ru1⟩:=SU.get e1;obtain⟨g5,J3,w2,_⟩:=I.list s2;obtain⟨u2,Et,V3⟩:=J3.get e2;obtain⟨WD,rv3,w3,_⟩:=I.list s3;obtain⟨u3,hu3,ru3⟩:=rv3.get e3;have UB:=ky hz;have hT:s.TypeIs (.ref z) "zip":=⟨_,hz,rfl⟩;unfold pyNext;refine a0<|Q6<|O3 (name:=Str.ofString "__next__") hT NV<|Ma NV hT Xs (LY D hz j M h1 h2 Y w1.isList w2.isList w3.isList (by simpa using O5) (by simpa using Et) (by simpa using hu3) λh' z' ZD UC Wj h3' hT1 hk=>er ?_)<|YH _;refine⟨_,rfl,aoC (s:={s with heap:=h'}) z' λAK ZE sb=>?_⟩;have AQ:AK.get? s.heap.objs.size=some {cls:=.type "tuple",data:=.seq #[u1,u2,u3]}:=(sb.2 _<|B2 UB).trans hT1;have new:eh X.prog X.w (upd H s.heap.objs.size (.tup [x,y,v])) AK s.heap.objs.size (.tup [x,y,v]):=⟨by show 3<=sizeLine;decide,[u1,u2,u3],.cons ru1 (.cons V3 (.cons ru3 (.nil))),⟨_,AQ,rfl,_,rfl⟩⟩;have nd:=D.nd;simp only[nM,eH,u7,t6,y3,F1,ZL,ant]at nd;have I1:Inv X pins σ (upd H s.heap.objs.size (.tup [x,y,v])) {s with heap:=AK}:=I.lS (t':=s.toks) (ch:=[z,TI,TO,i1,S,U]) (λc o hb q=>(sb.2 c λJ=>hb<|by simp[J]).trans<|hk c o (λJ=>hb<|by simp only[eH,u7,t6]at J|-;rcases J with J|J|J|J|J<;>simp[J]) q) hf (ez _) new;refine⟨.ref s.heap.objs.size,_,I1,rfl,⟨_,x,y,v,rfl,I.c7.fresh<|ez _,rfl,λl hl=>by rw[I.iE hl s1];exact e1,λl hl=>by rw[I.iE hl s2];exact e2,λl hl=>by rw[I.iE hl s3];exact e3⟩,⟨ZE,?_,⟨u1,u2,u3,?_⟩,UC.up λo q=>(sb.2 _ λq2=>nd.1.2.2.1 q2.symm).trans q,Wj.up λo q=>(sb.2 _ λq2=>nd.1.2.2.2.1 q2.symm).trans q,h3'.up λo q=>(sb.2 _ λq2=>nd.1.2.2.2.2 q2.symm).trans q⟩,λc Hf=>?_⟩
  .exact(sb.2 _ λq=>nd.1.1 q.symm).trans<|hk _ _ (by simp only[eH,u7,t6,y3];exact⟨λq=>nd.1.1 q.symm,nd.2.1.1,nd.2.1.2.1,nd.2.1.2.2.1,nd.2.1.2.2.2⟩) j
  .exact(sb.2 _ λq=>nd.1.2.1 q.symm).trans ZD
  .have iW:c<s.heap.objs.size:=by
    rcases(show c=z\/c=TI\/c=TO\/c=i1\/c=S\/c=U by simpa using Hf)with q|q|q|q|q|q
    .rw[q];exact UB
    .rw[q];exact ky j
    .rw[q];exact ky M
    .rw[q];obtain⟨_,e,_⟩:=h1.obj;exact ky e
    .rw[q];obtain⟨_,e,_⟩:=h2.obj;exact ky e
    .rw[q];obtain⟨_,e,_⟩:=Y.obj;exact ky e
   rw[aL<|nP iW];exact(hf c Hf).1
 done:=by
  intro X hP hw hK hc i pins s σ H E I hf st hg;subst hP hw hK;obtain⟨hz,j,⟨p1,p2,p3,M⟩,h1,h2,Y⟩:=st;obtain⟨xs,ys,zs,s1,s2,s3,BX⟩:=hg;obtain⟨Z,SU,w1,_⟩:=I.list s1;have m1:=SU.length;obtain⟨g5,J3,w2,_⟩:=I.list s2;have m2:=J3.length;obtain⟨WD,rv3,w3,_⟩:=I.list s3;have m3:=rv3.length;have he:Z.toArray[i]?=none\/g5.toArray[i]?=none\/WD.toArray[i]?=none:=by
   rcases BX with q|q|q
   .exact .inl (by simp;lia)
   .exact .inr (.inl<|by simp;lia)
   .exact .inr (.inr<|(by simp;lia))
  have hT:s.TypeIs (.ref z) "zip":=⟨_,hz,rfl⟩;unfold pyNext;refine a0<|Q6<|O3 (name:=Str.ofString "__next__") hT NV<|Ma NV hT Xs (O7 (I.ok.hd hc) D hz j M h1 h2 Y w1.isList w2.isList w3.isList he λh' e hk He=>?_)<|YH _;obtain⟨o,ho,NM⟩:=He;refine a0<|R8 (T:="StopIteration") (b:=true) ⟨o,ho,NM⟩ isSubtype_stop<|er ⟨rfl,I.iJ (t':=s.toks) (ch:=[z,TI,TO,i1,S,U]) (λc o hb q=>hk c o (λJ=>hb ?_) q) hf⟩;simp only[eH,u7,t6]at J|-;rcases J with J|J|J|J|J<;>simp[J]
 self:=λA i s Q E st h=>Si st.1 h
def E3(N a b c:Nat)(t1:a<N)(z:b<N)(F:c<N):Co (N+5) (N+3) (N+4) (N) (N+1) (N+2) a b c:=by
 have nd:([N+5,N+3,N+4,N,N+1,N+2]:AU).Nodup:=by simp only[nM,eH,u7,t6,y3,F1,ZL,ant];lia
 have ls:∀l∈([a,b,c]:AU),l∉([N+5,N+4,N,N+1,N+2]:AU):=by intro l j;simp at j;simp;lia
 exact⟨nd,ls⟩
def Pc(K:cn)(vs:List V)(H:Hp)(R:It->Hp->Prop):Prop:=F_ λa b c xs ys zs=>vs=[.ref a,.ref b,.ref c]/\az K H a xs/\az K H b ys/\az K H c zs/\R (Cp K a b c) H
def Ko(K:cn)(ta:TA):TI:=λσ H R=>ta σ H λvs H1=>Pc K vs H1 R
def HZ(K:cn){X:Cx}{ta:TA}{S:List Expr}(hm:X.mg "zip"=none)(ha:PA X [e,J,M] ta)(hK:X.K=K)(hg:Gl X "zip")
  (hs:starEach [e,J,M] X.env=(false,eval e X.env)::starEach [J,M] X.env)(jc:(backTo pos<|starEach [J,M] X.env).any (·.1)=false):PI X (.Tuple S kk jH) (.Call (.Name "zip" p) [e,J,M] [] pos)<|Ko K ta:=by
 subst hK;intro pins s σ H R I h;refine Call_<|iD I hg hm tD<|HK (eF (ha pos pins s σ H _ I h) λus j⟨vs,H1,F,r1,q1⟩=>?_) hs jc;obtain⟨a,b,c,xs,ys,zs,ex,d1,d2,d3,q⟩:=q1;subst ex;obtain rfl:us=[Value.ref a,Value.ref b,Value.ref c]:=by
  cases r1 with
  |cons ra U=>cases U with
   |cons rb U=>cases U with
    |cons rc U=>cases U;cases ra;cases rb;cases rc;rfl
 obtain⟨HW,SU,w1,_⟩:=F.list d1;obtain⟨g5,J3,w2,_⟩:=F.list d2;obtain⟨WD,rv3,w3,_⟩:=F.list d3;have t1:=w1.lt;have t2:=w2.lt;have t3:=w3.lt;refine E1 w1.isList w2.isList w3.isList λh' hz lz mh h1 h2 h3 hk=>Si hz ?_;have I2:=F.kept (t':=j.toks) hk;have D:=E3 j.heap.objs.size a b c t1 t2 t3;refine⟨_,_,_,_,H1,rfl,I2,E2 D,⟨hz,lz,⟨_,_,_,mh⟩,h1,h2,h3⟩,λc Y=>?_,q⟩;have Z:j.heap.objs.size<=c:=by simp only[eH,u7,t6]at Y;rcases Y with z|z|z|z|z|z<;>rw[z]<;>first|exact QN _ _|exact ez _
 exact F.qe Z<|F.c7.fresh Z
def aQ{K:cn}(q:ta σ H λvs H1=>Pc K vs H1 R):Ko K ta σ H R:=q
def SV{K:cn}(h1:az K H a xs)(h2:az K H b ys)(j:az K H c zs)(q:R (Cp K a b c) H):Pc K [.ref a,.ref b,.ref c] H R:=⟨a,b,c,xs,ys,zs,rfl,h1,h2,j,q⟩
section
variable{K:cn}{tt:TT}{te:TE}{vs:AU}{σ:L2.St}{H1:Hp}{Q:VK}
def aap{ε z δ:Type}(es:List ε)(es':List z)(S:ε->V->Prop)(S':z->V->Prop)(f:ε->z->Option δ)(Rd:δ->V->Hp->Prop)(hl:az K H1 a xs)(F:ee K H1 b ys)(hx:Paired S es xs)(hy:Paired S' es' ys)(hz:xs.length<=sizeLine)
  (hs:∀D,H1 D=none->∀(i:Nat)(e:ε)(Y:z) x y H acc(Z:VK)(Ns:Hp->Prop),es[i]?=some e->es'[i]?=some Y->S e x->S' Y y->aq H1 H->H D=some (.lst acc)->
   (∀d,f e Y=some d->∀y j,aq H j->(∀H5,ay D j H5->Rd d y H5)->Z y j)->(f e Y=none->∀j,aq H j->Ns j)->
   tt (((wipe σ vs).set j1<|some x).set j2<|some y) H λb H3=>if b=true then te (((wipe σ vs).set j1<|some x).set j2<|some y) H3 Z else Ns H3)
  (hw:∀x y:V,wipe (((wipe σ vs).set j1<|some x).set j2<|some y) vs=wipe σ vs)
  (hd:∀D ys H,aq H1 H->H1 D=none->H D=some (.lst ys)->Paired (λd v=>Rd d v H) ((es.zip es').filterMap λp=>f p.1 p.2) ys->Q (.ref D) H):Nh (O8 K a b) (yX K 2<|iF (eZ j1)<|iF (eZ j2) BH) tt te vs σ H1 Q:=by
 have hlen:es.length=xs.length:=mf hx;have Z8:es'.length=ys.length:=mf hy;refine nY (es.zip es') (λp=>f p.1 p.2) Rd (by rw[Hd];lia) (λH k=>⟨xs,ys,k.seq hl,k.gh F,by rw[Hd];lia⟩) (λD hD i e H acc Z Ns he k I n1 n2=>?_) hd;have hi:=(l4.mp he).1;rw[Hd]at hi;have h1:i<xs.length:=by lia
 have h2:i<ys.length:=by lia
 have J:i<es.length:=by lia
 have M:i<es'.length:=by lia
 have e0:e=(es[i],es'[i]):=by have:=(l4.mp he).2;simp at this;exact this.symm
 subst e0;refine⟨⟨xs,ys,xs[i],ys[i],k.seq hl,k.gh F,gs h1,gs h2⟩,?_⟩;rintro v H'⟨T,x,y,rfl,hT,rfl,hy1,hy2⟩;obtain⟨e1,U,se1⟩:=Paired.at_ hx<|hy1 xs<|k.seq hl;obtain⟨e2,W,se2⟩:=Paired.at_ hy<|hy2 ys<|k.gh F;rw[gs J]at U;rw[gs M]at W;cases U;cases W;have kT:aq H<|upd H T (.tup [x,y]):=aq.new hT;exact wX ah ⟨hw _ _,hs D hD i _ _ x y _ acc Z Ns (gs J) (gs M) se1 se2 (k.trans kT) (kT _ _ I) (λd hd y j k4 r=>n1 d hd y j (kT.trans k4) r) λhn j k4=>n2 hn j<|kT.trans k4⟩
def Pe(h:H T=some (.tup [x,y,z]))(q:F (((σ.set i<|some x).set j<|some y).set l<|some z) H):yX K 3 (iF (eZ i)<|iF (eZ j)<|iF (eZ l) BH) (.ref T) σ H F:=⟨T,[x,y,z],rfl,ee.of h,rfl,x,[y,z],rfl,y,[z],rfl,z,[],rfl,rfl,q⟩
def aaq{δ:Type}(j F I:Bc)(f:Int->Int->Int->δ)(Rd:δ->V->Hp->Prop)(J:az K H1 a<|j.map V.int)(M:az K H1 b<|F.map V.int)(S:az K H1 c<|I.map V.int)(h12:F.length=j.length)(h13:I.length=j.length)(hz:j.length<=sizeLine)
  (hs:∀D,H1 D=none->∀(i:Nat)(x y z:Int) H acc(Y:VK),j[i]?=some x->F[i]?=some y->I[i]?=some z->aq H1 H->H D=some (.lst acc)->
   (∀v U,aq H U->(∀H5,ay D U H5->Rd (f x y z) v H5)->Y v U)->te ((((wipe σ vs).set j1<|some (.int x)).set j2<|some (.int y)).set j3<|some (.int z)) H Y)
  (hw:∀x y z:V,wipe ((((wipe σ vs).set j1<|some x).set j2<|some y).set j3<|some z) vs=wipe σ vs)
  (hd:∀D ys H,aq H1 H->H1 D=none->H D=some (.lst ys)->Paired (λd v=>Rd d v H) ((j.zip<|F.zip I).map λp=>f p.1 p.2.1 p.2.2) ys->Q (.ref D) H):Nh (Cp K a b c) (yX K 3<|iF (eZ j1)<|iF (eZ j2)<|iF (eZ j3) BH) Sf te vs σ H1 Q:=by
 refine nY (j.zip<|F.zip I) (λp=>some<|f p.1 p.2.1 p.2.2) Rd (by rw[Hd,Hd];lia) (λH k=>⟨_,_,_,k.seq J,k.seq M,k.seq S,by simp;lia⟩) (λD Z i e H acc Y Ns he k W n1 n2=>?_) λD ys H k Z fi pr=>hd D ys H k Z fi (by rw[bX]at pr;exact pr);have hi:=(l4.mp he).1;rw[Hd,Hd]at hi;have g1:i<j.length:=by lia
 have g2:i<F.length:=by lia
 have g3:i<I.length:=by lia
 have e0:e=(j[i],F[i],I[i]):=by have:=(l4.mp he).2;simp at this;exact this.symm
 subst e0;refine⟨⟨_,_,_,.int j[i],.int F[i],.int I[i],k.seq J,k.seq M,k.seq S,by simp[gs g1],by simp[gs g2],by simp[gs g3]⟩,?_⟩;rintro v H'⟨T,x,y,z,rfl,hT,rfl,hy1,hy2,hy3⟩;have e1:=hy1 _<|k.seq J;have e2:=hy2 _<|k.seq M;have e3:=hy3 _<|k.seq S;rw[mq,gs g1]at e1;rw[mq,gs g2]at e2;rw[mq,gs g3]at e3;cases e1;cases e2;cases e3;have kT:aq H<|upd H T (.tup [.int j[i],.int F[i],.int I[i]]):=aq.new hT;refine Pe ah ⟨hw _ _ _,dq ?_⟩;refine fo ?_;exact(hs D Z i _ _ _ _ acc Y (gs g1) (gs g2) (gs g3) (k.trans kT) (kT _ _ W) λv U k4 r=>n1 _ rfl v U (kT.trans k4) r)
end
def WE{K:cn}{a:Addr}{xs:List V}{tb:TS}{D:Ends}{σ:L2.St}{H:Hp}{j1 j2:Nat}(j:Nat->L2.St->Hp->Prop)(h0:j 0 σ H)(z:∀i σ H,i<=xs.length->j i σ H->az K H a xs)
  (hs:∀i x σ H T,xs[i]?=some x->j i σ H->H T=none->tb (D.l<|j<|i+1) ((σ.set j1<|some (.int ((i+1:Nat):Int))).set j2<|some x) (upd H T (.tup [.int ((i+1:Nat):Int),x])))(hd:∀σ H,j xs.length σ H->D.nx σ H):
  ∃W:Nat->Nat->L2.St->Hp->Prop,(∃m,W 0 m σ H)/\∀i m σ H,W i m σ H->
   ((LV K a).stop i H/\D.nx σ H)\/((LV K a).go i H/\∃N:L2.St->Hp->Prop,(∀σ' H',N σ' H' ->∃I,I<m/\W (i+1) I σ' H')/\∀x H',(LV K a).Nc i H x H' ->yX K 2 (iF (eZ j1)<|iF (eZ j2) BH) x σ H' λF H2=>tb (D.l N) F H2):=by
 refine⟨λi m σ H=>i+m=xs.length/\j i σ H,⟨xs.length,by lia,h0⟩,λi m σ H⟨J,p⟩=>?_⟩;by_cases hi:i<xs.length
 .right;refine⟨⟨xs,xs[i],z i σ H (by lia) p,gs hi⟩,j<|i+1,λσ' H' h'=>⟨m-1,by lia,by lia,h'⟩,?_⟩;rintro v H'⟨T,x,rfl,M,rfl,S⟩;exact wX ah<|hs i x σ H T (S xs<|z i σ H (by lia) p) p M
 .left;have e:i=xs.length:=by lia
  subst e;exact⟨⟨xs,z _ σ H (by lia) p,by lia⟩,hd σ H p⟩
def fu(a b:Bc):Bool:=if a.length=b.length then HT.lexLt a b else decide (a.length<b.length)
theorem Kq:∀a:Bc,HT.lexLt a a=false
 |[]=>rfl
 |x::a=>by rw[HT.j8,dt rfl];exact Kq a
theorem lex_trans:∀{a b c:Bc},HT.lexLt a b=true->HT.lexLt b c=true->HT.lexLt a c=true
 |[],[],_,h,_=>by cases h
 |[],_::_,[],_,h=>by cases h
 |[],_::_,_::_,_,_=>rfl
 |_::_,[],_,h,_=>by cases h
 |_::_,_::_,[],_,h=>by cases h
 |x::a,y::b,z::c,h,h'=>by
  rw[HT.j8]at h h'|-;by_cases F:x=y
  .rw[dt F]at h;by_cases j:y=z
   .rw[dt j]at h';rw[dt<|F.trans j];exact lex_trans h h'
   .rw[c0 j]at h';rw[c0<|by rw[F];exact j,F];exact h'
  .rw[c0 F]at h;by_cases j:y=z
   .rw[c0<|by rw[<-j];exact F,<-j];exact h
   .rw[c0 j]at h';have h1:=y1 h;have h2:=y1 h';rw[c0<|by lia];exact ki (by lia)
theorem Kr:∀{a b:Bc},HT.lexLt a b=false->HT.lexLt b a=false->a=b
 |[],[],_,_=>rfl
 |[],_::_,h,_=>by cases h
 |_::_,[],_,h=>by cases h
 |x::a,y::b,h,h'=>by
  rw[HT.j8]at h h';by_cases e:x=y
  .subst e;rw[dt rfl]at h h';rw[Kr h h']
  .rw[c0 e]at h;rw[c0<|iq e]at h';have h1:=Zu h;have h2:=Zu h';lia
def rQ(a:Bc):fu a a=false:=by unfold fu;rw[dt rfl];exact Kq a
def xc(h:fu a b=true)(h':fu b c=true):fu a c=true:=by
 unfold fu at*;by_cases z:a.length=b.length
 .rw[dt z]at h;by_cases j:b.length=c.length
  .rw[dt j]at h';rw[dt<|z.trans j];exact lex_trans h h'
  .rw[c0 j]at h';have h2:=y1 h';rw[c0<|by lia];exact ki (by lia)
 .rw[c0 z]at h;have h1:=y1 h;by_cases j:b.length=c.length
  .rw[c0<|by lia];exact ki (by lia)
  .rw[c0 j]at h';have h2:=y1 h';rw[c0<|by lia];exact ki (by lia)
def Pf(h:fu a b=false)(h':fu b a=false):a=b:=by
 unfold fu at*;by_cases e:a.length=b.length
 .rw[dt e]at h;rw[dt e.symm]at h';exact Kr h h'
 .rw[c0 e]at h;rw[c0<|iq e]at h';have h1:=Zu h;have h2:=Zu h';lia
def cnt(j:List Bc)(a:Bc):Nat:=(j.filter (fu · a)).length
def Pg(F:a∈j)(h:fu a b=true):cnt j a<cnt j b:=by
 unfold cnt;have hs:(j.filter (fu · a))=(j.filter (fu · b)).filter (fu · a):=by
  rw[apL];apply JW;intro x _;cases q:fu x a with
  |false=>simp
  |true=>simp[xc q h]
 rw[hs];have z:a∈j.filter (fu · b):=tL.mpr ⟨F,h⟩;generalize j.filter (fu · b)=l at z;clear hs;induction l with
 |nil=>cases z
 |cons x l I=>
  rw[F5,kA];have le:(l.filter (fu · a)).length<=l.length:=B1 _ _;rcases eH.mp z with e|z
  .subst e;rw[c0<|by rw[rQ];simp];lia
  .have:=I z;split
   .rw[kA];lia
   .lia
def Ph(F:a∈j)(I:b∈j):decide (cnt j a<cnt j b)=fu a b:=by
 cases q:fu a b with
 |true=>exact ki<|Pg F q
 |false=>
  refine kx ?_;cases z:fu b a with
  |true=>have:=Pg I z;lia
  |false=>rw[Pf q z];lia
section
variable{prog:Program}{w:World}{A:Around}{E:Bd}{s:Shared}
def ItemsAre.ofInts:∀{us:Bb},Vals (ns.map V.int) us->ItemsAre (PySem.intKind prog w) ns us:=by
 induction ns with
 |nil=>intro us r;cases r;exact .nil
 |cons n ns j=>
  intro us r;cases r with
  |cons r t=>obtain⟨k,rfl⟩:=r;exact .cons (by show Value.isInt n (.int n k)=true;simp[Value.isInt])<|j t
def WG(Y:IsTup s.heap x #[.int n t,.ref a])(Z:IsTup s.heap y #[.int m u,.ref b])
  (F:IsTup s.heap a its.toArray)(I:IsTup s.heap b j.toArray)(J:Vals (ns.map V.int) its)(M:Vals (ms.map V.int) j)(hn:n=ns.length)(hm:m=ms.length)(S:A.units<cLine)
  (h:Q (fu ns ms) s):wpAny (model prog w) A (keyLt' (tuples' true) (.ref x) (.ref y)) Q E s:=by
 obtain⟨o1,g1,c1,k1,d1⟩:=Y;obtain⟨o2,g2,c2,k2,d2⟩:=Z;refine PySem.W.kat_lt g1 d1 g2 d2 ?_;refine PySem.W.kat_cons<|wpAny_eqBool_int ?_;refine PySem.W.kat_go (λe=>PySem.W.kat_yes ?_) λe=>PySem.W.kat_no ?_
 .have z:n=m:=by simpa using e
  have hl:ns.length=ms.length:=by lia
  obtain⟨o3,g3,c3,k3,d3⟩:=id F;obtain⟨o4,g4,c4,k4,d4⟩:=id I;refine PySem.W.kat_cons<|wpAny_eqBool_tuple S ⟨o3,_,k3,g3,c3,d3,ItemsAre.ofInts<|by simpa using J⟩ ⟨o4,_,k4,g4,c4,d4,ItemsAre.ofInts<|by simpa using M⟩ ?_;refine PySem.W.kat_go (λU=>PySem.W.kat_yes ?_) λU=>PySem.W.kat_no ?_
  .have:ns=ms:=y1 U;subst this;refine PySem.W.kat_nil ?_;rw[rQ]at h;exact h
  .refine PySem.W.kat_one _ _<|HT.wH F I (by simpa using J.ints) (by simpa using M.ints) S ?_;unfold fu at h;rw[dt hl]at h;exact h
 .have z:¬n=m:=by simpa using e
  show wpAny _ _ (oneLt' true _ _) _ _ _;refine oneLt_int ?_;unfold fu at h;rw[c0<|by lia]at h;have e3:decide (n<m)=decide (ns.length<ms.length):=by apply decide_eq_decide.mpr;lia
  rw[e3];exact h
end
def eK.in2(r:eK (k+1) A):eK k A.in1.in1:=⟨r.hd,by have:=r.dp;show A.depth+3*k+5<_;lia,by have:=r.un;show A.units+1+1+16*k+200<_;lia⟩
def uE{I J:Type}{R:I->J->Prop}{l M:List I}(p:M.Perm l):∀{m:List J},Paired R l m->∃j,j.Perm m/\Paired R M j:=by
 induction p with
 |nil=>exact λ{m} h=>⟨m,M5 _,h⟩
 |cons x _ S=>
  intro m h;cases h with
  |cons r t=>obtain⟨j,e,t'⟩:=S t;exact⟨_::j,e.cons _,.cons r t'⟩
 |swap x y l=>
  intro m h;cases h with
  |cons r t=>
   cases t with
   |cons U t=>exact⟨_,List.Perm.swap _ _ _,.cons U (.cons r t)⟩
 |trans _ _ z F=>intro m h;obtain⟨m1,W,h1⟩:=F h;obtain⟨Y,Z,h2⟩:=z h1;exact⟨Y,Z.trans W,h2⟩
def g6(K:cn)(H:Hp)(k:Addr)(ns:Bc):Prop:=∃a,H k=some (.tup [.int ns.length,.ref a])/\ee K H a (ns.map V.int)
def g6.same{K:cn}(e:aq H H')(h:g6 K H k ns):g6 K H' k ns:=let⟨a,h1,h2⟩:=h;⟨a,e _ _ h1,e.gh h2⟩
def E4(K:cn)(sp:Sp):Prop:=∀(H:Hp)(a:Addr)(ns:Bc)(Q:VK),ee K H a (ns.map V.int)->(∀p,H p=none->Q (.ref p) (upd H p (.tup [.int ns.length,.ref a])))->sp [.ref a] H Q E0
section
variable{X:Cx}{pins:List<|Addr×Obj}{σ:St}{H:Hp}{s:Shared}
def Inv.adopt(I:Inv X pins σ H s)(j:gP X pins H D)(new:eh X.prog X.w (upd H D o) s.heap D o):Inv X pins σ (upd H D o) s:=by
 have ne:∀b u,H b=some u->b≠D:=λb u e=>aX e<|j.1;refine⟨I.ok,I.os,I.bare,⟨I.base.keep,I.base.slot,λb F e n J=>?_,I.base.there,λb xs e=>?_,λb F x e=>?_,λb ps e=>?_⟩,I.loc,I.cell,?_,λx c e=>?_,λp M=>?_,λb F e=>?_,I.len⟩
 .have:b≠D:=by
   rcases j.2.2.2.1 with z|z
   .exact λw=>J<|w▸z
   .exact nP<|sd (ky e) z
  rw[aL this];exact I.base.free b F e n J
 .have q:=I.base.BD b xs e;rw[aL<|ne _ _ q];exact q
 .have q:=I.base.wm b F x e;rw[aL<|ne _ _ q];exact q
 .obtain⟨m,q⟩:=I.base.yU b ps e;exact⟨m,by rw[aL<|ne _ _ q];exact q⟩
 .rw[aL<|iq j.2.1];exact I.free
 .rw[aL<|j.2.2.2.2.1 x c e];exact I.lL x c e
 .obtain⟨e,n,r⟩:=I.pin p M;exact⟨e,by rw[aL<|j.2.2.2.2.2 p M];exact n,r⟩
 .by_cases S:b=D
  .subst S;rw[ah]at e;cases e;exact new
  .rw[aL S]at e;exact(I.c7 b F e).yT (λc v _ q=>q) (λc q=>by rw[aL<|ne _ _ q];exact q) λc xs q=>by rw[aL<|ne _ _ q];exact q
def gP.move(h:gP X pins H D)(n:H' D=none):gP X pins H' D:=⟨n,h.2⟩
def gP.Vt(I:Inv X pins σ H s)(h:gP X pins H D):D∉Ln X.stack:=λz=>by
 rcases eH.mp (I.BE D z)with e|e
 .exact h.2.1 e
 .exact h.2.2.1 e
def E5(F:nO X.prog X.w X.K X.mg X.base HJ k f fd ps sp)(U:Binds X.K fd ps [])
  (W:eK k A')(J:A'.frames=X.A.frames)(I:Inv X pins σ H s)(r:Vals vs us)(h:sp vs H Q E0):
  wpAny (model X.prog X.w) A' (call (.ref f) us) (λu s'=>B_ λv H'=>Inv X pins σ H' s'/\Un (Ln X.stack) [] H H' s.heap s'.heap/\RelV v u/\Q v H') E s:=by
 have Y:BI X.prog X.w X.K X.mg X.base A' X.stack s H:=by obtain⟨h1,h2,Z,h4,h5,h6,h7,h8⟩:=I.VP;exact⟨J.trans h1,h2,Z,h4,h5,h6,h7,h8⟩
 have hl:(us++[]).length=ps.length:=by rw[B5,<-r.length];exact F.len _ _ _ _ h
 have S:=U s us I.JL hl;rw[B5]at S;refine wpAny_call<|Kg (F.run A' X.stack s H ⟨us,[]⟩ us vs Q E0 W Y S r h) λr s' j=>?_;cases r with
 |error e=>exact False.elim j
 |ok fl=>
  cases fl with
  |ret u=>obtain⟨v,H',os,bare,un,c7,r,q⟩:=j;obtain⟨hh,g,d,t,M⟩:=s';obtain rfl:M=s.os:=os;exact⟨v,H',I.call un c7 bare λb z=>absurd z<|by simp,un,r,q⟩
  |next=>exact False.elim j
  |brk=>exact False.elim j
  |cont=>exact False.elim j
def tI{j:Bf}:∀{us:Bb},Vals (j.map V.ref) us->us=j.map Value.ref:=by
 induction j with
 |nil=>intro us r;cases r;rfl
 |cons a j z=>
  intro us r;cases r with
  |cons r t=>rw[z t];cases r;rfl
theorem A0:∀(j:Bf),Vals (j.map V.ref)<|j.map Value.ref
 |[]=>.nil
 |_::j=>.cons rfl<|A0 j
def L5{A:Around}{E:Bd}{kS D:Addr}{Z:BA}{e M:Nat}{st:SortSt}{as':Bf}{P:PySem.Fin->Shared->Prop}(I:Inv X pins σ H s)(fk:gP X pins H kS)(fd:gP X pins H D)(S:kS≠D)
  (hk:s.heap.get? kS=some (seqObj "list" Z e))(hD:s.heap.get? D=some (seqObj "list" #[] M))(hz:Z.size<=sizeLine)(U:as'.length<=sizeLine)(W:failedOf st=none)(ho:((arrOf st).map (·.2)).toList=as'.map Value.ref)
  (h:∀s2,Inv X pins σ (upd H D (.lst<|as'.map V.ref)) s2->P (.done (.ret .none)) s2):wpAny (model X.prog X.w) A (ksk_tail D false M (.ref kS) st) P E s:=by
 have J:(arrOf st).map (·.2)=(as'.map Value.ref).toArray:=by rw[<-ho,apm]
 unfold ksk_tail
 try dsimp only
 refine a0<|listUpdate_at hk rfl ?_ hz<|ti _;refine a0<|B6 ?_;have I1:Inv X pins σ H {s with heap:=s.heap.update kS<|Obj.mapSeq λ_=>(#[]:BA),toks:=s.toks}:=I.iJ (ch:=[kS]) (λb o j q=>(E7 s.heap (Obj.mapSeq λ_=>(#[]:BA)) λz=>j<|by simp[z]).trans q) (λb j=>by rw[oI.mp j];exact fk);have F:=(E7 s.heap (Obj.mapSeq λ_=>(#[]:BA)) S).trans hD;refine a0<|seqEpoch_at F rfl ?_
 refine a0 (listUpdate_at F rfl ?_ (ti _) (by
  show((arrOf st).map (·.2)).size<=sizeLine+1
  rw[J,pd,ek];lia))
 rw[W];simp only[bne_self_eq_false,Pd,LI];rw[J];have Y:=WM F λ_=>(as'.map Value.ref).toArray;have I2:=I1.iJ (t':=s.toks) (ch:=[D]) (h':=(s.heap.update kS<|Obj.mapSeq λ_=>(#[]:BA)).update D<|Obj.mapSeq λ_=>(as'.map Value.ref).toArray) (λb o j q=>(E7 _ (Obj.mapSeq λ_=>(as'.map Value.ref).toArray) λz=>j<|by simp[z]).trans q) (λb j=>by rw[oI.mp j];exact fd);refine er<|h _<|I2.adopt fd ⟨by rw[ek];exact U,as'.map Value.ref,_,A0 as',Y⟩
noncomputable def ze(K:cn)(H:Hp)(j:List Bc)(k:Addr):Option Nat:=by
 classical
 exact if h:∃ns∈j,g6 K H k ns then some (cnt j h.choose)else none
def SW{ns ms:Bc}(h:ns.map V.int=ms.map V.int):ns=ms:=by
 induction ns generalizing ms with
 |nil=>cases ms with
  |nil=>rfl
  |cons _ _=>cases h
 |cons n ns j=>cases ms with
  |nil=>cases h
  |cons m ms=>
   rw[ip,ip]at h;injection h with h1 h2
   injection h1 with h1
   rw[h1,j h2]
def g6.inj(I:Inv X pins σ H s){k:Addr}(h:g6 X.K H k ns)(h':g6 X.K H k ms):ns=ms:=by obtain⟨a,h1,h2⟩:=h;obtain⟨b,j,z⟩:=h';rw[h1]at j;simp at j;rw[<-j.2]at z;exact SW<|I.sU h2 z
def UZ(I:Inv X pins σ H s)(z:ns∈j)(h:g6 X.K H k ns):ze X.K H j k=some (cnt j ns):=by unfold ze;have ex:∃ns∈j,g6 X.K H k ns:=⟨ns,z,h⟩;rw[dif_pos ex];rw[g6.inj I ex.choose_spec.2 h]
def Pn(h:ze X.K H j k=some r):∃ns∈j,g6 X.K H k ns/\r=cnt j ns:=by
 unfold ze at h;split at h
 .rename_i ex;exact⟨_,ex.choose_spec.1,ex.choose_spec.2,(ri h).symm⟩
 .cases h
def E6(K:cn)(H:Hp)(p:Keyed)(ns:Bc):Prop:=B_ λk a=>p=(.ref k,.ref a)/\g6 K H k ns/\ee K H a (ns.map V.int)
def Po{K:cn}(h:Paired (E6 K H) l j):∃z,l.map (·.2)=z.map Value.ref/\Paired (λa ns=>ee K H a<|ns.map V.int) z j:=by
 induction h with
 |nil=>exact⟨[],rfl,.nil⟩
 |cons r _ F=>obtain⟨z,e,p⟩:=F;obtain⟨k,a,rfl,_,h2⟩:=r;exact⟨a::z,by rw[ip,ip,e],.cons h2 p⟩
def Pp{K:cn}(h:Paired (g6 K H) ks j)(h2:Paired (λa ns=>ee K H a<|ns.map V.int) z j):Paired (E6 K H) ((ks.map Value.ref).zip<|z.map Value.ref) j:=by
 induction h generalizing z with
 |nil=>cases h2;exact .nil
 |cons r _ F=>
  cases h2 with
  |cons I J=>exact .cons ⟨_,_,rfl,r,I⟩<|F J
def sorted_out(I:Inv X pins σ H s)(J:z.Perm F)(S:Paired (E6 X.K H) xs.toList z)(N:Nat)(hs:SortedToK (Sim.kh N<|ze X.K H F) xs xs.size):
  z.Pairwise λa b=>fu b a=false:=by
 rw[List.pairwise_iff_getElem];intro i j hi U M;have W:=mf S;rw[xD]at W;have at_:∀i(hi:i<z.length),KK (Sim.kh N<|ze X.K H F) xs i=cnt F z[i]:=by
  intro i hi;obtain⟨p,e,k,a,rfl,h1,_⟩:=Paired.at_ S<|gs hi;unfold KK;have Y:xs[i]?=some (.ref k,.ref a):=by rw[<-Pl];exact e
  rw[Y];show(ze X.K H F k).getD 0=_;rw[UZ I (J.mem_iff.mp<|Ka hi) h1];rfl
 have q:=hs i j (Ra M) (by lia);rw[at_ i hi,at_ j U]at q;have q:decide (cnt F z[j]<cnt F z[i])=false:=q;rw[Ph (J.mem_iff.mp<|Ka U)<|J.mem_iff.mp<|Ka hi]at q;exact q
end
abbrev Pq(K:cn)(H:Hp)(z:Bf)(j:List Bc):Prop:=Paired (λa ns=>ee K H a<|ns.map V.int) z j
def Pq.same{K:cn}(e:aq H H')(h:Pq K H F j):Pq K H' F j:=Paired.mono (λ_ _ z=>e.gh z) h
section
variable{X:Cx}{pins:List<|Addr×Obj}{σ:St}{H:Hp}{s:Shared}
def SX:PySem.W.Looks M h (typeOf (.int n t))<|Value.type "int":=PySem.W.Looks.of_pure rfl
def Pu(I:Inv X pins σ H s)(h:Paired (g6 X.K H) ks z):∃fs:Bb,PySem.W.KatTups s.heap (ks.map Value.ref) fs/\fs.length=ks.length/\∀v∈fs,B_ λn t=>v=.int n t:=by
 induction h with
 |nil=>exact⟨[],trivial,rfl,λv j=>absurd j<|by simp⟩
 |cons r _ J=>
  obtain⟨fs,h1,h2,M⟩:=J;obtain⟨a,e,_⟩:=r;obtain⟨its,F,⟨o,g,c,n,d⟩,_⟩:=I.tuple<|ee.of e;cases F with
  |cons S F=>
   obtain⟨t,rfl⟩:=S;refine⟨_::fs,PySem.W.KatTups.cons g c d rfl h1,by rw[kA,kA,h2],λv j=>?_⟩;rcases eH.mp j with rfl|j
   .exact⟨_,_,rfl⟩
   .exact M v j
def SY(I:Inv X pins σ H s)(U:ze X.K H z x=some M)(W:ze X.K H z y=some S)(Y:A.units<cLine)(Q:Bool->Shared->Prop)(E:Bd)(q:Q (decide<|M<S) s):
  wpAny (model X.prog X.w) A (keyLt' (tuples' true) (.ref x) (.ref y)) Q E s:=by
 obtain⟨ns,Z,⟨a,k1,t1⟩,rfl⟩:=Pn U;obtain⟨ms,m2,⟨b,k2,t2⟩,rfl⟩:=Pn W;rw[Ph Z m2]at q;obtain⟨_,F,p1,_⟩:=I.tuple<|ee.of k1;obtain⟨_,J,p2,_⟩:=I.tuple<|ee.of k2;obtain⟨i1,v1,q1,_⟩:=I.tuple t1;obtain⟨i2,v2,q2,_⟩:=I.tuple t2;cases F with
 |cons j F=>
  obtain⟨t,rfl⟩:=j;cases F with
  |cons j F=>
   cases j;cases F;cases J with
   |cons j J=>
    obtain⟨t,rfl⟩:=j;cases J with
    |cons j J=>cases j;cases J;exact WG p1 p2 q1 q2 v1 v2 rfl rfl Y q
def vA(K:cn)(H:Hp)(z:List Bc)(D:Addr)(H':Hp):Prop:=B_ λas' j=>aq H H'/\H' D=some (.lst<|as'.map V.ref)/\Pq K H' as' j/\j.Perm z/\j.Pairwise λa b=>fu b a=false
def Pw(I:Inv X pins σ H s)(fk:gP X pins H kS)(fd:gP X pins H D)(iw:kS≠D)(hu:A.units<cLine)
  (hk:s.heap.get? kS=some (seqObj "list" (ks.map Value.ref).toArray e))(hD:s.heap.get? D=some (seqObj "list" #[] Z))(hz:J.length<=sizeLine)(hK:Paired (g6 X.K H) ks F)(hT:Pq X.K H J F)
  (h:∀H' S,Inv X pins σ H' S->vA X.K H F D H' ->P (.done (.ret .none)) S):wpAny (model X.prog X.w) A (ksk_end D false (J.map Value.ref).toArray Z (.ref kS) (ks.map Value.ref).toArray) P E s:=by
 have l1:=mf hK;have l2:=mf hT;have hsz:(ks.map Value.ref).toArray.size<=sizeLine:=by rw[pd,ek];lia
 have U:((ks.map Value.ref).toArray.zip (J.map Value.ref).toArray).toList=(ks.map Value.ref).zip (J.map Value.ref):=by simp
 have es:((ks.map Value.ref).toArray.zip (J.map Value.ref).toArray).size=J.length:=by rw[<-xD,U];simp;lia
 have Y:Paired (E6 X.K H) ((ks.map Value.ref).toArray.zip (J.map Value.ref).toArray).toList F:=by rw[U];exact Pp hK hT
 have M:∀(st:SortSt)(z:List Bc),failedOf st=none->z.Perm F->Paired (E6 X.K H) (arrOf st).toList z->z.Pairwise (λa b=>fu b a=false)->wpAny (model X.prog X.w) A (ksk_tail D false Z (.ref kS) st) P E s:=by intro st z h1 h2 h3 h4;obtain⟨as',e5,h5⟩:=Po h3;have l5:=mf h5;have l6:=h2.length_eq;refine L5 (as':=as') I fk fd iw hk hD hsz (by lia) h1 (by rw[Array.toList_map];exact e5) λS I2=>h _ S I2 ?_;exact⟨as',z,aq.new fd.1,ah,Pq.same (aq.new fd.1) h5,h2,h4⟩
 unfold ksk_end
 try dsimp only
 simp only[Pd,LI];by_cases h2:(J.map Value.ref).toArray.size<2
 .rw[dt h2,dt h2];refine a0<|er ?_;rw[StateT.run_pure];refine a0<|er ?_;refine M _ F rfl (M5 _) Y ?_;rw[pd,ek]at h2;rw[List.pairwise_iff_getElem];intro i j hi hj L6;lia
 .rw[c0 h2,c0 h2];rw[pd,ek]at h2;obtain⟨fs,f1,f2,f3⟩:=Pu I hK;refine a0<|PySem.W.kat_kind (T:=Value.type "int") f1 (by lia) (λv hv=>?_) (by decide) ?_
  .obtain⟨n,t,rfl⟩:=f3 v hv;exact SX
  have eb:(Value.type "int" !=Value.type "tuple")=true:=by decide
  rw[eb];refine a0<|Sim.ES s.heap.objs.size (ze X.K H F) (λa r hr=>?_) (λp hp=>?_) (λx y rx ry hx hy Q E q=>SY I hx hy hu Q E q) (by rw[es];lia) λuv c1 c2 c3=>?_
  .obtain⟨_,_,⟨b,k,_⟩,_⟩:=Pn hr;exact I.c7.lt k
  .rw[U]at hp;obtain⟨i,hi⟩:=aph hp;rw[U]at Y;obtain⟨ns,hn,k,a,rfl,k1,_⟩:=kc Y hi;exact⟨k,_,rfl,UZ I (oA hn) k1⟩
  .obtain⟨z,p1,p2⟩:=uE (Array.perm_iff_toList_perm.mp c1) Y;refine M uv z c2 p1 p2<|sorted_out I p1 p2 s.heap.objs.size ?_;rw[c1.size_eq];exact c3
def L7(F:nO X.prog X.w X.K X.mg X.base HJ k f fdt ps sp)(hb:Binds X.K fdt ps [])(hF:E4 X.K sp)
  (hr:eK k A)(EB:A.frames=X.A.frames)(I:Inv X pins σ H s)(fk:gP X pins H kS)(fd:gP X pins H D)(iw:kS≠D)
  (hk:s.heap.get? kS=some (seqObj "list" #[] 0))(hD:s.heap.get? D=some (seqObj "list" #[] e1))(hz:Z.length<=sizeLine)(hT:Pq X.K H Z M)
  (h:∀H' s2,Inv X pins σ H' s2->vA X.K H M D H' ->P (.done (.ret .none)) s2):wpAny (model X.prog X.w) A (ksk_rest D (.ref f) false (Z.map Value.ref).toArray e1 (.ref kS)) P E s:=by
 have l2:=mf hT;refine a0<|Kb ?_
 first
  |rw[List.forIn_toArray]
  |(rw[<-R4];simp)
  |rw[<-R4]
 refine a0 (ksk_fold (λi s'=>C_ λH' ks e=>Inv X pins σ H' s'/\aq H H'/\gP X pins H' kS/\gP X pins H' D/\s'.heap.get? kS=some (seqObj "list" (ks.map Value.ref).toArray e)/\s'.heap.get? D=some (seqObj "list" #[] e1)/\Paired (g6 X.K H') ks (M.take i)) (Z.map Value.ref) 0 s
  ⟨H,[],0,I,aq.refl H,fk,fd,hk,hD,.nil⟩ ?step ?done)
 case step=>
  rintro j x s' hx⟨H',ks,e,I',hs,J,S,U,W,Y⟩;simp only[Vf]at Y|-;rw[mq]at hx;cases ha:Z[j]? with
  |none=>rw[ha]at hx;cases hx
  |some a=>
   rw[ha]at hx;cases hx;obtain⟨ns,hn,t⟩:=kc hT ha;have hj:j<M.length:=(l4.mp hn).1;have hlk:ks.length<=j:=by have:=mf Y;rw[zd]at this;lia
   refine a0<|Q6<|y2 (E5 (E:=λ_ _=>False) (us:=[.ref a]) (vs:=[.ref a]) F hb hr EB I' (.cons rfl .nil)<|hF H' a ns (λv H2=>∃p,v=.ref p/\aq H' H2/\g6 X.K H2 p ns) (hs.gh t) λp Y=>⟨p,rfl,aq.new Y,a,ah,(aq.new Y).gh<|hs.gh t⟩) (λu s2 he=>?_) λ_ _(hF:False)=>hF.elim;obtain⟨v,H2,I2,un,rv,p,rfl,sm,kp⟩:=he;cases rv;have k2:=un.keep kS _ U J.1 (J.Vt I') (by simp);have d2:=un.keep D _ W S.1 (S.Vt I') (by simp);have n1:=un.free kS _ U J.1 (by simp);have n2:=un.free D _ W S.1 (by simp)
   try dsimp only
   refine a0<|listUpdate_at k2 rfl ?_ (by rw[pd,ek];lia) (by rw[Array.size_push,pd,ek];lia);have q:=WM k2 (·.push (.ref p));have ea:(ks.map Value.ref).toArray.push (.ref p)=((ks++[p]).map Value.ref).toArray:=by simp
   rw[ea]at q;refine er ⟨rfl,H2,ks++[p],_,I2.iJ (t':=s2.toks) (ch:=[kS]) (λb o hb q=>(E7 _ (Obj.mapSeq (·.push (.ref p))) λz=>hb<|by simp[z]).trans q) λb hb=>by rw[oI.mp hb];exact J.move n1,hs.trans sm,J.move n1,S.move n2,q,(E7 _ (Obj.mapSeq (·.push (.ref p))) iw).trans d2,?_⟩;rw[YK,hn];exact Paired.snoc (Paired.mono (λ_ _ z=>z.same sm) Y) kp
 case done=>
  rintro s'⟨H',ks,e,I',hs,J,S,U,W,Y⟩;have e3:M.take (0+(Z.map Value.ref).length)=M:=Oc (by rw[ek];lia);rw[e3]at Y
  try dsimp only
  refine a0<|listItems_at U rfl ?_;refine Pw I' J S iw hr.VO U W hz Y (hT.same hs) λH2 s2 I2 ho=>h H2 s2 I2 ?_;obtain⟨as',kK,h1,h2⟩:=ho;exact⟨as',kK,hs.trans h1,h2⟩
end
section
variable{X:Cx}{pins:List<|Addr×Obj}{σ:St}{H:Hp}{s:Shared}
def Ia(F:nO X.prog X.w X.K X.mg X.base HJ k f Y ps sp)(hb:Binds X.K Y ps [])(hF:E4 X.K sp)
  (hr:eK (k+1) X.A)(I:Inv X pins σ H s)(hl:az X.K H l<|j.map V.ref)(hT:Pq X.K H j Z)(h:∀D H',H D=none->vA X.K H Z D H' ->Q (.ref D) H'):
  wpAny (model X.prog X.w) X.A (call (.builtin "sorted") [.ref l] [(Str.ofString "key",.ref f)]) (EP X pins σ Q) X.xe s:=by
 obtain⟨its,rv,pl,hz⟩:=I.list hl;obtain rfl:=tI rv;rw[ek]at hz;have J:(j.map Value.ref).length<=sizeLine:=by rw[ek];exact hz
 refine call_function_entry_kw kind_sorted plain_sorted entry_sorted (ksk_s1 _ _) ?_;refine a0<|er ?_;refine a0<|collect_list pl.isList ?_ J;refine a0<|wpAny_newList ?_ J;have hsz:((s.heap.push<|seqObj "list" #[] 0).update s.heap.objs.size<|Obj.mapSeq (· ++(j.map Value.ref).toArray)).objs.size=s.heap.objs.size+1:=by rw[Heap.size_update,size_push']
 have keep:∀b o,s.heap.get? b=some o->(((s.heap.push<|seqObj "list" #[] 0).update s.heap.objs.size<|Obj.mapSeq (· ++(j.map Value.ref).toArray)).push<|seqObj "list" (j.map Value.ref).toArray 0).get? b=some o:=λb o q=>by have U:b<s.heap.objs.size:=ky q;rw[Heap.get?_push_ne _ _ _<|by rw[hsz];exact nP<|Q1 U,Heap.get?_update_ne _ _ _ _<|nP U,Heap.get?_push_ne _ _ _<|nP U];exact q
 have S:(((s.heap.push<|seqObj "list" #[] 0).update s.heap.objs.size<|Obj.mapSeq (· ++(j.map Value.ref).toArray)).push<|seqObj "list" (j.map Value.ref).toArray 0).get? (s.heap.objs.size+1)=some (seqObj "list" (j.map Value.ref).toArray 0):=by rw[<-hsz];exact m8 _ rfl
 have wA:(((s.heap.push<|seqObj "list" #[] 0).update s.heap.objs.size<|Obj.mapSeq (· ++(j.map Value.ref).toArray)).push<|seqObj "list" (j.map Value.ref).toArray 0).objs.size=s.heap.objs.size+1+1:=by rw[size_push',hsz]
 show wpAny _ _ _ _ _ {s with heap:=((s.heap.push<|seqObj "list" #[] 0).update s.heap.objs.size<|Obj.mapSeq (· ++(j.map Value.ref).toArray)).push<|seqObj "list" (j.map Value.ref).toArray 0};rw[hsz];have I1:=I.kept (t':=s.toks) keep;have n0:H (s.heap.objs.size+1)=none:=I.c7.fresh<|Rb _;have fd:=I.qe (H':=H) (b:=s.heap.objs.size+1) (Rb s.heap.objs.size) n0;have aiD:s.heap.objs.size<s.heap.objs.size+1:=QY _;generalize hD:s.heap.objs.size+1=D at*;generalize((s.heap.push<|seqObj "list" #[] 0).update s.heap.objs.size<|Obj.mapSeq (· ++(j.map Value.ref).toArray)).push (seqObj "list" (j.map Value.ref).toArray 0)=h1 at*;refine a0<|Cn<|wpAny_call_entry_kw slot_list_sort ⟨_,S,rfl⟩ entry_list_sort ?body<|ksk_l1 _ _;show wpAny (model X.prog X.w) X.A.in1.in1 (Builtin.«list.sort» ⟨[.ref D],[(Str.ofString "key",.ref f)]⟩) _ _ _;rw[ksk_t1];unfold ksk_tree;refine a0<|listItems_at S rfl ?_;refine a0<|listUpdate_at S rfl ?_ (by rw[pd];exact J)<|ti _;have WH:=WM S λ_=>(#[]:BA);have I2:=I1.iJ (t':=s.toks) (ch:=[D]) (h':=h1.update D<|Obj.mapSeq λ_=>(#[]:BA)) (λb o hb q=>(E7 _ (Obj.mapSeq λ_=>(#[]:BA)) λz=>hb<|by simp[z]).trans q) (λb hb=>by rw[oI.mp hb];exact fd);have s2:(h1.update D<|Obj.mapSeq λ_=>(#[]:BA)).objs.size=D+1:=by rw[Heap.size_update,wA]
 refine a0<|seqEpoch_at WH rfl ?_;refine a0<|wpAny_newTuple ?_ J;refine a0<|wpAny_newList ?_<|ti _;refine Cn ?_;have M:∀b o,(h1.update D<|Obj.mapSeq λ_=>(#[]:BA)).get? b=some o->(((h1.update D<|Obj.mapSeq λ_=>(#[]:BA)).push<|seqObj "tuple" (j.map Value.ref).toArray 0).push<|seqObj "list" #[] 0).get? b=some o:=λb o q=>et _<|et _ q;have I3:=I2.kept (t':=s.toks) M;have W:((h1.update D<|Obj.mapSeq λ_=>(#[]:BA)).push<|seqObj "tuple" (j.map Value.ref).toArray 0).objs.size=D+1+1:=by rw[size_push',s2]
 have hk:(((h1.update D<|Obj.mapSeq λ_=>(#[]:BA)).push<|seqObj "tuple" (j.map Value.ref).toArray 0).push<|seqObj "list" #[] 0).get? ((h1.update D<|Obj.mapSeq λ_=>(#[]:BA)).push<|seqObj "tuple" (j.map Value.ref).toArray 0).objs.size=some (seqObj "list" #[] 0):=m8 _ rfl;have nk:H ((h1.update D<|Obj.mapSeq λ_=>(#[]:BA)).push<|seqObj "tuple" (j.map Value.ref).toArray 0).objs.size=none:=I.c7.fresh (by rw[W];lia);have fk:=I.qe (H':=H) (b:=((h1.update D<|Obj.mapSeq λ_=>(#[]:BA)).push<|seqObj "tuple" (j.map Value.ref).toArray 0).objs.size) (by rw[W];lia) nk;refine L7 F hb hF hr.in2 rfl I3 fk fd (by rw[W];exact B2<|Q1<|QY D) hk (M _ _ WH) hz hT λH' s2 I4 ho=>?_;refine⟨.none,rfl,er ⟨_,rfl,.ref D,H',I4,rfl,h D H' n0 ho⟩⟩
def Px:bootBuiltins "sorted"=some (.builtin "sorted"):=by decide+kernel
def vC(K:cn)(vs:List V)(H:Hp)(Q:VK):Prop:=C_ λl z j=>vs=[.ref l]/\az K H l (z.map V.ref)/\Pq K H z j/\∀D H',H D=none->vA K H j D H' ->Q (.ref D) H'
def Ks(K:cn)(te:TE):TE:=λσ H Q=>te σ H λx H1=>vC K [x] H1 Q
def aW{K:cn}(q:te σ H λx H1=>vC K [x] H1 Q):Ks K te σ H Q:=q
def L8(K:cn)(F:Fn X.prog X.w X.K X.mg X.base j k ps sp)(Z:E4 X.K sp)(hr:eK (k+1) X.A)(hm:X.mg "sorted"=none)(he:PE X e te)
  (hK:X.K=K)(hg:Gl X "sorted")(J:Gl X j)(M:(j==("__debug__":Str))=false)
  (hs:starEach [e] X.env=(false,eval e X.env)::starEach [] X.env)(S:backTo pos (starEach [e] X.env)=(false,eval e X.env)::backTo pos (starEach [] X.env))(U:(backTo pos<|starEach [e] X.env).any (·.1)=false):
  PE X (.Call (.Name "sorted" p) [e] [⟨some "key",.Name j p2,Y⟩] pos) (Ks K te):=by
 subst hK;obtain⟨f,fd,h1,h2,h3,h4⟩:=F.ex;intro pins s σ H Q I h;refine K0<|iD I hg hm Px ?_;have pk:PK X [⟨some "key",.Name j p2,Y⟩]<|wD (tC (.ref f)) Ek:=vx (rq J h1 rfl M) HA;refine callWith_kw (eF (ab he ag hs pos pins s σ H (λvs H1=>vC X.K vs H1 Q) I h) λus s1⟨vs,H1,I1,r1,q1⟩=>?_) S U rfl rfl;refine eF (pk pos pins s1 σ H1 (λzs H2=>zs=[.ref f]/\vC X.K vs H2 Q) I1 ⟨rfl,q1⟩) λws s2⟨zs,H2,I2,rz,e2,q2⟩=>?_;subst e2;obtain⟨l,as,gg,rfl,c1,c2,c3⟩:=q2;obtain⟨u,rfl,ru⟩:=vals1 r1;obtain⟨z,rfl,rz2⟩:=vals1 rz;cases ru;obtain rfl:z=.ref f:=rz2;exact Ia h4 h3 Z hr I2 c1 c2 c3
end
section
open PySem.SeqAt
open PySem.AutoSeq1 (wpAny_loadPart')
open PySem.MeetsSeq PySem.MeetsSeq2 PySem.MeetsSeq3
def Cq(l b x y:Addr)(n m:Int)(t u:Tok)(k k2:Nat)(dd W:Option Addr)(sl Y:Array BJ)(ns ms:Bc)(its z:Bb)(ra:Vals (ns.map V.int) its)(rb:Vals (ms.map V.int) z)(hn:n=ns.length)(hm:m=ms.length):
  Meets (Builtin.«tuple.__lt__» ⟨[.ref l,.ref b],[]⟩)
   (λA R s=>s.heap.get? l=some {cls:=.type "tuple",dict:=dd,data:=.seq #[.int n t,.ref x] k,slots:=sl}/\s.heap.get? b=some {cls:=.type "tuple",dict:=W,data:=.seq #[.int m u,.ref y] k2,slots:=Y}/\
    IsTup s.heap x its.toArray/\IsTup s.heap y z.toArray/\A.in1.units<cLine/\R (.ok (.ret (.bool<|fu ns ms))) s):=
 .of_wp λprog w A R s h=>by
  obtain⟨I,g,d,tk,os⟩:=s;obtain⟨hl,hb,hx,hy,hu,h⟩:=h;have f2:=AutoSeq1.sub_tuple_tuple;have eqT:∀(E:Bd)(Q:Bool->Shared->Prop),Q (decide<|ns=ms) ⟨I,g,d,tk,os⟩->wpAny (model prog w) A.in1 (eqBool (.ref x) (.ref y)) Q E ⟨I,g,d,tk,os⟩:=by intro E Q q;obtain⟨o3,g3,c3,k3,d3⟩:=id hx;obtain⟨o4,g4,c4,k4,d4⟩:=id hy;exact wpAny_eqBool_tuple hu ⟨o3,_,k3,g3,c3,d3,ItemsAre.ofInts<|by simpa using ra⟩ ⟨o4,_,k4,g4,c4,d4,ItemsAre.ofInts<|by simpa using rb⟩ q
  have Z:∀(E:Bd)(Q:Bd),Q (.bool<|HT.lexLt ns ms) ⟨I,g,d,tk,os⟩->wpAny (model prog w) A.in1 (richCompare .Lt (.ref x) (.ref y)) Q E ⟨I,g,d,tk,os⟩:=λE Q q=>HT.wH hx hy (by simpa using ra.ints) (by simpa using rb.ints) hu q
  wp_walk using wpAny_loadPart' hl,wpAny_loadPart' hb,ao9 _ (λrest b s'=>b.1=none/\s'=⟨I,g,d,tk,os⟩/\(rest=[(.int n t,.int m u),(.ref x,.ref y)]\/(n=m/\rest=[(.ref x,.ref y)])\/(n=m/\ns=ms/\rest=[]))) _
  case turn=>
   rintro⟨y',x'⟩ rest b s'⟨J,rfl,hc⟩;rcases hc with hz|⟨e1,hz⟩|⟨_,_,hz⟩
   .injection hz with M j
    injection M with S U
    subst S U;obtain⟨e,he,F⟩:=HT.En A.in1 ⟨I,g,d,tk,os⟩ n t m u;refine a0<|he prog w _ _ ?_;cases e with
    |true=>
     wp_walk
     exact⟨rfl,rfl,.inr (.inl ⟨F.mp rfl,j⟩)⟩
    |false=>
     have ne:¬n=m:=λq=>absurd (F.mpr q) rP;have hri:=HT.Eo A.in1 ⟨I,g,d,tk,os⟩ n t m u prog w;have e3:decide (n<m)=fu ns ms:=by unfold fu;rw[c0<|by lia];apply decide_eq_decide.mpr;lia
     wp_walk using hri
     exact⟨_,rfl,by rw[e3];exact h⟩
   .injection hz with M j
    injection M with S U
    subst S U;refine a0<|eqT _ _ ?_;by_cases e:ns=ms
    .rw[ki e]
     wp_walk
     exact⟨rfl,rfl,.inr (.inr ⟨e1,e,j⟩)⟩
    .rw[kx e];have e3:HT.lexLt ns ms=fu ns ms:=by unfold fu;rw[dt<|by lia]
     wp_walk using Z
     exact⟨_,rfl,by rw[e3];exact h⟩
   .cases hz
  case fin=>
   rintro⟨b1,b2⟩ s'⟨J,rfl,hc⟩;simp only at J;subst J;rcases hc with hz|⟨_,hz⟩|⟨_,e,_⟩
   .cases hz
   .cases hz
   .subst e;rw[rQ]at h
    wp_walk
    exact⟨_,rfl,by simpa[Builtin.Tuple.tupleCompareSizes]using h⟩
  case h=>exact⟨rfl,rfl,.inl rfl⟩
end
section
variable{prog:Program}{w:World}{A:Around}{E:Bd}{s:Shared}
def WJ(hl:IsTup s.heap l #[.int n t,.ref x])(hb:IsTup s.heap b #[.int m u,.ref y])
  (hx:IsTup s.heap x its.toArray)(hy:IsTup s.heap y j.toArray)(ra:Vals (ns.map V.int) its)(rb:Vals (ms.map V.int) j)(hn:n=ns.length)(hm:m=ms.length)(hu:A.units+1<cLine)
  (h:Q (.bool<|fu ns ms) s):wpAny (model prog w) A (richCompare .Lt (.ref l) (.ref b)) Q E s:=by
 obtain⟨⟨cls,dd,U,sl⟩,W,Y,k,hd⟩:=id hl;obtain⟨⟨Z,M,data2,S⟩,z,I,k2,J⟩:=id hb;simp only at Y hd I J;subst Y hd I J
 exact richCompare_meets_room ⟨_,W,rfl⟩ ⟨_,z,rfl⟩ PySem.F.slot_tuple_lt PySem.F.entry_tuple_lt (PySem.F.args_tuple_lt_2 _ _) (Cq l b x y n m t u k k2 dd M sl S ns ms its j ra rb hn hm)
  ⟨W,z,hx,hy,hu,⟨(λx=>nomatch x),h⟩⟩ (by lia)
end
def eV{κ:Type}(lt:κ->κ->Bool)(b:Option<|Addr×κ)(x:Addr×κ):Option<|Addr×κ:=match b with
 |none=>some x
 |some b=>some (if lt x.2 b.2=true then x else b)
section
variable{X:Cx}{pins:List<|Addr×Obj}{σ:St}{H:Hp}{s:Shared}
def gP.pin(h:gP X pins H b)(e:s.heap.get? b=some o)(j:∀v,o.data≠.cell v):s.heap.get? b=some o/\H b=none/\b≠X.env.locals/\b∉X.fs/\∀v,o.data≠.cell v:=⟨e,h.1,h.2.1,h.2.2.1,j⟩
def Ib{κ:Type}(Kv:κ->V->Hp->Prop)(S:Addr)(j:Option<|Addr×κ)(H:Hp)(h:Heap):Prop:=match j with
 |none=>∃c,h.get? S=some (seqObj "list" #[] c)
 |some b=>C_ λv u c=>Kv b.2 v H/\RelV v u/\h.get? S=some (seqObj "list" #[.ref b.1,u] c)
def Ib.U1{κ:Type}{Kv:κ->V->Hp->Prop}{j:Option<|Addr×κ}(b:Ib Kv S j H h):B_ λxs c=>h.get? S=some (seqObj "list" xs c)/\xs.size<=2:=by
 cases j with
 |none=>obtain⟨c,e⟩:=b;exact⟨_,_,e,ti _⟩
 |some z=>obtain⟨_,_,_,_,_,e⟩:=b;exact⟨_,_,e,ez _⟩
def Py{κ:Type}{lt:κ->κ->Bool}{Kv:κ->V->Hp->Prop}{f I S l:Addr}{es:List<|Addr×κ}{dl:List<|Str×Value}{R:Result->Shared->Prop}{A:Around}(hh:A.handled=none)(hl:az X.K H l<|es.map λe=>V.ref e.1)(hlI:l≠I)(hSI:S≠I)
  (hKv:∀k v H1 H2,aq H1 H2->Kv k v H1->Kv k v H2)
  (turn:∀(e:Addr×κ),e∈es->∀(pP:List<|Addr×Obj)(H1:Hp)(J:Shared),Inv X pP σ H1 J->aq H H1->wpAny (model X.prog X.w) A.in1 (call (.ref f) [.ref e.1]) (EP X pP σ λv H2=>aq H1 H2/\Kv e.2 v H2) (λ_ _=>False) J)
  (cmp:∀(H1:Hp)(J:Shared)(a b:κ)(va vb:V)(ua ub:Value)(Q:Bd)(E:Bd),Inv X pins σ H1 J->Kv a va H1->Kv b vb H1->RelV va ua->RelV vb ub->Q (.bool<|lt a b) J->wpAny (model X.prog X.w) A.in1 (richCompare .Lt ua ub) Q E J)
  (hR:∀H1 J,Inv X pins σ H1 J->aq H H1->match es.foldl (eV lt) none with|some b=>R (.ok (.ret (.ref b.1))) J|none=>C_ λk d r=>dl=(k,d)::r/\R (.ok (.ret d)) J):
  ∀(r j:Nat)(H1:Hp)(J:Shared)(U:Option<|Addr×κ),es.length-j=r->j<=es.length->Inv X pins σ H1 J->aq H H1->gP X pins H1 I->gP X pins H1 S->J.heap.IsListIter I l j->Ib Kv S U H1 J.heap->U=(es.take j).foldl (eV lt) none->
   codeAny (model X.prog X.w) A (.builtin "min.loop" ⟨[.ref I,.ref f,.ref S],dl⟩) R J:=by
 have Y:(toString "min"++toString ".loop":String)="min.loop":=by decide
 have em:(es.map λe=>V.ref e.1)=(es.map (·.1)).map V.ref:=by rw[oW];rfl
 rw[em]at hl;have W:=Walks.list (prog:=X.prog) (w:=X.w) (A:=A.in1) hh I l hlI ((es.map (·.1)).map Value.ref).toArray;have hsz:((es.map (·.1)).map Value.ref).toArray.size=es.length:=by simp
 have lst:∀H1 J,Inv X pins σ H1 J->aq H H1->J.heap.IsList l ((es.map (·.1)).map Value.ref).toArray:=λH1 J I1 k=>by obtain⟨its,rv,pl,_⟩:=I1.list<|k.seq hl;obtain rfl:=tI rv;exact pl.isList
 intro r;induction r with
 |zero=>
  intro j H1 J U hr hj I1 k fI fS hit M zf;have dh:j=es.length:=by lia
  obtain⟨xs,c,hS,hz⟩:=M.U1;refine codeAny_builtin PySem.F.entry_min_loop ?_;rw[Around.under_plainId RG _];show wpAny _ A.in1 (seqItems? (.ref S)>>=_) _ _ _;refine a0<|yD hS rfl ?_;show wpAny _ A.in1 (tryCatch (pyNext (.ref I)) _>>=_) _ _ _;refine a0<|XQ<|W.done _ _ _ ⟨by rw[hsz,<-dh];exact hit,lst H1 J I1 k⟩ λh' Z Bx=>?_;have I2:=I1.iJ (t':=Z) (ch:=[I]) Bx (λb M=>by rw[oI.mp M];exact fI);have WK:=Bx S _ (by simpa using hSI) hS;rw[dh,B7]at zf;have fin:=hR;rw[<-zf]at fin;cases U with
  |none=>obtain⟨c2,e2⟩:=M;rw[hS]at e2;cases e2;have fin:=fin _ _ I2 k;obtain⟨k3,d3,r3,rfl,q⟩:=fin;show wpAny _ A.in1 (rule _>>=λ_=>ret d3) _ _ _;exact a0<|Kb<|er q
  |some b=>obtain⟨v,u,c2,_,_,e2⟩:=M;rw[hS]at e2;cases e2;show wpAny _ A.in1 (updateSeq S (λ_=>#[])>>=_) _ _ _;refine a0 ?_;refine W8 WK rfl<|a0<|B6<|er ?_;have I3:=I2.iJ (t':=Z) (ch:=[S]) (h':=h'.update S<|Obj.mapSeq λ_=>(#[]:BA)) (λb o M q=>(E7 _ (Obj.mapSeq λ_=>(#[]:BA)) λz=>M<|by simp[z]).trans q) (λb M=>by rw[oI.mp M];exact fS);exact fin _ _ I3 k
 |succ r ih=>
  intro j H1 J U hr hj I1 k fI fS hit M zf;have iW:j<es.length:=by lia
  obtain⟨xs,c,hS,hz⟩:=M.U1;refine codeAny_builtin PySem.F.entry_min_loop ?_;rw[Around.under_plainId RG _];show wpAny _ A.in1 (seqItems? (.ref S)>>=_) _ _ _;refine a0<|yD hS rfl ?_;show wpAny _ A.in1 (tryCatch (pyNext (.ref I)) _>>=_) _ _ _;refine a0<|XQ<|W.item j _ _ _ (by rw[hsz];exact iW) ⟨hit,lst H1 J I1 k⟩ λv h' Z hP aef Bx=>?_;have hv:v=.ref es[j].1:=by
   have:some (Value.ref es[j].1)=some v:=by rw[<-hP];simp[iW]
   exact(ri this).symm
  subst hv;obtain⟨oI',aeg,YN,hod⟩:=id aef.1;have I2:=I1.iJ (t':=Z) (ch:=[I]) Bx (λb M=>by rw[oI.mp M];exact fI);have WK:=Bx S _ (by simpa using hSI) hS;have I3:Inv X ((I,oI')::(S,seqObj "list" xs c)::pins) σ H1 {J with heap:=h',toks:=Z}:=I2.vv λp hp=>by
   rcases eH.mp hp with rfl|hp
   .exact fI.pin (s:={J with heap:=h',toks:=Z}) aeg (by rw[hod];intro v z;cases z)
   .rcases eH.mp hp with rfl|hp
    .exact fS.pin (s:={J with heap:=h',toks:=Z}) WK (by intro v z;cases z)
    .exact I2.pin p<|B9 _ hp
  show wpAny _ A.in1 (tryCatch (holding [.ref es[j].1]<|call (.ref f) [.ref es[j].1]) _>>=_) _ _ _;refine a0<|XQ<|Cn<|y2 (turn es[j] (Ka iW) _ H1 _ I3 k) (λx s2 he=>?_) λ_ _ hF=>hF.elim;obtain⟨vk,H2,I4,rk,k2,kv⟩:=he;have pI:=I4.pin (I,oI')<|B9 _ (.head _);have pS:=I4.pin (S,seqObj "list" xs c)<|B9 _ (.tail _ (.head _))
  have I5:Inv X pins σ H2 s2:=I4.vv λp hp=>I4.pin p (by
   rcases ro.mp (show p∈pins++[]from by simpa using hp)with z|z
   .exact B9 _ (.tail _ (.tail _ z))
   .cases z)
  have fI':=fI.move pI.2.1;have fS':=fS.move pS.2.1;have aej:s2.heap.IsListIter I l<|j+1:=⟨oI',pI.1,YN,hod⟩;have U2:(es.take<|j+1).foldl (eV lt) none=eV lt U es[j]:=by rw[YK,gs iW,zf,Ep];rfl
  have put:∀(e:Addr×κ)(ve:V)(ue:Value),Kv e.2 ve H2->RelV ve ue->e=es[j]->ue=x->eV lt U es[j]=some e->∀(tk:Nat),
    codeAny (model X.prog X.w) A (.builtin "min.loop" ⟨[.ref I,.ref f,.ref S],dl⟩) R {s2 with heap:=s2.heap.update S<|Obj.mapSeq λ_=>#[.ref es[j].1,x],toks:=tk}:=by
   intro e ve ue kv rv e1 e2 ho tk;subst e1 e2;have q:=WM pS.1 λ_=>#[.ref es[j].1,ue];refine ih (j+1) H2 _ (some es[j]) (by lia) iW (I5.iJ (t':=tk) (ch:=[S]) (λb o M q=>(E7 _ (Obj.mapSeq λ_=>#[Value.ref es[j].1,ue]) λz=>M<|by simp[z]).trans q) λb M=>by rw[oI.mp M];exact fS') (k.trans k2) fI' fS' ⟨oI',(E7 _ _ hSI).trans pI.1,YN,hod⟩ ⟨ve,ue,_,kv,rv,q⟩ (by rw[U2,ho])
  cases U with
  |none=>obtain⟨c2,e2⟩:=M;rw[hS]at e2;cases e2;show wpAny _ A.in1 (updateSeq S (λ_=>#[.ref es[j].1,x])>>=_) _ _ _;refine a0 ?_;refine W8 pS.1 rfl ?_;rw[Y];exact er ⟨XB RG _,put es[j] vk x kv rk rfl rfl rfl s2.toks⟩
  |some b=>
   obtain⟨vb,ub,c2,kb,rb,e2⟩:=M;rw[hS]at e2;cases e2;have kb2:=hKv _ _ _ _ k2 kb;show wpAny _ A.in1 (tryCatch (holding [.ref es[j].1,x]<|richCompare .Lt x ub>>=_) _>>=_) _ _ _;refine a0<|XQ<|Cn<|a0<|cmp H2 s2 es[j].2 b.2 vk vb x ub _ _ I5 kv kb2 rk rb ?_;refine a0<|Cn<|F6 ?_;refine a0<|B6<|er ?_;cases uZ:lt es[j].2 b.2 with
   |true=>simp only[Pt];refine a0 ?_;refine W8 pS.1 rfl<|a0<|B6 ?_;rw[Y];exact er ⟨XB RG _,put es[j] vk x kv rk rfl rfl (by show some _=_;rw[dt uZ]) s2.toks⟩
   |false=>simp only[Pd,LI];refine a0<|B6 ?_;rw[Y];refine er ⟨XB RG _,ih (j+1) H2 s2 (some b) (by lia) iW I5 (k.trans k2) fI' fS' aej ⟨vb,ub,_,kb2,rb,pS.1⟩ ?_⟩;rw[U2];show some b=some (if lt es[j].2 b.2=true then es[j]else b);rw[c0<|by rw[uZ];simp]
end
def E8(a v:Value):argsOk "min" ⟨[a],[(Str.ofString "key",v),(Str.ofString "default",.none)]⟩:=by kernel_rfl
section
variable{X:Cx}{pins:List<|Addr×Obj}{σ:St}{H:Hp}{s:Shared}
def Kt{κ:Type}{lt:κ->κ->Bool}{Kv:κ->V->Hp->Prop}{f l:Addr}{es:List<|Addr×κ}{U:List<|Str×Value}{dv:BJ}{Q:VK}(hc:X.calm=true)(ha:argsOk "min" ⟨[.ref l],U⟩)(W:Builtin.Builtins.bindParams "min" ["key","default"] 0 ⟨[],U⟩=pure [some (.ref f),dv])
  (I:Inv X pins σ H s)(Y:az X.K H l<|es.map λe=>V.ref e.1)(Z:∀k v H1 H2,aq H1 H2->Kv k v H1->Kv k v H2)
  (M:∀(e:Addr×κ),e∈es->∀(j:List<|Addr×Obj)(H1:Hp)(z:Shared),Inv X j σ H1 z->aq H H1->wpAny (model X.prog X.w) X.A.in1 (call (.ref f) [.ref e.1]) (EP X j σ λv H2=>aq H1 H2/\Kv e.2 v H2) (λ_ _=>False) z)
  (cmp:∀(H1:Hp)(z:Shared)(a b:κ)(va vb:V)(ua ub:Value)(Q:Bd)(E:Bd),Inv X pins σ H1 z->Kv a va H1->Kv b vb H1->RelV va ua->RelV vb ub->Q (.bool<|lt a b) z->wpAny (model X.prog X.w) X.A.in1 (richCompare .Lt ua ub) Q E z)
  (h:∀H1,aq H H1->match es.foldl (eV lt) none with|some b=>Q (.ref b.1) H1|none=>B_ λd v=>dv=some d/\RelV v d/\Q v H1):
  wpAny (model X.prog X.w) X.A (call (.builtin "min") [.ref l] U) (EP X pins σ Q) X.xe s:=by
 have J:(toString "min"++toString ".loop":String)="min.loop":=by decide
 have em:(es.map λe=>V.ref e.1)=(es.map (·.1)).map V.ref:=by rw[oW];rfl
 have S:s.heap.IsList l ((es.map (·.1)).map Value.ref).toArray:=by rw[em]at Y;obtain⟨its,rv,pl,_⟩:=I.list Y;obtain rfl:=tI rv;exact pl.isList
 obtain⟨ol,UX,_⟩:=id S;have S1:=ky UX;refine kmk_tree PySem.F.kind_min PySem.F.plain_min PySem.F.entry_min ha ?_;refine a0<|wpAny_of_eq W ?_;refine a0<|er ?_;refine a0<|Ic S ?_;refine a0<|wpAny_newList ?_<|ti _;rw[J];have hS:(s.heap.push {cls:=.type "list_iterator",data:=.fields #[.ref l,.int 0 0]}).objs.size=s.heap.objs.size+1:=size_push' ..;have gI:((s.heap.push {cls:=.type "list_iterator",data:=.fields #[.ref l,.int 0 0]}).push<|seqObj "list" #[] 0).get? s.heap.objs.size=some {cls:=.type "list_iterator",data:=.fields #[.ref l,.int 0 0]}:=et _<|m8 _ rfl;have gS:((s.heap.push {cls:=.type "list_iterator",data:=.fields #[.ref l,.int 0 0]}).push<|seqObj "list" #[] 0).get? (s.heap.push {cls:=.type "list_iterator",data:=.fields #[.ref l,.int 0 0]}).objs.size=some (seqObj "list" #[] 0):=m8 _ rfl;have I1:=I.kept (t':=s.toks) (h':=(s.heap.push {cls:=.type "list_iterator",data:=.fields #[.ref l,.int 0 0]}).push<|seqObj "list" #[] 0) λb o q=>et _<|et _ q;have fI:gP X pins H s.heap.objs.size:=I.qe (H':=H) (ez _) I.fresh;have fS:gP X pins H (s.heap.push {cls:=.type "list_iterator",data:=.fields #[.ref l,.int 0 0]}).objs.size:=I.qe (H':=H) (by rw[hS];exact Rb _)<|I.c7.fresh (by rw[hS];exact Rb _);refine er ⟨XB RG _,?_⟩;refine Py (lt:=lt) (Kv:=Kv) (es:=es) (I.ok.hd hc) Y (nP S1) (by rw[hS];exact B2<|QY _) Z M cmp (λH1 z I2 k=>?_) es.length 0 H _ none rfl (ti _) I1 (aq.refl H) fI fS ⟨_,gI,rfl,rfl⟩ ⟨_,gS⟩ rfl;have q:=h H1 k;cases e:es.foldl (eV lt) none with
 |some b=>rw[e]at q;exact⟨.ref b.1,H1,I2,rfl,q⟩
 |none=>rw[e]at q;obtain⟨d,v,rfl,rv,q⟩:=q;exact⟨_,d,[],rfl,v,H1,I2,rv,q⟩
def Ku(K:cn)(vs:List V)(H:Hp)(Q:VK):Prop:=B_ λ(l:Addr)(es:List<|Addr×Bc)=>vs=[.ref l]/\az K H l (es.map λe=>V.ref e.1)/\(∀e∈es,ee K H e.1<|e.2.map V.int)/\
 ∀H',aq H H' ->match es.foldl (eV fu) none with|some b=>Q (.ref b.1) H' |none=>Q .eQ H'
def U3(K:cn)(te:TE):TE:=λσ H Q=>te σ H λx H1=>Ku K [x] H1 Q
def cC{K:cn}(q:te σ H λx H1=>Ku K [x] H1 Q):U3 K te σ H Q:=q
def S2(I:Inv X pins σ H s)(Z:∃k,S=.ref k/\g6 X.K H k a)(hb:∃k,U=.ref k/\g6 X.K H k b)(ra:RelV S J)(rb:RelV U M)(hu:A.units+1<cLine)
  (q:Q (.bool<|fu a b) s):wpAny (model X.prog X.w) A (richCompare .Lt J M) Q E s:=by
 obtain⟨W,rfl,a1,W,t1⟩:=Z;obtain⟨Y,rfl,b1,Y,t2⟩:=hb;obtain rfl:J=_:=ra;obtain rfl:M=_:=rb;obtain⟨_,z,p1,_⟩:=I.tuple<|ee.of W;obtain⟨_,F,p2,_⟩:=I.tuple<|ee.of Y;obtain⟨i1,v1,q1,_⟩:=I.tuple t1;obtain⟨i2,v2,q2,_⟩:=I.tuple t2;cases z with
 |cons j z=>
  obtain⟨t,rfl⟩:=j;cases z with
  |cons j z=>
   cases j;cases z;cases F with
   |cons j F=>
    obtain⟨t,rfl⟩:=j;cases F with
    |cons j F=>cases j;cases F;exact WJ p1 p2 q1 q2 v1 v2 rfl rfl hu q
def S3(K:cn){e:Expr}{te:TE}{j:Str}{k:Nat}{ps:Ba}{sp:Sp}{p p2 p3 p4 p5 pos:Pos}{jk:Nat}(F:Fn X.prog X.w X.K X.mg X.base j k ps sp)(hF:E4 X.K sp)(hr:eK (k+1) X.A)(hm:X.mg "min"=none)(J:PE X e te)
  (hc:X.calm=true)(hK:X.K=K)(hg:Gl X "min")(S:Gl X j)(U:(j==("__debug__":Str))=false)
  (hs:starEach [e] X.env=(false,eval e X.env)::starEach [] X.env)(Y:backTo pos (starEach [e] X.env)=(false,eval e X.env)::backTo pos (starEach [] X.env))(Z:(backTo pos<|starEach [e] X.env).any (·.1)=false):
  PE X (.Call (.Name "min" p) [e] [⟨some "key",.Name j p2,p3⟩,⟨some "default",.Constant .none jk p4,p5⟩] pos) (U3 K te):=by
 subst hK;obtain⟨f,fd,h1,h2,h3,h4⟩:=F.ex;intro pins s σ H Q I h;refine K0<|iD I hg hm OS ?_;have pk:PK X [⟨some "key",.Name j p2,p3⟩,⟨some "default",.Constant .none jk p4,p5⟩]<|wD (tC (.ref f))<|wD (tC .eQ) Ek:=vx (rq S h1 rfl U)<|vx iC HA;refine callWith_kw (eF (ab J ag hs pos pins s σ H (λvs H1=>Ku X.K vs H1 Q) I h) λus s1⟨vs,H1,I1,r1,q1⟩=>?_) Y Z rfl rfl;refine eF (pk pos pins s1 σ H1 (λzs H2=>zs=[.ref f,.eQ]/\Ku X.K vs H2 Q) I1 ⟨rfl,q1⟩) λws s2⟨zs,H2,I2,rz,e2,q2⟩=>?_;subst e2;obtain⟨l,es,rfl,c1,c2,c3⟩:=q2;obtain⟨u,rfl,ru⟩:=vals1 r1;cases ru;cases rz with
 |cons rz1 rz2=>
  obtain rfl:=rz1;cases rz2 with
  |cons rz3 rz4=>
   obtain rfl:=rz3;cases rz4
   refine Kt (κ:=Bc) (lt:=fu) (Kv:=λns v H=>∃k,v=.ref k/\g6 X.K H k ns) (es:=es) (dv:=some .none) hc (E8 _ _) rfl I2 c1 (λk v H1 H2 e⟨z,e1,e2⟩=>⟨z,e1,e2.same e⟩) (λe J pP H3 s3 I3 k=>?_) (λH3 s3 a b va vb ua ub Q E I3 ha hb ra rb q=>S2 I3 ha hb ra rb (by
    have:=hr.un;show X.A.units+1+1<cLine
    lia) q) λH3 k=>?_
   .refine y2 (E5 (E:=λ_ _=>False) (A':=X.A.in1) (us:=[.ref e.1]) (vs:=[.ref e.1]) h4 h3 hr.in1 rfl I3 (.cons rfl .nil)<|hF H3 e.1 e.2 (λv M=>aq H3 M/\∃k,v=.ref k/\g6 X.K M k e.2) (k.gh<|c2 e J) λp hp=>⟨aq.new hp,p,rfl,e.1,ah,(aq.new hp).gh<|k.gh<|c2 e J⟩) (λu s4⟨v,M,I4,_,rv,q4⟩=>⟨v,M,I4,rv,q4⟩) λ_ _ z=>z
   .have q:=c3 H3 k;cases e:es.foldl (eV fu) none with
    |some b=>rw[e]at q;exact q
    |none=>rw[e]at q;exact⟨.none,.eQ,rfl,rfl,q⟩
end
end L2
namespace Tbl
open PySem
def orb(M:Nat):Nat->Nat->AU
 |0,_=>[]
 |n+1,i=>i::orb M n ((i*5+1)%M)
def kn(M:Nat):Prop:=∀i,i<M->∀j,j<M->j∈orb M M i
def Pz(M:Nat):Nat->Nat->Nat
 |0,_=>0
 |n+1,i=>2^i|||Pz M n ((i*5+1)%M)
theorem PB:∀{n i j:Nat},(Pz M n i).testBit j=true->j∈orb M n i
 |0,_,_,h=>by simp[Pz]at h
 |n+1,i,j,h=>by
  unfold Pz at h;rw[XW,X8,U0]at h;rcases h with h|h
  .have:i=j:=y1 h;subst this;exact lx ..
  .exact kB _<|PB h
def S4(M:Nat):Bool:=(List.range M).all λi=>Pz M M i==2^M-1
def oY(h:S4 M=true):kn M:=by intro i hi j z;refine PB ?_;rw[eq_of_beq<|wy.mp h i<|F8.mpr hi,Nat.testBit_two_pow_sub_one];exact ki z
def ael:kn 8:=oY (by decide+kernel)
def aas:kn 16:=oY (by decide+kernel)
def aat:kn 32:=oY (by decide+kernel)
def aau:kn 64:=oY (by decide+kernel)
def S5(j i:Nat):0<SetTable.runEnd j i+1-i:=by unfold SetTable.runEnd;split<;>lia
theorem Kw:∀{F i p j:Nat},SetTable.layClean.free I z F i p=some j->z.getD j (some 0)=none
 |0,_,_,_,h=>by cases h
 |F+1,i,p,j,h=>by
  unfold SetTable.layClean.free at h;split at h
  .rename_i k hk;cases h;have:=List.find?_some hk;simpa using this
  .exact Kw h
theorem Kx:∀{I i p:Nat},p<32->SetTable.layClean.free z F I i p=none->∀n,n<=I->∀j∈orb (z+1) n i,F.getD j (some 0)≠none
 |0,_,_,_,_,n,hn,j,J=>by
  have:n=0:=by lia
  subst this;cases J
 |I+1,i,p,hp,h,n,hn,j,J=>by
  unfold SetTable.layClean.free at h;split at h
  .cases h
  .rename_i hk;cases n with
   |zero=>cases J
   |succ n=>
    rcases eH.mp J with e|J
    .subst e;have:=List.find?_eq_none.mp hk 0<|F8.mpr<|S5 z _;simpa using this
    .have M:(SetTable.leap z i p)=((i*5+1)%(z+1),0):=by unfold SetTable.leap;rw[Nat.div_eq_of_lt hp,XX]
     rw[M]at h;exact Kx (by lia) h n (by lia) j J
def L9(c:kn<|z+1)(I:p<32)(hi:i<z+1)(J:j<z+1)(M:F.getD j (some 0)=none):
  ∃k,SetTable.layClean.free z F (SetTable.turns z) i p=some k/\F.getD k (some 0)=none:=by
 cases h:SetTable.layClean.free z F (SetTable.turns z) i p with
 |some k=>exact⟨k,rfl,Kw h⟩
 |none=>exact absurd M<|Kx I h (z+1) (by unfold SetTable.turns;lia) j<|c i hi j J
theorem E9:∀{l:List<|Option Nat}{j:Nat},l[j]?=some none->((l.set j<|some k).filterMap id).Perm (k::l.filterMap id)
 |[],_,h=>by simp at h
 |x::l,0,h=>by
  have:x=none:=by simpa using h
  subst this;simp
 |x::l,j+1,h=>by
  have h:l[j]?=some none:=by simpa using h
  have z:=E9 (k:=k) h;cases x with
  |none=>simpa using z
  |some y=>
   have:(List.filterMap id<|some y::l.set j (some k)).Perm<|y::k::l.filterMap id:=by simpa using z.cons y
   exact this.trans<|List.Perm.swap _ _ _
def Mj{l:List<|Option Nat}(h:(l.filterMap id).length<l.length):∃j:Nat,l[j]?=some none:=by
 induction l with
 |nil=>simp at h
 |cons x l z=>
  cases x with
  |none=>exact⟨0,rfl⟩
  |some y=>obtain⟨j,F⟩:=z (by simpa using h);exact⟨j+1,by simpa using F⟩
def getD_none{z:Array<|Option Nat}(h:z.getD j (some 0)=none):z.toList[j]?=some none/\j<z.size:=by
 unfold Array.getD at h;split at h
 .rename_i F;refine⟨?_,F⟩;rw[Pl,aoD F];have:z[j]=none:=h;rw[this]
 .cases h
def A1{z:Array<|Option Nat}(h:z.toList[j]?=some none):z.getD j (some 0)=none:=by rw[Pl]at h;rw[Array.getD_eq_getD_getElem?,h];rfl
theorem Fb{I:Nat}(c:kn<|I+1):∀(hs:Bc)(F:Array<|Option Nat)(k:Nat),F.size=I+1->(F.toList.filterMap id).Perm (List.range k)->k+hs.length<=I->(∀h∈hs,SetTable.bits h<32)->
  ∃J:Array<|Option Nat,hs.foldl (λacc h=>do
   let(F,k)<-acc;let j<-SetTable.layClean.free I F (SetTable.turns I) (SetTable.bits h%(I+1)) (SetTable.bits h)
   pure (F.setIfInBounds j<|some k,k+1)) (some (F,k))=some (J,k+hs.length)/\J.size=I+1/\(J.toList.filterMap id).Perm (List.range<|k+hs.length)
 |[],F,k,h1,h2,_,_=>⟨F,rfl,h1,h2⟩
 |h::hs,F,k,h1,h2,h3,h4=>by
  rw[kA]at h3;have Z:(F.toList.filterMap id).length<F.toList.length:=by rw[h2.length_eq,Md,xD,h1];lia
  obtain⟨j0,M⟩:=Mj Z
  obtain⟨j,e,hj⟩:=L9 c (h4 h<|lx ..) (Nat.mod_lt _<|by lia) (by
   have:=(getD_none<|A1 M).2
   lia)<|A1 M
  obtain⟨S,hj2⟩:=getD_none hj;have hp:((F.setIfInBounds j<|some k).toList.filterMap id).Perm<|List.range<|k+1:=by rw[Array.toList_setIfInBounds];refine(E9 S).trans ?_;rw[ap5];exact(h2.cons k).trans (List.perm_append_singleton _ _).symm
  obtain⟨o2,W,z1,Y⟩:=Fb c hs (F.setIfInBounds j<|some k) (k+1) (by rw[Array.size_setIfInBounds];exact h1) hp (by lia) λx hx=>h4 x<|kB _ hx;refine⟨o2,?_,z1,?_⟩
  .rw[Hr];have e3:((some (F,k):Option<|Array (Option Nat)×Nat)>>=λx=>match x with|(F,k)=>(SetTable.layClean.free I F (SetTable.turns I) (SetTable.bits h%(I+1))<|SetTable.bits h)>>=λj=>pure (F.setIfInBounds j<|some k,k+1))=some (F.setIfInBounds j<|some k,k+1):=by show((SetTable.layClean.free I F (SetTable.turns I) (SetTable.bits h%(I+1))<|SetTable.bits h)>>=λj=>pure (F.setIfInBounds j<|some k,k+1))=_;rw[e];rfl
   have U:k+1+hs.length=k+(h::hs).length:=by rw[kA];lia
   rw[U]at W;exact(congrArg (λz=>List.foldl _ z hs) e3).trans W
  .have U:k+1+hs.length=k+(h::hs).length:=by rw[kA];lia
   rw[U]at Y;exact Y
def PD(c:kn<|j+1)(h1:hs.size<=j)(h2:∀h∈hs.toList,SetTable.bits h<32):
  ∃z:Array<|Option Nat,SetTable.layClean j hs=some z/\z.size=j+1/\(z.toList.filterMap id).Perm (List.range hs.size):=by
 have h0:((Array.replicate (j+1) (none:Option Nat)).toList.filterMap id).Perm<|List.range 0:=by
  rw[Array.toList_replicate];have:∀n,List.filterMap id (List.replicate n (none:Option Nat))=[]:=by
   intro n;induction n with
   |zero=>rfl
   |succ n F=>rw[Mg,EA];exact F
  rw[this];exact M5 _
 obtain⟨o,e,I,J⟩:=Fb c hs.toList (Array.replicate (j+1) none) 0 (by simp) h0 (by simpa using h1) h2;refine⟨o,?_,I,by simpa using J⟩;unfold SetTable.layClean;rw[<-Array.foldl_toList,e];rfl
def PF(z:Array<|Option Nat):((List.range z.size).filterMap λj=>(z.getD j none).map (j, ·)).map (·.2)=z.toList.filterMap id:=by
 rw[List.map_filterMap];have e:z.toList=(List.range z.size).map λj=>z.getD j none:=by
  apply Q2;intro i;rw[Pl,mq];by_cases hi:i<z.size
  .rw[aoD hi,Mi hi];simp[hi]
  .rw[Array.getElem?_eq_none<|by lia,Pm<|by simp;lia];rfl
 rw[e,aoO]
 congr 1
 funext j;simp;cases z[j]?.getD none<;>rfl
def A2{led plain:Bool}(c:kn<|z+1)(h1:hs.size<=z)(h2:∀h∈hs.toList,SetTable.bits h<32):
  B_ λ(t:SetTable)(F:Array Nat)=>SetTable.laid z finger moves led plain hs=some (t,F)/\t.mask=z/\t.dummies=#[]/\t.place.size=F.size/\F.toList.Perm (List.range hs.size):=by
 obtain⟨o,e,I,J⟩:=PD c h1 h2;unfold SetTable.laid;rw[e];refine⟨_,_,rfl,rfl,rfl,by simp,?_⟩;rw[aov,<-I,PF];exact J
def Ie{F:Type}(es:Array F){j:Array Nat}(h:j.toList.Perm<|List.range es.size):(j.filterMap (es[·]?)).toList.Perm es.toList:=by
 rw[Array.toList_filterMap];refine(h.filterMap _).trans ?_;have e:(List.range es.size).filterMap (es[·]?)=es.toList:=by
  have:es.toList=(List.range es.size).filterMap (es.toList[·]?):=by
   generalize z:es.toList=l;have hs:es.size=l.length:=by rw[<-z];simp
   rw[hs];clear z hs;induction l with
   |nil=>rfl
   |cons x l I=>
    rw[kA,YC,EA];simp
    congr 1
  rw[this]
  congr 1
  funext i;rw[Pl]
 rw[e]
end Tbl
namespace L2
open PySem PySem.Spec PyProof.Rows
def qp:Value->Int
 |.int n _=>n
 |_=>0
def f9(P:Program)(w:World)(h:Heap)(a:Addr)(ns:Bc):Prop:=D_ λo es ep t=>h.get? a=some o/\o.ExactSet/\o.data=.set es ep t/\ElemsOf (PySem.intKind P w) es.toList/\t.fits es.size=true/\(es.toList.map λe=>qp e.2).Perm ns
def jC(h:ElemsOf (PySem.intKind P w) es)(z:e∈es):∃t,e=(hashInt<|qp e.2,.int (qp e.2) t):=by obtain⟨⟨k,h1,h2⟩,_⟩:=h e z;obtain⟨t,j⟩:=Value.isInt_shape<|h1;obtain⟨a,b⟩:=e;simp only at h2 j;subst j;exact⟨t,by rw[h2];rfl⟩
def qr:(PySem.intKind P w).is n (.int n t)=true:=by show Value.isInt n (.int n t)=true;simp[Value.isInt]
section
variable{P:Program}{w:World}{h:Heap}{a:Addr}{ns:Bc}
def Fc{l m:Bc}(j:m.Nodup)(h:∀x∈m,x∈l)(F:l.length=m.length):l.Perm m:=by
 induction m generalizing l with
 |nil=>cases l with
  |nil=>exact M5 _
  |cons _ _=>simp at F
 |cons x m J=>
  rw[nM]at j;have p:=List.perm_cons_erase<|h x<|lx ..;refine p.trans<|List.Perm.cons x<|J j.2 (λy I=>?_) ?_
  .exact(List.mem_erase_of_ne λe=>j.1<|by rw[<-e];exact I).mpr<|h y<|kB _ I
  .have:=p.length_eq;rw[kA]at this F;lia
def f9.setOf(x:f9 P w h a ns)(hz:ns.length<scanBound):h.SetOf (PySem.intKind P w) a (λk=>decide<|k∈ns) ns.length:=by
 obtain⟨o,es,ep,t,J,M,hd,j,S,I⟩:=x;have U:es.size=ns.length:=by rw[<-I.length_eq,ek,xD]
 refine⟨o,es,ep,t,J,M,hd,j,λk=>?_,by lia,S,U⟩;rw[Oa,<-I.mem_iff,n8];constructor
 .rintro⟨e,z,rfl⟩;obtain⟨tk,F⟩:=jC j z;refine⟨e,z,?_⟩;rw[F];exact qr
 .rintro⟨e,z,hk⟩;refine⟨e,z,?_⟩;obtain⟨tk,F⟩:=jC j z;rw[F]at hk|-;exact(PySem.intKind P w).inj _ _ _ qr hk
def f9.of{S:Int->Bool}(x:h.SetOf (PySem.intKind P w) a S n)(F:ns.Nodup)(I:∀k,S k=true↔k∈ns)(hl:n=ns.length):f9 P w h a ns:=by obtain⟨o,es,ep,t,J,M,hd,j,U,hb,Y,hsz⟩:=x;refine⟨o,es,ep,t,J,M,hd,j,Y,Fc F (λk hk=>?_)<|by rw[ek,xD];lia⟩;obtain⟨e,z,hi⟩:=(U k).mp<|(I k).mpr hk;refine n8.mpr ⟨e,z,?_⟩;obtain⟨tk,Z⟩:=jC j z;rw[Z]at hi|-;exact(PySem.intKind P w).inj _ _ _ qr hi
def f9.keeps(x:f9 P w h a ns)(k:∀o,h.get? a=some o->h'.get? a=some o):f9 P w h' a ns:=by obtain⟨o,es,ep,t,j,r⟩:=x;exact⟨o,es,ep,t,k o j,r⟩
def f9.typeIs{s:Shared}(x:f9 P w s.heap a ns):s.TypeIs (.ref a) "set":=by obtain⟨o,es,ep,t,j,z,_⟩:=x;exact⟨o,j,z.1⟩
def f9.stored(z:h.get? a=some o)(F:o.ExactSet)(hd:o.data=.set es ep t)(j:ElemsOf (PySem.intKind P w) es'.toList)(I:t'.fits es'.size=true)(J:(es'.toList.map λe=>qp e.2).Perm ns):
  f9 P w (h.update a<|Obj.putSet es' t') a ns:=by
 have M:(h.update a<|Obj.putSet es' t').get? a=some {o with data:=.set es' (ep+1) t'}:=by have:=R6 (Obj.putSet es' t') z (by rw[putSet_of es' t' hd];rfl);rw[putSet_of es' t' hd]at this;exact this
 exact⟨_,es',ep+1,t',M,F,rfl,j,I,J⟩
end
def Small(ns:Bc):Prop:=∀k∈ns,0<=k/\k<20
def Ig(h0:0<=k)(h1:k<20):SetTable.bits (hashInt k)<32:=by
 have:∀n:Fin 20,SetTable.bits (hashInt (n.val:Int))<32:=by decide+kernel
 obtain⟨n,rfl⟩:=Int.eq_ofNat_of_zero_le h0;exact this ⟨n,by lia⟩
def PH:∀n:Nat,n<=20->(0+n)*5>=7*3->(SetTable.sizeAbove ((0+n)*2)=16\/SetTable.sizeAbove ((0+n)*2)=32\/SetTable.sizeAbove ((0+n)*2)=64)/\n+1<=SetTable.sizeAbove ((0+n)*2):=by
 have:∀n:Fin 21,(0+n.val)*5>=7*3->(SetTable.sizeAbove ((0+n.val)*2)=16\/SetTable.sizeAbove ((0+n.val)*2)=32\/SetTable.sizeAbove ((0+n.val)*2)=64)/\n.val+1<=SetTable.sizeAbove ((0+n.val)*2):=by decide+kernel
 intro n j;exact this ⟨n,by lia⟩
def fits_of{t:SetTable}(h1:t.place.size=n)(h2:t.fill<=t.mask):t.fits n=true:=by unfold SetTable.fits;simp[h1,h2]
def vD{t:SetTable}(h:t.fits n=true):t.place.size=n/\t.fill<=t.mask:=by unfold SetTable.fits at h;simpa using h
section
variable{P:Program}{w:World}{A:Around}{E:Bd}{s:Shared}{R O:Addr}{ns:Bc}
structure Fd(n:Nat)(t:SetTable):Prop where
 pl:t.place=#[]
 du:t.dummies=#[]
 cv:Tbl.kn (t.mask+1)
 le:n<=t.mask
def Fd.fill(r:Fd n t):t.fill=0:=by unfold SetTable.fill;rw[r.pl,r.du];rfl
def Fd.fits{n:Nat}(r:Fd n t):t.fits 0=true:=fits_of (by rw[r.pl];rfl) (by rw[r.fill];exact ti _)
def PJ(J:n<=20)(z:s.heap.get? R=some {cls:=.type "set",dict:=none,data:=.set #[] 0 (.fresh 0 0 led)})
  (h:∀h' ep t,Heap.SameBut R s.heap h' ->h'.get? R=some {cls:=.type "set",dict:=none,data:=.set #[] ep t}->Fd n t->Q () {s with heap:=h'}):
  wpAny (model P w) A (setRoomFor R n) Q E s:=by
 have I:(SetTable.fresh 0 0 led).fits (#[]:Array<|Int×Value).size=true:=rfl;refine a0<|Kd z rfl I ?_;dsimp only;show wpAny _ _ (match(if(0+n)*5>=7*3 then some ((0+n)*2)else none)with|some wanted=>setRelay R wanted|_=>pure PUnit.unit) _ _ _;by_cases F:(0+n)*5>=7*3
 .rw[dt F];obtain⟨M,h4⟩:=PH n J F;dsimp only;unfold setRelay;refine a0<|Kd z rfl I ?_;dsimp only;rw[c0<|by rw[Pr];lia];have cv:Tbl.kn<|SetTable.sizeAbove ((0+n)*2)-1+1:=by
   rcases M with e|e|e
   .rw[e];exact Tbl.aas
   .rw[e];exact Tbl.aat
   .rw[e];exact Tbl.aau
  obtain⟨t,j,e,t1,S,U,W⟩:=Tbl.A2 (finger:=(SetTable.fresh 0 0 led).finger) (moves:=(SetTable.fresh 0 0 led).movedTo<|SetTable.sizeAbove ((0+n)*2)-1) (led:=(SetTable.fresh 0 0 led).led) (plain:=(SetTable.fresh 0 0 led).plain) cv (hs:=(#[]:Array<|Int×Value).map (·.1)) (by simp) (λx Y=>by simp at Y);have Z:SetTable.relaid (SetTable.fresh 0 0 led) ((#[]:Array<|Int×Value).map (·.1)) ((0+n)*2)=some (t,j):=e;rw[Z];have o0:j=#[]:=by have:j.toList=[]:=List.Perm.eq_nil (by simpa using W);exact Array.toList_eq_nil_iff.mp this
  subst o0;refine a0<|wpAny_of_eq (a:=((#[]:Array<|Int×Value),t)) rfl ?_;have hg:(s.heap.update R<|Obj.putSet #[] t).get? R=some {cls:=.type "set",dict:=none,data:=.set #[] (0+1) t}:=by have:=R6 (Obj.putSet #[] t) z (by rw[putSet_of #[] t rfl];rfl);rw[putSet_of #[] t rfl]at this;exact this
  refine Ur z rfl (h _ _ t (Mf s.heap R _) hg ⟨Array.size_eq_zero_iff.mp U,S,by rw[t1];exact cv,by rw[t1];lia⟩)<|ti _
 .rw[c0 F];refine er ?_;have:=h s.heap 0 (SetTable.fresh 0 0 led) (R3 R s.heap) z ⟨rfl,rfl,Tbl.ael,by show n<=7;lia⟩;exact this
def Fe{led:Bool}(hn:ns.length<=20)(hs:Small ns)(hR:s.heap.get? R=some {cls:=.type "set",dict:=none,data:=.set #[] 0 (.fresh 0 0 led)})(hO:f9 P w s.heap O ns)(I:R≠O)
  (h:∀h',Heap.SameBut R s.heap h' ->f9 P w h' R ns->Q () {s with heap:=h'}):wpAny (model P w) A (setMerge R O F) Q E s:=by
 obtain⟨o,es,ep,t,ho,U,hd,z,hf,J⟩:=hO;have hl:es.size=ns.length:=by rw[<-J.length_eq,ek,xD]
 obtain⟨W,Y⟩:=vD hf;unfold setMerge;rw[c0<|by simpa using I];refine a0<|Kd ho hd hf ?_;dsimp only;by_cases h0:es.isEmpty=true
 .rw[dt h0];have e0:es=#[]:=Array.isEmpty_iff.mp h0;subst e0;refine er ?_;exact h s.heap (R3 R s.heap) ⟨_,#[],0,_,hR,⟨rfl,rfl,rfl⟩,rfl,z,rfl,J⟩
 .rw[c0 h0];refine a0<|PJ (n:=es.size) (by lia) hR λh1 ep1 t1 Z M S=>?_;have ho1:h1.get? O=some o:=(Z.2 O<|iq I).trans ho;refine a0<|Kd M rfl S.fits ?_;dsimp only;unfold SetTable.road;rw[c0<|by rw[S.fill];simp];by_cases hm:(t1.mask==t.mask&&t.dummies.isEmpty)=true
  .rw[dt hm];refine Ur M rfl (h _ (Z.trans<|Mf h1 R _)<|f9.stored M ⟨rfl,rfl,rfl⟩ rfl z (fits_of W Y) J) (by rw[Pr];lia)
  .rw[c0 hm]
   obtain⟨t2,j,e,c1,c2,c3,c4⟩:=Tbl.A2 (finger:=t1.finger) (moves:=t1.moves) (led:=t1.led&&t.led) (plain:=t1.plain&&t.plain) S.cv (hs:=es.map (·.1)) (by rw[Array.size_map];exact S.le) (λx U=>by
    rw[Array.toList_map]at U;obtain⟨e,he,rfl⟩:=n8.mp U;obtain⟨tk,e2⟩:=jC z he;have hk:qp e.2∈ns:=J.mem_iff.mp<|n8.mpr ⟨e,he,rfl⟩;rw[e2]
    exact Ig (hs _ hk).1 (hs _ hk).2)
   dsimp only;rw[e];rw[Array.size_map]at c4;have op:=Tbl.Ie es c4;have hsz:(j.filterMap (es[·]?)).size=es.size:=by rw[<-xD,op.length_eq,xD]
   refine a0<|wpAny_of_eq (a:=(j.filterMap (es[·]?),t2)) ?_ ?_
   .show(if((j.filterMap (es[·]?)).size !=es.size)=true then _ else _)=_;rw[c0<|by rw[hsz];simp]
   .have c5:=c4.length_eq;rw[xD,Md]at c5;refine Ur M rfl (h _ (Z.trans<|Mf h1 R _)<|f9.stored M ⟨rfl,rfl,rfl⟩ rfl (z.perm op) (fits_of (c3.trans<|c5.trans hsz.symm) ?_)<|(op.map _).trans J) (by rw[hsz,Pr];lia);unfold SetTable.fill;rw[c2,c3,c5,c1];exact S.le
theorem qt{j:Type}:∀(l:List j)(i:Nat)(h:i<l.length),(l[i]::l.eraseIdx i).Perm l
 |x::l,0,_=>M5 _
 |x::l,i+1,h=>by have:=qt l i (by simpa using h);rw[List.eraseIdx_cons_succ];exact(List.Perm.swap _ _ _).trans<|this.cons x
theorem A3{z:Type}(next:Nat->Nat):∀(j k:Nat)(left:List z)(out:Array z),j=left.length->(pickOrder.go next j k left out).toList.Perm (out.toList++left)
 |0,k,left,out,h=>by have:left=[]:=apv h.symm;subst this;unfold pickOrder.go;rw[B5]
 |j+1,k,left,out,h=>by
  unfold pickOrder.go;have hi:next k%left.length<left.length:=Nat.mod_lt _ (by lia)
  rw[gs hi];dsimp only;refine(A3 next j (k+1) (left.eraseIdx<|next k%left.length) (out.push left[next k%left.length])<|by rw[List.length_eraseIdx];split<;>lia).trans ?_;rw[Array.toList_push,Ed];refine List.Perm.append_left _ ?_;exact qt left _ hi
def Ff{Q:Array (Int×Value)->Shared->Prop}(U:s.heap.get? O=some o)(hx:o.ExactSet)(hd:o.data=.set es ep t)(W:ElemsOf (PySem.intKind P w) es.toList)(Y:t.fits es.size=true)
  (I:f9 P w s.heap R ns)(iw:R≠O)(hz:ns.length<scanBound)(h:∀es' h',es'.toList.Perm es.toList->Heap.SameBut R s.heap h' ->f9 P w h' R ns->Q es' {s with heap:=h'}):wpAny (model P w) A (setWalkUnseen O [R]<|some R) Q E s:=by
 obtain⟨oR,eR,epR,tR,J,xR,M,lR,S,pR⟩:=id I;have quiet:∀(l:List<|Int×Value)(j:Option Bool×Unit->Shared->Prop),ElemsOf (PySem.intKind P w) l->j (none,()) s->∀(body:(Int×Value)->(Option Bool×Unit)->Sem (ForInStep<|Option Bool×Unit)),(∀Z n tk,body (Z,.int n tk) (none,())=pure (.yield (none,())))->wpAny (model P w) A (forIn l (none,()) body) j E s:=by
  intro l j hl q body hb;induction l with
  |nil=>rw[GS];exact er q
  |cons e l ih=>obtain⟨tk,e2⟩:=jC hl<|lx ..;rw[F9,e2,hb];exact a0<|er<|ih λx hx=>hl x<|kB _ hx
 refine a0<|Kd U hd Y ?_;refine a0<|a0<|wpAny_askSetting<|er ?_;have bt:∀b:Bool,(model P w).w.params.followText "set-order"=b->(b=true\/(t.led&&t.plain)=true\/es.size<=1)->wpAny (model P w) A (setWalk O) Q E s:=by
  intro b hb F;refine a0<|Kd U hd Y ?_;refine a0<|a0<|wpAny_askSetting<|er ?_;rw[hb];cases b with
  |true=>rw[dt rfl];refine a0<|wpAny_askSetting<|er ?_;refine h _ s.heap ?_ (R3 R s.heap) I;have:=A3 ((model P w).w.params.setOrder O ep) es.size 0 es.toList #[] (by simp);rw[show(#[]:Array<|Int×Value).toList++es.toList=es.toList from rfl]at this;exact this
  |false=>
   rw[c0<|by simp];have fin:Q es s:=h es s.heap (M5 _) (R3 R s.heap) I;have c1:(!t.plain&&decide (es.size>1))=false:=by
    rcases F with z|z|z
    .cases z
    .simp at z;simp[z.2]
    .simp;intro _;lia
   have c2:(!t.led&&decide (es.size>1))=false:=by
    rcases F with z|z|z
    .cases z
    .simp at z;simp[z.1]
    .simp;intro _;lia
   show wpAny _ _ (if(!t.plain&&decide (es.size>1))=true then _ else _) _ _ _;rw[c1,c0<|by simp];refine a0 ?_;show wpAny _ _ (if(!t.led&&decide (es.size>1))=true then _ else _) _ _ _;rw[c2,c0<|by simp];exact er<|er fin
 by_cases F:((model P w).w.params.followText "set-order"||t.led&&t.plain||decide (es.size<=1))=true
 .rw[dt F];refine bt _ rfl ?_;simpa[or_assoc]using F
 .rw[c0 F];refine a0 ?_;have qu:∀j:Bool->Shared->Prop,j true s->wpAny (model P w) A (setsQuiet [O,R]) j E s:=by intro j q;unfold setsQuiet;refine a0 ?_;rw[F9];refine a0<|a0<|wpAny_setEntries_of U hd Y<|a0 ?_;rw[<-R4];refine quiet es.toList _ W ?_ _ λ_ _ _=>rfl;refine er ?_;show wpAny _ _ (forIn [R] _ _) _ _ _;rw[F9];refine a0<|a0<|wpAny_setEntries_of J M S<|a0 ?_;rw[<-R4];refine quiet eR.toList _ lR ?_ _ λ_ _ _=>rfl;refine er ?_;show wpAny _ _ (forIn [] _ _) _ _ _;rw[GS];exact er<|er q
  refine qu _ ?_;rw[c0<|by simp];refine a0<|Kb<|a0<|Kd J M S ?_;dsimp only;split
  .refine a0<|Ur J M ?_ ?_
   .exact er<|h es _ (M5 _) (Mf s.heap R _)<|f9.stored J xR M lR (fits_of (vD S).1 (vD S).2) pR
   .have:eR.size=ns.length:=by rw[<-pR.length_eq,ek,xD]
    exact fits_of_scanBound (by lia)
  .exact er<|h es s.heap (M5 _) (R3 R s.heap) I
def Ih{k:Int}(hR:f9 P w s.heap R ns)(hz:ns.length<scanBound)(EV:ns.Nodup)
  (h:∀h',Heap.SameBut R s.heap h' ->(k∈ns->f9 P w h' R (ns.erase k))->(¬k∈ns->f9 P w h' R ns)->Q (decide<|k∈ns) {s with heap:=h'}):wpAny (model P w) A (setDiscardHashed R (.int k tk)<|hashInt k) Q E s:=by
 obtain⟨o,es,ep,t,U,hx,hd,F,hf,hp⟩:=id hR;have hl:es.size=ns.length:=by rw[<-hp.length_eq,ek,xD]
 refine a0 ?_;refine a0<|Kd U hd hf ?_;dsimp only;rw[byScan_of (knd:=PySem.intKind P w) rfl (by lia) F];simp only[↓reduceIte];refine a0<|Kb ?_;refine a0<|wpAny_setScan_of (knd:=PySem.intKind P w) (k:=k) qr U hd hf F ?_;cases hr:List.findIdx? (λe=>(PySem.intKind P w).is k e.2) es.toList with
 |none=>
  dsimp only;have hn:¬k∈ns:=λhk=>by obtain⟨e,W,h1⟩:=n8.mp<|hp.mem_iff.mpr hk;have:=aoA.mp hr e W;obtain⟨tk,S⟩:=jC F W;rw[h1]at S;rw[S]at this;rw[show(PySem.intKind P w).is k (Value.int k tk)=true from qr]at this;cases this
  refine er<|er ?_;have:=h s.heap (R3 R s.heap) (λz=>absurd z hn) λ_=>hR;rw[kx hn]at this;exact this
 |some j=>
  dsimp only;obtain⟨Y,Z,_⟩:=anu.mp hr;have V9:qp es.toList[j].2=k:=by obtain⟨tk,S⟩:=jC F<|Ka Y;rw[S]at Z|-;exact(PySem.intKind P w).inj _ _ _ qr Z
  have hk:k∈ns:=hp.mem_iff.mp<|n8.mpr ⟨_,Ka Y,V9⟩;obtain⟨f1,f2⟩:=vD hf;rw[xD]at Y;refine er ?_;rw[Vf];dsimp only;refine a0<|Kd U hd hf ?_;dsimp only;have I:(SetTable.eraseAt es j).toList=es.toList.eraseIdx j:=by unfold SetTable.eraseAt;rw[List.eraseIdx_eq_take_drop_succ];simp;exact Oc (by simp)
  have J:(SetTable.eraseAt es j).size=es.size-1:=by rw[<-xD,I,List.length_eraseIdx,xD,dt Y]
  refine a0<|Ur U hd ?_ (by rw[J];exact fits_of_scanBound<|by lia);refine a0<|wpAny_point<|er ?_;have M:(t.drop j).fits (SetTable.eraseAt es j).size=true:=by
   unfold SetTable.drop;have jc:t.place[j]?=some t.place[j]:=aoD (by lia);rw[jc];dsimp only;have z1:(SetTable.eraseAt t.place j).size=t.place.size-1:=by rw[<-xD];unfold SetTable.eraseAt;simp;lia
   have z2:∀(xs:Array Nat)(p x:Nat),(SetTable.insertAt xs p x).size=xs.size+1:=by intro xs p x;unfold SetTable.insertAt;simp;lia
   refine fits_of ?_ ?_
   .show(SetTable.eraseAt t.place j).size=_;rw[z1,J,f1]
   .show(SetTable.eraseAt t.place j).size+(SetTable.insertAt t.dummies _ _).size<=t.mask;rw[z1,z2];unfold SetTable.fill at f2;lia
  have hpp:((SetTable.eraseAt es j).toList.map λe=>qp e.2).Perm<|ns.erase k:=by rw[I];have e1:=(qt es.toList j<|by simpa using Y).map λe=>qp e.2;rw[ip,V9]at e1;have S:=e1.trans hp;have e3:=S.erase k;rw[List.erase_cons_head]at e3;exact e3
  have:=h _ (Mf s.heap R _) (λ_=>f9.stored U hx hd (es':=SetTable.eraseAt es j) (t':=t.drop j) (by
   intro e W;rw[I]at W
   exact F e<|List.mem_of_mem_eraseIdx W) M hpp) λz=>absurd hk z
  rw[ki hk]at this;exact this
def fc(ns:Bc)(k:Int):Bc:=if k∈ns then ns.erase k else ns++[k]
def mz(h:ns.Nodup):(fc ns k).Nodup:=by
 unfold fc;split
 .exact h.erase k
 .rename_i hk;rw[Q4];refine⟨h,by simp,λa z b j=>?_⟩;rw[oI]at j;subst j;exact λe=>hk<|e▸z
def Ii:(fc ns k).length<=ns.length+1:=by
 unfold fc;split
 .exact B8<|List.length_erase_le ..
 .simp
def PM(I:f9 P w s.heap R ns)(hz:ns.length+1<scanBound)(j:ns.Nodup)(h:∀h',Heap.SameBut R s.heap h' ->f9 P w h' R (fc ns k)->Q () {s with heap:=h'}):
  wpAny (model P w) A (holding [.int k tk]<|do if !(<-setDiscardHashed R (.int k tk) (hashInt k))then let _<-setAddHashed R (.int k tk) (hashInt k)) Q E s:=by
 refine Cn<|a0<|Ih I (by lia) j λh1 z J M=>?_;by_cases hk:k∈ns
 .rw[ki hk,c0<|by simp];refine er<|h h1 z ?_;unfold fc;rw[dt hk];exact J hk
 .rw[kx hk,dt<|by simp];refine a0<|wpAny_setAddHashed_of (knd:=PySem.intKind P w) (k:=k) qr rfl ((M hk).setOf<|by lia) (by lia) λh2 F U=>er ?_;refine h h2 (z.trans F) ?_;have e:fc ns k=ns++[k]:=by unfold fc;rw[c0 hk]
  rw[e];refine f9.of U (by rw[<-e];exact mz j) (λx=>?_) ?_
  .simp
  .rw[c0<|by simpa using hk];simp
end
section
variable{P:Program}{w:World}{A:Around}{E:Bd}{s:Shared}{R O:Addr}{ns ms:Bc}
def vE(j:s.TypeIs (.ref R) "set")(h:Q true s):wpAny (model P w) A (Builtin.Frozenset.isAnySet (.ref R)) Q E s:=by unfold Builtin.Frozenset.isAnySet;refine a0<|R8 j sub_set_self ?_;exact er h
def Fg{nm:String}(hR:f9 P w s.heap R ns)(hO:f9 P w s.heap O ms)(j:O≠R)(hz:ns.length+ms.length+1<scanBound)(S:ns.Nodup)
  (h:∀(h':Heap)(ks:Bc),Heap.SameBut R s.heap h' ->ks.Perm ms->f9 P w h' R (ks.foldl fc ns)->Q () {s with heap:=h'}):wpAny (model P w) A (Builtin.Frozenset.symmetricDifferenceUpdate nm R (.ref O)) Q E s:=by
 have hT:=hO.typeIs;obtain⟨o,es,ep,t,U,W,hd,z,Y,hp⟩:=id hO;have hl:es.size=ms.length:=by rw[<-hp.length_eq,ek,xD]
 unfold Builtin.Frozenset.symmetricDifferenceUpdate;rw[c0<|by simpa using j];refine a0<|wpAny_typeOf hT ?_;rw[c0<|by decide];refine a0<|vE hT ?_;rw[dt rfl];refine a0<|er ?_;refine a0<|er ?_;refine a0<|wpAny_setEpoch_of U hd Y ?_;refine Cn ?_;refine a0<|Ff U W hd z Y hR (iq j) (by lia) λes' h1 Z WN r1=>?_;rw[<-R4];have F:=z.perm Z;have kp:(es'.toList.map λe=>qp e.2).Perm ms:=(Z.map _).trans hp;refine a0<|ao9 _ (λrest _ s'=>B_ λh' ks=>s'={s with heap:=h'}/\Heap.SameBut R s.heap h'/\ks++rest.map (λe=>qp e.2)=es'.toList.map (λe=>qp e.2)/\f9 P w h' R (ks.foldl fc ns)/\(ks.foldl fc ns).Nodup/\(ks.foldl fc ns).length<=ns.length+ks.length/\ElemsOf (PySem.intKind P w) rest) _ ?_ ?_ _ _ ⟨h1,[],rfl,WN,rfl,r1,S,by simp,F⟩
 .rintro e rest b s'⟨h',ks,rfl,J,M,rn,nd,hlen,hr⟩;obtain⟨tk,e2⟩:=jC hr<|lx ..;have hks:ks.length<ms.length:=by have:=congrArg List.length M;simp only[mu,ek,kA]at this;have e3:=Z.length_eq;have e4:=xD (xs:=es);lia
  rw[e2];refine a0<|PM (ns:=ks.foldl fc ns) (s:={s with heap:=h'}) rn (by lia) nd λh2 I r2=>?_;have BK:h2.get? O=some o:=(I.2 O j).trans<|(J.2 O j).trans U;unfold Builtin.Frozenset.unchanged;refine a0<|a0<|wpAny_setEpoch_of BK hd Y ?_;rw[c0<|by simp];refine er<|er ?_;refine⟨h2,ks++[qp e.2],rfl,J.trans I,?_,?_,?_,?_,λx W=>hr x<|kB _ W⟩
  .rw[<-M];simp
  .rw[Ep];exact r2
  .rw[Ep];exact mz nd
  .rw[Ep,mu];have:=Ii (ns:=ks.foldl fc ns) (k:=qp e.2);show(fc (ks.foldl fc ns)<|qp e.2).length<=_;simp only[List.length_singleton];lia
 .rintro b s'⟨h',ks,rfl,J,M,rn,_,_,_⟩;refine er<|h h' ks J ?_ rn;have:ks=es'.toList.map λe=>qp e.2:=by simpa using M
  rw[this];exact kp
end
def Fh:isSubtype (.type "tuple") (.type "set")=pure false:=by rw[isSubtype_type];kernel_rfl
def Cr:isSubtype (.type "tuple") (.type "frozenset")=pure false:=by rw[isSubtype_type];kernel_rfl
theorem uF:∀(l acc:Bc),(acc++l).Nodup->l.foldl step_dedup acc=acc++l
 |[],acc,_=>by simp
 |x::l,acc,h=>by
  have j:¬acc.any (· ==x)=true:=by
   intro z;obtain⟨y,F,e⟩:=Kc.mp z;have e:y=x:=by simpa using e
   subst e;rw[Q4]at h;exact h.2.2 y F y (lx ..) rfl
  rw[Hr];have e:step_dedup acc x=acc++[x]:=by unfold step_dedup;rw[c0 j]
  rw[e,uF l (acc++[x])<|by rw[Ed];exact h,Ed];rfl
def Ml(j:ns.Nodup)(z:n=ns.length):firstMet (λi=>ns.getD i 0) n=ns:=by
 subst z;unfold firstMet;have e:(List.range ns.length).map (λi=>ns.getD i 0)=ns:=by
  apply List.ext_getElem
  .simp
  .intro i h1 h2;simp[h2]
 rw[e,uF ns []<|by simpa using j];rfl
def f9.met(j:ns.Nodup)(z:n=ns.length)
  (x:h.SetOf (PySem.intKind P w) a (λF=>(firstMet (λi=>ns.getD i 0) n).any (· ==F)) (firstMet (λi=>ns.getD i 0) n).length):f9 P w h a ns:=by
 rw[Ml j z]at x;refine f9.of x j (λk=>?_) rfl;simp
section
variable{prog:Program}{w:World}{A:Around}{E:Bd}{s:Shared}
abbrev qw(led:Bool):Obj:={cls:=.type "set",dict:=none,data:=.set #[] 0 (.fresh 0 0 led)}
def set_tuple(hh:A.handled=none)(hl:IsTup s.heap l items)(hi:IntsAre items.toList ns)(hb:items.size+1<scanBound)
  (h:∀(h':Heap)(tk:Nat),h'.SetOf (PySem.intKind prog w) s.heap.objs.size (λk'=>(firstMet (λi=>ns.getD i 0) items.size).any (· ==k')) (firstMet (λi=>ns.getD i 0) items.size).length->(∀b o,b<s.heap.objs.size->s.heap.get? b=some o->h'.get? b=some o)->
   Q (.ref s.heap.objs.size) {s with heap:=h',toks:=tk}):wpAny (model prog w) A (call (.type "set") [.ref l]) Q E s:=by
 obtain⟨c,tl,aiN⟩:=NX.mro;have agx:=NX.made;have wa:=NX.sub;refine wpAny_call<|codeAny_of_tree (show wpAny _ _ (callAny (.type "set") _) _ _ _ from er ⟨Code.quiet_builtin _<|by decide+kernel,codeAny_builtin F.entry_type_call ?_⟩);rw[Around.under_plain (weight_type_call_type "set" [.ref l] []) rfl];have h1:=NX.notType;have h2:=NX.canCreate;have hct:=F.typeCall_set_1 (.ref l)
 repeat(any_goals(first|assumption|wp_step))
 refine Kg (code_set_new_1 (.ref l) (E:=E) (Q₁:=λobj s1=>∃led:Bool,obj=.ref s.heap.objs.size/\s1={s with heap:=s.heap.push<|qw led}) λled=>⟨led,rfl,rfl⟩) λr s1 hr=>?_;rcases r with e|fl
 .exact hr
 cases fl with
 |ret obj=>
  obtain⟨led,rfl,rfl⟩:=hr;have hS:(s.heap.push<|qw led).get? s.heap.objs.size=some (qw led):=m8 _ rfl;have hT:Shared.TypeIs {s with heap:=s.heap.push<|qw led} (.ref s.heap.objs.size) "set":=⟨_,hS,rfl⟩;have hli:=NX.init.lookup;have hbi:=NX.init.bind (.ref s.heap.objs.size)
  repeat(any_goals(first|assumption|wp_step))
  refine Kg (codeAny_call_builtin (R:=wants (λr s2=>r=.none/\B_ λh' tk=>s2={s with heap:=h',toks:=tk}/\h'.SetOf (PySem.intKind prog w) s.heap.objs.size (λk'=>(firstMet (λi=>ns.getD i 0) items.size).any (· ==k')) (firstMet (λi=>ns.getD i 0) items.size).length/\
   (∀b o,b<s.heap.objs.size->s.heap.get? b=some o->h'.get? b=some o)) E) NX.init.plain F.entry_set_init<|check_set_init_1 hT ?_) λr2 s2 z=>?_
  .have hl0:=hl;obtain⟨⟨aiP,I,agy,j⟩,S,U,nl,W⟩:=hl;simp only at U W;subst U;subst W;have Y:(s.heap.push<|qw led).get? l=some {cls:=.type "tuple",dict:=I,data:=.seq items nl,slots:=j}:=et _ S;have aiQ:=Fh;have aiR:=Cr;have iw:(Value.type "tuple"==Value.type "dict")=false:=by decide
   have Z:(s.heap.push<|qw led).IsTuple l items:=⟨_,Y,rfl,nl,rfl⟩;unfold Builtin.«set.__init__» noKeywords Builtin.Frozenset.updateFrom;generalize hPI:pyIter=PI
   wp_walk
   subst hPI;refine Z9 Z<|a0<|wpAny_runValue ?_;have hlS:l<s.heap.objs.size:=ky S;have J:(s.heap.push<|qw led).objs.size=s.heap.objs.size+1:=vr ..
   refine codeAny_set_update_loopS ((Walks.tuple (show A.in1.in1.in1.handled=none by simp[hh]) _ l (show l≠(s.heap.push<|qw led).objs.size by rw[J];exact nP<|Q1 hlS) items).toS) s.heap.objs.size ?hSf (λi=>ns.getD i 0)
    (λi v hv=>IntsAre.int_at hi i v<|by rw[Pl];exact hv) hb (items.size-0) 0 _ (by omega) (ti _) ⟨⟨_,m8 _ rfl,rfl,rfl⟩,(Z.push _)⟩ ?hS0 ?hR
   case hSf=>rw[J];simp only[eH,oI,u7,t6,y3];exact⟨nP<|QY _,B2 hlS⟩
   case hS0=>exact SetOf_congr ((setObjOf_fresh (knd:=PySem.intKind prog w) led).setOf (et _ hS)<|by unfold scanBound;omega) (λ_=>rfl) rfl
   case hR=>rintro⟨h',g',d',S0,Y8⟩ hm M;obtain rfl:g'=s.gens:=hm.gens;obtain rfl:d'=s.drawn:=hm.drawn;obtain rfl:Y8=s.os:=hm.os;show wpAny _ _ _ _ _ _;refine er ?_;show wpAny _ _ (ret Value.none) _ _ _;refine er ⟨rfl,h',S0,rfl,M,λb o hb e=>hm.heap b o ?_<|et _<|et _ e⟩;simp only[eH,oI,u7,t6,y3];exact⟨nP hb,by rw[J];exact nP<|Q1 hb⟩
  .rcases r2 with e|fl2
   .exact z
   cases fl2 with
   |ret r=>
    obtain⟨rfl,h',tk,rfl,M,Bx⟩:=z
    repeat(any_goals(first|assumption|wp_step))
    exact h _ _ M Bx
   |_=>exact z.elim
 |_=>exact hr.elim
end
def Mm:entryFor table "set.__xor__"=some Builtin.«frozenset.__xor__»:=entryFor_alias (id':="frozenset.__xor__") (by kernel_rfl) rfl (by decide+kernel) (by kernel_rfl)
section
variable{P:Program}{w:World}{A:Around}{E:Bd}{s:Shared}{L R:Addr}{ns ms:Bc}
def PN(S:f9 P w s.heap L ms)(U:f9 P w s.heap R ns)(hn:ns.length<=20)(hm:ms.length<=20)(hs:Small ns)(W:ns.Nodup)
  (h:∀(h':Heap)(ks:Bc),(∀b o,s.heap.get? b=some o->h'.get? b=some o)->ks.Perm ms->f9 P w h' s.heap.objs.size (ks.foldl fc ns)->Q (.ref s.heap.objs.size) {s with heap:=h'}):
  wpAny (model P w) A (binaryOp .BitXor (.ref L) (.ref R)) Q E s:=by
 have M:=S.typeIs;have tR:=U.typeIs;refine wpAny_binaryOp_same M tR F.fills_set_xor F.slot_set_xor<|Ma F.slot_set_xor M Mm ?_<|F.args_set_xor_2 _ _;have sz:scanBound=4096:=rfl;show wpAny _ _ (Builtin.Frozenset.slot1 "__xor__" ⟨[.ref L,.ref R],[]⟩>>=_) _ _ _;unfold Builtin.Frozenset.slot1 slotArgs;refine a0<|a0<|er<|er ?_;dsimp only;simp only[Pd,LI];refine a0 ?_;refine a0<|vE M ?_;show wpAny _ _ (Builtin.Frozenset.isAnySet (.ref R)) _ _ _;refine vE tR ?_;rw[c0<|by simp];refine a0<|er ?_;refine a0 ?_;show wpAny _ _ (Builtin.Frozenset.baseOf L>>=λb=>Builtin.Frozenset.newFrom _ b (.ref R)>>=_) _ _ _;refine a0 ?_;unfold Builtin.Frozenset.baseOf;refine a0<|R8 M sub_set_self<|er ?_;rw[dt rfl];refine a0 ?_;unfold Builtin.Frozenset.newFrom;refine a0<|wpAny_newSet_of (knd:=PySem.intKind P w) λled _=>?_;have hg:(s.heap.push<|qw led).get? s.heap.objs.size=some (qw led):=m8 _ rfl;have kp:∀b o,s.heap.get? b=some o->(s.heap.push<|qw led).get? b=some o:=λb o e=>et _ e;have lt:∀b o,s.heap.get? b=some o->b≠s.heap.objs.size:=λb o e=>nP<|ky e;have Y:R≠s.heap.objs.size:=by obtain⟨o,_,_,_,e,_⟩:=U;exact lt _ _ e
 have I:L≠s.heap.objs.size:=by obtain⟨o,_,_,_,e,_⟩:=S;exact lt _ _ e
 have j:f9 P w (s.heap.push<|qw led) R ns:=U.keeps λo e=>kp _ _ e;have Z:f9 P w (s.heap.push<|qw led) L ms:=S.keeps λo e=>kp _ _ e;refine a0<|er<|a0<|Cn ?_;unfold Builtin.Frozenset.updateFrom;refine a0<|vE (s:={s with heap:=s.heap.push<|qw led}) (j.typeIs) ?_;rw[dt rfl];refine a0<|er ?_;unfold Builtin.Frozenset.merge;obtain⟨oR,eR,epR,t_R,gR,xR,dR,lR,fR,pR⟩:=id j;refine a0<|wpAny_setEpoch_of gR dR fR ?_;refine Fe (s:={s with heap:=s.heap.push<|qw led}) hn hs hg j (iq Y) λh1 J r1=>?_;refine er ?_;refine a0<|er<|a0<|Cn ?_;have WQ:f9 P w h1 L ms:=Z.keeps λo e=>(J.2 L I).trans e;refine Fg (s:={s with heap:=h1}) r1 WQ I (by lia) W λh2 ks Yb kp2 r2=>?_;refine er<|er ⟨_,rfl,(λz=>nomatch z),h h2 ks (λb o e=>?_) kp2 r2⟩;exact(Yb.2 b<|lt b o e).trans<|(J.2 b<|lt b o e).trans<|kp b o e
end
def qx(P:Program)(w:World)(a:Addr)(ns:Bc):HO:=.ext λh=>f9 P w h a ns
def Ky(x:f9 P w h a ns):eh P w H h a<|qx P w a ns:=⟨x,by obtain⟨o,_,_,_,e,_⟩:=x;exact⟨o,e⟩,λ_ _ y k=>y.keeps k⟩
section
variable{X:Cx}
def WR(P:Program)(w:World)(K:cn):List V->Hp->VK->Prop:=λxs H Q=>∃p,∃ns:Bc,xs=[.ref p]/\(az K H p (ns.map V.int)\/ee K H p (ns.map V.int))/\ns.Nodup/\ns.length<=20/\∀l,H l=none->Q (.ref l) (upd H l<|qx P w l ns)
def Kz(K:cn)(M:X.calm=true:=by rfl)(S:X.K=K:=by rfl):fb X (.type "set")<|WR X.prog X.w K:=by
 subst S;intro pins s σ H xs us Q I r h;obtain⟨p,ns,rfl,z,EV,hz,q⟩:=h;obtain⟨u,rfl,ru⟩:=vals1 r;cases ru;have sz:scanBound=4096:=rfl
 have F:∀(its:Bb),Vals (ns.map V.int) its->∀(h':Heap)(tk:Nat),h'.SetOf (PySem.intKind X.prog X.w) s.heap.objs.size (λU=>(firstMet (λi=>ns.getD i 0) its.toArray.size).any (· ==U)) (firstMet (λi=>ns.getD i 0) its.toArray.size).length->
   (∀b o,b<s.heap.objs.size->s.heap.get? b=some o->h'.get? b=some o)->EP X pins σ Q (.ref s.heap.objs.size) {s with heap:=h',toks:=tk}:=by
  intro its j h' tk Y hk;have J:its.toArray.size=ns.length:=by rw[pd,<-j.length,ek]
  exact⟨.ref s.heap.objs.size,_,I.laid (λb o e=>hk b o (ky e) e) (ez _)<|Ky<|f9.met EV J Y,rfl,q _ I.fresh⟩
 rcases z with z|z
 .obtain⟨its,j,pl,_⟩:=I.list z;have J:its.toArray.size=ns.length:=by rw[pd,<-j.length,ek]
  exact call_set_list (I.ok.hd M) pl.isList (by simpa using j.ints) (by lia)<|F its j
 .obtain⟨its,j,pl,_⟩:=I.tuple z;have J:its.toArray.size=ns.length:=by rw[pd,<-j.length,ek]
  exact set_tuple (I.ok.hd M) pl (by simpa using j.ints) (by lia)<|F its j
def S7(P:Program)(w:World):R2:=λx y H Q=>D_ λa b ms ns=>x=.ref a/\y=.ref b/\H a=some (qx P w a ms)/\H b=some (qx P w b ns)/\ns.length<=20/\ms.length<=20/\Small ns/\ns.Nodup/\∀(l:Addr)(ks:Bc),H l=none->ks.Perm ms->Q (.ref l) (upd H l<|qx P w l<|ks.foldl fc ns)
def Mn:nu X (binaryOp .BitXor)<|S7 X.prog X.w:=by intro pins s σ H x y v u Q I j z h;obtain⟨a,b,ms,ns,rfl,rfl,ha,hb,h1,h2,h3,h4,q⟩:=h;cases j;cases z;refine PN (I.c7 a _ ha).1 (I.c7 b _ hb).1 h1 h2 h3 h4 λh' ks kp pm sn=>?_;exact⟨.ref s.heap.objs.size,_,I.laid kp (ez _)<|Ky sn,rfl,q _ ks I.fresh pm⟩
def S8(P:Program)(w:World):List V->Hp->VK->Prop:=λxs H Q=>B_ λa ns=>xs=[.ref a]/\H a=some (qx P w a ns)/\ns.length<=1000/\Q (.int ns.length) H
def S9:fb X (.builtin "len")<|S8 X.prog X.w:=by
 intro pins s σ H xs us Q I r h;obtain⟨a,ns,rfl,ha,hz,q⟩:=h;obtain⟨u,rfl,ru⟩:=vals1 r;cases ru;obtain⟨o,es,ep,t,j,z,hd,F,J,M⟩:=(I.c7 a _ ha).1;have S:es.size=ns.length:=by rw[<-M.length_eq,ek,xD]
 refine call_len_set j z hd J (by lia) ⟨.int ns.length,H,I.tok _,⟨s.toks+1,by rw[S]⟩,q⟩
end
def Sq(K:cn)(H:Hp)(a:Addr)(xs:List V):Prop:=az K H a xs\/ee K H a xs
def qQ(K:cn)(x:V)(H:Hp)(R:It->Hp->Prop):Prop:=∃a,x=.ref a/\(((∃xs,az K H a xs)/\R (Rc K a) H)\/((∃xs,ee K H a xs)/\R (RL K a) H))
def aay(K:cn)(tl:TE):TI:=λσ H R=>tl σ H λx H1=>qQ K x H1 R
def cD{K:cn}(q:tl σ H λx H1=>qQ K x H1 R):aay K tl σ H R:=q
section
variable{X:Cx}{tg:Expr}
def KA(K:cn)(M:PE X l tl)(S:X.K=K:=by rfl):PI X tg l<|aay K tl:=by
 subst S;intro pins s σ H R I h;refine eF (M pins s σ H _ I h) λv j⟨x,H1,z,U,Y⟩=>?_;obtain⟨a,e,q⟩:=Y;subst e;obtain rfl:v=.ref a:=U;have J:∀b∈[j.heap.objs.size],gP X pins H1 b:=λb Z=>by rw[oI.mp Z];exact z.qe (ez _)<|z.c7.fresh<|ez _
 rcases q with⟨⟨xs,F⟩,q⟩|⟨⟨xs,F⟩,q⟩
 .obtain⟨its,rv,p,hz⟩:=z.list F;exact Ic p.isList ⟨j.heap.objs.size,[j.heap.objs.size],_,_,H1,rfl,z.kept λb o e=>et _ e,AB a _,⟨_,m8 _ rfl,rfl,rfl⟩,J,q⟩
 .obtain⟨its,rv,p,hz⟩:=z.tuple F;exact Z9 (p) ⟨j.heap.objs.size,[j.heap.objs.size],_,_,H1,rfl,z.kept λb o e=>et _ e,wz a _,⟨_,m8 _ rfl,rfl,rfl⟩,J,q⟩
end
section
variable{K:cn}{g:TG}{tt:TT}{te:TE}{vs:AU}{σ:L2.St}{H1:Hp}{Q:VK}
def aep{ε δ:Type}(es:List ε)(S:ε->V->Prop)(f:ε->Option δ)(Rd:δ->V->Hp->Prop)(z:Sq K H1 a xs)(I:Paired S es xs)(hz:xs.length<=sizeLine)
  (hs:∀D,H1 D=none->∀(i:Nat)(e:ε) x H acc(M:VK)(U:Hp->Prop),es[i]?=some e->S e x->aq H1 H->H D=some (.lst acc)->
   (∀d,f e=some d->∀y F,aq H F->(∀W,ay D F W->Rd d y W)->M y F)->(f e=none->∀F,aq H F->U F)->
   tt ((wipe σ vs).set j<|some x) H λb H3=>if b=true then te ((wipe σ vs).set j<|some x) H3 M else U H3)
  (Y:∀x:V,wipe ((wipe σ vs).set j<|some x) vs=wipe σ vs)
  (hd:∀D ys H,aq H1 H->H1 D=none->H D=some (.lst ys)->Paired (λd v=>Rd d v H) (es.filterMap f) ys->Q (.ref D) H):qQ K (.ref a) H1 λJ H2=>Nh J (eZ j) tt te vs σ H2 Q:=by
 rcases z with z|z
 .exact⟨a,rfl,.inl ⟨⟨xs,z⟩,ic es S f Rd z I hz hs Y hd⟩⟩
 .exact⟨a,rfl,.inr ⟨⟨xs,z⟩,adU es S f Rd z I hz hs Y hd⟩⟩
end
def Ij(a v:Value):argsOk "min" ⟨[a],[(Str.ofString "key",v)]⟩:=by kernel_rfl
structure Ta(K:cn)(mg:Be)(c:Addr)(t:Tab):Prop where
 hd:PySem.W.codeHdIn K c t.P=true
def Fi(mg:Be)(base:Heap):Prop:=B_ λbm j=>mg "__builtins__"=some (.ref bm)/\bm≠builtinsNs/\base.get? bm=some j/\j.cls=.type "module"/\j.dict=some builtinsNs/\j.data=.plain
def ltI(a b:Int):Bool:=decide<|a<b
def PQ(K:cn)(tabs:List Tab)(t:Tab)(tb:TE)(js:AU)(σ:L2.St)(vs:List V)(H1:Hp)(Q:VK):Prop:=B_ λ(l:Addr)(es:List<|Addr×Int)=>vs=[.ref l]/\az K H1 l (es.map λe=>V.ref e.1)/\t∈tabs/\TabsOk tabs H1/\(∀u∈tabs,u.P=t.P->u=t)/\
 (∀e∈es,∀H2,Kp tabs H1 H2->∀j:VK,(∀H3,aq H2 H3->j (.int e.2) H3)->tb (AV [.ref e.1] σ js) H2 j)/\
 ∀H',Kp tabs H1 H' ->match es.foldl (eV ltI) none with|some b=>Q (.ref b.1) H' |none=>False
def U4(K:cn)(tabs:List Tab)(t:Tab)(tb:TE)(js:AU)(te:TE):TE:=λσ H Q=>te σ H λx H1=>PQ K tabs t tb js σ [x] H1 Q
def WS{K:cn}(q:te σ H λx H1=>PQ K tabs t tb js σ [x] H1 Q):U4 K tabs t tb js te σ H Q:=q
section
variable{X:Cx}{pins:List<|Addr×Obj}{σ:St}{H:Hp}{s:Shared}
def Tb(K:cn)(L:Ta X.K X.mg c t)(Z:Fi X.mg X.base)(F:X.env.code=.ref c)(hq:t.qual=X.env.qual++"<lambda>")
  (M:defaultsOf params X.env=([],[]))(S:UI X scope [x] fr js)(Us:js.length=fr.length)
  (J:∀(pm ct:Value)(c:Addr)(us:Bb),us.length=1->bindArgs (BZ X.env.qual params body scope (bQ X.env.cells scope.names []) pm c ct) ⟨us,[]⟩=pure ([x].zip us))
  (hb:∀(c f:Addr)(A:Around)(s:Shared)(H:Hp)(L:Addr),eK k (A.deeper<|PySem.W.envX (X.env.qual++"<lambda>") scope L f (.ref c)<|bQ X.env.cells scope.names [])->PE (OG X A s H ([x]++fr)<|PySem.W.envX (X.env.qual++"<lambda>") scope L f (.ref c)<|bQ X.env.cells scope.names []) body tb)
  (hr:eK (k+2) X.A)(hm:X.mg "min"=none)(he:PE X e te)
  (hc:X.calm=true)(hK:X.K=K)(hg:Gl X "min")
  (hs:starEach [e] X.env=(false,eval e X.env)::starEach [] X.env)(wA:backTo pos (starEach [e] X.env)=(false,eval e X.env)::backTo pos (starEach [] X.env))(jc:(backTo pos<|starEach [e] X.env).any (·.1)=false):
  PE X (.Call (.Name "min" p) [e] [⟨some "key",.Lambda params body scope p2,p3⟩] pos) (U4 K tabs t tb js te):=by
 subst hK;intro pins s σ H Q I h;have LT:OE X c t:=by exact⟨F,PySem.W.codeHd_of_K I.ok.mod.RF L.hd,hq,Z⟩
 refine K0<|iD I hg hm OS ?_;have pk:PK X [⟨some "key",.Lambda params body scope p2,p3⟩]<|wD (ZJ tabs t λc pm ct=>BZ X.env.qual params body scope (bQ X.env.cells scope.names []) pm c ct) Ek:=vx (Wq LT M S.all) HA;refine callWith_kw (eF (ab he ag hs pos pins s σ H (λvs H1=>PQ X.K tabs t tb js σ vs H1 Q) I h) λus s1⟨vs,H1,I1,r1,q1⟩=>?_) wA jc rfl rfl;obtain⟨l,es,rfl,c1,ht,hT,hu,c2,c3⟩:=q1;refine eF (pk pos pins s1 σ H1 (λzs H2=>D_ λf j pm ct=>zs=[.ref f]/\Kp tabs H1 H2/\H2 f=some (wO f<|BZ X.env.qual params body scope (bQ X.env.cells scope.names []) pm j ct)/\H2 j=some (iZ j t.qual)) I1 ⟨ht,hT,hu,λf j pm ct H' k hf hl hc=>⟨f,j,pm,ct,rfl,k,hl,hc⟩⟩) λws s2⟨zs,H2,I2,rz,f,j,pm,ct,e2,k2,hf,U⟩=>?_;subst e2;obtain⟨u,rfl,ru⟩:=vals1 r1;cases ru;obtain⟨z,rfl,rz1⟩:=vals1 rz;obtain rfl:z=.ref f:=rz1;refine Kt (lt:=ltI) (Kv:=λn v _=>v=.int n) (es:=es) (dv:=none) hc (Ij _ _) rfl I2 (k2.seq c1) (λ_ _ _ _ _ h=>h) (λe he pP H3 s3 I3 Y=>?_) (λH3 s3 a b va vb ua ub Q E I3 ha hb ra rb q=>?_) λH3 Y=>?_
 .rw[hq]at U;refine Sy (k:=k) (q:=X.env.qual) (ps:=[x]) (fr:=fr) (vs:=[.ref e.1]) I3 (show X.A.in1.frames=some X.stack from I3.ok.frames) hr.in1 S (Y _ _ hf) (Y _ _ U) (J pm ct j) (.cons rfl .nil) rfl (λL Yc=>hb j f _ _ _ L Yc) (c2 e he H3 (k2.trans<|Kp.of Y) _ λH4 k4=>⟨k4,rfl⟩) Us
 .subst ha hb;obtain⟨t1,rfl⟩:=ra;obtain⟨t2,rfl⟩:=rb;exact(PyProof.Rows.lt_int q:wpAny (model X.prog X.w) X.A.in1 (compareOp .Lt (.int a t1) (.int b t2)) Q E s3)
 .have q:=c3 H3<|k2.trans<|Kp.of Y;cases e:es.foldl (eV ltI) none with
  |some b=>rw[e]at q;exact q
  |none=>rw[e]at q;exact q.elim
end
def Tc(K:cn)(mg:Be)(x:Str)(st:Stmt)(t:Tab):Prop:=J_ λ(f c:Addr)(F:Value)(I:Option Addr)(kV j pm:Value)(J:Option Addr)(ct:Value)(z:Array BJ)=>
 K.lookup f=some ⟨F,I,.func<|PySem.W.fnOf x x (iK st) (fF st) (ai st) .none kV j pm J (.ref c) ct,z⟩/\PySem.W.codeIn K (.ref c) x=true/\PySem.W.keepIn K (.ref f)=true/\mg x=some (.ref f)/\Ta K mg c t/\t.qual=(envOfC x (ai st) 0 0 .none).qual++"<lambda>"
section
variable{P:Program}{w:World}{K:cn}{mg:Be}{base:Heap}
def Tc.fn{x:Str}{st:Stmt}(T:Tc K mg x st t)(S:aB N ps<|ai st)
  (U:∀(kV j pm:Value)(F:Option Addr)(I ct:Value)(us:Bb),us.length=ps.length->bindArgs (PySem.W.fnOf x x (iK st) (fF st) (ai st) .none kV j pm F I ct) ⟨us,[]⟩=pure (ps.zip us))
  (len:∀vs H Q E,sp vs H Q E->vs.length=ps.length)
  (z:∀(f c:Addr)(A:Around)(outer:List Env)(s:Shared)(H:Hp)(vs:List V)(Q:VK)(E:XK),Ta K mg c t->t.qual=(envOfC x (ai st) 0 0 .none).qual++"<lambda>"->eK k (A.deeper<|envOfC x (ai st) s.heap.objs.size f (.ref c))->sp vs H Q E->
   ∃t,Ef (yY HJ N x (ai st) P w K mg base f (.ref c) A outer s H E).RI (fF st) t/\t {nx:=λ_ H'=>Q .eQ H',rt:=Q} (start N vs) H):Fn P w K mg base x (k+1) ps sp:=by
 obtain⟨f,c,oc,od,kV,j,pm,F,ct,Y,lk,J,kp,Z,L,hq⟩:=T;refine⟨f,_,Z,kp,.all<|U kV j pm F (.ref c) ct,Up lk J S len λA outer s H vs Q E hr M=>?_⟩;obtain⟨t,h,q⟩:=z f c A outer s H vs Q E L hq hr M;exact⟨t,h.RI,q⟩
end
def Fj(K:cn)(a:Addr)(xs:List V):Prop:=C_ λ(o:Obj)(its:BA)(n:Nat)=>K.lookup a=some o/\o.cls=.type "tuple"/\o.data=.seq its n/\its.size<=sizeLine/\Vals xs its.toList
def Fj.gh{K:cn}(h:Fj K a xs):ee K H a xs:=.inr h
def Fl(K:cn)(a:Addr)(l:List<|Int×Int):Prop:=∃j:Bf,Fj K a (j.map V.ref)/\Paired (λp(x:Int×Int)=>Fj K p [.int x.1,.int x.2]) j l
def Defs(K:cn)(mg:Be)(a:Addr)(l:Ba):Prop:=∃j:Bf,Fj K a (j.map V.ref)/\Paired (λp(x:Str)=>mg x=some (.ref p)) j l
end L2
namespace Pb
open PySem PySem.Spec PyProof.Rows L2
open PySem.StrLaws PySem.Builtin PySem.Builtin.Str
def sB(b:AU):Str:=⟨b.toArray⟩
def PR(a:AU):(sB a).cps.toList=a:=rfl
def gT(a:AU):(sB a).length=a.length:=rfl
def gU:sB a=sB b↔a=b:=⟨λh=>by have:=congrArg (λs:Str=>s.cps.toList) h;exact this,λh=>by rw[h]⟩
def Td(x:Str):x=sB x.cps.toList:=rfl
def cutsOf(l:AU)(c:Nat)(j:AU):AU:=j.filter λi=>l[i]?==some c
theorem Ik(l:AU)(c:Nat):∀(F:AU)(st:Array Nat×Nat)(k:Nat),F=List.range' k F.length->st.1.size<=k->st.2<=k->k+F.length<=l.length+1->
  (forIn F st<|occBody (sB l) (sB [c]) l.length<|l.length+1).run.1.toList=st.1.toList++cutsOf l c F
 |[],st,k,_,_,_,_=>by simp[cutsOf]
 |i::F,st,k,he,h1,h2,h3=>by
  rw[kA,ap4]at he;obtain⟨U,S⟩:=XA he;subst U;rw[kA]at h3;rw[F9];have I:=subAt_one (sB l) c i;unfold occBody;by_cases J:l[i]?=some c
  .obtain⟨W,Y⟩:=I.mpr J;have j:((st.fst.size<l.length+1/\st.snd<=i)/\i+(sB [c]).length<=l.length)/\subAt (sB l) (sB [c]) i=true:=⟨⟨⟨by lia,h2⟩,W⟩,Y⟩;rw[dt j];have M:=Ik l c F (st.fst.push i,i+1) (i+1) S (by simp;lia) (ez _) (by lia);refine M.trans ?_;simp[cutsOf,J]
  .have j:¬(((st.fst.size<l.length+1/\st.snd<=i)/\i+(sB [c]).length<=l.length)/\subAt (sB l) (sB [c]) i=true):=λz=>J<|I.mp ⟨z.1.2,z.2⟩;rw[c0 j];have M:=Ik l c F (st.fst,st.snd) (i+1) S (by simp;lia) (by simp;lia) (by lia);refine M.trans ?_;simp[cutsOf,J]
def Te(l:AU)(c:Nat):occurrences (sB l) (sB [c]) 0 l.length (l.length+1)=cutsOf l c (List.range' 0<|l.length+1):=by rw[occ_eq];have:=Ik l c (List.range' 0<|l.length+1) (#[],0) 0 (by simp) (by simp) (ez _) (by simp);simpa using this
def PV(l:AU)(a b:Nat):strSub (sB l) a b=sB ((l.drop a).take<|b-a):=by have:=strSub_toList (sB l) a b;rw[PR]at this;rw[Td<|strSub (sB l) a b,this]
theorem xf(c:Nat):∀(r pre acc:AU),partsFrom (sB<|pre++acc++r) 1 pre.length (cutsOf (pre++acc++r) c<|List.range' (pre.length+acc.length) r.length)=(MA.jP c acc r).map sB
 |[],pre,acc=>by simp only[wh,List.range'_zero,cutsOf,List.filter_nil,partsFrom,MA.jP,B5,ip,HD];rw[PV,gT,List.drop_left,Oc<|by simp]
 |d::r,pre,acc=>by
  have hd:(pre++acc++d::r)[pre.length+acc.length]?=some d:=by rw[<-mu,Pa<|ez _];simp
  rw[kA,ap4];unfold cutsOf;rw[F5,hd];by_cases h:d=c
  .subst h;rw[dt<|by simp];have j:=xf d r (pre++acc++[d]) [];simp only[B5,Ed,Yy,mu,kA,wh,XX,Vf]at j;unfold cutsOf at j;unfold MA.jP;rw[dt rfl,ip,partsFrom];refine congr (congrArg List.cons ?_) ?_
   .rw[PV,Ed,List.drop_left];have:pre.length+acc.length-pre.length=acc.length:=by lia
    rw[this,List.take_left]
   .simp only[Ed,Nat.add_assoc]at j|-;exact j
  .rw[c0<|by simp[h]];have j:=xf c r pre<|acc++[d];simp only[Ed,Yy,mu,kA,wh,Vf]at j;unfold cutsOf at j;rw[MA.jP,c0 h];simp only[Ed,Nat.add_assoc]at j|-;exact j
theorem A4(c:Nat):∀(r acc:AU),(∀x∈r,x≠c)->MA.jP c acc r=[acc++r]
 |[],acc,_=>by simp[MA.jP]
 |d::r,acc,h=>by rw[MA.jP,c0<|h d<|lx ..,A4 c r _ λx j=>h x<|kB _ j];simp
def Fm(l:AU)(c:Nat)(J:c<256):Txt.split (sB l) (sB [c])=(MA.jP c [] l).map sB:=by
 unfold Txt.split;have hk:PySem.Builtin.Str.strKind (sB [c])=1:=by unfold PySem.Builtin.Str.strKind;rw[dt];show(Array.all #[c] (· <256))=true;simp[J]
 have M:1<=PySem.Builtin.Str.strKind (sB l):=by
  unfold PySem.Builtin.Str.strKind;split
  .lia
  .split<;>lia
 have F:=Te l c;have S:List.range' 0 (l.length+1)=List.range' 0 l.length++[l.length]:=by rw[List.range'_concat];simp
 have U:cutsOf l c (List.range' 0<|l.length+1)=cutsOf l c (List.range' 0 l.length):=by rw[S];unfold cutsOf;rw[Zp];simp
 rw[U]at F;by_cases h0:l=[]
 .subst h0;rw[dt<|by simp[gT]];rfl
 .have hl:1<=l.length:=by cases l with
   |nil=>exact absurd rfl h0
   |cons=>simp
  rw[c0<|by rw[hk,gT,gT,U0,B3,B3];simp only[kA,wh];lia];have j:(sB l).length=l.length:=rfl;rw[j,F];have I:=xf c l [] [];simp only[T8,wh,XX]at I;split
  .rename_i z;have W:∀x∈l,x≠c:=by
    intro x Y e;subst e;obtain⟨i,hi⟩:=J7.mp Y;have Z:=(l4.mp hi).1;have:i∈cutsOf l x (List.range' 0 l.length):=by unfold cutsOf;rw[tL];exact⟨by rw[List.mem_range'_1];lia,by simp[hi]⟩
    rw[List.isEmpty_iff.mp z]at this;cases this
   rw[A4 c l [] W];rfl
  .rw[partsBetween_eq];exact I
end Pb
namespace L2
open PySem PySem.Spec PyProof.Rows
open PySem.W (WData Codec OpenSpec Well WellAll ReadsW ReadsAllW)
mutual
inductive Dw(K:cn)(H:Hp):V->WData->Prop
 |eQ:Dw K H .eQ .none
 |bl (b:Bool):Dw K H (.bl b) (.bool b)
 |int (i:Int):Dw K H (.int i) (.int i)
 |str (x:Str):Dw K H (.str x) (.str x)
 |Eb (b:Array UInt8):Dw K H (.Eb b) (.bytes b.toList)
 |lst {a:Addr} {xs:List V} {ds:List WData}:az K H a xs->n9 K H xs ds->Dw K H (.ref a) (.list ds)
 |tup {a:Addr} {xs:List V} {ds:List WData}:ee K H a xs->n9 K H xs ds->Dw K H (.ref a) (.tuple ds)
inductive n9(K:cn)(H:Hp):List V->List WData->Prop
 |nil:n9 K H [] []
 |cons {v:V} {vs:List V} {d:WData} {ds:List WData}:Dw K H v d->n9 K H vs ds->n9 K H (v::vs) (d::ds)
end
theorem KC{K:cn}:∀ns:Bc,n9 K H (ns.map V.int)<|ns.map WData.int
 |[]=>.nil
 |n::r=>.cons (.int n)<|KC r
theorem KD{K:cn}:∀(ns:Bc)(xs:List V),n9 K H xs (ns.map WData.int)->xs=ns.map V.int
 |[],xs,h=>by cases h;rfl
 |n::r,xs,h=>by
  cases h with
  |cons h1 h2=>cases h1;rw[KD r _ h2]<;>rfl
section
variable{P:Program}{w:World}{K:cn}{H:Hp}{h:Heap}{R:PySem.W.WRecords}{cl:Str->Option Addr}
def WT(c7:mV P w H h)(z:K.In h)(q:az K H a xs):C_ λ(its:Bb)(o:Obj)(n:Nat)=>Vals xs its/\h.get? a=some o/\o.cls=.type "list"/\o.data=.seq its.toArray n:=by
 rcases q with q|⟨o,its,n,e,F,_,hd,_,j⟩
 .obtain⟨_,its,n,j,e⟩:=(q.ok c7);exact⟨its,_,n,j,e,rfl,rfl⟩
 .exact⟨its.toList,o,n,j,z _ _ e,F,by simp[hd]⟩
def WU(c7:mV P w H h)(F:K.In h)(q:ee K H a xs):C_ λ(its:Bb)(o:Obj)(n:Nat)=>Vals xs its/\h.get? a=some o/\o.cls=.type "tuple"/\o.data=.seq its.toArray n:=by
 rcases q with q|⟨o,its,n,e,j,hd,_,z⟩
 .obtain⟨_,its,z,o,e,j,n,hd⟩:=(q.ok c7);exact⟨its,o,n,z,e,j,hd⟩
 .exact⟨its.toList,o,n,z,F _ _ e,j,by simp[hd]⟩
mutual
theorem Dw.reads(c7:mV P w H h)(j:K.In h):∀(d:WData)(v:V)(u:Value),Dw K H v d->RelV v u->∃z,ReadsW R cl h u d z
 |.none,_,_,x,r=>by cases x;cases r;exact⟨_,ReadsW.none⟩
 |.bool b,_,_,x,r=>by cases x;cases r;exact⟨_,ReadsW.bool b⟩
 |.int i,_,_,x,r=>by cases x;obtain⟨t,rfl⟩:=r;exact⟨_,ReadsW.int i t⟩
 |.str s,_,_,x,r=>by cases x;obtain⟨t,rfl⟩:=r;exact⟨_,ReadsW.str s t⟩
 |.bytes b,_,_,x,r=>by cases x;obtain⟨t,rfl⟩:=r;exact⟨_,ReadsW.bytes _ t⟩
 |.list ds,_,_,x,r=>by
  cases x with
  |lst hs F=>cases r;obtain⟨its,o,n,I,J,M,hd⟩:=WT c7 j hs;obtain⟨z,S⟩:=Dw.readsAll c7 j ds _ its F I;exact⟨_,ReadsW.list J M hd S⟩
 |.tuple ds,_,_,x,r=>by
  cases x with
  |tup hs F=>cases r;obtain⟨its,o,n,I,J,M,hd⟩:=WU c7 j hs;obtain⟨z,S⟩:=Dw.readsAll c7 j ds _ its F I;exact⟨_,ReadsW.tuple J M hd S⟩
 |.float _,_,_,x,_=>by cases x
 |.dict _,_,_,x,_=>by cases x
 |.bytearray _,_,_,x,_=>by cases x
 |.set _,_,_,x,_=>by cases x
 |.frozenset _,_,_,x,_=>by cases x
 |.obj _ _,_,_,x,_=>by cases x
theorem Dw.readsAll(c7:mV P w H h)(j:K.In h):∀(ds:List WData)(vs:List V)(us:Bb),n9 K H vs ds->Vals vs us->∃z,ReadsAllW R cl h us ds z
 |[],_,_,x,r=>by cases x;cases r;exact⟨_,ReadsAllW.nil⟩
 |d::ds,_,_,x,r=>by
  cases x with
  |cons h1 h2=>
   cases r with
   |cons F I=>obtain⟨z,J⟩:=Dw.reads c7 j d _ _ h1 F;obtain⟨bs,M⟩:=Dw.readsAll c7 j ds _ _ h2 I;exact⟨_,ReadsAllW.cons J M⟩
end
end
mutual
def KG:WData->Bool
 |.none=>true
 |.bool _=>true
 |.int _=>true
 |.str _=>true
 |.bytes _=>true
 |.list xs=>u9 xs
 |.tuple xs=>u9 xs
 |_=>false
def u9:List WData->Bool
 |[]=>true
 |x::r=>KG x&&u9 r
end
theorem Fo{j:Type}{f:j->WData}(h:∀a,KG (f a)=true):∀l:List j,u9 (l.map f)=true
 |[]=>rfl
 |x::r=>by show(KG (f x)&&u9 (r.map f))=true;rw[h x,Fo h r]<;>rfl
theorem oa:∀(c:Codec)(a:c.denote),KG (c.enc a)=true
 |.unit,_=>rfl
 |.bool,_=>rfl
 |.int _ _,_=>rfl
 |.nat _ _,_=>rfl
 |.u8,_=>rfl
 |.bytes _ _,_=>rfl
 |.text _ _ _ _,_=>rfl
 |.list _ _ c,a=>Fo (λx=>oa c x) a
 |.pair c d,a=>by show(KG (c.enc a.1)&&(KG (d.enc a.2)&&true))=true;rw[oa c a.1,oa d a.2]<;>rfl
 |.triple c d e,a=>by show(KG (c.enc a.1)&&(KG (d.enc a.2.1)&&(KG (e.enc a.2.2)&&true)))=true;rw[oa c a.1,oa d a.2.1,oa e a.2.2]<;>rfl
 |.option c,none=>rfl
 |.option c,some x=>oa c x
theorem A5:∀(j:List Codec)(a:Codec.denoteAll j),u9 (Codec.encAll j a)=true
 |[],_=>rfl
 |c::j,a=>by show(KG (c.enc a.1)&&u9 (Codec.encAll j a.2))=true;rw[oa c a.1,A5 j a.2]<;>rfl
theorem qy:∀{xs:List WData}{d:WData},d∈xs->d.weight<=WData.weightAll xs
 |[],d,h=>absurd h (by simp)
 |x::r,d,h=>by
  show d.weight<=x.weight+1+WData.weightAll r;rcases eH.mp h with e|m
  .rw[e];lia
  .have z:=qy m;lia
def toV:Value->V
 |.none=>.eQ
 |.bool b=>.bl b
 |.int i _=>.int i
 |.str x _=>.str x
 |.bytes b _=>.Eb b
 |.ref a=>.ref a
 |_=>.eQ
def Mo(A:Bf):Value->Prop
 |.none=>True
 |.bool _=>True
 |.int _ _=>True
 |.str _ _=>True
 |.bytes _ _=>True
 |.ref a=>a∈A
 |_=>False
def Mo.mono(h:∀a∈A,a∈B):∀{u:Value},Mo A u->Mo B u:=λ{u} x=>by
 cases u with
 |ref a=>exact h a x
 |none=>trivial
 |bool b=>trivial
 |int i t=>trivial
 |str s t=>trivial
 |bytes b t=>trivial
 |_=>exact False.elim x
def PX(x:Mo A u):RelV (toV u) u:=by
 cases u with
 |ref a=>rfl
 |none=>rfl
 |bool b=>rfl
 |int i t=>exact⟨t,rfl⟩
 |str s t=>exact⟨t,rfl⟩
 |bytes b t=>exact⟨t,rfl⟩
 |_=>exact False.elim x
theorem lX:∀{vs:Bb},(∀u∈vs,Mo A u)->Vals (vs.map toV) vs
 |[],_=>.nil
 |u::r,h=>.cons (PX<|h u<|lx ..)<|lX λx j=>h x<|kB _ j
def m6(h:Heap)(A:Bf)(a:Addr):Prop:=∃vs:Bb,vs.length<=sizeLine/\(∀u∈vs,Mo A u)/\
 (h.get? a=some {cls:=.type "list",data:=.seq vs.toArray}\/h.get? a=some {cls:=.type "tuple",data:=.seq vs.toArray})
def m6.mono(k:∀a∈A,a∈B)(x:m6 h A a):m6 h B a:=by obtain⟨vs,h1,h2,j⟩:=x;exact⟨vs,h1,λu z=>(h2 u z).mono k,j⟩
theorem kW:∀{vs:Bb}{ds:List WData},WellAll P h vs ds->vs.length=ds.length
 |_,_,.nil=>rfl
 |_,_,.cons _ b=>by show _+1=_+1;rw[kW b]
def A6(x:Well P h v (.list ds)):B_ λ(a:Addr)(vs:Bb)=>v=.ref a/\h.get? a=some {cls:=.type "list",data:=.seq vs.toArray}/\WellAll P h vs ds:=by
 cases x with
 |list z j=>exact⟨_,_,rfl,z,j⟩
def xg(x:Well P h v (.tuple ds)):B_ λ(a:Addr)(vs:Bb)=>v=.ref a/\h.get? a=some {cls:=.type "tuple",data:=.seq vs.toArray}/\WellAll P h vs ds:=by
 cases x with
 |tuple z j=>exact⟨_,_,rfl,z,j⟩
def A7(x:WellAll P h us<|d::ds):B_ λ(v:Value)(vs:Bb)=>us=v::vs/\Well P h v d/\WellAll P h vs ds:=by
 cases x with
 |cons a b=>exact⟨_,_,rfl,a,b⟩
def KH(h:n<=1048576):n<=sizeLine:=lp h (by decide)
section
variable{P:Params}{h:Heap}
mutual
theorem PY:∀(d:WData)(v:Value),Well P h v d->KG d=true->d.weight<=1048576->∃A:Bf,Mo A v/\∀a∈A,m6 h A a
 |.none,_,x,_,_=>by cases x;exact⟨[],trivial,λa m=>absurd m<|by simp⟩
 |.bool b,_,x,_,_=>by cases x;exact⟨[],trivial,λa m=>absurd m<|by simp⟩
 |.int i,_,x,_,_=>by cases x;exact⟨[],trivial,λa m=>absurd m<|by simp⟩
 |.str s,_,x,_,_=>by cases x;exact⟨[],trivial,λa m=>absurd m<|by simp⟩
 |.bytes b,_,x,_,_=>by cases x;exact⟨[],trivial,λa m=>absurd m<|by simp⟩
 |.list ds,_,x,p,z=>by
  obtain⟨a,vs,rfl,ho,iX⟩:=A6 x;have F:=z;obtain⟨A,h1,h2⟩:=rR ds _ iX p λd hd=>lp (qy hd) F;have k:∀b∈A,b∈a::A:=λb j=>kB _ j;refine⟨a::A,lx ..,λb j=>?_⟩;rcases eH.mp j with e|m
  .rw[e];exact⟨vs,KH<|by rw[kW iX];exact lp (apD ds) F,λu I=>(h1 u I).mono k,.inl ho⟩
  .exact(h2 b m).mono k
 |.tuple ds,_,x,p,z=>by
  obtain⟨a,vs,rfl,ho,iX⟩:=xg x;have F:WData.weightAll ds<=1048576:=z;obtain⟨A,h1,h2⟩:=rR ds _ iX p λd hd=>lp (qy hd) F;have k:∀b∈A,b∈a::A:=λb j=>kB _ j;refine⟨a::A,lx ..,λb j=>?_⟩;rcases eH.mp j with e|m
  .rw[e];exact⟨vs,KH<|by rw[kW iX];exact lp (apD ds) F,λu I=>(h1 u I).mono k,.inr ho⟩
  .exact(h2 b m).mono k
 |.float _,_,_,p,_=>Bool.noConfusion (show false=true from p)
 |.dict _,_,_,p,_=>Bool.noConfusion (show false=true from p)
 |.bytearray _,_,_,p,_=>Bool.noConfusion (show false=true from p)
 |.set _,_,_,p,_=>Bool.noConfusion (show false=true from p)
 |.frozenset _,_,_,p,_=>Bool.noConfusion (show false=true from p)
 |.obj _ _,_,_,p,_=>Bool.noConfusion (show false=true from p)
theorem rR:∀(ds:List WData)(vs:Bb),WellAll P h vs ds->u9 ds=true->(∀d∈ds,d.weight<=1048576)->∃A:Bf,(∀u∈vs,Mo A u)/\∀a∈A,m6 h A a
 |[],_,x,_,_=>by cases x;exact⟨[],λu m=>absurd m<|by simp,λa m=>absurd m<|by simp⟩
 |d::ds,_,x,p,z=>by
  obtain⟨v,vs,rfl,x1,x2⟩:=A7 x;have q:=X9.mp p;obtain⟨A,J,M⟩:=PY d v x1 q.1<|z d<|lx ..;obtain⟨B,S,U⟩:=rR ds vs x2 q.2 λe W=>z e<|kB _ W;have F:∀b∈A,b∈A++B:=λb j=>ro.mpr (.inl j);have I:∀b∈B,b∈A++B:=λb j=>ro.mpr (.inr j);refine⟨A++B,λu Y=>?_,λb j=>?_⟩
  .rcases eH.mp Y with e|m
   .rw[e];exact J.mono F
   .exact(S u m).mono I
  .rcases ro.mp j with m|m
   .exact(M b m).mono F
   .exact(U b m).mono I
end
end
def Tf(o:Obj):Option HO:=match o.data with
 |.seq vs _=>if(o.cls==Value.type "list")=true then some (.yS o (.lst<|vs.toList.map toV))else some (.yS o (.tup<|vs.toList.map toV))
 |_=>none
def ng(K:cn)(h:Heap)(A:Bf):Hp:=λb=>if b∈A then(if(K.lookup b).isNone=true then(h.get? b).bind Tf else none)else none
def U5(H:Hp):Prop:=∀b,H b=none\/B_ λo u=>H b=some (.yS o u)
def Fp(vs:Bb):Tf {cls:=.type "list",data:=.seq vs.toArray}=some (.yS {cls:=.type "list",data:=.seq vs.toArray} (.lst<|vs.map toV)):=by show(if(Value.type "list"==Value.type "list")=true then some (HO.yS {cls:=.type "list",data:=.seq vs.toArray} (.lst<|vs.toArray.toList.map toV))else some (HO.yS {cls:=.type "list",data:=.seq vs.toArray} (.tup<|vs.toArray.toList.map toV)))=_;rw[dt<|beq_self_eq_true _]
def Fq(vs:Bb):Tf {cls:=.type "tuple",data:=.seq vs.toArray}=some (.yS {cls:=.type "tuple",data:=.seq vs.toArray} (.tup<|vs.map toV)):=by show(if(Value.type "tuple"==Value.type "list")=true then some (HO.yS {cls:=.type "tuple",data:=.seq vs.toArray} (.lst<|vs.toArray.toList.map toV))else some (HO.yS {cls:=.type "tuple",data:=.seq vs.toArray} (.tup<|vs.toArray.toList.map toV)))=_;rw[c0<|by decide]
section
variable{P:Program}{w:World}{K:cn}{h:Heap}{A:Bf}
def vG(j:b∈A)(hk:K.lookup b=none)(e:h.get? b=some o):ng K h A b=Tf o:=by unfold ng;rw[dt j,hk,dt (show(none:Option Obj).isNone=true from rfl),e]<;>rfl
def Tg(q:ng K h A b=some u):b∈A/\K.lookup b=none:=by
 unfold ng at q;by_cases j:b∈A
 .rw[dt j]at q;cases hk:K.lookup b with
  |none=>exact⟨j,rfl⟩
  |some o=>rw[hk,c0<|by simp]at q;cases q
 .rw[c0 j]at q;cases q
def vH(z:∀a∈A,m6 h A a)(q:ng K h A b=some u):K.lookup b=none/\∃vs:Bb,vs.length<=sizeLine/\(∀u∈vs,Mo A u)/\
  ((h.get? b=some {cls:=.type "list",data:=.seq vs.toArray}/\u=.yS {cls:=.type "list",data:=.seq vs.toArray} (.lst<|vs.map toV))\/
   (h.get? b=some {cls:=.type "tuple",data:=.seq vs.toArray}/\u=.yS {cls:=.type "tuple",data:=.seq vs.toArray} (.tup<|vs.map toV))):=by
 obtain⟨j,hk⟩:=Tg q;obtain⟨vs,h1,h2,F⟩:=z b j;refine⟨hk,vs,h1,h2,?_⟩;rcases F with e|e
 .rw[vG j hk e,Fp]at q;exact .inl ⟨e,(ri q).symm⟩
 .rw[vG j hk e,Fq]at q;exact .inr ⟨e,(ri q).symm⟩
def Mp(j:∀a∈A,m6 h A a):U5<|ng K h A:=λb=>by
 cases q:ng K h A b with
 |none=>exact .inl rfl
 |some u=>
  obtain⟨_,vs,_,_,⟨_,e⟩|⟨_,e⟩⟩:=vH j q
  .exact .inr ⟨_,_,by rw[e]⟩
  .exact .inr ⟨_,_,by rw[e]⟩
def Th(j:∀a∈A,m6 h A a):mV P w (ng K h A) h:=λb u q=>by
 obtain⟨_,vs,h1,h2,⟨e,rfl⟩|⟨e,rfl⟩⟩:=vH j q
 .exact⟨e,by rw[ek];exact h1,vs,_,lX h2,e⟩
 .exact⟨e,by rw[ek];exact h1,vs,lX h2,_,e,rfl,_,rfl⟩
def vI{vs us:Bb}(e:(some {cls:=c,data:=.seq vs.toArray}:Option Obj)=some {cls:=j,data:=.seq us.toArray}):c=j/\vs=us:=by
 have z:=ri e;have F:=congrArg Obj.cls z;have I:=congrArg Obj.data z;injection I with J
 refine⟨F,?_⟩;simpa using(congrArg Array.toList J)
def aer(F:K.In h)(I:∀a∈A,m6 h A a){vs:Bb}(j:a∈A)(e:h.get? a=some {cls:=.type "list",data:=.seq vs.toArray}):(∀u∈vs,Mo A u)/\az K (ng K h A) a (vs.map toV):=by
 obtain⟨us,h1,h2,J⟩:=I a j;have M:us=vs:=by
  rcases J with q|q
  .rw[e]at q;exact(vI q).2.symm
  .rw[e]at q;exact absurd (Q7 (vI q).1) (by decide)
 subst M;refine⟨h2,?_⟩;cases hk:K.lookup a with
 |none=>exact .inl (.inr ⟨_,by rw[vG j hk e,Fp]⟩)
 |some o=>have z:=F a o hk;rw[e]at z;obtain rfl:=ri z;exact .inr ⟨_,us.toArray,_,hk,rfl,rfl,rfl,by rw[pd];exact h1,by simpa using lX h2⟩
def aes(F:K.In h)(I:∀a∈A,m6 h A a){vs:Bb}(j:a∈A)(e:h.get? a=some {cls:=.type "tuple",data:=.seq vs.toArray}):(∀u∈vs,Mo A u)/\ee K (ng K h A) a (vs.map toV):=by
 obtain⟨us,h1,h2,J⟩:=I a j;have M:us=vs:=by
  rcases J with q|q
  .rw[e]at q;exact absurd (Q7 (vI q).1) (by decide)
  .rw[e]at q;exact(vI q).2.symm
 subst M;refine⟨h2,?_⟩;cases hk:K.lookup a with
 |none=>exact .inl (.inr ⟨_,by rw[vG j hk e,Fq]⟩)
 |some o=>have z:=F a o hk;rw[e]at z;obtain rfl:=ri z;exact .inr ⟨_,us.toArray,_,hk,rfl,rfl,by rw[pd];exact h1,by simpa using lX h2⟩
mutual
theorem WV{I:Params}(j:K.In h)(F:∀a∈A,m6 h A a):∀(d:WData)(v:Value),Well I h v d->KG d=true->Mo A v->Dw K (ng K h A) (toV v) d
 |.none,_,x,_,_=>by cases x;exact .eQ
 |.bool b,_,x,_,_=>by cases x;exact .bl b
 |.int i,_,x,_,_=>by cases x;exact .int i
 |.str s,_,x,_,_=>by cases x;exact .str s
 |.bytes b,_,x,_,_=>by cases x;exact(Dw.Eb (K:=K) (H:=ng K h A) b.toArray)
 |.list ds,_,x,p,hu=>by obtain⟨a,vs,rfl,ho,iX⟩:=A6 x;obtain⟨h2,hs⟩:=aer j F hu ho;exact .lst hs<|Cs j F ds _ iX p h2
 |.tuple ds,_,x,p,hu=>by obtain⟨a,vs,rfl,ho,iX⟩:=xg x;obtain⟨h2,hs⟩:=aes j F hu ho;exact .tup hs<|Cs j F ds _ iX p h2
 |.float _,_,_,p,_=>Bool.noConfusion<|p
 |.dict _,_,_,p,_=>Bool.noConfusion<|p
 |.bytearray _,_,_,p,_=>Bool.noConfusion<|p
 |.set _,_,_,p,_=>Bool.noConfusion<|p
 |.frozenset _,_,_,p,_=>Bool.noConfusion<|p
 |.obj _ _,_,_,p,_=>Bool.noConfusion<|p
theorem Cs(j:K.In h)(z:∀a∈A,m6 h A a):∀(ds:List WData)(vs:Bb),WellAll F h vs ds->u9 ds=true->(∀u∈vs,Mo A u)->n9 K (ng K h A) (vs.map toV) ds
 |[],_,x,_,_=>by cases x;exact .nil
 |d::ds,_,x,p,hu=>by obtain⟨v,vs,rfl,x1,x2⟩:=A7 x;have q:=X9.mp p;exact .cons (WV j z d v x1 q.1<|hu _<|lx ..)<|Cs j z ds vs x2 q.2 λu m=>hu u<|kB _ m
end
end
def xh(h:WData.layableAll ds=true):∀d∈ds,d.weight<=1048576:=λd hd=>(PySem.W.layableW_iff.mp<|wy.mp h d hd).2.2
theorem xi:∀(j:List Codec)(a:Codec.denoteAll j),(Codec.encAll j a).length=j.length
 |[],_=>rfl
 |c::j,a=>by show(Codec.encAll j a.2).length+1=j.length+1;rw[xi j a.2]
def PZ{P:Program}{K:cn}{k:Nat}{t:Tab}{sp:Sp}{I:Bb}{R:PySem.W.WRecords}{d0:WData}
  (KX:K.In j.heap)(X2:j.heap.Ns mainGlobals mg)(hb:j.heap.Ns builtinsNs mb)(hbb:∀x:Str,x≠"__name__"->mb x=bootBuiltins x)(Wn:j.heap.NoLimit)(hg:j.gens=#[])
  (hC:PySem.W.CodeHd j.heap c t.P)(hP:j.heap.get? t.P=some (PySem.W.tabObj #[]))(hKP:K.lookup t.P=none)(vF:Fi mg j.heap)
  (Sv:WellAll w.params j.heap I ds)(jc:u9 ds=true)(hwt:∀d∈ds,d.weight<=1048576)(hr:eK k callerA)
  (F:∀base:Heap,Fi mg base->∃fd,Binds K fd ps []/\nO P w K mg base HJ k fa fd ps sp)(hlen:ds.length=ps.length)
  (DS:∀(M H:Hp)(xs:List V),aq M H->TabsOk [t] H->n9 K M xs ds->sp xs H (λv H'=>Dw K H' v d0) λ_ _ _=>False):
  codeAny (model P w) callerA (.call (.ref fa) ⟨I,[]⟩) (λr s'=>B_ λu as=>r=.ok (.ret u)/\ReadsW R cl s'.heap u d0 as/\OldK j.heap s'.heap/\s'.os=j.os/\AllBare s'.gens) j:=by
 obtain⟨A,ho,ar⟩:=rR ds I Sv jc hwt;have hO:U5<|ng K j.heap A:=Mp ar;have aaB:mV P w (ng K j.heap A) j.heap:=Th ar;have hS:=Cs KX ar ds I Sv jc ho;have hV:=lX ho;have hK0:∀b u,ng K j.heap A b=some u->K.lookup b=none:=λb u q=>(vH ar q).1;have Z:∀b u,ng K j.heap A b=some u->∃vs:Bb,j.heap.get? b=some {cls:=.type "list",data:=.seq vs.toArray}\/j.heap.get? b=some {cls:=.type "tuple",data:=.seq vs.toArray}:=λb u q=>by
  obtain⟨_,vs,_,_,⟨S,_⟩|⟨S,_⟩⟩:=vH ar q
  .exact⟨vs,.inl S⟩
  .exact⟨vs,.inr S⟩
 generalize ng K j.heap A=M at hO aaB hS hK0 Z;have hnP:M t.P=none:=by
  cases q:M t.P with
  |none=>rfl
  |some u=>
   obtain⟨vs,e|e⟩:=Z _ _ q
   .rw[hP]at e;cases e
   .rw[hP]at e;cases e
 have k0:aq M<|upd M t.P (.uX #[]):=aq.new hnP;have hPt:(upd M t.P (.uX #[])) t.P=some (.uX #[]):=ah;have U:∀b u,(upd M t.P (.uX #[])) b=some u->(b=t.P/\u=.uX #[])\/(b≠t.P/\M b=some u):=λb u e=>by
  by_cases z:b=t.P
  .rw[z,ah]at e;cases e;exact .inl ⟨z,rfl⟩
  .rw[aL z]at e;exact .inr ⟨z,e⟩
 have c7:mV P w (upd M t.P (.uX #[])) j.heap:=λb u e=>by
  by_cases z:b=t.P
  .subst z;rw[ah]at e;cases e;exact hP
  .rw[aL z]at e;exact(aaB b u e).yT (λ_ _ _ q=>q) (λc q=>by rw[aL<|aX q hnP];exact q) λc xs q=>by rw[aL<|aX q hnP];exact q
 generalize upd M t.P (.uX #[])=H at k0 hPt U c7;have hK:∀b u,H b=some u->K.lookup b=none:=λb u e=>by
  rcases U b u e with⟨rfl,_⟩|⟨_,e⟩
  .exact hKP
  .exact hK0 b u e
 have VR:∀{b:Addr}{o:Obj}{es:Array DictEntry}{ep:Nat},j.heap.get? b=some o->o.data=.dict es ep->H b=none:=λ{b o es ep} e d=>by
  cases q:H b with
  |none=>rfl
  |some u=>
   rcases U b u q with⟨rfl,_⟩|⟨_,q⟩
   .rw[hP]at e;cases e;cases d
   .obtain⟨vs,S|S⟩:=Z _ _ q
    .rw[S]at e;cases e;cases d
    .rw[S]at e;cases e;cases d
 have J:∀{b:Addr}{o:Obj},j.heap.get? b=some o->H b=none->(pC j.heap H).get? b=some o:=λe n=>Ec e n;have UE:∀{b:Addr}{m:Be},j.heap.Ns b m->(pC j.heap H).Ns b m:=λ{b m}⟨o,es,ep,e,d,r⟩=>⟨o,es,ep,J e<|VR e d,d,r⟩;have nK:∀b o,K.lookup b=some o->H b=none:=λb o e=>by
  cases q:H b with
  |none=>rfl
  |some u=>rw[hK b u q]at e;cases e
 have hKb:K.In<|pC j.heap H:=λb o e=>J (KX b o e)<|nK b o e;have hM:Mod K mg<|pC j.heap H:=⟨hKb,UE X2,⟨mb,UE hb,hbb⟩,let⟨mc,h1,h2⟩:=Wn;⟨mc,UE h1,h2⟩⟩;have e0:BI P w K mg (pC j.heap H) callerA [] j H:=⟨rfl,hM,λb o e=>JK e,SJ<|Az _ _,trivial,λb hb=>absurd (show b∈([]:Bf)from hb)<|by simp,c7,.of_eq hg⟩;have hl:I.length=ps.length:=by rw[kW Sv];exact hlen
 have tb:TabsOk [t] H:=λu hu=>by rw[oI.mp hu];exact⟨#[],hPt,.nil⟩
 have aew:Fi mg<|pC j.heap H:=by
  obtain⟨bm,ob,m1,m2,m3,m4,m5⟩:=vF;refine⟨bm,ob,m1,m2,J m3 ?_,m4,m5⟩;cases q:H bm with
  |none=>rfl
  |some u=>
   rcases U bm u q with⟨rfl,_⟩|⟨_,q⟩
   .rw[hP]at m3;cases m3;cases m4
   .obtain⟨vs,S|S⟩:=Z _ _ q
    .rw[S]at m3;cases m3;exact absurd (Q7 m4) (by decide)
    .rw[S]at m3;cases m3;exact absurd (Q7 m4) (by decide)
 obtain⟨fd,hbd,Fk⟩:=F (pC j.heap H) aew;have bt:=hbd j I KX (by rw[B5];exact hl);rw[B5]at bt;refine Kg (Fk.run callerA [] j H ⟨I,[]⟩ I (I.map toV) _ _ hr e0 bt hV<|DS M H _ k0 tb hS) λr s' x=>?_;cases r with
 |error e=>exact False.elim x
 |ok fl=>
  cases fl with
  |next=>exact False.elim x
  |brk=>exact False.elim x
  |cont=>exact False.elim x
  |ret u=>
   obtain⟨v,H',os,bare,un,Y,r',q⟩:=x;have kept:∀b o,b≠t.P->j.heap.get? b=some o->s'.heap.get? b=some o:=λb o nb e=>by
    cases q2:H b with
    |none=>exact un.keep b o e q2 (by intro z;exact absurd (show b∈([]:Bf)from z)<|by simp) (by simp)
    |some u2=>
     rcases U b u2 q2 with⟨z,_⟩|⟨_,q3⟩
     .exact absurd z nb
     .rcases hO b with z|⟨ob,u3,z⟩
      .rw[q3]at z;cases z
      .have z1:=k0 _ _ z;have z2:=un.wm b ob _ z1;obtain⟨e1,_⟩:=c7 b _ z1;obtain⟨S,_⟩:=Y b _ z2;rw[e]at e1;cases e1;exact S
   obtain⟨more,hPm⟩:=un.yU t.P #[] hPt;have hP':s'.heap.get? t.P=some (PySem.W.tabObj<|#[]++more):=Y _ _ hPm;have KX':K.In s'.heap:=λb o e=>kept b o (λz=>by rw[z,hKP]at e;cases e)<|KX b o e;obtain⟨as,Hg⟩:=Dw.reads (R:=R) (cl:=cl) Y KX' d0 v u q r';refine⟨u,as,rfl,Hg,⟨λb o e=>?_,λb o e=>?_⟩,os,bare⟩
   .by_cases z:b=t.P
    .subst z;rw[hP]at e;cases e;exact .inr (.inl ⟨(hC.tab hP).isCodeTable,rfl,#[],more,rfl,hP'⟩)
    .exact .inl<|kept b o z e
   .by_cases z:b=t.P
    .rw[z];exact⟨_,hP'⟩
    .exact⟨o,kept b o z e⟩
def P0{r:OpenSpec}{k:Nat}{q:Program}{loose:Ba}{XP:Be->Heap->Prop}{YP:World->Heap->Prop}{d:DefRec}{K:Params->cn}{ps:Ba}{sp:cn->Sp}{xN:Str}{c:Addr}{t:Tab}
  (j:r.wellSaid=true)(hdf:d.params.defaults=[])(I:r.args.length=ps.length)(hr:eK k callerA)
  (hY:∀(w:World)(h:Heap),YP w h->(K w.params).In h)(hN:((PyProof.Rows.recsOf q).find? λe=>e.name==xN).isSome=true)(hT:∀w:World,PySem.W.tabIn (K w.params) xN=some (c,t.P))(hKP:∀w:World,(K w.params).lookup t.P=none)
  (F:∀(w:World)(mg:Be)(Z:Addr)(h:Heap),YP w h->(K w.params).In h->h.Ns mainGlobals mg->mg d.name=some (.ref Z)->
   ∀base:Heap,Fi mg base->∃fd:FuncData,Binds (K w.params) fd ps []/\nO r.prog w (K w.params) mg base HJ k Z fd ps (sp<|K w.params))
  (DS:∀(K:cn)(H0 H:Hp)(xs:List V)(a:Codec.denoteAll r.args),aq H0 H->TabsOk [t] H->Codec.withinAll r.args a=true->Codec.app r.args r.asked a=true->n9 K H0 xs (Codec.encAll r.args a)->
   sp K xs H (λv H'=>Dw K H' v<|r.ret.enc<|Codec.app r.args r.f a) λ_ _ _=>False):
  PySem.W.WalkOS q loose XP YP r d [] (λf vs=>PySem.call f vs):=by
 intro w yV bP mg mb G Y Z o pm cd doc dV kV ho hd G8 hD LK hg J vals as M S Hg Sv ZG;obtain⟨a,e1,e2⟩:=PySem.W.os_pre_some M;obtain⟨e3,U⟩:=Codec.encAll_of_decAll r.args J a e1;subst e3;have KX:=hY w _ Y;obtain⟨dN,hdN⟩:=aoJ.mp hN;obtain⟨hC,hP⟩:=PySem.W.tab_of G.T KX hdN<|hT w
 refine PySem.W.enter_call (Kg (PZ (R:=[]) (cl:=classAt yV.heap) (d0:=r.ret.enc<|Codec.app r.args r.f a) KX G.T.g G.T.b G.T.builtins G.T.nolimit hg hC hP (hKP w) (G.T.bmain.elim λa h=>h.elim λb h=>⟨a,b,h⟩) Sv (A5 _ _) (xh S) hr (F w mg Z _ Y KX G.T.g LK) (by rw[xi];exact I)
  (λH0 H xs h1 h2 h3=>DS (K w.params) H0 H xs a h1 h2 U e2 h3)) λr' s' hq=>?_)
 obtain⟨u,as',rfl,h1,h2,h3,h4⟩:=hq;exact⟨.inl ⟨u,_,as',rfl,λ_=>rfl,h1,(OpenSpec.post_iff j U _ _).mpr rfl,λz=>Bool.noConfusion<|show false=true from z⟩,h2,h3,h4⟩
end L2
namespace Pb
open PySem PySem.Spec PyProof.Rows L2
open Vbxoab (Item Office Sel Demand hostile isItem inside nat rising gapOf leastBy pairs disjoint peaceful fits amount sumOf allOf candidates apartness useAll noItem text decimal joined selWords demandWords digit natOf quantity demandOf splitLines wordsIn readPlan planOf bit does parts listed search paperIn onPaper marksOf minutesOf weight marksOn mean topicsIn unlikeness less off always never nearest MANY LASTYEAR ITEMS callOf)
structure Cl where
 b:Addr
 q:Addr
 d:Addr
 qz:Addr
 lC:Addr
 ko:Addr
 lD:Addr
 jd:Addr
 kr:Addr
 A8:Addr
 xj:Addr
 tn:Addr
structure Txt(K:cn)(mg:Be)(C:Cl):Prop where
 U6:mg "abs"=none
 km:mg "all"=none
 ET:mg "any"=none
 WW:mg "dict"=none
 jD:mg "enumerate"=none
 aaD:mg "int"=none
 aD:mg "len"=none
 qA:mg "list"=none
 aaE:mg "max"=none
 P1:mg "min"=none
 g7:mg "ord"=none
 jU:mg "range"=none
 di:mg "set"=none
 aW:mg "sorted"=none
 pV:mg "sum"=none
 Ti:mg "tuple"=none
 uG:mg "zip"=none
 P2:SD mg "DIGITS" "0123456789"
 Mq:SD mg "LETTERS" "abcdefghijklmnopqrstuvwxyz"
 Il:Ce mg "MEASURES" C.qz
 xk:m9 mg "MOST_DEMANDS" (10)
 zg:m9 mg "MOST_DIGITS" (4)
 rS:m9 mg "HOW_MANY_TOPICS" (12)
 vc:m9 mg "MOST_SEARCHED" (12)
 fv:m9 mg "TOO_MANY" (-8)
 Im:m9 mg "TOO_LATE" (-7)
 Fs:m9 mg "BANK_FULL" (-6)
 Io:m9 mg "NOT_GOOD" (-5)
 ku:m9 mg "NO_PAPER" (-4)
 A9:m9 mg "ALREADY" (-3)
 cV:m9 mg "NOT_AS_TOLD" (-1)
 Ct:m9 mg "WRONG_PLAN" (-1000)
 tJ:m9 mg "MOST_QUESTIONS" (20)
 Cu:m9 mg "MOST_TWINS" (300)
 Cv:m9 mg "MOST_BYTES" (1000)
 Ft:m9 mg "LAST_YEAR" (200)
 zh:Ce mg "ITEM_RANGES" C.lC
 xl:Ce mg "LEAVE_RANGES" C.ko
 zi:Ce mg "YEAR_RANGES" C.lD
 tK:Ce mg "HARDEST_RANGES" C.jd
 xm:Ce mg "LASTS_RANGES" C.kr
 Mr:Ce mg "LAYOUTS" C.A8
 zj:aG K mg "span_demand" (top 2)
 zk:aG K mg "pair_demand" (top 3)
 WX:aG K mg "fits" (top 4)
 Ms:aG K mg "measure" (top 5)
 P4:aG K mg "shares" (top 6)
 Tj:aG K mg "holds" (top 7)
 Fu:aG K mg "holds_for" (top 8)
 Fv:aG K mg "sel_words" (top 9)
 Mt:aG K mg "as_line" (top 10)
 Mu:aG K mg "sign_of" (top 17)
 Ip:aG K mg "lines_of" (top 18)
 Iq:aG K mg "words_of" (top 19)
 Cw:aG K mg "sel_bounds" (top 20)
 zl:aG K mg "read_number" (top 21)
 Ir:aG K mg "read_sel" (top 22)
 Fw:aG K mg "read_span" (top 23)
 Fx:aG K mg "read_pair" (top 24)
 zm:aG K mg "read_demand" (top 25)
 Fy:aG K mg "read_plan" (top 26)
 xo:aG K mg "questions_of" (top 29)
 Iu:aG K mg "marks_of" (top 30)
 Cy:aG K mg "minutes_of" (top 31)
 Fz:aG K mg "weight_of" (top 32)
 Iv:aG K mg "marks_on" (top 33)
 qB:aG K mg "greatest_divisor" (top 34)
 vd:aG K mg "mean_hardness" (top 35)
 FA:aG K mg "topics_of" (top 36)
 Mv:aG K mg "profile" (top 37)
 Cz:aG K mg "unlikeness" (top 38)
 Mw:aG K mg "as_bits" (top 39)
 vf:aG K mg "closest_twins" (top 40)
 nh:aG K mg "nearest_in_hardness" (top 41)
 FC:aG K mg "has_leave" (top 46)
 CA:aG K mg "with_leave" (top 47)
 og:aG K mg "too_many_to_search" (top 48)
 Mx:aG K mg "pair_of" (top 49)
 zo:aG K mg "are_enemies" (top 50)
 CB:aG K mg "enemies_of" (top 51)
 zp:aG K mg "is_question" (top 52)
 Iw:aG K mg "is_paper" (top 53)
 rT:aG K mg "without_enemies" (top 54)
 tM:aG K mg "all_with_leave" (top 55)
 FD:aG K mg "use_paper" (top 56)
 qC:aG K mg "copy_of_question" (top 57)
 xp:aG K mg "copy_of_bank" (top 58)
 My:aG K mg "subsets" (top 60)
 zq:aG K mg "subset_sums" (top 61)
 tN:aG K mg "place_in_order" (top 62)
 Iy:aG K mg "in_order" (top 63)
 CC:aG K mg "foes_ahead" (top 64)
 Iz:aG K mg "peaceful" (top 65)
 IA:aG K mg "verdicts" (top 66)
 pF:aG K mg "good_in_any_order" (top 67)
 zr:aG K mg "good_papers" (top 68)
 CD:aG K mg "first_good" (top 69)
 xq:aG K mg "met_together" (top 70)
 IB:aG K mg "meetable" (top 71)
 rV:aG K mg "fewest_clashing" (top 72)
 P5:aG K mg "in_all" (top 73)
 Mz:aG K mg "in_none" (top 74)
 Tn:aG K mg "apart" (top 75)
 Yd:aG K mg "nearest" (top 76)
 MB:aG K mg "lasting" (top 77)
 FE:aG K mg "in_ranges" (top 97)
 zt:aG K mg "with_length" (top 98)
 FF:aG K mg "as_number" (top 99)
 zu:aG K mg "verdicts_on" (top 100)
 IC:aG K mg "add_item" (top 101)
 zv:aG K mg "add_enemies" (top 102)
 ID:aG K mg "set_plan" (top 103)
 FG:aG K mg "set_leave" (top 104)
 CF:aG K mg "pass_years" (top 105)
 CG:aG K mg "tell_meets" (top 106)
 CH:aG K mg "tell_count" (top 107)
 CI:aG K mg "tell_first" (top 108)
 CJ:aG K mg "tell_clash" (top 109)
 FI:aG K mg "tell_must" (top 110)
 FJ:aG K mg "tell_near" (top 111)
 CK:aG K mg "tell_twins" (top 112)
 tO:aG K mg "use_good_paper" (top 113)
 CM:aG K mg "tell_shown" (top 114)
 CN:aG K mg "tell_about" (top 115)
 CO:aG K mg "tell_score" (top 116)
 xr:aG K mg "tell_hardest" (top 117)
 pG:aG K mg "withdraw_question" (top 118)
 IE:aG K mg "tell_nth" (top 119)
 CP:aG K mg "tell_lasts" (top 120)
 FK:aG K mg "tell_told" (top 121)
 zw:aG K mg "answer_call" (top 123)
 MC:aG K mg "answers" (top 124)
 P6:tH K mg "Demand" "Demand.__init__" C.d (inClass (top 1) 0)
 g8:Nf K C.d
 IF:tH K mg "Question" "Question.__init__" C.q (inClass (top 44) 0)
 c9:Nf K C.q
 WY:tH K mg "Bank" "Bank.__init__" C.b (inClass (top 45) 0)
 fe:Nf K C.b
 mB:eD K C.b "questions"
 qD:eD K C.b "enemies"
 mC:eD K C.b "demands"
 rW:eD K C.b "year"
 CQ:eD K C.b "gap"
 vJ:eD K C.b "most"
 FL:eD K C.q "topic"
 KI:eD K C.q "kind"
 uH:eD K C.q "hardness"
 FN:eD K C.q "marks"
 xt:eD K C.q "minutes"
 xu:eD K C.q "years"
 jV:eD K C.q "withdrawn"
 KJ:eD K C.d "word"
 FO:eD K C.d "first"
 Bg:eD K C.d "second"
 P7:eD K C.d "low"
 KL:eD K C.d "high"
 IG:Fj K C.qz [.str "count",.str "marks",.str "minutes"]
 zx:Fl K C.lC [(0,11),(0,5),(0,4),(1,200),(1,300)]
 xw:Fl K C.ko [(0,50),(1,99)]
 zy:Fl K C.lD [(1,100)]
 tP:Fl K C.jd [(0,4000),(1,1000)]
 xx:Fl K C.kr [(1,8)]
 MD:Fl K C.A8 [(5,0),(2,0),(0,1),(2,0),(1,0),(0,1),(0,0),(0,0),(0,0),(0,0),(0,1),(0,0),(0,1),(0,0),(1,0),(0,1),(2,0),(1,0),(1,0),(1,0),(0,0)]
 IH:Defs K mg C.xj ["add_item","add_enemies","set_plan","set_leave","pass_years","tell_meets","tell_count","tell_first","tell_clash","tell_must","tell_near","tell_twins","use_good_paper","tell_shown","tell_about","tell_score","tell_hardest","withdraw_question","tell_nth","tell_lasts","tell_told"]
 II:Ce mg "HANDLERS" C.xj
 oZ:Tc K mg "nearest" (top 76) ⟨C.tn,"nearest.<locals>.<lambda>"⟩
theorem nx{H H':Hp}{D:Addr}{o:HO}(e:upd H D o=H')(h:H D=none):aq H H'/\H' D=some o:=by subst e;exact⟨aq.new h,ah⟩
def sz(h:n<=m)(j:m<=1000000:=by decide):n<=sizeLine:=by
 have:(1000000:Nat)<=sizeLine:=by decide
 lia
def U7(h:n<=m)(j:m<=1000000:=by decide):n<sizeLine:=by
 have:(1000000:Nat)<sizeLine:=by decide
 lia
def gb(h:n<=1000000)(q:A):n<=sizeLine/\A:=⟨sz h,q⟩
def aA{A B:Prop}(h:c=false)(q:B):if c=true then A else B:=by rw[h];exact ft q
def aC{A B:Prop}(h:c=true)(q:A):if c=true then A else B:=by rw[h];exact fo q
def dY{A:Int->Prop}(q:A i):∃k,V.int i=.int k/\A k:=⟨i,rfl,q⟩
def cE:decide (V.ref a=V.eQ)=false:=rfl
def bG:(!decide (V.ref a=V.eQ))=true:=rfl
def cF:decide (V.int i=V.eQ)=false:=rfl
def bH:(!decide (V.int i=V.eQ))=true:=rfl
def U8{c:Bool}{t1 z:TE}(v:V)(h1:c=true->∀j:VK,(∀H',aq H H' ->j v H')->t1 σ H j)(h2:c=false->∀j:VK,(∀H',aq H H' ->j v H')->z σ H j)(q:∀H',aq H H' ->Q v H'):
  if c=true then t1 σ H Q else z σ H Q:=by
 cases c with
 |true=>exact fo<|h1 rfl Q q
 |false=>exact ft<|h2 rfl Q q
section
variable{X:Cx}
def gu(i:Nat)(j:X.N.Nodup)(hi:X.N[i]?=some x:=by rfl)(z:Loc X.env.scope x:=by array_mem_dec)(F:X.fn x=true\/X.env.scope.names.lookup x=some .local:=by array_mem_dec):PG X (.Name x pos)<|eZ i:=RK j hi z F
def eC(i:Nat)(j:X.N.Nodup)(z:PE X e te)(hi:X.N[i]?=some x:=by rfl)(F:Loc X.env.scope x:=by array_mem_dec)(hs:swapsWith e (some (.Name x pos')) pos.line X.env=pure false:=by rfl)(I:X.fn x=true\/X.env.scope.names.lookup x=some .local:=by array_mem_dec):PS X (.Assign [.Name x pos'] e pos)<|Lo te<|eZ i:=VC j hi F z hs I
def c6(F:Fn X.prog X.w X.K X.mg X.base x k ps sp)(J:eK I X.A)(M:PA X (e::es) t)(hk:k<=I:=by decide)(S:Gl X x:=by rfl)(j:(x==("__debug__":Str))=false:=by decide)
  (U:starEach (e::es) X.env=(false,eval e X.env)::starEach es X.env:=by rfl)(z:(backTo pos<|starEach es X.env).any (·.1)=false:=by rfl):PE X (.Call (.Name x p) (e::es) [] pos)<|JV [] E0 sp t:=UK F (J.mono hk) M S j U z
def peM(F:Ww X.prog X.w X.K X.mg X.base x C k ps sp)(J:eK I X.A)(M:PA X (e::es) t)(hk:k+1<=I:=by decide)(S:Gl X x:=by rfl)(j:(x==("__debug__":Str))=false:=by decide)
  (U:starEach (e::es) X.env=(false,eval e X.env)::starEach es X.env:=by rfl)(z:(backTo pos<|starEach es X.env).any (·.1)=false:=by rfl):PE X (.Call (.Name x p) (e::es) [] pos)<|AE C sp [] E0 t:=Z3 F (J.mono hk) M S j U z
def fj(h:(sc.kind=.function/\sc.isCoroutine=false/\sc.isGenerator=false/\N.Nodup/\N.take P.length=P)/\(∀x∈P,sc.names.lookup x=some .local\/sc.names.lookup x=some .cell)/\∀y∈sc.names,y.2≠.free:=by decide+kernel):aB N P sc:=⟨h.1.1,h.1.2.1,h.1.2.2.1,h.1.2.2.2.1,h.1.2.2.2.2,h.2.1,h.2.2⟩
def qLn(p:Bb->Prop):Nat->Prop|0=>p []|n+1=>∀a,qLn (λl=>p (a::l)) n
theorem qLz{p:Bb->Prop}{n}(h:qLn p n)(us:Bb)(e:us.length=n):p us:=by subst e;induction us generalizing p with|nil=>exact h|cons a l i=>exact i (h a)
def _root_.L2.aG.go{P:Program}{K:cn}{base:Heap}{st:Stmt}{k:Nat}(T:aG K mg x st)(S:aB N ps<|ai st)
  (z:∀(f:Addr)(j:Value)(A:Around)(outer:List Env)(s:Shared)(H:Hp)(vs:List V)(Q:VK)(E:XK),eK k (A.deeper<|envOfC x (ai st) s.heap.objs.size f j)->sp vs H Q E->
   ∃t,Ef (yY HJ N x (ai st) P w K mg base f j A outer s H E).RI (fF st) t/\t {nx:=λ_ H'=>Q .eQ H',rt:=Q} (start N vs) H)
  (J:∀(kV I pm:Value)(M:Option Addr)(j ct:Value)(us:Bb),us.length=ps.length->bindArgs (PySem.W.fnOf x x (iK st) (fF st) (ai st) .none kV I pm M j ct) ⟨us,[]⟩=pure (ps.zip us):=by exact λ_ _ _ _ _ _=>qLz (by(repeat intro _);rfl))
  (len:∀vs H Q E,sp vs H Q E->vs.length=ps.length:=by
   intro _ _ _ _ h
   repeat(first|(obtain⟨rfl,_⟩:=h;rfl)|(cases h;rename_i h))):Fn P w K mg base x (k+1) ps sp:=T.fn S J len z
end
def aaF(x y v:V)(H:Hp)(R:Hp->Prop):Prop:=B_ λa j=>x=.ref a/\za H a y v j/\R j
def aaG(A:Addr)(sp:Sp)(vs:List V)(H1:Hp)(Q:VK):Prop:=∀x dx,H1 x=none->H1 dx=none->dx≠x->sp (.ref x::(vs++[])) (upd (upd H1 dx (.own x)) x (.ins A dx [])) (λv H2=>v=.eQ/\Q (.ref x) H2) E0
def aaH(K:cn)(f:Str)(x y:V)(H:Hp)(R:Hp->Prop):Prop:=D_ λa A dx fs=>x=.ref a/\H a=some (.ins A dx fs)/\Nf K A/\eD K A f/\fs.length<1000/\R (upd H a (.ins A dx<|c8 f y fs))
section
variable{K:cn}{σ:L2.St}{H:Hp}{Q:VK}{D:Ends}{ta tb tv td ty:TE}{t:TA}{f:Str}{A:Addr}{sp:Sp}
def aK{ts:TS}(e:σ=σ')(q:ts D σ' H):ts D σ H:=e▸q
def cG(e:σ=σ')(q:ts (D.n<|us D) σ' H):Vz ts us D σ H:=e▸q
def bI(q:∀p,H p=none->Q (.ref p) (upd H p (.dK []))):Oo σ H Q:=q
def bJ(q:∀p,H p=none->Q (.ref p) (upd H p (.dT []))):Oq σ H Q:=q
def cH(q:tv σ H λv H1=>td σ H1 λx H2=>ty σ H2 λy H3=>aaF x y v H3 λj=>D.nx σ j):Uy td ty tv D σ H:=q
def cI(q:t σ H λvs H1=>aaG A sp vs H1 Q):AE A sp [] E0 t σ H Q:=q
def cJ(q:tv σ H λy H1=>ta σ H1 λx H2=>aaH K f x y H2 λH3=>D.nx σ H3):VL K ta tv f D σ H:=q
def qWh(z:Nat->L2.St->Hp->Prop)(m:Nat)(tb:TS)(D:Ends)(σ:L2.St)(b:Bool)(H1:Hp):Prop:=if b=true then∃N:L2.St->Hp->Prop,(∀σ' H',N σ' H' ->∃j,j<m/\z j σ' H')/\tb (D.l N) σ H1 else D.nx σ H1
def CS{tb:TS}(j:Nat->L2.St->Hp->Prop)(m:Nat)(h0:j m σ H)(step:∀m σ H,j m σ H->c σ H λb H1=>qWh j m tb D σ b H1):NU c tb D σ H:=⟨j,⟨m,h0⟩,step⟩
def P8{tb:TS}(h:b=true)(q:tb (D.l λσ' H'=>∃j,j<m/\F j σ' H') σ H):qWh F m tb D σ b H:=by subst h;exact⟨_,λ_ _ z=>z,q⟩
def CT{tb:TS}(h:b=false)(q:D.nx σ H):qWh j m tb D σ b H:=by subst h;exact q
end
def bF(lq le ld:Addr)(o:Office):List<|Str×V:=[("questions",.ref lq),("enemies",.ref le),("demands",.ref ld),("year",.int o.year),("gap",.int o.gap),("most",.int o.most)]
def qF(x:Item)(ly:Addr):List<|Str×V:=[("topic",.int x.topic),("kind",.int x.kind),("hardness",.int x.hard),("marks",.int x.marks),("minutes",.int x.minutes),("years",.ref ly),("withdrawn",.bl x.out)]
def dF(w:Str)(j z:V)(lo hi:Nat):List<|Str×V:=[("word",.str w),("first",j),("second",z),("low",.int lo),("high",.int hi)]
abbrev nv(n:Nat):V:=.int (n:Int)
abbrev fm(l:AU):List V:=l.map nv
def Rq(C:Cl)(H:Hp)(B lq le ld:Addr)(o:Office):Prop:=∃dx,H B=some (.ins C.b dx<|bF lq le ld o)
def qG(C:Cl)(H:Hp)(x:Item)(a ly:Addr):Prop:=(∃dx,H a=some (.ins C.q dx<|qF x ly))/\H ly=some (.lst<|fm x.used)/\x.used.length<=900
def CU:Sel->Str
 |.all=>"all"
 |.topic _=>"topic"
 |.kind _=>"kind"
 |.hard _=>"hard"
 |.harder _=>"harder"
 |.question _=>"question"
def oh:Sel->Nat
 |.all=>0
 |.topic n=>n
 |.kind n=>n
 |.hard n=>n
 |.harder n=>n
 |.question n=>n
def jM(K:cn)(H:Hp)(s:Sel)(v:V):Prop:=∃a,v=.ref a/\ee K H a [.str<|CU s,nv<|oh s]
def lY(n:Nat):Str:=if n=1 then"marks" else if n=2 then"minutes" else"count"
def pH:Demand->Str
 |.range _ w _ _=>lY w
 |.whenever _ _=>"if"
 |.apart _ _=>"not"
def uI:Demand->Sel
 |.range s _ _ _=>s
 |.whenever a _=>a
 |.apart a _=>a
def ME:Demand->Option Sel
 |.range _ _ _ _=>none
 |.whenever _ b=>some b
 |.apart _ b=>some b
def P9:Demand->Nat
 |.range _ _ l _=>l
 |_=>0
def To:Demand->Nat
 |.range _ _ _ h=>h
 |_=>0
def MF(K:cn)(H:Hp):Option Sel->V->Prop
 |none,v=>v=.eQ
 |some s,v=>jM K H s v
structure IJ(K:cn)(C:Cl)(H:Hp)(d:Demand)(a:Addr)(v1 v2:V):Prop where
 hd:∃dx,H a=some (.ins C.d dx<|dF (pH d) v1 v2 (P9 d)<|To d)
 one:jM K H (uI d) v1
 two:MF K H (ME d) v2
def iN(K:cn)(C:Cl)(H:Hp)(d:Demand)(v:V):Prop:=C_ λa v1 v2=>v=.ref a/\IJ K C H d a v1 v2
def rX(l:List<|Nat×Nat):List<|List Key×V:=l.map λe=>([Sum.inl ((min e.1 e.2:Nat):Int),Sum.inl ((max e.1 e.2:Nat):Int)],V.bl true)
def CV(d:Demand):Prop:=oh (uI d)<=9999/\(∀s,ME d=some s->oh s<=9999)/\P9 d<=9999/\To d<=9999
structure xy(o:Office):Prop where
 rp:o.items.length<=20
 it:∀x∈o.items,x.topic<=11/\x.kind<=5/\x.hard<=4/\1<=x.marks/\x.marks<=200/\1<=x.minutes/\x.minutes<=300/\x.used.length<=900
 en:∀e∈o.enemies,e.1<o.items.length/\e.2<o.items.length/\e.1≠e.2
 JI:o.enemies.length<=900
 un:((rX o.enemies).map (·.1)).Nodup
 pl:o.plan.length<=10
 pw:∀d∈o.plan,∀s w l h,d=Demand.range s w l h->w<=2
 pn:∀d∈o.plan,CV d
structure jo where
 B:Addr
 lq:Addr
 le:Addr
 ld:Addr
 qs:Bf
 jW:Bf
 ds:List V
structure ae(K:cn)(C:Cl)(H:Hp)(a:jo)(o:Office):Prop where
 hd:Rq C H a.B a.lq a.le a.ld o
 lq:H a.lq=some (.lst<|a.qs.map V.ref)
 ql:a.qs.length=o.items.length
 yl:a.jW.length=o.items.length
 q:∀(i:Nat)(x:Item)(p y:Addr),o.items[i]?=some x->a.qs[i]?=some p->a.jW[i]?=some y->qG C H x p y
 le:H a.le=some (.dT<|rX o.enemies)
 ld:H a.ld=some (.lst a.ds)
 d:Paired (iN K C H) o.plan a.ds
 sep:(a.lq::a.ld::a.jW).Nodup
 qn:a.qs.Nodup
 ok:xy o
def _root_.L2.aq.Rq{B lq le ld:Addr}(k:aq H H')(h:Rq C H B lq le ld o):Rq C H' B lq le ld o:=let⟨dx,e⟩:=h;⟨dx,k _ _ e⟩
def _root_.L2.aq.qG(k:aq H H')(h:qG C H x a ly):qG C H' x a ly:=let⟨⟨dx,e⟩,j,z⟩:=h;⟨⟨dx,k _ _ e⟩,k _ _ j,z⟩
def _root_.L2.aq.jM{K:cn}(k:aq H H')(h:jM K H s v):jM K H' s v:=let⟨a,e,h⟩:=h;⟨a,e,k.gh h⟩
def _root_.L2.aq.MF{K:cn}(k:aq H H'):∀{s:Option Sel},MF K H s v->MF K H' s v
 |none,h=>h
 |some _,h=>aq.jM k h
def _root_.L2.aq.IJ{K:cn}(k:aq H H')(h:IJ K C H d a v1 v2):IJ K C H' d a v1 v2:=⟨let⟨dx,e⟩:=h.hd;⟨dx,k _ _ e⟩,k.jM h.one,k.MF h.two⟩
def _root_.L2.aq.iN{K:cn}(k:aq H H')(h:iN K C H d v):iN K C H' d v:=let⟨a,v1,v2,e,h⟩:=h;⟨a,v1,v2,e,k.IJ h⟩
def _root_.L2.aq.ae{K:cn}(k:aq H H')(h:ae K C H a o):ae K C H' a o:=⟨k.Rq h.hd,k _ _ h.lq,h.ql,h.yl,λi x p y h1 h2 j=>k.qG<|h.q i x p y h1 h2 j,k _ _ h.le,k _ _ h.ld,L2.Paired.mono (λ_ _ r=>k.iN r) h.d,h.sep,h.qn,h.ok⟩
def foot(a:jo):Bf:=a.B::a.lq::a.le::a.ld::(a.qs++a.jW)
def fG(S:Bf)(H H':Hp):Prop:=∀b u,b∉S->EM u=false->H b=some u->H' b=some u
def fG.of(k:aq H H'):fG S H H':=λb u _ _ h=>k b u h
def fG.trans(a:fG S H1 H2)(b:fG S H2 H3):fG S H1 H3:=λc u n t h=>b c u n t<|a c u n t h
def fG.seq{K:cn}(k:fG S H H')(n:b∉S)(h:az K H b xs):az K H' b xs:=by
 rcases h with(h|⟨o,h⟩)|h
 .exact .inl (.inl<|k _ _ n rfl h)
 .exact .inl (.inr ⟨o,k _ _ n rfl h⟩)
 .exact .inr h
def QV(C:Cl)(H:Hp)(x:Item)(v:V):Prop:=B_ λp y=>v=.ref p/\qG C H x p y
def _root_.L2.aq.QV(k:aq H H')(h:QV C H x v):QV C H' x v:=let⟨p,y,e,q⟩:=h;⟨p,y,e,k.qG q⟩
theorem Paired.of_get{j z:Type}{R:j->z->Prop}:∀{l:List j}{m:List z},l.length=m.length->(∀(i:Nat) a b,l[i]?=some a->m[i]?=some b->R a b)->Paired R l m
 |[],[],_,_=>.nil
 |[],_::_,h,_=>by simp at h
 |_::_,[],h,_=>by simp at h
 |a::l,b::m,h,r=>.cons (r 0 a b rfl rfl)<|Paired.of_get (by simpa using h) λi x y h1 h2=>r (i+1) x y (by simpa using h1) (by simpa using h2)
def ae.qv{K:cn}(h:ae K C H a o):Paired (QV C H) o.items<|a.qs.map V.ref:=by
 refine Paired.of_get (by rw[ek,h.ql]) λi x v h1 h2=>?_;rw[mq]at h2;cases e:a.qs[i]? with
 |none=>rw[e]at h2;cases h2
 |some p=>
  rw[e]at h2;cases h2;have hi:i<a.jW.length:=by rw[h.yl];exact(l4.mp h1).1
  exact⟨p,a.jW[i],rfl,h.q i x p _ h1 e<|gs hi⟩
def ae.at_{K:cn}(h:ae K C H a o)(hi:i<o.items.length):
  B_ λp y=>(a.qs.map V.ref)[i]?=some (.ref p)/\qG C H (Vbxoab.itemAt o i) p y:=by
 have h1:o.items[i]?=some o.items[i]:=gs hi;have h2:i<a.qs.length:=by rw[h.ql];exact hi
 have j:i<a.jW.length:=by rw[h.yl];exact hi
 refine⟨a.qs[i],a.jW[i],by rw[mq,gs h2];rfl,?_⟩;have e:Vbxoab.itemAt o i=o.items[i]:=by unfold Vbxoab.itemAt;rw[F4,h1];rfl
 rw[e];exact h.q i _ _ _ h1 (gs h2)<|gs j
def rB(b:Bool)(H:Hp)(Q:VK):Prop:=∀H',aq H H' ->Q (.bl b) H'
def rN(n:Nat)(H:Hp)(Q:VK):Prop:=∀H',aq H H' ->Q (nv n) H'
def rL(l:List V)(H:Hp)(Q:VK):Prop:=∀H' p,aq H H' ->H p=none->H' p=some (.lst l)->Q (.ref p) H'
section
variable{K:cn}{mg:Be}{C:Cl}{H:Hp}
variable{B lq le ld:Addr}{o:Office}(T:Txt K mg C)(h:Rq C H B lq le ld o)
include T h
def aI:iL K H (.ref B) "questions" (.ref lq):=let⟨dx,e⟩:=h;⟨B,_,dx,_,rfl,e,T.fe,T.mB,rfl⟩
def aR:iL K H (.ref B) "enemies" (.ref le):=let⟨dx,e⟩:=h;⟨B,_,dx,_,rfl,e,T.fe,T.qD,rfl⟩
def aS:iL K H (.ref B) "demands" (.ref ld):=let⟨dx,e⟩:=h;⟨B,_,dx,_,rfl,e,T.fe,T.mC,rfl⟩
def cK:iL K H (.ref B) "year"<|nv o.year:=let⟨dx,e⟩:=h;⟨B,_,dx,_,rfl,e,T.fe,T.rW,rfl⟩
def d5:iL K H (.ref B) "gap"<|nv o.gap:=let⟨dx,e⟩:=h;⟨B,_,dx,_,rfl,e,T.fe,T.CQ,rfl⟩
def cM:iL K H (.ref B) "most"<|nv o.most:=let⟨dx,e⟩:=h;⟨B,_,dx,_,rfl,e,T.fe,T.vJ,rfl⟩
end
section
variable{K:cn}{mg:Be}{C:Cl}{H:Hp}{x:Item}{a ly:Addr}(T:Txt K mg C)(h:qG C H x a ly)
include T h
def bK:iL K H (.ref a) "topic"<|nv x.topic:=let⟨⟨dx,e⟩,_⟩:=h;⟨a,_,dx,_,rfl,e,T.c9,T.FL,rfl⟩
def cN:iL K H (.ref a) "kind"<|nv x.kind:=let⟨⟨dx,e⟩,_⟩:=h;⟨a,_,dx,_,rfl,e,T.c9,T.KI,rfl⟩
def aM:iL K H (.ref a) "hardness"<|nv x.hard:=let⟨⟨dx,e⟩,_⟩:=h;⟨a,_,dx,_,rfl,e,T.c9,T.uH,rfl⟩
def bL:iL K H (.ref a) "marks"<|nv x.marks:=let⟨⟨dx,e⟩,_⟩:=h;⟨a,_,dx,_,rfl,e,T.c9,T.FN,rfl⟩
def aT:iL K H (.ref a) "minutes"<|nv x.minutes:=let⟨⟨dx,e⟩,_⟩:=h;⟨a,_,dx,_,rfl,e,T.c9,T.xt,rfl⟩
def bM:iL K H (.ref a) "years" (.ref ly):=let⟨⟨dx,e⟩,_⟩:=h;⟨a,_,dx,_,rfl,e,T.c9,T.xu,rfl⟩
def aJ:iL K H (.ref a) "withdrawn" (.bl x.out):=let⟨⟨dx,e⟩,_⟩:=h;⟨a,_,dx,_,rfl,e,T.c9,T.jV,rfl⟩
end
section
variable{K:cn}{mg:Be}{C:Cl}{H:Hp}{d:Demand}{a:Addr}{v1 v2:V}(T:Txt K mg C)(h:IJ K C H d a v1 v2)
include T h
def cP:iL K H (.ref a) "word" (.str<|pH d):=let⟨dx,e⟩:=h.hd;⟨a,_,dx,_,rfl,e,T.g8,T.KJ,rfl⟩
def bw:iL K H (.ref a) "first" v1:=let⟨dx,e⟩:=h.hd;⟨a,_,dx,_,rfl,e,T.g8,T.FO,rfl⟩
def bc:iL K H (.ref a) "second" v2:=let⟨dx,e⟩:=h.hd;⟨a,_,dx,_,rfl,e,T.g8,T.Bg,rfl⟩
def d6:iL K H (.ref a) "low"<|nv<|P9 d:=let⟨dx,e⟩:=h.hd;⟨a,_,dx,_,rfl,e,T.g8,T.P7,rfl⟩
def cQ:iL K H (.ref a) "high"<|nv<|To d:=let⟨dx,e⟩:=h.hd;⟨a,_,dx,_,rfl,e,T.g8,T.KL,rfl⟩
end
local macro_rules|`(tactic|array_get_dec)=>do
 let m p(s:String):=(s.splitOn.map λn=>Lean.mkIdent (.mkStr p n)).toArray
 let a←(m `L2 "lV dE fM fU cb dG cf fT bZ fO b9 dn dU di cq bV dJ dM dO dP dQ dA fP dC b7 dD b8 fQ bx dH dI fN lW fV cj aY fW fX fY ck dS aZ bz cu fZ bB cw bC cx bD bE cy f7 dq bA dX aH aW cC cz cA cB a9 bb aQ dW cD"++m `Pb "dY bI bJ cH cI cJ").mapM λi=>`(tacticSeq|refine $i ?_)
 let b←(m `Pb "cK d5 cM aI aR aS").mapM λi=>`(tacticSeq|refine aa ($i ‹_› (by array_mem_dec)) ?_)
 let c←(m `Pb "bK cN aM bL aT bM aJ cP bw bc d6 cQ").mapM λi=>`(tacticSeq|refine aa ($i ‹_› ‹_›) ?_)
 `(tactic|with_reducible first|refine dy (by with_unfolding_all rfl) ?_|(first $[|$a]*)|refine cG (by first|(simp only [alV,alW];rfl)|rfl) ?_|refine aD (Or.inl (az.of ‹_›)) ?_|refine aD (Or.inl ‹_›) ?_|refine aD (Or.inr ‹_›) ?_|refine gb (by simp) ?_|refine cR (az.of ‹_›) ?_|refine cR ‹_› ?_|refine f6 ‹_› ?_|refine cS (az.of ‹_›) ?_|refine cS ‹_› ?_|refine bf (az.of ‹_›) ?_|refine bf ‹_› ?_|refine fE (az.of ‹_›) (az.of ‹_›) ?_|refine aA cE ?_|refine aC bG ?_|refine aA cF ?_|refine aC bH ?_|refine fo ?_|refine ft ?_|refine aA (by decide) ?_|refine aC (by decide) ?_|(first $[|$b]*)|(first $[|$c]*))
local macro_rules | `(tactic| array_mem_dec)=> `(tactic| first|assumption|exact Or.inl rfl|exact Or.inr rfl|exact ae.hd ‹_›)
local macro_rules | `(tactic| symm)=> `(tactic| repeat array_get_dec)
variable{P:Program}{w:World}{K:cn}{mg:Be}{base:Heap}{C:Cl}
def leaveI(o:Office)(x:Item):Bool:=!x.out&&(decide (x.used.length<o.most)&&x.used.all λy=>decide<|y+o.gap<o.year)
def CW(K:cn)(C:Cl):Sp:=λvs H Q _=>H_ λ(B q lq le ld ly:Addr)(o:Office)(x:Item)=>vs=[.ref B,.ref q]/\Rq C H B lq le ld o/\qG C H x q ly/\rB (leaveI o x) H Q
abbrev uJ:Ba:=["bank","question","used"]
def mD:aB uJ ["bank","question"]<|ai<|top 46:=fj
def mE(T:Txt K mg C):Fn P w K mg base "has_leave" 1 ["bank","question"]<|CW K C:=by
 refine T.FC.go mD ?_;rintro f S A outer s H _ Q E hr⟨B,q,lq,le,ld,ly,o,x,rfl,I,J,k⟩;have U:=J.2.1
 refine⟨_,(af (bh (PW.pt<|jL (bU<|bT K<|pv 1)<|i9<|aV JT (aE (gQ K) rfl T.aD eE<|ab (bT K<|pv 1) ag) (bT K<|pv 0)<|bg _) (ao<|au kO) aF)
  (ao<|au<|aE (Cd K) rfl T.km wV<|ab (eM (own:=[("used",2)]) rfl mD.nd (bj K<|bT K<|pv 1) (aU (N:=uJ) (sc:=ai<|top 46)<|by decide+kernel) (λ_ _ _ _ _=>(gu 2 mD.nd)) (λ_ _ _ _ _=>bR) λ_ _ _ _ _=>(gJ nN (bT K<|pv 0) (br iH (pv 2)<|bT K<|pv 0)<|bg _)) ag)),?_⟩
 refine aK (σ':=[some _,some _,none]) rfl ?_;symm;refine jT (λh=>?_) λh=>?_
 .symm;have e:leaveI o x=false:=by simp[leaveI,h]
  exact e▸k H (aq.refl H)
 .symm;refine jT (λh2=>?_) λh2=>?_
  .symm;have e:leaveI o x=false:=by simp at h2;simp[leaveI];intro _ h3;lia
   exact e▸k H (aq.refl H)
  .refine bV ?_;symm;refine ic (j:=2) x.used (λn v=>v=nv n) (λn=>some<|decide<|n+o.gap<o.year) (λd v _=>v=.bl d) (az.of U) (pmap _ _) (by rw[ek];exact sz J.2.2) (λD W i e v H' acc Nx Ns he Y F M Z n2=>?_) (λ_=>rfl) λD ys H' F W z pr=>?_
   .subst Y;have I:=F.Rq I;symm;refine Z _ rfl _ _ (aq.refl _) λ_ _=>?_
    congr 1
    simp;lia
   .rw[bq pr,bX]at z;symm;refine km (az.of z) ?_;have e:leaveI o x=(List.map (λn=>decide<|n+o.gap<o.year) x.used).all id:=by simp at h h2;simp[leaveI,h,h2,Kf]
    exact e▸k H' F
def Qa(o:Office)(h:o.items[i]?=some x):Vbxoab.leave o i=leaveI o x:=by unfold Vbxoab.leave leaveI Vbxoab.itemAt;rw[F4,h];rfl
theorem U9{j z:Type}(f:Nat->j->Option z):∀(l:List j)(n:Nat),(l.zipIdx n).filterMap (λp=>f p.2 p.1)=(List.range' n l.length).filterMap λi=>(l[i-n]?).bind<|f i
 |[],n=>by simp
 |x::l,n=>by
  rw[Ud,EA,kA,ap4,EA,U9 f l<|n+1];have e:(List.range' (n+1) l.length).filterMap (λi=>(l[i-(n+1)]?).bind<|f i)=(List.range' (n+1) l.length).filterMap λi=>((x::l)[i-n]?).bind<|f i:=by
   apply rM;intro i hi;have:n+1<=i:=(List.mem_range'_1.mp hi).1;have F:i-n=(i-(n+1))+1:=by lia
   rw[F];rfl
  rw[e];simp
def WZ{j z:Type}(f:Nat->j->Option z)(l:List j):l.zipIdx.filterMap (λp=>f p.2 p.1)=(List.range l.length).filterMap λi=>(l[i]?).bind<|f i:=by rw[U9 f l 0,List.range_eq_range'];rfl
def free_eq(o:Office):o.items.zipIdx.filterMap (λp=>if leaveI o p.1=true then some p.2 else none)=Vbxoab.free o:=by rw[WZ λi x=>if leaveI o x=true then some i else none];unfold Vbxoab.free;rw[<-uD];apply rM;intro i hi;rw[F8]at hi;have h:=gs hi;rw[h,Qa o h];rfl
def zz(K:cn)(C:Cl):Sp:=λvs H Q _=>B_ λ(a:jo)(o:Office)=>vs=[.ref a.B]/\ae K C H a o/\rL (fm<|Vbxoab.free o) H Q
abbrev rY:Ba:=["bank","number","question"]
def jq:aB rY ["bank"]<|ai<|top 47:=fj
def fw(T:Txt K mg C):Fn P w K mg base "with_leave" 2 ["bank"]<|zz K C:=by
 refine T.CA.go jq ?_;rintro f S A outer s H _ Q E U⟨a,o,rfl,j,k⟩;have hl:=j.lq;refine⟨_,(ao<|au<|eM (own:=[("number",1),("question",2)]) rfl jq.nd (rJ K T.jD<|ab (bT K<|pv 0) ag) (aU (N:=rY) (sc:=ai<|top 47)<|by decide+kernel) (λ_ _ _ _ _=>(gK (n:=2) K<|bY (gu 1 jq.nd)<|bY (gu 2 jq.nd) gH)) (λ_ _ _ _ _=>(jS<|bU<|c6 (mE T) U<|ab (pv 0)<|ab (pv 2) ag)) λ_ _ _ _ _=>(pv 1)),?_⟩;refine aK (σ':=[some _,none,none]) rfl ?_;symm;refine Z7 (j1:=1) (j2:=2) o.items (QV C H) (λi x=>if leaveI o x=true then some i else none) (λd v _=>v=nv d) (az.of j.lq) j.qv (by rw[ek,j.ql];exact sz j.ok.rp) (λD I i x v H' acc Nx Ns he W z J Y Z=>?_) (λ_ _=>rfl) λD ys H' z I F pr=>?_
 .obtain⟨p,y,rfl,hq⟩:=z.QV W;have j:=z.ae j;symm;refine⟨_,_,_,_,_,_,_,_,rfl,j.hd,hq,λH2 M=>?_⟩;symm;refine jT (λh=>?_) λh=>?_
  .symm;exact Y _ (dt h) _ _ M λ_ _=>rfl
  .exact Z (c0 h) _ M
 .have e:=bq pr;rw[free_eq]at e;subst e;exact k _ _ z I F
def ni(K:cn)(C:Cl):Sp:=λvs H Q _=>B_ λ(a:jo)(o:Office)=>vs=[.ref a.B]/\ae K C H a o/\rB (decide<|12<(Vbxoab.free o).length) H Q
abbrev oj:Ba:=["bank"]
def nj:aB oj ["bank"]<|ai<|top 48:=fj
def bN(T:Txt K mg C):Fn P w K mg base "too_many_to_search" 3 ["bank"]<|ni K C:=by
 refine T.og.go nj ?_;rintro f j A outer s H _ Q E z⟨a,o,rfl,F,k⟩;refine⟨_,(ao<|au<|gJ nN (aE (gQ K) rfl T.aD eE<|ab (c6 (fw T) z<|ab (pv 0) ag) ag) (lA T.vc)<|bg _),?_⟩;refine aK (σ':=[some _]) rfl ?_;symm;refine⟨_,_,rfl,F,λH' p I J M=>?_⟩;symm;have e:decide (12<(Vbxoab.free o).length)=decide ((12:Int)<((fm<|Vbxoab.free o).length:Nat)):=by simp;lia
 exact e▸k H' I
def W0{m n:Nat}:(if(n:Int)<(m:Int)then(n:Int)else(m:Int))=((min m n:Nat):Int):=by split<;>lia
def W2{m n:Nat}:(if(n:Int)>(m:Int)then(n:Int)else(m:Int))=((max m n:Nat):Int):=by split<;>lia
def IK(K:cn)(C:Cl):Sp:=λvs H Q _=>B_ λ(m n:Nat)=>vs=[nv m,nv n]/\∀H' p,aq H H' ->H' p=some (.tup [nv<|min m n,nv<|max m n])->Q (.ref p) H'
abbrev MG:Ba:=["one","other"]
def IL:aB MG ["one","other"]<|ai<|top 49:=fj
def xA(T:Txt K mg C):Fn P w K mg base "pair_of" 1 ["one","other"]<|IK K C:=by refine T.Mx.go IL ?_;rintro f j A outer s H _ Q E F⟨m,n,rfl,k⟩;refine⟨_,(ao<|au<|jb<|ab (aE ZV rfl T.P1 OS<|ab (pv 0)<|ab (pv 1) ag)<|ab (aE ZT rfl T.aaE Z1<|ab (pv 0)<|ab (pv 1) ag) ag),?_⟩;refine aK (σ':=[some _,some _]) rfl ?_;symm;refine⟨_,_,rfl,?_⟩;symm;refine⟨_,_,rfl,?_⟩;symm;intro p z;rw[W0,W2];exact k _ p (aq.new z) ah
def hk(m n:Nat):List Key:=[Sum.inl ((min m n:Nat):Int),Sum.inl ((max m n:Nat):Int)]
def Qc(l:List<|Nat×Nat)(m n:Nat):(gz (rX l)<|hk m n).isSome=l.any λe=>(e.1==m&&e.2==n)||(e.1==n&&e.2==m):=by
 rw[<-jA];unfold rX hk;rw[TJ]
 congr 1
 funext e;simp only[Function.comp];rw[q7];simp;lia
def xB(K:cn)(C:Cl):Sp:=λvs H Q _=>D_ λ(a:jo)(o:Office)(m n:Nat)=>vs=[.ref a.B,nv m,nv n]/\ae K C H a o/\rB (hostile o m n) H Q
abbrev zA:Ba:=["bank","one","other"]
def xC:aB zA ["bank","one","other"]<|ai<|top 50:=fj
def iO(T:Txt K mg C):Fn P w K mg base "are_enemies" 2 ["bank","one","other"]<|xB K C:=by refine T.zo.go xC ?_;rintro f I A outer s H _ Q E z⟨a,o,m,n,rfl,j,k⟩;refine⟨_,(ao<|au<|Vx (Wd (uA z) (c6 (xA T) z<|ab (pv 1)<|ab (pv 2) ag)<|bT K<|pv 0) rfl),?_⟩;refine aK (σ':=[some _,some _,some _]) rfl ?_;symm;refine⟨m,n,rfl,λH' p F J=>?_⟩;have j:=F.ae j;symm;refine⟨_,_,rfl,mv.t (k:=hk m n) j.le J,?_⟩;rw[Qc];exact k H' F
def zB(K:cn)(C:Cl):Sp:=λvs H Q _=>C_ λ(a:jo)(o:Office)(n:Nat)=>vs=[.ref a.B,nv n]/\ae K C H a o/\rL (fm<|(List.range o.items.length).filter<|hostile o n) H Q
abbrev rZ:Ba:=["bank","number","other"]
def lE:aB rZ ["bank","number"]<|ai<|top 51:=fj
def zC(T:Txt K mg C):Fn P w K mg base "enemies_of" 3 ["bank","number"]<|zB K C:=by
 refine T.CB.go lE ?_;rintro f U A outer s H _ Q E W⟨a,o,n,rfl,z,k⟩;have hl:=z.lq;refine⟨_,(ao<|au<|eM (own:=[("other",2)]) rfl lE.nd (ja rfl T.jU<|ab (aE (gQ K) rfl T.aD eE<|ab (bT K<|pv 0) ag) ag) (aU (N:=rZ) (sc:=ai<|top 51)<|by decide+kernel) (λ_ _ _ _ _=>(gu 2 lE.nd)) (λ_ _ _ _ _=>(jS<|bU<|c6 (iO T) W<|ab (pv 0)<|ab (pv 1)<|ab (pv 2) ag)) λ_ _ _ _ _=>(pv 2)),?_⟩;refine aK (σ':=[some _,some _,none]) rfl ?_;symm;rw[ek,z.ql];refine wW (by have:=z.ok.rp;lia) ?_;refine Z6 (j:=2) (λi=>if hostile o n i=true then some i else none) (λd v _=>v=nv d) (sz z.ok.rp) (λD J i H' acc Nx Ns hi F M Y Z=>?_) (λ_=>rfl) λD ys H' F J I pr=>?_
 .have z:=F.ae z;symm;refine⟨_,_,_,_,rfl,z,λH2 S=>?_⟩;symm;refine jT (λh=>?_) λh=>?_
  .symm;exact Y _ (dt h) _ _ S λ_ _=>rfl
  .exact Z (c0 h) _ S
 .have e:=bq pr;rw[uD]at e;subst e;exact k _ _ F J I
def xE(K:cn)(C:Cl):Sp:=λvs H Q _=>C_ λ(a:jo)(o:Office)(z:Int)=>vs=[.ref a.B,.int z]/\ae K C H a o/\rB (isItem o z) H Q
def o6(o:Office)(z:Int):isItem o z=(decide (0<=z)&&decide (z<(o.items.length:Int))):=by unfold isItem inside nat;rw[q7];simp;lia
abbrev zE:Ba:=["bank","number"]
def xF:aB zE ["bank","number"]<|ai<|top 52:=fj
def gD(T:Txt K mg C):Fn P w K mg base "is_question" 1 ["bank","number"]<|xE K C:=by
 refine T.zp.go xF ?_;rintro f F A outer s H _ Q E I⟨a,o,z,rfl,j,k⟩;have J:=j.lq;refine⟨_,(ao<|au<|rC mW wC aw (pv 1)<|aE (gQ K) rfl T.aD eE<|ab (bT K<|pv 0) ag),?_⟩;refine aK (σ':=[some _,some _]) rfl ?_;symm;have e:=o6 o z;refine jT (λh=>?_) λh=>?_
 .symm;rw[ek,j.ql];rw[h,F2]at e;exact e▸k H (aq.refl H)
 .have h':decide (0<=z)=false:=by simpa using h
  rw[h',Q5]at e;exact e▸k H (aq.refl H)
def gW(o:Office):Int->Bc->Bool
 |_,[]=>true
 |b,z::r=>decide (b<z)&&isItem o z&&gW o z r
theorem Bh(o:Office):∀(l:Bc)(b:Int),gW o b l=(l.all (isItem o)&&rising l&&decide (∀z,l.head?=some z->b<z))
 |[],b=>by simp[gW,rising]
 |[z],b=>by simp[gW,rising];rw[Bool.and_comm]
 |z::y::r,b=>by
  rw[gW,Bh o (y::r) z];rw[q7];simp[rising];constructor
  .rintro⟨⟨h1,h2⟩,⟨j,F⟩,I⟩;exact⟨⟨⟨h2,j⟩,I,F⟩,h1⟩
  .rintro⟨⟨⟨h2,j⟩,I,F⟩,h1⟩;exact⟨⟨h1,h2⟩,⟨j,F⟩,I⟩
def iP(o:Office)(l:Bc):Bool:=l.all (isItem o)&&rising l
def mF(o:Office)(l:Bc):iP o l=gW o (-1) l:=by
 rw[Bh];unfold iP;rw[q7];simp;intro h1 h2 z hz;cases l with
 |nil=>cases hz
 |cons y r=>
  obtain rfl:y=z:=by simpa using hz
  have:=h1 y lx;rw[o6]at this;simp at this;lia
def FP(K:cn)(C:Cl):Sp:=λvs H Q _=>D_ λ(a:jo)(o:Office)(p:Addr)(l:Bc)=>vs=[.ref a.B,.ref p]/\ae K C H a o/\az K H p (l.map V.int)/\rB (iP o l) H Q
def Qe{j:Type}{l:List j}{x:j}(h:l[i]?=some x):l.drop i=x::l.drop (i+1):=by obtain⟨h1,h2⟩:=l4.mp h;rw[aoE h1,h2]
def jr{j z:Type}{f:j->z}{l:List j}{i:Nat}{y:z}(h:(l.map f)[i]?=some y):∃x,l[i]?=some x/\y=f x:=by
 rw[mq]at h;cases e:l[i]? with
 |none=>rw[e]at h;cases h
 |some x=>rw[e]at h;exact⟨x,rfl,(ri h).symm⟩
abbrev IM:Ba:=["bank","numbers","before","number"]
def kX:aB IM ["bank","numbers"]<|ai<|top 53:=fj
def kY(T:Txt K mg C):Fn P w K mg base "is_paper" 2 ["bank","numbers"]<|FP K C:=by
 refine T.Iw.go kX ?_;rintro f M A outer s H _ Q E S⟨a,o,p,l,rfl,I,U,k⟩
 refine⟨_,(af (eC 2 kX.nd<|NZ Hs aw)
  (af (gm vu rfl (bj K<|pv 1) (gu 3 kX.nd) (af (bh (PW.pt<|jL (aV mW (pv 3) (pv 2)<|bg _)<|i9<|gk<|bU<|c6 (gD T) S<|ab (pv 0)<|ab (pv 3) ag) (ao<|au kO) aF)
  (ao<|eC 2 kX.nd<|pv 3)))
  (ao<|au kO))),?_⟩
 refine aK (σ':=[some _,some _,none,none]) rfl ?_;symm;refine iG (K:=K) (a:=p) (xs:=l.map V.int) (λi σ H'=>B_ λ(b:Int)(v:Option V)=>σ=[some (.ref a.B),some (.ref p),some (.int b),v]/\aq H H'/\gW o (-1) l=gW o b (l.drop i)) ⟨-1,none,rfl,aq.refl H,rfl⟩ (λi σ H' _⟨_,_,_,j,_⟩=>j.seq U) ?_ ?_
 .rintro i y σ H' hi⟨b,v,rfl,j,e⟩;obtain⟨z,hz,rfl⟩:=jr hi;rw[Qe hz,gW]at e;have I:=j.ae I;symm;refine jT (λh=>?_) λh=>?_
  .symm;have F:gW o (-1) l=false:=by rw[e];simp at h;simp;intro W;lia
   rw[<-mF]at F;exact F▸k H' j
  .symm;refine⟨_,_,_,rfl,I,λH2 J=>?_⟩;symm;refine jT (λh2=>?_) λh2=>?_
   .symm;have F:gW o (-1) l=false:=by rw[e];simp at h2;simp[h2]
    rw[<-mF]at F;exact F▸k H2 (j.trans J)
   .symm;refine⟨z,_,rfl,j.trans J,?_⟩;rw[e];simp at h h2;simp[h,h2]
 .rintro σ H'⟨b,v,rfl,j,e⟩;symm;rw[ek,List.drop_length,gW,<-mF]at e;exact e▸k H' j
def W3(xs:List V)(k:Nat):kJ xs none (some (k:Int))=xs.take k:=by
 unfold kJ;rw[HT.rD,HT.oU,XT,Nat.sub_zero];by_cases h:k<=xs.length
 .rw[Qs h]
 .rw[Nat.min_eq_right<|by lia,B7,Oc<|by lia]
def KN(xs:List V)(j k:Nat)(h:j<=k)(hk:k<=xs.length):kJ xs (some (j:Int)) (some (k:Int))=(xs.drop j).take (k-j):=by unfold kJ;rw[HT.oU,HT.oU,Qs hk,Qs<|by lia]
def r6(o:Office)(m n:Nat):hostile o m n=hostile o n m:=by
 unfold hostile
 congr 1
 funext e;exact Bool.or_comm _ _
def take_snoc{j:Type}{l:List j}{x:j}(h:l[i]?=some x):l.take (i+1)=l.take i++[x]:=by rw[YK,h];rfl
def qH(K:cn)(C:Cl):Sp:=λvs H Q _=>D_ λ(a:jo)(o:Office)(p:Addr)(l:AU)=>vs=[.ref a.B,.ref p]/\ae K C H a o/\az K H p (fm l)/\l.length<=100000/\rB (MA.calm (hostile o) l) H Q
def MH(en:Nat->Nat->Bool)(l:AU)(i:Nat)(h:MA.calm en (l.take i)=false):MA.calm en l=false:=by
 have j:∀(m k:AU),MA.calm en m=false->MA.calm en (m++k)=false:=by
  intro m k;induction m with
  |nil=>intro h;cases h
  |cons x m z=>
   intro h;simp only[MA.calm,Ki]at h|-;rw[Bool.and_eq_false_iff]at h|-;rcases h with h|h
   .left;rw[Xr,h];rfl
   .right;exact z h
 have:=j (l.take i) (l.drop i) h;rwa[List.take_append_drop]at this
abbrev kZ:Ba:=["bank","paper","place","number","other"]
def fg:aB kZ ["bank","paper"]<|ai<|top 54:=fj
def qI(T:Txt K mg C):Fn P w K mg base "without_enemies" 3 ["bank","paper"]<|qH K C:=by
 refine T.rT.go fg ?_;rintro f dg A outer s H _ Q E hr⟨a,o,p,l,rfl,I,J,hl,k⟩
 refine⟨_,(af (gm vu rfl (rJ K T.jD<|ab (pv 1) ag) (gK (n:=2) K<|bY (gu 2 fg.nd)<|bY (gu 3 fg.nd) gH)<|ao<|bh (bU<|aE (ZP K) rfl T.ET UP<|ab (eM (own:=[("other",4)]) rfl fg.nd (bj K<|j9 (kj K) (pv 1) vy<|jm<|pv 2) (aU (N:=kZ) (sc:=ai<|top 54)<|by decide+kernel) (λ_ _ _ _ _=>(gu 4 fg.nd)) (λ_ _ _ _ _=>bR) λ_ _ _ _ _=>(c6 (iO T) hr<|ab (pv 0)<|ab (pv 3)<|ab (pv 4) ag)) ag) (ao<|au kO) aF)
  (ao<|au kO)),?_⟩
 refine aK (σ':=[some _,some _,none,none,none]) rfl ?_;symm;refine US (K:=K) (a:=p) (xs:=fm l) (λi σ H'=>C_ λ(v1 v2 W:Option V)=>σ=[some (.ref a.B),some (.ref p),v1,v2,W]/\aq H H'/\MA.calm (hostile o) (l.take i)=true) ⟨none,none,none,rfl,aq.refl H,rfl⟩ (λi σ H' _⟨_,_,_,_,F,_⟩=>F.seq J) ?_ ?_
 .rintro i y σ H' Z hi⟨v1,v2,W,rfl,F,e⟩ hT;obtain⟨z,hz,rfl⟩:=jr hi;have kT:aq H'<|upd H' Z (.tup [.int (i:Int),nv z]):=aq.new hT;have F:=F.trans kT;have I:=F.ae I;have J:=F.seq J;generalize upd H' Z (.tup [.int (i:Int),nv z])=H1 at F I J;symm;refine⟨_,_,rfl,J,λp2 Y=>?_⟩;rw[W3];have M:az K (upd H1 p2 (.lst<|(fm l).take i)) p2<|fm<|l.take i:=by have e0:fm (l.take i)=(fm l).take i:=Vr ..;rw[e0];exact az.of ah
  symm;have k2:aq H1<|upd H1 p2 (.lst<|(fm l).take i):=aq.new Y;have I:=k2.ae I;have F:=F.trans k2;generalize upd H1 p2 (.lst<|(fm l).take i)=H2 at I M F;refine ic (j:=4) (l.take i) (λn v=>v=nv n) (λn=>some<|hostile o z n) (λd v _=>v=.bl d) M (pmap _ _) (by rw[ek,zd];exact sz<|lp (Nat.min_le_right _ _) hl) (λD hD j e2 v H3 acc Nx Ns he se U cW n1 n2=>?_) (λ_=>rfl) λD ys H3 U hD S pr=>?_
  .subst se;have I:=U.ae I;symm;refine⟨_,_,_,_,rfl,I,λH4 k4=>?_⟩;exact n1 _ rfl _ _ k4 λ_ _=>rfl
  .rw[bq pr,bX]at S;symm;refine ET (az.of S) ?_;symm;have e3:MA.calm (hostile o) (l.take<|i+1)=!((List.map (λn=>hostile o z n)<|l.take i).any id):=by
    rw[take_snoc hz,MA.sQ,e,F2,TJ,List.not_any_eq_all_not]
    congr 1
    funext x;simp[r6 o z x]
   refine jT (λh=>?_) λh=>?_
   .symm;have e4:MA.calm (hostile o) l=false:=MH _ l (i+1) (by rw[e3,h];rfl);exact e4▸k H3 (F.trans U)
   .symm;refine⟨_,_,_,rfl,F.trans U,?_⟩;rw[e3];simpa using h
 .rintro σ H'⟨v1,v2,W,rfl,F,e⟩;symm;rw[ek,B7]at e;exact e▸k H' F
def r8(K:cn)(C:Cl):Sp:=λvs H Q _=>D_ λ(a:jo)(o:Office)(p:Addr)(l:AU)=>vs=[.ref a.B,.ref p]/\ae K C H a o/\az K H p (fm l)/\l.length<=100000/\(∀i∈l,i<o.items.length)/\rB (l.all<|Vbxoab.leave o) H Q
def KO(o:Office)(i:Nat):leaveI o (Vbxoab.itemAt o i)=Vbxoab.leave o i:=rfl
abbrev lZ:Ba:=["bank","paper","number"]
def iQ:aB lZ ["bank","paper"]<|ai<|top 55:=fj
def r9(T:Txt K mg C):Fn P w K mg base "all_with_leave" 2 ["bank","paper"]<|r8 K C:=by
 refine T.tM.go iQ ?_;rintro f M A outer s H _ Q E S⟨a,o,p,l,rfl,z,U,W,hi,k⟩;refine⟨_,(ao<|au<|aE (Cd K) rfl T.km wV<|ab (eM (own:=[("number",2)]) rfl iQ.nd (bj K<|pv 1) (aU (N:=lZ) (sc:=ai<|top 55)<|by decide+kernel) (λ_ _ _ _ _=>(gu 2 iQ.nd)) (λ_ _ _ _ _=>bR) λ_ _ _ _ _=>(c6 (mE T) S<|ab (pv 0)<|ab (bp (aN K) (bT K<|pv 0) (pv 2) λ_ _=>rfl) ag)) ag),?_⟩;refine aK (σ':=[some _,some _,none]) rfl ?_;symm;refine ic (j:=2) l (λn v=>v=nv n) (λn=>some<|Vbxoab.leave o n) (λd v _=>v=.bl d) U (pmap _ _) (by rw[ek];exact sz W) (λD Y j Z v H3 acc Nx Ns he se I J n1 n2=>?_) (λ_=>rfl) λD ys H3 I Y F pr=>?_
 .subst se;have z:=I.ae z;symm;obtain⟨q,y,h1,h2⟩:=z.at_<|hi Z<|oA he;refine cT (az.of z.lq) (aP h1) ?_;symm;refine⟨_,_,_,_,_,_,_,_,rfl,z.hd,h2,λH4 k4=>?_⟩;exact n1 _ rfl _ _ k4 λ_ _=>by rw[KO]
 .rw[bq pr,bX]at F;symm;refine km (az.of F) ?_;rw[Kf];exact k H3 I
section
local macro_rules | `(tactic| array_get_dec)=> `(tactic| (with_reducible first | refine aA (by first | decide | with_unfolding_all rfl) ?_ | refine aC (by first | decide | with_unfolding_all rfl) ?_))
def i6(s:Sel)(n:Nat)(x:Item):Bool:=match s with
 |.all=>true
 |.topic k=>x.topic==k
 |.kind k=>x.kind==k
 |.hard k=>x.hard==k
 |.harder k=>decide<|k<=x.hard
 |.question k=>n==k
def sg{m n:Nat}:decide ((m:Int)=(n:Int))=(m==n):=by rw[q7];simp;lia
def Tp(K:cn)(C:Cl):Sp:=λvs H Q _=>F_ λ(s:Sel)(v:V)(n:Nat)(x:Item)(q ly:Addr)=>vs=[v,nv n,.ref q]/\jM K H s v/\qG C H x q ly/\rB (i6 s n x) H Q
abbrev W4:Ba:=["sel","number","question","word","wanted"]
def CY:aB W4 ["sel","number","question"]<|ai<|top 4:=fj
def KP(T:Txt K mg C):Fn P w K mg base "fits" 1 ["sel","number","question"]<|Tp K C:=by
 refine T.WX.go CY ?_;rintro f j A outer s H _ Q E z⟨s,v,n,x,q,ly,rfl,hs,F,k⟩;obtain⟨t,rfl,ht⟩:=hs
 refine⟨_,(af (eC 3 CY.nd<|bp (ei K) (pv 0) aw λ_ _=>rfl)
  (af (eC 4 CY.nd<|bp (ei K) (pv 0) aw λ_ _=>rfl)
  (af (bh (aV eS (pv 3) bS<|bg _) (ao<|au<|gJ eS (bT K<|pv 2) (pv 4)<|bg _) aF)
  (af (bh (aV eS (pv 3) bS<|bg _) (ao<|au<|gJ eS (bT K<|pv 2) (pv 4)<|bg _) aF)
  (af (bh (aV eS (pv 3) bS<|bg _) (ao<|au<|gJ eS (bT K<|pv 2) (pv 4)<|bg _) aF)
  (af (bh (aV eS (pv 3) bS<|bg _) (ao<|au<|gJ JT (bT K<|pv 2) (pv 4)<|bg _) aF)
  (af (bh (aV eS (pv 3) bS<|bg _) (ao<|au<|gJ eS (pv 1) (pv 4)<|bg _) aF)
  (ao<|au kO)))))))),?_⟩
 refine aK (σ':=[some _,some _,some _,none,none]) rfl ?_;symm;refine gB ht (v:=.str<|CU s) rfl ?_;symm;refine gB ht (v:=nv<|oh s) rfl ?_;symm;cases s with
 |all=>symm;exact k H<|aq.refl H
 |topic m=>symm;exact(sg:decide ((x.topic:Int)=(m:Int))=i6 (.topic m) n x)▸k H (aq.refl H)
 |kind m=>symm;exact(sg:decide ((x.kind:Int)=(m:Int))=i6 (.kind m) n x)▸k H (aq.refl H)
 |hard m=>symm;exact(sg:decide ((x.hard:Int)=(m:Int))=i6 (.hard m) n x)▸k H (aq.refl H)
 |harder m=>symm;exact(by simp[oh,i6]:decide (((oh (.harder m):Nat):Int)<=(x.hard:Int))=i6 (.harder m) n x)▸k H (aq.refl H)
 |question m=>symm;exact(sg:decide ((n:Int)=(m:Int))=i6 (.question m) n x)▸k H (aq.refl H)
def jN(z:Str)(x:Item):Nat:=if z="marks" then x.marks else if z="minutes" then x.minutes else 1
def IP(K:cn)(C:Cl):Sp:=λvs H Q _=>D_ λ(z:Str)(x:Item)(q ly:Addr)=>vs=[.str z,.ref q]/\qG C H x q ly/\rN (jN z x) H Q
abbrev MI:Ba:=["word","question"]
def IQ:aB MI ["word","question"]<|ai<|top 5:=fj
def IS(T:Txt K mg C):Fn P w K mg base "measure" 1 ["word","question"]<|IP K C:=by
 refine T.Ms.go IQ ?_;rintro f j A outer s H _ Q E F⟨z,x,q,ly,rfl,I,k⟩
 refine⟨_,(af (bh (aV eS (pv 0) bS<|bg _) (ao<|au<|bT K<|pv 1) aF)
  (af (bh (aV eS (pv 0) bS<|bg _) (ao<|au<|bT K<|pv 1) aF)
  (ao<|au aw))),?_⟩
 refine aK (σ':=[some _,some _]) rfl ?_;symm;refine jT (λh=>?_) λh=>?_
 .symm;have e:jN z x=x.marks:=by simp at h;simp[jN,h]
  exact e▸k H (aq.refl H)
 .symm;refine jT (λh2=>?_) λh2=>?_
  .symm;have e:jN z x=x.minutes:=by simp at h h2;unfold jN;rw[c0 h,dt h2]
   exact e▸k H (aq.refl H)
  .symm;have e:jN z x=1:=by simp at h h2;simp[jN,h,h2]
   have z:=k H<|aq.refl H;rw[e]at z;exact z
def pW(d:Demand)(n:Nat)(x:Item):Nat:=if i6 (uI d) n x=true then jN (pH d) x else 0
def vK(d:Demand)(n:Nat)(x:Item):Nat:=match ME d with
 |none=>0
 |some b=>if i6 b n x=true then 1 else 0
def FQ(d:Demand)(n:Nat)(x:Item):Nat:=pW d n x*vK d n x
def MJ(K:cn)(C:Cl):Sp:=λvs H Q _=>H_ λ(d:Demand)(a:Addr)(v1 v2:V)(n:Nat)(x:Item)(q ly:Addr)=>vs=[.ref a,nv n,.ref q]/\IJ K C H d a v1 v2/\qG C H x q ly/\x.marks<=200/\x.minutes<=300/\
 ∀H' p,aq H H' ->H' p=some (.tup [nv<|pW d n x,nv<|vK d n x,nv<|FQ d n x])->Q (.ref p) H'
def Qg(h1:x.marks<=200)(h2:x.minutes<=300):jN z x<=300:=by
 unfold jN;split
 .lia
 .split<;>lia
def CZ(h1:x.marks<=200)(h2:x.minutes<=300):pW d n x<=300:=by
 unfold pW;split
 .exact Qg h1 h2
 .lia
abbrev Qh:Ba:=["demand","number","question","first","second"]
def tQ:aB Qh ["demand","number","question"]<|ai<|top 6:=fj
def Bi(T:Txt K mg C):Fn P w K mg base "shares" 2 ["demand","number","question"]<|MJ K C:=by
 refine T.P4.go tQ ?_;rintro f Z A outer s H _ Q E U⟨d,a,v1,v2,n,x,q,ly,rfl,hd,z,I,J,k⟩
 refine⟨_,(af (eC 3 tQ.nd<|lM (bU<|c6 (KP T) U<|ab (bT K<|pv 0)<|ab (pv 1)<|ab (pv 2) ag) (c6 (IS T) U<|ab (bT K<|pv 0)<|ab (pv 2) ag) aw)
  (af (bh (gy<|gN<|bT K<|pv 0) (ao<|au<|jb<|ab (pv 3)<|ab aw<|ab aw ag) aF)
  (af (eC 4 tQ.nd<|lM (bU<|c6 (KP T) U<|ab (bT K<|pv 0)<|ab (pv 1)<|ab (pv 2) ag) aw aw)
  (ao<|au<|jb<|ab (pv 3)<|ab (pv 4)<|ab (br qh (pv 3)<|pv 4) ag)))),?_⟩
 refine aK (σ':=[some _,some _,some _,none,none]) rfl ?_;symm;refine⟨_,_,_,_,_,_,rfl,hd.one,z,λH1 S=>?_⟩;have hd:=S.IJ hd;have z:=S.qG z;symm;refine U8 (nv<|pW d n x) (λh W j=>?_) (λh W j=>?_) λH2 F=>?_
 .symm;refine⟨_,_,_,_,rfl,z,λH2 F=>?_⟩;have e:pW d n x=jN (pH d) x:=by unfold pW;rw[dt h]
  rw[<-e];exact j H2 F
 .symm;have e:pW d n x=0:=by unfold pW;rw[c0<|by rw[h];decide]
  rw[e]at j;exact j H1<|aq.refl _
 have hd:=F.IJ hd;have z:=F.qG z;symm;have h2:=hd.two;cases e:ME d with
 |none=>
  rw[e]at h2;obtain rfl:v2=.eQ:=h2;symm;intro p Y;refine k _ p ((S.trans F).trans<|aq.new Y) ?_;rw[ah];have M:vK d n x=0:=by unfold vK;rw[e]
  have e2:FQ d n x=0:=by unfold FQ;rw[M];rfl
  rw[M,e2];rfl
 |some b=>
  rw[e]at h2;have hn:decide (v2=V.eQ)=false:=by obtain⟨t,rfl,_⟩:=h2;rfl
  refine aA hn ?_;symm;refine⟨b,_,_,_,_,_,rfl,h2,z,λH3 k3=>?_⟩;symm;have M:vK d n x=if i6 b n x=true then 1 else 0:=by unfold vK;rw[e]
  refine U8 (nv<|vK d n x) (λh W j=>?_) (λh W j=>?_) λH4 k4=>?_
  .rw[M,dt h]at j;exact j H3<|aq.refl _
  .rw[M,c0<|by rw[h];decide]at j;exact j H3 (aq.refl _)
  symm;refine Hh (.inl ⟨by have:=@CZ d n x I J;lia,by have:=@CZ d n x I J;lia⟩) ?_;symm;intro p Y;refine k _ p ((((S.trans F).trans k3).trans k4).trans<|aq.new Y) ?_;rw[ah];rfl
def je(d:Demand)(f s b:Nat):Bool:=match d with
 |.range _ _ lo hi=>decide (lo<=f)&&decide (f<=hi)
 |.whenever _ _=>decide (f=0)||decide (0<s)
 |.apart _ _=>decide<|f*s=b
def Qi(K:cn)(C:Cl):Sp:=λvs H Q _=>G_ λ(d:Demand)(a:Addr)(v1 v2:V)(f s b:Nat)=>vs=[.ref a,nv f,nv s,nv b]/\IJ K C H d a v1 v2/\f<=1000000/\rB (je d f s b) H Q
def Tq(w:Nat):decide (lY w="if")=false:=by unfold lY;split;decide;split<;>decide
def Qj(w:Nat):decide (lY w="not")=false:=by unfold lY;split;decide;split<;>decide
abbrev Tr:Ba:=["demand","first","second","both"]
def Qk:aB Tr ["demand","first","second","both"]<|ai<|top 7:=fj
def FR(T:Txt K mg C):Fn P w K mg base "holds" 1 ["demand","first","second","both"]<|Qi K C:=by
 refine T.Tj.go Qk ?_;rintro f I A outer s H _ Q E J⟨d,a,v1,v2,x,y,z,rfl,hd,M,k⟩
 refine⟨_,(af (bh (aV eS (bT K<|pv 0) bS<|bg _) (ao<|au<|YW (gJ eS (pv 1) aw<|bg _)<|Ho<|gJ nN (pv 2) aw<|bg _) aF)
  (af (bh (aV eS (bT K<|pv 0) bS<|bg _) (ao<|au<|gJ eS (br qh (pv 1)<|pv 2) (pv 3)<|bg _) aF)
  (ao<|au<|rC mW mW (bT K<|pv 0) (pv 1)<|bT K<|pv 0))),?_⟩
 refine aK (σ':=[some _,some _,some _,some _]) rfl ?_;symm;have j:=λb(e:b=je d x y z)=>e▸k H (aq.refl H);cases d with
 |range S F lo hi=>
  refine aA (Tq F) ?_;symm;refine aA (Qj F) ?_;symm;refine jT (λh=>?_) λh=>?_
  .symm;exact j _ (by simp[P9,To]at h|-;simp[je,h])
  .exact j _ (by simp[P9,To]at h|-;simp[je];lia)
 |whenever p q=>
  symm;refine jT (λh=>?_) λh=>?_
  .exact j _ (by simp at h;simp[je,h])
  .symm;exact j _ (by simp at h;simp[je];lia)
 |apart p q=>symm;refine Hh (.inl ⟨by lia,by lia⟩) ?_;symm;exact j _ (by simp[je];lia)
end
def tS(l:List V)(v:V)(H:Hp):Prop:=∃p,v=.ref p/\H p=some (.tup l)
def tS.keep{l:List V}(h:tS l v H)(F:H D=some (.lst acc))(k:ay D H H'):tS l v H':=by obtain⟨p,e,j⟩:=h;exact⟨p,e,k p _ (JJ j F<|by intro z;cases z) j⟩
theorem xG:∀l:AU,(l.map λn:Nat=>(n:Int)).sum=((l.sum:Nat):Int)
 |[]=>rfl
 |x::l=>by rw[ip,yI,yI,xG l];lia
def om{H:Hp}(h:az K H p<|fm l)(q:Q (nv l.sum) H):Se K [.ref p] H Q:=by
 refine pV (ns:=l.map λn:Nat=>(n:Int)) ?_ ?_
 .rw[oW];exact h
 .rw[xG];exact q
def C1{l:AU}{m:Nat}:(∀x∈l,x<=m)->l.sum<=l.length*m:=by
 induction l with
 |nil=>intro _;simp
 |cons x l j=>intro h;have h1:=h x lx;have h2:=j λy z=>h y<|kB _ z;rw[yI,kA,X0];lia
def fz(o:Office)(l:AU)(d:Demand):Bool:=je d (l.map λi=>pW d i<|Vbxoab.itemAt o i).sum (l.map λi=>vK d i<|Vbxoab.itemAt o i).sum (l.map λi=>FQ d i<|Vbxoab.itemAt o i).sum
def C2(K:cn)(C:Cl):Sp:=λvs H Q _=>F_ λ(a:jo)(o:Office)(d:Demand)(v:V)(p:Addr)(l:AU)=>vs=[v,.ref a.lq,.ref p]/\ae K C H a o/\iN K C H d v/\az K H p (fm l)/\l.length<=1000/\(∀i∈l,i<o.items.length)/\rB (fz o l d) H Q
def tT{o:Office}(h:xy o)(hi:i<o.items.length):(Vbxoab.itemAt o i).topic<=11/\(Vbxoab.itemAt o i).kind<=5/\(Vbxoab.itemAt o i).hard<=4/\1<=(Vbxoab.itemAt o i).marks/\(Vbxoab.itemAt o i).marks<=200/\1<=(Vbxoab.itemAt o i).minutes/\(Vbxoab.itemAt o i).minutes<=300/\(Vbxoab.itemAt o i).used.length<=900:=h.it _<|MA.qc hi
abbrev jE:Ba:=["demand","questions","paper","added","first","second","both","number","share"]
def dk:aB jE ["demand","questions","paper"]<|ai<|top 8:=fj
def C3(T:Txt K mg C):Fn P w K mg base "holds_for" 3 ["demand","questions","paper"]<|C2 K C:=by
 refine T.Fu.go dk ?_;rintro f dg A outer s H _ Q E hr⟨a,o,d,v,p,l,rfl,Z,hd,hp,hl,hi,k⟩;obtain⟨da,v1,v2,rfl,hd⟩:=hd
 refine⟨_,(af (gA (own:=[("number",7)]) rfl dk.nd (i:=3) rfl rfl (iI rfl rfl rfl rfl) (bj K<|pv 2) (aU (N:=jE) (sc:=ai<|top 8)<|by decide+kernel) (λ_ _ _ _ _=>(gu 7 dk.nd)) (λ_ _ _ _ _=>bR) λ_ _ _ _ _=>(c6 (Bi T) hr<|ab (pv 0)<|ab (pv 7)<|ab (bp (aN K) (pv 1) (pv 7) λ_ _=>rfl) ag))
  (af (eC 4 dk.nd<|aE (wU K) rfl T.pV uC<|ab (eM (own:=[("share",8)]) rfl dk.nd (bj K<|pv 3) (aU (N:=jE) (sc:=ai<|top 8)<|by decide+kernel) (λ_ _ _ _ _=>(gu 8 dk.nd)) (λ_ _ _ _ _=>bR) λ_ _ _ _ _=>(bp (ei K) (pv 8) aw λ_ _=>rfl)) ag)
  (af (eC 5 dk.nd<|aE (wU K) rfl T.pV uC<|ab (eM (own:=[("share",8)]) rfl dk.nd (bj K<|pv 3) (aU (N:=jE) (sc:=ai<|top 8)<|by decide+kernel) (λ_ _ _ _ _=>(gu 8 dk.nd)) (λ_ _ _ _ _=>bR) λ_ _ _ _ _=>(bp (ei K) (pv 8) aw λ_ _=>rfl)) ag)
  (af (eC 6 dk.nd<|aE (wU K) rfl T.pV uC<|ab (eM (own:=[("share",8)]) rfl dk.nd (bj K<|pv 3) (aU (N:=jE) (sc:=ai<|top 8)<|by decide+kernel) (λ_ _ _ _ _=>(gu 8 dk.nd)) (λ_ _ _ _ _=>bR) λ_ _ _ _ _=>(bp (ei K) (pv 8) aw λ_ _=>rfl)) ag)
  (ao<|au<|c6 (FR T) hr<|ab (pv 0)<|ab (pv 4)<|ab (pv 5)<|ab (pv 6) ag))))),?_⟩
 refine aK (σ':=[some _,some _,some _,none,none,none,none,none,none]) rfl ?_;symm;refine ic (j:=7) l (λn v=>v=nv n) (λn=>some n) (λn v H=>tS [nv<|pW d n<|Vbxoab.itemAt o n,nv<|vK d n<|Vbxoab.itemAt o n,nv<|FQ d n<|Vbxoab.itemAt o n] v H) hp (pmap _ _) (by rw[ek];exact sz hl) (λD hD j e2 v H3 acc Nx Ns he W I z Y n2=>?_) (λ_=>rfl) λD ys H1 k1 hD fi pr=>?_
 .subst W;have Z:=I.ae Z;have hd:=I.IJ hd;symm;have OV:=hi e2<|oA he;obtain⟨q,y,h1,h2⟩:=Z.at_ OV;refine cT (az.of Z.lq) (aP h1) ?_;symm;have ok:=tT Z.ok OV;refine⟨_,_,_,_,_,_,_,_,rfl,hd,h2,ok.2.2.2.2.1,ok.2.2.2.2.2.2.1,λH4 p4 k4 Nk=>?_⟩;exact Y _ rfl _ _ k4 λH5 k5=>tS.keep ⟨p4,rfl,Nk⟩ (k4 _ _ z) k5
 rw[apz]at pr;have F:ys.length<=sizeLine:=by rw[<-mf pr];exact sz hl
 symm;refine ic (j:=8) l (λn v=>tS [nv<|pW d n<|Vbxoab.itemAt o n,nv<|vK d n<|Vbxoab.itemAt o n,nv<|FQ d n<|Vbxoab.itemAt o n] v H1) (λn=>some<|pW d n<|Vbxoab.itemAt o n) (λn v _=>v=nv n) (az.of fi) pr F (λD2 Pk j e2 v H3 acc Nx Ns he W I z Y n2=>?_) (λ_=>rfl) λD2 ys2 H2 k2 Pk J Nl=>?_
 .obtain⟨q,rfl,hq⟩:=W;symm;refine gB (ee.of<|I _ _ hq) (m:=0) rfl ?_;exact Y _ rfl _ _ (aq.refl _) λ_ _=>rfl
 rw[bq Nl,bX]at J;symm;refine om (az.of J) ?_;have M:=k2 _ _ fi;symm;refine ic (j:=8) l (λn v=>tS [nv<|pW d n<|Vbxoab.itemAt o n,nv<|vK d n<|Vbxoab.itemAt o n,nv<|FQ d n<|Vbxoab.itemAt o n] v H1) (λn=>some<|vK d n<|Vbxoab.itemAt o n) (λn v _=>v=nv n) (az.of M) pr F (λD3 Ye j e2 v H3 acc Nx Ns he W I z Y n2=>?_) (λ_=>rfl) λD3 ys3 H3 I Ye S KQ=>?_
 .obtain⟨q,rfl,hq⟩:=W;symm;refine gB (ee.of<|I _ _<|k2 _ _ hq) (m:=1) rfl ?_;exact Y _ rfl _ _ (aq.refl _) λ_ _=>rfl
 rw[bq KQ,bX]at S;symm;refine om (az.of S) ?_;have aez:=I _ _ M;symm;refine ic (j:=8) l (λn v=>tS [nv<|pW d n<|Vbxoab.itemAt o n,nv<|vK d n<|Vbxoab.itemAt o n,nv<|FQ d n<|Vbxoab.itemAt o n] v H1) (λn=>some<|FQ d n<|Vbxoab.itemAt o n) (λn v _=>v=nv n) (az.of aez) pr F (λD4 hD4 j e2 v H3' acc Nx Ns he W k3' z Y n2=>?_) (λ_=>rfl) λD4 ys4 H4 k4 hD4 U Qp=>?_
 .obtain⟨q,rfl,hq⟩:=W;symm;refine gB (ee.of<|k3' _ _<|I _ _<|k2 _ _ hq) (m:=2) rfl ?_;exact Y _ rfl _ _ (aq.refl _) λ_ _=>rfl
 rw[bq Qp,bX]at U;symm;refine om (az.of U) ?_;symm;have kk:=((k1.trans k2).trans I).trans k4;refine⟨d,da,v1,v2,_,_,_,rfl,kk.IJ hd,?_,λH5 k5=>k H5<|kk.trans k5⟩
 have:=@C1 (l.map λi=>pW d i<|Vbxoab.itemAt o i) 300 (by
  intro x hx;obtain⟨i,EU,rfl⟩:=n8.mp hx;have ok:=tT Z.ok<|hi i EU
  exact CZ ok.2.2.2.2.1 ok.2.2.2.2.2.2.1)
 rw[ek]at this;lia
def xH(K:cn)(C:Cl):Sp:=λvs H Q _=>D_ λ(a:jo)(o:Office)(p:Addr)(l:AU)=>vs=[.ref a.B,.ref p]/\ae K C H a o/\az K H p (fm l)/\l.length<=1000/\(∀i∈l,i<o.items.length)/\
 rL ((MA.calm (hostile o) l::l.all (Vbxoab.leave o)::o.plan.map (fz o l)).map V.bl) H Q
abbrev pX:Ba:=["bank","paper","told","demand"]
def iR:aB pX ["bank","paper"]<|ai<|top 100:=fj
def oo(T:Txt K mg C):Fn P w K mg base "verdicts_on" 4 ["bank","paper"]<|xH K C:=by
 refine T.zu.go iR ?_;rintro f dg A outer s H _ Q E U⟨a,o,p,l,rfl,W,hp,hl,hi,k⟩
 refine⟨_,(af (eC 2 iR.nd<|aO<|ab (c6 (qI T) U<|ab (pv 0)<|ab (pv 1) ag)<|ab (c6 (r9 T) U<|ab (pv 0)<|ab (pv 1) ag) ag)
  (ao<|au<|br eL (pv 2)<|eM (own:=[("demand",3)]) rfl iR.nd (bj K<|bT K<|pv 0) (aU (N:=pX) (sc:=ai<|top 100)<|by decide+kernel) (λ_ _ _ _ _=>(gu 3 iR.nd)) (λ_ _ _ _ _=>bR) λ_ _ _ _ _=>(c6 (C3 T) U<|ab (pv 3)<|ab (bT K<|pv 0)<|ab (pv 1) ag))),?_⟩
 refine aK (σ':=[some _,some _,none,none]) rfl ?_;symm;refine⟨_,_,_,_,rfl,W,hp,by lia,λH1 Y=>?_⟩;have I:=Y.ae W;have J:=Y.seq hp;symm;refine⟨_,_,_,_,rfl,I,J,by lia,hi,λH2 Z=>?_⟩;have sO:=Z.ae I;have Sj:=Z.seq J;symm;intro t1 ht1;generalize e_:upd H2 t1 _=H3;have k3:aq H2 H3:=by subst e_;exact aq.new ht1
 have hT:H3 t1=some (.lst [.bl<|MA.calm (hostile o) l,.bl<|l.all<|Vbxoab.leave o]):=by subst e_;exact ah
 have z:=k3.ae sO;have hp3:=k3.seq Sj;have yM:=z.ld;symm;refine ic (j:=3) o.plan (iN K C H3) (λd=>some<|fz o l d) (λb v _=>v=.bl b) (az.of yM) z.d (by rw[<-mf z.d];exact sz z.ok.pl) (λD hD j d v H4 acc Nx Ns he se F cW n1 n2=>?_) (λ_=>rfl) λD ys H4 F hD M pr=>?_
 .have Rr:=F.ae z;symm;refine⟨_,_,_,_,_,_,rfl,Rr,F.iN se,F.seq hp3,hl,hi,λH5 k5=>?_⟩;exact n1 _ rfl _ _ k5 λ_ _=>rfl
 rw[bq pr,bX]at M;refine⟨_,_,_,_,rfl,rfl,F _ _ hT,M,?_,λp5 S=>?_⟩
 .rw[ek,ek];exact sz (m:=20) (by have:=W.ok.pl;simp;lia)
 .have kk:=((Y.trans Z).trans k3).trans F;exact k _ _ (kk.trans<|aq.new S) (kk.free S) ah
structure QL(K:cn)(C:Cl)(H:Hp)(p:Addr)(its:List Item):Prop where
 ex:∃xs,az K H p xs/\Paired (QV C H) its xs
 le:its.length<=1000
 ok:∀x∈its,x.topic<=11/\x.hard<=4/\x.marks<=200/\x.minutes<=300
def _root_.L2.aq.QL(k:aq H H')(h:QL K C H p its):QL K C H' p its:=⟨let⟨xs,h1,h2⟩:=h.ex;⟨xs,k.seq h1,L2.Paired.mono (λ_ _ r=>k.QV r) h2⟩,h.le,h.ok⟩
def ae.ql'(h:ae K C H a o):QL K C H a.lq o.items:=⟨⟨_,az.of h.lq,h.qv⟩,by have:=h.ok.rp;lia,λx j=>by have:=h.ok.it x j;lia⟩
def itemsOf(o:Office)(l:AU):List Item:=l.map<|Vbxoab.itemAt o
def vg(K:cn)(C:Cl):Sp:=λvs H Q _=>D_ λ(a:jo)(o:Office)(p:Addr)(l:AU)=>vs=[.ref a.B,.ref p]/\ae K C H a o/\Sq K H p (fm l)/\l.length<=1000/\(∀i∈l,i<o.items.length)/\
 ∀H' j,aq H H' ->H j=none->QL K C H' j (itemsOf o l)->Q (.ref j) H'
def QV.keep{x:Item}{H H':Hp}{acc:List V}(h0:j D=none)(z:aq j H)(h:QV C j x v)(k:ay D H H'):QV C H' x v:=by obtain⟨p,y,e,⟨dx,h1⟩,h2,F⟩:=h;exact⟨p,y,e,⟨dx,k _ _ (aX h1 h0)<|z _ _ h1⟩,k _ _ (aX h2 h0)<|z _ _ h2,F⟩
abbrev oq:Ba:=["bank","paper","number"]
def jI:aB oq ["bank","paper"]<|ai<|top 29:=fj
def hJ(T:Txt K mg C):Fn P w K mg base "questions_of" 1 ["bank","paper"]<|vg K C:=by
 refine T.xo.go jI ?_;rintro f dg A outer s H _ Q E hr⟨a,o,p,l,rfl,z,hp,Z,hi,k⟩;refine⟨_,(ao<|au<|eM (own:=[("number",2)]) rfl jI.nd (KA K<|pv 1) (aU (N:=oq) (sc:=ai<|top 29)<|by decide+kernel) (λ_ _ _ _ _=>(gu 2 jI.nd)) (λ_ _ _ _ _=>bR) λ_ _ _ _ _=>(bp (aN K) (bT K<|pv 0) (pv 2) λ_ _=>rfl)),?_⟩;refine aK (σ':=[some _,some _,none]) rfl ?_;symm;refine aep (j:=2) l (λn v=>v=nv n) (λn=>some<|Vbxoab.itemAt o n) (λx v H=>QV C H x v) hp (pmap _ _) (by rw[ek];exact sz Z) (λD M j e2 v H3 acc Nx Ns he se J cW n1 n2=>?_) (λ_=>rfl) λD ys H3 J M S pr=>?_
 .subst se;have U:=z;have z:=J.ae z;symm;have F:=hi e2<|oA he;obtain⟨q,y,h1,h2⟩:=z.at_ F;refine cT (az.of z.lq) (aP h1) ?_;obtain⟨q',y',I,W⟩:=U.at_ F;rw[h1]at I;cases I;exact n1 _ rfl _ _ (aq.refl _) λH5 k5=>QV.keep (acc:=acc) M J ⟨q,y',rfl,W⟩ k5
 .rw[bX]at pr;refine k H3 D J M ⟨⟨ys,az.of S,pr⟩,by unfold itemsOf;rw[ek];exact Z,λx hx=>?_⟩;obtain⟨i,Y,rfl⟩:=n8.mp hx;have:=tT z.ok<|hi i Y;lia
def FU(K:cn)(C:Cl):Sp:=λvs H Q _=>B_ λ(p:Addr)(its:List Item)=>vs=[.ref p]/\QL K C H p its/\rN (its.map (·.marks)).sum H Q
abbrev xI:Ba:=["questions","question"]
def ot:aB xI ["questions"]<|ai<|top 30:=fj
def ou(T:Txt K mg C):Fn P w K mg base "marks_of" 1 ["questions"]<|FU K C:=by
 refine T.Iu.go ot ?_;rintro f M A outer s H _ Q E Y⟨p,its,rfl,I,k⟩;obtain⟨xs,h1,h2⟩:=I.ex;refine⟨_,(ao<|au<|aE (wU K) rfl T.pV uC<|ab (eM (own:=[("question",1)]) rfl ot.nd (bj K<|pv 0) (aU (N:=xI) (sc:=ai<|top 30)<|by decide+kernel) (λ_ _ _ _ _=>(gu 1 ot.nd)) (λ_ _ _ _ _=>bR) λ_ _ _ _ _=>(bT K<|pv 1)) ag),?_⟩;refine aK (σ':=[some _,none]) rfl ?_;symm;refine ic (j:=1) its (QV C H) (λx=>some x.marks) (λn v _=>v=nv n) h1 h2 (by rw[<-mf h2];exact sz I.le) (λD S j x v H3 acc Z Ns he U F J W n2=>?_) (λ_=>rfl) λD ys H3 F S z pr=>?_
 .obtain⟨q,y,rfl,hx⟩:=F.QV U;symm;exact W _ rfl _ _ (aq.refl _) λ_ _=>rfl
 .rw[bq pr,bX]at z;symm;exact om (az.of z)<|k H3 F
def zG(K:cn)(C:Cl):Sp:=λvs H Q _=>B_ λ(p:Addr)(its:List Item)=>vs=[.ref p]/\QL K C H p its/\rN (its.map (·.minutes)).sum H Q
abbrev si:Ba:=["questions","question"]
def lF:aB si ["questions"]<|ai<|top 31:=fj
def pZ(T:Txt K mg C):Fn P w K mg base "minutes_of" 1 ["questions"]<|zG K C:=by
 refine T.Cy.go lF ?_;rintro f M A outer s H _ Q E Y⟨p,its,rfl,I,k⟩;obtain⟨xs,h1,h2⟩:=I.ex;refine⟨_,(ao<|au<|aE (wU K) rfl T.pV uC<|ab (eM (own:=[("question",1)]) rfl lF.nd (bj K<|pv 0) (aU (N:=si) (sc:=ai<|top 31)<|by decide+kernel) (λ_ _ _ _ _=>(gu 1 lF.nd)) (λ_ _ _ _ _=>bR) λ_ _ _ _ _=>(bT K<|pv 1)) ag),?_⟩;refine aK (σ':=[some _,none]) rfl ?_;symm;refine ic (j:=1) its (QV C H) (λx=>some x.minutes) (λn v _=>v=nv n) h1 h2 (by rw[<-mf h2];exact sz I.le) (λD S j x v H3 acc Z Ns he U F J W n2=>?_) (λ_=>rfl) λD ys H3 F S z pr=>?_
 .obtain⟨q,y,rfl,hx⟩:=F.QV U;symm;exact W _ rfl _ _ (aq.refl _) λ_ _=>rfl
 .rw[bq pr,bX]at z;symm;exact om (az.of z)<|k H3 F
def C4(K:cn)(C:Cl):Sp:=λvs H Q _=>B_ λ(p:Addr)(its:List Item)=>vs=[.ref p]/\QL K C H p its/\rN (its.map λx=>x.marks*x.hard).sum H Q
abbrev uK:Ba:=["questions","question"]
def mG:aB uK ["questions"]<|ai<|top 32:=fj
def mH(T:Txt K mg C):Fn P w K mg base "weight_of" 1 ["questions"]<|C4 K C:=by
 refine T.Fz.go mG ?_;rintro f M A outer s H _ Q E Z⟨p,its,rfl,F,k⟩;obtain⟨xs,h1,h2⟩:=F.ex;refine⟨_,(ao<|au<|aE (wU K) rfl T.pV uC<|ab (eM (own:=[("question",1)]) rfl mG.nd (bj K<|pv 0) (aU (N:=uK) (sc:=ai<|top 32)<|by decide+kernel) (λ_ _ _ _ _=>(gu 1 mG.nd)) (λ_ _ _ _ _=>bR) λ_ _ _ _ _=>(br qh (bT K<|pv 1)<|bT K<|pv 1)) ag),?_⟩;refine aK (σ':=[some _,none]) rfl ?_;symm;refine ic (j:=1) its (QV C H) (λx=>some<|x.marks*x.hard) (λn v _=>v=nv n) h1 h2 (by rw[<-mf h2];exact sz F.le) (λD S j x v H3 acc Nx Ns U W I J Y n2=>?_) (λ_=>rfl) λD ys H3 I S z pr=>?_
 .obtain⟨q,y,rfl,hx⟩:=I.QV W;have ok:=F.ok x<|oA U;symm;refine Hh (.inl ⟨by lia,by lia⟩) ?_;exact Y _ rfl _ _ (aq.refl _) λ_ _=>by rw[<-apg]
 .rw[bq pr,bX]at z;symm;exact om (az.of z)<|k H3 I
def FV(K:cn)(C:Cl):Sp:=λvs H Q _=>C_ λ(t:Nat)(p:Addr)(its:List Item)=>vs=[nv t,.ref p]/\QL K C H p its/\rN ((its.filter λx=>x.topic==t).map (·.marks)).sum H Q
theorem Qq{j z:Type}(p:j->Bool)(f:j->z):∀l:List j,l.filterMap (λx=>if p x=true then some (f x)else none)=(l.filter p).map f
 |[]=>rfl
 |x::l=>by rw[EA,F5,Qq p f l];cases p x<;>rfl
abbrev xJ:Ba:=["topic","questions","question"]
def ow:aB xJ ["topic","questions"]<|ai<|top 33:=fj
def uL(T:Txt K mg C):Fn P w K mg base "marks_on" 1 ["topic","questions"]<|FV K C:=by
 refine T.Iv.go ow ?_;rintro f M A outer s H _ Q E Z⟨t,p,its,rfl,I,k⟩;obtain⟨xs,h1,h2⟩:=I.ex;refine⟨_,(ao<|au<|aE (wU K) rfl T.pV uC<|ab (eM (own:=[("question",2)]) rfl ow.nd (bj K<|pv 1) (aU (N:=xJ) (sc:=ai<|top 33)<|by decide+kernel) (λ_ _ _ _ _=>(gu 2 ow.nd)) (λ_ _ _ _ _=>(jS<|aV eS (bT K<|pv 2) (pv 0)<|bg _)) λ_ _ _ _ _=>(bT K<|pv 2)) ag),?_⟩;refine aK (σ':=[some _,some _,none]) rfl ?_;symm;refine ic (j:=2) its (QV C H) (λx=>if(x.topic==t)=true then some x.marks else none) (λn v _=>v=nv n) h1 h2 (by rw[<-mf h2];exact sz I.le) (λD S j x v H3 acc Nx Ns he U F J W Y=>?_) (λ_=>rfl) λD ys H3 F S z pr=>?_
 .obtain⟨q,y,rfl,hx⟩:=F.QV U;symm;rw[sg];refine jT (λh=>?_) λh=>?_
  .symm;exact W _ (dt h) _ _ (aq.refl _) λ_ _=>rfl
  .exact Y (c0 h) _<|aq.refl _
 .rw[bq pr,Qq]at z;symm;exact om (az.of z)<|k H3 F
def pJ(K:cn)(C:Cl):Sp:=λvs H Q _=>B_ λ(m n:Nat)=>vs=[nv m,nv n]/\m<1000000000/\n<1000000000/\rN (Nat.gcd m n) H Q
abbrev qK:Ba:=["one","other","rest"]
def fH:aB qK ["one","other"]<|ai<|top 34:=fj
def pK(T:Txt K mg C):Fn P w K mg base "greatest_divisor" 1 ["one","other"]<|pJ K C:=by
 refine T.qB.go fH ?_;rintro f F A outer s H _ Q E S⟨m,n,rfl,I,J,k⟩
 refine⟨_,(af (wu vu (aV nN (pv 1) aw<|bg _) (af (eC 2 fH.nd<|br VH (pv 0)<|pv 1)
  (af (eC 0 fH.nd<|pv 1)
  (ao<|eC 1 fH.nd<|pv 2))))
  (ao<|au<|pv 0)),?_⟩
 refine aK (σ':=[some _,some _,none]) rfl ?_;refine Z0 ?_;refine CS (λz σ H'=>C_ λ(a b:Nat)(r:Option V)=>σ=[some<|nv a,some<|nv b,r]/\a<1000000000/\b<1000000000/\z=b/\H'=H/\Nat.gcd a b=Nat.gcd m n) n ⟨m,n,none,rfl,I,J,rfl,rfl,rfl⟩ ?_;rintro z σ H'⟨a,b,r,rfl,U,j,M,rfl,e⟩;symm;by_cases h:0<b
 .refine P8 (by simpa using h) ?_;symm;refine Hh (by lia) ?_;symm;refine⟨a%b,by rw[M];exact Nat.mod_lt _ h,b,a%b,some<|nv<|a%b,?_,j,sd (Nat.mod_lt _ h)<|Ra j,rfl,rfl,?_⟩
  .have:((a:Int)%(b:Int))=((a%b:Nat):Int):=(Int.natCast_emod a b).symm;simp only[nv];rw[<-this];rfl
  .rw[<-e,Nat.gcd_comm b,<-Nat.gcd_rec,Nat.gcd_comm]
 .refine CT (by simpa using h) ?_;symm;have:b=0:=by lia
  subst this;rw[Nat.gcd_zero_right]at e;exact e▸k H' (aq.refl _)
def TL(K:cn)(H:Hp)(p:Addr)(ls:List AU):Prop:=∃j,H p=some (.lst<|j.map V.ref)/\Paired (λa l=>ee K H a<|fm l) j ls
def TV(K:cn)(l:AU)(v:V)(H:Hp):Prop:=∃p,v=.ref p/\ee K H p (fm l)
def C5(h:Paired (λl v=>TV K l v H) ls ys):∃j,ys=j.map V.ref/\Paired (λa l=>ee K H a<|fm l) j ls:=by
 induction h with
 |nil=>exact⟨[],rfl,.nil⟩
 |cons r _ z=>obtain⟨j,e,p⟩:=z;obtain⟨q,rfl,hq⟩:=r;exact⟨q::j,by rw[e];rfl,.cons hq p⟩
def mI(h:Paired (λa l=>ee K H a<|fm l) j ls):Paired (λl v=>TV K l v H) ls<|j.map V.ref:=by
 induction h with
 |nil=>exact .nil
 |cons r _ z=>exact .cons ⟨_,rfl,r⟩ z
theorem Paired.app{j z:Type}{R:j->z->Prop}{l F:List j}{m I:List z}(h:Paired R l m)(k:Paired R F I):Paired R (l++F) (m++I):=by induction h with|nil=>exact k|cons r _ i=>exact .cons r i
def ox(h:n<=m):2^n<=2^m:=Qn (by decide) h
def IT(K:cn)(C:Cl):Sp:=λvs H Q _=>B_ λ(q:Addr)(l:AU)=>vs=[.ref q]/\az K H q (fm l)/\l.length<=12/\∀H' p,aq H H' ->H p=none->TL K H' p (MA.subs l)->Q (.ref p) H'
abbrev Bj:Ba:=["members","found","member","subset"]
def jf:aB Bj ["members"]<|ai<|top 60:=fj
def xK(T:Txt K mg C):Fn P w K mg base "subsets" 1 ["members"]<|IT K C:=by
 refine T.My.go jf ?_;rintro f dg A outer s H _ Q E hr⟨q,l,rfl,hq,hl,k⟩
 refine⟨_,(af (eC 1 jf.nd<|aO<|ab (jb ag) ag)
  (af (gm vu rfl (bj K<|pv 0) (gu 2 jf.nd)<|ao<|eC 1 jf.nd<|br eL (pv 1)<|eM (own:=[("subset",3)]) rfl jf.nd (bj K<|pv 1) (aU (N:=Bj) (sc:=ai<|top 60)<|by decide+kernel) (λ_ _ _ _ _=>(gu 3 jf.nd)) (λ_ _ _ _ _=>bR) λ_ _ _ _ _=>(br (aae K) (pv 3)<|jb<|ab (pv 2) ag))
  (ao<|au<|pv 1))),?_⟩
 refine aK (σ':=[some _,none,none,none]) rfl ?_;symm;intro I Vb;symm;intro S U;have k0:aq H<|upd H I (.tup []):=aq.new Vb;have k1:aq (upd H I (.tup []))<|upd (upd H I (.tup [])) S (.lst [.ref I]):=aq.new U;have hn:H S=none:=k0.free U;have k2:=k0.trans k1;generalize e_:upd (upd H I (.tup [])) S (.lst [.ref I])=H1 at k2;have hT:TL K H1 S [[]]:=by subst e_;exact⟨[I],ah,.cons (k1.gh<|ee.of ah) .nil⟩
 have yN:=k2.seq hq;symm;refine iG (K:=K) (a:=q) (xs:=fm l) (λi σ H'=>C_ λ(p:Addr)(v w:Option V)=>σ=[some (.ref q),some (.ref p),v,w]/\aq H H'/\H p=none/\TL K H' p (MA.subs<|l.take i)) ⟨S,none,none,rfl,k2,hn,hT⟩ (λi σ H' _⟨_,_,_,_,J,_⟩=>J.seq hq) ?_ ?_
 .rintro i y σ H' hi⟨p,v,w',rfl,J,W,as,Y,pr⟩;obtain⟨z,hz,rfl⟩:=jr hi;symm;have Z:(MA.subs<|l.take i).length<=4096:=by rw[MA.eX];exact lp (ox (m:=12)<|by rw[zd];lia) (by decide)
  have F:=mf pr;refine ic (j:=3) (MA.subs<|l.take i) (λs v=>TV K s v H') (λs=>some<|s++[z]) (λs v H=>TV K s v H) (az.of Y) (mI pr) (by rw[ek,F];exact sz Z) (λD hD j s v H3 acc Nx Ns he se M cW n1 n2=>?_) (λ_=>rfl) λD ys H3 M hD fi KQ=>?_
  .obtain⟨t,rfl,ht⟩:=se;symm;intro p4 Nk;have k4:aq H3<|upd H3 p4 (.tup [nv z]):=aq.new Nk;have hs:s.length<=12:=by have:=((MA.jx _ s).mp<|oA he).length_le;rw[zd]at this;lia
   refine⟨_,_,_,_,rfl,rfl,k4.gh<|M.gh ht,ee.of ah,by simp;exact sz (m:=13)<|by lia,λp5 H5 k5 h5=>?_⟩;refine n1 _ rfl _ _ (k4.trans k5) λH6 k6=>⟨p5,rfl,?_⟩;have e:fm (s++[z])=fm s++[nv z]:=t4 ..;rw[e];exact k6.gh (k5 _ _<|k4 _ _ cW) h5
  .rw[bX]at KQ;obtain⟨as3,rfl,Qp⟩:=C5 KQ;have Ro:=mf Qp;rw[ek]at Ro;refine⟨_,_,_,_,rfl,rfl,M _ _ Y,fi,by rw[ek,ek,F,Ro];exact sz (m:=9000)<|by lia,λp6 Nm=>?_⟩;symm;have k6:aq H3<|upd H3 p6 (.lst<|as.map V.ref++as3.map V.ref):=aq.new Nm;refine⟨p6,_,_,rfl,(J.trans M).trans k6,(J.trans M).free Nm,as++as3,by rw[t4];exact ah,?_⟩;rw[take_snoc hz,MA.gF];exact Paired.app (L2.Paired.mono (λ_ _ r=>k6.gh<|M.gh r) pr)<|L2.Paired.mono (λ_ _ r=>k6.gh r) Qp
 .rintro σ H'⟨p,v,w',rfl,J,W,Y⟩;symm;rw[ek,B7]at Y;exact k H' p J W Y
def xM(K:cn)(C:Cl):Sp:=λvs H Q _=>B_ λ(q:Addr)(l:Bc)=>vs=[.ref q]/\az K H q (l.map V.int)/\l.length<=12/\rL ((MA.sums l).map V.int) H Q
def uM(l:Bc):(MA.sums l).length=2^l.length:=by rw[MA.JG,ek,MA.eX]
abbrev p7:Ba:=["values","sums","value","total"]
def gc:aB p7 ["values"]<|ai<|top 61:=fj
def kz(T:Txt K mg C):Fn P w K mg base "subset_sums" 1 ["values"]<|xM K C:=by
 refine T.zq.go gc ?_;rintro f dg A outer s H _ Q E hr⟨q,l,rfl,hq,hl,k⟩
 refine⟨_,(af (eC 1 gc.nd<|aO<|ab aw ag)
  (af (gm vu rfl (bj K<|pv 0) (gu 2 gc.nd)<|ao<|eC 1 gc.nd<|br eL (pv 1)<|eM (own:=[("total",3)]) rfl gc.nd (bj K<|pv 1) (aU (N:=p7) (sc:=ai<|top 61)<|by decide+kernel) (λ_ _ _ _ _=>(gu 3 gc.nd)) (λ_ _ _ _ _=>bR) λ_ _ _ _ _=>(br iH (pv 3)<|pv 2))
  (ao<|au<|pv 1))),?_⟩
 refine aK (σ':=[some _,none,none,none]) rfl ?_;symm;intro Z I;generalize e_:upd H Z _=H1;have k2:aq H H1:=by subst e_;exact aq.new I
 have hT:H1 Z=some (.lst<|(MA.sums []).map V.int):=by subst e_;exact ah
 have yN:=k2.seq hq;symm;refine iG (K:=K) (a:=q) (xs:=l.map V.int) (λi σ H'=>C_ λ(p:Addr)(v w:Option V)=>σ=[some (.ref q),some (.ref p),v,w]/\aq H H'/\H p=none/\H' p=some (.lst<|(MA.sums<|l.take i).map V.int)) ⟨Z,none,none,rfl,k2,I,hT⟩ (λi σ H' _⟨_,_,_,_,F,_⟩=>F.seq hq) ?_ ?_
 .rintro i y σ H' hi⟨p,v,w',rfl,F,J,M⟩;obtain⟨z,hz,rfl⟩:=jr hi;symm;have S:(MA.sums<|l.take i).length<=4096:=by rw[uM];exact lp (ox (m:=12)<|by rw[zd];lia) (by decide)
  refine ic (j:=3) (MA.sums<|l.take i) (λn v=>v=V.int n) (λn=>some<|n+z) (λn v _=>v=V.int n) (az.of M) (pmap _ _) (by rw[ek];exact sz S) (λD hD j s v H3 acc Nx Ns he se Y cW n1 n2=>?_) (λ_=>rfl) λD ys H3 Y hD U KQ=>?_
  .subst se;symm;exact n1 _ rfl _ _ (aq.refl _) λ_ _=>rfl
  .rw[bq KQ,bX]at U;refine⟨_,_,_,_,rfl,rfl,Y _ _ M,U,by simp only[ek];exact sz (m:=9000)<|by lia,λp6 W=>?_⟩;symm;refine⟨p6,_,_,rfl,(F.trans Y).trans<|aq.new W,(F.trans Y).free W,?_⟩;rw[take_snoc hz,MA.Aw,t4];exact ah
 .rintro σ H'⟨p,v,w',rfl,F,J,M⟩;symm;rw[ek,B7]at M;exact k H' p F J M
def lg(K:cn)(C:Cl):Sp:=λvs H Q _=>B_ λ(a:Addr)(xs:List V)=>vs=[.ref a]/\ee K H a xs/\∀p,H p=none->Q (.ref p) (upd H p (.tup [.int xs.length,.ref a]))
abbrev tU:Ba:=["subset"]
def sj:aB tU ["subset"]<|ai<|top 62:=fj
def lh(T:Txt K mg C):Fn P w K mg base "place_in_order" 1 ["subset"]<|lg K C:=by refine T.tN.go sj ?_;rintro f j A outer s H _ Q E z⟨a,xs,rfl,F,k⟩;refine⟨_,(ao<|au<|jb<|ab (aE (gQ K) rfl T.aD eE<|ab (pv 0) ag)<|ab (pv 0) ag),?_⟩;refine aK rfl ?_;symm;exact k
def uN:E4 K<|lg K C:=λH a ns Q h q=>⟨a,ns.map V.int,rfl,h,by rw[ek];exact q⟩
abbrev iz(l:AU):Bc:=l.map λn:Nat=>(n:Int)
def lj(l:AU):(iz l).map V.int=fm l:=by rw[oW];rfl
def jt(l:AU):(iz l).length=l.length:=ek ..
theorem KR:∀a b:AU,HT.lexLt (iz a) (iz b)=MA.gM a b
 |[],[]=>rfl
 |[],_::_=>rfl
 |_::_,[]=>rfl
 |x::a,y::b=>by
  rw[iz,iz,ip,ip,HT.j8,MA.gM];have:=KR a b;rw[iz,iz]at this;rw[this];by_cases h:x=y
  .subst h;simp
  .rw[c0<|by lia]
   first|rw[c0 h]|skip
   simp[h]
def KS(a b:AU):fu (iz a) (iz b)=true↔MA.klt a b:=by
 unfold fu MA.klt;rw[jt,jt,KR];split
 .rename_i h;constructor
  .intro q;exact .inr ⟨h,q⟩
  .rintro(q|q)
   .lia
   .exact q.2
 .rename_i h;simp;lia
def KU(m n:Nat):Builtin.bitAnd (m:Int) (n:Int)=((m&&&n:Nat):Int):=by unfold Builtin.bitAnd;rw[ki (by lia:(0:Int)<=(m:Int)),ki (by lia:(0:Int)<=(n:Int))];rfl
def C6(m n:Nat):Builtin.bitOr (m:Int) (n:Int)=((m|||n:Nat):Int):=by
 unfold Builtin.bitOr Builtin.bitAnd Builtin.bitNot;rw[kx<|by lia,kx<|by lia];simp only[];have e:∀k:Nat,(-(-(k:Int)-1)-1).toNat=k:=λk=>by lia
 rw[e,e];lia
def vL(n:Nat):(1:Int)*(2:Int)^((n:Int).toNat)=((1<<<n:Nat):Int):=by rw[Sm,t5];simp
def FW(K:cn)(C:Cl):Sp:=λvs H Q _=>B_ λ(p:Addr)(ls:List AU)=>vs=[.ref p]/\TL K H p ls/\∀H' z j,aq H H' ->H z=none->TL K H' z j->j.Perm ls->(j.Pairwise λa b=>¬MA.klt b a)->Q (.ref z) H'
def KW(h:Paired (λa l=>ee K H a<|fm l) j ls):Pq K H j<|ls.map iz:=by
 induction h with
 |nil=>exact .nil
 |cons r _ z=>exact .cons (by rw[lj];exact r) z
def Qr(h:Pq K H z j)(e:j=ls.map iz):Paired (λa l=>ee K H a<|fm l) z ls:=by
 subst e;induction ls generalizing z with
 |nil=>cases h;exact .nil
 |cons l ls F=>
  cases h with
  |cons r t=>exact .cons (by rw[<-lj];exact r)<|F t
def IU(ls:List AU):Paired (λns l=>ns=iz l) (ls.map iz) ls:=by
 induction ls with
 |nil=>exact .nil
 |cons l ls j=>exact .cons rfl j
def IV(h:Paired (λns l=>ns=iz l) j ls):j=ls.map iz:=by
 induction h with
 |nil=>rfl
 |cons r _ z=>rw[z,r];rfl
abbrev IW:Ba:=["found"]
def FX:aB IW ["found"]<|ai<|top 63:=fj
def uO(T:Txt K mg C):Fn P w K mg base "in_order" 3 ["found"]<|FW K C:=by refine T.Iy.go FX ?_;rintro f J A outer s H _ Q E M⟨p,ls,rfl,S,k⟩;obtain⟨U,h1,h2⟩:=S;refine⟨_,(ao<|au<|L8 K (lh T) (uN) (M.mono<|by decide) T.aW (pv 0) (by rfl) (by rfl) (by rfl) (by decide) (by rfl) (by rfl) (by rfl)),?_⟩;refine aK rfl ?_;symm;refine⟨p,U,ls.map iz,rfl,az.of h1,KW h2,λD H' W Y=>?_⟩;obtain⟨as',I,Z,hl,ht,j,hs⟩:=Y;obtain⟨F,p1,p2⟩:=uE j<|IU ls;have e:=IV p2;refine k H' D F Z W ⟨as',hl,Qr ht e⟩ p1 ?_;rw[e,apW]at hs;refine hs.imp λ{a b} q z=>?_;rw[(KS b a).mpr z]at q;cases q
def zH(K:cn)(C:Cl):Sp:=λvs H Q _=>F_ λ(a:jo)(o:Office)(p:Addr)(l:AU)(j x:Nat)=>vs=[.ref a.B,.ref p,nv j]/\ae K C H a o/\az K H p (fm l)/\l.length<=1000/\l[j]?=some x/\rN (MA.eJ (λe=>(l[e]?).any λy=>hostile o y x) j) H Q
def KY{i x:Nat}(h:l[i]?=some x):Ri (fm l) (i:Int)=some (nv x):=aP (by rw[mq,h];rfl)
abbrev C7:Ba:=["bank","candidates","place","foes","earlier"]
def ju:aB C7 ["bank","candidates","place"]<|ai<|top 64:=fj
def zI(T:Txt K mg C):Fn P w K mg base "foes_ahead" 3 ["bank","candidates","place"]<|zH K C:=by
 refine T.CC.go ju ?_;rintro f U A outer s H _ Q E W⟨a,o,p,l,j,x,rfl,I,F,Z,J,k⟩;have Y:=(l4.mp J).1
 refine⟨_,(af (eC 3 ju.nd aw)
  (af (gm vu rfl (ja rfl T.jU<|ab (pv 2) ag) (gu 4 ju.nd)<|ao<|bh (bU<|c6 (iO T) W<|ab (pv 0)<|ab (bp (aN K) (pv 1) (pv 4) λ_ _=>rfl)<|ab (bp (aN K) (pv 1) (pv 2) λ_ _=>rfl) ag) (ao<|eC 3 ju.nd<|br JP (pv 3)<|br sW aw<|pv 4) aF)
  (ao<|au<|pv 3))),?_⟩
 refine aK rfl ?_;symm;refine wW (by lia) ?_;refine j4 (λi σ H'=>∃(v:Option V),σ=[some (.ref a.B),some (.ref p),some<|nv j,some<|nv<|MA.eJ (λe=>(l[e]?).any λy=>hostile o y x) i,v]/\aq H H') ⟨none,rfl,aq.refl H⟩ ?_ ?_
 .rintro i σ H' hi⟨v,rfl,z⟩;have F:=z.seq F
  have M:l[i]?=some (l[i]'(by lia)):=gs (by lia)
  rw[SF];symm;refine cT F (KY M) ?_;symm;refine cT F (KY J) ?_;symm;refine⟨_,_,_,_,rfl,(z.ae I),λH2 S=>?_⟩;symm
  have e:MA.eJ (λe=>(l[e]?).any λy=>hostile o y x) (i+1)=if hostile o (l[i]'(by lia)) x=true then MA.eJ (λe=>(l[e]?).any λy=>hostile o y x) i|||(1<<<i)else MA.eJ (λe=>(l[e]?).any λy=>hostile o y x) i:=by rw[MA.eJ,M];rfl
  refine jT (λh=>?_) λh=>?_
  .symm;refine Hh ⟨by lia,by lia,by decide⟩ ?_;symm;rw[dt h]at e;refine⟨some<|nv i,?_,z.trans S⟩;rw[e,vL,C6];rfl
  .symm;rw[c0 h]at e;exact⟨_,by rw[e];rfl,z.trans S⟩
 .rintro σ H' ⟨v,rfl,z⟩;symm;exact k H' z
def FY(K:cn)(C:Cl):Sp:=λvs H Q _=>D_ λ(a:jo)(o:Office)(p:Addr)(l:AU)=>vs=[.ref a.B,.ref p]/\ae K C H a o/\az K H p (fm l)/\l.length<=12/\rL (((MA.subs l).map<|MA.calm<|hostile o).map V.bl) H Q
def MM{j:Type}(en:j->j->Bool)(l:List j)(n:Nat)(h:n<=l.length):(MA.nF en l n).length=2^n:=by rw[MA.vV en l n h,ek,MA.eX,zd,Qs h]
abbrev xO:Ba:=["bank","candidates","peace","place","foes","bits","calm"]
def gi:aB xO ["bank","candidates"]<|ai<|top 65:=fj
def uP(T:Txt K mg C):Fn P w K mg base "peaceful" 4 ["bank","candidates"]<|FY K C:=by
 refine T.Iz.go gi ?_;rintro f dg A outer s H _ Q E hr⟨a,o,p,l,rfl,hb,Y,hl,k⟩
 refine⟨_,(af (eC 2 gi.nd<|aO<|ab kO ag)
  (af (gm vu rfl (ja rfl T.jU<|ab (aE (gQ K) rfl T.aD eE<|ab (pv 1) ag) ag) (gu 3 gi.nd) (af (eC 4 gi.nd<|c6 (zI T) hr<|ab (pv 0)<|ab (pv 1)<|ab (pv 3) ag)
  (ao<|eC 2 gi.nd<|br eL (pv 2)<|eM (own:=[("bits",5),("calm",6)]) rfl gi.nd (rJ K T.jD<|ab (pv 2) ag) (aU (N:=xO) (sc:=ai<|top 65)<|by decide+kernel) (λ_ _ _ _ _=>(gK (n:=2) K<|bY (gu 5 gi.nd)<|bY (gu 6 gi.nd) gH)) (λ_ _ _ _ _=>bR) λ_ _ _ _ _=>(NP (pv 6)<|Ho<|gJ eS (br N0 (pv 5)<|pv 4) aw<|bg _))))
  (ao<|au<|pv 2))),?_⟩
 refine aK (σ':=[some _,some _,none,none,none,none,none]) rfl ?_;symm;intro p1 I;generalize e_:upd H p1 _=H1;have z:aq H H1:=by subst e_;exact aq.new I
 have hT:H1 p1=some (.lst<|(MA.nF (hostile o) l 0).map V.bl):=by subst e_;exact ah
 have ai6:=z.seq Y;symm;rw[ek];refine wW (by lia) ?_;refine j4 (λi σ H'=>E_ λ(q:Addr)(v1 v2 v3 v4:Option V)=>σ=[some (.ref a.B),some (.ref p),some (.ref q),v1,v2,v3,v4]/\aq H H'/\H q=none/\H' q=some (.lst<|(MA.nF (hostile o) l i).map V.bl)) ⟨p1,none,none,none,none,rfl,z,I,hT⟩ ?_ ?_
 .rintro i σ H' hi⟨q,v1,v2,v3,v4,rfl,F,J,Z⟩;have hb:=F.ae hb;have Y:=F.seq Y
  have hx:l[i]?=some (l[i]'(by lia)):=gs (by lia)
  rw[SF];symm;refine⟨a,o,p,l,i,_,rfl,hb,Y,by lia,hx,λH2 z=>?_⟩;have M:=z _ _ Z;symm;have S:(MA.nF (hostile o) l i).length<=4096:=by rw[MM _ _ _<|by lia];exact lp (ox (m:=12)<|by lia) (by decide)
  refine Z7 (j1:=5) (j2:=6) (MA.nF (hostile o) l i) (λb v=>v=V.bl b) (λn b=>some (b&&(n&&&MA.eJ (λe=>(l[e]?).any λy=>hostile o y (l[i]'(by lia))) i==0))) (λb v _=>v=V.bl b) (az.of M) (pmap _ _) (by rw[ek];exact sz S) (λD hD j s v H3 acc Nx Ns he se k3 cW n1 n2=>?_) (λ_ _=>rfl) λD ys H3 k3 hD U KQ=>?_
  .subst se;symm;cases s with
   |false=>symm;exact n1 _ rfl _ _ (aq.refl _) λ_ _=>rfl
   |true=>
    symm;refine n1 _ rfl _ _ (aq.refl _) λ_ _=>?_;rw[KU,F2]
    congr 1
    rw[q7];simp
  .rw[bq KQ]at U;refine⟨_,_,_,_,rfl,rfl,k3 _ _ M,U,?_,λp6 W=>?_⟩
   .rw[bX];simp only[ek,List.length_zipIdx];exact sz (m:=9000) (by lia)
   symm;refine⟨p6,_,_,_,_,rfl,((F.trans z).trans k3).trans<|aq.new W,((F.trans z).trans k3).free W,?_⟩;rw[ah,bX,<-t4];rw[MA.nF,hx];rfl
 .rintro σ H' ⟨q,v1,v2,v3,v4,rfl,F,J,Z⟩;symm;rw[MA.vV _ _ _<|ez _,B7]at Z;exact k H' q F J Z
def FZ(K:cn)(C:Cl):Sp:=λvs H Q _=>F_ λ(a:jo)(o:Office)(p:Addr)(l:AU)(d:Demand)(v:V)=>vs=[.ref a.B,.ref p,v]/\ae K C H a o/\az K H p (fm l)/\l.length<=12/\(∀i∈l,i<o.items.length)/\iN K C H d v/\rL (((MA.subs l).map λs=>fz o s d).map V.bl) H Q
def Ts(l:AU):(iz l).sum=((l.sum:Nat):Int):=xG l
def sk(f:Nat->Nat)(l:AU):MA.sums (iz<|l.map f)=(MA.subs l).map λs=>(((s.map f).sum:Nat):Int):=by rw[MA.JG,iz,oW,MA.Np,oW];apply zD;intro s _;show(s.map _).sum=_;rw[<-Ts,iz,oW]
def Qt{j z:Type}(f g h:j->Int)(F:Int->Int->Int->z)(l:List j):(((l.map f).zip<|(l.map g).zip<|l.map h).map λp=>F p.1 p.2.1 p.2.2)=l.map λx=>F (f x) (g x)<|h x:=by
 induction l with
 |nil=>rfl
 |cons x l I=>simp;rw[I]
abbrev jg:Ba:=["bank","candidates","demand","added","firsts","seconds","boths","number","share","first","second","both"]
def cY:aB jg ["bank","candidates","demand"]<|ai<|top 66:=fj
def uQ(T:Txt K mg C):Fn P w K mg base "verdicts" 3 ["bank","candidates","demand"]<|FZ K C:=by
 refine T.IA.go cY ?_;rintro f dg A outer s H _ Q E hr⟨a,o,p,l,d,v,rfl,hb,hp,hl,hi,hd,k⟩;obtain⟨da,v1,v2,rfl,hd⟩:=hd
 refine⟨_,(af (gA (own:=[("number",7)]) rfl cY.nd (i:=3) rfl rfl (iI rfl rfl rfl rfl) (bj K<|pv 1) (aU (N:=jg) (sc:=ai<|top 66)<|by decide+kernel) (λ_ _ _ _ _=>(gu 7 cY.nd)) (λ_ _ _ _ _=>bR) λ_ _ _ _ _=>(c6 (Bi T) hr<|ab (pv 2)<|ab (pv 7)<|ab (bp (aN K) (bT K<|pv 0) (pv 7) λ_ _=>rfl) ag))
  (af (eC 4 cY.nd<|c6 (kz T) hr<|ab (eM (own:=[("share",8)]) rfl cY.nd (bj K<|pv 3) (aU (N:=jg) (sc:=ai<|top 66)<|by decide+kernel) (λ_ _ _ _ _=>(gu 8 cY.nd)) (λ_ _ _ _ _=>bR) λ_ _ _ _ _=>(bp (ei K) (pv 8) aw λ_ _=>rfl)) ag)
  (af (eC 5 cY.nd<|c6 (kz T) hr<|ab (eM (own:=[("share",8)]) rfl cY.nd (bj K<|pv 3) (aU (N:=jg) (sc:=ai<|top 66)<|by decide+kernel) (λ_ _ _ _ _=>(gu 8 cY.nd)) (λ_ _ _ _ _=>bR) λ_ _ _ _ _=>(bp (ei K) (pv 8) aw λ_ _=>rfl)) ag)
  (af (eC 6 cY.nd<|c6 (kz T) hr<|ab (eM (own:=[("share",8)]) rfl cY.nd (bj K<|pv 3) (aU (N:=jg) (sc:=ai<|top 66)<|by decide+kernel) (λ_ _ _ _ _=>(gu 8 cY.nd)) (λ_ _ _ _ _=>bR) λ_ _ _ _ _=>(bp (ei K) (pv 8) aw λ_ _=>rfl)) ag)
  (ao<|au<|eM (own:=[("first",9),("second",10),("both",11)]) rfl cY.nd (HZ K T.uG (ab (pv 4)<|ab (pv 5)<|ab (pv 6) ag) (by rfl) (by rfl) (by rfl) (by rfl)) (aU (N:=jg) (sc:=ai<|top 66)<|by decide+kernel) (λ_ _ _ _ _=>(gK (n:=3) K<|bY (gu 9 cY.nd)<|bY (gu 10 cY.nd)<|bY (gu 11 cY.nd) gH)) (λ_ _ _ _ _=>bR) λ_ _ _ _ _=>(c6 (FR T) hr<|ab (pv 2)<|ab (pv 9)<|ab (pv 10)<|ab (pv 11) ag)))))),?_⟩
 refine aK (σ':=[some _,some _,some _,none,none,none,none,none,none,none,none,none]) rfl ?_;symm;refine ic (j:=7) l (λn v=>v=nv n) (λn=>some n) (λn v H=>tS [nv<|pW d n<|Vbxoab.itemAt o n,nv<|vK d n<|Vbxoab.itemAt o n,nv<|FQ d n<|Vbxoab.itemAt o n] v H) hp (pmap _ _) (by rw[ek];exact sz (m:=12) hl) (λD hD j e2 v H3 acc Nx Ns he se M I S n2=>?_) (λ_=>rfl) λD ys H1 k1 hD fi pr=>?_
 .subst se;have hb:=M.ae hb;have hd:=M.IJ hd;symm;have OV:=hi e2<|oA he;obtain⟨q,y,h1,h2⟩:=hb.at_ OV;refine cT (az.of hb.lq) (aP h1) ?_;symm;have ok:=tT hb.ok OV;refine⟨_,_,_,_,_,_,_,_,rfl,hd,h2,ok.2.2.2.2.1,ok.2.2.2.2.2.2.1,λH4 p4 k4 Nk=>?_⟩;exact S _ rfl _ _ k4 λH5 k5=>tS.keep ⟨p4,rfl,Nk⟩ (k4 _ _ I) k5
 rw[apz]at pr;have J:ys.length<=sizeLine:=by rw[<-mf pr];exact sz (m:=12) hl
 symm;refine ic (j:=8) l (λn v=>tS [nv<|pW d n<|Vbxoab.itemAt o n,nv<|vK d n<|Vbxoab.itemAt o n,nv<|FQ d n<|Vbxoab.itemAt o n] v H1) (λn=>some<|pW d n<|Vbxoab.itemAt o n) (λn v _=>v=nv n) (az.of fi) pr J (λD2 Pk j e2 v H3 acc Nx Ns he se M I S n2=>?_) (λ_=>rfl) λD2 ys2 H2 k2 Pk U Nl=>?_
 .obtain⟨q,rfl,hq⟩:=se;symm;refine gB (ee.of<|M _ _ hq) (m:=0) rfl ?_;exact S _ rfl _ _ (aq.refl _) λ_ _=>rfl
 rw[bq Nl,bX]at U;symm;have z1:az K H2 D2<|(iz<|l.map λi=>pW d i<|Vbxoab.itemAt o i).map V.int:=by rw[lj];exact az.of U
 refine⟨D2,iz<|l.map λi=>pW d i<|Vbxoab.itemAt o i,rfl,z1,by rw[jt,ek];exact hl,λH3 pa M Yg hA=>?_⟩;have W:=M _ _<|k2 _ _ fi;symm;refine ic (j:=8) l (λn v=>tS [nv<|pW d n<|Vbxoab.itemAt o n,nv<|vK d n<|Vbxoab.itemAt o n,nv<|FQ d n<|Vbxoab.itemAt o n] v H1) (λn=>some<|vK d n<|Vbxoab.itemAt o n) (λn v _=>v=nv n) (az.of W) pr J (λD3 Ye j e2 v H3' acc Nx Ns he se k3' I S n2=>?_) (λ_=>rfl) λD3 ys3 H4 k4 Ye Y KQ=>?_
 .obtain⟨q,rfl,hq⟩:=se;symm;refine gB (ee.of<|k3' _ _<|M _ _<|k2 _ _ hq) (m:=1) rfl ?_;exact S _ rfl _ _ (aq.refl _) λ_ _=>rfl
 rw[bq KQ,bX]at Y;symm;have z2:az K H4 D3<|(iz<|l.map λi=>vK d i<|Vbxoab.itemAt o i).map V.int:=by rw[lj];exact az.of Y
 refine⟨D3,iz<|l.map λi=>vK d i<|Vbxoab.itemAt o i,rfl,z2,by rw[jt,ek];exact hl,λH5 pb k5 hpb hB=>?_⟩;have Qu:=k5 _ _<|k4 _ _ W;symm;refine ic (j:=8) l (λn v=>tS [nv<|pW d n<|Vbxoab.itemAt o n,nv<|vK d n<|Vbxoab.itemAt o n,nv<|FQ d n<|Vbxoab.itemAt o n] v H1) (λn=>some<|FQ d n<|Vbxoab.itemAt o n) (λn v _=>v=nv n) (az.of Qu) pr J (λD4 hD4 j e2 v H6' acc Nx Ns he se k6' I S n2=>?_) (λ_=>rfl) λD4 ys4 H6 k6 hD4 Z Qp=>?_
 .obtain⟨q,rfl,hq⟩:=se;symm;refine gB (ee.of<|k6' _ _<|k5 _ _<|k4 _ _<|M _ _<|k2 _ _ hq) (m:=2) rfl ?_;exact S _ rfl _ _ (aq.refl _) λ_ _=>rfl
 rw[bq Qp,bX]at Z;symm;have z3:az K H6 D4<|(iz<|l.map λi=>FQ d i<|Vbxoab.itemAt o i).map V.int:=by rw[lj];exact az.of Z
 refine⟨D4,iz<|l.map λi=>FQ d i<|Vbxoab.itemAt o i,rfl,z3,by rw[jt,ek];exact hl,λH7 pc k7 W5 hC=>?_⟩;have k67:=k6.trans k7;have hB7:=k67 _ _ hB;have hA7:=(k5.trans k67) _ _<|k4 _ _ hA;have kk:=((((k1.trans k2).trans M).trans k4).trans k5).trans k67;have hd7:=kk.IJ hd;symm;refine SV (az.of hA7) (az.of hB7) (az.of hC) ?_;have L:∀f:Nat->Nat,(MA.sums<|iz<|l.map f).length=2^l.length:=λf=>by rw[uM,jt,ek]
 have bound:(2:Nat)^l.length<=4096:=lp (ox (m:=12) hl) (by decide);refine aaq (j1:=9) (j2:=10) (j3:=11) _ _ _ (λx y z=>je d x.toNat y.toNat z.toNat) (λb v _=>v=V.bl b) (az.of hA7) (az.of hB7) (az.of hC) (by rw[L,L]) (by rw[L,L]) (by rw[L];exact sz bound) (λD5 hD5 j x y z H8 acc Nx hx hy hz k8 I S=>?_) (λ_ _ _=>rfl) λD5 ys5 H8 k8 hD5 aaM Yi=>?_
 .rw[sk,mq]at hx hy hz;cases es:(MA.subs l)[j]? with
  |none=>rw[es]at hx;cases hx
  |some sb=>
   rw[es]at hx hy hz;cases hx;cases hy;cases hz;have hd8:=k8.IJ hd7;have wa:=(MA.jx l sb).mp<|oA es;have Ut:sb.length<=12:=lp wa.length_le hl
   have MN:=@C1 (sb.map λi=>pW d i<|Vbxoab.itemAt o i) 300 (by
    intro x hx;obtain⟨i,EU,rfl⟩:=n8.mp hx;have ok:=tT hb.ok<|hi i<|wa.subset EU
    exact CZ ok.2.2.2.2.1 ok.2.2.2.2.2.2.1)
   rw[ek]at MN;symm;refine⟨d,da,v1,v2,_,_,_,rfl,hd8,by lia,λH9 k9=>?_⟩;exact S _ _ k9 λ_ _=>by simp
 .rw[sk,sk,sk,Qt (F:=λx y z=>je d x.toNat y.toNat z.toNat)]at Yi;rw[bq Yi]at aaM;refine k _ _ (kk.trans k8) (kk.free hD5) ?_;rw[aaM];rfl
def Bk(its:List Item):Vbxoab.Q:=Vbxoab.mk (((its.map λx=>x.marks*x.hard).sum:Nat):Int) (its.map (·.marks)).sum
def tV(K:cn)(C:Cl):Sp:=λvs H Q _=>B_ λ(p:Addr)(its:List Item)=>vs=[.ref p]/\QL K C H p its/\∀H' j,aq H H' ->H' j=some (.tup [.int (Bk its).n,nv (Bk its).d])->Q (.ref j) H'
def F0(h:QL K C H p its):(its.map (·.marks)).sum<=200000:=by
 have:=@C1 (its.map (·.marks)) 200 (by
  intro x j;obtain⟨i,hi,rfl⟩:=n8.mp j;have:=h.ok i hi
  lia)
 rw[ek]at this;have:=h.le;lia
def Bl(h:QL K C H p its):(its.map λx=>x.marks*x.hard).sum<=800000:=by
 have:=@C1 (its.map λx=>x.marks*x.hard) 800 (by
  intro x j;obtain⟨i,hi,rfl⟩:=n8.mp j;have:=h.ok i hi
  exact Nat.mul_le_mul (by lia:i.marks<=200) (by lia:i.hard<=4))
 rw[ek]at this;have:=h.le;lia
abbrev vh:Ba:=["questions","weight","marks","divisor"]
def gL:aB vh ["questions"]<|ai<|top 35:=fj
def l7(T:Txt K mg C):Fn P w K mg base "mean_hardness" 2 ["questions"]<|tV K C:=by
 refine T.vd.go gL ?_;rintro f Z A outer s H _ Q E z⟨p,its,rfl,j,k⟩
 refine⟨_,(af (eC 1 gL.nd<|c6 (mH T) z<|ab (pv 0) ag)
  (af (eC 2 gL.nd<|c6 (ou T) z<|ab (pv 0) ag)
  (af (bh (aV eS (pv 2) aw<|bg _) (ao<|au<|jb<|ab aw<|ab aw ag) aF)
  (af (eC 3 gL.nd<|c6 (pK T) z<|ab (pv 1)<|ab (pv 2) ag)
  (ao<|au<|jb<|ab (br JO (pv 1)<|pv 3)<|ab (br JO (pv 2)<|pv 3) ag))))),?_⟩
 refine aK rfl ?_;symm;refine⟨p,its,rfl,j,λH1 S=>?_⟩;symm;refine⟨p,its,rfl,(S.QL j),λH2 k2=>?_⟩;have hm:=F0 j;have hw:=Bl j;generalize U:(its.map (·.marks)).sum=M at hm;generalize ew:(its.map λx=>x.marks*x.hard).sum=W at hw;have Y:=S.trans k2;symm;refine jT (λh=>?_) λh=>?_
 .symm;intro p3 I;refine k _ p3 (Y.trans<|aq.new I) ?_;rw[ah];have h0:M=0:=by simpa using h
  unfold Bk Vbxoab.mk;rw[U,dt h0];rfl
 .have h0:¬M=0:=by simpa using h
  symm;refine⟨W,M,rfl,by lia,by lia,λH3 k3=>?_⟩;have hg:0<Nat.gcd W M:=Nat.gcd_pos_of_pos_right _ (by lia);have hg2:Nat.gcd W M<=M:=Nat.gcd_le_right _ (by lia);symm;refine Hh ⟨by lia,by lia⟩ ?_;symm;refine Hh ⟨by lia,by lia⟩ ?_;symm;intro p4 J;refine k _ p4 ((Y.trans k3).trans<|aq.new J) ?_;rw[ah];unfold Bk Vbxoab.mk;rw[U,c0 h0,ew];simp only[Int.natAbs_natCast];rfl
def qM(l:AU)(x:Nat):(l++[x]).eraseDups=if x∈l then l.eraseDups else l.eraseDups++[x]:=by
 rw[List.eraseDups_append];by_cases h:x∈l
 .rw[dt h];have:[x].removeAll l=[]:=by simp[List.removeAll,h]
  rw[this];simp
 .rw[c0 h];have:[x].removeAll l=[x]:=by simp[List.removeAll,h]
  rw[this];simp[List.eraseDups_cons]
def tW(l:AU):l.eraseDups.length<=l.length:=by
 refine MA.snocInd (P:=λl=>l.eraseDups.length<=l.length) (by simp) (λl m j=>?_) l;rw[qM,mu];split
 .simp;lia
 .rw[mu];simp;exact j
def KZ(l:AU):List<|Key×V:=l.map λt:Nat=>(Sum.inl (t:Int),V.bl true)
def K1(l:AU)(t:Nat):gz (KZ l) (Sum.inl (t:Int))=if t∈l then some (.bl true)else none:=by
 induction l with
 |nil=>rfl
 |cons x l F=>
  rw[KZ,ip];by_cases h:x=t
  .subst h;rw[fK rfl,dt<|lx ..]
  .rw[fL<|by intro z;injection z with z;lia];have j:gz (l.map λt:Nat=>((Sum.inl (t:Int):Key),V.bl true)) (Sum.inl (t:Int))=if t∈l then some (.bl true)else none:=F
   rw[j];have:t∈x::l↔t∈l:=by rw[eH];exact⟨λz=>z.resolve_left λe=>h e.symm,.inr⟩
   simp only[this]
def Tt(l:AU)(t:Nat):putK (KZ l) (Sum.inl (t:Int)) (V.bl true)=KZ (if t∈l then l else l++[t]):=by
 by_cases h:t∈l
 .rw[dt h];unfold putK;have e:(KZ l).any (λj=>decide<|j.1=(Sum.inl (t:Int):Key))=true:=by rw[jA,K1,dt h];rfl
  first
   |(rw[dt e];rw[oW];apply zD;intro x _;simp;split<;>rfl)
   |(simp only[e,Pt];unfold KZ;rw[oW];apply zD;intro x _;simp only[Function.comp];split<;>rfl)
 .rw[c0 h,wK _<|by rw[K1,c0 h]];unfold KZ;rw[t4];rfl
def C8(K:cn)(C:Cl):Sp:=λvs H Q _=>B_ λ(p:Addr)(its:List Item)=>vs=[.ref p]/\QL K C H p its/\rL (fm (its.map (·.topic)).eraseDups) H Q
abbrev Ga:Ba:=["questions","seen","question"]
def mJ:aB Ga ["questions"]<|ai<|top 36:=fj
def C9(T:Txt K mg C):Fn P w K mg base "topics_of" 1 ["questions"]<|C8 K C:=by
 refine T.FA.go mJ ?_;rintro f Z A outer s H _ Q E hr⟨p,its,rfl,M,k⟩;obtain⟨xs,h1,h2⟩:=M.ex
 refine⟨_,(af (eC 1 mJ.nd Ot)
  (af (gm vu rfl (bj K<|pv 0) (gu 2 mJ.nd)<|ao<|BW (uA hr) (pv 1) (bT K<|pv 2) kO rfl)
  (ao<|au<|fJ HL rfl T.qA tG<|ab (pv 1) ag))),?_⟩
 refine aK rfl ?_;symm;intro z F;generalize S:upd H z _=H1;have U:aq H H1:=by subst S;exact aq.new F
 have hD:H1 z=some (.dK<|KZ (([]:AU)).eraseDups):=by subst S;exact ah
 have h11:=U.seq h1;have J:=mf h2;symm;refine iG (K:=K) (a:=p) (xs:=xs) (λi σ H'=>∃(v:Option V),σ=[some (.ref p),some (.ref z),v]/\aq H H'/\H' z=some (.dK<|KZ ((its.take i).map (·.topic)).eraseDups)) ⟨none,rfl,U,by simpa using hD⟩ (λi σ H' _⟨_,_,j,_⟩=>j.seq h1) ?_ ?_
 .rintro i y σ H' hi⟨v,rfl,j,hd⟩;obtain⟨x,hx,sx⟩:=Paired.at_ h2 hi;obtain⟨q,ly,rfl,Wi⟩:=j.QV sx;symm;have I:(KZ ((its.take i).map (·.topic)).eraseDups).length<sizeLine:=by unfold KZ;rw[ek];refine U7 (m:=1000)<|lp (tW _) ?_;rw[ek,zd];have:=M.le;lia
  refine⟨z,_,rfl,za.k (k:=Sum.inl (x.topic:Int)) hd I,?_⟩;refine⟨_,rfl,λb o W=>by rw[aL<|aX W F];exact j b o W,?_⟩;rw[ah,Tt,take_snoc hx,t4];show _=some (HO.dK<|KZ ((List.map (·.topic)<|its.take i)++[x.topic]).eraseDups);rw[qM]
  congr 3
  simp only[MA.mem_eraseDups _ _<|ez _]
 .rintro σ H'⟨v,rfl,j,hd⟩;symm;rw[<-J,B7]at hd;refine⟨z,_,rfl,hd,λl Y=>?_⟩;refine k _ l (j.trans<|aq.new Y) (j.free Y) ?_;rw[ah];unfold KZ;rw[oW];rfl
def l8(its:List Item)(t:Nat):Nat:=((its.filter λx=>x.topic==t).map (·.marks)).sum
def p8(its:List Item):AU:=(List.range 12).map (l8 its)++[(its.map λx=>x.marks*x.hard).sum,(its.map (·.minutes)).sum]
def IX(K:cn)(C:Cl):Sp:=λvs H Q _=>B_ λ(p:Addr)(its:List Item)=>vs=[.ref p]/\QL K C H p its/\rL (fm<|p8 its) H Q
abbrev Bm:Ba:=["questions","on_topics","topic"]
def qN:aB Bm ["questions"]<|ai<|top 37:=fj
def IY(T:Txt K mg C):Fn P w K mg base "profile" 2 ["questions"]<|IX K C:=by
 refine T.Mv.go qN ?_;rintro f dg A outer s H _ Q E S⟨p,its,rfl,z,k⟩
 refine⟨_,(af (gA (own:=[("topic",2)]) rfl qN.nd (i:=1) rfl rfl (iI rfl rfl rfl rfl) (ja rfl T.jU<|ab (lA T.rS) ag) (aU (N:=Bm) (sc:=ai<|top 37)<|by decide+kernel) (λ_ _ _ _ _=>(gu 2 qN.nd)) (λ_ _ _ _ _=>bR) λ_ _ _ _ _=>(c6 (uL T) S<|ab (pv 2)<|ab (pv 0) ag))
  (ao<|au<|br eL (pv 1)<|aO<|ab (c6 (mH T) S<|ab (pv 0) ag)<|ab (c6 (pZ T) S<|ab (pv 0) ag) ag)),?_⟩
 refine aK (σ':=[some _,none,none]) rfl ?_;symm;refine wW (n:=12) (by decide) ?_;refine Z6 (j:=2) (λt=>some<|l8 its t) (λn v _=>v=nv n) (sz (m:=12)<|ez _) (λD hD i H' acc Nx Ns hi M Y n1 n2=>?_) (λ_=>rfl) λD ys H1 U hD F pr=>?_
 .have z:=M.QL z;symm;refine⟨i,p,its,rfl,z,λH2 I=>?_⟩;exact n1 _ rfl _ _ I λ_ _=>rfl
 rw[bq pr,bX]at F;symm;refine⟨p,its,rfl,U.QL z,λH2 I=>?_⟩;symm;refine⟨p,its,rfl,(U.trans I).QL z,λH3 Z=>?_⟩;symm;intro p4 W;have k4:aq H3<|upd H3 p4 (.lst [nv (its.map λx=>x.marks*x.hard).sum,nv (its.map (·.minutes)).sum]):=aq.new W;refine⟨_,_,_,_,rfl,rfl,k4 _ _<|Z _ _<|I _ _ F,ah,by simp;exact sz (m:=20)<|by decide,λp5 J=>?_⟩;have M:=(((U.trans I).trans Z).trans k4);refine k _ p5 (M.trans<|aq.new J) (M.free J) ?_;rw[ah];unfold p8;rw[fm,t4];rfl
def MO(l m:AU):Nat:=((l.zip m).map λp=>gapOf p.1 p.2).sum
def zJ(K:cn)(C:Cl):Sp:=λvs H Q _=>D_ λ(p q:Addr)(l m:AU)=>vs=[.ref p,.ref q]/\az K H p (fm l)/\az K H q (fm m)/\l.length<=1000/\rN (MO l m) H Q
def Tu(m n:Nat):(if(m:Int)-(n:Int)<0 then-((m:Int)-(n:Int))else(m:Int)-(n:Int))=((gapOf m n:Nat):Int):=by unfold gapOf;split<;>lia
abbrev so:Ba:=["one","other","mine","yours"]
def jv:aB so ["one","other"]<|ai<|top 38:=fj
def zK(T:Txt K mg C):Fn P w K mg base "unlikeness" 1 ["one","other"]<|zJ K C:=by
 refine T.Cz.go jv ?_;rintro f J A outer s H _ Q E hr⟨p,q,l,m,rfl,z,F,M,k⟩;refine⟨_,(ao<|au<|aE (wU K) rfl T.pV uC<|ab (eM (own:=[("mine",2),("yours",3)]) rfl jv.nd (oX K T.uG<|ab (pv 0)<|ab (pv 1) ag) (aU (N:=so) (sc:=ai<|top 38)<|by decide+kernel) (λ_ _ _ _ _=>(gK (n:=2) K<|bY (gu 2 jv.nd)<|bY (gu 3 jv.nd) gH)) (λ_ _ _ _ _=>bR) λ_ _ _ _ _=>(aE ZR rfl T.U6 UQ<|ab (br sV (pv 2)<|pv 3) ag)) ag),?_⟩;refine aK (σ':=[some _,some _,none,none]) rfl ?_;symm;refine fE z F ?_;refine LR (j1:=2) (j2:=3) l m (λn v=>v=nv n) (λn v=>v=nv n) (λx y=>some<|gapOf x y) (λn v _=>v=nv n) z F (pmap _ _) (pmap _ _) (by rw[ek];exact sz M) (λD S i x y v v' H' acc Nx Ns hx hy U W kk I Y n2=>?_) (λ_ _=>rfl) λD ys H1 Z S j pr=>?_
 .subst U W;symm;refine⟨_,rfl,?_⟩;rw[Tu];exact Y _ rfl _ _ (aq.refl _) λ_ _=>rfl
 .rw[bq pr,bX]at j;symm;exact om (az.of j)<|k H1 Z
def IZ(K:cn)(C:Cl):Sp:=λvs H Q _=>B_ λ(p:Addr)(l:AU)=>vs=[.ref p]/\ee K H p (fm l)/\(∀i∈l,i<1000)/\rN (MA.bitsOf l) H Q
abbrev MP:Ba:=["paper","bits","number"]
def mK:aB MP ["paper"]<|ai<|top 39:=fj
def I0(T:Txt K mg C):Fn P w K mg base "as_bits" 1 ["paper"]<|IZ K C:=by
 refine T.Mw.go mK ?_;rintro f F A outer s H _ Q E M⟨p,l,rfl,I,hi,k⟩
 refine⟨_,(af (eC 1 mK.nd aw)
  (af (gm vu rfl (SA K<|pv 0) (gu 2 mK.nd)<|ao<|eC 1 mK.nd<|br JP (pv 1)<|br sW aw<|pv 2)
  (ao<|au<|pv 1))),?_⟩
 refine aK rfl ?_;symm;refine JN (λi σ H'=>∃v:Option V,σ=[some (.ref p),some<|nv<|MA.bitsOf<|l.take i,v]/\aq H H') ⟨none,rfl,aq.refl H⟩ (λi σ H' _⟨_,_,j⟩=>j.gh I) ?_ ?_
 .rintro i y σ H' J⟨v,rfl,j⟩;obtain⟨z,hz,rfl⟩:=jr J;have:=hi z<|oA hz;symm;refine Hh ⟨by lia,by lia,by decide⟩ ?_;symm;refine⟨some<|nv z,?_,j⟩;rw[take_snoc hz,MA.ur,vL,C6];rfl
 .rintro σ H'⟨v,rfl,j⟩;symm;rw[ek,B7];exact k H' j
def aaN{j:Type}{f:j->Nat}{x y:j}(h:f x<f y):[x].foldl (MA.iY f) (some y)=some x:=by exact dt h
def aaO{j:Type}{f:j->Nat}{x y:j}(h:¬f x<f y):[x].foldl (MA.iY f) (some y)=some y:=by exact c0 h
def pL(o:Office)(x:AU×AU):Nat:=MO (p8<|itemsOf o x.1)<|p8<|itemsOf o x.2
def W6(K:cn)(o:Office)(H:Hp):Option (AU×AU)->V->Prop
 |none,v=>v=.eQ
 |some x,v=>∃p a b,v=.ref p/\ee K H p [nv<|pL o x,.ref a,.ref b]/\ee K H a (fm x.1)/\ee K H b (fm x.2)
def tX(K:cn)(C:Cl):Sp:=λvs H Q _=>D_ λ(a:jo)(o:Office)(p:Addr)(ls:List AU)=>vs=[.ref a.B,.ref p]/\ae K C H a o/\TL K H p ls/\ls.length<=5000/\(∀l∈ls,l.length<=1000/\∀i∈l,i<o.items.length)/\
 ∀H' v,aq H H' ->W6 K o H' (leastBy (pL o)<|pairs ls) v->Q v H'
def LL(K:cn)(ls:AU)(v:V)(H:Hp):Prop:=∃p,v=.ref p/\az K H p (fm ls)
def Gb(d:AU->AU->Bool)(ls:List AU)(n:Nat):MA.mr d ls (n+1)=MA.mr d ls n++MA.RC d ls n:=by unfold MA.mr;rw[ap5,apw];simp
def zL{z:Type}{l:List z}{i j:Nat}{x:z}(h:l[i+j]?=some x):(l.drop i).take (j+1)=(l.drop i).take j++[x]:=take_snoc (by rw[List.getElem?_drop];exact h)
abbrev jJ:Ba:=["bank","papers","profiles","sets","best","first","second","paper","unlike"]
def cX:aB jJ ["bank","papers"]<|ai<|top 40:=fj
def tY(T:Txt K mg C):Fn P w K mg base "closest_twins" 3 ["bank","papers"]<|tX K C:=by
 refine T.vf.go cX ?_;rintro f dg A outer s H _ Q E hr⟨a,o,p,ls,rfl,hb,hp,hl,hi,k⟩;obtain⟨as,hL,pr⟩:=hp;have S:=mf pr
 refine⟨_,(af (gA (own:=[("paper",7)]) rfl cX.nd (i:=2) rfl rfl (iI rfl rfl rfl rfl) (bj K<|pv 1) (aU (N:=jJ) (sc:=ai<|top 40)<|by decide+kernel) (λ_ _ _ _ _=>(gu 7 cX.nd)) (λ_ _ _ _ _=>bR) λ_ _ _ _ _=>(c6 (IY T) hr<|ab (c6 (hJ T) hr<|ab (pv 0)<|ab (pv 7) ag) ag))
  (af (gA (own:=[("paper",7)]) rfl cX.nd (i:=3) rfl rfl (iI rfl rfl rfl rfl) (bj K<|pv 1) (aU (N:=jJ) (sc:=ai<|top 40)<|by decide+kernel) (λ_ _ _ _ _=>(gu 7 cX.nd)) (λ_ _ _ _ _=>bR) λ_ _ _ _ _=>(c6 (I0 T) hr<|ab (pv 7) ag))
  (af (eC 4 cX.nd iC)
  (af (gm vu rfl (ja rfl T.jU<|ab (aE (gQ K) rfl T.aD eE<|ab (pv 1) ag) ag) (gu 5 cX.nd) (ao (gm vu rfl (Lp rfl T.jU<|ab (br iH (pv 5) aw)<|ab (aE (gQ K) rfl T.aD eE<|ab (pv 1) ag) ag) (gu 6 cX.nd) (af (bh (aV Ei (br N0 (bp (aN K) (pv 3) (pv 5) λ_ _=>rfl)<|bp (aN K) (pv 3) (pv 6) λ_ _=>rfl) aw<|bg _) (ao uu) aF)
  (af (eC 8 cX.nd<|c6 (zK T) hr<|ab (bp (aN K) (pv 2) (pv 5) λ_ _=>rfl)<|ab (bp (aN K) (pv 2) (pv 6) λ_ _=>rfl) ag)
  (ao<|bh (PW.pt<|jL (gy<|gN<|pv 4)<|i9<|aV wC (pv 8) (bp (ei K) (pv 4) aw λ_ _=>rfl)<|bg _) (ao<|eC 4 cX.nd<|jb<|ab (pv 8)<|ab (bp (aN K) (pv 1) (pv 5) λ_ _=>rfl)<|ab (bp (aN K) (pv 1) (pv 6) λ_ _=>rfl) ag) aF))))))
  (ao<|au<|pv 4))))),?_⟩
 refine aK (σ':=[some _,some _,none,none,none,none,none,none,none]) rfl ?_;symm;refine ic (j:=7) ls (λl v=>TV K l v H) (λl=>some<|p8<|itemsOf o l) (λl v H=>LL K l v H) (az.of hL) (mI pr) (by rw[ek,S];exact sz hl) (λD hD j l v H3 acc Nx Ns he se k3 cW n1 n2=>?_) (λ_=>rfl) λD1 ys1 H1 k1 WH aaP pr1=>?_
 .obtain⟨t,rfl,ht⟩:=se;have hb:=k3.ae hb;have W:=hi l<|oA he;symm;refine⟨a,o,t,l,rfl,hb,.inr<|k3.gh ht,W.1,W.2,λH4 p4 I Nk W7=>?_⟩;symm;refine⟨p4,_,rfl,W7,λH5 p5 k5 Va hl5=>?_⟩;refine n1 _ rfl _ _ (I.trans k5) λH6 Y=>⟨p5,rfl,az.of<|Y _ _ (aX (I _ _ cW) Va).symm hl5⟩
 rw[bX]at pr1;have hL1:=k1 _ _ hL;symm;refine ic (j:=7) ls (λl v=>TV K l v H) (λl=>some<|MA.bitsOf l) (λn v _=>v=nv n) (az.of hL1) (mI pr) (by rw[ek,S];exact sz hl) (λD hD j l v H3 acc Nx Ns he se k3 cW n1 n2=>?_) (λ_=>rfl) λD2 ys2 H2 k2 Pk zF Nl=>?_
 .obtain⟨t,rfl,ht⟩:=se;have W:=hi l<|oA he;symm;refine⟨t,l,rfl,k3.gh<|k1.gh ht,λi EU=>by have:=W.2 i EU;have:=hb.ok.rp;lia,λH4 I=>?_⟩;exact n1 _ rfl _ _ I λ_ _=>rfl
 rw[bq Nl,bX]at zF;have WQ:=k2 _ _ hL1;have hP2:=k2 _ _ aaP;have lI:=k1.trans k2;have aaQ:Paired (λa l=>ee K H2 a<|fm l) as ls:=L2.Paired.mono (λ_ _ r=>lI.gh r) pr;have aaR:Paired (λl v=>LL K l v H2) (ls.map λl=>p8<|itemsOf o l) ys1:=L2.Paired.mono (λ_ _ r=>let⟨q,e,h⟩:=r;⟨q,e,k2.seq h⟩) pr1;clear pr pr1 Nl hL hL1 aaP;symm;rw[ek,S];refine wW (by lia) ?_;refine j4 (λi σ H'=>E_ λ(J:V)(v5 v6 v7 v8:Option V)=>σ=[some (.ref a.B),some (.ref p),some (.ref D1),some (.ref D2),some J,v5,v6,v7,v8]/\aq H2 H'/\W6 K o H' ((MA.mr disjoint ls i).foldl (MA.iY<|pL o) none) J) ⟨.eQ,none,none,none,none,rfl,aq.refl _,rfl⟩ ?_ ?_
 .rintro i σ H' hi1⟨J,v5,v6,v7,v8,rfl,kk,M⟩;have hL':=kk _ _ WQ
  have hx:ls[i]?=some (ls[i]'(by lia)):=gs (by lia)
  generalize ls[i]'(by lia)=x at hx
  rw[SF];symm;rw[ek,S,<-Int.natCast_succ];refine Z4 (by lia) (by lia) ?_;refine j4 (λj σ H'=>C_ λ(J:V)(v6 v8:Option V)=>σ=[some (.ref a.B),some (.ref p),some (.ref D1),some (.ref D2),some J,some<|nv i,v6,v7,v8]/\aq H2 H'/\W6 K o H' ((MA.mr disjoint ls i++(((ls.drop<|i+1).take j).filter<|disjoint x).map λq=>(x,q)).foldl (MA.iY<|pL o) none) J) ⟨J,v6,v8,rfl,kk,by simpa using M⟩ ?_ ?_
  .rintro j σ H4 hj ⟨J,v6,v8,rfl,I,M⟩;have e1:((i.succ:Nat):Int)+(j:Int)=((i+1+j:Nat):Int):=by lia
   rw[e1]
   have hy:ls[i+1+j]?=some (ls[i+1+j]'(by lia)):=gs (by lia)
   generalize ls[i+1+j]'(by lia)=y at hy
   have hS:=I _ _ zF;have hL4:=I _ _ WQ;have hP4:=I _ _ hP2;rw[zL hy,Zp,t4,<-Ed,Ep];generalize eB:(MA.mr disjoint ls i++(((ls.drop<|i+1).take j).filter<|disjoint x).map λq=>(x,q)).foldl (MA.iY<|pL o) none=B at M;symm;refine cT (az.of hS) (aP<|by rw[mq,mq,hx];rfl) ?_;symm;refine cT (az.of hS) (aP<|by rw[mq,mq,hy];rfl) ?_;symm;rw[KU];have hdj:=MA.yR x y;refine jT (λh=>?_) λh=>?_
   .symm;have hd:disjoint x y=false:=by
     cases q:disjoint x y with
     |false=>rfl
     |true=>rw[hdj.mpr q]at h;simp at h
    refine⟨J,_,_,rfl,I,?_⟩;simp only[F5,hd];exact M
   .have hd:disjoint x y=true:=by refine hdj.mp ?_;simp at h;exact_mod_cast h
    have e3:([y].filter<|disjoint x).map (λq=>(x,q))=[(x,y)]:=by simp[hd]
    rw[e3];show _;refine bV ?_;symm;obtain⟨w1,hw1,q1,rfl,yN⟩:=kc aaR (i:=i) (by rw[mq,hx];rfl);obtain⟨w2,hw2,q2,rfl,Tw⟩:=kc aaR (i:=i+1+j) (by rw[mq,hy];rfl);refine cT (az.of hP4) (aP hw1) ?_;symm;refine cT (az.of hP4) (aP hw2) ?_;symm;refine⟨q1,q2,_,_,rfl,I.seq yN,I.seq Tw,?_,λH5 k5=>?_⟩
    .unfold p8;simp
    have eU:MO (p8<|itemsOf o x) (p8<|itemsOf o y)=pL o (x,y):=rfl;rw[eU];generalize hU:pL o (x,y)=U;have F:=I.trans k5;obtain⟨a1,Yl,Rt⟩:=Paired.at_ aaQ hx;obtain⟨a2,Yn,wA⟩:=Paired.at_ aaQ hy;have Yp:=k5 _ _ hL4;symm;cases B with
    |none=>obtain rfl:J=.eQ:=M;symm;refine cT (az.of Yp) (aP<|by rw[mq,Yl];rfl) ?_;symm;refine cT (az.of Yp) (aP<|by rw[mq,Yn];rfl) ?_;symm;intro p6 Nm;have Y:aq H5<|upd H5 p6 (.tup [nv U,.ref a1,.ref a2]):=aq.new Nm;refine⟨_,_,_,rfl,F.trans Y,p6,a1,a2,rfl,?_,(F.trans Y).gh Rt,(F.trans Y).gh wA⟩;rw[hU];exact ee.of ah
    |some z=>
     obtain⟨pz,b1,b2,rfl,t1,t2,t3⟩:=M;generalize hZ:pL o z=Z at t1;symm;refine gB (k5.gh t1) (m:=0) rfl ?_;symm;refine jT (λh=>?_) λh=>?_
     .have iW:pL o (x,y)<pL o z:=by rw[hU,hZ];simpa using h
      symm;refine cT (az.of Yp) (aP<|by rw[mq,Yl];rfl) ?_;symm;refine cT (az.of Yp) (aP<|by rw[mq,Yn];rfl) ?_;symm;intro p6 Nm;have Y:aq H5<|upd H5 p6 (.tup [nv U,.ref a1,.ref a2]):=aq.new Nm;refine⟨_,_,_,rfl,F.trans Y,?_⟩;rw[aaN iW];refine⟨p6,a1,a2,rfl,?_,(F.trans Y).gh Rt,(F.trans Y).gh wA⟩;rw[hU];exact ee.of ah
     .have iW:¬pL o (x,y)<pL o z:=by rw[hU,hZ];simpa using h
      symm;rw[aaO iW];refine⟨_,_,_,rfl,F,pz,b1,b2,rfl,?_,k5.gh t2,k5.gh t3⟩;rw[hZ];exact k5.gh t1
  .rintro σ H4 ⟨J,v6,v8,rfl,I,M⟩;refine⟨J,_,_,_,_,rfl,I,?_⟩;rw[Gb];have e6:MA.RC disjoint ls i=((ls.drop<|i+1).filter<|disjoint x).map λq=>(x,q):=by unfold MA.RC;rw[hx]
   rw[e6];have e7:(ls.drop<|i+1).take (ls.length-i.succ)=ls.drop (i+1):=Oc (by rw[Mb];exact ez _);rw[e7]at M;exact M
 .rintro σ H' ⟨J,v5,v6,v7,v8,rfl,kk,M⟩;symm;rw[<-MA.D7,<-MA.wj]at M;exact k H' J (lI.trans kk) M
def Tx(o:Office)(l:AU):Nat:=((itemsOf o l).map λx=>x.marks*x.hard).sum
def nA(o:Office)(l:AU):Nat:=((itemsOf o l).map (·.marks)).sum
def jh(o:Office)(u d:Nat)(l:AU):Nat:=((Tx o l:Int)*d-u*(nA o l:Int)).natAbs
def fD(o:Office)(u d:Nat)(b:Option AU)(x:AU):Option AU:=if x=[]then b else match b with
 |none=>some x
 |some y=>if jh o u d x*nA o y<jh o u d y*nA o x then some x else some y
def qO(K:cn)(H:Hp):Option AU->V->Prop
 |none,v=>v=.eQ
 |some l,v=>∃a,v=.ref a/\ee K H a (fm l)
def qO.same(k:aq H H'):∀{t:Option AU},qO K H t v->qO K H' t v
 |none,h=>h
 |some _,h=>let⟨a,e,h1⟩:=h;⟨a,e,k.gh h1⟩
def mL(K:cn)(C:Cl):Sp:=λvs H Q _=>F_ λ(a:jo)(o:Office)(p:Addr)(ls:List AU)(u d:Nat)=>vs=[.ref a.B,.ref p,nv u,nv d]/\ae K C H a o/\TL K H p ls/\(∀l∈ls,l.length<=1000/\∀i∈l,i<o.items.length)/\u<=4000/\d<=1000/\
 ∀H' v,aq H H' ->qO K H' (ls.foldl (fD o u d) none) v->Q v H'
def MQ(z:Int):(if z<0 then-z else z)=(z.natAbs:Int):=by split<;>lia
def W9(o:Office)(u d:Nat):Option AU->Nat
 |none=>0
 |some l=>jh o u d l
def mkB(o:Office):Option AU->Nat
 |none=>1
 |some l=>nA o l
def Tz(j:Tx o l<=800000)(z:nA o l<=200000)(F:u<=4000)(hd:d<=1000):jh o u d l<2^64:=by
 unfold jh;have h1:Tx o l*d<=800000*1000:=Nat.mul_le_mul j hd;have h2:u*nA o l<=4000*200000:=Nat.mul_le_mul F z;have I:(Tx o l:Int)*(d:Int)=((Tx o l*d:Nat):Int):=by simp
 have J:(u:Int)*(nA o l:Int)=((u*nA o l:Nat):Int):=by simp
 rw[I,J];lia
abbrev nr:Ba:=["bank","papers","upper","lower","best","best_off","best_marks","paper","questions","marks","off"]
def bo:aB nr ["bank","papers","upper","lower"]<|ai<|top 41:=fj
def mM(T:Txt K mg C):Fn P w K mg base "nearest_in_hardness" 2 ["bank","papers","upper","lower"]<|mL K C:=by
 refine T.nh.go bo ?_;rintro f dg A outer s H _ Q E hr⟨a,o,p,ls,u,d,rfl,hb,hp,hi,hu,hd,k⟩;obtain⟨as,hL,pr⟩:=hp;have Tv:=mf pr
 refine⟨_,(af (eC 4 bo.nd iC)
  (af (eC 5 bo.nd aw)
  (af (eC 6 bo.nd aw)
  (af (gm vu rfl (bj K<|pv 1) (gu 7 bo.nd) (af (eC 8 bo.nd<|c6 (hJ T) hr<|ab (pv 0)<|ab (pv 7) ag)
  (af (eC 9 bo.nd<|c6 (ou T) hr<|ab (pv 8) ag)
  (af (eC 10 bo.nd<|aE ZR rfl T.U6 UQ<|ab (br sV (br qh (c6 (mH T) hr<|ab (pv 8) ag)<|pv 3)<|br qh (pv 2)<|pv 9) ag)
  (ao (bh (PW.pt<|Hn (aV nN (aE (gQ K) rfl T.aD eE<|ab (pv 7) ag) aw<|bg _)<|BG<|PW.pt<|jL (gy<|gN<|pv 4)<|i9<|aV wC (br qh (pv 10)<|pv 6) (br qh (pv 5)<|pv 9)<|bg _) (af (eC 4 bo.nd<|pv 7)
  (af (eC 5 bo.nd<|pv 10)
  (ao<|eC 6 bo.nd<|pv 9))) aF))))))
  (ao<|au<|pv 4))))),?_⟩
 refine aK rfl ?_;symm;refine iG (λi σ H'=>E_ λ(vb:V)(v7 v8 v9 v10:Option V)=>σ=[some (.ref a.B),some (.ref p),some<|nv u,some<|nv d,some vb,some<|nv<|W9 o u d<|(ls.take i).foldl (fD o u d) none,some<|nv<|mkB o<|(ls.take i).foldl (fD o u d) none,v7,v8,v9,v10]/\aq H H'/\qO K H' ((ls.take i).foldl (fD o u d) none) vb/\W9 o u d ((ls.take i).foldl (fD o u d) none)<2^64) ⟨.eQ,none,none,none,none,rfl,aq.refl H,rfl,Nat.two_pow_pos 64⟩ (λi σ H' _⟨_,_,_,_,_,_,kk,_⟩=>kk.seq<|az.of hL) ?_ ?_
 .rintro i y σ H' hy⟨vb,v7,v8,v9,v10,rfl,kk,hv,F⟩;obtain⟨t,ht,rfl⟩:=jr hy;obtain⟨l,hl,hs⟩:=kc pr ht;have Ng:=hi l<|oA hl;rw[take_snoc hl,Ep];generalize(ls.take i).foldl (fD o u d) none=B at hv F;symm;refine⟨a,o,t,l,rfl,(kk.ae hb),.inr<|kk.gh hs,Ng.1,Ng.2,λH1 p1 k1 sh M=>?_⟩;symm;refine⟨p1,_,rfl,M,λH2 k2=>?_⟩;symm;refine⟨p1,_,rfl,k2.QL M,λH3 k3=>?_⟩;have hm:=F0 M;have hw:=Bl M;have em:((itemsOf o l).map (·.marks)).sum=nA o l:=rfl;have ew:((itemsOf o l).map λx=>x.marks*x.hard).sum=Tx o l:=rfl;rw[em]at hm|-;rw[ew]at hw|-;have hof:=Tz (o:=o) (l:=l) hw hm hu hd;symm;refine Hh (.inl ⟨by lia,by lia⟩) ?_;symm;refine Hh (.inl ⟨by lia,by lia⟩) ?_;symm;refine⟨_,rfl,?_⟩;rw[MQ];have eo:((Tx o l:Int)*(d:Int)-(u:Int)*(nA o l:Int)).natAbs=jh o u d l:=rfl;rw[eo];have I:=((kk.trans k1).trans k2).trans k3;have W:=I.gh hs;generalize j:jh o u d l=Y at hof;generalize S:nA o l=Z at hm;symm;refine jT (λh=>?_) λh=>?_
  .have J:l≠[]:=by intro z;subst z;simp at h
   cases B with
   |none=>
    obtain rfl:vb=.eQ:=hv;symm;have e:List.foldl (fD o u d) none [l]=some l:=by show fD o u d none l=_;unfold fD;rw[c0 J]
    refine⟨.ref t,some (.ref t),some (.ref p1),some<|nv Z,some<|nv Y,?_,I,?_,?_⟩
    .rw[e];show _=[_,_,_,_,_,some<|nv<|jh o u d l,some<|nv<|nA o l,_,_,_,_];rw[j,S];rfl
    .rw[e];exact⟨t,rfl,W⟩
    .rw[e];show jh o u d l<_;rw[j];exact hof
   |some z=>
    obtain⟨tz,rfl,hz⟩:=hv;have ob:W9 o u d (some z)=jh o u d z:=rfl;have mb:mkB o (some z)=nA o z:=rfl;rw[ob]at F;rw[ob,mb];generalize U:jh o u d z=OZ at F;generalize hMZ:nA o z=MZ;symm;refine Hh (.inl ⟨by lia,by lia⟩) ?_;symm;refine Hh (.inl ⟨by lia,by lia⟩) ?_;symm;refine jT (λh2=>?_) λh2=>?_
    .have h3:Y*MZ<OZ*Z:=by
      have:(Y:Int)*(MZ:Int)<(OZ:Int)*(Z:Int):=by simpa using h2
      exact_mod_cast this
     symm;have e:List.foldl (fD o u d) (some z) [l]=some l:=by show fD o u d (some z) l=_;unfold fD;rw[c0 J];dsimp only;rw[j,hMZ,U,S,dt h3]
     refine⟨.ref t,some (.ref t),some (.ref p1),some<|nv Z,some<|nv Y,?_,I,?_,?_⟩
     .rw[e];show _=[_,_,_,_,_,some<|nv<|jh o u d l,some<|nv<|nA o l,_,_,_,_];rw[j,S];rfl
     .rw[e];exact⟨t,rfl,W⟩
     .rw[e];show jh o u d l<_;rw[j];exact hof
    .have h3:¬Y*MZ<OZ*Z:=by
      intro q;have:(Y:Int)*(MZ:Int)<(OZ:Int)*(Z:Int):=by exact_mod_cast q
      simp[this]at h2
     symm;have e:List.foldl (fD o u d) (some z) [l]=some z:=by show fD o u d (some z) l=_;unfold fD;rw[c0 J];dsimp only;rw[j,hMZ,U,S,c0 h3]
     refine⟨.ref tz,some (.ref t),some (.ref p1),some<|nv Z,some<|nv Y,?_,I,?_,?_⟩
     .rw[e,ob,mb,U,hMZ];rfl
     .rw[e];exact⟨tz,rfl,(((k1.trans k2).trans k3)).gh hz⟩
     .rw[e,ob,U];exact F
  .have J:l=[]:=by
    cases l with
    |nil=>rfl
    |cons _ _=>simp at h
   symm;have e:List.foldl (fD o u d) B [l]=B:=by show fD o u d B l=_;unfold fD;rw[dt J]
   refine⟨vb,some (.ref t),some (.ref p1),some<|nv Z,some<|nv Y,?_,I,?_,?_⟩
   .rw[e];rfl
   .rw[e];exact hv.same<|(k1.trans k2).trans k3
   .rw[e];exact F
 .rintro σ H'⟨vb,v7,v8,v9,v10,rfl,kk,hv,_⟩;symm;rw[ek,Tv,B7]at hv;exact k H' vb kk hv
def MR(K:cn)(C:Cl):Sp:=λvs H Q _=>G_ λ(x dx:Addr)(v1 v2 j z F:V)=>vs=[.ref x,v1,v2,j,z,F]/\H x=some (.ins C.d dx [])/\
 ∀H',ay x H H' ->H' x=some (.ins C.d dx [("word",v1),("first",v2),("second",j),("low",z),("high",F)])->Q .eQ H'
theorem eW:∀{fs:List<|Str×V},fs.length<m->(c8 f v fs).length<m+1
 |[],h=>by show 1<m+1;simp at h;lia
 |(g,x)::r,h=>by
  unfold c8;split
  .simp at h|-;lia
  .rw[kA]at h|-;cases m with
   |zero=>lia
   |succ m=>exact Nat.succ_lt_succ<|eW (by lia)
def hX(k:ay x H H1):ay x H<|upd H1 x o:=k.trans ay.upd
abbrev Qv:Ba:=["self","word","first","second","low","high"]
def MS:aB Qv ["self","word","first","second","low","high"]<|ai<|inClass (top 1) 0:=fj
def Bn(T:Txt K mg C):Ww P w K mg base "Demand" C.d 1 ["self","word","first","second","low","high"]<|MR K C:=by
 refine T.P6.fn MS (λ_ _ _ _ _ _=>qLz λ_ _ _ _ _ _=>rfl) (λvs H Q E h=>?_) λf z A outer s H vs Q E M h=>?_
 .obtain⟨x,dx,v1,v2,F,I,J,rfl,_⟩:=h;rfl
 obtain⟨x,dx,v1,v2,F,I,J,rfl,hx,k⟩:=h
 refine⟨_,(af (cU K (pv 0)<|pv 1)
  (af (cU K (pv 0)<|pv 2)
  (af (cU K (pv 0)<|pv 3)
  (af (cU K (pv 0)<|pv 4)
  (ao<|cU K (pv 0)<|pv 5))))),?_⟩
 refine aK rfl ?_;symm;refine⟨x,C.d,dx,_,rfl,hx,T.g8,T.KJ,by repeat' (first|decide|refine eW ?_),?_⟩;symm;refine⟨x,C.d,dx,_,rfl,ah,T.g8,T.FO,by repeat' (first|decide|refine eW ?_),?_⟩;symm;refine⟨x,C.d,dx,_,rfl,ah,T.g8,T.Bg,by repeat' (first|decide|refine eW ?_),?_⟩;symm;refine⟨x,C.d,dx,_,rfl,ah,T.g8,T.P7,by repeat' (first|decide|refine eW ?_),?_⟩;symm;refine⟨x,C.d,dx,_,rfl,ah,T.g8,T.KL,by repeat' (first|decide|refine eW ?_),?_⟩;refine k _ (hX<|hX<|hX<|hX ay.upd) ?_;rw[ah];rfl
def Gd(K:cn)(C:Cl):Sp:=λvs H Q _=>G_ λ(x dx:Addr)(v1 v2 j z F:V)=>vs=[.ref x,v1,v2,j,z,F]/\H x=some (.ins C.q dx [])/\
 ∀H' ly,ay x H H' ->H ly=none->H' ly=some (.lst [])->H' x=some (.ins C.q dx [("topic",v1),("kind",v2),("hardness",j),("marks",z),("minutes",F),("years",.ref ly),("withdrawn",.bl false)])->Q .eQ H'
abbrev Ja:Ba:=["self","topic","kind","hardness","marks","minutes"]
def Ge:aB Ja ["self","topic","kind","hardness","marks","minutes"]<|ai<|inClass (top 44) 0:=fj
def uR(T:Txt K mg C):Ww P w K mg base "Question" C.q 1 ["self","topic","kind","hardness","marks","minutes"]<|Gd K C:=by
 refine T.IF.fn Ge (λ_ _ _ _ _ _=>qLz λ_ _ _ _ _ _=>rfl) (λvs H Q E h=>?_) λf W A outer s H vs Q E hr h=>?_
 .obtain⟨x,dx,v1,v2,F,I,S,rfl,_⟩:=h;rfl
 obtain⟨x,dx,v1,v2,F,I,S,rfl,hx,k⟩:=h
 refine⟨_,(af (cU K (pv 0)<|pv 1)
  (af (cU K (pv 0)<|pv 2)
  (af (cU K (pv 0)<|pv 3)
  (af (cU K (pv 0)<|pv 4)
  (af (cU K (pv 0)<|pv 5)
  (af (cU K (pv 0)<|aO ag)
  (ao<|cU K (pv 0) kO))))))),?_⟩
 refine aK rfl ?_;symm;refine⟨x,C.q,dx,_,rfl,hx,T.c9,T.FL,by repeat' (first|decide|refine eW ?_),?_⟩;symm;refine⟨x,C.q,dx,_,rfl,ah,T.c9,T.KI,by repeat' (first|decide|refine eW ?_),?_⟩;symm;refine⟨x,C.q,dx,_,rfl,ah,T.c9,T.uH,by repeat' (first|decide|refine eW ?_),?_⟩;symm;refine⟨x,C.q,dx,_,rfl,ah,T.c9,T.FN,by repeat' (first|decide|refine eW ?_),?_⟩;symm;refine⟨x,C.q,dx,_,rfl,ah,T.c9,T.xt,by repeat' (first|decide|refine eW ?_),?_⟩;have J:∀Y o2 Z o4 o5,ay x H<|upd (upd (upd (upd (upd H x Y) x o2) x Z) x o4) x o5:=λ_ _ _ _ _=>hX<|hX<|hX<|hX ay.upd;have J:=J (.ins C.q dx<|c8 "topic" v1 []) (.ins C.q dx<|c8 "kind" v2<|c8 "topic" v1 []) (.ins C.q dx<|c8 "hardness" F<|c8 "kind" v2<|c8 "topic" v1 []) (.ins C.q dx<|c8 "marks" I<|c8 "hardness" F<|c8 "kind" v2<|c8 "topic" v1 []) (.ins C.q dx<|c8 "minutes" S<|c8 "marks" I<|c8 "hardness" F<|c8 "kind" v2<|c8 "topic" v1 []);generalize e_:upd (upd (upd (upd (upd H x (.ins C.q dx<|c8 "topic" v1 [])) x (.ins C.q dx<|c8 "kind" v2<|c8 "topic" v1 [])) x (.ins C.q dx<|c8 "hardness" F<|c8 "kind" v2<|c8 "topic" v1 [])) x (.ins C.q dx<|c8 "marks" I<|c8 "hardness" F<|c8 "kind" v2<|c8 "topic" v1 [])) x (.ins C.q dx<|c8 "minutes" S<|c8 "marks" I<|c8 "hardness" F<|c8 "kind" v2<|c8 "topic" v1 [])=H5 at J|-;have M:H5 x=some (.ins C.q dx<|c8 "minutes" S<|c8 "marks" I<|c8 "hardness" F<|c8 "kind" v2<|c8 "topic" v1 []):=by subst e_;exact ah
 symm;intro ly j;symm;have nx:ly≠x:=λz=>by rw[z,M]at j;cases j
 refine⟨x,C.q,dx,_,rfl,by rw[aL nx.symm];exact M,T.c9,T.xu,by repeat' (first|decide|refine eW ?_),?_⟩;symm;refine⟨x,C.q,dx,_,rfl,ah,T.c9,T.jV,by repeat' (first|decide|refine eW ?_),?_⟩;have hn:H ly=none:=by
  cases q:H ly with
  |none=>rfl
  |some u=>rw[J ly u nx q]at j;cases j
 refine k _ ly (hX<|hX<|J.trans (aq.new j).but) hn ?_ ?_
 .rw[aL nx,aL nx,ah]
 .rw[ah];rfl
def TB(K:cn)(C:Cl):Sp:=λvs H Q _=>B_ λ(x dx:Addr)=>vs=[.ref x]/\H x=some (.ins C.b dx [])/\
 ∀H' lq le ld,ay x H H' ->H lq=none->H le=none->H ld=none->[x,lq,le,ld].Nodup->H' lq=some (.lst [])->H' le=some (.dT [])->H' ld=some (.lst [])->H' x=some (.ins C.b dx [("questions",.ref lq),("enemies",.ref le),("demands",.ref ld),("year",.int 0),("gap",.int 0),("most",.int 99)])->Q .eQ H'
abbrev Xa:Ba:=["self"]
def TC:aB Xa ["self"]<|ai<|inClass (top 45) 0:=fj
def K2(T:Txt K mg C):Ww P w K mg base "Bank" C.b 1 ["self"]<|TB K C:=by
 refine T.WY.fn TC (λ_ _ _ _ _ _=>qLz λ_=>rfl) (λvs H Q E h=>?_) λf dg A outer s H vs Q E hr h=>?_
 .obtain⟨x,dx,rfl,_⟩:=h;rfl
 obtain⟨x,dx,rfl,hx,k⟩:=h
 refine⟨_,(af (cU K (pv 0)<|aO ag)
  (af (cU K (pv 0) EI)
  (af (cU K (pv 0)<|aO ag)
  (af (cU K (pv 0) aw)
  (af (cU K (pv 0) aw)
  (ao<|cU K (pv 0) aw)))))),?_⟩
 refine aK rfl ?_;symm;intro lq J;symm;have M:lq≠x:=λz=>by rw[z,hx]at J;cases J
 refine⟨x,C.b,dx,_,rfl,by rw[aL M.symm];exact hx,T.fe,T.mB,by repeat' (first|decide|refine eW ?_),?_⟩;generalize I:upd (upd H lq (.lst [])) x (.ins C.b dx<|c8 "questions" (.ref lq) [])=H1;have Y:ay x H H1:=by subst I;exact(aq.new J).but.trans ay.upd
 have q1:H1 lq=some (.lst []):=by subst I;rw[aL M,ah]
 have x1:H1 x=some (.ins C.b dx<|c8 "questions" (.ref lq) []):=by subst I;exact ah
 symm;intro le F;symm;have S:le≠x:=λz=>by rw[z,x1]at F;cases F
 have n3:le≠lq:=λz=>by rw[z,q1]at F;cases F
 refine⟨x,C.b,dx,_,rfl,by rw[aL S.symm];exact x1,T.fe,T.qD,by repeat' (first|decide|refine eW ?_),?_⟩;generalize I:upd (upd H1 le (.dT [])) x (.ins C.b dx<|c8 "enemies" (.ref le)<|c8 "questions" (.ref lq) [])=H2;have Z:ay x H1 H2:=by subst I;exact(aq.new F).but.trans ay.upd
 have q2:=Z _ _ M q1;have e2:H2 le=some (.dT []):=by subst I;rw[aL S,ah]
 have x2:H2 x=some (.ins C.b dx<|c8 "enemies" (.ref le)<|c8 "questions" (.ref lq) []):=by subst I;exact ah
 symm;intro ld j;symm;have U:ld≠x:=λz=>by rw[z,x2]at j;cases j
 have n5:ld≠lq:=λz=>by rw[z,q2]at j;cases j
 have n6:ld≠le:=λz=>by rw[z,e2]at j;cases j
 refine⟨x,C.b,dx,_,rfl,by rw[aL U.symm];exact x2,T.fe,T.mC,by repeat' (first|decide|refine eW ?_),?_⟩;generalize I:upd (upd H2 ld (.lst [])) x (.ins C.b dx<|c8 "demands" (.ref ld)<|c8 "enemies" (.ref le)<|c8 "questions" (.ref lq) [])=H3;have k3:ay x H2 H3:=by subst I;exact(aq.new j).but.trans ay.upd
 have q3:=k3 _ _ M q2;have e3:=k3 _ _ S e2;have d3:H3 ld=some (.lst []):=by subst I;rw[aL U,ah]
 have x3:H3 x=some (.ins C.b dx<|c8 "demands" (.ref ld)<|c8 "enemies" (.ref le)<|c8 "questions" (.ref lq) []):=by subst I;exact ah
 symm;refine⟨x,C.b,dx,_,rfl,x3,T.fe,T.rW,by repeat' (first|decide|refine eW ?_),?_⟩;symm;refine⟨x,C.b,dx,_,rfl,ah,T.fe,T.CQ,by repeat' (first|decide|refine eW ?_),?_⟩;symm;refine⟨x,C.b,dx,_,rfl,ah,T.fe,T.vJ,by repeat' (first|decide|refine eW ?_),?_⟩;have fr:∀{W Hb:Hp}{b:Addr},ay x W Hb->b≠x->Hb b=none->W b=none:=λ{W Hb b} kb nb h=>by
  cases q:W b with
  |none=>rfl
  |some u=>rw[kb b u nb q]at h;cases h
 refine k _ lq le ld (((Y.trans Z).trans k3).trans<|hX<|hX ay.upd) J (fr Y S F) (fr (Y.trans Z) U j) ?_ ?_ ?_ ?_ ?_
 .simp[M.symm,S.symm,U.symm,n3.symm,n5.symm,n6.symm]
 .rw[aL M,aL M,aL M];exact q3
 .rw[aL S,aL S,aL S];exact e3
 .rw[aL U,aL U,aL U];exact d3
 .rw[ah];rfl
def Gf(h:xy o)(i:Nat):hostile o i i=false:=by unfold hostile;rw[Zb];intro e j;have:=(h.en e j).2.2;simp;lia
theorem Gg(hs:∀i j,en i j=en j i)(hi:∀i,en i i=false):∀l:AU,MA.calm en l=l.all λi=>l.all λj=>!en i j
 |[]=>rfl
 |x::r=>by
  rw[MA.calm,(Gg hs hi r)];simp only[B4,hi];rw[q7];simp only[p0,wy,Bool.not_false,F2,Mc];constructor
  .rintro⟨h1,h2⟩;exact⟨h1,λy z=>⟨by rw[hs];exact h1 y z,h2 y z⟩⟩
  .rintro⟨h1,h2⟩;exact⟨h1,λy z=>(h2 y z).2⟩
def calm_eq(h:xy o)(l:AU):MA.calm (hostile o) l=peaceful o l:=Gg (r6 o) (Gf h) l
theorem Ve{j:Type}(f g:j->Nat):∀l:List j,(l.map λx=>f x*g x).sum<=(l.map f).sum*(l.map g).sum
 |[]=>by simp
 |x::l=>by have z:=Ve f g l;simp;rw[Nat.add_mul,TK,TK];lia
theorem Gh(f g:Nat->Nat):∀l:AU,l.Nodup->((l.map f).sum*(l.map g).sum=(l.map λx=>f x*g x).sum↔∀i∈l,∀j∈l,i≠j->f i*g j=0)
 |[],_=>by simp
 |x::l,hn=>by
  rw[nM]at hn;have J:=Gh f g l hn.2;have le:=Ve f g l;simp only[ip,yI];rw[Nat.add_mul,TK,TK];have U:f x*(l.map g).sum=0↔∀j∈l,f x*g j=0:=by
   clear J le;induction l with
   |nil=>simp
   |cons y l J=>simp only[ip,yI,TK,Nat.add_eq_zero_iff];rw[J ⟨λz=>hn.1<|kB _ z,(nM.mp hn.2).2⟩];simp
  have Y:(l.map f).sum*g x=0↔∀j∈l,f j*g x=0:=by
   clear J le U;induction l with
   |nil=>simp
   |cons y l J=>simp only[ip,yI,Nat.add_mul,Nat.add_eq_zero_iff];rw[J ⟨λz=>hn.1<|kB _ z,(nM.mp hn.2).2⟩];simp
  constructor
  .intro h;have h1:f x*(l.map g).sum=0:=by lia
   have h2:(l.map f).sum*g x=0:=by lia
   have Z:(l.map f).sum*(l.map g).sum=(l.map λx=>f x*g x).sum:=by lia
   intro i hi j F I;rcases eH.mp hi with e|S
   .rcases eH.mp F with W|M
    .exact absurd (e.trans W.symm) I
    .rw[e];exact U.mp h1 j M
   .rcases eH.mp F with W|M
    .rw[W];exact Y.mp h2 i S
    .exact J.mp Z i S j M I
  .intro h;have h1:f x*(l.map g).sum=0:=U.mpr λj F=>h x lx j (kB _ F) λe=>hn.1<|e▸F;have h2:(l.map f).sum*g x=0:=Y.mpr λj F=>h j (kB _ F) x lx λe=>hn.1<|e▸F;have Z:=J.mpr λi hi j F I=>h i (kB _ hi) j (kB _ F) I;lia
def kD(o:Office)(s:Sel)(i:Nat):i6 s i (Vbxoab.itemAt o i)=fits o s i:=by cases s<;>rfl
def MT(o:Office)(w i:Nat)(h:w<=2):jN (lY w) (Vbxoab.itemAt o i)=amount o w i:=by
 have:w=0\/w=1\/w=2:=by lia
 rcases this with rfl|rfl|rfl<;>rfl
theorem Qx(p:Nat->Bool)(f:Nat->Nat):∀l:AU,(l.map λi=>if p i=true then f i else 0).sum=((l.filter p).map f).sum
 |[]=>rfl
 |x::l=>by rw[ip,yI,Qx p f l,F5];cases p x<;>simp
theorem Dc(p:Nat->Bool):∀l:AU,(0<(l.map λi=>if p i=true then 1 else 0).sum)↔l.any p=true
 |[]=>by simp
 |x::l=>by
  rw[ip,yI,Kh];cases h:p x with
  |true=>simp;lia
  |false=>simp only[Pd,LI,Vf,Bool.false_or];exact(Dc p l)
def l9(h:xy o)(hd:d∈o.plan)(Y:l.Nodup):fz o l d=Vbxoab.meets o l d:=by
 cases d with
 |range s w lo hi=>
  have Z:=h.pw _ hd s w lo hi rfl;unfold fz je Vbxoab.meets;have e:(l.map λi=>pW (.range s w lo hi) i<|Vbxoab.itemAt o i).sum=sumOf ((l.filter<|fits o s).map<|amount o w):=by
   rw[MA.lK,<-Qx]
   congr 1
   apply zD;intro i _;unfold pW;show(if i6 s i _=true then jN (lY w) _ else 0)=_;rw[kD,MT o w i Z]
  rw[e]
 |whenever a b=>
  unfold fz je Vbxoab.meets;have z:(l.map λi=>pW (.whenever a b) i<|Vbxoab.itemAt o i)=(l.map λi=>if fits o a i=true then 1 else 0):=by
   apply zD;intro i _;unfold pW;show(if i6 a i _=true then jN "if" _ else 0)=_;rw[kD]
   try rfl
  have F:(l.map λi=>vK (.whenever a b) i<|Vbxoab.itemAt o i)=(l.map λi=>if fits o b i=true then 1 else 0):=by apply zD;intro i _;show(if i6 b i _=true then 1 else 0)=_;rw[kD]
  rw[z,F];have p1:=Dc (fits o a) l;have p2:=Dc (fits o b) l;show(decide (_=0)||decide (0<_))=_;rw[q7];simp only[U0,Oa,Mc];rw[<-p2,<-Yq,<-p1];lia
 |apart a b=>
  unfold fz je Vbxoab.meets;have z:(l.map λi=>pW (.apart a b) i<|Vbxoab.itemAt o i)=(l.map λi=>if fits o a i=true then 1 else 0):=by
   apply zD;intro i _;unfold pW;show(if i6 a i _=true then jN "not" _ else 0)=_;rw[kD]
   try rfl
  have F:(l.map λi=>vK (.apart a b) i<|Vbxoab.itemAt o i)=(l.map λi=>if fits o b i=true then 1 else 0):=by apply zD;intro i _;show(if i6 b i _=true then 1 else 0)=_;rw[kD]
  have e3:(l.map λi=>FQ (.apart a b) i<|Vbxoab.itemAt o i)=(l.map λi=>(if fits o a i=true then 1 else 0)*(if fits o b i=true then 1 else 0)):=by
   apply zD;intro i _;show pW _ i _*vK _ i _=_;have h1:pW (.apart a b) i (Vbxoab.itemAt o i)=if fits o a i=true then 1 else 0:=by
    show(if i6 a i _=true then jN "not" _ else 0)=_;rw[kD]
    try rfl
   have h2:vK (.apart a b) i (Vbxoab.itemAt o i)=if fits o b i=true then 1 else 0:=by show(if i6 b i _=true then 1 else 0)=_;rw[kD]
   rw[h1,h2]
  rw[z,F,e3];show decide (_*_=_)=_;rw[q7,Oa,Gh _ _ l Y];simp only[Mc,Zb,p0,not_and,Yq];constructor
  .intro q i hi I j J M;cases S:fits o b j with
   |false=>rfl
   |true=>have:=q i hi j J (λe=>by simp[e]at M);rw[dt I,dt S]at this;cases this
  .intro q i hi j J U;by_cases W:fits o a i=true
   .have S:=q i hi W j J (by simpa using λe=>U e.symm);simp[W,S]
   .rw[c0 W,Nat.zero_mul]
def Bo(o:Office)(s:AU):Bool:=MA.calm (hostile o) s&&o.plan.all (fz o s)
def oy(o:Office):(Vbxoab.free o).Pairwise (· < ·):=by exact List.Pairwise.filter _ ao5
def Dd(h:i∈Vbxoab.free o):i<o.items.length:=F8.mp (tL.mp h).1
def mN(o:Office):(Vbxoab.free o).Nodup:=(oy o).imp λh=>nP h
def tZ(h:xy o):(allOf<|Vbxoab.free o).filter (Bo o)=Vbxoab.papers o:=by
 unfold Vbxoab.papers candidates;rw[apL];apply JW;intro s hs;have j:=(MA.gG _ s).mp hs;unfold Bo;rw[calm_eq h,Bool.and_comm]
 congr 1
 rw[q7,wy,wy];constructor
 .intro q d hd;rw[<-l9 h hd (j.nodup<|mN o)];exact q d hd
 .intro q d hd;rw[l9 h hd<|j.nodup<|mN o];exact q d hd
def oz(K:cn)(C:Cl):Sp:=λvs H Q _=>B_ λ(a:jo)(o:Office)=>vs=[.ref a.B]/\ae K C H a o/\(Vbxoab.free o).length<=12/\∀H' p,aq H H' ->H p=none->TL K H' p ((MA.subs<|Vbxoab.free o).filter<|Bo o)->Q (.ref p) H'
theorem mO{j z γ:Type}(f:j->z)(g:j->γ):∀l:List j,(l.map f).zip (l.map g)=l.map λx=>(f x,g x)
 |[]=>rfl
 |x::l=>by rw[ip,ip,F7,mO f g l];rfl
theorem uc{j z:Type}(f:j->z):∀l:List j,l.zip (l.map f)=l.map λx=>(x,f x)
 |[]=>rfl
 |x::l=>by rw[ip,F7,uc f l];rfl
abbrev gX:Ba:=["bank","candidates","good","demand","held","paper","is_good","so_far","now"]
def bu:aB gX ["bank"]<|ai<|top 67:=fj
def jF(T:Txt K mg C):Fn P w K mg base "good_in_any_order" 5 ["bank"]<|oz K C:=by
 refine T.pF.go bu ?_;rintro f dg A outer s H _ Q E hr⟨a,o,rfl,U,hf,k⟩;have W:(MA.subs<|Vbxoab.free o).length<=4096:=by rw[MA.eX];exact lp (ox (m:=12) hf) (by decide)
 have yM:=U.ld;have Ck:=mf U.d
 refine⟨_,(af (eC 1 bu.nd<|c6 (fw T) hr<|ab (pv 0) ag)
  (af (eC 2 bu.nd<|c6 (uP T) hr<|ab (pv 0)<|ab (pv 1) ag)
  (af (gm vu rfl (bj K<|bT K<|pv 0) (gu 3 bu.nd) (af (eC 4 bu.nd<|c6 (uQ T) hr<|ab (pv 0)<|ab (pv 1)<|ab (pv 3) ag)
  (ao<|gA (own:=[("so_far",7),("now",8)]) rfl bu.nd (i:=2) rfl rfl (iI rfl rfl rfl rfl) (oX K T.uG<|ab (pv 2)<|ab (pv 4) ag) (aU (N:=gX) (sc:=ai<|top 67)<|by decide+kernel) (λ_ _ _ _ _=>(gK (n:=2) K<|bY (gu 7 bu.nd)<|bY (gu 8 bu.nd) gH)) (λ_ _ _ _ _=>bR) λ_ _ _ _ _=>(NP (pv 7)<|Ho<|pv 8))))
  (ao<|au<|eM (own:=[("paper",5),("is_good",6)]) rfl bu.nd (oX K T.uG<|ab (c6 (xK T) hr<|ab (pv 1) ag)<|ab (pv 2) ag) (aU (N:=gX) (sc:=ai<|top 67)<|by decide+kernel) (λ_ _ _ _ _=>(gK (n:=2) K<|bY (gu 5 bu.nd)<|bY (gu 6 bu.nd) gH)) (λ_ _ _ _ _=>(jS<|bU<|pv 6)) λ_ _ _ _ _=>(pv 5))))),?_⟩
 refine aK (σ':=[some _,none,none,none,none,none,none,none,none]) rfl ?_;symm;refine⟨a,o,rfl,U,λH1 pc k1 W5 hC=>?_⟩;symm;refine⟨a,o,pc,_,rfl,k1.ae U,az.of hC,hf,λH2 pg k2 hpg hG=>?_⟩;have Y:=k1.trans k2;have M:=Y.ae U;have Z:=M.ld;symm;refine iG (K:=K) (a:=a.ld) (xs:=a.ds) (λi σ H'=>G_ λ(g:Addr)(v1 v2 v3 v4 v5 v6:Option V)=>σ=[some (.ref a.B),some (.ref pc),some (.ref g),v1,v2,v3,v4,v5,v6]/\aq H2 H'/\H' g=some (.lst<|((MA.subs<|Vbxoab.free o).map λs=>MA.calm (hostile o) s&&(o.plan.take i).all (fz o s)).map V.bl)) ⟨pg,none,none,none,none,none,none,rfl,aq.refl _,by simpa using hG⟩ (λi σ H' _⟨_,_,_,_,_,_,_,_,F,_⟩=>F.seq<|az.of Z) ?_ ?_
 .rintro i y σ H' hy⟨g,v1,v2,v3,v4,v5,v6,rfl,F,hg⟩;obtain⟨d,hd,hdm⟩:=Paired.at_ M.d hy;have FT:=F.ae M;symm;refine⟨a,o,pc,Vbxoab.free o,d,y,rfl,FT,az.of<|F _ _<|k2 _ _ hC,hf,λi hi=>Dd hi,F.iN hdm,λH3 ph k3 hph hH=>?_⟩;have hg3:=k3 _ _ hg;symm;refine LR (j1:=7) (j2:=8) _ _ (λb v=>v=V.bl b) (λb v=>v=V.bl b) (λx y=>some<|x&&y) (λb v _=>v=V.bl b) (az.of hg3) (az.of hH) (pmap _ _) (pmap _ _) (by simp only[ek];exact sz W) (λD hD j x y' v v' H4 acc Nx Ns hx DY sx sy S J n1 n2=>?_) (λ_ _=>rfl) λD ys H4 S hD I pr=>?_
  .subst sx sy;symm;cases x with
   |true=>symm;exact n1 _ rfl _ _ (aq.refl _) λ_ _=>rfl
   |false=>symm;exact n1 _ rfl _ _ (aq.refl _) λ_ _=>rfl
  .rw[bq pr,bX,mO]at I;symm;refine⟨D,_,_,_,_,_,_,rfl,(F.trans k3).trans S,?_⟩;rw[I,take_snoc hd];have e:((MA.subs<|Vbxoab.free o).map λs=>(MA.calm (hostile o) s&&(o.plan.take i).all (fz o s),fz o s d)).map (λp:Bool×Bool=>p.1&&p.2)=(MA.subs<|Vbxoab.free o).map λs=>MA.calm (hostile o) s&&(o.plan.take i++[d]).all (fz o s):=by rw[oW];apply zD;intro s _;simp only[Function.comp,Xr,B4,List.all_nil,PU,Bool.and_assoc]
   exact congrArg (λz=>some<|HO.lst<|z.map V.bl) e
 .rintro σ H'⟨g,v1,v2,v3,v4,v5,v6,rfl,F,hg⟩;rw[<-Ck,B7]at hg;have k3:=Y.trans F;symm;refine⟨pc,Vbxoab.free o,rfl,az.of<|F _ _<|k2 _ _ hC,hf,λH4 ps S hps hS=>?_⟩;obtain⟨as,hS1,hS2⟩:=hS;have hg4:=S _ _ hg;have ML:=mf hS2;symm;refine LR (j1:=5) (j2:=6) (MA.subs<|Vbxoab.free o) _ (λs v=>TV K s v H4) (λb v=>v=V.bl b) (λs b=>if b=true then some s else none) (λs v H=>TV K s v H) (az.of hS1) (az.of hg4) (mI hS2) (pmap _ _) (by rw[ek,ML];exact sz W) (λD hD j s b v v' H5 acc Nx Ns hs uZ ss sb k5 J n1 n2=>?_) (λ_ _=>rfl) λD ys H5 k5 hD I pr=>?_
  .subst sb;obtain⟨t,rfl,ht⟩:=ss;symm;cases b with
   |true=>symm;exact n1 _ rfl _ _ (aq.refl _) λH6 k6=>⟨t,rfl,k6.gh J<|k5.gh ht⟩
   |false=>exact n2 rfl _<|aq.refl _
  .rw[uc,aoO]at pr;obtain⟨as5,rfl,Yi⟩:=C5 pr;refine k H5 D ((k3.trans S).trans k5) ((k3.trans S).free hD) ⟨as5,I,?_⟩;have e:(MA.subs<|Vbxoab.free o).filter (Bo o)=(MA.subs<|Vbxoab.free o).filterMap ((λp:AU×Bool=>if p.2=true then some p.1 else none)∘λs=>(s,MA.calm (hostile o) s&&o.plan.all (fz o s))):=by rw[<-uD];rfl
   rw[e];exact Yi
def xP(K:cn)(C:Cl):Sp:=λvs H Q _=>B_ λ(a:jo)(o:Office)=>vs=[.ref a.B]/\ae K C H a o/\(Vbxoab.free o).length<=12/\∀H' p,aq H H' ->H p=none->TL K H' p (Vbxoab.papers o)->Q (.ref p) H'
abbrev zM:Ba:=["bank"]
def xQ:aB zM ["bank"]<|ai<|top 68:=fj
def gd(T:Txt K mg C):Fn P w K mg base "good_papers" 6 ["bank"]<|xP K C:=by refine T.zr.go xQ ?_;rintro f J A outer s H _ Q E z⟨a,o,rfl,F,M,k⟩;refine⟨_,(ao<|au<|c6 (uO T) z<|ab (c6 (jF T) z<|ab (pv 0) ag) ag),?_⟩;refine aK rfl ?_;symm;refine⟨a,o,rfl,F,M,λH1 S I U W=>?_⟩;symm;refine⟨S,_,rfl,W,λH2 p2 ls Y j Z hp hs=>?_⟩;have e:=MA.uq (oy o) hp hs;rw[tZ F.ok]at e;subst e;exact k H2 p2 (I.trans Y) (I.free j) Z
def Gi{κ:Type}{lt:κ->κ->Bool}(F:∀a,lt a a=false)(tr:∀a b c,lt a b=true->lt b c=true->lt a c=true)(es:List<|Addr×κ):
  match es.foldl (eV lt) none with|none=>es=[]|some b=>b∈es/\∀e∈es,lt e.2 b.2=false:=by
 refine MA.snocInd (P:=λes=>match es.foldl (eV lt) none with|none=>es=[]|some b=>b∈es/\∀e∈es,lt e.2 b.2=false) rfl (λl m I=>?_) es;rw[Ep];show match eV lt (l.foldl (eV lt) none) m with|none=>l++[m]=[]|some b=>b∈l++[m]/\∀e∈l++[m],lt e.2 b.2=false
 cases q:l.foldl (eV lt) none with
 |none=>rw[q]at I;subst I;exact⟨lx ..,λe j=>by rw[oI.mp j];exact F _⟩
 |some b=>
  rw[q]at I;obtain⟨h1,h2⟩:b∈l/\∀e∈l,lt e.2 b.2=false:=I;show(if lt m.2 b.2=true then m else b)∈l++[m]/\∀e∈l++[m],lt e.2 (if lt m.2 b.2=true then m else b).2=false;by_cases h:lt m.2 b.2=true
  .rw[dt h];refine⟨B9 _<|lx ..,λe j=>?_⟩;rcases ro.mp j with j|j
   .cases z:lt e.2 m.2 with
    |false=>rfl
    |true=>exact absurd (h2 e j) (by rw[tr _ _ _ z h];simp)
   .rw[oI.mp j];exact F _
  .rw[c0 h];refine⟨R5 _ h1,λe j=>?_⟩;rcases ro.mp j with j|j
   .exact h2 e j
   .rw[oI.mp j];simpa using h
def Jb{out ls:List AU}(hs:out.Pairwise MA.klt)(j:∀x,x∈out↔x∈ls)(h1:m∈ls)(h2:∀x∈ls,¬MA.klt x m):out.head?=some m:=by
 cases out with
 |nil=>exact absurd ((j m).mpr h1) (by simp)
 |cons y r=>
  rcases eH.mp ((j m).mpr h1)with e|e
  .rw[e];rfl
  .exact absurd ((apG.mp hs).1 m e)<|h2 y<|(j y).mp<|lx ..
def zN(h:xy o):(Vbxoab.papers o).Pairwise MA.klt:=by rw[<-tZ h];exact(MA.mj _<|oy o).filter _
def xS(h:xy o)(x:AU):x∈Vbxoab.papers o↔x∈(MA.subs<|Vbxoab.free o).filter (Bo o):=by rw[<-tZ h,tL,tL,MA.gG,MA.jx]
theorem K3{j z:Type}:∀{l:List j}{m:List z},l.length=m.length->(l.zip m).map (·.1)=l
 |[],[],_=>rfl
 |[],_::_,h=>by simp at h
 |_::_,[],h=>by simp at h
 |x::l,y::m,h=>by rw[F7,ip,K3<|by simpa using h]
def xT{z F:Type}{R:z->F->Prop}{l:List z}{m:List F}(h:Paired R l m):∀e∈l.zip m,R e.1 e.2/\e.2∈m:=by
 induction h with
 |nil=>intro e j;simp at j
 |cons r _ I=>
  intro e j;rw[F7]at j;rcases eH.mp j with rfl|j
  .exact⟨r,lx ..⟩
  .exact⟨(I e j).1,kB _ (I e j).2⟩
theorem Gj{I F:Type}:∀{l:List I}{m:List F}{y:F},l.length=m.length->y∈m->∃x,(x,y)∈l.zip m
 |[],[],_,_,h=>by cases h
 |[],_::_,_,h,_=>by simp at h
 |_::_,[],_,h,_=>by simp at h
 |x::l,z::m,y,h,j=>by
  rw[F7];rcases eH.mp j with e|j
  .exact⟨x,by rw[e];exact lx ..⟩
  .obtain⟨J,h'⟩:=Gj (by simpa using h) j;exact⟨J,kB _ h'⟩
def zO(K:cn)(C:Cl):Sp:=λvs H Q _=>B_ λ(a:jo)(o:Office)=>vs=[.ref a.B]/\ae K C H a o/\(Vbxoab.free o).length<=12/\∀H' v,aq H H' ->qO K H' (Vbxoab.papers o).head? v->Q v H'
abbrev De:Ba:=["bank"]
def zP:aB De ["bank"]<|ai<|top 69:=fj
def p9(T:Txt K mg C):Fn P w K mg base "first_good" 7 ["bank"]<|zO K C:=by
 refine T.CD.go zP ?_;rintro f dg A outer s H _ Q E hr⟨a,o,rfl,J,hf,k⟩;refine⟨_,(ao<|au<|S3 K (lh T) (uN) (hr.mono<|by decide) T.P1 (c6 (jF T) hr<|ab (pv 0) ag) (by rfl) (by rfl) (by rfl) (by rfl) (by decide) (by rfl) (by rfl) (by rfl)),?_⟩;refine aK rfl ?_;symm;refine⟨a,o,rfl,J,hf,λH1 p1 k1 sh hT=>?_⟩;obtain⟨j,hL,pr⟩:=hT;symm;generalize F:(MA.subs<|Vbxoab.free o).filter (Bo o)=ls at pr;have I:=mf pr;have ht:=KW pr;have hz:j.length=(ls.map iz).length:=by rw[ek];exact I
 have S:((j.zip<|ls.map iz).map λe=>V.ref e.1)=j.map V.ref:=by have:=congrArg (List.map V.ref)<|K3 hz;rw[oW]at this;exact this
 refine⟨p1,j.zip<|ls.map iz,rfl,by rw[S];exact az.of hL,λe he=>(xT ht e he).1,λH2 U=>?_⟩;have M:=Gi rQ (λa b c=>xc)<|j.zip<|ls.map iz;cases q:(j.zip<|ls.map iz).foldl (eV fu) none with
 |none=>
  rw[q]at M;have e0:ls=[]:=by
   cases ls with
   |nil=>rfl
   |cons l ls=>
    cases j with
    |nil=>simp at I
    |cons _ _=>simp at M
  have:(Vbxoab.papers o).head?=none:=by
   cases z:Vbxoab.papers o with
   |nil=>rfl
   |cons x _=>have:=(xS J.ok x).mp (by rw[z];exact lx ..);rw[F,e0]at this;cases this
  refine k H2 .eQ (k1.trans U) ?_;rw[this];rfl
 |some b=>
  rw[q]at M;obtain⟨W,Y⟩:b∈j.zip (ls.map iz)/\∀e∈j.zip (ls.map iz),fu e.2 b.2=false:=M;obtain⟨t1,t2⟩:=xT ht b W;obtain⟨m,hm,em⟩:=n8.mp t2;have hd:(Vbxoab.papers o).head?=some m:=by refine Jb (zN J.ok) (λx=>by rw[xS J.ok,F]) hm λx hx hk=>?_;obtain⟨ax,Z⟩:=Gj hz<|n8.mpr ⟨x,hx,rfl⟩;have:=Y _ Z;rw[<-em]at this;rw[(KS x m).mpr hk]at this;cases this
  refine k H2 _ (k1.trans U) ?_;rw[hd];refine⟨b.1,rfl,U.gh ?_⟩;rw[<-lj,em];exact t1
def MU(K:cn)(C:Cl):Sp:=λvs H Q _=>C_ λ(n:Nat)(p:Addr)(ls:List AU)=>vs=[nv n,.ref p]/\TL K H p ls/\ls.length<=100000/\rB (ls.all λl=>l.contains n) H Q
def K4(n:Nat)(l:AU):VY (nv n) (fm l)=l.contains n:=by
 induction l with
 |nil=>rfl
 |cons x l z=>
  unfold VY at z|-;rw[fm,ip,Kh];have j:=z;rw[j,List.contains_cons]
  congr 1
  show decide ((x:Int)=(n:Int))=_;rw[q7];simp;lia
def Gk(l:AU):(fm l).all kP=true:=by rw[Kf,wy];intro x _;rfl
abbrev Gm:Ba:=["number","papers","paper"]
def ud:aB Gm ["number","papers"]<|ai<|top 73:=fj
def MV(T:Txt K mg C):Fn P w K mg base "in_all" 1 ["number","papers"]<|MU K C:=by
 refine T.P5.go ud ?_;rintro f M A outer s H _ Q E hr⟨n,p,ls,rfl,S,U,k⟩;obtain⟨as,W,pr⟩:=S;refine⟨_,(ao<|au<|aE (Cd K) rfl T.km wV<|ab (eM (own:=[("paper",2)]) rfl ud.nd (bj K<|pv 1) (aU (N:=Gm) (sc:=ai<|top 73)<|by decide+kernel) (λ_ _ _ _ _=>(gu 2 ud.nd)) (λ_ _ _ _ _=>bR) λ_ _ _ _ _=>(gJ (RF K) (pv 0) (pv 2)<|by with_unfolding_all rfl)) ag),?_⟩;refine aK (σ':=[some _,some _,none]) rfl ?_;symm;refine ic (j:=2) ls (λl v=>TV K l v H) (λl=>some<|l.contains n) (λb v _=>v=V.bl b) (az.of W) (mI pr) (by rw[ek,mf pr];exact sz U) (λD Y j l v H3 acc Nx Ns he Z F J n1 n2=>?_) (λ_=>rfl) λD ys H3 F Y z I=>?_
 .obtain⟨t,rfl,ht⟩:=Z;symm;refine⟨t,fm l,rfl,.inr<|F.gh ht,rfl,Gk l,?_⟩;exact n1 _ rfl _ _ (aq.refl _) λ_ _=>by simp only[Pd,LI];rw[K4]
 .rw[bq I,bX]at z;symm;refine km (az.of z) ?_;rw[Kf];exact k H3 F
def Jc(K:cn)(C:Cl):Sp:=λvs H Q _=>C_ λ(n:Nat)(p:Addr)(ls:List AU)=>vs=[nv n,.ref p]/\TL K H p ls/\ls.length<=100000/\rB (ls.all λl=>!l.contains n) H Q
abbrev Bp:Ba:=["number","papers","paper"]
def qP:aB Bp ["number","papers"]<|ai<|top 74:=fj
def Jd(T:Txt K mg C):Fn P w K mg base "in_none" 1 ["number","papers"]<|Jc K C:=by
 refine T.Mz.go qP ?_;rintro f M A outer s H _ Q E hr⟨n,p,ls,rfl,S,U,k⟩;obtain⟨as,W,pr⟩:=S;refine⟨_,(ao<|au<|Vy<|aE (ZP K) rfl T.ET UP<|ab (eM (own:=[("paper",2)]) rfl qP.nd (bj K<|pv 1) (aU (N:=Bp) (sc:=ai<|top 74)<|by decide+kernel) (λ_ _ _ _ _=>(gu 2 qP.nd)) (λ_ _ _ _ _=>bR) λ_ _ _ _ _=>(gJ (RF K) (pv 0) (pv 2)<|by with_unfolding_all rfl)) ag),?_⟩;refine aK (σ':=[some _,some _,none]) rfl ?_;symm;refine ic (j:=2) ls (λl v=>TV K l v H) (λl=>some<|l.contains n) (λb v _=>v=V.bl b) (az.of W) (mI pr) (by rw[ek,mf pr];exact sz U) (λD Y j l v H3 acc Nx Ns he Z F J n1 n2=>?_) (λ_=>rfl) λD ys H3 F Y z I=>?_
 .obtain⟨t,rfl,ht⟩:=Z;symm;refine⟨t,fm l,rfl,.inr<|F.gh ht,rfl,Gk l,?_⟩;exact n1 _ rfl _ _ (aq.refl _) λ_ _=>by simp only[Pd,LI];rw[K4]
 .rw[bq I,bX]at z;symm;refine ET (az.of z) ?_;symm;rw[TJ,List.not_any_eq_all_not];exact k H3 F
theorem sq:∀(ks ns:Bc),ks.Nodup->ns.Nodup->(ks.foldl fc ns).length=(ks.filter λk=>!ns.contains k).length+(ns.filter λn=>!ks.contains n).length
 |[],ns,_,_=>by have:(ns.filter λn=>!([]:Bc).contains n)=ns:=List.filter_eq_self.mpr λ_ _=>rfl;rw[this];simp
 |k::ks,ns,hk,hn=>by
  rw[nM]at hk;rw[Hr,sq ks (fc ns k) hk.2<|mz hn];unfold fc;by_cases h:k∈ns
  .rw[dt h];have F:(ks.filter λx=>!(ns.erase k).contains x)=ks.filter λx=>!ns.contains x:=by
    apply JW;intro x z;have j:x≠k:=λe=>hk.1<|e▸z;have:(ns.erase k).contains x=ns.contains x:=by rw[q7];simp[List.mem_erase_of_ne j]
    rw[this]
   have I:((k::ks).filter λx=>!ns.contains x)=ks.filter λx=>!ns.contains x:=by rw[F5];simp[h]
   have J:((ns.erase k).filter λn=>!ks.contains n)=ns.filter λn=>!(k::ks).contains n:=by
    rw[List.Nodup.erase_eq_filter hn,apL];apply JW;intro x _;rw[q7];simp;constructor
    .rintro⟨a,b⟩;exact⟨b,a⟩
    .rintro⟨a,b⟩;exact⟨b,a⟩
   rw[F,I,J]
  .rw[c0 h];have F:(ks.filter λx=>!(ns++[k]).contains x)=ks.filter λx=>!ns.contains x:=by
    apply JW;intro x z;have j:x≠k:=λe=>hk.1<|e▸z;have:(ns++[k]).contains x=ns.contains x:=by rw[q7];simp[j]
    rw[this]
   have I:((k::ks).filter λx=>!ns.contains x).length=(ks.filter λx=>!ns.contains x).length+1:=by rw[F5];simp[h]
   have J:((ns++[k]).filter λn=>!ks.contains n).length=(ns.filter λn=>!ks.contains n).length+1:=by
    rw[Zp,mu];have:([k].filter λn=>!ks.contains n)=[k]:=by simp[hk.1]
    rw[this];rfl
   have M:(ns.filter λn=>!(k::ks).contains n)=ns.filter λn=>!ks.contains n:=by
    apply JW;intro x z;have j:x≠k:=λe=>h<|e▸z;rw[List.contains_cons];have:(x==k)=false:=by simpa using j
    rw[this,Bool.false_or]
   rw[F,I,J,M];lia
def ma(h:l.Nodup):(iz l).Nodup:=by rw[List.Nodup,apW];exact h.imp λj e=>j (by lia)
def su(l:AU)(n:Nat):(iz l).contains (n:Int)=l.contains n:=by
 rw[q7];simp[iz];constructor
 .rintro⟨a,h1,h2⟩;have:a=n:=by lia
  exact this▸h1
 .intro h;exact⟨n,h,rfl⟩
def Qy(z:l.Nodup)(F:m.Nodup){ks:Bc}(j:ks.Perm<|iz l):(ks.foldl fc<|iz m).length=apartness m l:=by
 rw[sq ks (iz m) (j.nodup_iff.mpr<|ma z)<|ma F];unfold apartness;have I:(ks.filter λk=>!(iz m).contains k).length=(l.filter λi=>!m.contains i).length:=by
  rw[(j.filter _).length_eq,iz,Xc,ek]
  congr 1
  apply JW;intro x _;show(!(iz m).contains (x:Int))=_;rw[su]
 have J:((iz m).filter λn=>!ks.contains n).length=(m.filter λi=>!l.contains i).length:=by
  rw[iz,Xc,ek]
  congr 1
  apply JW;intro x _;show(!ks.contains (x:Int))=_
  congr 1
  rw[<-su];rw[q7];simp only[Wc];exact j.mem_iff
 rw[I,J];lia
def MW(h:∀i∈l,i<20):Small<|iz l:=by intro k hk;obtain⟨i,hi,rfl⟩:=n8.mp hk;have:=h i hi;lia
def Qz(K:cn)(C:Cl):Sp:=λvs H Q _=>D_ λ(p q:Addr)(l m:AU)=>vs=[.ref p,.ref q]/\ee K H p (fm l)/\az K H q (fm m)/\l.Nodup/\m.Nodup/\l.length<=20/\m.length<=20/\(∀i∈m,i<20)/\rN (apartness m l) H Q
abbrev TF:Ba:=["one","other"]
def QA:aB TF ["one","other"]<|ai<|top 75:=fj
def Gn(T:Txt K mg C):Fn P w K mg base "apart" 1 ["one","other"]<|Qz K C:=by
 refine T.Tn.go QA ?_;rintro f dg A outer s H _ Q E hr⟨p,q,l,m,rfl,hp,hq,Y,J,F,I,hs,k⟩;refine⟨_,(ao<|au<|aE S9 rfl T.aD eE<|ab (br Mn (fJ (Kz K) rfl T.di UR<|ab (pv 0) ag)<|fJ (Kz K) rfl T.di UR<|ab (pv 1) ag) ag),?_⟩;refine aK rfl ?_;symm;refine⟨p,iz l,rfl,.inr<|by rw[lj];exact hp,ma Y,by rw[jt];exact F,λj M=>?_⟩;have Z:aq H<|upd H j<|qx P w j<|iz l:=aq.new M;symm;refine⟨q,iz m,rfl,.inl<|by rw[lj];exact Z.seq hq,ma J,by rw[jt];exact I,λz S=>?_⟩;have k2:aq (upd H j<|qx P w j<|iz l)<|upd (upd H j<|qx P w j<|iz l) z<|qx P w z<|iz m:=aq.new S;refine⟨j,z,iz l,iz m,rfl,rfl,k2 _ _ ah,ah,by rw[jt];exact I,by rw[jt];exact F,MW hs,ma J,λU ks W hk=>?_⟩;have k3:aq (upd (upd H j<|qx P w j<|iz l) z<|qx P w z<|iz m)<|upd (upd (upd H j<|qx P w j<|iz l) z<|qx P w z<|iz m) U<|qx P w U<|ks.foldl fc<|iz m:=aq.new W;have e:=Qy Y J hk;symm;refine⟨U,_,rfl,ah,?_,?_⟩
 .rw[e];unfold apartness;have:=B1 (λi=>!(l.contains i)) m;have:=B1 (λi=>!(m.contains i)) l;lia
 .rw[e];exact k _<|(Z.trans k2).trans k3
def QB(q:to σ H λo H1=>j σ H1 λi H2=>t o i v H2 λH3=>z σ H3):Y1 to j t v σ H z:=q
def zQ(o:Office)(n:Nat)(s:AU):Nat:=MA.eJ (λd=>(o.plan[d]?).any<|fz o s) n
def kL(o:Office):AU:=((MA.subs<|Vbxoab.free o).filter<|MA.calm<|hostile o).map<|zQ o o.plan.length
def vi(K:cn)(C:Cl):Sp:=λvs H Q _=>B_ λ(a:jo)(o:Office)=>vs=[.ref a.B]/\ae K C H a o/\(Vbxoab.free o).length<=12/\rL (fm<|kL o) H Q
theorem QC{j z γ:Type}(f:j->z)(p:j->Bool):∀l:List j,((l.map f).zip<|l.map p).filterMap (λx=>if x.2=true then some x.1 else none)=(l.filter p).map f
 |[]=>rfl
 |x::l=>by rw[ip,ip,F7,EA,QC (γ:=γ) f p l,F5];cases p x<;>rfl
abbrev iS:Ba:=["bank","candidates","peace","met","place","demand","held","calm","bits","now"]
def bO:aB iS ["bank"]<|ai<|top 70:=fj
def vj(T:Txt K mg C):Fn P w K mg base "met_together" 5 ["bank"]<|vi K C:=by
 refine T.xq.go bO ?_;rintro f dg A outer s H _ Q E hr⟨a,o,rfl,Z,hf,k⟩;have M:(MA.subs<|Vbxoab.free o).length<=4096:=by rw[MA.eX];exact lp (ox (m:=12) hf) (by decide)
 have Ck:=mf Z.d
 refine⟨_,(af (eC 1 bO.nd<|c6 (fw T) hr<|ab (pv 0) ag)
  (af (eC 2 bO.nd<|c6 (uP T) hr<|ab (pv 0)<|ab (pv 1) ag)
  (af (gA (own:=[("calm",7)]) rfl bO.nd (i:=3) rfl rfl (iI rfl rfl rfl rfl) (bj K<|pv 2) (aU (N:=iS) (sc:=ai<|top 70)<|by decide+kernel) (λ_ _ _ _ _=>(gu 7 bO.nd)) (λ_ _ _ _ _=>bR) λ_ _ _ _ _=>aw)
  (af (gm vu rfl (rJ K T.jD<|ab (bT K<|pv 0) ag) (gK (n:=2) K<|bY (gu 4 bO.nd)<|bY (gu 5 bO.nd) gH) (af (eC 6 bO.nd<|c6 (uQ T) hr<|ab (pv 0)<|ab (pv 1)<|ab (pv 5) ag)
  (ao<|gA (own:=[("bits",8),("now",9)]) rfl bO.nd (i:=3) rfl rfl (iI rfl rfl rfl rfl) (oX K T.uG<|ab (pv 3)<|ab (pv 6) ag) (aU (N:=iS) (sc:=ai<|top 70)<|by decide+kernel) (λ_ _ _ _ _=>(gK (n:=2) K<|bY (gu 8 bO.nd)<|bY (gu 9 bO.nd) gH)) (λ_ _ _ _ _=>bR) λ_ _ _ _ _=>(lM (bU<|pv 9) (br JP (pv 8)<|br sW aw<|pv 4)<|pv 8))))
  (ao<|au<|eM (own:=[("bits",8),("calm",7)]) rfl bO.nd (oX K T.uG<|ab (pv 3)<|ab (pv 2) ag) (aU (N:=iS) (sc:=ai<|top 70)<|by decide+kernel) (λ_ _ _ _ _=>(gK (n:=2) K<|bY (gu 8 bO.nd)<|bY (gu 7 bO.nd) gH)) (λ_ _ _ _ _=>(jS<|bU<|pv 7)) λ_ _ _ _ _=>(pv 8)))))),?_⟩
 refine aK (σ':=[some _,none,none,none,none,none,none,none,none,none]) rfl ?_;symm;refine⟨a,o,rfl,Z,λH1 pc k1 W5 hC=>?_⟩;symm;refine⟨a,o,pc,_,rfl,k1.ae Z,az.of hC,hf,λH2 pg k2 hpg hG=>?_⟩;symm;refine ic (j:=7) _ (λb v=>v=V.bl b) (λb=>some 0) (λn v _=>v=nv n) (az.of hG) (pmap _ _) (by simp only[ek];exact sz M) (λD hD j b v H4 acc Nx Ns hx sx k4 J Y n2=>?_) (λ_=>rfl) λpm ys H3 k3 TH hM pr=>?_
 .symm;exact Y _ rfl _ _ (aq.refl _) λ_ _=>rfl
 rw[bq pr,bX,oW]at hM;have hM0:H3 pm=some (.lst<|fm<|(MA.subs<|Vbxoab.free o).map<|zQ o 0):=by rw[hM,oW,fm,oW];rfl
 clear hM pr;have S:=(k1.trans k2).trans k3;have U:=S.ae Z;have aeL:=U.ld;symm;refine US (K:=K) (a:=a.ld) (xs:=a.ds) (λi σ H'=>G_ λ(m:Addr)(v4 v5 v6 v7 v8 v9:Option V)=>σ=[some (.ref a.B),some (.ref pc),some (.ref pg),some (.ref m),v4,v5,v6,v7,v8,v9]/\aq H3 H'/\H' m=some (.lst<|fm<|(MA.subs<|Vbxoab.free o).map<|zQ o i)) ⟨pm,none,none,none,none,none,none,rfl,aq.refl _,hM0⟩ (λi σ H' _⟨_,_,_,_,_,_,_,_,F,_⟩=>F.seq<|az.of aeL) ?_ ?_
 .rintro i y σ H' T1 hy⟨m,v4,v5,v6,v7,v8,v9,rfl,F,W⟩ hT;obtain⟨d,hd,hdm⟩:=Paired.at_ U.d hy;have Ng:i<o.plan.length:=(l4.mp hd).1;have kT:aq H'<|upd H' T1 (.tup [.int (i:Int),y]):=aq.new hT;have F:=F.trans kT;have W:=kT _ _ W;generalize upd H' T1 (.tup [.int (i:Int),y])=H4 at F W;have Rr:=F.ae U;symm;refine⟨a,o,pc,Vbxoab.free o,d,y,rfl,Rr,az.of<|F _ _<|k3 _ _<|k2 _ _ hC,hf,λi hi=>Dd hi,F.iN hdm,λH5 ph k5 hph hH=>?_⟩;have hm5:=k5 _ _ W;symm;refine LR (j1:=8) (j2:=9) _ _ (λn v=>v=nv n) (λb v=>v=V.bl b) (λn b=>some<|if b=true then n|||1<<<i else n) (λn v _=>v=nv n) (az.of hm5) (az.of hH) (pmap _ _) (pmap _ _) (by simp only[ek];exact sz M) (λD hD j x y' v v' H6 acc Nx Ns hx DY sx sy k6 J Y n2=>?_) (λ_ _=>rfl) λD ys H6 k6 hD I pr=>?_
  .subst sx sy;symm;have:=Z.ok.pl;cases y' with
   |true=>symm;refine Hh ⟨by lia,by lia,by decide⟩ ?_;symm;rw[vL,C6];exact Y _ rfl _ _ (aq.refl _) λ_ _=>rfl
   |false=>symm;exact Y _ rfl _ _ (aq.refl _) λ_ _=>rfl
  .rw[bq pr,bX,mO]at I;symm;refine⟨D,_,_,_,_,_,_,rfl,(F.trans k5).trans k6,?_⟩;rw[I];have e:(((MA.subs<|Vbxoab.free o).map λs=>(zQ o i s,fz o s d)).map λp:Nat×Bool=>if p.2=true then p.1|||1<<<i else p.1)=(MA.subs<|Vbxoab.free o).map (zQ o<|i+1):=by rw[oW];apply zD;intro s _;show(if fz o s d=true then zQ o i s|||1<<<i else zQ o i s)=zQ o (i+1) s;unfold zQ;rw[MA.eJ,hd];rfl
   exact congrArg (λz=>some<|HO.lst<|fm z) e
 .rintro σ H'⟨m,v4,v5,v6,v7,v8,v9,rfl,F,W⟩;rw[<-Ck]at W;have hG':=F _ _<|k3 _ _ hG;symm;refine LR (j1:=8) (j2:=7) _ _ (λn v=>v=nv n) (λb v=>v=V.bl b) (λn b=>if b=true then some n else none) (λn v _=>v=nv n) (az.of W) (az.of hG') (pmap _ _) (pmap _ _) (by simp only[ek];exact sz M) (λD hD j x y' v v' H6 acc Nx Ns hx DY sx sy k6 J Y n2=>?_) (λ_ _=>rfl) λD ys H6 k6 hD I pr=>?_
  .subst sx sy;symm;cases y' with
   |true=>symm;exact Y _ rfl _ _ (aq.refl _) λ_ _=>rfl
   |false=>exact n2 rfl _<|aq.refl _
  .rw[bq pr,QC (γ:=Nat)]at I;exact k _ _ ((S.trans F).trans k6) ((S.trans F).free hD) I
def Gp(K:cn)(C:Cl):Sp:=λvs H Q _=>B_ λ(a:jo)(o:Office)=>vs=[.ref a.B]/\ae K C H a o/\(Vbxoab.free o).length<=12/\rL ((MA.ik o.plan.length<|kL o).map V.bl) H Q
def K5(h:i<n):RX n (i:Int)=some i:=by unfold RX;rw[dt<|by lia,dt<|by lia,t5]
def vM(h:m∈kL o):m<2^o.plan.length:=by obtain⟨s,_,rfl⟩:=n8.mp h;exact MA.Ld _ _
def K6(n:Nat):(1:Int)*(2:Int)^((n:Int).toNat)=((2^n:Nat):Int):=by rw[t5];simp
abbrev Je:Ba:=["bank","size","can","bits","place","bit"]
def gE:aB Je ["bank"]<|ai<|top 71:=fj
def Gq(T:Txt K mg C):Fn P w K mg base "meetable" 6 ["bank"]<|Gp K C:=by
 refine T.IB.go gE ?_;rintro f dg A outer s H _ Q E hr⟨a,o,rfl,hb,hf,k⟩;have yM:=hb.ld;have Ck:=mf hb.d;have jc:=hb.ok.pl;have U:2^o.plan.length<=1024:=lp (ox (m:=10) jc) (by decide)
 refine⟨_,(af (eC 1 gE.nd<|aE (gQ K) rfl T.aD eE<|ab (bT K<|pv 0) ag)
  (af (eC 2 gE.nd<|br V0 (aO<|ab kO ag)<|br sW aw<|pv 1)
  (af (gm vu rfl (bj K<|c6 (vj T) hr<|ab (pv 0) ag) (gu 3 gE.nd)<|ao<|NT kO<|NS (pv 2) (pv 3) set_list)
  (af (gm vu rfl (ja rfl T.jU<|ab (pv 1) ag) (gu 4 gE.nd) (af (eC 5 gE.nd<|br sW aw<|pv 4)
  (ao<|gm vu rfl (ja rfl T.jU<|ab (br sW aw<|pv 1) ag) (gu 3 gE.nd)<|ao<|bh (bU<|bp (aN K) (pv 2) (br JP (pv 3)<|pv 5) λ_ _=>rfl) (ao<|NT kO<|NS (pv 2) (pv 3) set_list) aF)))
  (ao<|au<|pv 2))))),?_⟩
 refine aK (σ':=[some _,none,none,none,none,none]) rfl ?_;symm;rw[<-Ck];intro p1 sh;symm;refine Hh ⟨by lia,by lia,by decide⟩ ?_;rw[K6];refine⟨p1,_,_,rfl,rfl,ah,Int.le_trans (by decide:-(2^63:Int)<=0)<|Int.natCast_nonneg _,Int.lt_of_le_of_lt (Int.ofNat_le.mpr U)<|by decide,?_,λI hcn=>?_⟩
 .simp only[kA,wh,t5];exact sz (m:=1024) (by lia)
 have k1:aq H<|upd H p1 (.lst [.bl false]):=aq.new sh;have k2:=k1.trans<|aq.new (o:=.lst (List.replicate ((2^o.plan.length:Nat):Int).toNat [V.bl false]).flatten) hcn;have W:H I=none:=k1.free hcn;have hc:(upd (upd H p1 (.lst [.bl false])) I (.lst (List.replicate ((2^o.plan.length:Nat):Int).toNat [V.bl false]).flatten)) I=some (.lst<|(List.replicate (2^o.plan.length) false).map V.bl):=by
  rw[ah,t5]
  congr 2
  generalize 2^o.plan.length=n;induction n with
  |zero=>rfl
  |succ n ih=>rw[Mg,Mg,UG,ih];rfl
 generalize upd (upd H p1 (.lst [.bl false])) I (.lst (List.replicate ((2^o.plan.length:Nat):Int).toNat [V.bl false]).flatten)=H1 at k2 hc;symm;refine⟨a,o,rfl,k2.ae hb,hf,λH2 pm k3 TH hM=>?_⟩;have Rh:=k3 _ _ hc;have k23:=k2.trans k3;have nmc:pm≠I:=λz=>by rw[z,hc]at TH;cases TH
 have ajp:az K H2 pm<|fm<|kL o:=az.of hM;symm;refine iG (K:=K) (a:=pm) (xs:=fm<|kL o) (λi σ H'=>C_ λ(S Y Z:Option V)=>σ=[some (.ref a.B),some<|nv o.plan.length,some (.ref I),S,Y,Z]/\ay I H2 H'/\H' I=some (.lst<|((kL o).take i|>.foldl (λc b=>c.set b true) (List.replicate (2^o.plan.length) false)).map V.bl)) ⟨none,none,none,rfl,λ_ _ _ h=>h,Rh⟩ (λi σ H' _⟨_,_,_,_,M,_⟩=>az.of<|M _ _ nmc hM) ?_ ?_
 .rintro i y σ H' hy⟨S,Y,Z,rfl,M,F⟩;obtain⟨b,vF,rfl⟩:=jr hy;have aeM:=vM<|oA vF;have J:=(MA.vY ((kL o).take i) (List.replicate (2^o.plan.length) false) λm hm=>by rw[VI];exact vM<|apt hm).1;rw[VI]at J;symm;refine QB ?_;symm;refine⟨I,_,_,b,rfl,rfl,F,K5<|by rw[ek,J];exact aeM,?_⟩;refine⟨_,_,_,rfl,M.trans ay.upd,?_⟩;rw[ah,take_snoc vF,Ep];show _=some (HO.lst<|(List.set _ b true).map V.bl);rw[List.map_set]
 .rintro σ H'⟨S,Y,Z,rfl,M,F⟩;rw[ek,B7]at F;have F:H' I=some (.lst<|(MA.passes (MA.marks o.plan.length<|kL o) 0).map V.bl):=F;have HE:(MA.marks o.plan.length<|kL o).length=2^o.plan.length:=(MA.vZ λm hm=>vM hm).1;generalize Yr:MA.marks o.plan.length (kL o)=MK at F HE;symm;refine wW (by lia) ?_;refine j4 (λi σ H'=>C_ λ(S Y Z:Option V)=>σ=[some (.ref a.B),some<|nv o.plan.length,some (.ref I),S,Y,Z]/\ay I H2 H'/\H' I=some (.lst<|(MA.passes MK i).map V.bl)) ⟨S,Y,Z,rfl,M,F⟩ ?_ ?_
  .rintro i σ H5 hi⟨S,Y,Z,rfl,M,F⟩;rw[SF];symm;refine Hh ⟨by lia,by lia,by decide⟩ ?_;symm;refine Hh ⟨by lia,by lia,by decide⟩ ?_;have es:(1:Int)*(2:Int)^((o.plan.length:Int).toNat)=((2^o.plan.length:Nat):Int):=K6 _;rw[es,vL i];symm;refine wW (apK U<|by decide) ?_;refine j4 (λj σ H'=>∃(S:Option V),σ=[some (.ref a.B),some<|nv o.plan.length,some (.ref I),S,some<|nv i,some<|nv<|1<<<i]/\ay I H2 H'/\H' I=some (.lst<|(MA.iA (1<<<i) (MA.passes MK i) j).map V.bl)) ⟨S,rfl,M,F⟩ ?_ ?_
   .rintro j σ H6 hj⟨S,rfl,M,F⟩;have J:(MA.iA (1<<<i) (MA.passes MK i) j).length=2^o.plan.length:=by rw[MA.iB,MA.jl,HE]
    have hor:j|||1<<<i<2^o.plan.length:=Nat.or_lt_two_pow hj (by rw[Sm,TN];exact Nat.pow_lt_pow_right (by decide) hi);rw[SF];symm;rw[C6];have hgd:(MA.iA (1<<<i) (MA.passes MK i) j)[j|||1<<<i]?=some ((MA.iA (1<<<i) (MA.passes MK i) j).getD (j|||1<<<i) false):=by rw[F4,gs<|by rw[J];exact hor];rfl
    refine cT (az.of F) (aP<|by rw[mq,hgd];rfl) ?_;symm;refine jT (λh=>?_) λh=>?_
    .symm;refine QB ?_;symm;refine⟨I,_,_,j,rfl,rfl,F,K5<|by rw[ek,J];exact hj,?_⟩;refine⟨_,rfl,M.trans ay.upd,?_⟩;rw[ah,MA.iA,dt h,List.map_set]
    .symm;refine⟨_,rfl,M,?_⟩;rw[MA.iA,c0 h];exact F
   .rintro σ H6⟨S,rfl,M,F⟩;refine⟨_,_,_,rfl,M,?_⟩;rw[MA.passes,HE];exact F
  .rintro σ H5⟨S,Y,Z,rfl,M,F⟩;symm;subst Yr;refine k H5 I (λb u hbu=>M b u (aX hbu W)<|k23 b u hbu) W F
def qR(K:cn)(C:Cl):Sp:=λvs H Q _=>B_ λ(a:jo)(o:Office)=>vs=[.ref a.B]/\ae K C H a o/\(Vbxoab.free o).length<=12/\∀H' v,aq H H' ->qO K H' (Vbxoab.clash o) v->Q v H'
def Df(h:l.Pairwise (· < ·))(p:AU->Bool):((MA.subs l).filter p).Perm<|(allOf l).filter p:=by
 have nd:l.Nodup:=h.imp λq e=>by lia
 have j:(allOf l).Nodup:=(MA.mj l h).imp λ{a b} q e=>by subst e;exact MA.JF _ q
 refine(apU ((MA.vQ l nd).filter _)<|j.filter _).mpr λx=>?_;rw[tL,tL,MA.jx,MA.gG]
def QD{l m:AU}(h:∀x,x∈l↔x∈m)(p:Nat->Bool):l.any p=m.any p:=by
 rw[q7,Kc,Kc];constructor
 .rintro⟨x,h1,h2⟩;exact⟨x,(h x).mp h1,h2⟩
 .rintro⟨x,h1,h2⟩;exact⟨x,(h x).mpr h1,h2⟩
theorem sA:∀n,(∀i,i<n->p i=q i)->MA.eJ p n=MA.eJ q n
 |0,_=>rfl
 |n+1,h=>by rw[MA.eJ,MA.eJ,sA n λi hi=>h i<|by lia,h n<|by lia]
def QE(h:xy o)(x:Nat):x∈kL o↔x∈(candidates o).map λp=>MA.eJ (λd=>(o.plan[d]?).any<|Vbxoab.meets o p) o.plan.length:=by
 unfold kL candidates;rw[n8,n8];have e:∀s:AU,s.Sublist (Vbxoab.free o)->zQ o o.plan.length s=MA.eJ (λd=>(o.plan[d]?).any<|Vbxoab.meets o s) o.plan.length:=by intro s hs;refine sA _ λi hi=>?_;rw[(gs hi)];exact l9 h (Ka hi)<|hs.nodup<|mN o
 constructor
 .rintro⟨s,hs,rfl⟩;obtain⟨h1,h2⟩:=tL.mp hs;have h1:=(MA.jx _ s).mp h1;exact⟨s,tL.mpr ⟨(MA.gG _ s).mpr h1,by rw[<-calm_eq h];exact h2⟩,(e s h1).symm⟩
 .rintro⟨s,hs,rfl⟩;obtain⟨h1,h2⟩:=tL.mp hs;have h1:=(MA.gG _ s).mp h1;exact⟨s,tL.mpr ⟨(MA.jx _ s).mpr h1,by rw[calm_eq h];exact h2⟩,e s h1⟩
abbrev lr:Ba:=["bank","numbers","clashing","chosen","can"]
def fh:aB lr ["bank"]<|ai<|top 72:=fj
def qU(T:Txt K mg C):Fn P w K mg base "fewest_clashing" 7 ["bank"]<|qR K C:=by
 refine T.rV.go fh ?_;rintro f dg A outer s H _ Q E Z⟨a,o,rfl,I,hf,k⟩;have yM:=I.ld;have Ck:=mf I.d;have jc:=I.ok.pl;have J:2^o.plan.length<=1024:=lp (ox (m:=10) jc) (by decide)
 refine⟨_,(af (eC 1 fh.nd<|Cg T.qA T.jU<|ab (aE (gQ K) rfl T.aD eE<|ab (bT K<|pv 0) ag) ag)
  (af (gA (own:=[("chosen",3),("can",4)]) rfl fh.nd (i:=2) rfl rfl (iI rfl rfl rfl rfl) (oX K T.uG<|ab (c6 (xK T) Z<|ab (pv 1) ag)<|ab (c6 (Gq T) Z<|ab (pv 0) ag) ag) (aU (N:=lr) (sc:=ai<|top 72)<|by decide+kernel) (λ_ _ _ _ _=>(gK (n:=2) K<|bY (gu 3 fh.nd)<|bY (gu 4 fh.nd) gH)) (λ_ _ _ _ _=>(jS<|gk<|bU<|pv 4)) λ_ _ _ _ _=>(pv 3))
  (af (bh (aV eS (aE (gQ K) rfl T.aD eE<|ab (pv 2) ag) aw<|bg _) (ao<|au iC) aF)
  (ao<|au<|bp (aN K) (c6 (uO T) Z<|ab (pv 2) ag) aw λ_ _=>rfl)))),?_⟩
 refine aK (σ':=[some _,none,none,none,none]) rfl ?_;symm;rw[<-Ck];refine adZ (by lia) λpn H1 k1 hpn hN=>?_;have hN:H1 pn=some (.lst<|fm<|List.range o.plan.length):=hN;symm;refine⟨pn,List.range o.plan.length,rfl,az.of hN,by rw[Md];lia,λH2 ps k2 hps hS=>?_⟩;obtain⟨as,hS1,M⟩:=hS;have S:=mf M;symm;refine⟨a,o,rfl,(k1.trans k2).ae I,hf,λH3 pc k3 W5 hC=>?_⟩;have hS3:=k3 _ _ hS1;symm;have F:(MA.subs<|List.range o.plan.length).length=2^o.plan.length:=by rw[MA.eX,Md]
 have hme:=MA.DU (n:=o.plan.length) (met:=kL o) λm hm=>vM hm;refine LR (j1:=3) (j2:=4) (MA.subs<|List.range o.plan.length) (MA.ik o.plan.length<|kL o) (λs v=>TV K s v H2) (λb v=>v=V.bl b) (λs b=>if b=true then none else some s) (λs v H=>TV K s v H) (az.of hS3) (az.of hC) (mI M) (pmap _ _) (by rw[ek,S,F];exact sz J) (λD hD j s b v v' H5 acc Nx Ns hs uZ ss sb k5 U n1 n2=>?_) (λ_ _=>rfl) λD ys H4 k4 hD fi pr=>?_
 .subst sb;obtain⟨t,rfl,ht⟩:=ss;symm;cases b with
  |true=>exact n2 rfl _<|aq.refl _
  |false=>symm;exact n1 _ rfl _ _ (aq.refl _) λH6 k6=>⟨t,rfl,k6.gh U<|k5.gh<|k3.gh ht⟩
 rw[hme,uc,aoO]at pr;obtain⟨as4,rfl,Qp⟩:=C5 pr;have el:(MA.subs<|List.range o.plan.length).filterMap ((λp:AU×Bool=>if p.2=true then none else some p.1)∘λs=>(s,(kL o).any λm=>s.all λd=>m.testBit d))=(MA.subs<|List.range o.plan.length).filter λs=>!((kL o).any λm=>s.all λd=>m.testBit d):=by rw[<-uD];apply rM;intro s _;simp only[Function.comp];cases(kL o).any λm=>s.all λd=>m.testBit d<;>rfl
 rw[el]at Qp;have W:Vbxoab.clash o=((allOf<|List.range o.plan.length).filter λs=>!((kL o).any λm=>s.all λd=>m.testBit d)).head?:=by
  rw[MA.Nr o _ rfl]
  congr 1
  apply JW;intro s _;rw[QD<|QE I.ok]
 have z:=Df (l:=List.range o.plan.length) ao5 λs=>!((kL o).any λm=>s.all λd=>m.testBit d);have wU:=((k1.trans k2).trans k3).trans k4;have Y:=mf Qp;generalize hCL:((MA.subs<|List.range o.plan.length).filter λs=>!((kL o).any λm=>s.all λd=>m.testBit d))=CL at Qp z Y;symm;rw[ek,Y];refine jT (λh=>?_) λh=>?_
 .symm;have hc0:CL=[]:=apv (by simpa using h);refine k H4 .eQ wU ?_;rw[hc0]at z;have e0:((allOf<|List.range o.plan.length).filter λs=>!((kL o).any λm=>s.all λd=>m.testBit d))=[]:=List.Perm.eq_nil z.symm;rw[W,e0];rfl
 .refine bV ?_;symm;refine⟨D,CL,rfl,⟨as4,fi,Qp⟩,λH5 p5 ls k5 Va hL hp hs=>?_⟩;have e:=MA.uq (l:=List.range o.plan.length) ao5 (p:=λs=>!((kL o).any λm=>s.all λd=>m.testBit d)) (by rw[hCL];exact hp) hs;obtain⟨as5,Yp,Yi⟩:=hL;cases ls with
  |nil=>have:=hp.length_eq;simp at this;simp[<-this]at h
  |cons m r=>
   cases Yi with
   |cons r0 r1=>refine cT (az.of Yp) (m:=0) (aP (j:=0) rfl) ?_;refine k H5 _ (wU.trans k5) ?_;rw[W,<-e];exact⟨_,rfl,r0⟩
def Xd{g:TG}{σ:L2.St}{a:Addr}{xs:List V}{tb:TS}{D:Ends}{H:Hp}(j:Nat->L2.St->Hp->Prop)(h0:j 0 σ H)(I:(az K H a xs/\∀i σ H,i<=xs.length->j i σ H->az K H a xs)\/(ee K H a xs/\∀i σ H,i<=xs.length->j i σ H->ee K H a xs))
  (hs:∀i x σ H,xs[i]?=some x->j i σ H->g x σ H λz H2=>tb (D.l<|j<|i+1) z H2)(hd:∀σ H,j xs.length σ H->D.nx σ H):
  qQ K (.ref a) H λJ H1=>∃W:Nat->Nat->L2.St->Hp->Prop,(∃m,W 0 m σ H1)/\∀i m σ H,W i m σ H->
   (J.stop i H/\D.nx σ H)\/(J.go i H/\∃N:L2.St->Hp->Prop,(∀σ' H',N σ' H' ->∃F,F<m/\W (i+1) F σ' H')/\∀x H',J.Nc i H x H' ->g x σ H' λz H2=>tb (D.l N) z H2):=by
 rcases I with⟨h,M⟩|⟨h,S⟩
 .exact⟨a,rfl,.inl ⟨⟨xs,h⟩,iG j h0 M hs hd⟩⟩
 .exact⟨a,rfl,.inr ⟨⟨xs,h⟩,JN j h0 S hs hd⟩⟩
def uf(y:Nat)(x:Item):Item:={x with used:=x.used++[y]}
def ji(o:Office)(p:AU)(i:Nat):(useAll o p).items[i]?=(o.items[i]?).map λx=>if p.contains i=true then uf o.year x else x:=by
 show(List.map _<|o.items.zip<|List.range o.items.length)[i]?=_;rw[mq];cases e:o.items[i]? with
 |none=>
  have:(o.items.zip<|List.range o.items.length)[i]?=none:=by rw[aoy]at e|-;simp;lia
  rw[this];rfl
 |some x=>
  have hi:=(l4.mp e).1;have:(o.items.zip<|List.range o.items.length)[i]?=some (x,i):=by rw[List.getElem?_zip_eq_some];exact⟨e,by rw[Mi hi]⟩
  rw[this];rfl
def Jf(o:Office):useAll o []=o:=by
 have e:(useAll o []).items=o.items:=by apply Q2;intro i;rw[ji];cases o.items[i]?<;>rfl
 cases o;unfold useAll at e|-;simp only at e|-;rw[e]
def Gr(o:Office)(p:AU)(n:Nat)(x:Item)(j:o.items[n]?=some x)(I:n∉p):useAll o (p++[n])={useAll o p with items:=(useAll o p).items.set n<|uf o.year x}:=by
 have e:(useAll o<|p++[n]).items=(useAll o p).items.set n (uf o.year x):=by
  apply Q2;intro i;rw[ji,aoT];by_cases h:n=i
  .subst h;have F:n<(useAll o p).items.length:=by rw[MA.BC];exact(l4.mp j).1
   rw[dt rfl,dt F,j];simp
  .rw[c0 h,ji];have:(p++[n]).contains i=p.contains i:=by rw[q7];simp[iq h]
   rw[this]
 exact congrArg (λz=>Office.mk z o.enemies o.plan o.gap o.most o.year) e
def ay.jM(k:ay y H H')(j:H y=some (.lst zs))(h:jM K H s v):jM K H' s v:=let⟨a,e,h⟩:=h;⟨a,e,k.gh j h⟩
def ay.iN(k:ay y H H')(j:H y=some (.lst zs))(h:iN K C H d v):iN K C H' d v:=by
 obtain⟨a,v1,v2,e,⟨dx,hd⟩,h1,h2⟩:=h;refine⟨a,v1,v2,e,⟨dx,k _ _ (λz=>by rw[z,j]at hd;cases hd) hd⟩,ay.jM k j h1,?_⟩;cases q:ME d with
 |none=>rw[q]at h2;exact h2
 |some s=>rw[q]at h2;exact ay.jM k j h2
theorem Dg{z:Type}:∀{l:List z},l.Nodup->∀{i j:Nat}{a:z},l[i]?=some a->l[j]?=some a->i=j
 |[],_,_,_,_,h1,_=>by simp at h1
 |x::l,h,0,0,_,_,_=>rfl
 |x::l,h,0,j+1,a,h1,h2=>by rw[nM]at h;simp at h1 h2;exact absurd (oA h2)<|h1▸h.1
 |x::l,h,i+1,0,a,h1,h2=>by rw[nM]at h;simp at h1 h2;exact absurd (oA h1)<|h2▸h.1
 |x::l,h,i+1,j+1,a,h1,h2=>by rw[nM]at h;simp at h1 h2;rw[Dg h.2 h1 h2]
def ae.use(h:ae K C H a o)(S:o.items[n]?=some x)(F:a.jW[n]?=some y)(hl:x.used.length<900):
  ae K C (upd H y (.lst<|fm<|x.used++[o.year])) a {o with items:=o.items.set n<|uf o.year x}:=by
 have I:=(l4.mp S).1;have U:n<a.qs.length:=by rw[h.ql];exact I
 have Y:=h.q n x _ y S (gs U) F;have j:=Y.2.1;have k:ay y H<|upd H y (.lst<|fm<|x.used++[o.year]):=ay.upd;have J:=oA F;have sep:=h.sep;have Z:a.lq≠y:=λz=>by rw[nM]at sep;exact sep.1 (by rw[z];exact kB _ J)
 have n2:a.ld≠y:=λz=>by rw[nM,nM]at sep;exact sep.2.1 (by rw[z];exact J)
 refine⟨?_,k _ _ Z h.lq,by simp[h.ql],by simp[h.yl],?_,k _ _ (λz=>by have:=h.le;rw[z,j]at this;cases this) h.le,k _ _ n2 h.ld,L2.Paired.mono (λ_ _ r=>ay.iN k j r) h.d,h.sep,h.qn,?_⟩
 .obtain⟨dx,e⟩:=h.hd;exact⟨dx,k _ _ (λz=>by rw[z,j]at e;cases e) e⟩
 .intro i x' p y' h1 h2 M;rw[aoT]at h1;by_cases hi:n=i
  .subst hi;rw[dt rfl,dt I]at h1;cases h1;rw[F]at M;cases M;obtain⟨⟨dx,e⟩,_,_⟩:=h.q n x p y S h2 F;refine⟨⟨dx,k _ _ (λz=>by rw[z,j]at e;cases e) e⟩,?_,?_⟩
   .rw[ah];rfl
   .show(x.used++[o.year]).length<=900;rw[mu];simp;lia
  .rw[c0 hi]at h1;obtain⟨⟨dx,e⟩,e2,e3⟩:=h.q i x' p y' h1 h2 M;refine⟨⟨dx,k _ _ (λz=>by rw[z,j]at e;cases e) e⟩,k _ _ (λz=>hi ?_) e2,e3⟩;rw[z]at M;have sl:a.jW.Nodup:=by rw[nM,nM]at sep;exact sep.2.2
   exact Dg sl F M
 .have ok:=h.ok;refine⟨by simp[ok.rp],?_,by simpa using ok.en,ok.JI,ok.un,ok.pl,ok.pw,ok.pn⟩;intro z hz;rcases aoB hz with hz|rfl
  .exact ok.it z hz
  .obtain⟨a1,a2,a3,a4,a5,a6,a7,a8⟩:=ok.it x<|oA S;refine⟨a1,a2,a3,a4,a5,a6,a7,?_⟩;show(x.used++[o.year]).length<=900;rw[mu];simp;lia
def d7(S:Bf)(H H':Hp):Prop:=∀b u,b∉S->H b=some u->H' b=some u
def d7.of(k:aq H H'):d7 S H H':=λb u _ h=>k b u h
def d7.off(k:d7 S H H'):fG S H H':=λb u n _ h=>k b u n h
def d7.trans(a:d7 S H1 H2)(b:d7 S H2 H3):d7 S H1 H3:=λc u n h=>b c u n<|a c u n h
def d7.upd(h:b∈S):d7 S H<|L2.upd H b u:=λc v n e=>by have j:c≠b:=λz=>n (by rw[z];exact h);rw[aL j];exact e
def d7.same(k:d7 S H H')(F:aq j H)(h:∀b∈S,j b=none):aq j H':=λb u e=>k b u (λz=>by rw[h b z]at e;cases e)<|F b u e
def d7.aaZ(k:d7 S H H')(j:∀q∈S,∃zs,H q=some (.lst zs))(h:ee K H b xs):ee K H' b xs:=by
 rcases h with(h|⟨z,h⟩)|h
 .exact .inl (.inl<|k _ _ (λz=>by obtain⟨_,e⟩:=j b z;rw[e]at h;cases h) h)
 .exact .inl (.inr ⟨z,k _ _ (λz=>by obtain⟨_,e⟩:=j b z;rw[e]at h;cases h) h⟩)
 .exact .inr h
def ae.Jg(h:ae K C H a o):∀q∈a.jW,∃zs,H q=some (.lst zs):=λq z=>by obtain⟨m,j⟩:=J7.mp z;have I:m<a.jW.length:=(l4.mp j).1;have h1:=h.yl;have h2:=h.ql;obtain⟨_,F,_⟩:=h.q m _ _ q (gs<|by lia) (gs<|by lia) j;exact⟨_,F⟩
def Dh(K:cn)(C:Cl):Sp:=λvs H Q _=>D_ λ(a:jo)(o:Office)(j:Addr)(s:AU)=>vs=[.ref a.B,.ref j]/\ae K C H a o/\((az K H j (fm s)/\j∉a.jW)\/ee K H j (fm s))/\s.Nodup/\(∀i∈s,i<o.items.length)/\(∀x∈o.items,x.used.length<900)/\
 ∀H',d7 a.jW H H' ->ae K C H' a (useAll o s)->Q .eQ H'
abbrev Gs:Ba:=["bank","paper","number"]
def sC:aB Gs ["bank","paper"]<|ai<|top 56:=fj
def sD(T:Txt K mg C):Fn P w K mg base "use_paper" 1 ["bank","paper"]<|Dh K C:=by
 refine T.FD.go sC ?_;rintro f dg A outer s H _ Q E hr⟨a,o,pp,s,rfl,hb,hs,EV,hi,hu,k⟩;refine⟨_,(ao<|gm vu rfl (KA K<|pv 1) (gu 2 sC.nd)<|ao<|jR<|UL K OF R1 WA lO (bT K<|bp (aN K) (bT K<|pv 0) (pv 2) λ_ _=>rfl)<|ab (bT K<|pv 0) ag),?_⟩;refine aK rfl ?_;symm;refine Xd (λi σ H'=>∃v:Option V,σ=[some (.ref a.B),some (.ref pp),v]/\d7 a.jW H H'/\ae K C H' a (useAll o<|s.take i)) ⟨none,rfl,d7.of<|aq.refl _,by rw[List.take_zero,Jf];exact hb⟩ (hs.elim (λz=>.inl ⟨z.1,λi σ H' _⟨_,_,J,_⟩=>J.off.seq z.2 z.1⟩) λz=>.inr ⟨z,λi σ H' _⟨_,_,J,_⟩=>J.aaZ hb.Jg z⟩) ?_ ?_
 .rintro i y σ H' hy⟨v,rfl,J,I⟩;obtain⟨n,hn,rfl⟩:=jr hy;have M:=hi n<|oA hn;have hx:=gs M;have S:n∉s.take i:=λz=>by
   obtain⟨j,U⟩:=J7.mp z;rw[List.getElem?_take]at U;by_cases W:j<i
   .rw[dt W]at U;have:=Dg EV U hn;lia
   .rw[c0 W]at U;cases U
  have Y:(useAll o<|s.take i).items[n]?=some o.items[n]:=by
   rw[ji,hx];have:(s.take i).contains n=false:=by rw[Bool.eq_false_iff];intro z;exact S<|Wc.mp z
   rw[this];rfl
  have Vc:n<a.qs.length:=by rw[hb.ql];exact M
  have Z:n<a.jW.length:=by rw[hb.yl];exact M
  have Yv:=gs Vc;have hyn:=gs Z;have hQ:=I.q n _ _ _ Y Yv hyn;have hlen:=hu _<|oA hx;have Qw:(a.qs.map V.ref)[n]?=some (.ref a.qs[n]):=by rw[mq,Yv];rfl
  symm;refine cT (az.of I.lq) (aP Qw) ?_;symm;refine⟨?_,?_⟩
  .exact .inl ⟨rfl,_,az.of hQ.2.1⟩
  symm;refine⟨_,_,_,rfl,rfl,hQ.2.1,by rw[ek];exact U7 (m:=900)<|by lia,?_⟩;have hbn:=ae.use I Y hyn hlen;refine⟨_,rfl,J.trans<|d7.upd<|Ka Z,?_⟩;rw[take_snoc hn,Gr o _ n _ hx S];have ey:fm (o.items[n].used++[(useAll o<|s.take i).year])=fm o.items[n].used++[nv o.year]:=by rw[fm,t4];rfl
  rw[ey]at hbn;exact hbn
 .rintro σ H'⟨v,rfl,J,I⟩;rw[ek,B7]at I;exact k _ J I
def Xe(I:Addr->Nat->List V->Hp->Prop)(S:az K H1 a xs)(hz:xs.length<=sizeLine)
  (h0:∀D,H1 D=none->I D 0 [] (upd H1 D (.lst [])))
  (hs:∀D,H1 D=none->∀(i:Nat) x H acc(Z:VK),xs[i]?=some x->aq H1 H->H D=some (.lst acc)->I D i acc H->(∀y M,aq H M->I D (i+1) (acc++[y]) (upd M D (.lst<|acc++[y]))->Z y M)->te ((wipe σ vs).set j<|some x) H Z)
  (hw:∀x:V,wipe ((wipe σ vs).set j<|some x) vs=wipe σ vs)
  (hd:∀D ys H,aq H1 H->H1 D=none->H D=some (.lst ys)->I D xs.length ys H->Q (.ref D) H):Nh (Rc K a) (eZ j) Sf te vs σ H1 Q:=by
 intro D F;refine⟨λi m H=>i+m=xs.length/\aq H1 H/\∃acc,acc.length=i/\H D=some (.lst acc)/\I D i acc H,⟨xs.length,by lia,aq.new F,[],rfl,ah,h0 D F⟩,λi m H⟨him,kp,acc,J,z,hI⟩=>?_⟩;by_cases hi:i<xs.length
 .right;have hx:=gs hi;refine⟨⟨xs,xs[i],kp.seq S,hx⟩,λH'=>aq H1 H'/\∃acc,acc.length=i+1/\H' D=some (.lst acc)/\I D (i+1) acc H',λH' h'=>⟨m-1,by lia,by lia,h'⟩,?_⟩;rintro x H'⟨rfl,hy⟩;refine⟨hw x,?_⟩;refine hs D F i x H' acc _ (hy xs<|kp.seq S) kp z hI λy M k4 h4=>⟨acc,k4 _ _ z,by rw[J];lia,λb o e=>?_,acc++[y],by simp[J],ah,h4⟩;rw[aL<|aX e F];exact k4 _ _<|kp _ _ e
 .left;have Y:i=xs.length:=by lia
  subst Y;exact⟨⟨xs,kp.seq S,ez _⟩,hd D acc H kp F z hI⟩
def o7(nx:H x=none)(nd:H dx=none)(k:ay x (upd (upd H dx (.own x)) x (.ins A dx [])) H'):aq H H':=aq.made nx nd λb o h n=>k b o n h
def eT(j:aq H H1)(z:H p=none)(F:ay p H1 H2):aq H H2:=λb u e=>F b u (aX e z)<|j b u e
def xU(K:cn)(C:Cl):Sp:=λvs H Q _=>D_ λ(v1 v2 j z:V)=>vs=[v1,v2,j,z]/\
 ∀H' p,aq H H' ->H p=none->(∃dx,H' p=some (.ins C.d dx [("word",v1),("first",v2),("second",.eQ),("low",j),("high",z)]))->Q (.ref p) H'
abbrev zR:Ba:=["word","sel","low","high"]
def xV:aB zR ["word","sel","low","high"]<|ai<|top 2:=fj
def xW(T:Txt K mg C):Fn P w K mg base "span_demand" 3 ["word","sel","low","high"]<|xU K C:=by refine T.zj.go xV ?_;rintro f F A outer s H _ Q E I⟨v1,v2,U,W,rfl,k⟩;refine⟨_,(ao<|au<|peM (Bn T) I<|ab (pv 0)<|ab (pv 1)<|ab iC<|ab (pv 2)<|ab (pv 3) ag),?_⟩;refine aK rfl ?_;symm;intro x dx z j J;refine⟨x,dx,_,_,_,_,_,rfl,ah,λH' M S=>⟨rfl,?_⟩⟩;exact k _ _ (o7 z j M) z ⟨dx,S⟩
def xX(K:cn)(C:Cl):Sp:=λvs H Q _=>C_ λ(v1 v2 j:V)=>vs=[v1,v2,j]/\
 ∀H' p,aq H H' ->H p=none->(∃dx,H' p=some (.ins C.d dx [("word",v1),("first",v2),("second",j),("low",.int 0),("high",.int 0)]))->Q (.ref p) H'
abbrev zS:Ba:=["word","first","second"]
def xY:aB zS ["word","first","second"]<|ai<|top 3:=fj
def xZ(T:Txt K mg C):Fn P w K mg base "pair_demand" 3 ["word","first","second"]<|xX K C:=by refine T.zk.go xY ?_;rintro f F A outer s H _ Q E I⟨v1,v2,U,rfl,k⟩;refine⟨_,(ao<|au<|peM (Bn T) I<|ab (pv 0)<|ab (pv 1)<|ab (pv 2)<|ab aw<|ab aw ag),?_⟩;refine aK rfl ?_;symm;intro x dx z j J;refine⟨x,dx,_,_,_,_,_,rfl,ah,λH' M S=>⟨rfl,?_⟩⟩;exact k _ _ (o7 z j M) z ⟨dx,S⟩
def pM(K:cn)(C:Cl):Sp:=λvs H Q _=>C_ λ(x:Item)(q ly:Addr)=>vs=[.ref q]/\qG C H x q ly/\
 ∀H' z j,aq H H' ->H z=none->H j=none->qG C H' x z j->Q (.ref z) H'
abbrev qV:Ba:=["question","copied"]
def jO:aB qV ["question"]<|ai<|top 57:=fj
def pN(T:Txt K mg C):Fn P w K mg base "copy_of_question" 3 ["question"]<|pM K C:=by
 refine T.qC.go jO ?_;rintro f dg A outer s H _ Q E hr⟨x,q,ly,rfl,M,k⟩
 refine⟨_,(af (eC 1 jO.nd<|peM (uR T) hr<|ab (bT K<|pv 0)<|ab (bT K<|pv 0)<|ab (bT K<|pv 0)<|ab (bT K<|pv 0)<|ab (bT K<|pv 0) ag)
  (af (cU K (pv 1)<|fJ (nX K) rfl T.qA tG<|ab (bT K<|pv 0) ag)
  (af (cU K (pv 1)<|bT K<|pv 0)
  (ao<|au<|pv 1)))),?_⟩
 refine aK rfl ?_;symm;intro p dx I S iw;refine⟨p,dx,_,_,_,_,_,rfl,ah,λH1 l0 kb hl0 EW hh=>⟨rfl,?_⟩⟩;have U:=o7 I S kb;have W:=U.qG M;clear kb;symm;refine⟨ly,_,rfl,.inl<|az.of W.2.1,λl J=>?_⟩;have nl:l≠p:=λz=>by rw[z,hh]at J;cases J
 have Y:=U.free J;generalize j:upd H1 l _=H2;have k2:aq H1 H2:=by subst j;exact aq.new J
 have Z:H2 l=some (.lst<|fm x.used):=by subst j;exact ah
 have hh2:=k2 _ _ hh;have lI:=U.trans k2;symm;refine⟨p,C.q,dx,_,rfl,hh2,T.c9,T.xu,by simp,?_⟩;generalize j:upd H2 p _=H3;have F:ay p H2 H3:=by subst j;exact ay.upd
 have hh3:H3 p=some (.ins C.q dx [("topic",nv x.topic),("kind",nv x.kind),("hardness",nv x.hard),("marks",nv x.marks),("minutes",nv x.minutes),("years",.ref l),("withdrawn",.bl false)]):=by subst j;exact ah
 have k3:=eT lI I F;have Gu:=k3.qG M;symm;refine⟨p,C.q,dx,_,rfl,hh3,T.c9,T.jV,by simp,?_⟩;symm;refine k _ p l (eT k3 I ay.upd) I Y ⟨⟨dx,?_⟩,?_,M.2.2⟩
 .rw[ah];rfl
 .rw[aL nl];exact F _ _ nl Z
def x4(n:Nat):Int:=reduceHash<|Builtin.Tuple.tupleHashOf [hashInt ((n/20:Nat):Int),hashInt ((n%20:Nat):Int)]
def Gv:(((List.range 400).filter λn=>decide<|n/20<n%20).map x4).Nodup:=by decide+kernel
theorem x5{j z:Type}{f:j->z}:∀{l:List j},(l.map f).Nodup->∀x∈l,∀y∈l,f x=f y->x=y
 |[],_,_,h,_,_,_=>by cases h
 |a::l,h,x,hx,y,hy,e=>by
  rw[ip,nM]at h;rcases eH.mp hx with rfl|Le<;>rcases eH.mp hy with rfl|DY
  .rfl
  .exact absurd (n8.mpr ⟨y,DY,e.symm⟩) h.1
  .exact absurd (n8.mpr ⟨x,Le,e⟩) h.1
  .exact x5 h.2 x Le y DY e
theorem Bq{F I:Type}{f:F->I}:∀{l:List F},l.Nodup->(∀x∈l,∀y∈l,f x=f y->x=y)->(l.map f).Nodup
 |[],_,_=>F1
 |a::l,h,i=>by rw[nM]at h;rw[ip,nM];refine⟨λz=>?_,Bq h.2 λx J y j e=>i x (kB _ J) y (kB _ j) e⟩;obtain⟨y,j,e⟩:=n8.mp z;have:=i y (kB _ j) a (lx ..) e;exact h.1<|this▸j
def TM(P:Program)(w:World)(ok:xy o):((rX o.enemies).map λz=>tupleKeyHash (eI P w) z.1).Nodup:=by
 have e:((rX o.enemies).map λz=>tupleKeyHash (eI P w) z.1)=((rX o.enemies).map (·.1)).map (tupleKeyHash<|eI P w):=by rw[oW];rfl
 rw[e];have j:∀k∈(rX o.enemies).map (·.1),∃n,n∈(List.range 400).filter (λn=>decide<|n/20<n%20)/\k=[Sum.inl ((n/20:Nat):Int),Sum.inl ((n%20:Nat):Int)]:=by
  intro k hk;obtain⟨z,F,rfl⟩:=n8.mp hk;obtain⟨e,M,rfl⟩:=n8.mp F;obtain⟨h1,h2,Z⟩:=ok.en e M;have:=ok.rp;have I:(20*min e.1 e.2+max e.1 e.2)/20=min e.1 e.2:=by lia
  have J:(20*min e.1 e.2+max e.1 e.2)%20=max e.1 e.2:=by lia
  refine⟨20*min e.1 e.2+max e.1 e.2,?_,by rw[I,J]⟩;rw[tL,F8];refine⟨by lia,ki ?_⟩;rw[I,J];lia
 refine Bq ok.un λx S y U e=>?_;obtain⟨n,W,rfl⟩:=j x S;obtain⟨m,Y,rfl⟩:=j y U;have:x4 n=x4 m:=e;rw[x5 Gv n W m Y this]
structure CpI(C:Cl)(o:Office)(H1:Hp)(D:Addr)(i:Nat)(acc:List V)(H:Hp)(qs jW:Bf):Prop where
 ac:acc=qs.map V.ref
 ql:qs.length=i
 yl:jW.length=i
 qn:qs.Nodup
 yn:jW.Nodup
 qf:∀q∈qs,H1 q=none
 yf:∀y∈jW,H1 y=none
 nd:D∉jW
 q:∀(m:Nat)(x:Item)(p y:Addr),o.items[m]?=some x->qs[m]?=some p->jW[m]?=some y->qG C H x p y
def mx(h:l.Nodup)(n:x∉l):(l++[x]).Nodup:=by rw[Q4];refine⟨h,by simp,λa j b F=>?_⟩;rw[oI.mp F];exact λz=>n<|z▸j
def oB{F:Type}{l:List F}{x z:F}(h:(l++[x])[m]?=some z):(m<l.length/\l[m]?=some z)\/(m=l.length/\x=z):=by
 rw[List.getElem?_append]at h;by_cases j:m<l.length
 .rw[dt j]at h;exact .inl ⟨j,h⟩
 .rw[c0 j]at h;obtain⟨h1,h2⟩:=l4.mp h;simp at h1;have:m=l.length:=by lia
  subst this;simp at h2;exact .inr ⟨rfl,h2⟩
def vm(K:cn)(C:Cl):Sp:=λvs H Q _=>B_ λ(a:jo)(o:Office)=>vs=[.ref a.B]/\ae K C H a o/\
 ∀H' j,aq H H' ->(∀b∈foot j,H b=none)->ae K C H' j o->Q (.ref j.B) H'
abbrev oC:Ba:=["bank","copied","question"]
def ia:aB oC ["bank"]<|ai<|top 58:=fj
def vn(T:Txt K mg C):Fn P w K mg base "copy_of_bank" 4 ["bank"]<|vm K C:=by
 refine T.xp.go ia ?_;rintro f dg A outer s H _ Q E hr⟨a,o,rfl,M,k⟩
 refine⟨_,(af (eC 1 ia.nd<|OT (K2 T)<|hr.mono<|by decide)
  (af (cU K (pv 1)<|eM (own:=[("question",2)]) rfl ia.nd (bj K<|bT K<|pv 0) (aU (N:=oC) (sc:=ai<|top 58)<|by decide+kernel) (λ_ _ _ _ _=>(gu 2 ia.nd)) (λ_ _ _ _ _=>bR) λ_ _ _ _ _=>(c6 (pN T) hr<|ab (pv 2) ag))
  (af (cU K (pv 1)<|fJ OY rfl T.WW Wv<|ab (bT K<|pv 0) ag)
  (af (cU K (pv 1)<|fJ (nX K) rfl T.qA tG<|ab (bT K<|pv 0) ag)
  (af (cU K (pv 1)<|bT K<|pv 0)
  (af (cU K (pv 1)<|bT K<|pv 0)
  (af (cU K (pv 1)<|bT K<|pv 0)
  (ao<|au<|pv 1)))))))),?_⟩
 refine aK (σ':=[some _,none,none]) rfl ?_;symm;intro B dx hB MX iw;refine⟨B,dx,rfl,ah,λH1 lq0 le0 ld0 kb n1 n2 n3 nd h1 h2 h3 hh=>⟨rfl,?_⟩⟩;have k1:=o7 hB MX kb;have qJ:=k1.ae M;have aeP:=qJ.lq;clear kb n1 n2 n3 nd h1 h2 h3;have Nb:=M.ok.rp;symm;refine Xe (a:=a.lq) (xs:=a.qs.map V.ref) (j:=2) (λD i acc H'=>∃qs jW,CpI C o H1 D i acc H' qs jW) (az.of aeP) (by rw[ek,M.ql];exact sz (m:=20) Nb) (λD hD=>⟨[],[],rfl,rfl,rfl,F1,F1,(λ_ h=>by cases h),(λ_ h=>by cases h),(λh=>by cases h),λm x p y _ h=>by simp at h⟩) (λD hD i v H2 acc Nx hx k2 cW⟨qs,jW,I⟩ n=>?_) (λ_=>rfl) λD ys H2 k2 hD X4⟨qs,jW,I⟩=>?_
 .rw[mq]at hx;cases e:a.qs[i]? with
  |none=>rw[e]at hx;cases hx
  |some q=>
  rw[e]at hx;cases hx;have hi:i<o.items.length:=by rw[<-M.ql];exact(l4.mp e).1
  have hiy:i<a.jW.length:=by rw[M.yl];exact hi
  have hQ:=k2.qG<|qJ.q i _ q _ (gs hi) e<|gs hiy;symm;refine⟨_,q,_,rfl,hQ,λH3 q' Yw k3 Hz U hQ'=>?_⟩;have live:∀(m:Nat) p y,qs[m]?=some p->jW[m]?=some y->(∃u,H2 p=some u)/\∃u,H2 y=some u:=λm p y h1 h2=>by
   have S:m<i:=by rw[<-I.ql];exact(l4.mp h1).1
   obtain⟨⟨dx,W⟩,e2,_⟩:=I.q m _ p y (gs<|by lia) h1 h2;exact⟨⟨_,W⟩,_,e2⟩
  have nq:q'∉qs:=λz=>by
   obtain⟨m,S⟩:=J7.mp z;have hl:m<jW.length:=by rw[I.yl,<-I.ql];exact(l4.mp S).1
   obtain⟨⟨u,W⟩,_⟩:=live m _ _ S<|gs hl;rw[Hz]at W;cases W
  have ny:Yw∉jW:=λz=>by
   obtain⟨m,S⟩:=J7.mp z;have hl:m<qs.length:=by rw[I.ql,<-I.yl];exact(l4.mp S).1
   obtain⟨_,u,W⟩:=live m _ _ (gs hl) S;rw[U]at W;cases W
  have nD:Yw≠D:=λz=>by rw[z,cW]at U;cases U
  have aa0:=k3 _ _ cW;have kq:∀x p y,qG C H3 x p y->y≠D->qG C (upd H3 D (.lst<|acc++[.ref q'])) x p y:=λx p y⟨⟨dx,W⟩,e2,e3⟩ hy=>⟨⟨dx,by rw[aL λz=>by rw[z,aa0]at W;cases W];exact W⟩,by rw[aL hy];exact e2,e3⟩;refine n _ _ k3 ⟨qs++[q'],jW++[Yw],by rw[I.ac,t4];rfl,by simp[I.ql],by simp[I.yl],mx I.qn nq,mx I.yn ny,?_,?_,?_,?_⟩
  .intro z hz;rcases ro.mp hz with hz|hz
   .exact I.qf z hz
   .rw[oI.mp hz];exact k2.free Hz
  .intro z hz;rcases ro.mp hz with hz|hz
   .exact I.yf z hz
   .rw[oI.mp hz];exact k2.free U
  .intro z;rcases ro.mp z with z|z
   .exact I.nd z
   .exact nD (oI.mp z).symm
  .intro m x p y h1 h2 h3;rcases oB h2 with⟨S,h2⟩|⟨S,h2⟩<;>rcases oB h3 with⟨XO,h3⟩|⟨XO,h3⟩
   .exact kq _ _ _ (k3.qG<|I.q m x p y h1 h2 h3) λz=>I.nd<|z▸oA h3
   .rw[I.ql]at S;rw[I.yl]at XO;lia
   .rw[I.ql]at S;rw[I.yl]at XO;lia
   .subst h2 h3;rw[I.ql]at S;subst S;rw[gs hi]at h1;cases h1;exact kq _ _ _ hQ' nD
 have hh2:=k2 _ _ hh;have fB:∀b,H1 b=none->b≠B:=λb h z=>by rw[z,hh]at h;cases h
 have qsl:qs.length=o.items.length:=by rw[I.ql,ek];exact M.ql
 have lyl:jW.length=o.items.length:=by rw[I.yl,ek];exact M.ql
 have live:∀y∈jW,∃u,H2 y=some u:=λy hy=>by obtain⟨m,S⟩:=J7.mp hy;have hl:m<jW.length:=(l4.mp S).1;obtain⟨_,e2,_⟩:=I.q m _ _ y (gs<|by lia) (gs<|by lia) S;exact⟨_,e2⟩
 rw[I.ac]at X4;have nDB:=fB D hD;symm;refine⟨B,C.b,dx,_,rfl,hh2,T.fe,T.mB,by simp,?_⟩;generalize F:upd H2 B _=H3;have Yx:ay B H2 H3:=by subst F;exact ay.upd
 have hh3:H3 B=some (.ins C.b dx [("questions",.ref D),("enemies",.ref le0),("demands",.ref ld0),("year",.int 0),("gap",.int 0),("most",.int 99)]):=by subst F;exact ah
 have k3:=eT (k1.trans k2) hB Yx;have FT:=k3.ae M;symm;refine⟨a.le,_,rfl,FT.le,TM _ _ M.ok,λle Z=>?_⟩;have nle:le≠B:=λz=>by rw[z,hh3]at Z;cases Z
 have hh4:=(aq.new (o:=.dT<|rX o.enemies) Z) _ _ hh3;generalize F:upd H3 le _=H4 at hh4|-;have kb4:ay B H3 H4:=by subst F;exact(aq.new Z).but
 have aeQ:H4 le=some (.dT<|rX o.enemies):=by subst F;exact ah
 symm;refine⟨B,C.b,dx,_,rfl,hh4,T.fe,T.qD,by simp,?_⟩;generalize F:upd H4 B _=H5;have kb5:ay B H4 H5:=by subst F;exact ay.upd
 have hh5:H5 B=some (.ins C.b dx [("questions",.ref D),("enemies",.ref le),("demands",.ref ld0),("year",.int 0),("gap",.int 0),("most",.int 99)]):=by subst F;exact ah
 have k5:=eT k3 hB<|kb4.trans kb5;have hb5:=k5.ae M;symm;refine⟨a.ld,_,rfl,.inl<|az.of hb5.ld,λld yM=>?_⟩;have nld:ld≠B:=λz=>by rw[z,hh5]at yM;cases yM
 have hh6:=(aq.new (o:=.lst a.ds) yM) _ _ hh5;generalize F:upd H5 ld _=H6 at hh6|-;have kb6:ay B H5 H6:=by subst F;exact(aq.new yM).but
 have aeT:H6 ld=some (.lst a.ds):=by subst F;exact ah
 symm;refine⟨B,C.b,dx,_,rfl,hh6,T.fe,T.mC,by simp,?_⟩;generalize F:upd H6 B _=H7;have kb7:ay B H6 H7:=by subst F;exact ay.upd
 have hh7:H7 B=some (.ins C.b dx [("questions",.ref D),("enemies",.ref le),("demands",.ref ld),("year",.int 0),("gap",.int 0),("most",.int 99)]):=by subst F;exact ah
 have k7:=eT k5 hB<|kb6.trans kb7;have hb7:=k7.ae M;symm;refine⟨B,C.b,dx,_,rfl,hh7,T.fe,T.rW,by simp,?_⟩;generalize F:upd H7 B _=H8;have kb8:ay B H7 H8:=by subst F;exact ay.upd
 have hh8:H8 B=some (.ins C.b dx [("questions",.ref D),("enemies",.ref le),("demands",.ref ld),("year",nv o.year),("gap",.int 0),("most",.int 99)]):=by subst F;exact ah
 have k8:=eT k7 hB kb8;have hb8:=k8.ae M;symm;refine⟨B,C.b,dx,_,rfl,hh8,T.fe,T.CQ,by simp,?_⟩;generalize F:upd H8 B _=H9;have Xf:ay B H8 H9:=by subst F;exact ay.upd
 have hh9:H9 B=some (.ins C.b dx [("questions",.ref D),("enemies",.ref le),("demands",.ref ld),("year",nv o.year),("gap",nv o.gap),("most",.int 99)]):=by subst F;exact ah
 have k9:=eT k8 hB Xf;have hb9:=k9.ae M;symm;refine⟨B,C.b,dx,_,rfl,hh9,T.fe,T.vJ,by simp,?_⟩;generalize F:upd H9 B _=H0;have kb0:ay B H9 H0:=by subst F;exact ay.upd
 have hh0:H0 B=some (.ins C.b dx [("questions",.ref D),("enemies",.ref le),("demands",.ref ld),("year",nv o.year),("gap",nv o.gap),("most",nv o.most)]):=by subst F;exact ah
 have k0:=eT k9 hB kb0;have pY:=k0.ae M;have Xg:ay B H7 H0:=(kb8.trans Xf).trans kb0;have aa2:ay B H2 H5:=(Yx.trans kb4).trans kb5;have Xh:ay B H2 H0:=(aa2.trans<|kb6.trans kb7).trans Xg;have fr:∀{Ha Hb:Hp}{b:Addr},ay B Ha Hb->b≠B->Hb b=none->Ha b=none:=λ{Ha Hb b} kb nb h=>by
  cases q:Ha b with
  |none=>rfl
  |some u=>rw[kb b u nb q]at h;cases h
 have fle:=(k1.trans k2).free<|fr Yx nle Z;have J:=fr aa2 nld yM;have fld:=(k1.trans k2).free J;symm;refine k H0 ⟨B,D,le,ld,qs,jW,a.ds⟩ k0 ?_ ⟨⟨dx,hh0⟩,Xh _ _ nDB X4,qsl,lyl,?_,(kb5.trans<|(kb6.trans kb7).trans Xg) _ _ nle aeQ,(kb7.trans Xg) _ _ nld aeT,pY.d,?_,I.qn,M.ok⟩
 .intro b Y;simp only[foot,eH,ro]at Y;rcases Y with rfl|rfl|rfl|rfl|Y|Y
  .exact hB
  .exact k1.free hD
  .exact fle
  .exact fld
  .exact k1.free<|I.qf b Y
  .exact k1.free<|I.yf b Y
 .intro m x p y W e2 e3;obtain⟨⟨QG,q1⟩,q2,q3⟩:=I.q m x p y W e2 e3;exact⟨⟨QG,Xh _ _ (fB p<|I.qf p<|oA e2) q1⟩,Xh _ _ (fB y<|I.yf y<|oA e3) q2,q3⟩
 .rw[nM,nM];refine⟨λz=>?_,λz=>?_,I.yn⟩
  .rcases eH.mp z with z|z
   .have z:D=ld:=z;rw[<-z]at J;rw[X4]at J;cases J
   .exact I.nd z
  .obtain⟨u,e⟩:=live ld z;rw[J]at e;cases e
abbrev vo(C:Cl):Tab:=⟨C.tn,"nearest.<locals>.<lambda>"⟩
def Xi(R:Addr->AU->Prop)(f:AU->Nat):Option (Addr×Int)->Option AU->Prop
 |none,none=>True
 |some b,some l=>R b.1 l/\b.2=(f l:Int)
 |_,_=>False
theorem Br(f:AU->Nat):∀{F:Bf}{ls:List AU},Paired R F ls->∀{b:Option<|Addr×Int}{y:Option AU},Xi R f b y->Xi R f ((List.zipWith (λa l=>(a,(f l:Int))) F ls).foldl (eV ltI) b) (ls.foldl (MA.iY f) y)
 |_,_,.nil,_,_,h=>h
 |a::F,l::ls,.cons r p,b,y,h=>by
  rw[ao6,Hr,Hr];refine Br f p ?_;cases b with
  |none=>cases y with
   |none=>exact⟨r,rfl⟩
   |some z=>exact h.elim
  |some b=>cases y with
   |none=>exact h.elim
   |some z=>
    obtain⟨h1,h2⟩:=h;show Xi R f (some<|if ltI (f l:Int) b.2=true then(a,(f l:Int))else b) (if f l<f z then some l else some z);rw[h2];by_cases j:f l<f z
    .rw[dt j,dt<|by exact ki<|by lia];exact⟨r,rfl⟩
    .rw[c0 j,c0<|by unfold ltI;rw[B3];lia];exact⟨h1,h2⟩
theorem Gw(f:AU->Nat):∀{j:Bf}{ls:List AU},j.length=ls.length->(List.zipWith (λa l=>(a,(f l:Int))) j ls).map (λe=>V.ref e.1)=j.map V.ref
 |[],[],_=>rfl
 |[],_::_,h=>by simp at h
 |_::_,[],h=>by simp at h
 |a::j,l::ls,h=>by rw[ao6,ip,ip,Gw f<|by simpa using h]
theorem K7(f:AU->Nat){j:Bf}{ls:List AU}(p:Paired R j ls):∀e∈List.zipWith (λa l=>(a,(f l:Int))) j ls,∃l∈ls,R e.1 l/\e.2=(f l:Int):=by
 induction p with
 |nil=>simp
 |cons r _ i=>
  intro e h;rw[ao6]at h;rcases eH.mp h with rfl|h
  .exact⟨_,lx ..,r,rfl⟩
  .obtain⟨z,h1,h2⟩:=i e h;exact⟨z,kB _ h1,h2⟩
def Jh(K:cn)(C:Cl):Sp:=λvs H Q _=>D_ λ(j q:Addr)(ls:List AU)(m:AU)=>vs=[.ref j,.ref q]/\TL K H j ls/\az K H q (fm m)/\ls≠[]/\(∀l∈ls,l.Nodup/\l.length<=20)/\m.Nodup/\m.length<=20/\(∀i∈m,i<20)/\TabsOk [vo C] H/\
 ∀H' v,Kp [vo C] H H' ->qO K H' (leastBy (apartness m) ls) v->Q v H'
abbrev oZ:Ba:=["papers","wanted"]
def Ji:aB oZ ["papers","wanted"]<|ai<|top 76:=⟨rfl,rfl,rfl,by decide+kernel,rfl,by decide+kernel,by decide+kernel⟩
def Jj(T:Txt K mg C)(S:Fi mg base):Fn P w K mg base "nearest" 4 ["papers","wanted"]<|Jh K C:=by
 refine T.oZ.fn Ji (λ_ _ _ _ _ _=>qLz λ_ _=>rfl) (λvs H Q E h=>?_) λf c A outer s H vs Q E L hq hr h=>?_
 .obtain⟨U,q,ls,m,rfl,_⟩:=h;rfl
 obtain⟨U,q,ls,m,rfl,⟨as,hlp,pr⟩,hqm,iw,WL,hmn,HE,hms,hT,k⟩:=h;refine⟨_,(ao<|au<|Tb (k:=1) (x:="paper") (fr:=["wanted"]) (js:=[1]) (tabs:=[vo C]) (t:=vo C) (c:=c) K L S rfl hq rfl ⟨rfl,rfl,rfl,by decide+kernel,by decide+kernel,by decide+kernel,?_,?_,?_⟩ rfl (λpm ct c=>qLz λ_=>rfl) (λc f A s H L W=>(c6 (Gn T) W<|ab (pv 0)<|ab (pv 1) ag)) (hr.mono<|by decide) T.P1 (pv 0) (by rfl) (by rfl) (by rfl) (by rfl) (by rfl) (by rfl)),?_⟩
 .intro i x J
  match i,J with
  |0,J=>cases J;exact⟨rfl,1,rfl,rfl,.inl rfl⟩
  |i+1,J=>cases J
 .intro y j e;rcases eH.mp j with rfl|j
  .cases e
  rcases eH.mp j with rfl|j
  .exact .inl rfl
  rcases eH.mp j with rfl|j
  .cases e
  .cases j
 .intro y k j;rcases eH.mp j with z|j
  .cases z;rfl
  rcases eH.mp j with z|j
  .cases z;rfl
  rcases eH.mp j with z|j
  .cases z;rfl
  .cases j
 refine aK (σ':=[some (.ref U),some (.ref q)]) rfl ?_;refine dn ?_;refine WS ?_;symm;refine⟨U,List.zipWith (λa l=>(a,(apartness m l:Int))) as ls,rfl,?_,oI.mpr rfl,hT,(λu hu _=>oI.mp hu),λe he H2 Z Q' q'=>?_,λH' k'=>?_⟩
 .rw[Gw _<|mf pr];exact az.of hlp
 .obtain⟨l,I,hR,h2⟩:=K7 (apartness m) pr e he;obtain⟨Y,M⟩:=WL l I;symm;refine⟨e.1,q,l,m,rfl,Z.gh hR,Z.seq hqm,Y,hmn,M,HE,hms,λH3 k3=>?_⟩;rw[h2]at q';exact q' H3 k3
 .have rel:=Br (apartness m) pr (b:=none) (y:=none) trivial;rw[<-MA.wj]at rel;cases e:(List.zipWith (λa l=>(a,(apartness m l:Int))) as ls).foldl (eV ltI) none with
  |none=>
   rw[e]at rel;cases ls with
   |nil=>exact(iw rfl).elim
   |cons x r=>
    exfalso;cases F:leastBy (apartness m)<|x::r with
    |some z=>rw[F]at rel;exact rel
    |none=>
     unfold leastBy at F;split at F
     .cases F
     .split at F<;>cases F
  |some b=>
   rw[e]at rel;cases F:leastBy (apartness m) ls with
   |none=>rw[F]at rel;exact rel.elim
   |some z=>rw[F]at rel;refine k H' _ k' ?_;rw[F];exact⟨b.1,rfl,k'.gh rel.1⟩
structure jK(o o':Office):Prop where
 en:o.enemies=o'.enemies
 pl:o.plan=o'.plan
 it:∀i,(Vbxoab.itemAt o i).topic=(Vbxoab.itemAt o' i).topic/\(Vbxoab.itemAt o i).kind=(Vbxoab.itemAt o' i).kind/\(Vbxoab.itemAt o i).hard=(Vbxoab.itemAt o' i).hard/\(Vbxoab.itemAt o i).marks=(Vbxoab.itemAt o' i).marks/\(Vbxoab.itemAt o i).minutes=(Vbxoab.itemAt o' i).minutes
def jK.refl(o:Office):jK o o:=⟨rfl,rfl,λ_=>⟨rfl,rfl,rfl,rfl,rfl⟩⟩
def jK.trans{a b c:Office}(h:jK a b)(g:jK b c):jK a c:=⟨h.en.trans g.en,h.pl.trans g.pl,λi=>⟨(h.it i).1.trans (g.it i).1,(h.it i).2.1.trans (g.it i).2.1,(h.it i).2.2.1.trans (g.it i).2.2.1,(h.it i).2.2.2.1.trans (g.it i).2.2.2.1,(h.it i).2.2.2.2.trans (g.it i).2.2.2.2⟩⟩
def jK.symm{a b:Office}(h:jK a b):jK b a:=⟨h.en.symm,h.pl.symm,λi=>⟨(h.it i).1.symm,(h.it i).2.1.symm,(h.it i).2.2.1.symm,(h.it i).2.2.2.1.symm,(h.it i).2.2.2.2.symm⟩⟩
def jK.fits(h:jK a b)(s:Sel):Vbxoab.fits a s=Vbxoab.fits b s:=by funext i;obtain⟨h1,h2,j,z,F⟩:=h.it i;cases s<;>simp only[Vbxoab.fits,h1,h2,j]
def jK.amount(h:jK a b)(w:Nat):Vbxoab.amount a w=Vbxoab.amount b w:=by funext i;obtain⟨h1,h2,F,j,z⟩:=h.it i;simp only[Vbxoab.amount,j,z]
def jK.meets(h:jK a b)(p:AU):Vbxoab.meets a p=Vbxoab.meets b p:=by funext d;cases d<;>simp only[Vbxoab.meets,h.fits,h.amount]
def jK.peaceful(h:jK a b):Vbxoab.peaceful a=Vbxoab.peaceful b:=by funext p;simp only[Vbxoab.peaceful,hostile,h.en]
def jK.papers{a b:Office}(h:jK a b)(j:Vbxoab.free a=Vbxoab.free b):Vbxoab.papers a=Vbxoab.papers b:=by unfold Vbxoab.papers candidates;rw[j,h.peaceful,h.pl];simp only[h.meets]
def jK.used(o:Office)(p:AU)(y:Nat):jK o {useAll o p with year:=y}:=by
 refine⟨rfl,rfl,λi=>?_⟩;have e:Vbxoab.itemAt {useAll o p with year:=y} i=((o.items[i]?).map λx=>if p.contains i=true then uf o.year x else x).getD noItem:=by unfold Vbxoab.itemAt;rw[F4];exact congrArg (λz=>Option.getD z noItem)<|ji o p i
 rw[e];unfold Vbxoab.itemAt;rw[F4];cases o.items[i]? with
 |none=>exact⟨rfl,rfl,rfl,rfl,rfl⟩
 |some x=>show _/\_;simp only[Option.getD_some,Me];split<;>exact⟨rfl,rfl,rfl,rfl,rfl⟩
def ae.head{fs:List<|Str×V}(h:ae K C H a o)(hi:o2.items=o.items)(M:o2.enemies=o.enemies)(S:o2.plan=o.plan):
  ae K C (upd H a.B (.ins C.b dx<|bF a.lq a.le a.ld o2)) a o2:=by
 obtain⟨dx0,F⟩:=h.hd;have k:ay a.B H<|upd H a.B (.ins C.b dx<|bF a.lq a.le a.ld o2):=ay.upd;have Y:∀p xs,H p=some (.lst xs)->p≠a.B:=λp xs e z=>by rw[z,F]at e;cases e
 have nt:∀p xs,H p=some (.dT xs)->p≠a.B:=λp xs e z=>by rw[z,F]at e;cases e
 have nq:∀p A dx x ly,H p=some (.ins A dx<|qF x ly)->p≠a.B:=λp A dx x ly e z=>by rw[z,F]at e;have:=(HO.ins.inj<|ri e).2.2;have:=congrArg (λl=>l.map (·.1)) this;exact absurd this (by show¬([_,_,_,_,_,_]:Ba)=[_,_,_,_,_,_,_];simp)
 have nd:∀p A dx w v1 v2 lo hi,H p=some (.ins A dx<|dF w v1 v2 lo hi)->p≠a.B:=λp A dx w v1 v2 lo hi e z=>by rw[z,F]at e;have:=(HO.ins.inj<|ri e).2.2;have:=congrArg List.length this;exact absurd this (by show¬(6:Nat)=5;decide)
 have ks:∀b xs,ee K H b xs->ee K (upd H a.B (.ins C.b dx<|bF a.lq a.le a.ld o2)) b xs:=λb xs q=>by
  rcases q with(q|⟨z,q⟩)|q
  .exact .inl (.inl<|k _ _ (λz=>by rw[z,F]at q;cases q) q)
  .exact .inl (.inr ⟨z,k _ _ (λz=>by rw[z,F]at q;cases q) q⟩)
  .exact .inr q
 refine⟨⟨dx,ah⟩,k _ _ (Y _ _ h.lq) h.lq,by rw[hi];exact h.ql,by rw[hi];exact h.yl,?_,by rw[M];exact k _ _ (nt _ _ h.le) h.le,k _ _ (Y _ _ h.ld) h.ld,?_,h.sep,h.qn,?_⟩
 .intro i x p y h1 h2 h3;rw[hi]at h1;obtain⟨⟨j,J⟩,U,I⟩:=h.q i x p y h1 h2 h3;exact⟨⟨j,k _ _ (nq _ _ _ _ _ J) J⟩,k _ _ (Y _ _ U) U,I⟩
 .rw[S];refine L2.Paired.mono (λd v r=>?_) h.d;obtain⟨p,v1,v2,e,⟨j,J⟩,U,I⟩:=r;refine⟨p,v1,v2,e,⟨j,k _ _ (nd _ _ _ _ _ _ _ _ J) J⟩,?_,?_⟩
  .obtain⟨b,Z,e2⟩:=U;exact⟨b,Z,ks _ _ e2⟩
  .cases hB:ME d with
   |none=>rw[hB]at I;exact I
   |some s=>rw[hB]at I;obtain⟨b,Z,e2⟩:=I;exact⟨b,Z,ks _ _ e2⟩
 .have ok:=h.ok;exact⟨by rw[hi];exact ok.rp,by rw[hi];exact ok.it,by rw[hi,M];exact ok.en,by rw[M];exact ok.JI,by rw[M];exact ok.un,by rw[S];exact ok.pl,by rw[S];exact ok.pw,by rw[S];exact ok.pn⟩
def ae.keep{a:jo}(h:ae K C H a o)(kl:∀b xs,H b=some (.lst xs)->H' b=some (.lst xs))(z:∀b A dx fs,H b=some (.ins A dx fs)->H' b=some (.ins A dx fs))(kd:H' a.le=some (.dT<|rX o.enemies))(ks:∀b xs,ee K H b xs->ee K H' b xs):ae K C H' a o:=by
 refine⟨?_,kl _ _ h.lq,h.ql,h.yl,?_,kd,kl _ _ h.ld,?_,h.sep,h.qn,h.ok⟩
 .obtain⟨dx,e⟩:=h.hd;exact⟨dx,z _ _ _ _ e⟩
 .intro i x p y h1 h2 U;obtain⟨⟨dx,F⟩,I,j⟩:=h.q i x p y h1 h2 U;exact⟨⟨dx,z _ _ _ _ F⟩,kl _ _ I,j⟩
 .refine L2.Paired.mono (λd v r=>?_) h.d;obtain⟨p,v1,v2,e,⟨dx,F⟩,I,j⟩:=r;refine⟨p,v1,v2,e,⟨dx,z _ _ _ _ F⟩,?_,?_⟩
  .obtain⟨b,J,M⟩:=I;exact⟨b,J,ks _ _ M⟩
  .cases S:ME d with
   |none=>rw[S]at j;exact j
   |some s=>rw[S]at j;obtain⟨b,J,M⟩:=j;exact⟨b,J,ks _ _ M⟩
def vN(k:ay D H H')(j:H D=some (.dT kvs)){xs:List V}(h:ee K H b xs):ee K H' b xs:=by
 rcases h with(h|⟨z,h⟩)|h
 .exact .inl (.inl<|k _ _ (λz=>by rw[z,j]at h;cases h) h)
 .exact .inl (.inr ⟨z,k _ _ (λz=>by rw[z,j]at h;cases h) h⟩)
 .exact .inr h
def qO.mono{v:V}(k:∀b xs,ee K H b xs->ee K H' b xs):∀{t:Option AU},qO K H t v->qO K H' t v
 |none,h=>h
 |some _,h=>let⟨a,e,h1⟩:=h;⟨a,e,k _ _ h1⟩
def kN(l:AU):List Key:=l.map λi:Nat=>Sum.inl (i:Int)
def aeV(l:AU):(kN l).map kV=fm l:=by unfold kN;rw[oW];rfl
theorem QH:∀{l m:AU},kN l=kN m->l=m
 |[],[],_=>rfl
 |[],_::_,h=>by cases h
 |_::_,[],h=>by cases h
 |a::l,b::m,h=>by obtain⟨h1,h2⟩:=XA h;have h1:=Sum.inl.inj h1;rw[QH h2,Int.ofNat.inj h1]
def Memo(K:cn)(o:Office)(H:Hp)(kvs:List<|List Key×V):Prop:=∀(l:AU) v,gz kvs (kN l)=some v->∀o',jK o o' ->Vbxoab.free o'=l->qO K H (Vbxoab.papers o').head? v
def Memo.mono{H H':Hp}(k:∀b xs,ee K H b xs->ee K H' b xs)(h:Memo K o H kvs):Memo K o H' kvs:=λl v j o' z F=>by
 have:=h l v j o' z F;cases e:(Vbxoab.papers o').head? with
 |none=>rw[e]at this;exact this
 |some p=>rw[e]at this;obtain⟨a,I,J⟩:=this;exact⟨a,I,k _ _ J⟩
def qW(h:p∈Vbxoab.papers o):p.Sublist<|Vbxoab.free o:=by exact(MA.gG _ _).mp (tL.mp (tL.mp h).1).1
def ug{p:AU}(h:p∈Vbxoab.papers o):p.Nodup:=(qW h).nodup<|mN o
def gw{p:AU}(h:p∈Vbxoab.papers o):∀i∈p,i<o.items.length:=λi hi=>Dd<|(qW h).subset hi
structure LsI(K:cn)(C:Cl)(H0 H':Hp)(a':jo)(o o':Office)(fd:Addr)(kvs:List<|List Key×V)(j n:Nat):Prop where
 kp:aq H0 H'
 fr:∀b∈foot a',H0 b=none
 ff:H0 fd=none
 ne:fd≠a'.le
 bk:ae K C H' a' o'
 st:jK o o'
 dc:H' fd=some (.dT kvs)
 kl:kvs.length<=j
 me:Memo K o H' kvs
 us:∀x∈o'.items,x.used.length<890+j
 jn:j<=n
 la:Vbxoab.lasts n o=j+Vbxoab.lasts (n-j) o'
def Jk(K:cn)(C:Cl):Sp:=λvs H Q _=>C_ λ(a:jo)(o:Office)(n:Nat)=>vs=[.ref a.B,nv n]/\ae K C H a o/\n<=8/\(∀x∈o.items,x.used.length<890)/\rN (Vbxoab.lasts n o) H Q
def Jl{o:Office}(h:12<(Vbxoab.free o).length):Vbxoab.lasts n o=0:=by
 cases n with
 |zero=>rfl
 |succ n=>unfold Vbxoab.lasts;rw[dt<|by exact h]
def Jm{o:Office}(h:(Vbxoab.papers o).head?=none):Vbxoab.lasts n o=0:=by
 cases n with
 |zero=>rfl
 |succ n=>
  unfold Vbxoab.lasts;split
  .rfl
  .rw[h]
def Jn{o:Office}(j:¬12<(Vbxoab.free o).length)(h:(Vbxoab.papers o).head?=some p):Vbxoab.lasts (n+1) o=Vbxoab.lasts n {useAll o p with year:=o.year+1}+1:=by rw[Vbxoab.lasts,c0<|by exact j,h]
def QI{p:AU}(h:∀x∈o.items,x.used.length<m):∀x∈(useAll o p).items,x.used.length<m+1:=by
 intro x j;obtain⟨i,hi⟩:=J7.mp j;rw[ji]at hi;cases e:o.items[i]? with
 |none=>rw[e]at hi;cases hi
 |some y=>
  rw[e]at hi;have z:=h y<|oA e;have hi:(if p.contains i=true then uf o.year y else y)=x:=ri hi;rw[<-hi];split
  .show(y.used++[o.year]).length<m+1;rw[mu];simp;lia
  .lia
abbrev MY:Ba:=["bank","at_most","trial","firsts","used","candidates","paper"]
def ie:aB MY ["bank","at_most"]<|ai<|top 77:=fj
def Jo(T:Txt K mg C):Fn P w K mg base "lasting" 8 ["bank","at_most"]<|Jk K C:=by
 refine T.MB.go ie ?_;rintro f dg A outer s H _ Q E hr⟨a,o,n,rfl,hb,hn,hu,k⟩
 refine⟨_,(af (eC 2 ie.nd<|c6 (vn T) hr<|ab (pv 0) ag)
  (af (eC 3 ie.nd EI)
  (af (eC 4 ie.nd aw)
  (af (wu vu (PW.pt<|Hn (aV wC (pv 4) (pv 1)<|bg _)<|BG<|gk<|bU<|c6 (bN T) hr<|ab (pv 2) ag) (af (eC 5 ie.nd<|fJ (LQ K) rfl T.Ti SE<|ab (c6 (fw T) hr<|ab (pv 2) ag) ag)
  (af (bh (gy (AO (uA hr) (pv 5)<|pv 3) rfl) (ao<|BW (uA hr) (pv 3) (pv 5) (c6 (p9 T) hr<|ab (pv 2) ag) rfl) aF)
  (af (eC 6 ie.nd<|J2 (uA hr) (pv 3) (pv 5) λ_ _=>rfl)
  (af (bh (gy<|gN<|pv 6) (ao NR) aF)
  (af (jR<|c6 (sD T) hr<|ab (pv 2)<|ab (pv 6) ag)
  (af (cU K (pv 2)<|br iH (bT K<|pv 2) aw)
  (ao<|eC 4 ie.nd<|br iH (pv 4) aw))))))))
  (ao<|au<|pv 4))))),?_⟩
 refine aK rfl ?_;symm;refine⟨a,o,rfl,hb,λH1 F k1 EB qJ=>?_⟩;symm;intro fd Ws;generalize e_:upd H1 fd _=H2;have hdc:H2 fd=some (.dT []):=by subst e_;exact ah
 have k2:aq H1 H2:=by subst e_;exact aq.new Ws
 have sO:=k2.ae qJ;symm;refine CS (λz σ H'=>F_ λ(F:jo)(o':Office)(kvs:List<|List Key×V)(j:Nat)(v5 v6:Option V)=>σ=[some (.ref a.B),some<|nv n,some (.ref F.B),some (.ref fd),some<|nv j,v5,v6]/\j+z=n/\LsI K C H H' F o o' fd kvs j n) n ⟨F,o,[],0,none,none,rfl,by lia,(k1.trans k2),EB,(k1.free Ws),(λz=>by have:=qJ.le;rw[<-z,Ws]at this;cases this),sO,jK.refl o,hdc,ez _,(λl v h=>by cases h),hu,ti _,by simp⟩ ?_;rintro z σ H'⟨F,o',kvs,j,v5,v6,rfl,hjz,I⟩;have bk:=I.bk;symm;refine jT (λh=>?_) λh=>?_;rotate_left
 .have hjn:¬j<n:=by simpa using h
  refine CT (by simpa using hjn) ?_;symm;have e:Vbxoab.lasts n o=j:=by
   rw[I.la];have:n-j=0:=by lia
   rw[this];rfl
  have:=k H' I.kp;rw[e]at this;exact this
 have hjn:j<n:=by simpa using h
 symm;refine⟨F,o',rfl,bk,λH3 k3=>?_⟩;have bk3:=k3.ae bk;by_cases hf:12<(Vbxoab.free o').length
 .symm;refine CT (by simp[hf]) ?_;symm;have e:Vbxoab.lasts n o=j:=by rw[I.la,Jl hf];rfl
  have:=k H3<|I.kp.trans k3;rw[e]at this;exact this
 symm;refine P8 (by simp[hf]) ?_;symm;refine⟨F,o',rfl,bk3,λH4 pl k4 jc hL=>?_⟩;symm;refine⟨pl,_,rfl,.inl ⟨az.of hL,λtp htp=>?_⟩⟩;have k5:=(k3.trans k4).trans<|aq.new (o:=.tup<|fm<|Vbxoab.free o') htp;generalize e_:upd H4 tp _=H5 at k5;have hT:H5 tp=some (.tup<|(kN<|Vbxoab.free o').map kV):=by subst e_;rw[ah,aeV]
 have bk5:=k5.ae bk;have Z:=k5 _ _ I.dc;have me5:Memo K o H5 kvs:=I.me.mono λ_ _ q=>k5.gh q;have kl:=I.kl;have kp5:=I.kp.trans k5;symm;refine⟨fd,_,rfl,mv.t Z hT,?_⟩;have aeZ:(Vbxoab.free o').length<=12:=by lia
 have ajR:z=(z-1)+1:=by lia
 cases S:gz kvs (kN<|Vbxoab.free o')
 case' none=>
  symm;refine⟨F,o',rfl,bk5,aeZ,λH6 v k6 hv=>?_⟩;have J:=k6 _ _ Z;have U:=k6 _ _ hT;symm;refine⟨fd,_,rfl,za.t J U<|U7 (m:=8)<|by lia,?_⟩;have Y:ay fd H6<|upd H6 fd (.dT<|putK kvs (kN<|Vbxoab.free o') v):=ay.upd;have M:(upd H6 fd (.dT<|putK kvs (kN<|Vbxoab.free o') v)) fd=some (.dT<|putK kvs (kN<|Vbxoab.free o') v):=ah;have kl7:(putK kvs (kN<|Vbxoab.free o') v).length<=j+1:=lp (kQ ..) (by lia);have hv7:gz (putK kvs (kN<|Vbxoab.free o') v) (kN<|Vbxoab.free o')=some v:=by rw[ED,dt rfl]
  have mm:Memo K o H6<|putK kvs (kN<|Vbxoab.free o') v:=λl u hl o2 BK Pj=>by
   rw[ED]at hl;by_cases e:kN l=kN (Vbxoab.free o')
   .rw[dt e]at hl;cases hl;rw[<-(I.st.symm.trans BK).papers (Pj.trans<|QH e).symm];exact hv
   .rw[c0 e]at hl;exact qO.same k6<|me5 l u hl o2 BK Pj
  generalize upd H6 fd (.dT<|putK kvs (kN<|Vbxoab.free o') v)=H7 at Y M|-;generalize putK kvs (kN<|Vbxoab.free o') v=ae2 at M kl7 hv7 mm;have kp7:aq H H7:=eT (kp5.trans k6) I.ff Y;have bk6:=k6.ae bk5;have bk7:ae K C H7 F o':=bk6.keep (λb xs e=>Y _ _ (λz=>by rw[z,J]at e;cases e) e) (λb A dx fs e=>Y _ _ (λz=>by rw[z,J]at e;cases e) e) (Y _ _ (iq I.ne) bk6.le) λb xs q=>vN Y J q;have me7:Memo K o H7 ae2:=mm.mono λb xs q=>vN Y J q;have W:qO K H7 (Vbxoab.papers o').head? v:=hv.mono λb xs q=>vN Y J q;have hT7:=Y _ _ (λz=>by rw[z,J]at U;cases U) U;clear Y mm hv k6 J U bk6 me5 kp5 Z hT S kl
 case' some v=>
  symm;refine aA rfl ?_;have W:qO K H5 (Vbxoab.papers o').head? v:=me5 _ v S o' I.st rfl;have kl7:kvs.length<=j+1:=by lia
  have bk7:=bk5;have M:=Z;have me7:=me5;have kp7:=kp5;have hv7:=S;have hT7:=hT
 all_goals
  symm;refine⟨fd,v,rfl,hv7▸mv.t M hT7,?_⟩;cases hp:(Vbxoab.papers o').head? with
  |none=>
   rw[hp]at W;obtain rfl:v=.eQ:=W;symm;have e:Vbxoab.lasts n o=j:=by rw[I.la,Jm hp];rfl
   have:=k _ kp7;rw[e]at this;exact this
  |some p=>
   rw[hp]at W;obtain⟨pa,rfl,Yg⟩:=W;have TH:p∈Vbxoab.papers o':=apd hp;symm;refine⟨F,o',pa,p,rfl,bk7,.inr Yg,ug TH,gw TH,(λx hx=>by have:=I.us x hx;lia),λH8 k8 bk8=>?_⟩;obtain⟨dx,hB8⟩:=bk8.hd;symm;refine⟨F.B,C.b,dx,_,rfl,hB8,T.fe,T.rW,by simp[bF],?_⟩;have kp8:aq H H8:=k8.same kp7 λb hb=>I.fr b (by simp[foot,hb]);have fB:H F.B=none:=I.fr _ (by simp[foot]);have dc8:=k8 _ _ (λz=>by obtain⟨_,e⟩:=bk7.Jg _ z;rw[M]at e;cases e) M;have bk9:=ae.head (dx:=dx) (fs:=[]) (o2:={useAll o' p with year:=o'.year+1}) bk8 rfl rfl rfl;have Xf:ay F.B H8<|upd H8 F.B (.ins C.b dx<|bF F.lq F.le F.ld {useAll o' p with year:=o'.year+1}):=ay.upd;have nfB:fd≠F.B:=λz=>by rw[z,hB8]at dc8;cases dc8
   have hla:Vbxoab.lasts (n-j) o'=Vbxoab.lasts (n-(j+1)) {useAll o' p with year:=o'.year+1}+1:=by
    have:n-j=(n-(j+1))+1:=by lia
    rw[this];exact Jn hf hp
   have ka:∀b xs,ee K H8 b xs->ee K (upd H8 F.B (.ins C.b dx<|bF F.lq F.le F.ld {useAll o' p with year:=o'.year+1})) b xs:=λb xs q=>by
    rcases q with(q|⟨z,q⟩)|q
    .exact .inl (.inl<|Xf _ _ (λz=>by rw[z,hB8]at q;cases q) q)
    .exact .inl (.inr ⟨z,Xf _ _ (λz=>by rw[z,hB8]at q;cases q) q⟩)
    .exact .inr q
   symm;refine⟨z-1,by lia,F,{useAll o' p with year:=o'.year+1},_,j+1,_,_,rfl,by lia,⟨eT kp8 fB Xf,I.fr,I.ff,I.ne,bk9,I.st.trans<|jK.used o' p _,Xf _ _ nfB dc8,kl7,(me7.mono λb xs q=>k8.aaZ bk7.Jg q).mono ka,λx hx=>QI I.us x hx,by lia,?_⟩⟩;rw[I.la,hla];lia
def eu(s:String):Str.ofString s=sB (text s):=Str.ofString_eq_toList s
def kE(a b:AU):sB a++sB b=sB (a++b):=by show Str.mk (a.toArray++b.toArray)=_;rw[List.append_toArray];rfl
def uh(n:Nat):Str.ofString (toString (n:Int))=sB (decimal n):=by rw[eu];rfl
theorem Gx(b:Nat):∀(f n:Nat)(ds:List Char),(Nat.toDigitsCore b f n ds).length<=f+ds.length
 |0,_,ds=>by simp[Nat.toDigitsCore]
 |f+1,n,ds=>by
  rw[Nat.toDigitsCore];split
  .simp;lia
  .have:=Gx b f (n/b)<|Nat.digitChar (n%b)::ds;simp at this;lia
def o8(n:Nat):(decimal n).length<=n+1:=by
 show((toString n).toList.map _).length<=_;rw[ek];have:(toString n).toList=Nat.toDigits 10 n:=by simp
 rw[this];exact Gx 10 (n+1) n []
def ui{n:Nat}(h:n<=9999):((n:Int)).natAbs.log2<1920:=by
 rw[Int.natAbs_natCast];have:n.log2<14:=by
  by_cases h0:n=0
  .subst h0;decide
  .rw[Nat.log2_lt h0];lia
 lia
def o9:Str.empty=sB []:=rfl
def Gy(s:Sel)(h:s≠.all):sB []++CU s++Str.ofString " "++Str.ofString (toString (oh s:Int))=sB (joined<|selWords s):=by rw[uh];cases s<;>first|exact absurd rfl h|(simp only[CU,oh];rw[eu,kE,eu,kE,kE];rfl)
def mP(s:Sel)(h:oh s<=9999):(joined<|selWords s).length<=10100:=by
 cases s<;>simp only[oh]at h<;>simp only[selWords,joined,mu,kA]
 .decide
 all_goals
  rename_i n;have:=o8 n
 .have e:(text "topic").length=5:=by decide
  lia
 .have e:(text "kind").length=4:=by decide
  lia
 .have e:(text "hard").length=4:=by decide
  lia
 .have e:(text "harder").length=6:=by decide
  lia
 .have e:(text "question").length=8:=by decide
  lia
def QJ(s:Sel):(CU s).length<=20:=by cases s<;>(simp only[CU];decide)
def Di(K:cn)(C:Cl):Sp:=λvs H Q _=>B_ λ(s:Sel)(v:V)=>vs=[v]/\jM K H s v/\oh s<=9999/\Q (.str<|sB<|joined<|selWords s) H
abbrev Gz:Ba:=["sel","word","number"]
def mQ:aB Gz ["sel"]<|ai<|top 9:=fj
def sE(T:Txt K mg C):Fn P w K mg base "sel_words" 1 ["sel"]<|Di K C:=by
 refine T.Fv.go mQ ?_;rintro f F A outer s H _ Q E M⟨s,v,rfl,hs,z,k⟩;obtain⟨p,rfl,hp⟩:=hs
 refine⟨_,(af (eC 1 mQ.nd<|bp (ei K) (pv 0) aw λ_ _=>rfl)
  (af (eC 2 mQ.nd<|bp (ei K) (pv 0) aw λ_ _=>rfl)
  (ao<|au<|lM (aV eS (pv 1) bS<|bg _) (pv 1)<|Ci<|qm (pv 1)<|qk<|HN (pv 2) HM))),?_⟩
 refine aK rfl ?_;symm;refine gB hp rfl ?_;symm;refine gB hp (m:=1) rfl ?_;symm;by_cases h:s=.all
 .subst h;symm;exact k
 .have e:(decide<|CU s="all")=false:=kx (by cases s<;>first|exact absurd rfl h|(simp only[CU];decide));refine aA e ?_;symm;have hd:=o8<|oh s;have I:=QJ s;have S:=mP s z;have j:∀a b:Str,(a++b).length=a.length+b.length:=λa b=>by show(a.cps++b.cps).size=_;rw[Array.size_append];rfl
  have h0:(Str.empty).length=0:=rfl;have h1:(Str.ofString " ").length=1:=by decide
  have h2:(Str.ofString<|toString (oh s:Int)).length<=10000:=by rw[uh,gT];lia
  refine nZ (sz (m:=20) I) (sz (m:=20)<|by rw[j,h0];lia) ?_;refine lB (sz (m:=21)<|by rw[j,j,h0,h1];lia) ?_;symm;refine O0 (ui z) (sz (m:=10100)<|by rw[j,j,j,h0,h1];lia) ?_;refine Cj (sz (m:=10100)<|by rw[j,j,j,h0,h1];lia) ?_;have J:=Gy s h;rw[o9,J];exact k
theorem gn:∀(a b:List AU),a≠[]->b≠[]->joined (a++b)=joined a++(32::joined b)
 |[],_,h,_=>absurd rfl h
 |[x],[],_,h=>absurd rfl h
 |[x],y::b,_,_=>rfl
 |x::y::a,b,_,h=>by show x++(32::joined ((y::a)++b))=(x++(32::joined (y::a)))++_;rw[(gn (y::a) b (R7 _ _) h)];simp
def de(s:Sel):selWords s≠[]:=by cases s<;>exact R7 _ _
def QK{w:Nat}(h:w<=2):lY w=sB (text<|["count","marks","minutes"].getD w ""):=by
 match w,h with
 |0,_=>exact eu _
 |1,_=>exact eu _
 |2,_=>exact eu _
def d8(a b:Str):(a++b).length=a.length+b.length:=by show(a.cps++b.cps).size=_;rw[Array.size_append];rfl
def QM(w:Nat):(lY w).length<=10:=by unfold lY;split;decide;split;decide;decide
def Jp(K:cn)(C:Cl):Sp:=λvs H Q _=>B_ λ(d:Demand)(v:V)=>vs=[v]/\iN K C H d v/\CV d/\(∀s w l h,d=Demand.range s w l h->w<=2)/\Q (.str<|sB<|joined<|demandWords d) H
abbrev M0:Ba:=["demand","word","first","second","middle","low","high"]
def ig:aB M0 ["demand"]<|ai<|top 10:=fj
def Jq(T:Txt K mg C):Fn P w K mg base "as_line" 2 ["demand"]<|Jp K C:=by
 refine T.Mt.go ig ?_;rintro f dg A outer s H _ Q E hr⟨d,v,rfl,hd,hn,hw,k⟩;obtain⟨p,v1,v2,rfl,hd⟩:=hd;obtain⟨n1,S,n3,n4⟩:=hn;have z:(Str.empty).length=0:=rfl;have I:(Str.ofString " ").length=1:=by decide
 have J:(Str.ofString " to ").length=4:=by decide
 have W:(Str.ofString "then").length=4:=by decide
 have Y:(Str.ofString "with").length=4:=by decide
 have M:=mP _ n1;have h1:=hd.one;have h2:=hd.two;have Z:=bw T hd
 refine⟨_,(af (eC 1 ig.nd<|bT K<|pv 0)
  (af (eC 2 ig.nd<|c6 (sE T) hr<|ab (bT K<|pv 0) ag)
  (af (bh (gy<|gN<|bT K<|pv 0) (af (eC 5 ig.nd<|bT K<|pv 0)
  (af (eC 6 ig.nd<|bT K<|pv 0)
  (ao<|au<|Ci<|qm (pv 2)<|qk<|qm (pv 1)<|qk<|HN (pv 5)<|qk<|HN (pv 6) HM))) aF)
  (af (eC 3 ig.nd<|c6 (sE T) hr<|ab (bT K<|pv 0) ag)
  (af (eC 4 ig.nd<|lM (aV eS (pv 1) bS<|bg _) bS bS)
  (ao<|au<|Ci<|qm (pv 1)<|qk<|qm (pv 2)<|qk<|qm (pv 4)<|qk<|qm (pv 3) HM)))))),?_⟩
 refine aK (σ':=[some _,none,none,none,none,none,none]) rfl ?_;symm;refine⟨uI d,v1,rfl,h1,n1,?_⟩;cases d with
 |range s wt lo hi=>
  obtain rfl:v2=.eQ:=h2;have hw:=hw s wt lo hi rfl;have d3:=o8 lo;have d4:=o8 hi;have ZG:lo<=9999:=n3;have hhi:hi<=9999:=n4;have z3:(Str.ofString<|toString (lo:Int)).length<=10000:=by rw[uh,gT];lia
  have z4:(Str.ofString<|toString (hi:Int)).length<=10000:=by rw[uh,gT];lia
  have M:(sB<|joined<|selWords s).length<=10100:=M;have w1:=QM wt;symm;refine nZ (sz (m:=10100) M) (sz (m:=10100)<|by rw[d8,z];simp only[uI];lia) ?_;refine lB (sz (m:=10101)<|by simp only[d8,z,I,uI];lia) ?_;symm;refine nZ (sz (m:=10) w1) (sz (m:=10200)<|by simp only[d8,z,I,uI,pH];lia) ?_;refine lB (sz (m:=10201)<|by simp only[d8,z,I,uI,pH];lia) ?_;symm;refine O0 (ui ZG) (sz (m:=20300)<|by simp only[d8,z,I,uI,pH,P9];lia) ?_;refine lB (sz (m:=20310)<|by simp only[d8,z,I,J,uI,pH,P9];lia) ?_;symm;refine O0 (ui hhi) (sz (m:=30400)<|by simp only[d8,z,I,J,uI,pH,P9,To];lia) ?_;refine Cj (sz (m:=30400)<|by simp only[d8,z,I,J,uI,pH,P9,To];lia) ?_;have e:Str.empty++sB (joined<|selWords s)++Str.ofString " "++lY wt++Str.ofString " "++Str.ofString (toString (lo:Int))++Str.ofString " to "++Str.ofString (toString (hi:Int))=sB (joined<|demandWords (.range s wt lo hi)):=by
   rw[uh,uh,QK hw,o9,eu,eu];simp only[kE];rw[gU];show _=joined (selWords s++_);rw[gn _ _ (de s)<|R7 _ _];simp only[joined];have t1:text " "=[32]:=by decide
   have t2:text " to "=32::(text "to"++[32]):=by decide
   rw[t1,t2];simp
  have:=e▸k;exact this
 |whenever F j=>
  obtain⟨q,rfl,hq⟩:=(show jM K H j v2 from h2);have S:=S j rfl;have U:=mP _ S;have M:(sB<|joined<|selWords F).length<=10100:=M;have U:(sB<|joined<|selWords j).length<=10100:=U;have w1:(Str.ofString "if").length=2:=by decide
  symm;refine⟨j,_,rfl,⟨q,rfl,hq⟩,S,?_⟩;symm;refine aC (show decide (pH (Demand.whenever F j)="if")=true by simp only[pH];decide) ?_;symm;refine nZ (sz (m:=2)<|by simp only[pH];lia) (sz (m:=10100)<|by rw[d8,z];simp only[pH];lia) ?_;refine lB (sz (m:=10101)<|by simp only[d8,z,I,pH];lia) ?_;symm;refine nZ (sz (m:=10100) M) (sz (m:=10200)<|by simp only[d8,z,I,uI,pH];lia) ?_;refine lB (sz (m:=10201)<|by simp only[d8,z,I,uI,pH];lia) ?_;symm;refine nZ (sz (m:=4)<|by lia) (sz (m:=10300)<|by simp only[d8,z,I,W,uI,pH];lia) ?_;refine lB (sz (m:=20310)<|by simp only[d8,z,I,J,W,uI,pH];lia) ?_;symm;refine nZ (sz (m:=10100) U) (sz (m:=30400)<|by simp only[d8,z,I,J,W,uI,pH];lia) ?_;refine Cj (sz (m:=30400)<|by simp only[d8,z,I,J,W,uI,pH];lia) ?_;have e:Str.empty++Str.ofString "if"++Str.ofString " "++sB (joined<|selWords F)++Str.ofString " "++Str.ofString "then"++Str.ofString " "++sB (joined<|selWords j)=sB (joined<|demandWords (.whenever F j)):=by
   rw[o9,eu,eu,eu];simp only[kE];rw[gU];show _=joined (([text "if"]++selWords F)++([text "then"]++selWords j));rw[gn _ _ (by simp)<|by simp,gn _ _ (by simp)<|de _,gn _ _ (by simp)<|de _];simp only[joined];have t1:text " "=[32]:=by decide
   rw[t1];simp
  have:=e▸k;exact this
 |apart F j=>
  obtain⟨q,rfl,hq⟩:=(show jM K H j v2 from h2);have S:=S j rfl;have U:=mP _ S;have M:(sB<|joined<|selWords F).length<=10100:=M;have U:(sB<|joined<|selWords j).length<=10100:=U;have w1:(Str.ofString "not").length=3:=by decide
  symm;refine⟨j,_,rfl,⟨q,rfl,hq⟩,S,?_⟩;symm;refine aA (show decide (pH (Demand.apart F j)="if")=false from kx<|by simp only[pH];decide) ?_;symm;refine nZ (sz (m:=3)<|by simp only[pH];lia) (sz (m:=10100)<|by rw[d8,z];simp only[pH];lia) ?_;refine lB (sz (m:=10101)<|by simp only[d8,z,I,pH];lia) ?_;symm;refine nZ (sz (m:=10100) M) (sz (m:=10200)<|by simp only[d8,z,I,uI,pH];lia) ?_;refine lB (sz (m:=10201)<|by simp only[d8,z,I,uI,pH];lia) ?_;symm;refine nZ (sz (m:=4)<|by lia) (sz (m:=10300)<|by simp only[d8,z,I,Y,uI,pH];lia) ?_;refine lB (sz (m:=20310)<|by simp only[d8,z,I,J,Y,uI,pH];lia) ?_;symm;refine nZ (sz (m:=10100) U) (sz (m:=30400)<|by simp only[d8,z,I,J,Y,uI,pH];lia) ?_;refine Cj (sz (m:=30400)<|by simp only[d8,z,I,J,Y,uI,pH];lia) ?_;have e:Str.empty++Str.ofString "not"++Str.ofString " "++sB (joined<|selWords F)++Str.ofString " "++Str.ofString "with"++Str.ofString " "++sB (joined<|selWords j)=sB (joined<|demandWords (.apart F j)):=by
   rw[o9,eu,eu,eu];simp only[kE];rw[gU];show _=joined (([text "not"]++selWords F)++([text "with"]++selWords j));rw[gn _ _ (by simp)<|by simp,gn _ _ (by simp)<|de _,gn _ _ (by simp)<|de _];simp only[joined];have t1:text " "=[32]:=by decide
   rw[t1];simp
  have:=e▸k;exact this
def g7(j:x=sB [c])(q:Q (nv c) H):ZQ [.str x] H Q:=by subst j;exact⟨_,rfl,rfl,q⟩
def QO:Str.ofString "\n"=sB [10]:=by decide
def Xk:Str.ofString " "=sB [32]:=by decide
def o_0:Str.ofString "0"=sB [48]:=by decide
def o_9:Str.ofString "9"=sB [57]:=by decide
def o_a:Str.ofString "a"=sB [97]:=by decide
def o_z:Str.ofString "z"=sB [122]:=by decide
def o_q:Str.ofString "?"=sB [63]:=by decide
def Xl:∀k<10,(Str.ofString "0123456789").cps.toList[k]?=some (48+k):=by decide
def Xm:∀k<26,(Str.ofString "abcdefghijklmnopqrstuvwxyz").cps.toList[k]?=some (97+k):=by decide
def Jr(K:cn)(C:Cl):Sp:=λvs H Q _=>∃(n:Nat),vs=[nv n]/\Q (.str<|sB [MA.sgn n]) H
abbrev M1:Ba:=["byte"]
def Js:aB M1 ["byte"]<|ai<|top 17:=fj
def Jt(T:Txt K mg C):Fn P w K mg base "sign_of" 1 ["byte"]<|Jr K C:=by
 refine T.Mu.go Js ?_;rintro f F A outer s H _ Q E I⟨n,rfl,k⟩
 refine⟨_,(af (bh (aV eS (pv 0) (aE Cf rfl T.g7 rK<|ab bS ag)<|bg _) (ao<|au bS) aF)
  (af (bh (aV eS (pv 0) (aE Cf rfl T.g7 rK<|ab bS ag)<|bg _) (ao<|au bS) aF)
  (af (bh (Ej mW mW (aE Cf rfl T.g7 rK<|ab bS ag) (pv 0)<|aE Cf rfl T.g7 rK<|ab bS ag) (ao<|au<|bp HB (kgs T.P2) (br sV (pv 0)<|aE Cf rfl T.g7 rK<|ab bS ag) λ_ _=>rfl) aF)
  (af (bh (Ej mW mW (aE Cf rfl T.g7 rK<|ab bS ag) (pv 0)<|aE Cf rfl T.g7 rK<|ab bS ag) (ao<|au<|bp HB (kgs T.Mq) (br sV (pv 0)<|aE Cf rfl T.g7 rK<|ab bS ag) λ_ _=>rfl) aF)
  (ao<|au bS))))),?_⟩
 refine aK rfl ?_;symm;refine g7 QO ?_;symm;by_cases h1:n=10
 .subst h1;refine aC (by decide) ?_;symm;rw[QO];exact k
 refine aA (kx<|by lia) ?_;symm;refine g7 Xk ?_;symm;by_cases h2:n=32
 .subst h2;refine aC (by decide) ?_;symm;rw[Xk];exact k
 refine aA (kx<|by lia) ?_;symm;refine g7 o_0 ?_;symm;by_cases j:48<=n/\n<=57
 .refine aC (ki<|by lia) ?_;symm;refine g7 o_9 ?_;symm;refine aC (ki<|by lia) ?_;symm;refine g7 o_0 ?_;symm;have e:((n:Int)-(48:Nat))=((n-48:Nat):Int):=by lia
  rw[e];have hs:MA.sgn n=48+(n-48):=by unfold MA.sgn;rw[c0 h1,c0 h2,dt j];lia
  refine⟨_,_,MA.sgn n,rfl,rfl,sz (m:=10)<|by decide,aP<|by rw[hs];exact Xl _<|by lia,?_⟩;exact k
 by_cases J:48<=n
 case' pos=>refine aC (ki<|by lia) ?_;symm;refine g7 o_9 ?_;symm;refine aA (kx<|by lia) ?_;symm
 case' neg=>refine aA (kx<|by lia) ?_;symm
 all_goals
  refine g7 o_a ?_;symm;by_cases z:97<=n/\n<=122
  .refine aC (ki<|by lia) ?_;symm;refine g7 o_z ?_;symm;refine aC (ki<|by lia) ?_;symm;refine g7 o_a ?_;symm;have e:((n:Int)-(97:Nat))=((n-97:Nat):Int):=by lia
   rw[e];have hs:MA.sgn n=97+(n-97):=by unfold MA.sgn;rw[c0 h1,c0 h2,c0 j,dt z];lia
   refine⟨_,_,MA.sgn n,rfl,rfl,sz (m:=26)<|by decide,aP<|by rw[hs];exact Xm _<|by lia,?_⟩;exact k
  have hs:MA.sgn n=63:=by unfold MA.sgn;rw[c0 h1,c0 h2,c0 j,c0 z]
  rw[hs]at k;by_cases M:97<=n
  .refine aC (ki<|by lia) ?_;symm;refine g7 o_z ?_;symm;refine aA (kx<|by lia) ?_;symm;rw[o_q];exact k
  .refine aA (kx<|by lia) ?_;symm;rw[o_q];exact k
abbrev sv(b:AU):V:=.str<|sB b
theorem join_one(f:Nat->Nat):∀l:AU,Str.join (Str.ofString "") (l.map λc=>sB [f c])=sB (l.map f)
 |[]=>rfl
 |[x]=>rfl
 |x::y::l=>by show sB [f x]++Str.ofString ""++Str.join _ ((y::l).map λc=>sB [f c])=_;rw[(join_one f<|y::l),eu,kE,kE];rfl
theorem GB(f:Nat->Nat):∀l:AU,((l.map λc=>sB [f c]).map (·.length)).sum=l.length
 |[]=>rfl
 |x::l=>by have:=GB f l;rw[ip,ip,yI,this,kA];show 1+_=_;lia
def M3(h:H p=none):aq H<|upd (upd H p a) p b:=λc u e=>by rw[aL<|aX e h,aL<|aX e h];exact e
def GC(K:cn)(C:Cl):Sp:=λvs H Q _=>B_ λ(p:Addr)(l:AU)=>vs=[.ref p]/\az K H p (fm l)/\l.length<=1000/\rL ((MA.jP 10 []<|l.map MA.sgn).map sv) H Q
abbrev x6:Ba:=["text","byte"]
def oE:aB x6 ["text"]<|ai<|top 18:=fj
def GD(T:Txt K mg C):Fn P w K mg base "lines_of" 2 ["text"]<|GC K C:=by
 refine T.Ip.go oE ?_;rintro f M A outer s H _ Q E S⟨p,l,rfl,F,U,k⟩;refine⟨_,(ao<|au<|OP (UM K bS<|eM (own:=[("byte",1)]) rfl oE.nd (bj K<|pv 0) (aU (N:=x6) (sc:=ai<|top 18)<|by decide+kernel) (λ_ _ _ _ _=>(gu 1 oE.nd)) (λ_ _ _ _ _=>bR) λ_ _ _ _ _=>(c6 (Jt T) S<|ab (pv 1) ag)) bS),?_⟩;refine aK (σ':=[some _,none]) rfl ?_;symm;refine⟨⟨_,rfl⟩,?_⟩;symm;refine ic (j:=1) l (λn v=>v=nv n) (λn=>some<|sB [MA.sgn n]) (λd v _=>v=V.str d) F (pmap _ _) (by rw[ek];exact sz U) (λD W i e v H' acc Nx Ns he Y I J Z n2=>?_) (λ_=>rfl) λD ys H' I W z pr=>?_
 .subst Y;symm;refine⟨e,rfl,?_⟩;exact Z _ rfl _ _ (aq.refl _) λ_ _=>rfl
 rw[bq pr,bX]at z;refine⟨_,D,l.map λn=>sB [MA.sgn n],rfl,rfl,.inl<|az.of z,?_,?_⟩
 .rw[GB,ek];have:(Str.ofString "").length=0:=by decide
  rw[this];lia
 have ej:PySem.Txt.join (Str.ofString "") (l.map λn=>sB [MA.sgn n])=sB (l.map MA.sgn):=(apM _ _).trans<|join_one MA.sgn l;rw[ej];refine⟨⟨_,rfl⟩,?_⟩;symm;refine⟨_,_,rfl,rfl,by decide,sz (m:=1002)<|by rw[gT,ek];lia,λp F=>?_⟩;rw[QO,Fm _ _<|by decide];refine k _ _ (I.trans<|aq.new F) (I.free F) ?_;rw[ah,oW];rfl
theorem Dk(c:Nat):∀(l acc:AU),(MA.jP c acc l).length<=l.length+1
 |[],acc=>by simp[MA.jP]
 |d::l,acc=>by
  unfold MA.jP;split
  .have:=Dk c l [];simp;lia
  .have:=Dk c l<|acc++[d];simp;lia
def GF(K:cn)(C:Cl):Sp:=λvs H Q _=>∃(l:AU),vs=[sv l]/\l.length<=1000/\rL (((MA.jP 32 [] l).filter λw=>!w.isEmpty).map sv) H Q
abbrev x8:Ba:=["line","word"]
def oF:aB x8 ["line"]<|ai<|top 19:=fj
def GG(T:Txt K mg C):Fn P w K mg base "words_of" 1 ["line"]<|GF K C:=by
 refine T.Iq.go oF ?_;rintro f U A outer s H _ Q E hr⟨l,rfl,hl,k⟩;refine⟨_,(ao<|au<|eM (own:=[("word",1)]) rfl oF.nd (bj K<|OP (pv 0) bS) (aU (N:=x8) (sc:=ai<|top 19)<|by decide+kernel) (λ_ _ _ _ _=>(gu 1 oF.nd)) (λ_ _ _ _ _=>(jS<|aV Ei (pv 1) bS<|bg _)) λ_ _ _ _ _=>(pv 1)),?_⟩;refine aK (σ':=[some _,none]) rfl ?_;symm;refine⟨⟨_,rfl⟩,?_⟩;symm;refine⟨_,_,rfl,rfl,by decide,sz (m:=1002)<|by rw[gT];lia,λp W=>?_⟩;rw[Xk,Fm _ _<|by decide];generalize F:upd H p _=H1;have Y:H1 p=some (.lst<|(MA.jP 32 [] l).map sv):=by subst F;rw[ah,oW];rfl
 have I:aq H H1:=by subst F;exact aq.new W
 symm;refine ic (j:=1) (MA.jP 32 [] l) (λn v=>v=sv n) (λw=>if(!w.isEmpty)=true then some w else none) (λd v _=>v=sv d) (az.of Y) (pmap _ _) (by rw[ek];exact sz (m:=1001)<|lp (Dk 32 l [])<|by lia) (λD J i e v H' acc Nx Ns he Z M S n1 n2=>?_) (λ_=>rfl) λD ys H' M J z pr=>?_
 .subst Z;symm;cases e with
  |nil=>exact n2 rfl _<|aq.refl _
  |cons c e=>refine aC (by rw[Mc,an9,eu,gU];exact λh=>nomatch h) ?_;symm;exact n1 _ rfl _ _ (aq.refl _) λ_ _=>rfl
 have e:=bq pr;rw[uD]at e;subst e;exact k _ _ (I.trans M) (I.free J) z
def GH(n:Nat):List<|Key×V:=[(Sum.inr "topic",nv 12),(Sum.inr "kind",nv 6),(Sum.inr "hard",nv 5),(Sum.inr "harder",nv 5),(Sum.inr "question",nv n)]
def zT(K:cn)(C:Cl):Sp:=λvs H Q _=>∃(n:Nat),vs=[nv n]/\∀H' p,aq H H' ->H' p=some (.dK<|GH n)->Q (.ref p) H'
abbrev Dl:Ba:=["how_many_questions"]
def zU:aB Dl ["how_many_questions"]<|ai<|top 20:=fj
def zV(T:Txt K mg C):Fn P w K mg base "sel_bounds" 1 ["how_many_questions"]<|zT K C:=by
 refine T.Cw.go zU ?_;rintro f j A outer s H _ Q E F⟨n,rfl,k⟩;refine⟨VA<|Uz [(tC (.str "topic"),tC (.int 12)),(tC (.str "kind"),tC (.int 6)),(tC (.str "hard"),tC (.int 5)),(tC (.str "harder"),tC (.int 5)),(tC (.str "question"),RH 0)],?a,?_⟩
 case a=>
  refine ao ?_;refine au ?_;refine So ?pp ?h1 ?h2 ?h0 ?h3
  case pp=>exact(nT bS aw<|nT bS aw<|nT bS aw<|nT bS aw<|nT bS (pv 0) Sn)
  case h1=>rfl
  case h2=>rfl
  case h0=>exact λh=>nomatch h
  case h3=>decide
 intro p z;refine⟨_,rfl,ah,GH n,rfl,(show(5:Nat)<=15 by decide),?_⟩;refine k _ p (M3 z) ?_;rw[ah];rfl
def optN:Option Nat->V
 |none=>.eQ
 |some k=>nv k
def isd:∀c<128,Unicode.isDigit c=digit c:=by decide+kernel
def Ju(z:∀c∈b,c<128):PySem.Txt.isdigit (sB b)=(!b.isEmpty&&b.all digit):=by
 unfold PySem.Txt.isdigit;have F:decide ((sB b).length>0)=!b.isEmpty:=by cases b<;>simp[gT]
 have I:(sB b).cps.all Unicode.isDigit=b.all digit:=by rw[List.all_toArray,q7,wy,wy];exact⟨λh x j=>by rw[<-isd x (z x j)];exact h x j,λh x j=>by rw[isd x<|z x j];exact h x j⟩
 rw[F,I]
def aa6(b:AU):PySem.NumText.digitsVal b=b.foldl (λn c=>10*n+(c-48)) 0:=by
 unfold PySem.NumText.digitsVal
 congr 1
 funext n c;lia
def x9(K:cn)(C:Cl):Sp:=λvs H Q _=>∃(b:AU),vs=[sv b]/\b.length<=1000/\(∀c∈b,c<128)/\Q (optN<|natOf b) H
abbrev zW:Ba:=["word"]
def ya:aB zW ["word"]<|ai<|top 21:=fj
def kG(T:Txt K mg C):Fn P w K mg base "read_number" 1 ["word"]<|x9 K C:=by
 refine T.zl.go ya ?_;rintro f Y A outer s H _ Q E hr⟨b,rfl,W,Z,k⟩
 refine⟨_,(af (bh (PW.pt<|jL (aV nN (aE ZX rfl T.aD eE<|ab (pv 0) ag) (lA T.zg)<|bg _)<|i9<|gk<|bU<|OR<|pv 0) (ao<|au iC) aF)
  (af (bh (PW.pt<|Hn (aV eS (bp HB (pv 0) aw λ_ _=>rfl) bS<|bg _)<|BG<|aV Ei (pv 0) bS<|bg _) (ao<|au iC) aF)
  (ao<|au<|fJ ZY rfl T.aaD Z2<|ab (pv 0) ag))),?_⟩
 refine aK rfl ?_;symm;refine⟨_,rfl,sz (m:=1000) W,?_⟩;symm;by_cases h1:4<b.length
 .refine aC (ki<|by rw[gT];lia) ?_;symm;have e:natOf b=none:=by unfold natOf;rw[dt (.inr (.inl h1))]
  rw[e]at k;exact k
 refine aA (kx<|by rw[gT];lia) ?_;symm;refine⟨⟨_,rfl⟩,_,rfl,rfl,trivial,?_⟩;rw[Ju Z];symm;cases hd:(!b.isEmpty&&b.all digit)with
 |false=>
  symm;have e:natOf b=none:=by
   unfold natOf;rw[dt];rw[Bool.and_eq_false_iff]at hd;rcases hd with hd|hd
   .exact .inl (by simpa using hd)
   .exact .inr (.inr (.inl hd))
  rw[e]at k;exact k
 |true=>
  rw[p0]at hd;obtain⟨M,F⟩:=hd;symm;cases b with
  |nil=>simp at M
  |cons c r=>
   refine⟨_,_,c,rfl,rfl,sz (m:=1000) W,aP (j:=0) rfl,?_⟩;symm;have ho:Str.ofString "0"=sB [48]:=o_0;rw[ho];have I:∀x∈c::r,48<=x/\x<=57:=λx hx=>by have:=wy.mp F x hx;unfold digit at this;simpa using this
   have J:∀S:VK,¬(c=48/\r≠[])->S (optN<|natOf<|c::r) H->UO [sv<|c::r] H S:=λS hn q=>by
    refine⟨_,_,rfl,PySem.intText_digits (x:=sB<|c::r) I (R7 _ _)<|by rw[gT];lia,by rw[gT];lia,?_⟩;have e:natOf (c::r)=some (PySem.NumText.digitsVal<|c::r):=by
     rw[aa6];unfold natOf;rw[c0];intro z;rcases z with z|z|z|⟨z,z2⟩
     .cases z
     .exact h1 z
     .rw[F]at z;cases z
     .refine hn ⟨by simpa using z,λe=>?_⟩;rw[e]at z2;simp at z2
    rw[e]at q;exact q
   by_cases h2:c=48
   .subst h2;refine aC (ki rfl) ?_;symm;by_cases U:r=[]
    .subst U;refine aA (by simp) ?_;symm;exact J _ (λz=>z.2 rfl) k
    .refine aC (by rw[Mc,an9,gU];intro z;exact U (XA z).2) ?_;symm;have e:natOf (48::r)=none:=by
      unfold natOf;rw[dt];refine .inr (.inr (.inr ⟨rfl,?_⟩));cases r with
      |nil=>exact absurd rfl U
      |cons=>simp
     rw[e]at k;exact k
   .refine aA (kx (λz=>h2 (by
     have z:sB [c]=sB [48]:=z;rw[gU]at z
     exact(XA z).1))) ?_
    symm;exact J _ (λz=>h2 z.1) k
def TQ(j:List AU):Prop:=j.length<=1001/\∀w∈j,w.length<=1000/\∀c∈w,c<128
def MN(n:Nat)(w:AU):Option Nat:=if w=text "topic" then some 12 else if w=text "kind" then some 6 else if w=text "hard" then some 5 else if w=text "harder" then some 5 else if w=text "question" then some n else none
def oG{w:AU}{r:List<|Key×V}(hk:k=Str.ofString s):gz ((Sum.inr k,v)::r) (Sum.inr<|sB w)=if w=text s then some v else gz r (Sum.inr<|sB w):=by
 subst hk;by_cases h:w=text s
 .rw[dt h,fK];rw[h,eu]
 .rw[c0 h,fL];intro z;have z:=Sum.inr.inj z;rw[eu,gU]at z;exact h z.symm
def K8(n:Nat)(w:AU):gz (GH n) (Sum.inr<|sB w)=(MN n w).map nv:=by
 unfold GH MN;rw[oG rfl,oG rfl,oG rfl,oG rfl,oG rfl,Oi]
 repeat' (first|rfl|split)
def TR{w x:AU}(h:MN n w=some b)(hk:natOf x=some k)(hb:k<b):∃s,MA.eO n w x=some s/\CU s=sB w/\oh s=k:=by
 unfold MN at h;unfold MA.eO;rw[hk];simp only[am7];have t1:¬text "kind"=text "topic":=by decide
 have S:¬text "hard"=text "topic":=by decide
 have U:¬text "hard"=text "kind":=by decide
 have W:¬text "harder"=text "topic":=by decide
 have Y:¬text "harder"=text "kind":=by decide
 have Z:¬text "harder"=text "hard":=by decide
 have t7:¬text "question"=text "topic":=by decide
 have t8:¬text "question"=text "kind":=by decide
 have t9:¬text "question"=text "hard":=by decide
 have t0:¬text "question"=text "harder":=by decide
 by_cases j:w=text "topic"
 .rw[dt j]at h;cases h;subst j;exact⟨.topic k,by rw[dt ⟨rfl,by lia⟩],eu _,rfl⟩
 rw[c0 j]at h;by_cases F:w=text "kind"
 .rw[dt F]at h;cases h;subst F;exact⟨.kind k,by rw[c0 λz=>t1 z.1,dt ⟨rfl,by lia⟩],eu _,rfl⟩
 rw[c0 F]at h;by_cases I:w=text "hard"
 .rw[dt I]at h;cases h;subst I;exact⟨.hard k,by rw[c0 λz=>S z.1,c0 λz=>U z.1,dt ⟨rfl,by lia⟩],eu _,rfl⟩
 rw[c0 I]at h;by_cases J:w=text "harder"
 .rw[dt J]at h;cases h;subst J;exact⟨.harder k,by rw[c0 λz=>W z.1,c0 λz=>Y z.1,c0 λz=>Z z.1,dt ⟨rfl,by lia⟩],eu _,rfl⟩
 rw[c0 J]at h;by_cases M:w=text "question"
 .rw[dt M]at h;cases h;subst M;exact⟨.question k,by rw[c0 λz=>t7 z.1,c0 λz=>t8 z.1,c0 λz=>t9 z.1,c0 λz=>t0 z.1,dt ⟨rfl,by lia⟩],eu _,rfl⟩
 rw[c0 M]at h;cases h
def yb{w x:AU}(h:MN n w=none\/natOf x=none\/∃b k,MN n w=some b/\natOf x=some k/\¬k<b):MA.eO n w x=none:=by
 unfold MA.eO;cases hk:natOf x with
 |none=>rfl
 |some k=>
  have h:MN n w=none\/∃b,MN n w=some b/\¬k<b:=by
   rcases h with h|h|⟨b,k',h1,h2,h3⟩
   .exact .inl h
   .rw[hk]at h;cases h
   .rw[hk]at h2;cases h2;exact .inr ⟨b,h1,h3⟩
  simp;unfold MN at h;have M:∀(c:Prop)[Decidable c](s:Sel)(r:Option Sel),¬c->(if c then some s else r)=r:=λc _ s r I=>c0 I;have j:∀(s:String)(m:Nat),w=text s->MN n w=some m->¬k<m:=λs m hs F=>by
   rcases h with h|⟨b,h,J⟩
   .exact absurd (F.symm.trans h) λz=>nomatch z
   .have:some m=some b:=F.symm.trans h;cases this;exact J
  rw[c0,c0,c0,c0,c0]
  .rintro⟨c,z⟩;exact j _ n c (by rw[c];rfl) z
  .rintro⟨c,z⟩;exact j _ 5 c (by rw[c];rfl) (by lia)
  .rintro⟨c,z⟩;exact j _ 5 c (by rw[c];rfl) (by lia)
  .rintro⟨c,z⟩;exact j _ 6 c (by rw[c];rfl) (by lia)
  .rintro⟨c,z⟩;exact j _ 12 c (by rw[c];rfl) (by lia)
theorem Bs:∀(j us:List AU),PyData.eqvAll (j.map λw=>PyData.str<|sB w) (us.map λw=>PyData.str<|sB w)=decide (j=us)
 |[],[]=>rfl
 |[],_::_=>rfl
 |_::_,[]=>rfl
 |a::l,b::m=>by show(sB a==sB b&&_)=_;rw[show PyData.eqvAll (List.map _ l) (List.map _ m)=_ from(Bs l m),q7,p0,LM,gU,B3,B3];simp
theorem yc:∀j:List AU,wI K H (j.map sv)<|j.map λw=>PyData.str<|sB w
 |[]=>.nil
 |w::j=>.cons (.str _)<|yc j
theorem Bt:∀j:List AU,(∀w∈j,∀c∈w,c<128)->PyData.canLayAll0 (j.map λw=>PyData.str<|sB w)=true/\PyData.depthAll (j.map λw=>PyData.str<|sB w)=0
 |[],_=>⟨rfl,rfl⟩
 |w::j,h=>by
  obtain⟨h1,h2⟩:=Bt j λx z=>h x<|kB _ z;refine⟨?_,?_⟩
  .show(PyData.canLay0 (.str<|sB w)&&_)=true;rw[p0];refine⟨?_,h1⟩;show Array.all w.toArray (· <0x110000)=true;rw[List.all_toArray,wy];intro c F;have:=h w (lx ..) c F;exact ki (by lia)
  .show max 0 (PyData.depthAll _)=0;rw[h2];rfl
def sF{j:List AU}(h:∀w∈j,∀c∈w,c<128):SeqAt.shaped (.list<|j.map λw=>PyData.str<|sB w)=true:=by obtain⟨h1,h2⟩:=Bt j h;unfold SeqAt.shaped;rw[p0];refine⟨h1,ki ?_⟩;show PyData.depthAll _+1<=64;rw[h2];decide
def GI(K:cn)(C:Cl):Sp:=λvs H Q _=>D_ λ(p d:Addr)(j:List AU)(n:Nat)=>vs=[.ref p,.ref d]/\az K H p (j.map sv)/\H d=some (.dK<|GH n)/\TQ j/\
 ∀H' v,aq H H' ->MF K H' (MA.gj n j) v->Q v H'
abbrev Jv:Ba:=["words","bounds","number"]
def uT:aB Jv ["words","bounds"]<|ai<|top 22:=fj
def oH(T:Txt K mg C):Fn P w K mg base "read_sel" 2 ["words","bounds"]<|GI K C:=by
 refine T.Ir.go uT ?_;rintro f dg A outer s H _ Q E hr⟨p,d,M,n,rfl,hp,hd,hw,k⟩
 refine⟨_,(af (bh (aV (adR K hr.units) (pv 0) (aO<|ab bS ag)<|bg _) (ao<|au<|jb<|ab bS<|ab aw ag) aF)
  (af (bh (PW.pt<|jL (aV Ei (aE (gQ K) rfl T.aD eE<|ab (pv 0) ag) aw<|bg _)<|i9<|gy (AO (uA hr) (bp (aN K) (pv 0) aw λ_ _=>rfl)<|pv 1) rfl) (ao<|au iC) aF)
  (af (eC 2 uT.nd<|c6 (kG T) hr<|ab (bp (aN K) (pv 0) aw λ_ _=>rfl) ag)
  (af (bh (PW.pt<|jL (gy<|gN<|pv 2)<|i9<|aV JT (pv 2) (J2 (uA hr) (pv 1) (bp (aN K) (pv 0) aw λ_ _=>rfl) λ_ _=>rfl)<|bg _) (ao<|au iC) aF)
  (ao<|au<|jb<|ab (bp (aN K) (pv 0) aw λ_ _=>rfl)<|ab (pv 2) ag))))),?_⟩
 refine aK rfl ?_;symm;intro q hq;generalize e_:upd H q _=H1;obtain⟨S,yN⟩:=nx e_ hq;have J:=S.seq hp;have Z:=S _ _ hd;have e1:[V.str<|Str.ofString "all"]=[text "all"].map sv:=by rw[eu];rfl
 refine⟨_,_,.lst J<|yc M,.lst (az.of yN)<|e1▸yc [text "all"],sF λw LN=>(hw.2 w LN).2,sF<|by decide,?_⟩;have e2:PyData.eqv (.list<|M.map λw=>PyData.str<|sB w) (.list<|[text "all"].map λw=>PyData.str<|sB w)=decide (M=[text "all"]):=Bs _ _;rw[e2];symm;by_cases I:M=[text "all"]
 .refine aC (ki I) ?_;symm;intro t ht;refine k _ _ (S.trans<|aq.new ht) ?_;rw[I,MA.rh];exact⟨t,rfl,ee.of ah⟩
 refine aA (kx I) ?_;symm;by_cases U:M.length=2
 case' neg=>
  refine aC (by rw[Mc,an9,ek];lia) ?_;symm;have e:MA.gj n M=none:=by
   match M,I,U with
   |[],_,_=>exact MA.DW n
   |[w],h,_=>exact MA.rj n λz=>h (by rw[z])
   |[_,_],_,h=>exact absurd rfl h
   |w::x::y::r,_,_=>exact MA.oT n w x y r
  exact k _ _ S (by rw[e];rfl)
 obtain⟨W,x1,rfl⟩:∃w x,M=[w,x]:=by
  match M,U with
  |[w,x],_=>exact⟨w,x,rfl⟩
 refine aA (by simp) ?_;have X5:=hw.2 x1 (by simp);have F:MA.eO n W x1=none->MA.gj n [W,x1]=none:=λh=>by
  by_cases ha:W=text "all"
  .rw[ha];exact MA.gY n _ _
  .rw[MA.nI n ha];exact h
 symm;refine cT J (aP (j:=0) rfl) ?_;symm;refine⟨d,_,rfl,mv.k (k:=Sum.inr<|sB W) Z,?_⟩;rw[K8];cases Y:MN n W with
 |none=>symm;exact k _ _ S (by rw[F<|yb (.inl Y)];rfl)
 |some b=>
  symm;refine aA rfl ?_;symm;refine cT J (aP (j:=1) rfl) ?_;symm;refine⟨x1,rfl,X5.1,X5.2,?_⟩;cases hk:natOf x1 with
  |none=>symm;exact k _ _ S (by rw[F<|yb (.inr (.inl hk))];rfl)
  |some m=>
   rw[show optN (some m)=nv m from rfl];symm;refine cT J (aP (j:=0) rfl) ?_;symm;refine⟨d,nv b,rfl,?_,?_⟩
   .have:=mv.k (k:=Sum.inr<|sB W) Z;rw[K8,Y]at this;exact this
   symm;by_cases iW:m<b
   .refine aA (kx<|by lia) ?_;symm;refine cT J (aP (j:=0) rfl) ?_;symm;intro t ht;obtain⟨s,h1,h2,h3⟩:=TR Y hk iW;have ha:¬W=text "all":=λz=>by rw[z]at Y;exact absurd (show(none:Option Nat)=some b from Y) λz=>nomatch z
    refine k _ _ (S.trans<|aq.new ht) ?_;rw[MA.nI n ha,h1];refine⟨t,rfl,?_⟩;rw[h2,h3];exact ee.of ah
   .refine aC (ki<|by lia) ?_;symm;exact k _ _ S (by rw[F<|yb (.inr (.inr ⟨b,m,Y,hk,iW⟩))];rfl)
def TU(K:cn)(C:Cl)(H:Hp):Option Demand->V->Prop
 |none,v=>v=.eQ
 |some d,v=>iN K C H d v
def TQ.sub(h:TQ j)(hs:∀w∈us,w∈j)(z:us.length<=j.length):TQ us:=⟨lp z h.1,λw F=>h.2 w<|hs w F⟩
def QP{xs:List V}(h:m<=xs.length)(j:0<m):kJ xs (some<|-(m:Int)) none=xs.drop (xs.length-m):=by
 unfold kJ;rw[HT.rD];have:HT.y6 xs.length 0 (some<|-(m:Int))=xs.length-m:=by
  show(if-(m:Int)<0 then(-(m:Int)+(xs.length:Int)).toNat else min (-(m:Int)).toNat xs.length)=_;split
  .lia
  .lia
 rw[this,Oc<|by rw[Mb];lia]
def TX{xs:List V}(h:m<=xs.length)(j:0<m):kJ xs none (some<|-(m:Int))=xs.take (xs.length-m):=by
 unfold kJ;rw[HT.rD,XT,Nat.sub_zero];have:HT.y6 xs.length xs.length (some<|-(m:Int))=xs.length-m:=by
  show(if-(m:Int)<0 then(-(m:Int)+(xs.length:Int)).toNat else min (-(m:Int)).toNat xs.length)=_;split
  .lia
  .lia
 rw[this]
def QQ{xs:List V}(h:j<xs.length):kJ xs (some 1) (some (j:Int))=(xs.take j).drop 1:=by unfold kJ;have z:HT.y6 xs.length 0 (some 1)=min 1 xs.length:=HT.oU _ _ 1;rw[z,HT.oU,Qs<|by lia,Qs<|by lia,List.drop_take]
def M4{xs:List V}(h:j<xs.length):kJ xs (some<|(j:Int)+1) none=xs.drop (j+1):=by unfold kJ;have z:HT.y6 xs.length 0 (some<|(j:Int)+1)=min (j+1) xs.length:=HT.oU _ _<|j+1;rw[z,HT.rD,Qs<|by lia,Oc<|by rw[Mb];lia]
theorem qX:∀j:List AU,(j.map sv).all kP=true
 |[]=>rfl
 |_::j=>qX j
def QR(q:AU):VY (sv q) [V.str<|Str.ofString "count",V.str<|Str.ofString "marks",V.str<|Str.ofString "minutes"]=(quantity q).isSome:=by
 have e:∀s:String,(Str.ofString s==sB q)=decide (q=text s):=λs=>by rw[eu,q7,LM,gU,B3];exact eq_comm
 show((Str.ofString "count"==sB q)||((Str.ofString "marks"==sB q)||((Str.ofString "minutes"==sB q)||false)))=_;rw[e,e,e];unfold quantity;by_cases h1:q=text "count"
 .rw[dt h1];simp[h1]
 rw[c0 h1];by_cases h2:q=text "marks"
 .rw[dt h2];simp[h2]
 rw[c0 h2];by_cases j:q=text "minutes"
 .rw[dt j];simp[j]
 rw[c0 j];simp[h1,h2,j]
def GJ(h:quantity q=some k):lY k=sB q/\k<=2:=by
 unfold quantity at h;by_cases h1:q=text "count"
 .rw[dt h1]at h;cases h;rw[h1];exact⟨eu "count",by decide⟩
 rw[c0 h1]at h;by_cases h2:q=text "marks"
 .rw[dt h2]at h;cases h;rw[h2];exact⟨eu "marks",by decide⟩
 rw[c0 h2]at h;by_cases j:q=text "minutes"
 .rw[dt j]at h;cases h;rw[j];exact⟨eu "minutes",by decide⟩
 rw[c0 j]at h;cases h
def four{j:Type}{l:List j}(h:l.length=4):∃a b c d,l=[a,b,c,d]:=by
 obtain _|⟨_,_|⟨_,_|⟨_,_|⟨_,_|_⟩⟩⟩⟩:=l;all_goals first|exact⟨_,_,_,_,rfl⟩|cases h
def Dm(K:cn)(C:Cl):Sp:=λvs H Q _=>D_ λ(p d:Addr)(j:List AU)(n:Nat)=>vs=[.ref p,.ref d]/\az K H p (j.map sv)/\H d=some (.dK<|GH n)/\TQ j/\
 ∀H' v,aq H H' ->TU K C H' (MA.lJ n j) v->Q v H'
abbrev GK:Ba:=["words","bounds","tail","sel","low","high"]
def iT:aB GK ["words","bounds"]<|ai<|top 23:=fj
def Dn(T:Txt K mg C):Fn P w K mg base "read_span" 4 ["words","bounds"]<|Dm K C:=by
 refine T.Fw.go iT ?_;rintro f dg A outer s H _ Q E hr⟨p,d,F,n,rfl,hp,hd,hw,k⟩
 refine⟨_,(af (bh (aV wC (aE (gQ K) rfl T.aD eE<|ab (pv 0) ag) aw<|bg _) (ao<|au iC) aF)
  (af (eC 2 iT.nd<|j9 (kj K) (pv 0) (jm<|NZ Hs aw) vy)
  (af (bh (PW.pt<|jL (aV (ON K) (bp (aN K) (pv 2) aw λ_ _=>rfl) (UN T.Il)<|by with_unfolding_all rfl)<|i9<|aV Ei (bp (aN K) (pv 2) aw λ_ _=>rfl) bS<|bg _) (ao<|au iC) aF)
  (af (eC 3 iT.nd<|c6 (oH T) hr<|ab (j9 (kj K) (pv 0) vy<|jm<|NZ Hs aw)<|ab (pv 1) ag)
  (af (eC 4 iT.nd<|c6 (kG T) hr<|ab (bp (aN K) (pv 2) aw λ_ _=>rfl) ag)
  (af (eC 5 iT.nd<|c6 (kG T) hr<|ab (bp (aN K) (pv 2) aw λ_ _=>rfl) ag)
  (af (bh (PW.pt<|jL (gy<|gN<|pv 3)<|jL (gy<|gN<|pv 4)<|jL (gy<|gN<|pv 5)<|i9<|aV nN (pv 4) (pv 5)<|bg _) (ao<|au iC) aF)
  (ao<|au<|c6 (xW T) hr<|ab (bp (aN K) (pv 2) aw λ_ _=>rfl)<|ab (pv 3)<|ab (pv 4)<|ab (pv 5) ag)))))))),?_⟩
 refine aK (σ':=[some _,some _,none,none,none,none]) rfl ?_;symm;by_cases h5:F.length<5
 .refine aC (ki<|by rw[ek];lia) ?_;symm;exact k _ _ (aq.refl _) (by unfold MA.lJ;rw[dt h5];rfl)
 refine aA (kx<|by rw[ek];lia) ?_;symm;refine⟨p,_,rfl,hp,λq hq=>?_⟩;have e4:kJ (F.map sv) (some<|-4) none=(F.drop<|F.length-4).map sv:=by have:=QP (xs:=F.map sv) (m:=4) (by rw[ek];lia) (by decide);rw[ek]at this;rw[Vj];exact this
 have e5:kJ (F.map sv) none (some<|-4)=(F.take<|F.length-4).map sv:=by have:=TX (xs:=F.map sv) (m:=4) (by rw[ek];lia) (by decide);rw[ek]at this;rw[Vr];exact this
 rw[e4];obtain⟨wq,U,wt,W,ed⟩:=four (l:=F.drop<|F.length-4) (by rw[Mb];lia);have hm:∀x∈F.drop (F.length-4),x∈F:=λx S=>apu S;have hwx:=hw.2 U<|hm U (by rw[ed];simp);have hwy:=hw.2 W<|hm W (by rw[ed];simp);have hwt:TQ<|F.take<|F.length-4:=hw.sub (λx S=>apt S) (by rw[zd];lia)
 have z:MA.lJ n F=(match quantity wq with
  |none=>none
  |some k=>if wt=text "to" then(match MA.gj n (F.take<|F.length-4),natOf U,natOf W with
   |some a,some lo,some hi=>if lo<=hi then some (.range a k lo hi)else none
   |_,_,_=>none)else none):=by
  unfold MA.lJ;rw[c0 h5,ed]<;>rfl
 rw[ed];generalize e_:upd H q _=H1;have k1:aq H H1:=by subst e_;exact aq.new hq
 have Y:az K H1 q [sv wq,sv U,sv wt,sv W]:=by subst e_;exact az.of ah
 symm;refine cT Y (aP (j:=0) rfl) ?_;symm;refine⟨C.qz,_,rfl,.inr T.IG.gh,rfl,rfl,?_⟩;rw[QR];cases Z:quantity wq with
 |none=>rw[Z]at z;symm;exact k _ _ k1 (by rw[z];rfl)
 |some kk=>
  rw[Z]at z;obtain⟨UJ,XN⟩:=GJ Z;symm;refine aA rfl ?_;symm;refine cT Y (aP (j:=2) rfl) ?_;symm;by_cases J:wt=text "to"
  case' neg=>refine aC (by rw[Mc,an9,eu,gU];exact J) ?_;symm;refine k _ _ k1 ?_;rw[z];show TU K C H1 (if wt=text "to" then _ else none) V.eQ;rw[c0 J];rfl
  refine aA (by rw[Bool.not_eq_false',B3,eu,gU];exact J) ?_
  have z:MA.lJ n F=(match MA.gj n (F.take<|F.length-4),natOf U,natOf W with
   |some a,some lo,some hi=>if lo<=hi then some (.range a kk lo hi)else none
   |_,_,_=>none):=by
   rw[z];show(if wt=text "to" then _ else none)=_;rw[dt J]
  have sh:=k1.seq hp;symm;refine⟨p,_,rfl,sh,λq2 Tw=>?_⟩;rw[e5];generalize e_:upd H1 q2 _=H2;have k2:aq H1 H2:=by subst e_;exact aq.new Tw
  have afa:az K H2 q2<|(F.take<|F.length-4).map sv:=by subst e_;exact az.of ah
  have lI:=k1.trans k2;symm;refine⟨q2,d,_,n,rfl,afa,lI _ _ hd,hwt,λH3 vs k3 M=>?_⟩;have I:=lI.trans k3;have Gu:=(k2.trans k3).seq Y;symm;refine cT Gu (aP (j:=1) rfl) ?_;symm;refine⟨U,rfl,hwx.1,hwx.2,?_⟩;symm;refine cT Gu (aP (j:=3) rfl) ?_;symm;refine⟨W,rfl,hwy.1,hwy.2,?_⟩;cases hs:MA.gj n<|F.take<|F.length-4 with
  |none=>rw[hs]at M;obtain rfl:vs=.eQ:=M;symm;exact k _ _ I (by rw[z,hs];rfl)
  |some sl=>
   rw[hs]at M;obtain⟨sa,rfl,hsa⟩:=M;cases S:natOf U with
   |none=>symm;exact k _ _ I (by rw[z,hs,S];rfl)
   |some lo=>
    cases hy:natOf W with
    |none=>symm;rw[show optN (some lo)=nv lo from rfl];symm;exact k _ _ I (by rw[z,hs,S,hy];rfl)
    |some hi=>
     rw[show optN (some lo)=nv lo from rfl,show optN (some hi)=nv hi from rfl];symm;by_cases iW:lo<=hi
     .refine aA (kx<|by lia) ?_;symm;refine cT Gu (aP (j:=0) rfl) ?_;symm;refine⟨_,_,_,_,rfl,λH4 r k4 hr4 hh=>?_⟩;obtain⟨dx,hh⟩:=hh;refine k _ _ (I.trans k4) ?_;rw[z,hs,S,hy];show TU K C H4 (if lo<=hi then _ else none) _;rw[dt iW];refine⟨r,_,_,rfl,⟨dx,?_⟩,⟨sa,rfl,k4.gh hsa⟩,rfl⟩;rw[hh];show _=some (HO.ins C.d dx<|dF (lY kk) _ _ lo hi);rw[UJ];rfl
     .refine aC (ki<|by lia) ?_;symm;refine k _ _ I ?_;rw[z,hs,S,hy];show TU K C H3 (if lo<=hi then _ else none) _;rw[c0 iW];rfl
def Jw(a b:AU):Ly (sv a) (sv b)=decide (a=b):=by show(sB a==sB b)=_;rw[q7,LM,gU,B3]
theorem Bu(m:AU):∀j:List AU,VY (sv m) (j.map sv)=j.any λw=>decide<|w=m
 |[]=>rfl
 |w::j=>by have:=Bu m j;show(Ly (sv w) (sv m)||VY (sv m) (j.map sv))=(decide (w=m)||j.any λw=>decide<|w=m);rw[this,Jw]
structure aa8(mk:Sel->Sel->Demand)(w0:AU):Prop where
 w:∀a b,pH (mk a b)=sB w0
 a:∀a b,uI (mk a b)=a
 b:∀a b,ME (mk a b)=some b
 l:∀a b,P9 (mk a b)=0
 h:∀a b,To (mk a b)=0
def Dq(K:cn)(C:Cl):Sp:=λvs H Q _=>H_ λ(p d:Addr)(z:AU)(F:List AU)(n:Nat)(j:AU)(ms:Str)(mk:Sel->Sel->Demand)=>vs=[.ref p,.str ms,.ref d]/\ms=sB j/\az K H p ((z::F).map sv)/\H d=some (.dK<|GH n)/\TQ (z::F)/\aa8 mk z/\
 ∀H' v,aq H H' ->TU K C H' (MA.mU n (z::F) j mk) v->Q v H'
abbrev GL:Ba:=["words","middle","bounds","place","first","second"]
def jX:aB GL ["words","middle","bounds"]<|ai<|top 24:=fj
def sG(T:Txt K mg C):Fn P w K mg base "read_pair" 4 ["words","middle","bounds"]<|Dq K C:=by
 refine T.Fx.go jX ?_;rintro f dg A outer s H _ Q E hr⟨p,d,J,I,n,M,ms,mk,rfl,hms,hp,hd,hw,hk,k⟩;subst hms;have Vb:az K H p<|sv J::I.map sv:=hp;have afb:=Bu M<|J::I
 refine⟨_,(af (bh (aV (ON K) (pv 1) (pv 0)<|by with_unfolding_all rfl) (ao<|au iC) aF)
  (af (eC 3 jX.nd<|UL K OF PySem.F.slot_list_index PySem.F.type_list_index (Wt K) (pv 0)<|ab (pv 1) ag)
  (af (eC 4 jX.nd<|c6 (oH T) hr<|ab (j9 (kj K) (pv 0) (jm aw)<|jm<|pv 3)<|ab (pv 2) ag)
  (af (eC 5 jX.nd<|c6 (oH T) hr<|ab (j9 (kj K) (pv 0) (jm<|br iH (pv 3) aw) vy)<|ab (pv 2) ag)
  (af (bh (PW.pt<|jL (gy<|gN<|pv 4)<|i9<|gy<|gN<|pv 5) (ao<|au iC) aF)
  (ao<|au<|c6 (xZ T) hr<|ab (bp (aN K) (pv 0) aw λ_ _=>rfl)<|ab (pv 4)<|ab (pv 5) ag)))))),?_⟩
 refine aK (σ':=[some _,some _,some _,none,none,none]) rfl ?_;symm;refine⟨p,_,rfl,.inl hp,rfl,qX _,?_⟩;rw[afb];cases S:(J::I).findIdx? λw=>decide<|w=M with
 |none=>
  have e:((J::I).any λw=>decide<|w=M)=false:=by rw[aoA]at S;rw[Zb];intro x hx;rw[S x hx];decide
  rw[e];symm;exact k _ _ (aq.refl _) (by unfold MA.mU;rw[S];rfl)
 |some j=>
  rw[anu]at S;obtain⟨hj,U,Rl⟩:=S;have U:(J::I)[j]=M:=by simpa using U
  have e:((J::I).any λw=>decide<|w=M)=true:=by rw[Kc];exact⟨_,Ka hj,ki U⟩
  rw[e];symm;refine⟨.inl ⟨rfl,_,hp⟩,?_⟩;symm;have jc:(J::I)[j]?=some M:=by rw[gs hj,U]
  refine⟨p,_,_,j,sv M,rfl,rfl,hp,rfl,qX _,by rw[mq,jc];rfl,by rw[Jw];exact ki rfl,λm z hm hz=>?_,?_⟩
  .have HE:m<(J::I).length:=by lia
   rw[mq,gs HE]at hz;cases hz;rw[Jw];have:=Rl m hm;exact kx (by simpa using this)
  have W:MA.mU n (J::I) M mk=(match MA.gj n (((J::I).take j).drop 1),MA.gj n<|(J::I).drop<|j+1 with
   |some a,some b=>some<|mk a b
   |_,_=>none):=by
   unfold MA.mU;rw[(anu (p:=λw=>decide<|w=M)).mpr ⟨hj,by simpa using U,Rl⟩]<;>rfl
  have hlen:(sv J::I.map sv).length=I.length+1:=by simp
  have Yu:j<I.length+1:=by simpa using hj
  symm;refine⟨p,_,rfl,Vb,λq hq=>?_⟩;have e1:kJ (sv J::I.map sv) (some 1) (some (j:Int))=(((J::I).take j).drop 1).map sv:=by rw[QQ<|by rw[hlen];exact Yu,Vj,Vr];rfl
  have e2:kJ (sv J::I.map sv) (some<|(j:Int)+1) none=((J::I).drop<|j+1).map sv:=by rw[M4<|by rw[hlen];exact Yu,Vj];rfl
  rw[e1];generalize e_:upd H q _=H1;have k1:aq H H1:=by subst e_;exact aq.new hq
  have yN:az K H1 q<|(((J::I).take j).drop 1).map sv:=by subst e_;exact az.of ah
  symm;refine⟨q,d,_,n,rfl,yN,k1 _ _ hd,hw.sub (λx hx=>apt<|apu hx)<|by rw[Mb,zd];lia,λH2 v1 k2 Z=>?_⟩;have lI:=k1.trans k2;have Sj:az K H2 p<|sv J::I.map sv:=lI.seq Vb;symm;refine⟨p,_,rfl,Sj,λq2 Tw=>?_⟩;rw[e2];generalize e_:upd H2 q2 _=H3;have k3:aq H2 H3:=by subst e_;exact aq.new Tw
  have Gu:az K H3 q2<|((J::I).drop<|j+1).map sv:=by subst e_;exact az.of ah
  have uS:=lI.trans k3;symm;refine⟨q2,d,_,n,rfl,Gu,uS _ _ hd,hw.sub (λx hx=>apu hx)<|by rw[Mb];lia,λH4 v2 k4 hv2=>?_⟩;have TY:=uS.trans k4;have Nk:az K H4 p<|sv J::I.map sv:=TY.seq Vb;cases Y:MA.gj n<|((J::I).take j).drop 1 with
  |none=>rw[Y]at Z;obtain rfl:v1=.eQ:=Z;symm;exact k _ _ TY (by rw[W,Y];rfl)
  |some a=>
   rw[Y]at Z;obtain⟨a1,rfl,Yl⟩:=Z;cases wA:MA.gj n<|(J::I).drop<|j+1 with
   |none=>rw[wA]at hv2;obtain rfl:v2=.eQ:=hv2;symm;exact k _ _ TY (by rw[W,Y,wA];rfl)
   |some b=>
    rw[wA]at hv2;obtain⟨a2,rfl,Yn⟩:=hv2;symm;refine cT Nk (aP (j:=0) rfl) ?_;symm;refine⟨_,_,_,rfl,λH5 r k5 hr5⟨dx,hh⟩=>?_⟩;refine k _ _ (TY.trans k5) ?_;rw[W,Y,wA];refine⟨r,.ref a1,.ref a2,rfl,⟨dx,?_⟩,?_,?_⟩
    .rw[hh,hk.w,hk.l,hk.h];rfl
    .rw[hk.a];exact⟨a1,rfl,((k3.trans k4).trans k5).gh Yl⟩
    .rw[hk.b];exact⟨a2,rfl,k5.gh Yn⟩
def ye(K:cn)(C:Cl):Sp:=λvs H Q _=>E_ λ(p d:Addr)(j:AU)(z:List AU)(n:Nat)=>vs=[.ref p,.ref d]/\az K H p ((j::z).map sv)/\H d=some (.dK<|GH n)/\TQ (j::z)/\
 ∀H' v,aq H H' ->TU K C H' (demandOf n<|j::z) v->Q v H'
abbrev zX:Ba:=["words","bounds"]
def yg:aB zX ["words","bounds"]<|ai<|top 25:=fj
def yh(T:Txt K mg C):Fn P w K mg base "read_demand" 5 ["words","bounds"]<|ye K C:=by
 refine T.zm.go yg ?_;rintro f Y A outer s H _ Q E S⟨p,d,z,U,n,rfl,M,hd,W,k⟩;have F:az K H p<|sv z::U.map sv:=M;rw[<-MA.we]at k
 refine⟨_,(af (bh (aV eS (bp (aN K) (pv 0) aw λ_ _=>rfl) bS<|bg _) (ao<|au<|c6 (sG T) S<|ab (pv 0)<|ab bS<|ab (pv 1) ag) aF)
  (af (bh (aV eS (bp (aN K) (pv 0) aw λ_ _=>rfl) bS<|bg _) (ao<|au<|c6 (sG T) S<|ab (pv 0)<|ab bS<|ab (pv 1) ag) aF)
  (ao<|au<|c6 (Dn T) S<|ab (pv 0)<|ab (pv 1) ag))),?_⟩
 refine aK (σ':=[some _,some _]) rfl ?_;symm;refine cT F (aP (j:=0) rfl) ?_;symm;by_cases h1:z=text "if"
 .refine aC (ki<|by rw[eu,gU];exact h1) ?_;symm;refine⟨p,d,z,U,n,text "then",_,.whenever,rfl,eu _,M,hd,W,⟨λ_ _=>by rw[h1];exact eu "if",λ_ _=>rfl,λ_ _=>rfl,λ_ _=>rfl,λ_ _=>rfl⟩,λH' v I J=>k _ _ I ?_⟩;show TU K C H' (if z=text "if" then _ else _) v;rw[dt h1];exact J
 refine aA (kx<|by rw[eu,gU];exact h1) ?_;symm;refine cT F (aP (j:=0) rfl) ?_;symm;by_cases h2:z=text "not"
 .refine aC (ki<|by rw[eu,gU];exact h2) ?_;symm;refine⟨p,d,z,U,n,text "with",_,.apart,rfl,eu _,M,hd,W,⟨λ_ _=>by rw[h2];exact eu "not",λ_ _=>rfl,λ_ _=>rfl,λ_ _=>rfl,λ_ _=>rfl⟩,λH' v I J=>k _ _ I ?_⟩;show TU K C H' (if z=text "if" then _ else if z=text "not" then _ else _) v;rw[c0 h1,dt h2];exact J
 refine aA (kx<|by rw[eu,gU];exact h2) ?_;symm;refine⟨p,d,_,n,rfl,M,hd,W,λH' v I J=>k _ _ I ?_⟩;show TU K C H' (if z=text "if" then _ else if z=text "not" then _ else _) v;rw[c0 h1,c0 h2];exact J
def Xp(c:Nat):MA.sgn c<128:=by
 unfold MA.sgn
 repeat' split
 all_goals lia
theorem uj:∀(l acc:AU),∀x∈splitLines l acc,x.length<=l.length+acc.length
 |[],acc,x,h=>by rw[splitLines]at h;rw[oI.mp h];lia
 |c::l,acc,x,h=>by
  unfold splitLines at h;split at h
  .rcases eH.mp h with rfl|h
   .lia
   .have:=uj l [] x h;simp at this|-;lia
  .have:=uj l (acc++[c]) x h;simp at this|-;lia
theorem yi:∀(l acc:AU),(wordsIn l acc).length<=l.length+1/\∀x∈wordsIn l acc,x.length<=l.length+acc.length
 |[],acc=>by
  unfold wordsIn;split
  .exact⟨by simp,λx h=>by cases h⟩
  .exact⟨by simp,λx h=>by rw[oI.mp h];lia⟩
 |c::l,acc=>by
  unfold wordsIn;split
  .obtain⟨h1,h2⟩:=yi l [];split
   .exact⟨by simp;lia,λx h=>by have:=h2 x h;simp at this|-;lia⟩
   .refine⟨by simp;lia,λx h=>?_⟩;rcases eH.mp h with rfl|h
    .lia
    .have:=h2 x h;simp at this|-;lia
  .obtain⟨h1,h2⟩:=yi l<|acc++[c];exact⟨by simp;lia,λx h=>by have:=h2 x h;simp at this|-;lia⟩
def Xq(I:l.length<=1000):TQ<|(wordsIn l []).map<|List.map MA.sgn:=by obtain⟨h1,h2⟩:=yi l [];refine⟨by rw[ek];lia,λx j=>?_⟩;obtain⟨y,z,rfl⟩:=n8.mp j;refine⟨by rw[ek];have:=h2 y z;simp at this;lia,λc F=>?_⟩;obtain⟨d,_,rfl⟩:=n8.mp F;exact Xp d
theorem yj(n:Nat):∀(ls:List AU)(i:Nat)(acc:List Demand)(e:Nat),readPlan n i ls acc=.error e->i<=e
 |[],i,acc,e,h=>by cases h
 |b::ls,i,acc,e,h=>by
  unfold readPlan at h;split at h
  .have:=yj n ls (i+1) acc e h;lia
  .split at h
   .cases h;lia
   .split at h
    .cases h;lia
    .have:=yj n ls (i+1) _ e h;lia
def afc(K:cn)(C:Cl)(H:Hp)(r:Except Nat<|List Demand)(code:V)(ds:List V):Prop:=match r with
 |.error e=>code=nv e
 |.ok pl=>code=nv 0/\Paired (iN K C H) pl ds
def Dr(K:cn)(C:Cl):Sp:=λvs H Q _=>C_ λ(p:Addr)(l:AU)(n:Nat)=>vs=[.ref p,nv n]/\az K H p (fm l)/\l.length<=1000/\
 ∀H' t D code ds,aq H H' ->H' t=some (.tup [code,.ref D])->H D=none->H' D=some (.lst ds)->afc K C H' (planOf n l) code ds->Q (.ref t) H'
def Jx(h:wordsIn b []=[]):readPlan n i (b::ls) acc=readPlan n (i+1) ls acc:=by rw[readPlan,h]
def qY(h:wordsIn b []=j::z):readPlan n i (b::ls) acc=(match demandOf n (j::z)with
  |none=>.error i
  |some d=>if 10<=acc.length then .error i else readPlan n (i+1) ls (acc++[d])):=by
 rw[readPlan,h];rfl
abbrev GN:Ba:=["text","how_many_questions","bounds","demands","line_number","line","words","demand"]
def gp:aB GN ["text","how_many_questions"]<|ai<|top 26:=fj
def Ds(T:Txt K mg C):Fn P w K mg base "read_plan" 6 ["text","how_many_questions"]<|Dr K C:=by
 refine T.Fy.go gp ?_;rintro f dg A outer s H _ Q E hr⟨p,l,n,rfl,hp,hl,k⟩;have Z:=MA.wb l []
 refine⟨_,(af (eC 2 gp.nd<|c6 (zV T) hr<|ab (pv 1) ag)
  (af (eC 3 gp.nd<|aO ag)
  (af (gm vu rfl (LW K T.jD (ab (c6 (GD T) hr<|ab (pv 0) ag)<|ab aw ag) (by rfl) (by rfl) (by rfl) (by rfl)) (gK K<|bY (gu 4 gp.nd)<|bY (gu 5 gp.nd) gH) (af (eC 6 gp.nd<|c6 (GG T) hr<|ab (pv 5) ag)
  (af (bh (aV eS (aE (gQ K) rfl T.aD eE<|ab (pv 6) ag) aw<|bg _) (ao uu) aF)
  (af (eC 7 gp.nd<|c6 (yh T) hr<|ab (pv 6)<|ab (pv 2) ag)
  (af (bh (PW.pt<|jL (gy<|gN<|pv 7)<|i9<|aV eS (aE (gQ K) rfl T.aD eE<|ab (pv 3) ag) (lA T.xk)<|bg _) (ao<|au<|jb<|ab (pv 4)<|ab (pv 3) ag) aF)
  (ao<|jR<|UL K OF R1 WA lO (pv 3)<|ab (pv 7) ag))))))
  (ao<|au<|jb<|ab aw<|ab (pv 3) ag)))),?_⟩
 refine aK rfl ?_;symm;refine⟨n,rfl,λH1 bd k1 hbd=>?_⟩;symm;intro D hD;have hDH:=k1.free hD;generalize e_:upd H1 D _=H2;have k2:aq H1 H2:=by subst e_;exact aq.new hD
 have Pk:H2 D=some (.lst []):=by subst e_;exact ah
 have lI:=k1.trans k2;symm;refine⟨p,l,rfl,lI.seq hp,hl,λH3 pl k3 jc hL=>?_⟩;have Ye:=k3 _ _ Pk;have J:=k3 _ _<|k2 _ _ hbd;have uS:=lI.trans k3;rw[show MA.jP 10 [] (l.map MA.sgn)=(splitLines l []).map (List.map MA.sgn)from Z]at hL;have nlD:pl≠D:=λz=>by rw[z,Pk]at jc;cases jc
 have nbD:bd≠D:=λz=>by rw[z,Ye]at J;cases J
 symm;refine WE (K:=K) (a:=pl) (xs:=((splitLines l []).map<|List.map MA.sgn).map sv) (λi σ H'=>F_ λ(acc:List Demand)(ds:List V)(v4 v5 v6 v7:Option V)=>σ=[some (.ref p),some<|nv n,some (.ref bd),some (.ref D),v4,v5,v6,v7]/\ay D H3 H'/\H' D=some (.lst ds)/\Paired (iN K C H') acc ds/\acc.length<=10/\readPlan n 1 (splitLines l []) []=readPlan n (1+i) ((splitLines l []).drop i) acc) ⟨[],[],none,none,none,none,rfl,λ_ _ _ h=>h,Ye,.nil,by simp,by simp⟩ (λi σ H' _⟨_,_,_,_,_,_,_,kk,_⟩=>az.of<|kk _ _ nlD hL) ?_ ?_
 .rintro i y σ H' T1 hy⟨acc,ds,v4,v5,v6,v7,rfl,kk,M,S,hac,I⟩ hT;rw[oW]at hy;obtain⟨line,U,rfl⟩:=jr hy;have S1:=uj l [] line<|oA U;simp at S1;have PL:(splitLines l []).drop i=line::(splitLines l []).drop (i+1):=by obtain⟨hi,e⟩:=l4.mp U;rw[aoE hi,e]
  rw[PL]at I;have Xu:=MA.wc line [];generalize e_:upd H' T1 _=H4;have kT:aq H' H4:=by subst e_;exact aq.new hT
  have kk:=kk.trans kT.but;have M:=kT _ _ M;have S:=L2.Paired.mono (λ_ _ r=>kT.iN r) S;symm;refine⟨line.map MA.sgn,rfl,by rw[ek];lia,λH5 pw k5 hpw hW=>?_⟩;rw[show(MA.jP 32 []<|line.map MA.sgn).filter (λw=>!w.isEmpty)=(wordsIn line []).map (List.map MA.sgn)from Xu]at hW;have kk5:=kk.trans k5.but;have abc:=k5 _ _ M;have abd:=L2.Paired.mono (λ_ _ r=>k5.iN r) S;have afg:=kk5 _ _ nbD J;have hWs:=az.of (K:=K) hW;symm;cases W:wordsIn line []with
  |nil=>refine aC rfl ?_;symm;exact⟨acc,ds,_,_,_,_,rfl,kk5,abc,abd,hac,by rw[I,Jx W];congr 1⟩
  |cons w0 ws=>
   refine aA (kx<|by simp;lia) ?_;have abe:=Xq (l:=line) (by lia);rw[W]at hWs abe;have afh:=MA.BB n<|w0::ws;symm;refine⟨pw,bd,w0.map MA.sgn,ws.map<|List.map MA.sgn,n,rfl,hWs,afg,abe,λH6 v k6 hv=>?_⟩;rw[show demandOf n (w0.map MA.sgn::ws.map (List.map MA.sgn))=demandOf n (w0::ws)from afh]at hv;have kk6:=kk5.trans k6.but;have j:=k6 _ _ abc;have abf:=L2.Paired.mono (λ_ _ r=>k6.iN r) abd;have afj:=az.of (K:=K) j;have Ck:=mf abf;have fin:∀H7 t,ay D H3 H7->H7 t=some (.tup [nv<|i+1,.ref D])->H7 D=some (.lst ds)->readPlan n 1 (splitLines l []) []=.error (i+1)->Q (.ref t) H7:=λH7 t kk7 ht hD7 he=>by refine k _ t D (nv<|i+1) ds (eT uS hDH kk7) ht hDH hD7 ?_;unfold planOf;rw[he];rfl
   cases Y:demandOf n<|w0::ws with
   |none=>rw[Y]at hv;obtain rfl:v=.eQ:=hv;symm;intro t ht;refine fin _ t (kk6.trans (aq.new ht).but) ah ((aq.new ht) _ _ j) ?_;rw[I,qY W,Y];show Except.error (1+i)=_;rw[Nat.add_comm]
   |some dm=>
    rw[Y]at hv;obtain⟨da,v1,v2,rfl,hda⟩:=hv;symm;by_cases Ua:acc.length=10
    .refine aC (ki<|by lia) ?_;symm;intro t ht;refine fin _ t (kk6.trans (aq.new ht).but) ah ((aq.new ht) _ _ j) ?_;rw[I,qY W,Y];show(if 10<=acc.length then Except.error (1+i)else _)=_;rw[dt<|by lia,Nat.add_comm]
    .refine aA (kx<|by lia) ?_;symm;refine⟨.inl ⟨rfl,_,afj⟩,?_⟩;symm;refine⟨D,ds,_,rfl,rfl,j,U7 (m:=10)<|by lia,?_⟩;have kb:ay D H6<|upd H6 D (.lst<|ds++[.ref da]):=ay.upd;refine⟨acc++[dm],ds++[.ref da],_,_,_,_,rfl,kk6.trans kb,ah,?_,by rw[mu];simp;lia,?_⟩
     .exact L2.Paired.snoc (L2.Paired.mono (λ_ _ r=>ay.iN kb j r) abf)<|ay.iN kb j ⟨da,v1,v2,rfl,hda⟩
     .rw[I,qY W,Y];show(if 10<=acc.length then _ else readPlan n (1+i+1) _ (acc++[dm]))=_;rw[c0<|by lia]
      congr 1
 .rintro σ H'⟨acc,ds,v4,v5,v6,v7,rfl,kk,M,S,hac,I⟩;symm;intro t ht;have kt:aq H'<|upd H' t (.tup [.int 0,.ref D]):=aq.new ht;refine k _ t D (nv 0) ds (eT uS hDH<|kk.trans kt.but) ah hDH (kt _ _ M) ?_;unfold planOf;rw[I];have YD:(splitLines l []).drop (((splitLines l []).map<|List.map MA.sgn).map sv).length=[]:=by rw[ek,ek,List.drop_length]
  rw[YD];exact⟨rfl,L2.Paired.mono (λ_ _ r=>kt.iN r) S⟩
def inR(ns:Bc)(rs:List<|Int×Int):Bool:=(ns.zip rs).all λx=>inside x.1 x.2.1 x.2.2
def Dt(K:cn)(C:Cl):Sp:=λvs H Q _=>D_ λ(p t:Addr)(ns:Bc)(rs:List<|Int×Int)=>vs=[.ref p,.ref t]/\az K H p (ns.map V.int)/\Fl K t rs/\ns.length<=1000/\rB (inR ns rs) H Q
theorem Paired.flip{j z:Type}{R:j->z->Prop}{l:List j}{m:List z}(h:Paired R l m):Paired (λb a=>R a b) m l:=by induction h with|nil=>exact .nil|cons h _ i=>exact .cons h i
theorem Paired.mapR{j z γ:Type}{R:j->z->Prop}{f:z->γ}{S:j->γ->Prop}(h:∀a b,R a b->S a (f b)){l:List j}{m:List z}(p:Paired R l m):Paired S l (m.map f):=by induction p with|nil=>exact .nil|cons r _ i=>exact .cons (h _ _ r) i
abbrev uU:Ba:=["numbers","ranges","number","span"]
def jY:aB uU ["numbers","ranges"]<|ai<|top 97:=fj
def iU(T:Txt K mg C):Fn P w K mg base "in_ranges" 1 ["numbers","ranges"]<|Dt K C:=by
 refine T.FE.go jY ?_;rintro f S A outer s H _ Q E hr⟨p,t,ns,rs,rfl,z,U,W,k⟩;obtain⟨as,F,pr⟩:=U;refine⟨_,(ao<|au<|aE (Cd K) rfl T.km wV<|ab (eM (own:=[("number",2),("span",3)]) rfl jY.nd (L4 K T.uG<|ab (pv 0)<|ab (pv 1) ag) (aU (N:=uU) (sc:=ai<|top 97)<|by decide+kernel) (λ_ _ _ _ _=>(gK (n:=2) K<|bY (gu 2 jY.nd)<|bY (gu 3 jY.nd) gH)) (λ_ _ _ _ _=>bR) λ_ _ _ _ _=>(rC mW mW (bp (ei K) (pv 3) aw λ_ _=>rfl) (pv 2)<|bp (ei K) (pv 3) aw λ_ _=>rfl)) ag),?_⟩;refine aK (σ':=[some _,some _,none,none]) rfl ?_;symm;refine⟨p,t,_,_,rfl,z,F.gh,?_⟩;refine aap (j1:=2) (j2:=3) ns rs (λn v=>v=V.int n) (λ(x:Int×Int) v=>∃q,v=.ref q/\Fj K q [.int x.1,.int x.2]) (λn x=>some<|inside n x.1 x.2) (λb v _=>v=V.bl b) z F.gh (pmap _ _) (Paired.mapR (λx q r=>⟨q,rfl,r⟩)<|Paired.flip pr) (by rw[ek];exact sz W) (λD Y i n x v u H' acc Nx Ns hx hy Z sy I J M n2=>?_) (λ_ _=>rfl) λD ys H' I Y j pr=>?_
 .subst Z;obtain⟨q,rfl,hq⟩:=sy;symm;refine gB hq.gh (m:=0) rfl ?_;symm;by_cases h1:x.1<=n
  .refine aC (ki h1) ?_;symm;refine gB hq.gh (m:=1) rfl ?_;symm;refine M _ rfl _ _ (aq.refl _) λ_ _=>?_;unfold inside;rw[ki h1,F2]
  .refine aA (kx h1) ?_;refine M _ rfl _ _ (aq.refl _) λ_ _=>?_;unfold inside;rw[kx h1,Q5]
 .rw[bq pr]at j;symm;refine km (az.of j) ?_;have e:inR ns rs=((ns.zip rs).filterMap λp=>some<|inside p.1 p.2.1 p.2.2).all id:=by rw[bX,Kf];rfl
  exact e▸k H' I
def yk(K:cn)(C:Cl):Sp:=λvs H Q _=>B_ λ(p:Addr)(l:List V)=>vs=[.ref p]/\(az K H p l\/ee K H p l)/\l.length<=500000/\rL (.int l.length::l) H Q
abbrev zY:Ba:=["members"]
def ym:aB zY ["members"]<|ai<|top 98:=fj
def bW(T:Txt K mg C):Fn P w K mg base "with_length" 1 ["members"]<|yk K C:=by refine T.zt.go ym ?_;rintro f dg A outer s H _ Q E W⟨p,l,rfl,Y,hl,k⟩;refine⟨_,(ao<|au<|br eL (aO<|ab (aE (gQ K) rfl T.aD eE<|ab (pv 0) ag) ag)<|fJ (nX K) rfl T.qA tG<|ab (pv 0) ag),?_⟩;refine aK rfl ?_;symm;refine⟨p,l,rfl,Y,?_⟩;symm;intro q hq;generalize F:upd H q _=H1;obtain⟨j,I⟩:=nx F hq;have J:az K H1 p l\/ee K H1 p l:=Y.elim (λz=>.inl<|j.seq z) λz=>.inr<|j.gh z;symm;refine⟨p,l,rfl,J,λr W=>?_⟩;generalize F:upd H1 r _=H2;obtain⟨M,S⟩:=nx F W;have U:=M _ _ I;symm;refine⟨q,r,_,_,rfl,rfl,U,S,sz (m:=500001)<|by simp;lia,λt Z=>?_⟩;exact k _ _ ((j.trans M).trans<|aq.new Z) ((j.trans M).free Z) ah
def Du(K:cn)(C:Cl):Sp:=λvs H Q _=>∃(b:Bool),vs=[.bl b]/\Q (.int<|bit b) H
abbrev GO:Ba:=["truth"]
def Dv:aB GO ["truth"]<|ai<|top 99:=fj
def jZ(T:Txt K mg C):Fn P w K mg base "as_number" 1 ["truth"]<|Du K C:=by
 refine T.FF.go Dv ?_;rintro f j A outer s H _ Q E z⟨b,rfl,k⟩;refine⟨_,(ao<|au<|lM (bU<|pv 0) aw aw),?_⟩;refine aK rfl ?_;cases b with
 |true=>symm;exact k
 |false=>symm;exact k
structure GP(C:Cl)(H:Hp)(a:jo)(H':Hp)(a':jo):Prop where
 keep:fG (foot a) H H'
 tab:TabsOk [vo C] H'
 fresh:∀b∈foot a',b∈foot a\/H b=none
 same:a'.B=a.B
structure Vg(K:cn)(C:Cl)(H:Hp)(a:jo)(o:Office)(ns l:Bc)(pn pr:Addr):Prop where
 bk:ae K C H a o
 sn:az K H pn (ns.map V.int)
 sr:az K H pr (l.map V.int)
 fn:pn∉foot a
 fr:pr∉foot a
 tb:TabsOk [vo C] H
 us:∀x∈o.items,x.used.length<890
 ll:l.length<=1200
 es:o.enemies.length<890
def yP(K:cn)(C:Cl)(R:Bc->Bc->Vbxoab.Call->Prop):Sp:=λvs H Q _=>G_ λ(a:jo)(o:Office)(ns l:Bc)(pn pr:Addr)(c:Vbxoab.Call)=>vs=[.ref a.B,.ref pn,.ref pr]/\Vg K C H a o ns l pn pr/\R ns l c/\
 ∀H' j r,GP C H a H' j->ae K C H' j (does o c).1->H' r=some (.lst<|(does o c).2.map V.int)->Q (.ref r) H'
section
variable{H:Hp}{a:jo}{o:Office}{ns l:Bc}{pn pr:Addr}{c:Vbxoab.Call}{Q:VK}
def Vg.ret(h:Vg K C H a o ns l pn pr)(k:∀H' z r,GP C H a H' z->ae K C H' z (does o c).1->H' r=some (.lst<|(does o c).2.map V.int)->Q (.ref r) H')(hd:does o c=(o,ans))(j:aq H H')(F:H' r=some (.lst<|ans.map V.int)):Q (.ref r) H':=by
 refine k H' a r ⟨fG.of j,h.tb.same j,(λb I=>.inl I),rfl⟩ ?_ ?_
 .rw[hd];exact j.ae h.bk
 .rw[hd];exact F
def Vg.afl(h:Vg K C H a o ns l pn pr)(k:∀H' z r,GP C H a H' z->ae K C H' z (does o c).1->H' r=some (.lst<|(does o c).2.map V.int)->Q (.ref r) H')(hd:does o c=(o,ans))(j:Kp [vo C] H H')(F:H' r=some (.lst<|ans.map V.int)):Q (.ref r) H':=by
 refine k H' a r ⟨λb u _ t e=>j.nt b u e t,j.tb h.tb,(λb I=>.inl I),rfl⟩ ?_ ?_
 .rw[hd];exact h.bk.keep (λb xs e=>j.nt _ _ e rfl) (λb A dx fs e=>j.nt _ _ e rfl) (j.nt _ _ h.bk.le rfl) λb xs q=>j.gh q
 .rw[hd];exact F
def Vg.put(h:Vg K C H a o ns l pn pr)(k:∀H' F r,GP C H a H' F->ae K C H' F (does o c).1->H' r=some (.lst<|(does o c).2.map V.int)->Q (.ref r) H')(hd:does o c=(o',ans))(I:d7 (foot a) H H1)(S:ae K C H1 F o')(U:∀b∈foot F,b∈foot a\/H b=none)(J:aq H1 H')(Y:H' r=some (.lst<|ans.map V.int))(Z:F.B=a.B:=by rfl):Q (.ref r) H':=by
 have nt:∀b∈foot a,(∀ps,H b≠some (.uX ps))/\∀c q,H b≠some (iZ c q):=by
  intro b j;have good:∀u,H b=some u->(∃xs,u=.lst xs)\/(∃A dx fs,u=.ins A dx fs)\/(∃kvs,u=.dT kvs)->(∀ps,H b≠some (.uX ps))/\∀c q,H b≠some (iZ c q):=λu e hu=>by rw[e];rcases hu with⟨xs,rfl⟩|⟨A,dx,fs,rfl⟩|⟨kvs,rfl⟩<;>exact⟨λps z=>(by cases z),λc q z=>(by cases z)⟩
  simp only[foot,eH,ro]at j;have b1:=h.bk.yl;have b2:=h.bk.ql;rcases j with rfl|rfl|rfl|rfl|j|j
  .obtain⟨dx,e⟩:=h.bk.hd;exact good _ e (.inr (.inl ⟨_,_,_,rfl⟩))
  .exact good _ h.bk.lq (.inl ⟨_,rfl⟩)
  .exact good _ h.bk.le (.inr (.inr ⟨_,rfl⟩))
  .exact good _ h.bk.ld (.inl ⟨_,rfl⟩)
  .obtain⟨m,j⟩:=J7.mp j;have hl:=(l4.mp j).1;obtain⟨⟨dx,e⟩,_⟩:=h.bk.q m _ _ _ (gs<|by lia) j<|gs (by lia);exact good _ e (.inr (.inl ⟨_,_,_,rfl⟩))
  .obtain⟨zs,e⟩:=h.bk.Jg b j;exact good _ e (.inl ⟨_,rfl⟩)
 have M:TabsOk [vo C] H1:=λt ht=>by obtain⟨ps,e,r⟩:=h.tb t ht;exact⟨ps,I _ _ (λz=>(nt _ z).1 ps e) e,r.mono λc z=>I _ _ (λw=>(nt _ w).2 c _ z) z⟩
 refine k H' F r ⟨I.off.trans<|fG.of J,M.same J,U,Z⟩ ?_ ?_
 .rw[hd];exact J.ae S
 .rw[hd];exact Y
end
def iu(h1:H l=some (.lst xs))(h2:H b=some (.lst zs))(hz:xs.length+zs.length<=900000)(q:∀p,H p=none->Q (.ref p) (upd H p (.lst<|xs++zs))):Zk (.ref l) (.ref b) H Q:=⟨l,b,xs,zs,rfl,rfl,h1,h2,sz hz,q⟩
theorem yo:∀(l:AU)(k:Nat),(parts k l).length<=2^l.length
 |l,0=>by
  have:(parts 0 l).length=1:=by cases l<;>rfl
  rw[this];exact Nat.one_le_two_pow
 |[],k+1=>by simp[parts]
 |x::r,k+1=>by have h1:=yo r k;have h2:=yo r<|k+1;rw[parts,mu,ek,kA,Xw];lia
theorem pf{j z:Type}{f:j->List z}:∀{l:List j},(∀x∈l,(f x).length<=m)->(l.flatMap f).length<=l.length*m
 |[],_=>by simp
 |x::l,h=>by have h1:=h x<|lx ..;have h2:=pf λy F=>h y<|kB _ F;rw[Q3,mu,kA,X0];lia
def Jy{o:Office}(h:(Vbxoab.free o).length<=12):(Vbxoab.papers o).length<=60000:=by refine lp (B1 _ _)<|lp (B1 _ _) ?_;refine lp (pf (m:=4096) λk _=>lp (yo _ k)<|lp (Qn (by decide) h)<|by decide) ?_;rw[Md];lia
def eG(j:xy o)(h:p∈Vbxoab.papers o):p.length<=20:=by have:=(qW h).length_le;have h2:(Vbxoab.free o).length<=o.items.length:=lp (B1 _ _) (by simp);have:=j.rp;lia
def gf(l:AU):(listed l).map V.int=V.int ((fm l).length:Nat)::fm l:=by unfold listed;rw[ip,oW,ek];rfl
def R0(j:Vbxoab.Call):Bc->Bc->Vbxoab.Call->Prop:=λns l c=>ns=[]/\l=[]/\c=j
def fq(h:12<(Vbxoab.free o).length)(f:Bc):search o f=(o,[-8]):=dt h
def df(h:¬12<(Vbxoab.free o).length)(f:Bc):search o f=(o,f):=c0 h
def zZ(K:cn)(C:Cl):Sp:=yP K C<|R0 .count
abbrev Dx:Ba:=["bank","numbers","row"]
def z0:aB Dx ["bank","numbers","row"]<|ai<|top 107:=fj
def z5(T:Txt K mg C):Fn P w K mg base "tell_count" 7 ["bank","numbers","row"]<|zZ K C:=by
 refine T.CH.go z0 ?_;rintro f S A outer s H _ Q E z⟨a,o,ns,l,pn,pr,c,rfl,j,U,k⟩;obtain⟨_,_,rfl⟩:=U;have M:=j.bk
 refine⟨_,(af (bh (bU<|c6 (bN T) z<|ab (pv 0) ag) (ao<|au<|aO<|ab (lA T.fv) ag) aF)
  (ao<|au<|aO<|ab aw<|ab (aE (gQ K) rfl T.aD eE<|ab (c6 (gd T) z<|ab (pv 0) ag) ag) ag)),?_⟩
 refine aK rfl ?_;symm;refine⟨a,o,rfl,M,λH1 I=>?_⟩;symm;by_cases F:12<(Vbxoab.free o).length
 .refine aC (ki F) ?_;symm;intro r z;exact j.ret k (fq F _) (I.trans<|aq.new z) ah
 refine aA (kx F) ?_;symm;refine⟨a,o,rfl,I.ae M,by lia,λH2 p W Z Y=>?_⟩;obtain⟨as,hL,J⟩:=Y;symm;intro r z;refine j.ret k (df F _) ((I.trans W).trans<|aq.new z) ?_;rw[ah,ek,mf J];rfl
def z6(K:cn)(C:Cl):Sp:=yP K C<|R0 .first
abbrev Dy:Ba:=["bank","numbers","row","paper"]
def qa:aB Dy ["bank","numbers","row"]<|ai<|top 108:=fj
def z7(T:Txt K mg C):Fn P w K mg base "tell_first" 8 ["bank","numbers","row"]<|z6 K C:=by
 refine T.CI.go qa ?_;rintro f dg A outer s H _ Q E z⟨a,o,ns,l,pn,pr,c,rfl,j,S,k⟩;obtain⟨_,_,rfl⟩:=S;have U:=j.bk
 refine⟨_,(af (bh (bU<|c6 (bN T) z<|ab (pv 0) ag) (ao<|au<|aO<|ab (lA T.fv) ag) aF)
  (af (eC 3 qa.nd<|c6 (p9 T) z<|ab (pv 0) ag)
  (af (bh (gy<|gN<|pv 3) (ao<|au<|aO<|ab aw<|ab aw ag) aF)
  (ao<|au<|br eL (aO<|ab aw<|ab aw ag)<|c6 (bW T) z<|ab (pv 3) ag)))),?_⟩
 refine aK rfl ?_;symm;refine⟨a,o,rfl,U,λH1 J=>?_⟩;symm;by_cases F:12<(Vbxoab.free o).length
 .refine aC (ki F) ?_;symm;intro r z;exact j.ret k (fq F _) (J.trans<|aq.new z) ah
 refine aA (kx F) ?_;symm;refine⟨a,o,rfl,J.ae U,by lia,λH2 v Y M=>?_⟩;cases I:(Vbxoab.papers o).head? with
 |none=>rw[I]at M;obtain rfl:v=.eQ:=M;symm;intro r z;refine j.ret k (ans:=[0,0]) ((df F _).trans ?_) ((J.trans Y).trans<|aq.new z) ah;rw[I]
 |some p=>
  rw[I]at M;obtain⟨pa,rfl,Yg⟩:=M;have TH:=eG U.ok<|apd I;symm;intro q hq;generalize e_:upd H2 q _=H3;obtain⟨Z,W⟩:=nx e_ hq;symm;refine⟨pa,fm p,rfl,.inr<|Z.gh Yg,by rw[ek];lia,λH4 r k4 z S=>?_⟩;symm;refine iu (k4 _ _ W) S (by simp;lia) λt ht=>?_;refine j.ret k (ans:=0::1::listed p) ((df F _).trans ?_) ((((J.trans Y).trans Z).trans k4).trans<|aq.new ht) ?_
  .rw[I]
  .rw[ah,ip,ip,gf];rfl
def z8(K:cn)(C:Cl):Sp:=yP K C<|R0 .clash
def GQ(h:xy o)(j:Vbxoab.clash o=some p):p.length<=10:=by have z:=List.mem_of_find?_eq_some j;have:=((MA.gG _ _).mp z).length_le;have:=h.pl;simp at*;lia
abbrev Dz:Ba:=["bank","numbers","row","clashing"]
def qb:aB Dz ["bank","numbers","row"]<|ai<|top 109:=fj
def z9(T:Txt K mg C):Fn P w K mg base "tell_clash" 8 ["bank","numbers","row"]<|z8 K C:=by
 refine T.CJ.go qb ?_;rintro f dg A outer s H _ Q E z⟨a,o,ns,l,pn,pr,c,rfl,j,S,k⟩;obtain⟨_,_,rfl⟩:=S;have U:=j.bk
 refine⟨_,(af (bh (bU<|c6 (bN T) z<|ab (pv 0) ag) (ao<|au<|aO<|ab (lA T.fv) ag) aF)
  (af (eC 3 qb.nd<|c6 (qU T) z<|ab (pv 0) ag)
  (af (bh (gy<|gN<|pv 3) (ao<|au<|aO<|ab aw<|ab aw ag) aF)
  (ao<|au<|br eL (aO<|ab aw<|ab aw ag)<|c6 (bW T) z<|ab (pv 3) ag)))),?_⟩
 refine aK rfl ?_;symm;refine⟨a,o,rfl,U,λH1 J=>?_⟩;symm;by_cases F:12<(Vbxoab.free o).length
 .refine aC (ki F) ?_;symm;intro r z;exact j.ret k (fq F _) (J.trans<|aq.new z) ah
 refine aA (kx F) ?_;symm;refine⟨a,o,rfl,J.ae U,by lia,λH2 v Y M=>?_⟩;cases I:Vbxoab.clash o with
 |none=>rw[I]at M;obtain rfl:v=.eQ:=M;symm;intro r z;refine j.ret k (ans:=[0,0]) ((df F _).trans ?_) ((J.trans Y).trans<|aq.new z) ah;rw[I]
 |some p=>
  rw[I]at M;obtain⟨pa,rfl,Yg⟩:=M;have TH:=GQ U.ok I;symm;intro q hq;generalize e_:upd H2 q _=H3;obtain⟨Z,W⟩:=nx e_ hq;symm;refine⟨pa,fm p,rfl,.inr<|Z.gh Yg,by rw[ek];lia,λH4 r k4 z S=>?_⟩;symm;refine iu (k4 _ _ W) S (by simp;lia) λt ht=>?_;refine j.ret k (ans:=0::1::listed p) ((df F _).trans ?_) ((((J.trans Y).trans Z).trans k4).trans<|aq.new ht) ?_
  .rw[I]
  .rw[ah,ip,ip,gf];rfl
theorem GR(o:Office):∀(l:Bc)(b:Int),gW o b l=true->-1<=b->b<o.items.length->(l.length:Int)<=o.items.length-b-1
 |[],b,_,_,_=>by simp;lia
 |z::r,b,h,h1,h2=>by rw[gW,p0,p0,B3,o6,p0,B3,B3]at h;have:=GR o r z h.2 (by lia) h.1.2.2;simp;lia
theorem K9(o:Office):∀(l:Bc)(b:Int),gW o b l=true->(∀z∈l,b<z/\0<=z/\z<o.items.length)/\(l.map Int.toNat).Pairwise (· < ·)
 |[],b,_=>⟨(λz h=>by cases h),List.Pairwise.nil⟩
 |z::r,b,h=>by
  rw[gW,p0,p0,B3,o6,p0,B3,B3]at h;obtain⟨h1,h2⟩:=K9 o r z h.2;refine⟨λy j=>?_,?_⟩
  .rcases eH.mp j with rfl|j
   .exact⟨h.1.1,h.1.2.1,h.1.2.2⟩
   .have:=h1 y j;exact⟨by lia,this.2.1,this.2.2⟩
  .rw[ip];refine .cons (λy j=>?_) h2;obtain⟨x,F,rfl⟩:=n8.mp j;have:=h1 x F;lia
structure IsP(o:Office)(l:List Int)(p:List Nat):Prop where
 pin:paperIn o l=some p
 row:l.map V.int=fm p
 lt:∀i∈p,i<o.items.length
 pw:p.Pairwise (· < ·)
 nd:p.Nodup
 sz:p.length<=20
 ll:p.length=l.length
def oJ(j:xy o)(h:iP o l=true):IsP o l<|l.map Int.toNat:=by
 have h':=h;rw[mF]at h';obtain⟨h1,h2⟩:=K9 o l _ h';refine⟨dt h,?_,?_,h2,h2.imp λh=>nP h,?_,by simp⟩
 .rw[fm,oW];refine zD λz hz=>?_;have:=(h1 z hz).2.1;show V.int z=V.int ((z.toNat:Nat):Int);rw[apx this]
 .intro i hi;obtain⟨z,hz,rfl⟩:=n8.mp hi;have:=h1 z hz;lia
 .have:=j.rp;rw[ek];cases l with
  |nil=>simp
  |cons z r=>have F:=GR o (z::r) (-1) h' (by lia) (by lia);lia
def M6(h:iP o l=false):paperIn o l=none:=c0 (by rw[show(l.all (isItem o)&&rising l)=false from h];decide)
def yp(h:iP o l=false)(f:AU->Office×Bc):onPaper o l f=(o,[-1]):=by unfold onPaper;rw[M6 h]
def uV(h:IsP o l p)(f:AU->Office×Bc):onPaper o l f=f p:=by unfold onPaper;rw[h.pin]
def RP(f:Bc->Vbxoab.Call):Bc->Bc->Vbxoab.Call->Prop:=λns l c=>ns=[]/\c=f l
def RN(f:Int->Vbxoab.Call):Bc->Bc->Vbxoab.Call->Prop:=λns l c=>∃i,ns=[i]/\l=[]/\c=f i
def YA(f:Int->Int->Vbxoab.Call):Bc->Bc->Vbxoab.Call->Prop:=λns l c=>∃i j,ns=[i,j]/\l=[]/\c=f i j
def vO(o:Office)(p:AU):marksOf o p=((itemsOf o p).map (·.marks)).sum:=by unfold marksOf itemsOf;rw[MA.lK,oW];rfl
def uk(o:Office)(p:AU):minutesOf o p=((itemsOf o p).map (·.minutes)).sum:=by unfold minutesOf itemsOf;rw[MA.lK,oW];rfl
def oK(o:Office)(p:AU):weight o p=((itemsOf o p).map λx=>x.marks*x.hard).sum:=by unfold weight itemsOf;rw[MA.lK,oW];rfl
def um(o:Office)(p:AU)(t:Nat):marksOn o p t=(((itemsOf o p).filter λx=>x.topic==t).map (·.marks)).sum:=by unfold marksOn itemsOf;rw[MA.lK,Xc,oW];rfl
def QS(o:Office)(p:AU):mean o p=Bk (itemsOf o p):=by unfold mean Bk;rw[oK,vO]
def QT(l:AU):l.eraseDups.Nodup:=by
 refine MA.snocInd (P:=λl=>l.eraseDups.Nodup) (by simp) (λl m j=>?_) l;rw[qM];split
 .exact j
 .rename_i h;rw[Q4];refine⟨j,by simp,λa z b F=>?_⟩;rw[oI.mp F];intro e;rw[e]at z;exact h<|apN.mp z
def oM(o:Office):topicsIn o=(o.items.map (·.topic)).eraseDups:=by
 unfold topicsIn
 congr 1
 apply Q2;intro i;rw[mq,mq];by_cases hi:i<o.items.length
 .rw[Mi hi];show some (Vbxoab.itemAt o i).topic=_;unfold Vbxoab.itemAt;rw[F4,gs hi];rfl
 .rw[Pm<|by simp;lia,Pm<|by lia];rfl
def Jz{l m:AU}(j:l.Nodup)(z:m.Nodup)(h:∀x,x∈l↔x∈m):l.Perm m:=(apU j z).mpr h
def yq(j:∀i∈p,i<o.items.length)(z:t∉topicsIn o):marksOn o p t=0:=by
 unfold marksOn;have:(p.filter λi=>(Vbxoab.itemAt o i).topic==t)=[]:=by
  rw[List.filter_eq_nil_iff];intro i hi h;have h:(Vbxoab.itemAt o i).topic=t:=by simpa using h
  refine z ?_;unfold topicsIn;rw[apN,n8];exact⟨i,F8.mpr<|j i hi,h⟩
 rw[this];rfl
theorem La(f g:Nat->Nat)(a b c d:Nat):∀l:AU,MO (l.map f++[a,b]) (l.map g++[c,d])=(l.map λt=>gapOf (f t)<|g t).sum+(gapOf a c+gapOf b d)
 |[]=>by simp[MO]
 |x::l=>by have:=La f g a b c d l;unfold MO at this|-;simp;rw[this];lia
def Vh{o:Office}(j:xy o)(z:∀i∈p,i<o.items.length)(F:∀i∈q,i<o.items.length):pL o (p,q)=unlikeness o p q:=by
 unfold pL p8;rw[La];unfold unlikeness;rw[MA.lK,oK,oK,uk,uk]
 congr 1
 have I:(λt=>gapOf (l8 (itemsOf o p) t)<|l8 (itemsOf o q) t)=λt=>gapOf (marksOn o p t)<|marksOn o q t:=by funext t;rw[um,um];rfl
 show((List.range 12).map λt=>gapOf (l8 (itemsOf o p) t)<|l8 (itemsOf o q) t).sum=_
 rw[I,MA.sum_filter _ (λt=>decide<|t∈topicsIn o) (List.range 12) (λt _ h=>by
  have h:t∉topicsIn o:=by simpa using h
  rw[yq z h,yq F h]
  rfl)]
 refine MA.NJ<|List.Perm.map _<|Jz ?_ ?_ ?_
 .exact List.Nodup.sublist List.filter_sublist List.nodup_range
 .rw[oM];exact QT _
 .intro x;rw[tL,F8,B3];refine⟨λh=>h.2,λh=>⟨?_,h⟩⟩;rw[oM,apN,n8]at h;obtain⟨y,J,rfl⟩:=h;have:=(j.it y J).1;lia
theorem uW{z:Type}{f g:z->Nat}:∀{l:List z},(∀x∈l,f x=g x)->leastBy f l=leastBy g l
 |[],_=>rfl
 |x::l,h=>by
  rw[leastBy,leastBy,uW λy j=>h y<|kB _ j];cases e:leastBy g l with
  |none=>rfl
  |some y=>
   show(if f x<=f y then _ else _)=if g x<=g y then _ else _
   rw[h x<|lx ..,h y<|kB _<|MA.il g l y e]
theorem pj:∀{ls:List AU}{x:AU×AU},x∈pairs ls->x.1∈ls/\x.2∈ls
 |[],x,h=>by cases h
 |p::r,x,h=>by
  rw[pairs,ro]at h;rcases h with h|h
  .obtain⟨q,j,rfl⟩:=n8.mp h;exact⟨lx ..,kB _ (tL.mp j).1⟩
  .have:=pj h;exact⟨kB _ this.1,kB _ this.2⟩
def nz(j:xy o)(z:∀i∈p,i<o.items.length)(F:p≠[]):0<nA o p:=by
 cases p with
 |nil=>exact absurd rfl F
 |cons i r=>have:=(tT j<|z i<|lx ..).2.2.2.1;unfold nA itemsOf;simp;lia
def QU(j:xy o){u d:Nat}(hd:0<d)(I:∀i∈p,i<o.items.length)(J:∀i∈q,i<o.items.length)(M:p≠[])(S:q≠[]):
  less (off o (Vbxoab.mk (u:Int) d) p) (off o (Vbxoab.mk (u:Int) d) q)=decide (jh o u d p*nA o q<jh o u d q*nA o p):=by
 have mp:=vO o p;have F:=vO o q;have U:=oK o p;have W:=oK o q;rw[(MA.ND o (u:Int) d p hd<|by rw[mp];exact nz j I M).less<|MA.ND o (u:Int) d q hd<|by rw[F];exact nz j J S,mp,F,U,W]
 congr 1
 have e:∀(x y z:Nat),((x:Int))*((y*z:Nat):Int)=((x*y*z:Nat):Int):=λx y z=>by rw[<-apg,Nat.mul_assoc]
 show(((jh o u d p:Nat):Int)*((nA o q*d:Nat):Int)<((jh o u d q:Nat):Int)*((nA o p*d:Nat):Int))=_;rw[e,e];rw[Int.ofNat_lt];exact propext ⟨λh=>apV h,λh=>apO h hd⟩
def TZ(F:0<y)(hz:0<z)(h1:a*y<b*x)(h2:¬c*y<b*z):a*z<c*x:=by
 have h2:=Sh h2;have I:a*y*z<b*x*z:=apO h1 hz;have J:b*z*x<=c*y*x:=WI x h2;have j:a*z*y<c*x*y:=by have M:a*z*y=a*y*z:=apP ..;have S:b*x*z=b*z*x:=apP ..;have U:c*y*x=c*x*y:=apP ..;lia
 exact apV j
structure Fst(o:Office)(u d:Nat)(l:List<|List Nat)(j:Nat)(m:List Nat):Prop where
 at_:l[j]?=some m
 le:∀x∈l,¬jh o u d x*nA o m<jh o u d m*nA o x
 lt:∀(i:Nat)(x:List Nat),i<j->l[i]?=some x->jh o u d m*nA o x<jh o u d x*nA o m
def JA(ls:List<|List Nat)(J:∀l∈ls,l≠[]->0<nA o l):
  match ls.foldl (fD o u d) none with
  |none=>ls.filter (λp=>!p.isEmpty)=[]
  |some m=>∃j,Fst o u d (ls.filter λp=>!p.isEmpty) j m:=by
 revert J
 refine MA.snocInd (P:=λls=>(∀l∈ls,l≠[]->0<nA o l)->match ls.foldl (fD o u d) none with
  |none=>ls.filter (λp=>!p.isEmpty)=[]
  |some m=>∃j,Fst o u d (ls.filter λp=>!p.isEmpty) j m) (λ_=>rfl) (λls x M J=>?_) ls
 have M:=M λl hl=>J l<|R5 _ hl;rw[Ep,Zp];simp only[Hr,List.foldl_nil];by_cases Z:x=[]
 .subst Z;have e:fD o u d (ls.foldl (fD o u d) none) []=ls.foldl (fD o u d) none:=dt rfl;rw[e];simpa using M
 have hf:([x].filter λp=>!p.isEmpty)=[x]:=by cases x with
  |nil=>exact absurd rfl Z
  |cons=>rfl
 rw[hf];have px:=J x (by simp) Z;cases hb:ls.foldl (fD o u d) none with
 |none=>rw[hb]at M;have e:fD o u d none x=some x:=c0 Z;rw[e];have M:ls.filter (λp=>!p.isEmpty)=[]:=M;rw[M];exact⟨0,rfl,λy I=>by rw[oI.mp I];exact Dj _,λi y hi=>by lia⟩
 |some m=>
  rw[hb]at M;obtain⟨j,F⟩:=M;have W:=tL.mp<|oA F.at_;have pm:=J m (R5 _ W.1) (λz=>by rw[z]at W;exact absurd W.2<|by decide);have e:fD o u d (some m) x=if jh o u d x*nA o m<jh o u d m*nA o x then some x else some m:=c0 Z
  rw[e];have Us:=(l4.mp F.at_).1;by_cases S:jh o u d x*nA o m<jh o u d m*nA o x
  .rw[dt S];have U:∀y∈ls.filter (λp=>!p.isEmpty),jh o u d x*nA o y<jh o u d y*nA o x:=λy I=>by have Y:=tL.mp I;have py:=J y (R5 _ Y.1) (λz=>by rw[z]at Y;exact absurd Y.2<|by decide);exact TZ pm py S<|F.le y I
   refine⟨(ls.filter λp=>!p.isEmpty).length,by rw[Pa<|ez _];simp,λy I=>?_,λi y hi I=>?_⟩
   .rcases ro.mp I with I|I
    .have:=U y I;intro z;lia
    .rw[oI.mp I];exact Dj _
   .rw[F3 hi]at I;exact U y<|oA I
  .rw[c0 S];refine⟨j,by rw[F3 Us];exact F.at_,λy I=>?_,λi y hi I=>?_⟩
   .rcases ro.mp I with I|I
    .exact F.le y I
    .rw[oI.mp I];exact S
   .rw[F3<|by lia]at I;exact F.lt i y hi I
def M7(S:xy o)(hd:0<d):(Vbxoab.papers o).foldl (fD o u d) none=Vbxoab.hardest o (Vbxoab.mk (u:Int) d):=by
 have J:∀l∈Vbxoab.papers o,l≠[]->0<nA o l:=λl U W=>nz S (gw U) W;have h:=JA (u:=u) (d:=d) (Vbxoab.papers o) J;unfold Vbxoab.hardest;cases e:(Vbxoab.papers o).foldl (fD o u d) none with
 |none=>rw[e]at h;have h:(Vbxoab.papers o).filter (λp=>!p.isEmpty)=[]:=h;rw[h];rfl
 |some m=>
  rw[e]at h;obtain⟨j,F⟩:=h;have mem:∀x∈(Vbxoab.papers o).filter (λp=>!p.isEmpty),(∀i∈x,i<o.items.length)/\x≠[]:=λx I=>by have:=tL.mp I;exact⟨gw this.1,λz=>by rw[z]at this;exact absurd this.2<|by decide⟩
  have M:=mem m<|oA F.at_;refine(MA.rl _ _ j m F.at_ (λi x I=>?_) λi x hi I=>?_).symm
  .have q:=mem x<|oA I;rw[QU S hd q.1 M.1 q.2 M.2];exact kx<|F.le x<|oA I
  .have q:=mem x<|oA I;rw[QU S hd M.1 q.1 M.2 q.2];exact ki<|F.lt i x hi I
def DA(K:cn)(C:Cl):Sp:=yP K C<|R0 .must
def TL.same(k:aq H H')(h:TL K H p ls):TL K H' p ls:=let⟨j,h1,h2⟩:=h;⟨j,k _ _ h1,L2.Paired.mono (λ_ _ r=>k.gh r) h2⟩
abbrev oN:Ba:=["bank","numbers","row","papers","candidates","always","never","number"]
def gq:aB oN ["bank","numbers","row"]<|ai<|top 110:=fj
def DB(T:Txt K mg C):Fn P w K mg base "tell_must" 7 ["bank","numbers","row"]<|DA K C:=by
 refine T.FI.go gq ?_;rintro f dg A outer s H _ Q E z⟨a,o,ns,l,pn,pr,c,rfl,I,hR,k⟩;obtain⟨_,_,rfl⟩:=hR;have hb:=I.bk;have Nb:=hb.ok.rp;have Pj:(Vbxoab.free o).length<=o.items.length:=lp (B1 _ _) (by simp)
 refine⟨_,(af (bh (bU<|c6 (bN T) z<|ab (pv 0) ag) (ao<|au<|aO<|ab (lA T.fv) ag) aF)
  (af (eC 3 gq.nd<|c6 (gd T) z<|ab (pv 0) ag)
  (af (bh (aV eS (aE (gQ K) rfl T.aD eE<|ab (pv 3) ag) aw<|bg _) (ao<|au<|aO<|ab (lA T.ku) ag) aF)
  (af (eC 4 gq.nd<|c6 (fw T) z<|ab (pv 0) ag)
  (af (gA (own:=[("number",7)]) rfl gq.nd (i:=5) rfl rfl (iI rfl rfl rfl rfl) (bj K<|pv 4) (aU (N:=oN) (sc:=ai<|top 110)<|by decide+kernel) (λ_ _ _ _ _=>(gu 7 gq.nd)) (λ_ _ _ _ _=>(jS<|bU<|c6 (MV T) z<|ab (pv 7)<|ab (pv 3) ag)) λ_ _ _ _ _=>(pv 7))
  (af (gA (own:=[("number",7)]) rfl gq.nd (i:=6) rfl rfl (iI rfl rfl rfl rfl) (bj K<|pv 4) (aU (N:=oN) (sc:=ai<|top 110)<|by decide+kernel) (λ_ _ _ _ _=>(gu 7 gq.nd)) (λ_ _ _ _ _=>(jS<|bU<|c6 (Jd T) z<|ab (pv 7)<|ab (pv 3) ag)) λ_ _ _ _ _=>(pv 7))
  (ao<|au<|br eL (br eL (aO<|ab aw ag)<|c6 (bW T) z<|ab (pv 5) ag)<|c6 (bW T) z<|ab (pv 6) ag))))))),?_⟩
 refine aK (σ':=[some _,some _,some _,none,none,none,none,none]) rfl ?_;symm;refine⟨a,o,rfl,hb,λH1 k1=>?_⟩;symm;by_cases W:12<(Vbxoab.free o).length
 .refine aC (ki W) ?_;symm;intro r z;exact I.ret k (ans:=[-8]) (fq W _) (k1.trans<|aq.new z) ah
 refine aA (kx W) ?_;have ahh:=Jy (o:=o) (by lia);symm;refine⟨a,o,rfl,k1.ae hb,by lia,λH2 pp k2 hp hT=>?_⟩;have hT0:=hT;obtain⟨as,hL,Hi⟩:=hT;have J:=mf Hi;have S:=k1.trans k2;have hLs:=az.of (K:=K) hL;symm;by_cases hz:(Vbxoab.papers o)=[]
 .refine aC (ki<|by rw[ek,J,hz];rfl) ?_;symm;intro r z;refine I.ret k (ans:=[-4]) ((df W _).trans ?_) (S.trans<|aq.new z) ah;rw[hz];rfl
 have Rn:1<=(Vbxoab.papers o).length:=by
  cases e:Vbxoab.papers o with
  |nil=>exact absurd e hz
  |cons=>simp
 refine aA (kx<|by rw[ek,J];lia) ?_;symm;refine⟨a,o,rfl,S.ae hb,λH3 pc k3 W5 hC=>?_⟩;have uS:=S.trans k3;have Y:=TL.same k3 hT0;symm;refine ic (j:=7) (Vbxoab.free o) (λn v=>v=nv n) (λn=>if((Vbxoab.papers o).all λp=>p.contains n)=true then some n else none) (λd v _=>v=nv d) (az.of hC) (pmap _ _) (by rw[ek];exact sz (m:=20)<|by lia) (λD hD i e v H' acc Nx Ns he se kk Z n1 n2=>?_) (λ_=>rfl) λD ys H4 k4 hD fi pr=>?_
 .subst se;symm;refine⟨e,pp,Vbxoab.papers o,rfl,TL.same kk Y,by lia,λH5 M=>?_⟩;symm;refine jT (λh=>?_) λh=>?_
  .symm;exact n1 _ (dt h) _ _ M λ_ _=>rfl
  .exact n2 (c0 h) _ M
 have eA:=bq pr;rw[uD]at eA;subst eA;have hT4:=TL.same k4 Y;have TY:=uS.trans k4;have hC4:=k4 _ _ hC;symm;refine ic (j:=7) (Vbxoab.free o) (λn v=>v=nv n) (λn=>if((Vbxoab.papers o).all λp=>!p.contains n)=true then some n else none) (λd v _=>v=nv d) (az.of hC4) (pmap _ _) (by rw[ek];exact sz (m:=20)<|by lia) (λD hD i e v H' acc Nx Ns he se kk Z n1 n2=>?_) (λ_=>rfl) λE' ys H5 M hE U pr=>?_
 .subst se;symm;refine⟨e,pp,Vbxoab.papers o,rfl,TL.same kk hT4,by lia,λH5 M=>?_⟩;symm;refine jT (λh=>?_) λh=>?_
  .symm;exact n1 _ (dt h) _ _ M λ_ _=>rfl
  .exact n2 (c0 h) _ M
 have eN:=bq pr;rw[uD]at eN;subst eN;have F:=M _ _ fi;have k15:=TY.trans M;have la:(always o).length<=20:=lp (B1 _ _) (by lia);have ln:(never o).length<=20:=lp (B1 _ _) (by lia);have F:H5 D=some (.lst<|fm<|always o):=F;have U:H5 E'=some (.lst<|fm<|never o):=U;symm;intro q hq;generalize e_:upd H5 q _=H6;obtain⟨k6,hq6⟩:=nx e_ hq;symm;refine⟨D,_,rfl,.inl<|az.of<|k6 _ _ F,by rw[ek];lia,λH7 r k7 z hR=>?_⟩;symm;refine iu (k7 _ _ hq6) hR (by simp;lia) λt ht=>?_;generalize e_:upd H7 t _=H8;obtain⟨k8,ht8⟩:=nx e_ ht;have k8:=k7.trans k8;symm;refine⟨E',_,rfl,.inl<|az.of<|(k6.trans k8) _ _ U,by rw[ek];lia,λH9 r2 k9 S6 hR2=>?_⟩;symm;refine iu (k9 _ _ ht8) hR2 (by simp;lia) λt2 ht2=>?_;refine I.ret k (ans:=0::(listed (always o)++listed (never o))) ((df W _).trans ?_) ((((k15.trans k6).trans k8).trans k9).trans<|aq.new ht2) ?_
 .have e:(Vbxoab.papers o).isEmpty=false:=by cases h:Vbxoab.papers o with
   |nil=>exact absurd h hz
   |cons=>rfl
  rw[e];rfl
 .rw[ah,ip,t4,gf,gf];rfl
def yt(o:Office)(i:Int):does o (.nth i)=if i<0 then(o,[-1])else search o (match(Vbxoab.papers o)[i.toNat]? with
   |none=>[-4]
   |some p=>0::listed p):=rfl
def GU(K:cn)(C:Cl):Sp:=yP K C<|RN .nth
abbrev JB:Ba:=["bank","numbers","row","place","papers"]
def oO:aB JB ["bank","numbers","row"]<|ai<|top 119:=fj
def GV(T:Txt K mg C):Fn P w K mg base "tell_nth" 7 ["bank","numbers","row"]<|GU K C:=by
 refine T.IE.go oO ?_;rintro f dg A outer s H _ Q E F⟨a,o,ns,l,pn,pr,c,rfl,z,W,k⟩;obtain⟨i,rfl,_,rfl⟩:=W;have Y:=z.bk;have Z:az K H pn [.int i]:=z.sn
 refine⟨_,(af (eC 3 oO.nd<|bp (aN K) (pv 1) aw λ_ _=>rfl)
  (af (bh (aV wC (pv 3) aw<|bg _) (ao<|au<|aO<|ab (lA T.cV) ag) aF)
  (af (bh (bU<|c6 (bN T) F<|ab (pv 0) ag) (ao<|au<|aO<|ab (lA T.fv) ag) aF)
  (af (eC 4 oO.nd<|c6 (gd T) F<|ab (pv 0) ag)
  (af (bh (aV JT (pv 3) (aE (gQ K) rfl T.aD eE<|ab (pv 4) ag)<|bg _) (ao<|au<|aO<|ab (lA T.ku) ag) aF)
  (ao<|au<|br eL (aO<|ab aw ag)<|c6 (bW T) F<|ab (bp (aN K) (pv 4) (pv 3) λ_ _=>rfl) ag)))))),?_⟩
 refine aK (σ':=[some _,some _,some _,none,none]) rfl ?_;symm;refine cT Z (aP (j:=0) rfl) ?_;symm;by_cases h0:i<0
 .refine aC (ki h0) ?_;symm;intro r F;exact z.ret k (ans:=[-1]) (dt h0) (aq.new F) ah
 refine aA (kx h0) ?_;symm;refine⟨a,o,rfl,Y,λH1 k1=>?_⟩;symm;by_cases M:12<(Vbxoab.free o).length
 .refine aC (ki M) ?_;symm;intro r F;exact z.ret k (ans:=[-8]) ((c0 h0).trans<|fq M _) (k1.trans<|aq.new F) ah
 refine aA (kx M) ?_;symm;refine⟨a,o,rfl,k1.ae Y,by lia,λH2 pp k2 hp hT=>?_⟩;obtain⟨as,hL,S⟩:=hT;have I:=mf S;have U:=k1.trans k2;have hLs:=az.of (K:=K) hL;obtain⟨j,rfl⟩:∃j:Nat,i=(j:Int):=⟨i.toNat,by lia⟩;symm;by_cases hj:j<(Vbxoab.papers o).length
 .refine aA (kx<|by rw[ek,I];lia) ?_;have hja:j<as.length:=by lia
  have J:(Vbxoab.papers o)[j]?=some (Vbxoab.papers o)[j]:=gs hj;obtain⟨aj,haj,hsq⟩:=Paired.at_ S J;have TH:=eG Y.ok<|oA J;symm;intro q hq;generalize e_:upd H2 q _=H3;obtain⟨k3,Gu⟩:=nx e_ hq;symm;refine cT (k3.seq hLs) (aP (v:=.ref aj)<|by rw[mq,haj];rfl) ?_;symm;refine⟨aj,_,rfl,.inr<|k3.gh hsq,by rw[ek];lia,λH4 r k4 F W=>?_⟩;symm;refine iu (k4 _ _ Gu) W (by simp;lia) λt ht=>?_;refine z.ret k (ans:=0::listed (Vbxoab.papers o)[j]) ?_ (((U.trans k3).trans k4).trans<|aq.new ht) ?_
  .rw[yt,c0 h0,df M,t5,J]
  .rw[ah,ip,gf];rfl
 .refine aC (ki<|by rw[ek,I];lia) ?_;symm;intro r F;refine z.ret k (ans:=[-4]) ?_ (U.trans<|aq.new F) ah;rw[yt,c0 h0,df M,t5,Pm<|by lia]
def Aa(K:cn)(C:Cl):Sp:=yP K C<|RN .lasts
def afr(i lo hi:Int):inR [i] [(lo,hi)]=inside i lo hi:=by show(inside i lo hi&&true)=_;rw[PU]
abbrev DC:Ba:=["bank","numbers","row"]
def Ab:aB DC ["bank","numbers","row"]<|ai<|top 120:=fj
def Ac(T:Txt K mg C):Fn P w K mg base "tell_lasts" 9 ["bank","numbers","row"]<|Aa K C:=by
 refine T.CP.go Ab ?_;rintro f Y A outer s H _ Q E F⟨a,o,ns,l,pn,pr,c,rfl,z,Z,k⟩;obtain⟨i,rfl,_,rfl⟩:=Z;have U:=z.bk;have S:az K H pn [.int i]:=z.sn
 refine⟨_,(af (bh (gk<|bU<|c6 (iU T) F<|ab (pv 1)<|ab (UN T.xm) ag) (ao<|au<|aO<|ab (lA T.cV) ag) aF)
  (af (bh (bU<|c6 (bN T) F<|ab (pv 0) ag) (ao<|au<|aO<|ab (lA T.fv) ag) aF)
  (ao<|au<|aO<|ab aw<|ab (c6 (Jo T) F<|ab (pv 0)<|ab (bp (aN K) (pv 1) aw λ_ _=>rfl) ag) ag))),?_⟩
 refine aK (σ':=[some _,some _,some _]) rfl ?_;symm;refine⟨pn,C.kr,_,_,rfl,z.sn,T.xx,by simp,λH0 J=>?_⟩;rw[afr];symm;cases h0:inside i 1 8 with
 |false=>symm;intro r F;exact z.ret k (ans:=[-1]) (dt h0) (J.trans<|aq.new F) ah
 |true=>
 have hi8:1<=i/\i<=8:=MA.dw.mp h0;have ne:¬inside i 1 8=false:=by rw[h0];decide
 symm;refine⟨a,o,rfl,J.ae U,λH1 W=>?_⟩;symm;by_cases M:12<(Vbxoab.free o).length
 .refine aC (ki M) ?_;symm;intro r F;exact z.ret k (ans:=[-8]) ((c0 ne).trans<|fq M _) ((J.trans W).trans<|aq.new F) ah
 refine aA (kx M) ?_;have I:=J.trans W;obtain⟨j,rfl⟩:∃j:Nat,i=(j:Int):=⟨i.toNat,by lia⟩;symm;refine cT (I.seq S) (aP (j:=0) rfl) ?_;symm;refine⟨a,o,j,rfl,I.ae U,by lia,z.us,λH2 k2=>?_⟩;symm;intro r F;refine z.ret k (ans:=[0,nat<|Vbxoab.lasts j o]) ((c0 ne).trans<|(df M _).trans ?_) ((I.trans k2).trans<|aq.new F) ?_
 .rw[t5]
 .rw[ah];rfl
def DD(K:cn)(C:Cl):Sp:=yP K C<|RP .near
abbrev GW:Ba:=["bank","numbers","row","papers","best"]
def mR:aB GW ["bank","numbers","row"]<|ai<|top 111:=fj
def DE(T:Txt K mg C)(F:Fi mg base):Fn P w K mg base "tell_near" 7 ["bank","numbers","row"]<|DD K C:=by
 refine T.FJ.go mR ?_;rintro f dg A outer s H _ Q E z⟨a,o,ns,l,pn,pr,c,rfl,j,hR,k⟩;obtain⟨_,rfl⟩:=hR;have Y:=j.bk
 refine⟨_,(af (bh (gk<|bU<|c6 (kY T) z<|ab (pv 0)<|ab (pv 2) ag) (ao<|au<|aO<|ab (lA T.cV) ag) aF)
  (af (bh (bU<|c6 (bN T) z<|ab (pv 0) ag) (ao<|au<|aO<|ab (lA T.fv) ag) aF)
  (af (eC 3 mR.nd<|c6 (gd T) z<|ab (pv 0) ag)
  (af (bh (aV eS (aE (gQ K) rfl T.aD eE<|ab (pv 3) ag) aw<|bg _) (ao<|au<|aO<|ab (lA T.ku) ag) aF)
  (af (eC 4 mR.nd<|c6 (Jj T F) z<|ab (pv 3)<|ab (pv 2) ag)
  (ao<|au<|br eL (aO<|ab aw<|ab (c6 (Gn T) z<|ab (pv 4)<|ab (pv 2) ag) ag)<|c6 (bW T) z<|ab (pv 4) ag)))))),?_⟩
 refine aK (σ':=[some _,some _,some _,none,none]) rfl ?_;symm;refine⟨a,o,pr,l,rfl,Y,j.sr,λH0 k0=>?_⟩;cases Z:iP o l with
 |false=>symm;intro r z;exact j.ret k (ans:=[-1]) (yp Z _) (k0.trans<|aq.new z) ah
 |true=>
 have I:=oJ Y.ok Z;generalize l.map Int.toNat=p at I;have S:az K H pr<|fm p:=by rw[<-I.row];exact j.sr
 have Nb:=Y.ok.rp;symm;refine⟨a,o,rfl,k0.ae Y,λH1 k1=>?_⟩;symm;by_cases hf:12<(Vbxoab.free o).length
 .refine aC (ki hf) ?_;symm;intro r z;exact j.ret k (ans:=[-8]) ((uV I _).trans<|fq hf _) ((k0.trans k1).trans<|aq.new z) ah
 refine aA (kx hf) ?_;have yu:=k0.trans k1;symm;refine⟨a,o,rfl,yu.ae Y,by lia,λH2 pp k2 hp hT=>?_⟩;have hT0:=hT;obtain⟨as,hL,Hi⟩:=hT;have U:=mf Hi;have J:=yu.trans k2;have hLs:=az.of (K:=K) hL;symm;by_cases hz:(Vbxoab.papers o)=[]
 .refine aC (ki<|by rw[ek,U,hz];rfl) ?_;symm;intro r z;refine j.ret k (ans:=[-4]) ((uV I _).trans<|(df hf _).trans ?_) (J.trans<|aq.new z) ah;unfold nearest;rw[hz];rfl
 have Rn:1<=(Vbxoab.papers o).length:=by
  cases e:Vbxoab.papers o with
  |nil=>exact absurd e hz
  |cons=>simp
 refine aA (kx<|by rw[ek,U];lia) ?_;have W:∀i∈p,i<20:=λi hi=>by have:=I.lt i hi;lia
 symm;refine⟨pp,pr,_,p,rfl,hT0,J.seq S,hz,λl hl=>⟨ug hl,eG Y.ok hl⟩,I.nd,I.sz,W,j.tb.same J,λH3 v k3 hv=>?_⟩;have kp:Kp [vo C] H H3:=(Kp.of J).trans k3;cases M:leastBy (apartness p)<|Vbxoab.papers o with
 |none=>
  exfalso;cases e:Vbxoab.papers o with
  |nil=>exact hz e
  |cons x r=>
   rw[e]at M;unfold leastBy at M;split at M
   .cases M
   .split at M<;>cases M
 |some b=>
 rw[M]at hv;obtain⟨ba,rfl,hba⟩:=hv;have F:=MA.il _ _ _ M;have hbs:=eG Y.ok F;symm;refine⟨ba,pr,b,p,rfl,hba,kp.seq S,ug F,I.nd,hbs,I.sz,W,λH4 k4=>?_⟩;symm;intro q hq;generalize e_:upd H4 q _=H5;obtain⟨k5,hq5⟩:=nx e_ hq;have k5:=k4.trans k5;symm;refine⟨ba,fm b,rfl,.inr<|k5.gh hba,by rw[ek];lia,λH6 r k6 z hR=>?_⟩;symm;refine iu (k6 _ _ hq5) hR (by simp;lia) λt ht=>?_;refine j.afl k (ans:=0::nat (apartness p b)::listed b) ((uV I _).trans<|(df hf _).trans ?_) (kp.trans<|Kp.of<|(k5.trans k6).trans<|aq.new ht) ?_
 .unfold nearest;rw[M]
 .rw[ah,ip,ip,gf];rfl
def Ae(K:cn)(C:Cl):Sp:=yP K C<|R0 .twins
def T2(j:xy o):leastBy (pL o) (pairs<|Vbxoab.papers o)=Vbxoab.twins o:=by unfold Vbxoab.twins;refine uW λx z=>?_;have:=pj z;exact Vh j (gw this.1)<|gw this.2
def mS(o:Office):does o .twins=search o (if MANY<(Vbxoab.papers o).length then[-8]else match Vbxoab.twins o with
   |none=>[-4]
   |some x=>0::nat (unlikeness o x.1 x.2)::(listed x.1++listed x.2)):=rfl
abbrev DF:Ba:=["bank","numbers","row","papers","twins"]
def lG:aB DF ["bank","numbers","row"]<|ai<|top 112:=fj
def Af(T:Txt K mg C):Fn P w K mg base "tell_twins" 7 ["bank","numbers","row"]<|Ae K C:=by
 refine T.CK.go lG ?_;rintro f dg A outer s H _ Q E j⟨a,o,ns,l,pn,pr,c,rfl,z,hR,k⟩;obtain⟨_,_,rfl⟩:=hR;have F:=z.bk
 refine⟨_,(af (bh (bU<|c6 (bN T) j<|ab (pv 0) ag) (ao<|au<|aO<|ab (lA T.fv) ag) aF)
  (af (eC 3 lG.nd<|c6 (gd T) j<|ab (pv 0) ag)
  (af (bh (aV nN (aE (gQ K) rfl T.aD eE<|ab (pv 3) ag) (lA T.Cu)<|bg _) (ao<|au<|aO<|ab (lA T.fv) ag) aF)
  (af (eC 4 lG.nd<|c6 (tY T) j<|ab (pv 0)<|ab (pv 3) ag)
  (af (bh (gy<|gN<|pv 4) (ao<|au<|aO<|ab (lA T.ku) ag) aF)
  (ao<|au<|br eL (br eL (aO<|ab aw<|ab (bp (ei K) (pv 4) aw λ_ _=>rfl) ag)<|c6 (bW T) j<|ab (bp (ei K) (pv 4) aw λ_ _=>rfl) ag)<|c6 (bW T) j<|ab (bp (ei K) (pv 4) aw λ_ _=>rfl) ag)))))),?_⟩
 refine aK (σ':=[some _,some _,some _,none,none]) rfl ?_;symm;refine⟨a,o,rfl,F,λH1 k1=>?_⟩;symm;by_cases S:12<(Vbxoab.free o).length
 .refine aC (ki S) ?_;symm;intro r j;exact z.ret k (ans:=[-8]) (fq S _) (k1.trans<|aq.new j) ah
 refine aA (kx S) ?_;symm;refine⟨a,o,rfl,k1.ae F,by lia,λH2 pp k2 hp hT=>?_⟩;have hT0:=hT;obtain⟨as,hL,Hi⟩:=hT;have I:=mf Hi;have J:=k1.trans k2;have hLs:=az.of (K:=K) hL;symm;by_cases hm:300<(Vbxoab.papers o).length
 .refine aC (ki<|by rw[ek,I];lia) ?_;symm;intro r j;refine z.ret k (ans:=[-8]) ?_ (J.trans<|aq.new j) ah;rw[mS,df S,dt<|by exact hm]
 refine aA (kx<|by rw[ek,I];lia) ?_;symm;refine⟨a,o,pp,_,rfl,J.ae F,hT0,by lia,λl hl=>⟨by have:=eG F.ok hl;lia,gw hl⟩,λH3 v k3 U=>?_⟩;rw[T2 F.ok]at U;have W:=J.trans k3;cases Y:Vbxoab.twins o with
 |none=>rw[Y]at U;obtain rfl:v=.eQ:=U;symm;intro r j;refine z.ret k (ans:=[-4]) ?_ (W.trans<|aq.new j) ah;rw[mS,df S,c0<|by exact hm,Y]
 |some x=>
  rw[Y]at U;obtain⟨ta,xa,xb,rfl,hta,hxa,hxb⟩:=U;have Z:=pj<|MA.il _ _ _ Y;have hu:pL o x=unlikeness o x.1 x.2:=Vh F.ok (gw Z.1)<|gw Z.2;have s1:=eG F.ok Z.1;have s2:=eG F.ok Z.2;rw[hu]at hta;symm;refine gB hta (m:=0) rfl ?_;symm;intro q hq;generalize e_:upd H3 q _=H4;obtain⟨k4,W7⟩:=nx e_ hq;symm;refine gB (k4.gh hta) (m:=1) rfl ?_;symm;refine⟨xa,_,rfl,.inr<|k4.gh hxa,by rw[ek];lia,λH5 r k5 j hR=>?_⟩;symm;refine iu (k5 _ _ W7) hR (by simp;lia) λt ht'=>?_;generalize e_:upd H5 t _=H6;obtain⟨k6,ht6⟩:=nx e_ ht';have k6:=k5.trans k6;have M:=k4.trans k6;symm;refine gB (M.gh hta) (m:=2) rfl ?_;symm;refine⟨xb,_,rfl,.inr<|M.gh hxb,by rw[ek];lia,λH7 r2 k7 S6 hR2=>?_⟩;symm;refine iu (k7 _ _ ht6) hR2 (by simp;lia) λt2 ht2=>?_;refine z.ret k (ans:=0::nat (unlikeness o x.1 x.2)::(listed x.1++listed x.2)) ?_ (((W.trans M).trans k7).trans<|aq.new ht2) ?_
  .rw[mS,df S,c0<|by exact hm,Y]
  .rw[ah,ip,ip,t4,gf,gf];rfl
def vp(K:cn)(C:Cl):Sp:=yP K C<|YA .hardest
def iV(o:Office)(n d:Int):does o (.hardest n d)=if(inside n 0 4000&&inside d 1 1000)=false then(o,[-1])else search o (match Vbxoab.hardest o (Vbxoab.mk n d.toNat)with
   |none=>[-4]
   |some p=>0::(mean o p).n::nat (mean o p).d::listed p):=rfl
def afu(i j lo hi z F:Int):inR [i,j] [(lo,hi),(z,F)]=(inside i lo hi&&inside j z F):=by show(inside i lo hi&&(inside j z F&&true))=_;rw[PU]
abbrev yw:Ba:=["bank","numbers","row","paper"]
def m7:aB yw ["bank","numbers","row"]<|ai<|top 117:=fj
def vq(T:Txt K mg C):Fn P w K mg base "tell_hardest" 7 ["bank","numbers","row"]<|vp K C:=by
 refine T.xr.go m7 ?_;rintro f dg A outer s H _ Q E F⟨a,o,ns,l,pn,pr,c,rfl,z,hR,k⟩;obtain⟨n,d,rfl,_,rfl⟩:=hR;have J:=z.bk;have M:az K H pn [.int n,.int d]:=z.sn
 refine⟨_,(af (bh (gk<|bU<|c6 (iU T) F<|ab (pv 1)<|ab (UN T.tK) ag) (ao<|au<|aO<|ab (lA T.cV) ag) aF)
  (af (bh (bU<|c6 (bN T) F<|ab (pv 0) ag) (ao<|au<|aO<|ab (lA T.fv) ag) aF)
  (af (eC 3 m7.nd<|c6 (mM T) F<|ab (pv 0)<|ab (c6 (gd T) F<|ab (pv 0) ag)<|ab (bp (aN K) (pv 1) aw λ_ _=>rfl)<|ab (bp (aN K) (pv 1) aw λ_ _=>rfl) ag)
  (af (bh (gy<|gN<|pv 3) (ao<|au<|aO<|ab (lA T.ku) ag) aF)
  (ao<|au<|br eL (br eL (aO<|ab aw ag)<|fJ (nX K) rfl T.qA tG<|ab (c6 (l7 T) F<|ab (c6 (hJ T) F<|ab (pv 0)<|ab (pv 3) ag) ag) ag)<|c6 (bW T) F<|ab (pv 3) ag))))),?_⟩
 refine aK (σ':=[some _,some _,some _,none]) rfl ?_;symm;refine⟨pn,C.jd,_,_,rfl,z.sn,T.tP,by simp,λH0 k0=>?_⟩;rw[afu];cases h0:(inside n 0 4000&&inside d 1 1000)with
 |false=>symm;intro r F;refine z.ret k (ans:=[-1]) ?_ (k0.trans<|aq.new F) ah;rw[iV,dt h0]
 |true=>
 have ne:¬(inside n 0 4000&&inside d 1 1000)=false:=by rw[h0];decide
 rw[p0]at h0;have hn8:=MA.dw.mp h0.1;have hd8:=MA.dw.mp h0.2;symm;refine⟨a,o,rfl,k0.ae J,λH1 k1=>?_⟩;symm;by_cases S:12<(Vbxoab.free o).length
 .refine aC (ki S) ?_;symm;intro r F;refine z.ret k (ans:=[-8]) ?_ ((k0.trans k1).trans<|aq.new F) ah;rw[iV,c0 ne,fq S]
 refine aA (kx S) ?_;have U:=k0.trans k1;obtain⟨u,rfl⟩:∃j:Nat,n=(j:Int):=⟨n.toNat,by lia⟩;obtain⟨dd,rfl⟩:∃j:Nat,d=(j:Int):=⟨d.toNat,by lia⟩;symm;refine⟨a,o,rfl,U.ae J,by lia,λH2 pp k2 hp hT=>?_⟩;have I:=U.trans k2;symm;refine cT (I.seq M) (aP (j:=0) rfl) ?_;symm;refine cT (I.seq M) (aP (j:=1) rfl) ?_;symm;refine⟨a,o,pp,_,u,dd,rfl,I.ae J,hT,λl hl=>⟨by have:=eG J.ok hl;lia,gw hl⟩,by lia,by lia,λH3 v k3 W=>?_⟩;rw[M7 J.ok<|by lia]at W;have Y:=I.trans k3;cases Z:Vbxoab.hardest o<|Vbxoab.mk (u:Int) dd with
 |none=>rw[Z]at W;obtain rfl:v=.eQ:=W;symm;intro r F;refine z.ret k (ans:=[-4]) ?_ (Y.trans<|aq.new F) ah;rw[iV,c0 ne,df S,t5,Z]
 |some x=>
  rw[Z]at W;obtain⟨xa,rfl,hxa⟩:=W;have hx:x∈Vbxoab.papers o:=(tL.mp<|MA.mn _ _ _ Z).1;have s1:=eG J.ok hx;symm;intro q hq;generalize e_:upd H3 q _=H4;obtain⟨k4,W7⟩:=nx e_ hq;have TY:=Y.trans k4;symm;refine⟨a,o,xa,x,rfl,TY.ae J,.inr<|k4.gh hxa,by lia,gw hx,λH5 qs k5 hqs hQL=>?_⟩;symm;refine⟨qs,_,rfl,hQL,λH6 mp k6 T9=>?_⟩;rw[<-QS]at T9;symm;refine⟨mp,_,rfl,.inr<|ee.of T9,λml HE=>?_⟩;generalize e_:upd H6 ml _=H7;obtain⟨k7,hm7⟩:=nx e_ HE;have k7:=(k5.trans k6).trans k7;symm;refine iu (k7 _ _ W7) hm7 (by simp) λt ht'=>?_;generalize e_:upd H7 t _=H8;obtain⟨k8,ht8⟩:=nx e_ ht';have k8:=k7.trans k8;symm;refine⟨xa,_,rfl,.inr<|(k4.trans k8).gh hxa,by rw[ek];lia,λH9 r k9 F hR=>?_⟩;symm;refine iu (k9 _ _ ht8) hR (by simp;lia) λt2 ht2=>?_;refine z.ret k (ans:=0::(mean o x).n::nat (mean o x).d::listed x) ?_ (((TY.trans k8).trans k9).trans<|aq.new ht2) ?_
  .rw[iV,c0 ne,df S,t5,Z]
  .rw[ah,ip,ip,ip,gf];rfl
def abm(i lo hi:Int):inR [i] [(lo,hi)]=inside i lo hi:=by show(inside i lo hi&&true)=_;rw[PU]
def abn(i j lo hi z F:Int):inR [i,j] [(lo,hi),(z,F)]=(inside i lo hi&&inside j z F):=by show(inside i lo hi&&(inside j z F&&true))=_;rw[PU]
def DG(K:cn)(C:Cl):Sp:=yP K C<|YA .leave
def q0(o:Office)(g m:Int):does o (.leave g m)=if(inside g 0 50&&inside m 1 99)=false then(o,[-1])else({o with gap:=g.toNat,most:=m.toNat},[0,nat (Vbxoab.free {o with gap:=g.toNat,most:=m.toNat}).length]):=rfl
abbrev GX:Ba:=["bank","numbers","row"]
def DH:aB GX ["bank","numbers","row"]<|ai<|top 104:=fj
def DI(T:Txt K mg C):Fn P w K mg base "set_leave" 3 ["bank","numbers","row"]<|DG K C:=by
 refine T.FG.go DH ?_;rintro f dg A outer s H _ Q E J⟨a,o,ns,l,pn,pr,c,rfl,z,hR,k⟩;obtain⟨n,d,rfl,_,rfl⟩:=hR;have hb:=z.bk;have yQ:az K H pn [.int n,.int d]:=z.sn
 refine⟨_,(af (bh (gk<|bU<|c6 (iU T) J<|ab (pv 1)<|ab (UN T.xl) ag) (ao<|au<|aO<|ab (lA T.cV) ag) aF)
  (af (cU K (pv 0)<|bp (aN K) (pv 1) aw λ_ _=>rfl)
  (af (cU K (pv 0)<|bp (aN K) (pv 1) aw λ_ _=>rfl)
  (ao<|au<|aO<|ab aw<|ab (aE (gQ K) rfl T.aD eE<|ab (c6 (fw T) J<|ab (pv 0) ag) ag) ag)))),?_⟩
 refine aK (σ':=[some _,some _,some _]) rfl ?_;symm;refine⟨pn,C.ko,_,_,rfl,z.sn,T.xw,by simp,λZ k0=>?_⟩;rw[abn];cases h0:(inside n 0 50&&inside d 1 99)with
 |false=>symm;intro r J;refine z.ret k (ans:=[-1]) ?_ (k0.trans<|aq.new J) ah;rw[q0,dt h0]
 |true=>
 have ne:¬(inside n 0 50&&inside d 1 99)=false:=by rw[h0];decide
 rw[p0]at h0;have hn8:=MA.dw.mp h0.1;have hd8:=MA.dw.mp h0.2;obtain⟨u,rfl⟩:∃j:Nat,n=(j:Int):=⟨n.toNat,by lia⟩;obtain⟨F,rfl⟩:∃j:Nat,d=(j:Int):=⟨d.toNat,by lia⟩;have M:=k0.ae hb;have S:a.B∈foot a:=by simp[foot]
 have U:=k0.seq yQ;obtain⟨dx,hB0⟩:=M.hd;symm;refine cT U (aP (j:=0) rfl) ?_;symm;refine⟨a.B,C.b,dx,_,rfl,hB0,T.fe,T.CQ,by simp[bF],?_⟩;have W:=ae.head (dx:=dx) (fs:=[]) (o2:={o with gap:=u}) M rfl rfl rfl;have k1:d7 (foot a) Z<|upd Z a.B (.ins C.b dx<|bF a.lq a.le a.ld {o with gap:=u}):=d7.upd S;have Y:(upd Z a.B (.ins C.b dx<|bF a.lq a.le a.ld {o with gap:=u})) a.B=some (.ins C.b dx<|bF a.lq a.le a.ld {o with gap:=u}):=ah;rw[show(HO.ins C.b dx<|c8 "gap" (V.int (u:Int))<|bF a.lq a.le a.ld o)=HO.ins C.b dx (bF a.lq a.le a.ld {o with gap:=u})from rfl];generalize upd Z a.B (.ins C.b dx<|bF a.lq a.le a.ld {o with gap:=u})=H1 at W k1 Y|-;have Rt:=k1.off.seq z.fn U;symm;refine cT Rt (aP (j:=1) rfl) ?_;symm;refine⟨a.B,C.b,dx,_,rfl,Y,T.fe,T.vJ,by simp[bF],?_⟩;have I:=ae.head (dx:=dx) (fs:=[]) (o2:={o with gap:=u,most:=F}) W rfl rfl rfl;have k2:d7 (foot a) H1<|upd H1 a.B (.ins C.b dx<|bF a.lq a.le a.ld {o with gap:=u,most:=F}):=d7.upd S;rw[show(HO.ins C.b dx<|c8 "most" (V.int (F:Int))<|bF a.lq a.le a.ld {o with gap:=u})=HO.ins C.b dx (bF a.lq a.le a.ld {o with gap:=u,most:=F})from rfl];generalize upd H1 a.B (.ins C.b dx<|bF a.lq a.le a.ld {o with gap:=u,most:=F})=H2 at I k2|-;symm;refine⟨a,_,rfl,I,λH3 fl k3 Pj hF=>?_⟩;symm;intro r J;refine z.put k (o':={o with gap:=u,most:=F}) (ans:=[0,nat (Vbxoab.free {o with gap:=u,most:=F}).length]) ?_ (((d7.of k0).trans k1).trans k2) I (λb hb=>.inl hb) (k3.trans<|aq.new J) ?_
 .rw[q0,c0 ne,t5,t5]
 .rw[ah,ek];rfl
def Ag(K:cn)(C:Cl):Sp:=yP K C<|RN .year
def pq(o:Office)(n:Int):does o (.year n)=if inside n 1 100=false then(o,[-1])else if LASTYEAR<o.year+n.toNat then(o,[-7])else({o with year:=o.year+n.toNat},[0,nat<|o.year+n.toNat]):=rfl
abbrev DJ:Ba:=["bank","numbers","row"]
def Ah:aB DJ ["bank","numbers","row"]<|ai<|top 105:=fj
def Ai(T:Txt K mg C):Fn P w K mg base "pass_years" 2 ["bank","numbers","row"]<|Ag K C:=by
 refine T.CF.go Ah ?_;rintro f dg A outer s H _ Q E F⟨a,o,ns,l,pn,pr,c,rfl,z,hR,k⟩;obtain⟨n,rfl,_,rfl⟩:=hR;have U:=z.bk;have W:az K H pn [.int n]:=z.sn
 refine⟨_,(af (bh (gk<|bU<|c6 (iU T) F<|ab (pv 1)<|ab (UN T.zi) ag) (ao<|au<|aO<|ab (lA T.cV) ag) aF)
  (af (bh (aV nN (br iH (bT K<|pv 0)<|bp (aN K) (pv 1) aw λ_ _=>rfl) (lA T.Ft)<|bg _) (ao<|au<|aO<|ab (lA T.Im) ag) aF)
  (af (cU K (pv 0)<|br iH (bT K<|pv 0)<|bp (aN K) (pv 1) aw λ_ _=>rfl)
  (ao<|au<|aO<|ab aw<|ab (bT K<|pv 0) ag)))),?_⟩
 refine aK (σ':=[some _,some _,some _]) rfl ?_;symm;refine⟨pn,C.lD,_,_,rfl,z.sn,T.zy,by simp,λY I=>?_⟩;rw[abm];cases h0:inside n 1 100 with
 |false=>symm;intro r F;refine z.ret k (ans:=[-1]) ?_ (I.trans<|aq.new F) ah;rw[pq,dt h0]
 |true=>
 have ne:¬inside n 1 100=false:=by rw[h0];decide
 have hn8:=MA.dw.mp h0;obtain⟨u,rfl⟩:∃j:Nat,n=(j:Int):=⟨n.toNat,by lia⟩;have J:=I.ae U;have Z:a.B∈foot a:=by simp[foot]
 have M:=I.seq W;obtain⟨dx,hB0⟩:=J.hd;symm;refine cT M (aP (j:=0) rfl) ?_;symm;by_cases hy:200<o.year+u
 .refine aC (ki<|by lia) ?_;symm;intro r F;refine z.ret k (ans:=[-7]) ?_ (I.trans<|aq.new F) ah;rw[pq,c0 ne,t5,dt<|by exact hy]
 refine aA (kx<|by lia) ?_;symm;refine cT M (aP (j:=0) rfl) ?_;symm;refine⟨a.B,C.b,dx,_,rfl,hB0,T.fe,T.rW,by simp[bF],?_⟩;have S:=ae.head (dx:=dx) (fs:=[]) (o2:={o with year:=o.year+u}) J rfl rfl rfl;have k1:d7 (foot a) Y<|upd Y a.B (.ins C.b dx<|bF a.lq a.le a.ld {o with year:=o.year+u}):=d7.upd Z;rw[show(HO.ins C.b dx<|c8 "year" (V.int<|(o.year:Int)+(u:Int))<|bF a.lq a.le a.ld o)=HO.ins C.b dx (bF a.lq a.le a.ld {o with year:=o.year+u})from rfl];generalize upd Y a.B (.ins C.b dx<|bF a.lq a.le a.ld {o with year:=o.year+u})=H1 at S k1|-;symm;intro r F;refine z.put k (o':={o with year:=o.year+u}) (ans:=[0,nat<|o.year+u]) ?_ ((d7.of I).trans k1) S (λb U=>.inl U) (aq.new F) ah;rw[pq,c0 ne,t5,c0<|by exact hy]
def ae.out(h:ae K C H a o)(Y:o.items[n]?=some x)(Z:a.qs[n]?=some p)(hy:a.jW[n]?=some y):
  ae K C (upd H p (.ins C.q dx<|qF {x with out:=true} y)) a {o with items:=o.items.set n {x with out:=true}}:=by
 have hnl:n<o.items.length:=(l4.mp Y).1;obtain⟨⟨dx0,F⟩,J,ez0⟩:=h.q n x p y Y Z hy;have k:ay p H<|upd H p (.ins C.q dx<|qF {x with out:=true} y):=ay.upd;have M:∀b xs,H b=some (.lst xs)->b≠p:=λb xs e z=>by rw[z,F]at e;cases e
 have nt:∀b xs,H b=some (.dT xs)->b≠p:=λb xs e z=>by rw[z,F]at e;cases e
 have nB:a.B≠p:=λz=>by obtain⟨j,e⟩:=h.hd;rw[z,F]at e;have:=congrArg List.length (HO.ins.inj<|ri e).2.2;exact absurd this (by show¬(7:Nat)=6;decide)
 have nd:∀b A dx w v1 v2 lo hi,H b=some (.ins A dx<|dF w v1 v2 lo hi)->b≠p:=λb A dx w v1 v2 lo hi e z=>by rw[z,F]at e;have:=congrArg List.length (HO.ins.inj<|ri e).2.2;exact absurd this (by show¬(7:Nat)=5;decide)
 have ks:∀b xs,ee K H b xs->ee K (upd H p (.ins C.q dx<|qF {x with out:=true} y)) b xs:=λb xs q=>by
  rcases q with(q|⟨z,q⟩)|q
  .exact .inl (.inl<|k _ _ (λz=>by rw[z,F]at q;cases q) q)
  .exact .inl (.inr ⟨z,k _ _ (λz=>by rw[z,F]at q;cases q) q⟩)
  .exact .inr q
 refine⟨?_,k _ _ (M _ _ h.lq) h.lq,by simp[h.ql],by simp[h.yl],?_,k _ _ (nt _ _ h.le) h.le,k _ _ (M _ _ h.ld) h.ld,?_,h.sep,h.qn,?_⟩
 .obtain⟨j,e⟩:=h.hd;exact⟨j,k _ _ nB e⟩
 .intro i x' p' y' h1 h2 h3;rw[aoT]at h1;by_cases hi:n=i
  .subst hi;rw[dt rfl,dt hnl]at h1;cases h1;rw[Z]at h2;cases h2;rw[hy]at h3;cases h3;exact⟨⟨dx,ah⟩,k _ _ (M _ _ J) J,ez0⟩
  .rw[c0 hi]at h1;obtain⟨⟨j,S⟩,U,I⟩:=h.q i x' p' y' h1 h2 h3;refine⟨⟨j,k _ _ (λz=>hi ?_) S⟩,k _ _ (M _ _ U) U,I⟩;rw[z]at h2;exact Dg h.qn Z h2
 .refine L2.Paired.mono (λd v r=>?_) h.d;obtain⟨b,v1,v2,e,⟨QG,S⟩,U,I⟩:=r;refine⟨b,v1,v2,e,⟨QG,k _ _ (nd _ _ _ _ _ _ _ _ S) S⟩,?_,?_⟩
  .obtain⟨b,e1,e2⟩:=U;exact⟨b,e1,ks _ _ e2⟩
  .cases hB:ME d with
   |none=>rw[hB]at I;exact I
   |some s=>rw[hB]at I;obtain⟨b,e1,e2⟩:=I;exact⟨b,e1,ks _ _ e2⟩
 .have ok:=h.ok;refine⟨by simp[ok.rp],?_,by simpa using ok.en,ok.JI,ok.un,ok.pl,ok.pw,ok.pn⟩;intro z hz;rcases aoB hz with hz|rfl
  .exact ok.it z hz
  .exact ok.it x<|oA Y
def oP(K:cn)(C:Cl):Sp:=yP K C<|RN .withdraw
def sH(o:Office)(i:Int):does o (.withdraw i)=if isItem o i=false then(o,[-1])else if(Vbxoab.itemAt o i.toNat).out=true then(o,[-3])else({o with items:=o.items.set i.toNat {Vbxoab.itemAt o i.toNat with out:=true}},[0]):=rfl
abbrev pO:Ba:=["bank","numbers","row","question"]
def jG:aB pO ["bank","numbers","row"]<|ai<|top 118:=fj
def oQ(T:Txt K mg C):Fn P w K mg base "withdraw_question" 2 ["bank","numbers","row"]<|oP K C:=by
 refine T.pG.go jG ?_;rintro f dg A outer s H _ Q E F⟨a,o,ns,l,pn,pr,c,rfl,z,hR,k⟩;obtain⟨i,rfl,_,rfl⟩:=hR;have J:=z.bk;have M:az K H pn [.int i]:=z.sn
 refine⟨_,(af (bh (gk<|bU<|c6 (gD T) F<|ab (pv 0)<|ab (bp (aN K) (pv 1) aw λ_ _=>rfl) ag) (ao<|au<|aO<|ab (lA T.cV) ag) aF)
  (af (eC 3 jG.nd<|bp (aN K) (bT K<|pv 0) (bp (aN K) (pv 1) aw λ_ _=>rfl) λ_ _=>rfl)
  (af (bh (bU<|bT K<|pv 3) (ao<|au<|aO<|ab (lA T.A9) ag) aF)
  (af (cU K (pv 3) kO)
  (ao<|au<|aO<|ab aw ag))))),?_⟩
 refine aK (σ':=[some _,some _,some _,none]) rfl ?_;symm;refine cT M (aP (j:=0) rfl) ?_;symm;refine⟨a,o,i,rfl,J,λW S=>?_⟩;cases h0:isItem o i with
 |false=>symm;intro r F;refine z.ret k (ans:=[-1]) ?_ (S.trans<|aq.new F) ah;rw[sH,dt h0]
 |true=>
 have ne:¬isItem o i=false:=by rw[h0];decide
 obtain⟨h1,h2⟩:=MA.ib.mp h0;obtain⟨n,rfl⟩:∃j:Nat,i=(j:Int):=⟨i.toNat,by lia⟩;rw[t5]at h2;have I:=S.ae J;have Y:=S.seq M;have hx:o.items[n]?=some (Vbxoab.itemAt o n):=by unfold Vbxoab.itemAt;rw[F4,gs h2];rfl
 have Z:n<a.qs.length:=by rw[J.ql];exact h2
 have hny:n<a.jW.length:=by rw[J.yl];exact h2
 have hp:=gs Z;have hy:=gs hny;have hQ:=I.q n _ _ _ hx hp hy;have Qw:(a.qs.map V.ref)[n]?=some (.ref a.qs[n]):=by rw[mq,hp];rfl
 symm;refine cT Y (aP (j:=0) rfl) ?_;symm;refine cT (az.of I.lq) (aP Qw) ?_;symm;cases ho:(Vbxoab.itemAt o n).out with
 |true=>symm;intro r F;refine z.ret k (ans:=[-3]) ?_ (S.trans<|aq.new F) ah;rw[sH,c0 ne,t5,dt ho]
 |false=>obtain⟨⟨dx,e0⟩,_,_⟩:=hQ;symm;refine⟨a.qs[n],C.q,dx,_,rfl,e0,T.c9,T.jV,by simp[qF],?_⟩;have U:=ae.out (dx:=dx) I hx hp hy;have k1:d7 (foot a) W<|upd W a.qs[n] (.ins C.q dx<|qF {Vbxoab.itemAt o n with out:=true} a.jW[n]):=d7.upd (by simp[foot]);rw[show(HO.ins C.q dx<|c8 "withdrawn" (V.bl true)<|qF (Vbxoab.itemAt o n) a.jW[n])=HO.ins C.q dx (qF {Vbxoab.itemAt o n with out:=true} a.jW[n])from rfl];generalize upd W a.qs[n] (.ins C.q dx<|qF {Vbxoab.itemAt o n with out:=true} a.jW[n])=H1 at U k1|-;symm;intro r F;refine z.put k (o':={o with items:=o.items.set n {Vbxoab.itemAt o n with out:=true}}) (ans:=[0]) ?_ ((d7.of S).trans k1) U (λb J=>.inl J) (aq.new F) ah;rw[sH,c0 ne,t5,c0<|by rw[ho];decide]
def Xx(j:xy o)(z:p.Nodup):(MA.calm (hostile o) p::p.all (Vbxoab.leave o)::o.plan.map (fz o p)).all id=Vbxoab.good o p:=by
 unfold Vbxoab.good;rw[B4,B4,Kf,calm_eq j];show(peaceful o p&&(p.all (Vbxoab.leave o)&&o.plan.all (fz o p)))=_;have e:o.plan.all (fz o p)=o.plan.all (Vbxoab.meets o p):=by rw[q7,wy,wy];exact⟨λh d hd=>by rw[<-l9 j hd z];exact h d hd,λh d hd=>by rw[l9 j hd z];exact h d hd⟩
 rw[e]
def sI(K:cn)(C:Cl):Sp:=yP K C<|RP .use
def yx(o:Office)(l:Bc):does o (.use l)=onPaper o l λp=>if Vbxoab.good o p=false then(o,[-5])else(useAll o p,[0,nat p.length]):=rfl
abbrev uo:Ba:=["bank","numbers","row"]
def sJ:aB uo ["bank","numbers","row"]<|ai<|top 113:=fj
def sL(T:Txt K mg C):Fn P w K mg base "use_good_paper" 5 ["bank","numbers","row"]<|sI K C:=by
 refine T.tO.go sJ ?_;rintro f dg A outer s H _ Q E F⟨a,o,ns,l,pn,pr,c,rfl,j,hR,k⟩;obtain⟨_,rfl⟩:=hR;have J:=j.bk
 refine⟨_,(af (bh (gk<|bU<|c6 (kY T) F<|ab (pv 0)<|ab (pv 2) ag) (ao<|au<|aO<|ab (lA T.cV) ag) aF)
  (af (bh (gk<|bU<|aE (Cd K) rfl T.km wV<|ab (c6 (oo T) F<|ab (pv 0)<|ab (pv 2) ag) ag) (ao<|au<|aO<|ab (lA T.Io) ag) aF)
  (af (jR<|c6 (sD T) F<|ab (pv 0)<|ab (pv 2) ag)
  (ao<|au<|aO<|ab aw<|ab (aE (gQ K) rfl T.aD eE<|ab (pv 2) ag) ag)))),?_⟩
 refine aK (σ':=[some _,some _,some _]) rfl ?_;symm;refine⟨a,o,pr,l,rfl,J,j.sr,λH0 k0=>?_⟩;cases M:iP o l with
 |false=>symm;intro r F;exact j.ret k (ans:=[-1]) (yp M _) (k0.trans<|aq.new F) ah
 |true=>
 have I:=oJ J.ok M;generalize l.map Int.toNat=p at I;have S:az K H pr<|fm p:=by rw[<-I.row];exact j.sr
 have U:=k0.ae J;have W:=k0.seq S;have hsz:=I.sz;symm;refine⟨a,o,pr,p,rfl,U,W,by lia,I.lt,λH1 vl k1 hvl hV=>?_⟩;symm;refine km (az.of hV) ?_;rw[Xx J.ok I.nd];symm;have Y:=k0.trans k1;have qJ:=k1.ae U;have Z:=k1.seq W;have hu:∀x∈o.items,x.used.length<900:=λx hx=>by have:=j.us x hx;lia
 have nly:pr∉a.jW:=λz=>j.fr (by simp[foot,z]);cases hg:Vbxoab.good o p with
 |false=>symm;intro r F;refine j.ret k (ans:=[-5]) ?_ (Y.trans<|aq.new F) ah;rw[yx,uV I,dt hg]
 |true=>
  symm;refine⟨a,o,pr,p,rfl,qJ,.inl ⟨Z,nly⟩,I.nd,I.lt,hu,λH2 k2 sO=>?_⟩;have S6:=k2.off.seq nly Z;symm;intro r F;have kf:d7 (foot a) H1 H2:=λb u n e=>k2 b u (λz=>n<|by simp[foot,z]) e;refine j.put k (o':=useAll o p) (ans:=[0,nat p.length]) ?_ ((d7.of Y).trans kf) sO (λb J=>.inl J) (aq.new F) ?_
  .rw[yx,uV I,c0<|by rw[hg];decide]
  .rw[ah,ek];rfl
def ae.add(h:ae K C H a o)(k1:aq H H1)(hp:H p=none)(hy:H y=none)(hQ:qG C H1 x p y)(Nb:o.items.length<20)
  (hx:x.topic<=11/\x.kind<=5/\x.hard<=4/\1<=x.marks/\x.marks<=200/\1<=x.minutes/\x.minutes<=300/\x.used.length<=900):
  ae K C (upd H1 a.lq (.lst<|a.qs.map V.ref++[.ref p])) {a with qs:=a.qs++[p],jW:=a.jW++[y]} {o with items:=o.items++[x]}:=by
 have h1:=k1.ae h;have k:ay a.lq H1<|upd H1 a.lq (.lst<|a.qs.map V.ref++[.ref p]):=ay.upd;have sep:=h.sep;rw[nM,nM]at sep;have S:a.ld≠a.lq:=λz=>sep.1 (by rw[z];exact lx ..);have U:∀b∈a.jW,b≠a.lq:=λb hb z=>sep.1<|kB _<|z▸hb;have Y:y≠a.lq:=λz=>by have:=h.lq;rw[<-z,hy]at this;cases this
 have nyd:y≠a.ld:=λz=>by have:=h.ld;rw[<-z,hy]at this;cases this
 have nyl:y∉a.jW:=λz=>by obtain⟨_,e⟩:=h.Jg y z;rw[hy]at e;cases e
 have npq:p∉a.qs:=λz=>by obtain⟨m,hm⟩:=J7.mp z;have hl:=(l4.mp hm).1;have b1:=h.yl;have b2:=h.ql;obtain⟨⟨dx,e⟩,_⟩:=h.q m _ _ _ (gs<|by lia) hm<|gs (by lia);rw[hp]at e;cases e
 have j:=h1.lq;have kq:∀Z p' M,qG C H1 Z p' M->M≠a.lq->qG C (upd H1 a.lq (.lst<|a.qs.map V.ref++[.ref p])) Z p' M:=λZ p' M⟨⟨dx,F⟩,J,I⟩ n=>⟨⟨dx,k _ _ (λz=>by rw[z,j]at F;cases F) F⟩,k _ _ n J,I⟩;refine⟨?_,?_,by simp[h.ql],by simp[h.yl],?_,?_,k _ _ S h1.ld,?_,?_,mx h.qn npq,?_⟩
 .obtain⟨dx,e⟩:=h1.hd;exact⟨dx,k _ _ (λz=>by rw[z,j]at e;cases e) e⟩
 .show(upd H1 a.lq _) a.lq=_;rw[ah,t4];rfl
 .intro i Z p' M F J I;have b1:=h.yl;have b2:=h.ql;rcases oB F with⟨m1,F⟩|⟨m1,F⟩<;>rcases oB J with⟨m2,J⟩|⟨m2,J⟩<;>rcases oB I with⟨m3,I⟩|⟨m3,I⟩<;>try lia
  .exact kq _ _ _ (h1.q i Z p' M F J I)<|U _<|oA I
  .subst F J I;exact kq _ _ _ hQ Y
 .exact k _ _ (λz=>by have:=h1.le;rw[z,j]at this;cases this) h1.le
 .exact L2.Paired.mono (λ_ _ r=>ay.iN k j r) h1.d
 .rw[nM,nM];refine⟨λz=>?_,λz=>?_,mx sep.2.2 nyl⟩
  .rcases eH.mp z with z|z
   .exact S z.symm
   .rcases ro.mp z with z|z
    .exact U _ z rfl
    .exact Y (oI.mp z).symm
  .rcases ro.mp z with z|z
   .exact sep.2.1 z
   .exact nyd (oI.mp z).symm
 .have ok:=h.ok;refine⟨by simp;lia,λz hz=>?_,λe he=>?_,ok.JI,ok.un,ok.pl,ok.pw,ok.pn⟩
  .rcases ro.mp hz with hz|hz
   .exact ok.it z hz
   .rw[oI.mp hz];exact hx
  .have:=ok.en e he;simp;exact⟨by lia,by lia,this.2.2⟩
def GY(K:cn)(C:Cl):Sp:=yP K C λns l c=>∃t k h m u,ns=[t,k,h,m,u]/\l=[]/\c=.item t k h m u
def pA(o:Office)(t k h m u:Int):does o (.item t k h m u)=if(inside t 0 11&&(inside k 0 5&&(inside h 0 4&&(inside m 1 200&&inside u 1 300))))=false then(o,[-1])else if ITEMS<=o.items.length then(o,[-6])
   else({o with items:=o.items++[⟨t.toNat,k.toNat,h.toNat,m.toNat,u.toNat,[],false⟩]},[0,nat o.items.length]):=rfl
def Xy(t k h m u:Int):inR [t,k,h,m,u] [(0,11),(0,5),(0,4),(1,200),(1,300)]=(inside t 0 11&&(inside k 0 5&&(inside h 0 4&&(inside m 1 200&&inside u 1 300)))):=by show(inside t 0 11&&(inside k 0 5&&(inside h 0 4&&(inside m 1 200&&(inside u 1 300&&true)))))=_;rw[PU]
abbrev JD:Ba:=["bank","numbers","row"]
def GZ:aB JD ["bank","numbers","row"]<|ai<|top 101:=fj
def G0(T:Txt K mg C):Fn P w K mg base "add_item" 3 ["bank","numbers","row"]<|GY K C:=by
 refine T.IC.go GZ ?_;rintro f dg A outer s H _ Q E S⟨a,o,ns,l,pn,pr,c,rfl,I,hR,k⟩;obtain⟨t,kd,h,m,u,rfl,_,rfl⟩:=hR;have hb:=I.bk;have yQ:az K H pn [.int t,.int kd,.int h,.int m,.int u]:=I.sn
 refine⟨_,(af (bh (gk<|bU<|c6 (iU T) S<|ab (pv 1)<|ab (UN T.zh) ag) (ao<|au<|aO<|ab (lA T.cV) ag) aF)
  (af (bh (aV eS (aE (gQ K) rfl T.aD eE<|ab (bT K<|pv 0) ag) (lA T.tJ)<|bg _) (ao<|au<|aO<|ab (lA T.Fs) ag) aF)
  (af (jR<|UL K OF R1 WA lO (bT K<|pv 0)<|ab (peM (uR T) S<|ab (bp (aN K) (pv 1) aw λ_ _=>rfl)<|ab (bp (aN K) (pv 1) aw λ_ _=>rfl)<|ab (bp (aN K) (pv 1) aw λ_ _=>rfl)<|ab (bp (aN K) (pv 1) aw λ_ _=>rfl)<|ab (bp (aN K) (pv 1) aw λ_ _=>rfl) ag) ag)
  (ao<|au<|aO<|ab aw<|ab (br sV (aE (gQ K) rfl T.aD eE<|ab (bT K<|pv 0) ag) aw) ag)))),?_⟩
 refine aK (σ':=[some _,some _,some _]) rfl ?_;symm;refine⟨pn,C.lC,_,_,rfl,I.sn,T.zx,by simp,λH0 Y=>?_⟩;rw[Xy];cases h0:(inside t 0 11&&(inside kd 0 5&&(inside h 0 4&&(inside m 1 200&&inside u 1 300))))with
 |false=>symm;intro r S;refine I.ret k (ans:=[-1]) ?_ (Y.trans<|aq.new S) ah;rw[pA,dt h0]
 |true=>
 have ne:¬(inside t 0 11&&(inside kd 0 5&&(inside h 0 4&&(inside m 1 200&&inside u 1 300))))=false:=by rw[h0];decide
 simp only[p0]at h0;have i1:=MA.dw.mp h0.1;have i2:=MA.dw.mp h0.2.1;have i3:=MA.dw.mp h0.2.2.1;have i4:=MA.dw.mp h0.2.2.2.1;have i5:=MA.dw.mp h0.2.2.2.2;obtain⟨t,rfl⟩:∃j:Nat,t=(j:Int):=⟨t.toNat,by lia⟩;obtain⟨kd,rfl⟩:∃j:Nat,kd=(j:Int):=⟨kd.toNat,by lia⟩;obtain⟨h,rfl⟩:∃j:Nat,h=(j:Int):=⟨h.toNat,by lia⟩;obtain⟨m,rfl⟩:∃j:Nat,m=(j:Int):=⟨m.toNat,by lia⟩;obtain⟨u,rfl⟩:∃j:Nat,u=(j:Int):=⟨u.toNat,by lia⟩;have pY:=Y.ae hb;have J:=Y.seq yQ;have U:=pY.lq;have afw:=az.of (K:=K) U;have Nb:=hb.ok.rp;have Z:=hb.ql;symm;by_cases aho:o.items.length=20
 .refine aC (ki<|by rw[ek,Z];lia) ?_;symm;intro r S;refine I.ret k (ans:=[-6]) ?_ (Y.trans<|aq.new S) ah;rw[pA,c0 ne,dt<|by show 20<=o.items.length;lia]
 refine aA (kx<|by rw[ek,Z];lia) ?_;symm;refine⟨.inl ⟨rfl,_,afw⟩,?_⟩;symm;refine cT J (aP (j:=0) rfl) ?_;symm;refine cT J (aP (j:=1) rfl) ?_;symm;refine cT J (aP (j:=2) rfl) ?_;symm;refine cT J (aP (j:=3) rfl) ?_;symm;refine cT J (aP (j:=4) rfl) ?_;symm;intro p dx hp MX iw;refine⟨p,dx,_,_,_,_,_,rfl,ah,λH1 ly kb Vd afx hh=>⟨rfl,?_⟩⟩;have k1:=o7 hp MX kb;have W:H0 ly=none:=by
  cases q:H0 ly with
  |none=>rfl
  |some w=>
   exfalso;have n1:ly≠p:=λz=>by rw[z,hp]at q;cases q
   have n2:ly≠dx:=λz=>by rw[z,MX]at q;cases q
   rw[aL n1,aL n2,q]at Vd;cases Vd
 have hQ:qG C H1 (⟨t,kd,h,m,u,[],false⟩:Item) p ly:=⟨⟨dx,hh⟩,afx,by simp⟩;have M:=ae.add pY k1 hp W hQ (by lia) ⟨by simp;lia,by simp;lia,by simp;lia,by simp;lia,by simp;lia,by simp;lia,by simp;lia,by simp⟩;symm;refine⟨a.lq,_,_,rfl,rfl,k1 _ _ U,by rw[ek,Z];exact U7 (m:=20) Nb,?_⟩;generalize e_:upd H1 a.lq _=H2 at M|-;have k2:d7 (foot a) H1 H2:=by subst e_;exact d7.upd (by simp[foot])
 have akf:=M.hd;have afy:=M.lq;have ahp:=az.of (K:=K) afy;symm;intro r S;refine I.put k (o':={o with items:=o.items++[⟨t,kd,h,m,u,[],false⟩]}) (ans:=[0,nat o.items.length]) ?_ ((d7.of<|Y.trans k1).trans k2) M (λb hb=>?_) (aq.new S) ?_
 .rw[pA,c0 ne,c0<|by show¬20<=o.items.length;lia];rfl
 .simp only[foot,eH,ro,u7,t6]at hb|-;rcases hb with z|z|z|z|(z|z)|(z|z)
  .exact .inl (.inl z)
  .exact .inl (.inr (.inl z))
  .exact .inl (.inr (.inr (.inl z)))
  .exact .inl (.inr (.inr (.inr (.inl z))))
  .exact .inl (.inr (.inr (.inr (.inr (.inl z)))))
  .rw[z];exact .inr<|Y.free hp
  .exact .inl (.inr (.inr (.inr (.inr (.inr z)))))
  .rw[z];exact .inr<|Y.free W
 .rw[ah];have e:(((a.qs++[p]).map V.ref).length:Int)-1=((o.items.length:Nat):Int):=by simp;lia
  show some (HO.lst [V.int 0,V.int<|(((a.qs++[p]).map V.ref).length:Int)-1])=_;rw[e];rfl
def G1(h:(l.any λe=>(e.1==i&&e.2==j)||(e.1==j&&e.2==i))=false):putK (rX l) (hk i j) (V.bl true)=rX (l++[(i,j)])/\gz (rX l) (hk i j)=none:=by
 have z:gz (rX l) (hk i j)=none:=by
  have:=Qc l i j;rw[h]at this;cases e:gz (rX l)<|hk i j with
  |none=>rfl
  |some v=>rw[e]at this;cases this
 refine⟨?_,z⟩;rw[wK _ z];unfold rX;rw[t4];rfl
def ae.foe(h:ae K C H a o)(hn:hostile o i j=false)(hi:i<o.items.length)(hj:j<o.items.length)(S:i≠j)(hl:o.enemies.length<890):
  ae K C (upd H a.le (.dT<|rX<|o.enemies++[(i,j)])) a {o with enemies:=o.enemies++[(i,j)]}:=by
 have U:=h.le;have k:ay a.le H<|upd H a.le (.dT<|rX<|o.enemies++[(i,j)]):=ay.upd;have hb:ae K C (upd H a.le (.dT<|rX<|o.enemies++[(i,j)])) a o->True:=λ_=>trivial;have ks:=λb xs(q:ee K H b xs)=>vN k U q;have Y:∀b A dx fs,H b=some (.ins A dx fs)->(upd H a.le (.dT<|rX<|o.enemies++[(i,j)])) b=some (.ins A dx fs):=λb A dx fs e=>k _ _ (λz=>by rw[z,U]at e;cases e) e;have kl:∀b xs,H b=some (.lst xs)->(upd H a.le (.dT<|rX<|o.enemies++[(i,j)])) b=some (.lst xs):=λb xs e=>k _ _ (λz=>by rw[z,U]at e;cases e) e;refine⟨?_,kl _ _ h.lq,h.ql,h.yl,?_,ah,kl _ _ h.ld,?_,h.sep,h.qn,?_⟩
 .obtain⟨dx,e⟩:=h.hd;exact⟨dx,Y _ _ _ _ e⟩
 .intro m x p y h1 h2 h3;obtain⟨⟨dx,Z⟩,q2,F⟩:=h.q m x p y h1 h2 h3;exact⟨⟨dx,Y _ _ _ _ Z⟩,kl _ _ q2,F⟩
 .refine L2.Paired.mono (λd v r=>?_) h.d;obtain⟨p,v1,v2,e,⟨dx,Z⟩,q2,F⟩:=r;refine⟨p,v1,v2,e,⟨dx,Y _ _ _ _ Z⟩,?_,?_⟩
  .obtain⟨b,I,J⟩:=q2;exact⟨b,I,ks _ _ J⟩
  .cases hB:ME d with
   |none=>rw[hB]at F;exact F
   |some s=>rw[hB]at F;obtain⟨b,I,J⟩:=F;exact⟨b,I,ks _ _ J⟩
 .have ok:=h.ok;refine⟨ok.rp,ok.it,λe M=>?_,by simp;lia,?_,ok.pl,ok.pw,ok.pn⟩
  .rcases ro.mp M with M|M
   .exact ok.en e M
   .rw[oI.mp M];exact⟨hi,hj,S⟩
  .obtain⟨I,J⟩:=G1 (l:=o.enemies) (i:=i) (j:=j) hn;show((rX<|o.enemies++[(i,j)]).map (·.1)).Nodup;rw[<-I];exact Sx _ ok.un J
def yy(K:cn)(C:Cl):Sp:=yP K C<|YA .enemies
def j7(o:Office)(i j:Int):does o (.enemies i j)=if(isItem o i&&(isItem o j&&i !=j))=false then(o,[-1])else if hostile o i.toNat j.toNat=true then(o,[-3])else({o with enemies:=o.enemies++[(i.toNat,j.toNat)]},[0,nat o.enemies.length+1]):=rfl
abbrev Aj:Ba:=["bank","numbers","row","one","other"]
def kH:aB Aj ["bank","numbers","row"]<|ai<|top 102:=fj
def yz(T:Txt K mg C):Fn P w K mg base "add_enemies" 3 ["bank","numbers","row"]<|yy K C:=by
 refine T.zv.go kH ?_;rintro f dg A outer s H _ Q E I⟨a,o,ns,l,pn,pr,c,rfl,F,hR,k⟩;obtain⟨i,j,rfl,_,rfl⟩:=hR;have M:=F.bk;have W:=F.sn
 refine⟨_,(af (eC 3 kH.nd<|bp (aN K) (pv 1) aw λ_ _=>rfl)
  (af (eC 4 kH.nd<|bp (aN K) (pv 1) aw λ_ _=>rfl)
  (af (bh (PW.pt<|jL (gk<|bU<|c6 (gD T) I<|ab (pv 0)<|ab (pv 3) ag)<|jL (gk<|bU<|c6 (gD T) I<|ab (pv 0)<|ab (pv 4) ag)<|i9<|aV eS (pv 3) (pv 4)<|bg _) (ao<|au<|aO<|ab (lA T.cV) ag) aF)
  (af (bh (bU<|c6 (iO T) I<|ab (pv 0)<|ab (pv 3)<|ab (pv 4) ag) (ao<|au<|aO<|ab (lA T.A9) ag) aF)
  (af (BW (uA I) (bT K<|pv 0) (c6 (xA T) I<|ab (pv 3)<|ab (pv 4) ag) kO rfl)
  (ao<|au<|aO<|ab aw<|ab (aE UT rfl T.aD eE<|ab (bT K<|pv 0) ag) ag)))))),?_⟩
 refine aK rfl ?_;symm;refine cT W (aP (j:=0) rfl) ?_;symm;refine cT W (aP (j:=1) rfl) ?_;symm;refine⟨a,o,i,rfl,M,λH0 k0=>?_⟩;cases h1:isItem o i with
 |false=>symm;intro r I;refine F.ret k (ans:=[-1]) ?_ (k0.trans<|aq.new I) ah;rw[j7,h1,Q5,dt rfl]
 |true=>
 symm;refine⟨a,o,j,rfl,k0.ae M,λH1 k1=>?_⟩;have J:=k0.trans k1;cases h2:isItem o j with
 |false=>symm;intro r I;refine F.ret k (ans:=[-1]) ?_ (J.trans<|aq.new I) ah;rw[j7,h1,h2,F2,Q5,dt rfl]
 |true=>
 symm;by_cases Y:i=j
 .refine aC (ki Y) ?_;symm;intro r I;refine F.ret k (ans:=[-1]) ?_ (J.trans<|aq.new I) ah;rw[j7,h1,h2,Y,F2,F2,bne_self_eq_false,dt rfl]
 refine aA (kx Y) ?_;have ne:¬(isItem o i&&(isItem o j&&i !=j))=false:=by rw[h1,h2,F2,F2,bne_eq_false_iff_eq];exact Y
 obtain⟨q1,q2⟩:=MA.ib.mp h1;obtain⟨q3,q4⟩:=MA.ib.mp h2;obtain⟨i,rfl⟩:∃m:Nat,i=(m:Int):=⟨i.toNat,by lia⟩;obtain⟨j,rfl⟩:∃m:Nat,j=(m:Int):=⟨j.toNat,by lia⟩;rw[t5]at q2 q4;have L6:i≠j:=λz=>Y (by rw[z]);have qJ:=J.ae M;symm;refine⟨a,o,i,j,rfl,qJ,λH2 k2=>?_⟩;have S:=J.trans k2;cases h4:hostile o i j with
 |true=>symm;intro r I;refine F.ret k (ans:=[-3]) ?_ (S.trans<|aq.new I) ah;rw[j7,c0 ne,t5,t5,dt h4]
 |false=>
 have sO:=S.ae M;symm;refine⟨i,j,rfl,λH3 tp k3 htp=>?_⟩;have Z:=S.trans k3;have FT:=Z.ae M;have afz:H3 tp=some (.tup<|(hk i j).map kV):=htp;have afA:=F.es;obtain⟨e1,e2⟩:=G1 (l:=o.enemies) (i:=i) (j:=j) h4;refine⟨a.le,_,rfl,za.t FT.le afz<|by unfold rX;rw[ek];exact U7 (m:=900)<|by lia,?_⟩;rw[e1];have U:=ae.foe FT h4 q2 q4 L6 afA;generalize e_:upd H3 a.le _=H4 at U|-;have k4:d7 (foot a) H3 H4:=by subst e_;exact d7.upd (by simp[foot])
 symm;refine⟨a.le,_,rfl,U.le,?_⟩;symm;intro r I;refine F.put k (o':={o with enemies:=o.enemies++[(i,j)]}) (ans:=[0,nat o.enemies.length+1]) ?_ ((d7.of Z).trans k4) U (λb M=>.inl M) (aq.new I) ?_
 .rw[j7,c0 ne,t5,t5,c0<|by rw[h4];decide]
 .rw[ah];have e:(((rX<|o.enemies++[(i,j)]).length:Nat):Int)=nat o.enemies.length+1:=by unfold rX nat;rw[ek,mu];rfl
  show some (HO.lst [V.int 0,V.int (((rX<|o.enemies++[(i,j)]).length:Nat):Int)])=_;rw[e];rfl
theorem G2:∀(b:AU)(n:Nat),(∀c∈b,c<=57)->b.foldl (λn c=>10*n+(c-48)) n+1<=(n+1)*10^b.length
 |[],n,_=>by simp
 |c::b,n,h=>by
  have F:=h c<|lx ..;rw[Hr,kA,Xw];refine lp (G2 b (10*n+(c-48)) λx z=>h x<|kB _ z) ?_;have:(10*n+(c-48)+1)<=(n+1)*10:=by lia
  calc(10*n+(c-48)+1)*10^b.length<=((n+1)*10)*10^b.length:=WI _ this
   _=(n+1)*(10^b.length*10):=by rw[Nat.mul_assoc,Nat.mul_comm 10]
def yA(h:natOf b=some k):k<=9999:=by
 unfold natOf at h;split at h
 .cases h
 .rename_i F;have I:b.length<=4:=by refine Sh λz=>F (.inr (.inl z))
  have hd:b.all digit=true:=by
   cases e:b.all digit with
   |true=>rfl
   |false=>exact absurd (.inr (.inr (.inl e))) F
  have:=G2 b 0 λc j=>by have:=wy.mp hd c j;have:=y1 this;exact this.2
  have J:10^b.length<=10^4:=Qn (by decide) I;cases h;lia
def DK(h:MA.gj n F=some s):oh s<=9999:=by
 rcases MA.Hm n F with e|⟨_,e⟩|⟨w,x,a,_,_,j,e⟩
 .rw[e]at h;cases h
 .rw[e]at h;cases h;exact ti _
 .rw[e]at h;cases h;unfold MA.eO at j;cases hk:natOf x with
  |none=>rw[hk]at j;cases j
  |some k=>
   rw[hk]at j;simp at j
   repeat(first|(split at j;(first|(cases j;exact(yA hk))|skip))|(cases j))
def M8(h:demandOf n I=some d):CV d/\∀s w l j,d=Demand.range s w l j->w<=2:=by
 rw[<-MA.we]at h;cases I with
 |nil=>cases h
 |cons J I=>
  have F:∀S(mk:Sel->Sel->Demand),(∀a b,uI (mk a b)=a/\ME (mk a b)=some b/\P9 (mk a b)=0/\To (mk a b)=0/\∀s w l j,mk a b≠Demand.range s w l j)->MA.mU n (J::I) S mk=some d->CV d/\∀s w l j,d=Demand.range s w l j->w<=2:=by
   intro S mk U M;unfold MA.mU at M;split at M
   .cases M
   .split at M
    .rename_i a b W hb;cases M;obtain⟨m1,m2,m3,m4,m5⟩:=U a b;refine⟨⟨by rw[m1];exact DK W,λs hs=>?_,by rw[m3];exact ti _,by rw[m4];exact ti _⟩,λs w l j e=>absurd e<|m5 s w l j⟩;rw[m2]at hs;cases hs;exact DK hb
    .cases M
  have h:(if J=text "if" then MA.mU n (J::I) (text "then") .whenever else if J=text "not" then MA.mU n (J::I) (text "with") .apart else MA.lJ n (J::I))=some d:=h;split at h
  .exact F _ _ (λa b=>⟨rfl,rfl,rfl,rfl,λ_ _ _ _ z=>by cases z⟩) h
  .split at h
   .exact F _ _ (λa b=>⟨rfl,rfl,rfl,rfl,λ_ _ _ _ z=>by cases z⟩) h
   .unfold MA.lJ at h;split at h
    .cases h
    .split at h
     .split at h
      .cases h
      .rename_i k hk;split at h
       .split at h
        .rename_i a lo hi W Y Z;split at h
         .cases h;refine⟨⟨DK W,(λs hs=>by cases hs),yA Y,yA Z⟩,λs w l j e=>?_⟩;cases e;exact(GJ hk).2
         .cases h
        .cases h
       .cases h
     .cases h
theorem DL(n:Nat):∀(ls:List AU)(i:Nat)(acc pl:List Demand),(∀d∈acc,CV d/\∀s w l z,d=Demand.range s w l z->w<=2)->readPlan n i ls acc=.ok pl->∀d∈pl,CV d/\∀s w l z,d=Demand.range s w l z->w<=2
 |[],i,acc,pl,h,e=>by cases e;exact h
 |b::ls,i,acc,pl,h,e=>by
  unfold readPlan at e;split at e
  .exact DL n ls (i+1) acc pl h e
  .split at e
   .cases e
   .rename_i d hd;split at e
    .cases e
    .refine DL n ls (i+1) _ pl (λx j=>?_) e;rcases ro.mp j with j|j
     .exact h x j
     .rw[oI.mp j];exact M8 hd
def ae.plan(h:ae K C H a o)(hD:H D=some (.lst ds))(nq:D≠a.lq)(ny:D∉a.jW)(hd:Paired (iN K C H) pl ds)(S:pl.length<=10)(c7:∀d∈pl,CV d/\∀s w l hh,d=Demand.range s w l hh->w<=2):
  ae K C (upd H a.B (.ins C.b dx<|bF a.lq a.le D {o with plan:=pl})) {a with ld:=D,ds:=ds} {o with plan:=pl}:=by
 obtain⟨dx0,F⟩:=h.hd;have k:ay a.B H<|upd H a.B (.ins C.b dx<|bF a.lq a.le D {o with plan:=pl}):=ay.upd;have U:∀p xs,H p=some (.lst xs)->p≠a.B:=λp xs e z=>by rw[z,F]at e;cases e
 have nt:∀p xs,H p=some (.dT xs)->p≠a.B:=λp xs e z=>by rw[z,F]at e;cases e
 have Y:∀p A dx x ly,H p=some (.ins A dx<|qF x ly)->p≠a.B:=λp A dx x ly e z=>by rw[z,F]at e;have:=congrArg List.length (HO.ins.inj<|ri e).2.2;exact absurd this (by show¬(6:Nat)=7;decide)
 have nd:∀p A dx w v1 v2 lo hi,H p=some (.ins A dx<|dF w v1 v2 lo hi)->p≠a.B:=λp A dx w v1 v2 lo hi e z=>by rw[z,F]at e;have:=congrArg List.length (HO.ins.inj<|ri e).2.2;exact absurd this (by show¬(6:Nat)=5;decide)
 have ks:∀b xs,ee K H b xs->ee K (upd H a.B (.ins C.b dx<|bF a.lq a.le D {o with plan:=pl})) b xs:=λb xs q=>by
  rcases q with(q|⟨z,q⟩)|q
  .exact .inl (.inl<|k _ _ (λz=>by rw[z,F]at q;cases q) q)
  .exact .inl (.inr ⟨z,k _ _ (λz=>by rw[z,F]at q;cases q) q⟩)
  .exact .inr q
 have sep:=h.sep;rw[nM,nM]at sep;refine⟨⟨dx,ah⟩,k _ _ (U _ _ h.lq) h.lq,h.ql,h.yl,?_,k _ _ (nt _ _ h.le) h.le,k _ _ (U _ _ hD) hD,?_,?_,h.qn,?_⟩
 .intro i x p y h1 h2 h3;obtain⟨⟨j,J⟩,M,I⟩:=h.q i x p y h1 h2 h3;exact⟨⟨j,k _ _ (Y _ _ _ _ _ J) J⟩,k _ _ (U _ _ M) M,I⟩
 .refine L2.Paired.mono (λd v r=>?_) hd;obtain⟨p,v1,v2,e,⟨j,J⟩,M,I⟩:=r;refine⟨p,v1,v2,e,⟨j,k _ _ (nd _ _ _ _ _ _ _ _ J) J⟩,?_,?_⟩
  .obtain⟨b,Z,e2⟩:=M;exact⟨b,Z,ks _ _ e2⟩
  .cases hB:ME d with
   |none=>rw[hB]at I;exact I
   |some s=>rw[hB]at I;obtain⟨b,Z,e2⟩:=I;exact⟨b,Z,ks _ _ e2⟩
 .show(a.lq::D::a.jW).Nodup;rw[nM,nM];refine⟨λz=>?_,ny,sep.2.2⟩;rcases eH.mp z with z|z
  .exact nq z.symm
  .exact sep.1<|kB _ z
 .have ok:=h.ok;exact⟨ok.rp,ok.it,ok.en,ok.JI,ok.un,S,λd hd=>(c7 d hd).2,λd hd=>(c7 d hd).1⟩
def G3(K:cn)(C:Cl):Sp:=yP K C<|RP .plan
def md(o:Office)(t:Bc):does o (.plan t)=if(decide (t.length<=1000)&&t.all λx=>inside x 0 255)=false then(o,[-1])else match planOf o.items.length (t.map Int.toNat)with
   |.error e=>(o,[-1000-nat e])
   |.ok l=>({o with plan:=l},[0,nat l.length]):=rfl
abbrev yB:Ba:=["bank","numbers","row","reading","byte"]
def lu:aB yB ["bank","numbers","row"]<|ai<|top 103:=fj
def G4(T:Txt K mg C):Fn P w K mg base "set_plan" 7 ["bank","numbers","row"]<|G3 K C:=by
 refine T.ID.go lu ?_;rintro f dg A outer s H _ Q E J⟨a,o,ns,l,pn,pr,c,rfl,F,hR,k⟩;obtain⟨_,rfl⟩:=hR;have W:=F.bk;have hsr:=F.sr;have S1:=F.ll
 refine⟨_,(af (bh (PW.pt<|jL (aV nN (aE (gQ K) rfl T.aD eE<|ab (pv 2) ag) (lA T.Cv)<|bg _)<|i9<|gk<|bU<|aE (Cd K) rfl T.km wV<|ab (eM (own:=[("byte",4)]) rfl lu.nd (bj K<|pv 2) (aU (N:=yB) (sc:=ai<|top 103)<|by decide+kernel) (λ_ _ _ _ _=>(gu 4 lu.nd)) (λ_ _ _ _ _=>bR) λ_ _ _ _ _=>(rC mW mW aw (pv 4) aw)) ag) (ao<|au<|aO<|ab (lA T.cV) ag) aF)
  (af (eC 3 lu.nd<|c6 (Ds T) J<|ab (pv 2)<|ab (aE (gQ K) rfl T.aD eE<|ab (bT K<|pv 0) ag) ag)
  (af (bh (aV nN (bp (ei K) (pv 3) aw λ_ _=>rfl) aw<|bg _) (ao<|au<|aO<|ab (br sV (lA T.Ct)<|bp (ei K) (pv 3) aw λ_ _=>rfl) ag) aF)
  (af (cU K (pv 0)<|bp (ei K) (pv 3) aw λ_ _=>rfl)
  (ao<|au<|aO<|ab aw<|ab (aE (gQ K) rfl T.aD eE<|ab (bT K<|pv 0) ag) ag))))),?_⟩
 refine aK (σ':=[some _,some _,some _,none,none]) rfl ?_;symm;by_cases h1:1000<l.length
 .refine aC (ki<|by rw[ek];lia) ?_;symm;intro r J;refine F.ret k (ans:=[-1]) ?_ (aq.new J) ah;rw[md,kx<|by lia,Q5,dt rfl]
 refine aA (kx<|by rw[ek];lia) ?_;symm;refine ic (j:=4) l (λn v=>v=V.int n) (λn=>some<|inside n 0 255) (λb v _=>v=V.bl b) hsr (pmap _ _) (by rw[ek];exact sz (m:=1200) S1) (λD hD i e v H' acc Nx Ns he se kk cW n1 n2=>?_) (λ_=>rfl) λD ys H0 k0 hD M Hi=>?_
 .subst se;symm;by_cases q1:0<=e
  .refine aC (ki q1) ?_;symm;refine n1 _ rfl _ _ (aq.refl _) λ_ _=>?_;unfold inside;rw[ki q1,F2]
  .refine aA (kx q1) ?_;refine n1 _ rfl _ _ (aq.refl _) λ_ _=>?_;unfold inside;rw[kx q1,Q5]
 rw[bq Hi,bX]at M;symm;refine km (az.of M) ?_;have ea:(l.map λn=>inside n 0 255).all id=l.all λx=>inside x 0 255:=by rw[Kf];rfl
 rw[ea];symm;cases h2:(l.all λx=>inside x 0 255)with
 |false=>symm;intro r J;refine F.ret k (ans:=[-1]) ?_ (k0.trans<|aq.new J) ah;rw[md,h2,Bool.and_false,dt rfl]
 |true=>
 have ne:¬(decide (l.length<=1000)&&l.all λx=>inside x 0 255)=false:=by rw[h2,ki<|by lia];decide
 have Ad:l.map V.int=fm (l.map Int.toNat):=by rw[fm,oW];refine zD λz hz=>?_;have:=(MA.dw.mp<|wy.mp h2 z hz).1;show V.int z=V.int ((z.toNat:Nat):Int);rw[apx this]
 have pY:=k0.ae W;have Xz:=pY.lq;have hql:=W.ql;have afB:az K H0 pr<|fm<|l.map Int.toNat:=by rw[<-Ad];exact k0.seq hsr
 symm;rw[ek,hql];refine⟨pr,_,o.items.length,rfl,afB,by rw[ek];lia,λH1 t D code ds k1 ht hD M S=>?_⟩;have Y:=k0.trans k1;have qJ:=Y.ae W;have Z:=ee.of (K:=K) ht;symm;refine gB Z (m:=0) rfl ?_;cases I:planOf o.items.length<|l.map Int.toNat with
 |error e=>rw[I]at S;obtain rfl:code=nv e:=S;have he:1<=e:=yj _ _ _ _ _ I;symm;refine aC (ki<|by lia) ?_;symm;refine gB Z (m:=0) rfl ?_;symm;intro r J;refine F.ret k (ans:=[-1000-nat e]) ?_ (Y.trans<|aq.new J) ah;rw[md,c0 ne,I]
 |ok pl=>
  rw[I]at S;obtain⟨rfl,Nn⟩:=S;symm;refine gB Z (m:=1) rfl ?_;symm;obtain⟨dx,hB1⟩:=qJ.hd;have Zs:H D=none:=k0.free hD;have nDq:D≠a.lq:=λz=>by have:=W.lq;rw[<-z,Zs]at this;cases this
  have nDy:D∉a.jW:=λz=>by obtain⟨_,e⟩:=W.Jg D z;rw[Zs]at e;cases e
  have Ua:pl.length<=10:=MA.jQ _ _ _ _ _ (by simp) I;have U:=ae.plan (dx:=dx) qJ M nDq nDy Nn Ua<|DL _ _ _ _ _ (λd hd=>by cases hd) I;refine⟨a.B,C.b,dx,_,rfl,hB1,T.fe,T.mC,by simp[bF],?_⟩;have k2:d7 (foot a) H1<|upd H1 a.B (.ins C.b dx<|bF a.lq a.le D {o with plan:=pl}):=d7.upd (by simp[foot]);rw[show(HO.ins C.b dx<|c8 "demands" (V.ref D)<|bF a.lq a.le a.ld o)=HO.ins C.b dx (bF a.lq a.le D {o with plan:=pl})from rfl];generalize upd H1 a.B (.ins C.b dx<|bF a.lq a.le D {o with plan:=pl})=H2 at U k2|-;have hB2:=U.hd;have Xb:=U.ld;have ahs:=az.of (K:=K) Xb;symm;intro r J;refine F.put k (o':={o with plan:=pl}) (ans:=[0,nat pl.length]) ?_ ((d7.of Y).trans k2) U (λb W=>?_) (aq.new J) ?_
  .rw[md,c0 ne,I]
  .simp only[foot,eH,ro]at W|-;rcases W with z|z|z|z|z|z
   .exact .inl (.inl z)
   .exact .inl (.inr (.inl z))
   .exact .inl (.inr (.inr (.inl z)))
   .rw[z];exact .inr Zs
   .exact .inl (.inr (.inr (.inr (.inr (.inl z)))))
   .exact .inl (.inr (.inr (.inr (.inr (.inr z)))))
  .rw[ah,<-mf Nn];rfl
def DM(K:cn)(C:Cl):Sp:=yP K C<|R0 .told
def Bv(o:Office):does o .told=(o,[0,nat o.items.length,nat o.enemies.length,nat o.plan.length,nat o.gap,nat o.most,nat o.year]++listed (Vbxoab.free o)):=rfl
abbrev G5:Ba:=["bank","numbers","row","sizes"]
def sM:aB G5 ["bank","numbers","row"]<|ai<|top 121:=fj
def DN(T:Txt K mg C):Fn P w K mg base "tell_told" 3 ["bank","numbers","row"]<|DM K C:=by
 refine T.FK.go sM ?_;rintro f dg A outer s H _ Q E M⟨a,o,ns,l,pn,pr,c,rfl,F,S,k⟩;obtain⟨_,_,rfl⟩:=S;have z:=F.bk;have Qw:=z.lq;have U:=z.le;have yM:=z.ld;have Nb:=z.ok.rp;have Pj:(Vbxoab.free o).length<=o.items.length:=lp (B1 _ _) (by simp);have W:=mf z.d
 refine⟨_,(af (eC 3 sM.nd<|aO<|ab (aE (gQ K) rfl T.aD eE<|ab (bT K<|pv 0) ag)<|ab (aE UT rfl T.aD eE<|ab (bT K<|pv 0) ag)<|ab (aE (gQ K) rfl T.aD eE<|ab (bT K<|pv 0) ag) ag)
  (ao<|au<|br eL (br eL (br eL (aO<|ab aw ag)<|pv 3)<|aO<|ab (bT K<|pv 0)<|ab (bT K<|pv 0)<|ab (bT K<|pv 0) ag)<|c6 (bW T) M<|ab (c6 (fw T) M<|ab (pv 0) ag) ag)),?_⟩
 refine aK (σ':=[some _,some _,some _,none]) rfl ?_;symm;refine⟨a.le,_,rfl,U,?_⟩;symm;rw[ek,z.ql,<-W];have el:(((rX o.enemies).length:Nat):Int)=((o.enemies.length:Nat):Int):=by unfold rX;rw[ek]
 rw[el];intro q hq;generalize j:upd H q _=H1;obtain⟨k1,h1⟩:=nx j hq;symm;intro q2 Y;generalize j:upd H1 q2 _=H2;obtain⟨k2,h2⟩:=nx j Y;symm;refine iu h2 (k2 _ _ h1) (by simp) λq3 Z=>?_;generalize j:upd H2 q3 _=H3;obtain⟨k3,h3⟩:=nx j Z;have I:=(k1.trans k2).trans k3;have FT:=I.ae z;symm;intro q4 W7;generalize j:upd H3 q4 _=H4;obtain⟨k4,h4⟩:=nx j W7;symm;refine iu (k4 _ _ h3) h4 (by simp) λq5 hq5=>?_;generalize j:upd H4 q5 _=H5;obtain⟨k5,h5⟩:=nx j hq5;have J:=(I.trans k4).trans k5;symm;refine⟨a,o,rfl,J.ae z,λH6 fl k6 akm hF=>?_⟩;symm;refine⟨fl,_,rfl,.inl<|az.of hF,by rw[ek];lia,λH7 r k7 M S=>?_⟩;symm;refine iu ((k6.trans k7) _ _ h5) S (by simp;lia) λt ht=>?_;refine F.ret k (ans:=[0,nat o.items.length,nat o.enemies.length,nat o.plan.length,nat o.gap,nat o.most,nat o.year]++listed (Vbxoab.free o)) (Bv o) ((J.trans<|k6.trans k7).trans<|aq.new ht) ?_;rw[ah,t4,gf];rfl
def Ak(K:cn)(C:Cl):Sp:=yP K C<|RP .meets
def yC(o:Office)(l:Bc):does o (.meets l)=onPaper o l λp=>(o,[0,bit<|Vbxoab.good o p,bit<|peaceful o p,bit<|p.all<|Vbxoab.leave o]++o.plan.map λd=>bit<|Vbxoab.meets o p d):=rfl
def XC(j:xy o)(z:p.Nodup):(MA.calm (hostile o) p::p.all (Vbxoab.leave o)::o.plan.map (fz o p))=peaceful o p::p.all (Vbxoab.leave o)::o.plan.map (Vbxoab.meets o p):=by
 rw[calm_eq j]
 congr 2
 exact zD λd hd=>l9 j hd z
abbrev sN:Ba:=["bank","numbers","row","told","truth"]
def jw:aB sN ["bank","numbers","row"]<|ai<|top 106:=fj
def Al(T:Txt K mg C):Fn P w K mg base "tell_meets" 5 ["bank","numbers","row"]<|Ak K C:=by
 refine T.CG.go jw ?_;rintro f dg A outer s H _ Q E J⟨a,o,ns,l,pn,pr,c,rfl,F,hR,k⟩;obtain⟨_,rfl⟩:=hR;have M:=F.bk
 refine⟨_,(af (bh (gk<|bU<|c6 (kY T) J<|ab (pv 0)<|ab (pv 2) ag) (ao<|au<|aO<|ab (lA T.cV) ag) aF)
  (af (eC 3 jw.nd<|c6 (oo T) J<|ab (pv 0)<|ab (pv 2) ag)
  (ao<|au<|br eL (aO<|ab aw<|ab (c6 (jZ T) J<|ab (aE (Cd K) rfl T.km wV<|ab (pv 3) ag) ag) ag)<|eM (own:=[("truth",4)]) rfl jw.nd (bj K<|pv 3) (aU (N:=sN) (sc:=ai<|top 106)<|by decide+kernel) (λ_ _ _ _ _=>(gu 4 jw.nd)) (λ_ _ _ _ _=>bR) λ_ _ _ _ _=>(c6 (jZ T) J<|ab (pv 4) ag)))),?_⟩
 refine aK (σ':=[some _,some _,some _,none,none]) rfl ?_;symm;refine⟨a,o,pr,l,rfl,M,F.sr,λH0 Y=>?_⟩;cases S:iP o l with
 |false=>symm;intro r J;exact F.ret k (ans:=[-1]) (yp S _) (Y.trans<|aq.new J) ah
 |true=>
 have I:=oJ M.ok S;generalize l.map Int.toNat=p at I;have U:az K H pr<|fm p:=by rw[<-I.row];exact F.sr
 have Z:=Y.ae M;have YB:=Y.seq U;have hsz:=I.sz;symm;refine⟨a,o,pr,p,rfl,Z,YB,by lia,I.lt,λH1 vl k1 hvl hV=>?_⟩;rw[XC M.ok I.nd]at hV;have yu:=Y.trans k1;have jc:=M.ok.pl;symm;refine km (az.of hV) ?_;have eg:(peaceful o p::p.all (Vbxoab.leave o)::o.plan.map (Vbxoab.meets o p)).all id=Vbxoab.good o p:=by unfold Vbxoab.good;rw[B4,B4,Kf];rfl
 rw[eg];symm;refine⟨_,rfl,?_⟩;symm;intro q hq;generalize e_:upd H1 q _=H2;obtain⟨k2,h2⟩:=nx e_ hq;have hV2:=k2 _ _ hV;symm;refine ic (j:=4) (peaceful o p::p.all (Vbxoab.leave o)::o.plan.map (Vbxoab.meets o p)) (λb v=>v=V.bl b) (λb=>some<|bit b) (λz v _=>v=V.int z) (az.of hV2) (pmap _ _) (by simp;exact sz (m:=12)<|by lia) (λD hD i e v H' acc Nx Ns he se kk cW n1 n2=>?_) (λ_=>rfl) λD ys H3 k3 hD W Hi=>?_
 .subst se;symm;refine⟨e,rfl,?_⟩;exact n1 _ rfl _ _ (aq.refl _) λ_ _=>rfl
 rw[bq Hi,bX]at W;symm;refine iu (k3 _ _ h2) W (by simp;lia) λt ht=>?_;refine F.ret k (ans:=[0,bit<|Vbxoab.good o p,bit<|peaceful o p,bit<|p.all<|Vbxoab.leave o]++o.plan.map λd=>bit<|Vbxoab.meets o p d) ?_ (((yu.trans k2).trans k3).trans<|aq.new ht) ?_
 .rw[yC,uV I]
 .rw[ah];simp only[ip,t4,oW,Ki,T8,HD];rfl
def Am(K:cn)(C:Cl):Sp:=yP K C<|RN .about
def rd(o:Office)(i:Int):does o (.about i)=if isItem o i=false then(o,[-1])else(o,[0,nat (Vbxoab.itemAt o i.toNat).topic,nat (Vbxoab.itemAt o i.toNat).kind,nat (Vbxoab.itemAt o i.toNat).hard,nat (Vbxoab.itemAt o i.toNat).marks,nat (Vbxoab.itemAt o i.toNat).minutes,bit (Vbxoab.itemAt o i.toNat).out,bit<|Vbxoab.leave o i.toNat]++(listed (Vbxoab.itemAt o i.toNat).used++listed ((List.range o.items.length).filter<|hostile o i.toNat))):=rfl
abbrev DO:Ba:=["bank","numbers","row","question","told"]
def lH:aB DO ["bank","numbers","row"]<|ai<|top 115:=fj
def An(T:Txt K mg C):Fn P w K mg base "tell_about" 4 ["bank","numbers","row"]<|Am K C:=by
 refine T.CN.go lH ?_;rintro f dg A outer s H _ Q E M⟨a,o,ns,l,pn,pr,c,rfl,S,hR,k⟩;obtain⟨i,rfl,_,rfl⟩:=hR;have hb:=S.bk;have U:az K H pn [.int i]:=S.sn
 refine⟨_,(af (bh (gk<|bU<|c6 (gD T) M<|ab (pv 0)<|ab (bp (aN K) (pv 1) aw λ_ _=>rfl) ag) (ao<|au<|aO<|ab (lA T.cV) ag) aF)
  (af (eC 3 lH.nd<|bp (aN K) (bT K<|pv 0) (bp (aN K) (pv 1) aw λ_ _=>rfl) λ_ _=>rfl)
  (af (eC 4 lH.nd<|aO<|ab (bT K<|pv 3)<|ab (bT K<|pv 3)<|ab (bT K<|pv 3)<|ab (bT K<|pv 3)<|ab (bT K<|pv 3) ag)
  (af (jR<|UL K OF R1 WA lO (pv 4)<|ab (c6 (jZ T) M<|ab (bT K<|pv 3) ag) ag)
  (af (jR<|UL K OF R1 WA lO (pv 4)<|ab (c6 (jZ T) M<|ab (c6 (mE T) M<|ab (pv 0)<|ab (pv 3) ag) ag) ag)
  (ao<|au<|br eL (br eL (br eL (aO<|ab aw ag)<|pv 4)<|c6 (bW T) M<|ab (bT K<|pv 3) ag)<|c6 (bW T) M<|ab (c6 (zC T) M<|ab (pv 0)<|ab (bp (aN K) (pv 1) aw λ_ _=>rfl) ag) ag)))))),?_⟩
 refine aK (σ':=[some _,some _,some _,none,none]) rfl ?_;symm;refine cT U (aP (j:=0) rfl) ?_;symm;refine⟨a,o,i,rfl,hb,λH0 Z=>?_⟩;cases h0:isItem o i with
 |false=>symm;intro r M;refine S.ret k (ans:=[-1]) ?_ (Z.trans<|aq.new M) ah;rw[rd,dt h0]
 |true=>
 have ne:¬isItem o i=false:=by rw[h0];decide
 obtain⟨h1,h2⟩:=MA.ib.mp h0;obtain⟨n,rfl⟩:∃j:Nat,i=(j:Int):=⟨i.toNat,by lia⟩;rw[t5]at h2;have Nb:=hb.ok.rp;have I:=Z.ae hb;have JC:=Z.seq U;obtain⟨p,y,Qw,J⟩:=I.at_ h2;have hus:=J.2.2;generalize hx:Vbxoab.itemAt o n=x at J hus;symm;refine cT JC (aP (j:=0) rfl) ?_;symm;refine cT (az.of I.lq) (aP Qw) ?_;symm;intro q hq;generalize z:upd H0 q _=H1;obtain⟨k1,e1⟩:=nx z hq;have hQ1:=k1.qG J;have hd1:=k1.Rq I.hd;symm;refine⟨.inl ⟨rfl,_,az.of e1⟩,?_⟩;symm;refine⟨_,rfl,?_⟩;symm;refine⟨q,_,_,rfl,rfl,e1,U7 (m:=5)<|by simp,?_⟩;generalize z:upd H1 q _=H2;have kb2:ay q H1 H2:=by subst z;exact ay.upd
 have e2:H2 q=some (.lst<|[nv x.topic,nv x.kind,nv x.hard,nv x.marks,nv x.minutes]++[.int<|bit x.out]):=by subst z;exact ah
 have W:aq H0 H2:=eT k1 hq kb2;have XD:=W.qG J;have hd2:=W.Rq I.hd;symm;refine⟨.inl ⟨rfl,_,az.of e2⟩,?_⟩;symm;refine⟨a.B,p,a.lq,a.le,a.ld,y,o,x,rfl,hd2,XD,λH3 k3=>?_⟩;symm;refine⟨_,rfl,?_⟩;symm;have hlv:leaveI o x=Vbxoab.leave o n:=by rw[<-hx];exact KO o n
 rw[hlv];refine⟨q,_,_,rfl,rfl,k3 _ _ e2,U7 (m:=6)<|by simp,?_⟩;generalize z:upd H3 q _=H4;have kb4:ay q H3 H4:=by subst z;exact ay.upd
 have e4:H4 q=some (.lst<|[nv x.topic,nv x.kind,nv x.hard,nv x.marks,nv x.minutes]++[.int<|bit x.out]++[.int<|bit<|Vbxoab.leave o n]):=by subst z;exact ah
 have k04:aq H0 H4:=eT (W.trans k3) hq kb4;symm;intro q5 hq5;generalize z:upd H4 q5 _=H5;obtain⟨k5,e5⟩:=nx z hq5;symm;refine iu e5 (k5 _ _ e4) (by simp) λq6 hq6=>?_;generalize z:upd H5 q6 _=H6;obtain⟨k6,e6⟩:=nx z hq6;have k06:=(k04.trans k5).trans k6;have hQ6:=k06.qG J;symm;refine⟨y,_,rfl,.inl<|az.of hQ6.2.1,by rw[ek];lia,λH7 r k7 M hR=>?_⟩;symm;refine iu (k7 _ _ e6) hR (by simp;lia) λq8 hq8=>?_;generalize z:upd H7 q8 _=H8;obtain⟨k8,e8⟩:=nx z hq8;have Y:=(k06.trans k7).trans k8;symm;refine cT ((Z.trans Y).seq U) (aP (j:=0) rfl) ?_;symm;refine⟨a,o,n,rfl,Y.ae I,λH9 fl k9 Pj hF=>?_⟩;have Pj:((List.range o.items.length).filter<|hostile o n).length<=20:=lp (B1 _ _) (by simp;lia);symm;refine⟨fl,_,rfl,.inl<|az.of hF,by rw[ek];lia,λHa r2 ka S6 hR2=>?_⟩;symm;refine iu ((k9.trans ka) _ _ e8) hR2 (by simp only[mu,kA,wh,ek];lia) λt ht=>?_;refine S.ret k (ans:=[0,nat (Vbxoab.itemAt o n).topic,nat (Vbxoab.itemAt o n).kind,nat (Vbxoab.itemAt o n).hard,nat (Vbxoab.itemAt o n).marks,nat (Vbxoab.itemAt o n).minutes,bit (Vbxoab.itemAt o n).out,bit<|Vbxoab.leave o n]++(listed (Vbxoab.itemAt o n).used++listed ((List.range o.items.length).filter<|hostile o n))) ?_ (((Z.trans Y).trans<|k9.trans ka).trans<|aq.new ht) ?_
 .rw[rd,c0 ne,t5]
 .rw[ah,t4,t4,gf,gf,hx];simp only[Ed];rfl
def dj(j:a≠[])(z:b≠[]):(joined<|a++b).length=(joined a).length+1+(joined b).length:=by rw[gn a b j z,mu,kA];lia
def G6(h:CV d)(z:∀s w l J,d=Demand.range s w l J->w<=2):(joined<|demandWords d).length<=30500:=by
 obtain⟨h1,h2,F,I⟩:=h;have j:=mP _ h1;have S:(text "to").length=2:=by decide
 have U:(text "if").length=2:=by decide
 have W:(text "then").length=4:=by decide
 have Y:(text "not").length=3:=by decide
 have Z:(text "with").length=4:=by decide
 cases d with
 |range s w lo hi=>
  have z:=z s w lo hi rfl;have q:(text<|["count","marks","minutes"].getD w "").length<=10:=by
   obtain _|_|_|w:=w
   iterate 3 decide
   lia
  have d1:=o8 lo;have d2:=o8 hi;have F:lo<=9999:=F;have I:hi<=9999:=I;have j:(joined<|selWords s).length<=10100:=j;show(joined<|selWords s++_).length<=_;rw[dj (de s)<|R7 _ _];simp only[joined,mu,kA];lia
 |whenever s1 s2=>have j:(joined<|selWords s1).length<=10100:=j;have M:=mP s2<|h2 s2 rfl;show(joined<|([text "if"]++selWords s1)++([text "then"]++selWords s2)).length<=_;rw[dj (by simp)<|by simp,dj (by simp)<|de _,dj (by simp)<|de _];simp only[joined];lia
 |apart s1 s2=>have j:(joined<|selWords s1).length<=10100:=j;have M:=mP s2<|h2 s2 rfl;show(joined<|([text "not"]++selWords s1)++([text "with"]++selWords s2)).length<=_;rw[dj (by simp)<|by simp,dj (by simp)<|de _,dj (by simp)<|de _];simp only[joined];lia
theorem Bw{j:Type}(g:j->AU):∀l:List j,Str.join (Str.ofString "") (l.map λc=>sB<|g c)=sB (l.flatMap g)
 |[]=>rfl
 |[x]=>by simp[Str.join]
 |x::y::l=>by
  have z:=Bw g<|y::l;show sB (g x)++Str.ofString ""++Str.join _ ((y::l).map λc=>sB<|g c)=_;rw[z,eu,kE,kE,Q3]
  congr 1
  show(g x++[])++_=_;rw[B5,Q3,Q3]
theorem G7{j:Type}(g:j->AU):∀l:List j,((l.map λc=>sB<|g c).map (·.length)).sum=(l.flatMap g).length
 |[]=>rfl
 |x::l=>by have:=G7 g l;rw[ip,ip,yI,this,Q3,mu];rfl
def jj(d:Demand):AU:=joined (demandWords d)++[10]
def Ao(K:cn)(C:Cl):Sp:=yP K C<|R0 .shown
def yE(o:Office):does o .shown=(o,0::listed (o.plan.flatMap jj)):=rfl
theorem yF{j z:Type}{R:j->z->Prop}{l:List j}{m:List z}(h:Paired R l m):Paired (λa b=>a∈l/\R a b) l m:=by induction h with|nil=>exact .nil|cons h _ i=>exact .cons ⟨lx ..,h⟩<|L2.Paired.mono (λa b q=>⟨kB _ q.1,q.2⟩) i
abbrev mT:Ba:=["bank","numbers","row","text","demand","sign"]
def gx:aB mT ["bank","numbers","row"]<|ai<|top 114:=fj
def Ap(T:Txt K mg C):Fn P w K mg base "tell_shown" 3 ["bank","numbers","row"]<|Ao K C:=by
 refine T.CM.go gx ?_;rintro f dg A outer s H _ Q E Y⟨a,o,ns,l,pn,pr,c,rfl,I,Z,k⟩;obtain⟨_,_,rfl⟩:=Z;have F:=I.bk;have yM:=F.ld;have J:=F.ok.pl;have Ck:=mf F.d;have Pj:(o.plan.flatMap jj).length<=305010:=by
  refine lp (pf (m:=30501) λd hd=>?_) ?_
  .unfold jj;rw[mu];have:=G6 (F.ok.pn d hd)<|F.ok.pw d hd;simp;lia
  .exact lp (WI _ J) (by decide)
 refine⟨_,(af (eC 3 gx.nd<|UM K bS<|eM (own:=[("demand",4)]) rfl gx.nd (bj K<|bT K<|pv 0) (aU (N:=mT) (sc:=ai<|top 114)<|by decide+kernel) (λ_ _ _ _ _=>(gu 4 gx.nd)) (λ_ _ _ _ _=>bR) λ_ _ _ _ _=>(br Hu (c6 (Jq T) Y<|ab (pv 4) ag) bS))
  (ao<|au<|br eL (aO<|ab aw ag)<|c6 (bW T) Y<|ab (eM (own:=[("sign",5)]) rfl gx.nd (We<|pv 3) (aU (N:=mT) (sc:=ai<|top 114)<|by decide+kernel) (λ_ _ _ _ _=>(gu 5 gx.nd)) (λ_ _ _ _ _=>bR) λ_ _ _ _ _=>(aE Cf rfl T.g7 rK<|ab (pv 5) ag)) ag)),?_⟩
 refine aK (σ':=[some _,some _,some _,none,none,none]) rfl ?_;symm;refine⟨⟨_,rfl⟩,?_⟩;symm;refine ic (j:=4) o.plan (λd v=>d∈o.plan/\iN K C H d v) (λd=>some<|sB<|jj d) (λz v _=>v=V.str z) (az.of yM) (yF F.d) (by rw[<-Ck];exact sz (m:=10) J) (λD hD i e v H' acc Nx Ns he se kk M n1 n2=>?_) (λ_=>rfl) λD ys H1 k1 hD S Hi=>?_
 .obtain⟨hm,hda⟩:=se;have c7:=F.ok.pn e hm;have U:=F.ok.pw e hm;have S1:=G6 c7 U;symm;refine⟨e,v,rfl,kk.iN hda,c7,U,?_⟩;symm;refine⟨_,_,rfl,rfl,sz (m:=30600)<|by rw[gT,QO,gT];simp;lia,?_⟩;refine n1 _ rfl _ _ (aq.refl _) λ_ _=>?_;rw[QO,kE];rfl
 rw[bq Hi,bX]at S;refine⟨_,D,o.plan.map λd=>sB<|jj d,rfl,rfl,.inl<|az.of S,?_,?_⟩
 .rw[G7,ek];have:(Str.ofString "").length=0:=by decide
  rw[this];lia
 have ej:PySem.Txt.join (Str.ofString "") (o.plan.map λd=>sB<|jj d)=sB (o.plan.flatMap jj):=(apM _ _).trans<|Bw jj o.plan;rw[ej];symm;intro q hq;generalize e_:upd H1 q _=H2;obtain⟨k2,h2⟩:=nx e_ hq;symm;refine adV (j:=5) (λc=>some c) (λc v _=>v=nv c) (sz (m:=305010)<|by show(o.plan.flatMap jj).toArray.size<=_;simp only[pd];exact Pj) (λD2 Pk i c H' acc Nx Ns he kk M n1 n2=>?_) (λ_=>rfl) λD2 ys H3 k3 Pk W Nl=>?_
 .symm;refine g7 rfl ?_;exact n1 _ rfl _ _ (aq.refl _) λ_ _=>rfl
 have e2:=bq Nl;rw[PR,apz]at e2;subst e2;symm;refine⟨D2,_,rfl,.inl<|az.of W,by rw[ek];lia,λH4 r k4 Y Z=>?_⟩;symm;refine iu ((k3.trans k4) _ _ h2) Z (by simp only[kA,wh,ek];lia) λt ht=>?_;refine I.ret k (ans:=0::listed (o.plan.flatMap jj)) (yE o) ((((k1.trans k2).trans k3).trans k4).trans<|aq.new ht) ?_;rw[ah,ip,gf];rfl
def Aq(K:cn)(C:Cl):Sp:=yP K C<|RP .score
def yG(o:Office)(l:Bc):does o (.score l)=onPaper o l λp=>(o,[0,nat<|marksOf o p,nat<|minutesOf o p,(mean o p).n,nat (mean o p).d,nat (topicsIn o).length]++(topicsIn o).flatMap λt=>[nat t,nat<|marksOn o p t]):=rfl
abbrev DP:Ba:=["bank","numbers","row","questions","topics","told","topic"]
def g9:aB DP ["bank","numbers","row"]<|ai<|top 116:=fj
def Ar(T:Txt K mg C):Fn P w K mg base "tell_score" 3 ["bank","numbers","row"]<|Aq K C:=by
 refine T.CO.go g9 ?_;rintro f dg A outer s H _ Q E hr⟨a,o,ns,l,pn,pr,c,rfl,J,hR,k⟩;obtain⟨_,rfl⟩:=hR;have hb:=J.bk
 refine⟨_,(af (bh (gk<|bU<|c6 (kY T) hr<|ab (pv 0)<|ab (pv 2) ag) (ao<|au<|aO<|ab (lA T.cV) ag) aF)
  (af (eC 3 g9.nd<|c6 (hJ T) hr<|ab (pv 0)<|ab (pv 2) ag)
  (af (eC 4 g9.nd<|c6 (C9 T) hr<|ab (bT K<|pv 0) ag)
  (af (eC 5 g9.nd<|br eL (br eL (aO<|ab aw<|ab (c6 (ou T) hr<|ab (pv 3) ag)<|ab (c6 (pZ T) hr<|ab (pv 3) ag) ag)<|fJ (nX K) rfl T.qA tG<|ab (c6 (l7 T) hr<|ab (pv 3) ag) ag)<|aO<|ab (aE (gQ K) rfl T.aD eE<|ab (pv 4) ag) ag)
  (af (gm vu rfl (bj K<|pv 4) (gu 6 g9.nd)<|ao<|jR<|UL K OF ao4 PySem.F.type_list_extend AJ (pv 5)<|ab (aO<|ab (pv 6)<|ab (c6 (uL T) hr<|ab (pv 6)<|ab (pv 3) ag) ag) ag)
  (ao<|au<|pv 5)))))),?_⟩
 refine aK (σ':=[some _,some _,some _,none,none,none,none]) rfl ?_;symm;refine⟨a,o,pr,l,rfl,hb,J.sr,λH0 k0=>?_⟩;cases QW:iP o l with
 |false=>symm;intro r hr;exact J.ret k (ans:=[-1]) (yp QW _) (k0.trans<|aq.new hr) ah
 |true=>
 have I:=oJ hb.ok QW;generalize l.map Int.toNat=p at I;have Ad:az K H pr<|fm p:=by rw[<-I.row];exact J.sr
 have pY:=k0.ae hb;have YB:=k0.seq Ad;have hsz:=I.sz;symm;refine⟨a,o,pr,p,rfl,pY,.inl YB,by lia,I.lt,λH1 qs k1 hqs hQ1=>?_⟩;have qJ:=k1.ae pY;symm;refine⟨a.lq,o.items,rfl,qJ.ql',λH2 tl k2 htl AQ=>?_⟩;rw[<-oM]at AQ;have M:=k2.QL hQ1;have ahv:(topicsIn o).length<=20:=by rw[oM];have:=tW<|o.items.map (·.topic);have:=hb.ok.rp;simp at*;lia
 symm;refine⟨qs,_,rfl,M,λH3 k3=>?_⟩;symm;refine⟨qs,_,rfl,k3.QL M,λH4 k4=>?_⟩;rw[<-vO,<-uk];have k34:=k3.trans k4;symm;intro q hq;generalize S:upd H4 q _=H5;obtain⟨k5,h5⟩:=nx S hq;symm;refine⟨qs,_,rfl,(k34.trans k5).QL M,λH6 mp k6 T9=>?_⟩;rw[<-QS]at T9;symm;refine⟨mp,_,rfl,.inr<|ee.of T9,λml HE=>?_⟩;generalize S:upd H6 ml _=H7;obtain⟨k7,h7⟩:=nx S HE;symm;refine iu ((k6.trans k7) _ _ h5) h7 (by simp) λq8 hq8=>?_;generalize S:upd H7 q8 _=H8;obtain⟨k8,h8⟩:=nx S hq8;have U:=((k34.trans k5).trans<|k6.trans k7).trans k8;have hT8:=U _ _ AQ;have akt:=az.of (K:=K) hT8;symm;rw[ek];intro q9 hq9;generalize S:upd H8 q9 _=H9;obtain⟨k9,h9⟩:=nx S hq9;symm;refine iu (k9 _ _ h8) h9 (by simp) λtt W=>?_;generalize S:upd H9 tt _=Ha;obtain⟨ka,hA⟩:=nx S W;have Y:=(U.trans k9).trans ka;have hTa:=Y _ _ AQ;have hQa:=Y.QL M;have nta:tl≠tt:=λz=>by rw[<-z,((U.trans k9) _ _ AQ)]at W;cases W
 have ktt:((k0.trans k1).trans k2).trans Y=((k0.trans k1).trans k2).trans Y:=rfl;have Cd:=((k0.trans k1).trans k2).trans Y;have afF:H tt=none:=(((k0.trans k1).trans k2).trans<|U.trans k9).free W;have hQt:∀H',ay tt Ha H' ->QL K C H' qs (itemsOf o p):=λH' kb=>by have hQ9:=(U.trans k9).QL M;exact(show aq H9 H' from eT ka W kb).QL hQ9
 generalize Z:[V.int 0,nv<|marksOf o p,nv<|minutesOf o p]++[V.int (mean o p).n,nv (mean o p).d]++[nv (topicsIn o).length]=bs at hA;have hbl:bs.length=6:=by rw[<-Z];rfl
 symm;refine iG (K:=K) (a:=tl) (xs:=fm<|topicsIn o) (λi σ H'=>∃v6:Option V,σ=[some (.ref a.B),some (.ref pn),some (.ref pr),some (.ref qs),some (.ref tl),some (.ref tt),v6]/\ay tt Ha H'/\H' tt=some (.lst<|bs++((topicsIn o).take i).flatMap λt=>[nv t,nv<|marksOn o p t])) ⟨none,rfl,λ_ _ _ h=>h,by rw[hA];simp⟩ (λi σ H' _⟨_,_,kk,_⟩=>az.of<|kk _ _ nta hTa) ?_ ?_
 .rintro i y σ H' hy⟨v6,rfl,kk,j⟩;obtain⟨t,ht,rfl⟩:=jr hy;have hlen:(bs++((topicsIn o).take i).flatMap λt=>[nv t,nv<|marksOn o p t]).length<=100:=by
   rw[mu,hbl];have:=pf (l:=(topicsIn o).take i) (f:=λt=>[nv t,nv<|marksOn o p t]) (m:=2) (λx _=>by simp);have:((topicsIn o).take i).length<=20:=by rw[zd];lia
   lia
  symm;refine⟨.inl ⟨rfl,_,az.of j⟩,?_⟩;symm;refine⟨t,qs,_,rfl,hQt _ kk,λH'' k''=>?_⟩;rw[<-um];symm;intro e he;generalize S:upd H'' e _=H3';obtain⟨ke,hee⟩:=nx S he;have ke:=k''.trans ke;have yL:=ke _ _ j;symm;refine⟨tt,e,_,_,rfl,rfl,yL,hee,sz (m:=200)<|by simp only[kA,wh];lia,?_⟩;refine⟨_,rfl,(kk.trans ke.but).trans ay.upd,?_⟩;rw[ah,take_snoc ht,apw,Ed];simp
 .rintro σ H'⟨v6,rfl,kk,j⟩;rw[ek,B7]at j;symm;refine J.ret k (ans:=[0,nat<|marksOf o p,nat<|minutesOf o p,(mean o p).n,nat (mean o p).d,nat (topicsIn o).length]++(topicsIn o).flatMap λt=>[nat t,nat<|marksOn o p t]) ?_ (eT Cd afF kk) ?_
  .rw[yG,uV I]
  .rw[j,<-Z,t4,List.map_flatMap];rfl
def Rj:Nat->Bc->Bc->Vbxoab.Call->Prop
 |0=>λns l c=>∃t k h m u,ns=[t,k,h,m,u]/\l=[]/\c=.item t k h m u
 |1=>YA .enemies
 |2=>RP .plan
 |3=>YA .leave
 |4=>RN .year
 |5=>RP .meets
 |6=>R0 .count
 |7=>R0 .first
 |8=>R0 .clash
 |9=>R0 .must
 |10=>RP .near
 |11=>R0 .twins
 |12=>RP .use
 |13=>R0 .shown
 |14=>RN .about
 |15=>RP .score
 |16=>YA .hardest
 |17=>RN .withdraw
 |18=>RN .nth
 |19=>RN .lasts
 |20=>R0 .told
 |_=>λ_ _ _=>False
def DQ:Ba:=["add_item","add_enemies","set_plan","set_leave","pass_years","tell_meets","tell_count","tell_first","tell_clash","tell_must","tell_near","tell_twins","use_good_paper","tell_shown","tell_about","tell_score","tell_hardest","withdraw_question","tell_nth","tell_lasts","tell_told"]
def abv(P:Program)(w:World)(K:cn)(mg:Be)(base:Heap)(C:Cl):Prop:=∀j x,DQ[j]?=some x->∃k,k<=9/\Fn P w K mg base x k ["bank","numbers","row"] (yP K C<|Rj j)
def T4{j n:Nat}(h:MA.kM[j]?=some (n,0))(z:ns.length=n):∃c,callOf [(j:Int)::ns]=some c/\Rj j ns [] c:=by
 have F:j<21:=(l4.mp h).1
 match j,h,F with
 |0,h,_=>cases h;match ns,z with|[a,b,c,d,e],_=>exact⟨_,rfl,a,b,c,d,e,rfl,rfl,rfl⟩
 |1,h,_|3,h,_|16,h,_=>cases h;match ns,z with|[a,b],_=>exact⟨_,rfl,a,b,rfl,rfl,rfl⟩
 |4,h,_|14,h,_|17,h,_|18,h,_|19,h,_=>cases h;match ns,z with|[a],_=>exact⟨_,rfl,a,rfl,rfl,rfl⟩
 |6,h,_|7,h,_|8,h,_|9,h,_|11,h,_|13,h,_|20,h,_=>cases h;match ns,z with|[],_=>exact⟨_,rfl,rfl,rfl,rfl⟩
 |2,h,_|5,h,_|10,h,_|12,h,_|15,h,_=>cases h
 |j+21,_,h=>lia
def T5{j:Nat}(h:MA.kM[j]?=some (0,1)):∃c,callOf [[(j:Int)],l]=some c/\Rj j [] l c/\(VbxoabNeutral.asked1 [[(j:Int)],l]=true->l.length<=1200):=by
 have F:j<21:=(l4.mp h).1;have z:∀b:Bool,(b&&decide (l.length<=1200))=true->l.length<=1200:=λb q=>by rw[p0]at q;exact y1 q.2
 iterate 21 (rcases j with _|j;first|exact⟨_,rfl,⟨rfl,rfl⟩,z _⟩|cases h)
 lia
def yH(K:cn)(C:Cl):Sp:=λvs H Q _=>H_ λ(j:Nat)(a:jo)(o:Office)(ns l:Bc)(pn pr:Addr)(c:Vbxoab.Call)=>vs=[.ref a.B,nv j,.ref pn,.ref pr]/\j<=20/\Vg K C H a o ns l pn pr/\Rj j ns l c/\
 ∀H' z r,GP C H a H' z->ae K C H' z (does o c).1->H' r=some (.lst<|(does o c).2.map V.int)->Q (.ref r) H'
abbrev As:Ba:=["bank","number","numbers","row","handler"]
def oS:aB As ["bank","number","numbers","row"]<|ai<|top 123:=⟨rfl,rfl,rfl,by decide+kernel,rfl,by decide+kernel,by decide+kernel⟩
def yJ(T:Txt K mg C)(W:abv P w K mg base C):Fn P w K mg base "answer_call" 10 ["bank","number","numbers","row"]<|yH K C:=by
 refine T.zw.fn oS (λ_ _ _ _ _ _=>qLz λ_ _ _ _=>rfl) (λvs H Q E h=>?_) λf Z A outer s H vs Q E hr h=>?_
 .obtain⟨j,a,o,ns,l,pn,pr,c,rfl,_⟩:=h;rfl
 obtain⟨j,a,o,ns,l,pn,pr,c,rfl,hj,dh,hR,k⟩:=h;obtain⟨as,hT,J⟩:=T.IH;have z:j<DQ.length:=by show j<21;lia
 obtain⟨fa,M,I⟩:=Paired.at_ J<|gs z;obtain⟨kk,S,F⟩:=W j _<|gs z;obtain⟨U,fd,h1,h2,h3,h4⟩:=F.ex;have ef:U=fa:=by rw[h1]at I;cases I;rfl
 subst ef
 refine⟨_,(af (eC 4 oS.nd<|bp (ei K) (UN T.II) (pv 1) λ_ _=>rfl)
  (ao<|au<|OW (i:=4) rfl (.inl rfl) (ab (pv 0)<|ab (pv 2)<|ab (pv 3) ag) (by decide) (by decide) (by rfl) (by rfl))),?_⟩
 refine aK (σ':=[some _,some _,some _,some _,none]) rfl ?_;symm;refine gB hT.gh (aP (v:=.ref U)<|by rw[mq,M];rfl) ?_;symm;refine⟨U,kk,_,rfl,⟨fd,_,h2,h3,h4⟩,hr.mono S,?_⟩;symm;exact⟨a,o,ns,l,pn,pr,c,rfl,dh,hR,k⟩
theorem yK:∀(k f n:Nat)(ds:List Char),1<=k->n<10^k->(Nat.toDigitsCore 10 f n ds).length<=k+ds.length
 |k,0,n,ds,_,_=>by simp[Nat.toDigitsCore]
 |k,f+1,n,ds,hk,hn=>by
  rw[Nat.toDigitsCore];split
  .simp;lia
  .rename_i h;have j:10<=n:=by refine Sh λz=>h<|Nat.div_eq_of_lt z
   have F:2<=k:=by
    refine Sh λz=>?_;have:k=1:=by lia
    subst this;lia
   obtain⟨m,rfl⟩:∃m,k=m+1:=⟨k-1,by lia⟩;have:=yK m f (n/10) (Nat.digitChar (n%10)::ds) (by lia) (by rw[Xw]at hn;lia);simp at this;lia
def XE(h:n<=9999):(decimal n).length<=4:=by
 show((toString n).toList.map _).length<=_;rw[ek];have e:(toString n).toList=Nat.toDigits 10 n:=by simp
 rw[e];exact yK 4 (n+1) n [] (by decide) (by lia)
def XF(s:Sel)(h:oh s<=9999):(joined<|selWords s).length<=20:=by
 cases s<;>simp only[oh]at h<;>simp only[selWords,joined,mu,kA]
 .decide
 all_goals
  rename_i n;have:=XE h
 .have e:(text "topic").length=5:=by decide
  lia
 .have e:(text "kind").length=4:=by decide
  lia
 .have e:(text "hard").length=4:=by decide
  lia
 .have e:(text "harder").length=6:=by decide
  lia
 .have e:(text "question").length=8:=by decide
  lia
def abw(h:CV d)(z:∀s w l J,d=Demand.range s w l J->w<=2):(jj d).length<=100:=by
 unfold jj;rw[mu];obtain⟨h1,h2,F,I⟩:=h;have j:=XF _ h1;have S:(text "to").length=2:=by decide
 have U:(text "if").length=2:=by decide
 have W:(text "then").length=4:=by decide
 have Y:(text "not").length=3:=by decide
 have Z:(text "with").length=4:=by decide
 cases d with
 |range s w lo hi=>
  have z:=z s w lo hi rfl;have q:(text<|["count","marks","minutes"].getD w "").length<=10:=by
   obtain _|_|_|w:=w
   iterate 3 decide
   lia
  have F:lo<=9999:=F;have I:hi<=9999:=I;have d1:=XE F;have d2:=XE I;have j:(joined<|selWords s).length<=20:=j;show(joined<|selWords s++_).length+_<=_;rw[dj (de s)<|R7 _ _];simp only[joined,mu,kA,wh];lia
 |whenever s1 s2=>have j:(joined<|selWords s1).length<=20:=j;have M:=XF s2<|h2 s2 rfl;show(joined<|([text "if"]++selWords s1)++([text "then"]++selWords s2)).length+_<=_;rw[dj (by simp)<|by simp,dj (by simp)<|de _,dj (by simp)<|de _];simp only[joined,kA,wh];lia
 |apart s1 s2=>have j:(joined<|selWords s1).length<=20:=j;have M:=XF s2<|h2 s2 rfl;show(joined<|([text "not"]++selWords s1)++([text "with"]++selWords s2)).length+_<=_;rw[dj (by simp)<|by simp,dj (by simp)<|de _,dj (by simp)<|de _];simp only[joined,kA,wh];lia
def fC(l:AU):(listed l).length=l.length+1:=by unfold listed;simp
def gr(h:f.length<=3000):(search o f).2.length<=3000:=by
 unfold search;split
 .show(1:Nat)<=3000;decide
 .exact h
def DR(j:xy o)(h:∀p,IsP o l p->(f p).2.length<=3000):(onPaper o l f).2.length<=3000:=by
 cases e:iP o l with
 |false=>rw[yp e];show(1:Nat)<=3000;decide
 |true=>have I:=oJ j e;rw[uV I];exact h _ I
def T6(j:xy o):(Vbxoab.free o).length<=20:=by have h2:(Vbxoab.free o).length<=o.items.length:=lp (B1 _ _) (by simp);have:=j.rp;lia
def QX(z:xy o)(c:Vbxoab.Call):(does o c).2.length<=3000:=by
 have U:=z.rp;have M:=z.pl;have J:=T6 z;have one:([-1]:Bc).length<=3000:=by decide
 cases c with
 |item t k h m u=>
  rw[pA];split
  .exact one
  .split
   .exact one
   .show(2:Nat)<=3000;decide
 |enemies i j=>
  rw[j7];split
  .exact one
  .split
   .exact one
   .show(2:Nat)<=3000;decide
 |plan t=>
  rw[md];split
  .exact one
  .split
   .exact one
   .show(2:Nat)<=3000;decide
 |leave g m=>
  rw[q0];split
  .exact one
  .show(2:Nat)<=3000;decide
 |year n=>
  rw[pq];split
  .exact one
  .split
   .exact one
   .show(2:Nat)<=3000;decide
 |meets l=>rw[yC];refine DR z λp I=>?_;simp only[mu,ek,kA,wh];lia
 |count=>exact gr (by show(2:Nat)<=3000;decide)
 |first=>
  refine gr ?_;split
  .show(2:Nat)<=3000;decide
  .rename_i p F;have:=eG z<|apd F;simp only[kA,fC];lia
 |clash=>
  refine gr ?_;split
  .show(2:Nat)<=3000;decide
  .rename_i p F;have:=GQ z F;simp only[kA,fC];lia
 |must=>
  refine gr ?_;split
  .exact one
  .have la:(always o).length<=20:=lp (B1 _ _) J;have Z:(never o).length<=20:=lp (B1 _ _) J;simp only[kA,mu,fC];lia
 |near l=>
  refine DR (l:=l) z λp I=>gr ?_;split
  .exact one
  .rename_i q W;have:=eG z<|MA.il _ _ _ W;simp only[kA,fC];lia
 |twins=>
  rw[mS];refine gr ?_;split
  .exact one
  .split
   .exact one
   .rename_i x Y;have S:=pj<|MA.il _ _ _ Y;have s1:=eG z S.1;have s2:=eG z S.2;simp only[kA,mu,fC];lia
 |use l=>
  rw[yx];refine DR z λp I=>?_;split
  .exact one
  .show(2:Nat)<=3000;decide
 |shown=>
  rw[yE];have:(o.plan.flatMap jj).length<=1000:=by refine lp (pf (m:=100) λd hd=>abw (z.pn d hd)<|z.pw d hd) ?_;exact lp (WI _ M) (by decide)
  simp only[kA,fC];lia
 |about i=>
  rw[rd];split
  .exact one
  .rename_i h;have h:isItem o i=true:=by
    cases e:isItem o i with
    |true=>rfl
    |false=>exact absurd e h
   have hi:=(MA.ib.mp h).2;have hu:=(z.it _<|MA.qc hi).2.2.2.2.2.2.2;have hl:((List.range o.items.length).filter<|hostile o i.toNat).length<=20:=lp (B1 _ _) (by simp;lia);simp only[kA,mu,fC,wh];lia
 |score l=>
  rw[yG];refine DR z λp I=>?_;have ht:(topicsIn o).length<=20:=by rw[oM];have:=tW<|o.items.map (·.topic);rw[ek]at this;lia
  have:=pf (l:=topicsIn o) (f:=λt=>[nat t,nat<|marksOn o p t]) (m:=2) (λx _=>by simp);simp only[mu,kA,wh];lia
 |hardest n d=>
  rw[iV];split
  .exact one
  .refine gr ?_;split
   .exact one
   .rename_i p F;have:=eG z (tL.mp<|MA.mn _ _ _ F).1;simp only[kA,fC];lia
 |withdraw i=>
  rw[sH];split
  .exact one
  .split
   .exact one
   .exact one
 |nth k=>
  rw[yt];split
  .exact one
  .refine gr ?_;split
   .exact one
   .rename_i p F;have:=eG z<|oA F;simp only[kA,fC];lia
 |lasts n=>
  show(if inside n 1 8=false then(o,[-1])else search o [0,nat<|Vbxoab.lasts n.toNat o]).2.length<=3000;split
  .exact one
  .exact gr (by show(2:Nat)<=3000;decide)
 |told=>rw[Bv];simp only[mu,kA,wh,fC];lia
def ae.live(h:ae K C H a o):∀b∈foot a,∃u,H b=some u:=by
 intro b j;simp only[foot,eH,ro]at j;have z:=h.yl;have F:=h.ql;rcases j with rfl|rfl|rfl|rfl|j|j
 .obtain⟨dx,e⟩:=h.hd;exact⟨_,e⟩
 .exact⟨_,h.lq⟩
 .exact⟨_,h.le⟩
 .exact⟨_,h.ld⟩
 .obtain⟨m,j⟩:=J7.mp j;have I:=(l4.mp j).1;obtain⟨⟨dx,e⟩,_⟩:=h.q m _ _ _ (gs<|by lia) j<|gs (by lia);exact⟨_,e⟩
 .obtain⟨zs,e⟩:=h.Jg b j;exact⟨_,e⟩
def ae.off(h:ae K C H a o)(j:H b=none):b∉foot a:=λz=>by obtain⟨u,e⟩:=h.live b z;rw[j]at e;cases e
def ae.abx(h:ae K C H a o)(z:∀b∈foot a,∀u,H b=some u->H' b=some u)(F:∀b A dx fs,H b=some (.ins A dx fs)->H' b=some (.ins A dx fs))(ks:∀b xs,ee K H b xs->ee K H' b xs):ae K C H' a o:=by
 refine⟨?_,z _ (by simp[foot]) _ h.lq,h.ql,h.yl,?_,z _ (by simp[foot]) _ h.le,z _ (by simp[foot]) _ h.ld,?_,h.sep,h.qn,h.ok⟩
 .obtain⟨dx,e⟩:=h.hd;exact⟨dx,F _ _ _ _ e⟩
 .intro i x p y h1 h2 U;obtain⟨⟨dx,I⟩,J,j⟩:=h.q i x p y h1 h2 U;exact⟨⟨dx,F _ _ _ _ I⟩,z _ (by simp[foot,oA U]) _ J,j⟩
 .refine L2.Paired.mono (λd v r=>?_) h.d;obtain⟨p,v1,v2,e,⟨dx,I⟩,J,j⟩:=r;refine⟨p,v1,v2,e,⟨dx,F _ _ _ _ I⟩,?_,?_⟩
  .obtain⟨b,M,S⟩:=J;exact⟨b,M,ks _ _ S⟩
  .cases Y:ME d with
   |none=>rw[Y]at j;exact j
   |some s=>rw[Y]at j;obtain⟨b,M,S⟩:=j;exact⟨b,M,ks _ _ S⟩
def M9(h:callOf c=some cl):Vbxoab.step o c=does o cl:=by unfold Vbxoab.step;rw[h]
def aby:List<|Int×Int:=[(5,0),(2,0),(0,1),(2,0),(1,0),(0,1),(0,0),(0,0),(0,0),(0,0),(0,1),(0,0),(0,1),(0,0),(1,0),(0,1),(2,0),(1,0),(1,0),(1,0),(0,0)]
def T7:aby=MA.kM.map λx=>((x.1:Int),(x.2:Int)):=by decide
structure AnI(K:cn)(C:Cl)(H H':Hp)(l:Bc)(a:jo)(o:Office)(tt:Addr)(told:Bc)(at_ f n:Nat)(cs:List<|List Bc):Prop where
 kp:fG [] H H'
 tb:TabsOk [vo C] H'
 bk:ae K C H' a o
 fr:∀b∈foot a,∀u,H b=some u->EM u=true
 tf:H tt=none
 tl:H' tt=some (.lst<|told.map V.int)
 to:tt∉foot a
 wf:MA.Wf n o
 nc:n+cs.length<=80
 le:at_<=l.length
 pc:PyFlat.calls PyVbxoab.shape f (l.drop at_)=some cs
 ak:cs.all VbxoabNeutral.asked1=true
 du:PyVbxoab.answers l=told++MA.YE o cs
 sz:told.length<=n*3001
def rf(K:cn)(C:Cl):Sp:=λvs H Q _=>B_ λ(q:Addr)(l:Bc)=>vs=[.ref q]/\az K H q (l.map V.int)/\PyVbxoab.answers_asked l=true/\TabsOk [vo C] H/\
 ∀H' r,fG [] H H' ->H' r=some (.lst<|(PyVbxoab.answers l).map V.int)->Q (.ref r) H'
def abz{x lq le ld dx:Addr}(nd:[x,lq,le,ld].Nodup)(h1:H lq=some (.lst []))(h2:H le=some (.dT []))(j:H ld=some (.lst []))(z:H x=some (.ins C.b dx [("questions",.ref lq),("enemies",.ref le),("demands",.ref ld),("year",.int 0),("gap",.int 0),("most",.int 99)])):
  ae K C H ⟨x,lq,le,ld,[],[],[]⟩ Vbxoab.start:=by
 refine⟨⟨dx,z⟩,h1,rfl,rfl,(λi x p y e=>by cases e),h2,j,(by exact .nil),?_,F1,⟨by decide,(λx h=>by cases h),(λx h=>by cases h),by decide,F1,by decide,(λx h=>by cases h),(λx h=>by cases h)⟩⟩;simp only[nM,eH,u7,t6,y3]at nd|-;exact⟨nd.2.1.2,by simp,F1⟩
abbrev Na:Ba:=["calls","bank","told","at","number","layout","row_at","numbers","row"]
def eP:aB Na ["calls"]<|ai<|top 124:=fj
def JE(T:Txt K mg C)(FH:abv P w K mg base C):Fn P w K mg base "answers" 11 ["calls"]<|rf K C:=by
 refine T.MC.go eP ?_;rintro f dg A outer s H _ Q E hr⟨q,l,rfl,hq,XG,afG,k⟩;obtain⟨cs0,abA,akH,iX⟩:=MA.D6 XG
 refine⟨_,(af (eC 1 eP.nd<|OT (K2 T)<|hr.mono<|by decide)
  (af (eC 2 eP.nd<|aO ag)
  (af (eC 3 eP.nd aw)
  (af (wu vu (aV wC (pv 3) (aE (gQ K) rfl T.aD eE<|ab (pv 0) ag)<|bg _) (af (eC 4 eP.nd<|bp (aN K) (pv 0) (pv 3) λ_ _=>rfl)
  (af (eC 5 eP.nd<|bp (ei K) (UN T.Mr) (pv 4) λ_ _=>rfl)
  (af (eC 6 eP.nd<|br iH (br iH (pv 3) aw)<|bp (ei K) (pv 5) aw λ_ _=>rfl)
  (af (eC 7 eP.nd<|j9 (kj K) (pv 0) (jm<|br iH (pv 3) aw)<|jm<|pv 6)
  (af (eC 8 eP.nd<|aO ag)
  (af (eC 3 eP.nd<|pv 6)
  (af (bh (aV eS (bp (ei K) (pv 5) aw λ_ _=>rfl) aw<|bg _) (af (eC 3 eP.nd<|br iH (br iH (pv 6) aw)<|bp (aN K) (pv 0) (pv 6) λ_ _=>rfl)
  (ao<|eC 8 eP.nd<|j9 (kj K) (pv 0) (jm<|br iH (pv 6) aw)<|jm<|pv 3)) aF)
  (ao<|jR<|UL K OF ao4 PySem.F.type_list_extend AJ (pv 2)<|ab (c6 (bW T) hr<|ab (c6 (yJ T FH) hr<|ab (pv 1)<|ab (pv 4)<|ab (pv 7)<|ab (pv 8) ag) ag) ag)))))))))
  (ao<|au<|pv 2))))),?_⟩
 refine aK (σ':=[some _,none,none,none,none,none,none,none,none]) rfl ?_;symm;intro x dx hx MX iw;refine⟨x,dx,rfl,ah,λH1 lq le ld kb n1 n2 n3 nd e1 e2 e3 hh=>⟨rfl,?_⟩⟩;have k1:=o7 hx MX kb;have fr:∀b,(upd (upd H dx (.own x)) x (.ins C.b dx [])) b=none->H b=none:=λb Y=>by
  cases e:H b with
  |none=>rfl
  |some u=>exfalso;have q1:b≠x:=aX e hx;have q2:b≠dx:=aX e MX;rw[aL q1,aL q2,e]at Y;cases Y
 have qJ:=abz (K:=K) (C:=C) nd e1 e2 e3 hh;have EB:∀b∈foot (⟨x,lq,le,ld,[],[],[]⟩:jo),H b=none:=λb Y=>by
  simp only[foot,eH,u7,t6,B5]at Y;rcases Y with rfl|rfl|rfl|rfl
  .exact hx
  .exact fr _ n1
  .exact fr _ n2
  .exact fr _ n3
 symm;intro tt T3;generalize e_:upd H1 tt _=H2;obtain⟨k2,h2⟩:=nx e_ T3;have lI:=k1.trans k2;symm;refine CS (λz σ H'=>K_ λ(a:jo)(o:Office)(J:Bc)(at_ f n:Nat)(cs:List<|List Bc)(v4 v5 v6 v7 v8:Option V)=>σ=[some (.ref q),some (.ref a.B),some (.ref tt),some<|nv at_,v4,v5,v6,v7,v8]/\z=cs.length/\AnI K C H H' l a o tt J at_ f n cs) cs0.length ⟨_,Vbxoab.start,[],0,l.length,0,cs0,none,none,none,none,none,rfl,rfl,⟨fG.of lI,afG.same lI,k2.ae qJ,(λb Y u e=>by rw[EB b Y]at e;cases e),k1.free T3,h2,qJ.off T3,MA.Wf.start,by lia,ti _,by rw[XT];exact abA,iX,by rw[MA.D0 l cs0 abA];rfl,by simp⟩⟩ ?_;rintro z σ H'⟨a,o,J,at_,f,n,cs,v4,v5,v6,v7,v8,rfl,hz,I⟩;have Hz:az K H' q<|l.map V.int:=I.kp.seq (by simp) hq;symm;by_cases hat:at_<l.length
 rotate_left
 .refine CT (kx<|by rw[ek];lia) ?_;symm;have e0:l.drop at_=[]:=List.drop_eq_nil_of_le (by lia)
  have ec:cs=[]:=by have:=I.pc;rw[e0]at this;cases f<;>(simp[PyFlat.calls]at this;exact this)
  refine k H' tt I.kp ?_;rw[I.tl,I.du,ec,MA.RB,B5]
 refine P8 (ki<|by rw[ek];lia) ?_;obtain⟨p,r,Nn⟩:∃p r,l.drop at_=p::r:=⟨l[at_],l.drop<|at_+1,aoE hat⟩
 have hp:l[at_]?=some p:=by have:=congrArg List.head? Nn;rw[List.head?_drop]at this;exact this
 have hr:l.drop (at_+1)=r:=by have:=congrArg List.tail Nn;rw[List.tail_drop]at this;exact this
 have W5:=I.pc;rw[Nn]at W5;obtain⟨f',c,t,Ub,rfl,abB,afI,rfl⟩:=MA.Lk W5;obtain⟨j,m,kk,rfl,HH,Vi⟩:=MA.NH abB;have afJ:=(MA.Ay HH).1;obtain⟨las,hLT,afK⟩:=T.MD;obtain⟨la,hla,abC⟩:=Paired.at_ afK (show aby[j]?=some ((m:Int),(kk:Int)) by rw[T7,mq,HH];rfl);have hrl:l.length=at_+1+r.length:=by have:=congrArg List.length hr;rw[Mb]at this;lia
 have Z:VbxoabNeutral.asked1 c=true/\Ub.all VbxoabNeutral.asked1=true:=by have:=I.ak;rw[B4,p0]at this;exact this
 have hmr:m<=r.length:=by rcases Vi with⟨_,h,_⟩|⟨_,h,_⟩<;>lia
 have hix:(l.map V.int)[at_]?=some (.int (j:Int)):=by rw[mq,hp];rfl
 symm;refine cT Hz (aP hix) ?_;symm;refine gB hLT.gh (aP (v:=.ref la)<|by rw[mq,hla];rfl) ?_;symm;refine gB abC.gh (m:=0) rfl ?_;symm;refine⟨q,_,rfl,Hz,λpn hpn=>?_⟩;have afL:kJ (l.map V.int) (some<|(at_:Int)+1) (some<|(at_:Int)+1+(m:Int))=(r.take m).map V.int:=by
  have e1:((at_:Int)+1)=((at_+1:Nat):Int):=by lia
  have e2:((at_:Int)+1+(m:Int))=((at_+1+m:Nat):Int):=by lia
  rw[e2,e1,KN _ _ _ (by lia)<|by rw[ek];lia,<-Vj,hr,<-Vr]
  congr 2
  lia
 rw[afL];generalize e_:upd H' pn _=H2;obtain⟨k2,abD⟩:=nx e_ hpn;symm;intro pr abE;generalize e_:upd H2 pr _=H3;obtain⟨k3,afM⟩:=nx e_ abE;have k23:=k2.trans k3;have abF:=az.of (K:=K)<|k3 _ _ abD;have Gu:=k23.seq Hz;have afN:H' pr=none:=k2.free abE;have afO:H' pn=none:=hpn;clear abD;symm;refine gB abC.gh (m:=1) rfl ?_;symm;rcases Vi with⟨V9,_,hc,XH⟩|⟨UJ,hm0,U,r',Yc,XO,hc,XH⟩
 case' inl=>
  subst V9;refine aA (kx<|by lia) ?_;obtain⟨cl,W,hRj⟩:=T4 HH (ns:=r.take m) (by rw[zd];lia);have W:callOf c=some cl:=by rw[hc];exact W
  have hdr:l.drop (at_+1+m)=t:=by rw[XH,<-hr,List.drop_drop]
  have abG:at_+1+m<=l.length:=by lia
  have abH:az K H3 pr<|([]:Bc).map V.int:=az.of afM;have abI:([]:Bc).length<=1200:=by simp
  have k4:aq H3 H3:=aq.refl _;have abJ:H' pr=none:=afN;have abK:=abF;have eat:((at_:Int)+1+(m:Int))=((at_+1+m:Nat):Int):=by lia
  rw[eat];symm
 case' inr=>
  subst UJ;subst hm0;refine aC (ki<|by lia) ?_;obtain⟨cl,W,hRj,hlen⟩:=T5 HH (l:=r'.take U);have W:callOf c=some cl:=by rw[hc];exact W
  have akM:r.length=r'.length+1:=by rw[Yc];rfl
  have afQ:(l.map V.int)[at_+1+0]?=some (.int (U:Int)):=by
   rw[mq];have:l[at_+1+0]?=some (U:Int):=by have:=congrArg List.head?<|hr.trans Yc;rw[List.head?_drop]at this;exact this
   rw[this];rfl
  have eat:((at_:Int)+1+((0:Nat):Int))=((at_+1+0:Nat):Int):=by lia
  rw[eat];symm;refine cT Gu (aP afQ) ?_;symm;refine⟨q,_,rfl,Gu,λNl abL=>?_⟩;have abM:kJ (l.map V.int) (some<|((at_+1+0:Nat):Int)+1) (some<|((at_+1+0:Nat):Int)+1+(U:Int))=(r'.take U).map V.int:=by
   have e1:(((at_+1+0:Nat):Int)+1)=((at_+2:Nat):Int):=by lia
   have e2:(((at_+1+0:Nat):Int)+1+(U:Int))=((at_+2+U:Nat):Int):=by lia
   have e3:l.drop (at_+2)=r':=by have:=congrArg List.tail<|hr.trans Yc;rw[List.tail_drop]at this;exact this
   rw[e2,e1,KN _ _ _ (by lia)<|by rw[ek];lia,<-Vj,e3,<-Vr]
   congr 2
   lia
  rw[abM];generalize e_:upd H3 Nl _=H4;obtain⟨k4,afR⟩:=nx e_ abL;have hdr:l.drop (at_+2+U)=t:=by
   have e3:l.drop (at_+2)=r':=by have:=congrArg List.tail<|hr.trans Yc;rw[List.tail_drop]at this;exact this
   rw[XH,<-e3,List.drop_drop]
  have abG:at_+2+U<=l.length:=by lia
  have abH:az K H4 Nl<|(r'.take U).map V.int:=az.of afR;have abI:(r'.take U).length<=1200:=hlen (by rw[<-hc];exact Z.1);have abJ:H' Nl=none:=k23.free abL;have abK:=k4.seq abF;have afS:(((at_+1+0:Nat):Int)+1+(U:Int))=((at_+2+U:Nat):Int):=by lia
  rw[afS];symm
 all_goals
  have k24:=k23.trans k4;have Rr:=k24.ae I.bk;have XI:=k24 _ _ I.tl;have afT:=W;have afU:=I.nc;rw[kA]at afU;refine⟨.inl ⟨rfl,_,az.of XI⟩,?_⟩;symm;refine⟨j,a,o,_,_,_,_,cl,rfl,afJ,⟨Rr,abK,abH,I.bk.off afO,I.bk.off abJ,I.tb.same k24,λx hx=>by have:=(I.wf.it x hx).2.2.2.2.2.2.2;lia,abI,by have:=I.wf.JI;lia⟩,hRj,λH5 a' rr M hb5 hrr=>?_⟩;have abO:=QX Rr.ok cl;generalize hD:does o cl=dr at hb5 hrr abO;symm;refine⟨rr,_,rfl,.inl<|az.of hrr,by rw[ek];lia,λH6 ww k6 hww hW=>?_⟩;have afV:H5 tt=some (.lst<|J.map V.int):=M.keep _ _ I.to rfl XI;have S:=k6 _ _ afV;have hsz:=I.sz;have hb6:=k6.ae hb5;have Xn:tt∉foot a':=λz=>by
   rcases M.fresh tt z with z|z
   .exact I.to z
   .rw[XI]at z;cases z
  symm;refine⟨tt,ww,_,_,rfl,rfl,S,hW,?_,?_⟩
  .show _<=sizeLine;have:(80:Nat)*3001+3001<=sizeLine:=by decide
   have:n*3001<=80*3001:=WI _ (by lia);simp only[kA,ek];lia
  have kb:ay tt H6<|upd H6 tt (.lst<|J.map V.int++(V.int ((dr.2.map V.int).length:Nat)::dr.2.map V.int)):=ay.upd;have abP:(upd H6 tt (.lst<|J.map V.int++(V.int ((dr.2.map V.int).length:Nat)::dr.2.map V.int))) tt=some (.lst<|(J++((dr.2.length:Int)::dr.2)).map V.int):=by rw[ah,t4,ip,ek]
  generalize e_:upd H6 tt _=H7 at kb abP;have tb7:TabsOk [vo C] H7:=by subst e_;exact TabsOk.upd (λps z=>by rw[S]at z;cases z) (λc q z=>by rw[S]at z;cases z)<|M.tab.same k6
  have hb7:ae K C H7 a' dr.1:=hb6.abx (λb Y u e=>kb _ _ (λz=>Xn<|z▸Y) e) (λb A dx fs e=>kb _ _ (λz=>by rw[z,S]at e;cases e) e) λb xs q=>kb.gh S q;have hkp:fG [] H H7:=λb u _ ht e=>by
   have e1:=k24 _ _<|I.kp b u (by simp) ht e;have nb:b∉foot a:=λz=>by rw[I.fr b z u e]at ht;cases ht
   have e2:=k6 _ _<|M.keep b u nb ht e1;exact kb _ _ (λz=>by rw[z,I.tf]at e;cases e) e2
  have afW:∀b∈foot a',∀u,H b=some u->EM u=true:=λb Y u e=>by
   rcases M.fresh b Y with z|z
   .exact I.fr b z u e
   .cases ht:EM u with
    |true=>rfl
    |false=>have:=k24 _ _<|I.kp b u (by simp) ht e;rw[z]at this;cases this
  have Ul:Vbxoab.step o c=dr:=by rw[M9 afT,hD]
  have hwf:MA.Wf (n+1) dr.1:=by have:=I.wf.step c;rw[Ul]at this;exact this
  rw[<-M.same];refine⟨Ub.length,by rw[hz,kA];lia,a',dr.1,J++((dr.2.length:Int)::dr.2),_,f',n+1,Ub,_,_,_,_,_,rfl,rfl,⟨hkp,tb7,hb7,afW,I.tf,abP,Xn,hwf,by lia,abG,by rw[hdr];exact afI,Z.2,?_,?_⟩⟩
  .rw[I.du,MA.NI,Ul,Ed]
  .rw[mu,kA,X0];lia
def XJ(T:Txt K mg C)(z:Fi mg base):Fn P w K mg base "answers" 11 ["calls"]<|rf K C:=JE T λj x F=>by
 iterate 21 (rcases j with _|j;cases F;refine⟨_,?_,by first|exact G0 T|exact yz T|exact G4 T|exact DI T|exact Ai T|exact Al T|exact z5 T|exact z7 T|exact z9 T|exact DB T|exact DE T z|exact Af T|exact sL T|exact Ap T|exact An T|exact Ar T|exact vq T|exact oQ T|exact GV T|exact Ac T|exact DN T⟩;decide)
 cases F
def C0:Cl:=⟨276,255,31,97,473,476,478,481,483,505,669,455⟩
end Pb
namespace Pb
open PySem PySem.W PyProof.Rows L2
def fA(K:Frag)(x:Str):Addr:=match nsIn K mainGlobals x with|some (some (.ref f))=>f|_=>0
def fI(K:Frag)(C:Addr):Addr:=match findIn K (.ref C) "__init__" with|some (some (.ref f))=>f|_=>0
def lk(K:Frag)(f:Addr)(x q:Str)(st:Stmt):Option Obj:=match K.lookup f with|some ⟨c,d,.func g,s⟩=>some ⟨c,d,.func<|fnOf x q (iK st) (fF st) (ai st) .none g.kwdefaults g.doc g.pyModule g.annotations g.code g.closureTuple,s⟩|_=>none
def cO(K:Frag)(f:Addr):Value:=match K.lookup f with|some ⟨_,_,.func g,_⟩=>g.code|_=>.none
theorem QZ{K:Frag}{f:Addr}{x q:Str}{st:Stmt}(e:K.lookup f=lk K f x q st)(c:codeIn K (cO K f) q=true):∃j z kV dc pm F ct I,K.lookup f=some ⟨j,z,.func<|fnOf x q (iK st) (fF st) (ai st) .none kV dc pm F (cO K f) ct,I⟩:=by
 unfold lk at e;unfold cO at c|-;split at e
 .rename_i J d g s h;rw[h]at e|-;exact⟨_,_,_,_,_,_,_,_,e⟩
 .rename_i h;split at c
  .rename_i h2;exact absurd h2<|h _ _ _ _
  .cases c
def pB{j z:Type}(f:j->z->Bool):List j->List z->Bool
 |[],[]=>true
 |x::xs,y::ys=>f x y&&pB f xs ys
 |_,_=>false
theorem Lb{j z:Type}{f:j->z->Bool}{R:j->z->Prop}(h:∀x y,f x y=true->R x y):∀{xs ys},pB f xs ys=true->Paired R xs ys
 |[],[],_=>.nil
 |x::xs,y::ys,e=>by unfold pB at e;rw[p0]at e;exact .cons (h _ _ e.1)<|Lb h e.2
 |[],_::_,e=>by cases e
 |_::_,[],e=>by cases e
def vB:V->Value->Bool
 |.int i,.int j _=>decide<|j=i
 |.str x,.str y _=>decide<|y=x
 |.ref a,.ref b=>decide<|b=a
 |_,_=>false
theorem abQ(v:V)(u:Value)(h:vB v u=true):RelV v u:=by
 unfold vB at h;split at h
 .exact⟨_,by rw[y1 h]⟩
 .exact⟨_,by rw[y1 h]⟩
 .exact congrArg _<|y1 h
 .cases h
def tB(K:Frag)(a:Addr)(xs:List V):Bool:=match K.lookup a with|some ⟨.type t,_,.seq s _,_⟩=>decide (t="tuple")&&decide (s.size<=100)&&pB vB xs s.toList|_=>false
theorem Lc{K:Frag}{a:Addr}{xs:List V}(h:tB K a xs=true):Fj K a xs:=by
 unfold tB at h;split at h
 .rename_i e;rw[p0,p0]at h;exact⟨_,_,_,e,congrArg _<|y1 h.1.1,rfl,sz<|y1 h.1.2,Lb abQ h.2⟩
 .cases h
def rs(K:Frag)(a:Addr):Bf:=match K.lookup a with|some ⟨_,_,.seq s _,_⟩=>s.toList.map (λ|.ref b=>b|_=>0)|_=>[]
theorem rgB{K:Frag}{a:Addr}{l:List<|Int×Int}(h:(tB K a ((rs K a).map .ref)&&pB (λp x=>tB K p [.int x.1,.int x.2]) (rs K a) l)=true):Fl K a l:=by rw[p0]at h;exact⟨_,Lc h.1,Lb (λ_ _=>Lc) h.2⟩
section
variable{K:Frag}{h:Heap}{mg:Be}(X:K.In h)(G:h.Ns mainGlobals mg)
include X G
def nB(K:Frag)(p:Addr)(x:Str):Bool:=match nsIn K mainGlobals x with|some (some (.ref q))=>decide<|q=p|_=>false
omit X G in
theorem abR{p:Addr}{x:Str}(e:nB K p x=true):nsIn K mainGlobals x=some (some (.ref p)):=by
 unfold nB at e;split at e
 .rename_i q h;rw[h,y1 e]
 .cases e
theorem dB{a:Addr}{l:Ba}(e:(tB K a ((rs K a).map .ref)&&pB (nB K) (rs K a) l)=true):Defs K mg a l:=by rw[p0]at e;exact⟨_,Lc e.1,Lb (λ_ _ r=>mg_of X G<|abR r) e.2⟩
theorem kI{x:Str}{i:Int}(e:(match nsIn K mainGlobals x with|some (some (.int j _))=>decide<|j=i|_=>false)=true):m9 mg x i:=by
 split at e
 .rename_i h;exact⟨_,by rw[mg_of X G h,y1 e]⟩
 .cases e
theorem kS{x z:Str}(e:(match nsIn K mainGlobals x with|some (some (.str j _))=>decide<|j=z|_=>false)=true):SD mg x z:=by
 split at e
 .rename_i h;exact⟨_,by rw[mg_of X G h,y1 e]⟩
 .cases e
theorem kF{x:Str}{st:Stmt}(e:(nsIn K mainGlobals x,K.lookup<|fA K x,codeIn K (cO K<|fA K x) x,keepIn K (.ref<|fA K x))=(some<|some (.ref<|fA K x),lk K (fA K x) x x st,true,true)):aG K mg x st:=by
 injection e with a e;injection e with l e;injection e with c k
 obtain⟨_,_,_,_,_,_,_,_,l⟩:=QZ l c;exact⟨_,_,OB l c k,mg_of X G a⟩
theorem kC{x q:Str}{C:Addr}{st:Stmt}(e:(nsIn K mainGlobals x,findIn K (.ref C) "__init__",isFn K (.ref<|fI K C),K.lookup<|fI K C,codeIn K (cO K<|fI K C) q,keepIn K (.ref<|fI K C),makesIn K C,keepIn K (.ref C))=(some<|some (.ref C),some<|some (.ref<|fI K C),true,lk K (fI K C) "__init__" q st,true,true,true,true)):tH K mg x q C st:=by
 injection e with n e;injection e with a e;injection e with i e;injection e with l e;injection e with c e;injection e with k e;injection e with m p
 obtain⟨_,_,_,_,_,_,_,_,l⟩:=QZ l c;exact⟨_,_,OB l c k,⟨m,a,i,p⟩,mg_of X G n⟩
theorem kNr{x:Str}{st:Stmt}{f c:Addr}{t:Tab}(e:(nsIn K mainGlobals x,K.lookup f,codeIn K (cO K f) x,keepIn K (.ref f),cO K f)=(some<|some (.ref f),lk K f x x st,true,true,.ref c))(L:Ta K mg c t)(q:t.qual=(envOfC x (ai st) 0 0 .none).qual++"<lambda>"):Tc K mg x st t:=by
 injection e with a e;injection e with l e;injection e with v e;injection e with k r
 obtain⟨_,_,_,_,_,_,_,_,l⟩:=QZ l v;rw[r]at l v;exact⟨f,c,_,_,_,_,_,_,_,_,l,v,k,mg_of X G a,L,q⟩
end
end Pb
open PySem PySem.W PyProof.Rows L2 Pb
theorem Yt(w:World){mg:Be}{h:Heap}(X:(Yk w.params).In h)(G:h.Ns mainGlobals mg):Txt (Yk w.params) mg C0:=by
 constructor
 case oZ=>exact kNr X G (f:=460) (c:=459) (by kernel_rfl) ⟨by kernel_rfl⟩ rfl
 all_goals first|(unfold eD;kernel_rfl)|exact kF X G (by kernel_rfl)|exact kI X G (by kernel_rfl)|exact kS X G (by kernel_rfl)|exact kC X G (by kernel_rfl)|exact rgB (by kernel_rfl)|exact dB X G (by kernel_rfl)|exact Lc (by kernel_rfl)|exact⟨by kernel_rfl,by kernel_rfl,by kernel_rfl,by kernel_rfl⟩|exact mg_none_of X G (by kernel_rfl)|exact mg_of X G (by kernel_rfl)
theorem Yz:PySem.Challenge.rw_paperbank_s01_answers.Holds:=by
 refine holds_os (q:=Yo.view_1) (loose:=["HANDLERS"]) (Xt:=λs=>xlAt Yo.view_1 [] s&&recOk [] s) (XP:=XL Yo.view_1 []) (Yf:=(kHook Yk Ym Yh).obs) (Ya:=(kHook Yk Ym Yh).val) (YP:=(kHook Yk Ym Yh).says) (N:=7862) (LeftO.of_pieces (boot_open Yo._proof_4 (by decide) Yo._proof_5) Yo._proof_707 Yo._proof_705 (by decide) λw=>funext λos=>?_) (Hook.of _) (Hook.keeps _) (λs e=>xl_of s (X9.mp e).1) XL.keeps rfl rfl rfl (λs e=>recFacts_of (X9.mp e).2) os_shapes Ys Yo._proof_2 ⟨rfl,rfl,rfl,rfl,rfl,Yo._proof_3⟩ ⟨[.list []],by decide+kernel,by decide+kernel⟩ ?_
 .have h:=Yo._proof_738 w os;injection h with a h
  injection h with b _
  exact congr (congrArg _ a)<|congr (congrArg _ b)<|Yj w
 refine P0 (r:=PySem.Challenge.rw_paperbank_s01_answers) (k:=11) (ps:=["calls"]) (sp:=λK=>rf K C0) (xN:="nearest") (c:=459) (t:=⟨455,"nearest.<locals>.<lambda>"⟩) Ys rfl rfl ⟨rfl,by decide,by decide⟩ (λw h Y=>kIn_of Y) (by decide+kernel) (λw=>by kernel_rfl) (λw=>by kernel_rfl) (λw mg J h Y X G j base I=>?_) ?_
 .obtain⟨f,fd,M,_,S,F⟩:=(XJ (w:=w) (base:=base) (Yt w X G) I).ex;have j:mg "answers"=some (.ref J):=j;rw[M]at j;cases j;exact⟨fd,S,F⟩
 intro K H0 H xs a U W Z z hx;cases hx with
 |cons h1 h2=>
  cases h2;cases h1 with
  |lst hs ha=>have e:=KD a.1 _ ha;subst e;exact⟨_,a.1,rfl,U.seq hs,z,W,λH' r _ hp=>.lst (az.of hp)<|KC _⟩
theorem PySem.Challenge.cw_paperbank_s01_answers_holds : PySem.Challenge.rw_paperbank_s01_answers.Holds :=
  Yz
